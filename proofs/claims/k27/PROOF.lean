import PyProof.Rows.All
import Wide.All
import OpenK.AllK
import Wide.FinOn
import HandS.ForMost
import HandS.ForExc
import HandS.EndBits
import HandS.Wide
import HandS.IsInst
import HandS.ExcInit
import HandS.Nested
import KE.KExcSuper
import HandS.ExcIs
import HandS.ExcField
import HandS.Gcd
import HandS.Rev
import HandS.Walk
import HandS.Style
import HandS.FStr
import HandS.TryOnly
import KE.GoesEnumKw
import HandS.Text
import HandS.SortInts
import HandS.More
import HandS.Deep
import HandS.StrMore
import HandS.TryMany
import KE.SortData
import KE.SortKeyHeap
import HandS.RevRange
import HandS.Lambda
import HandS.EndTab
import PyProof.Rows.TupSub
import HandS.SortKw
import KE.KDictKeyed
import KE.KSortKey
import PySem.Challenge.RW_samphire_k27_merges_of_optimal_samples
set_option Elab.async false
set_option linter.all false
set_option maxRecDepth 100000

set_option exponentiation.threshold 100000
/-! ### an own exception whose __init__ begins with super().__init__(..) -/
namespace Sup
open PySem PySem.Spec PyProof.Rows L2 NdefX
/-- what the written part says of such a class (at C), of its __init__ (at f; its code at c, its cell of the class at cc) -/
structure SupC (P : Program) (K : PySem.W.Frag) (mg : Str → Option Value) (C f c cc : Addr) : Prop where
  T : OexC K C
  cd : ∃ cd, PySem.W.clsIn K C = some cd
  code : ∃ occ cdd vs sl file tf, K.lookup c = some ⟨occ, cdd, .fields vs, sl⟩ ∧ vs[2]? = some (.str file tf) ∧ ((P.main.file : Str) == file) = true
  cell : ∃ cl cld sl, K.lookup cc = some ⟨cl, cld, .cell (some (.ref C)), sl⟩
  sub : PySem.W.mroIn K C (.ref C) = some true
  subV : PySem.W.subIn K (.ref C) (.type "ValueError") = some true
  zs : mg "super" = none
  any : PySem.W.nsIn K PySem.cStatics "thirdparty.any" = some none
  sup : PySem.W.ks_superIn K C C "__init__" = some (some (.builtin "ValueError.__init__"))
  top : (P.main.scope.names.lookup ("super" : Str)).isSome = false
section
variable {CX : CXT} {P : Program} {w : World} {K : PySem.W.Frag} {mg : Str → Option Value} {base : Heap} {N ps : List Str} {F : NF} {f C cc : Addr} {k : Nat} {sp : Sp}
/-- the body's first statement -/
abbrev supSt (arg : Expr) (p0 p1 p2 p3 p4 : Pos) : Stmt := .Expr (.Call (.Attribute (.Call (.Name "super" p0) [] [] p1) "__init__" p2) [arg] [] p3) p4
theorem callW {M : Model} {A : Around} {E : Value → Shared → Prop} {s : Shared} {i : String} {u x : Addr} {pos : Pos} {env : Env} {e : Expr} {Q : Value → Shared → Prop} (he : starEach [e] env = (false, eval e env) :: starEach [] env)
    (h : wpAny M A (spliced (backTo pos (starEach [e] env))) (fun vs s₁ => PySem.W.KxsAt i u x s₁.heap ∧ wpAny M A (call (.ref u) vs) Q E s₁) E s) : wpAny M A (callWith pos (.ref u) [] (backTo pos (starEach [e] env)) []) Q E s := by
  rw [he] at h ⊢
  refine PySem.W.kxs_callWith (i := i) (x := x) rfl ?_
  exact PySem.Calls.evalArgs_plain h
theorem fn_super {oc : Value} {od : Option Addr} {osl : Array (Option Value)} {doc pm ctv : Value} {arg : Expr} {rest : List Stmt} {p0 p1 p2 p3 p4 : Pos} {p : Str} {ps' : List Str}
    (T : SupC P K mg C f F.c cc) (lk : K.lookup f = some ⟨oc, od, .func (F.fd doc pm ctv), osl⟩) (hcl : F.cl = [(("__class__" : Str), cc)]) (hcd : PySem.W.codeIn K (.ref F.c) F.qual = true) (S : NScope N ps ["__class__"] F.scope) (hps : ps = p :: ps')
    (hpar : ∃ ar, (F.params.posonlyargs ++ F.params.args).head? = some ar ∧ ar.arg = p) (hsu : F.scope.names.lookup ("super" : Str) = some .globalImplicit) (hbd : F.body = supSt arg p0 p1 p2 p3 p4 :: rest)
    (hsw : ∀ L : Addr, swapsWith (.Call (.Attribute (.Call (.Name "super" p0) [] [] p1) "__init__" p2) [arg] [] p3) none p4.line (envF F f L) = pure false)
    (hev : ∀ L : Addr, ∃ pl, eval (.Call (.Attribute (.Call (.Name "super" p0) [] [] p1) "__init__" p2) [arg] [] p3) (envF F f L) = (do
        let ov ← attributeBase (.Call (.Name "super" p0) [] [] p1) "__init__" (envF F f L) (eval (.Call (.Name "super" p0) [] [] p1) (envF F f L))
        standAt p2.atName
        let (f', first) ← holding [ov] (getMethod ov "__init__" pl)
        callWith p3 f' first (backTo p3 (starEach [arg] (envF F f L))) []))
    (hst : ∀ L : Addr, starEach [arg] (envF F f L) = (false, eval arg (envF F f L)) :: starEach [] (envF F f L))
    (len : ∀ vs H Q E, sp vs H Q E → vs.length = ps.length)
    (hbody : ∀ (A : Around) (outer : List Env) (s : Shared) (H : Hp) (vs : List V) (Q : VK) (E : XK), Room k (A.deeper (envF F f s.heap.objs.size)) → sp vs H Q E →
      ∃ a vs' ta t, vs = .ref a :: vs' ∧ H a = some (exo a C none) ∧ PA (ncx CX P w K mg base N F f A outer s H E) [arg] ta ∧ PSs (ncx CX P w K mg base N F f A outer s H E) rest t ∧
        ta (startF N vs [none]) H (fun ws H1 => ws.length ≤ 1000 ∧ H1 a = some (exo a C none) ∧ t { nx := fun _ H' => Q .non H', rt := Q } (startF N vs [none]) H1)) :
    FnOk P w K mg base CX (k + 1) f (F.fd doc pm ctv) ps sp := by
  refine ⟨len, fun A outer s H args us vs Q E hr e0 hb r hsp => ?_⟩
  have KX : K.In s.heap := e0.mod.kin.keeps fun b o e => (e0.bs b o e).1
  have hl := len _ _ _ _ hsp
  have lim : s.heap.NoLimit := e0.mod.nolimit.keeps fun b o e => (e0.bs b o e).1
  refine codeAny_call_function hr.depth (KX _ _ lk) rfl S.co S.gen rfl (PySem.W.codeRec_of KX hcd) (hb _ _ _ _ ?_)
  refine wpAny_newFunctionEnv S.nocell (fun ⟨n, _⟩ hy => S.par n (List.of_mem_zip hy).1) (fun h₁ hns hsb => ⟨lim.fresh _ hsb, ?_⟩) S.kind
  show codeAny _ _ (.func F.body (envF F f s.heap.objs.size)) _ _
  refine PySem.ks_codeAny_funcAt ?_
  have kp : ∀ b o, s.heap.get? b = some o → h₁.get? b = some o := fun b o e => hsb.extBut b o (Nat.ne_of_lt (Heap.lt_size e)) (Heap.get?_push_of_some _ e)
  obtain ⟨a, vs', ta, t, hvs, ha, hta, ht, hq⟩ := hbody A outer s H vs Q E (hr.deeper _) hsp
  obtain ⟨cl, cld, csl, hcell⟩ := T.cell
  have hbc : base.get? cc = some ⟨cl, cld, .cell (some (.ref C)), csl⟩ := e0.mod.kin _ _ hcell
  have hlook : ∀ {y : Str} {c : Addr}, F.cl.lookup y = some c → y = "__class__" ∧ c = cc := fun {y c} e => by
    rw [hcl] at e
    by_cases hy : y = "__class__"
    · subst hy
      rw [show List.lookup ("__class__" : Str) [(("__class__" : Str), cc)] = some cc by simp [List.lookup]] at e
      exact ⟨rfl, (Option.some.inj e).symm⟩
    · have hb : (y == ("__class__" : Str)) = false := by simpa using hy
      rw [show List.lookup y [(("__class__" : Str), cc)] = none by simp [List.lookup, hb]] at e
      cases e
  have hlk : F.cl.lookup ("__class__" : Str) = some cc := by rw [hcl]; simp [List.lookup]
  have CA : CellsAt F.cl ["__class__"] [none] s.heap H := {
    len := rfl
    all := fun y c e => by
      obtain ⟨_, rfl⟩ := hlook e
      exact ⟨(e0.bs _ _ hbc).2, _, ⟨_, (e0.bs _ _ hbc).1, rfl⟩⟩
    inj := fun x y c e1 e2 => (hlook e1).1.trans (hlook e2).1.symm
    has := fun i y e => by
      match i, e with
      | 0, e =>
        have ey : ("__class__" : Str) = y := Option.some.inj e
        subst ey
        exact ⟨cc, hlk, fun v hv => by simp at hv⟩ }
  have I : Inv (ncx CX P w K mg base N F f A outer s H E) [] (startF N vs [none]) H { s with heap := h₁, toks := s.toks + (ps.zip us).length } := inv_startN S hr.hd e0 hl r CA hns kp
  have kI : K.In h₁ := KX.keeps kp
  have hN0 : N[0]? = some p := by
    have q := S.pre
    rw [hps] at q
    have z : (N.take ((p :: ps').length + 1))[0]? = some p := by
      have z := congrArg (fun l : List Str => l[0]?) q
      exact z
    rw [List.getElem?_take_of_lt (by simp)] at z
    exact z
  have hs0 : (startF N vs [none])[0]? = some (some (.ref a)) := by rw [hvs]; rfl
  have hploc : F.scope.names.lookup p = some .local := S.par p (by rw [hps]; exact List.mem_cons_self)
  obtain ⟨m, hnm, hlm⟩ := id I.loc
  obtain ⟨u0, ru0, hu0⟩ := hlm 0 p (.ref a) hN0 hs0 (.inl hploc)
  have eu0 : u0 = Value.ref a := ru0
  subst eu0
  have hself : m p = some (.ref a) := by
    rcases hu0 with ⟨_, z⟩ | ⟨z, _⟩
    · exact z
    · have z' : F.scope.names.lookup p = some .cell ∨ F.scope.names.lookup p = some .free := z
      rw [hploc] at z'
      rcases z' with z' | z' <;> cases z'
  obtain ⟨occ, cdd, cvs, csl2, file, tf, hcode, hvs2, hfile⟩ := T.code
  obtain ⟨cdD, hcdD⟩ := T.cd
  have hD : ∃ oD, h₁.get? C = some oD ∧ oD.data = .cls cdD := by
    have hD := hcdD
    unfold PySem.W.clsIn at hD
    split at hD
    · rename_i c d cd' sl ho
      cases hD
      exact ⟨_, kI _ _ ho, rfl⟩
    · cases hD
  obtain ⟨oD, hD1, hD2⟩ := hD
  obtain ⟨nm, q, N', bs, bm, sn, sub, ab, col, dd, k0, k1, k2, k3, k5, hC, hbm⟩ := T.T.cls
  obtain ⟨ar, har1, har2⟩ := hpar
  have hkc : F.scope.names.lookup ("__class__" : Str) = some .free := S.frk _ (by simp)
  obtain ⟨mb, hb1, hb2⟩ := I.mod.blt
  rw [hbd]
  obtain ⟨pl, he⟩ := hev s.heap.objs.size
  refine PySem.ks_wpAt_execs_cons (PySem.ks_wpAt_Expr_any (PySem.ks_wpAt_MethodCall (pl := pl) (PySem.ks_wpAt_super_base (fd := F.fd doc pm ctv) hsu hkc (by decide) rfl (kI _ _ lk) rfl har1 rfl (kI _ _ hcode) rfl hvs2 hfile T.top ?_) he) I.quiet (hsw _))
  -- the names
  refine PySem.W.ks_loadName_global S.kind hsu (Calls.loadGlobal_builtin (by exact I.mod.glob.keeps I.bk) T.zs (by exact hb1.keeps I.bk) ((hb2 _ (by decide)).trans (by decide +kernel)) ⟨rfl, ?_⟩)
  refine wpAny_loadName_free S.kind hkc hlk ⟨_, kI _ _ hcell, rfl⟩ ?_
  refine wpAny_loadName_local S.kind (by rw [har2]; exact hploc) hnm (by rw [har2]; exact hself) ?_
  refine PySem.ks_wpAny_isType_cls hD1 hD2 ⟨rfl, ?_⟩
  obtain ⟨t1, hox⟩ := exo_at I.hok ha
  refine PySem.ks_wpAny_call_super hD1 hD2 hox rfl (fun c e => by cases e) (PySem.W.looks_mroIn kI T.sub) (fun h' hso k' => ?_)
  have I2 : Inv (ncx CX P w K mg base N F f A outer s H E) [] (startF N vs [none]) H { s with heap := h', toks := s.toks + (ps.zip us).length } := I.kept (t' := s.toks + (ps.zip us).length) k'
  have kI2 : K.In h' := kI.keeps k'
  have hox2 : h'.get? a = some ({ cls := .ref C, dict := none, data := .fields #[.ref t1, .none, .none, .none, .bool false, .none] } : Obj) := k' _ _ hox
  have IA : PySem.W.InstAt h' a ({ cls := .ref C, dict := none, data := .fields #[.ref t1, .none, .none, .none, .bool false, .none] } : Obj) C none := ⟨hox2, rfl, rfl, trivial⟩
  have hal : PySem.W.alongIn K "__init__" ((cdD.mro.dropWhile (· != .ref C)).drop 1) = some (some (.builtin "ValueError.__init__")) := by
    have z := T.sup
    unfold PySem.W.ks_superIn at z
    rw [hcdD] at z
    exact z
  refine PySem.W.kxs_getMethod PySem.W.kxs_ValueError hso (PySem.W.looks_opaque kI2 T.any) (l₀ := cdD.mro) (fun A Q E s k q => wpAny_bind ((PySem.W.looks_clsIn kI2 hcdD) A _ E s k (wpAny_pure q))) rfl kI2 hal (IA.type.andThen (PySem.W.looks_subIn kI2 T.subV)) (PySem.W.ks_ne kI2 IA hcdD) (by decide) ?_
  -- the bound __init__ at u
  have ku : ∀ b o, h'.get? b = some o → (h'.push (PySem.W.kxs_mw "ValueError.__init__" a)).get? b = some o := fun b o e => Heap.get?_push_of_some _ e
  have I3 : Inv (ncx CX P w K mg base N F f A outer s H E) [] (startF N vs [none]) H { s with heap := h'.push (PySem.W.kxs_mw "ValueError.__init__" a), toks := s.toks + (ps.zip us).length + 1 } := I2.kept (t' := s.toks + (ps.zip us).length + 1) ku
  have hu : (h'.push (PySem.W.kxs_mw "ValueError.__init__" a)).get? h'.objs.size = some (PySem.W.kxs_mw "ValueError.__init__" a) := Heap.get?_push_at rfl rfl
  have I4 : Inv (ncx CX P w K mg base N F f A outer s H E) [(h'.objs.size, PySem.W.kxs_mw "ValueError.__init__" a)] (startF N vs [none]) H { s with heap := h'.push (PySem.W.kxs_mw "ValueError.__init__" a), toks := s.toks + (ps.zip us).length + 1 } := I3.pins_of fun p hp => by
    have hp1 := List.mem_singleton.mp hp
    subst hp1
    exact ⟨hu, I2.hok.fresh (Nat.le_refl _), fun z => absurd (z ▸ I2.lt) (Nat.lt_irrefl _), I2.nofs (Nat.le_refl _), fun v z => by cases z⟩
  refine callW (i := "ValueError.__init__") (x := a) (hst _) ?_
  refine thn (hta.run p3 _ _ _ H _ I4 hq) fun ws' s5 ⟨ws, H5, I5, r5, hlen, ha5, ht5⟩ => ?_
  have hu5 : s5.heap.get? h'.objs.size = some (PySem.W.kxs_mw "ValueError.__init__" a) := (I5.pin _ (List.mem_append_right _ (List.mem_singleton.mpr rfl))).1
  refine ⟨hu5, ?_⟩
  obtain ⟨t5, hox5⟩ := exo_at I5.hok ha5
  have hws : ws'.length ≤ sizeLine := by
    rw [← Paired.length r5, sizeLine_eq]
    omega
  have I6 : Inv (ncx CX P w K mg base N F f A outer s H E) [] (startF N vs [none]) H5 s5 := I5.pins_of fun p hp => absurd hp (by simp)
  obtain ⟨h5, g5, d5, k5', os5⟩ := s5
  have hC5 := I5.kIn _ _ hC
  show wpAny _ _ (call (.ref h'.objs.size) ws') _ _ _
  refine wpAny_call (codeAny_of_tree ?_)
  show wpAny _ _ (callAny (.ref h'.objs.size) ⟨ws', []⟩) _ _ _
  simp only [callAny]
  refine wpAny_bind (wpAny_load hu5 ?_)
  simp only [PySem.W.kxs_mw, show (Value.type "method-wrapper" == Value.type "method" || Value.type "method-wrapper" == Value.type "builtin_function_or_method" || Value.type "method-wrapper" == Value.type "method-wrapper") = true by decide, if_true]
  refine PySem.W.KFB.if_so (by decide) ?_
  refine wpAny_bind (PySem.W.check_bound_init PySem.F.excBase_ValueError.toExcCallFacts hC5 hox5 rfl ?_)
  refine wpAny_bind (wpAny_pure (wpAny_pure ?_))
  refine ⟨plainId_quiet PySem.F.excBase_ValueError.init.plain _, codeAny_builtin PySem.F.excBase_ValueError.initEntry ?_⟩
  refine PySem.W.exc_init_tree (cls := .ref C) (t0 := t5) (dv := none) (c2 := .none) (c3 := .none) (b4 := .bool false) hox5 hws (fun h6 k6 e6 _ => ?_)
  have J := I6.write (t' := k5') (x := a) (e := a) (o := exo a C none) (by rw [ha5]; exact True.intro) (.inl rfl) k6 ⟨_, e6⟩ (exo_ok e6)
  have eu : upd H5 a (exo a C none) = H5 := by
    funext b
    by_cases hb : b = a
    · rw [hb, upd_same, ha5]
    · rw [upd_ne hb]
  rw [eu] at J
  refine PySem.wpAt_of_wpAny (wpAny_mono (ht.run [] _ (startF N vs [none]) H5 _ J ht5) (fun fl s' hs => ?_) fun e s' hs => hs)
  have fin : ∀ {σ' : L2.St} {H' : Hp} {v : V} {u : Value}, Inv (ncx CX P w K mg base N F f A outer s H E) [] σ' H' s' → L2.RelV v u → Q v H' → CE outer P w H s Q u s' :=
    fun {σ' H' v u} J rv q => ⟨v, H', J.os, J.bare, J.base, J.hok, rv, q⟩
  cases fl with
  | ret u =>
    obtain ⟨v, σ', H', J, rv, q⟩ := hs
    exact fin J rv q
  | next =>
    obtain ⟨σ', H', J, q⟩ := hs
    exact fin (v := V.non) (u := Value.none) J rfl q
  | brk =>
    obtain ⟨_, _, _, q⟩ := hs
    exact False.elim q
  | cont =>
    obtain ⟨_, _, _, q⟩ := hs
    exact False.elim q
end
/-! ### an exception without fields, made -/
section
variable {X : Cx}
theorem mk_endN {pins : List (Addr × Obj)} {σ : L2.St} {H1 H2 : Hp} {Q : XK} {hp hp2 h2 : Heap} {g1 g2 : Array GenState} {d1 d2 : Drawn} {t1 t2 : Nat} {os1 os2 : OsState} {a C : Addr} (T : Raises X (.ref C)) (I1 : Inv X pins σ H1 ⟨hp, g1, d1, t1, os1⟩)
    (ha : hp.objs.size ≤ a) (k : ∀ b o, hp.get? b = some o → hp2.get? b = some o) (un : Un (frs X.stack) [] (upd H1 a (exo a C none)) H2 hp2 h2) (hok : HOk X.prog X.w H2 h2) (ho : os2 = os1) (hb : AllBare g2)
    (ea : H2 a = some (exo a C none)) (q : Q (.ref C) none (del H2 a)) : MkP X pins σ Q (.ref a) ⟨h2, g2, d2, t2, os2⟩ := by
  obtain ⟨t0, hoe⟩ := exo_at hok ea
  have hn : H1 a = none := I1.hok.fresh ha
  obtain ⟨G, g1', g2'⟩ := restrict h2 fun b => decide (b ≠ a)
  have gk : ∀ b, b ≠ a → G.get? b = h2.get? b := fun b hb => g1' b (decide_eq_true hb)
  have ge : G.get? a = none := g2' a (by simp)
  have nha : ∀ {b : Addr} {o : Obj}, hp.get? b = some o → b ≠ a := fun {b o} z => Nat.ne_of_lt (Nat.lt_of_lt_of_le (Heap.lt_size z) ha)
  have up : ∀ {b : Addr}, b ≠ a → H1 b = none → upd H1 a (exo a C none) b = none := fun {b} hb n => by rw [upd_ne hb]; exact n
  have U : Un (frs X.stack) [] H1 (del H2 a) hp G := {
    keep := fun b o z n hf hx => by
      rw [gk b (nha z)]
      exact un.keep b o (k b o z) (up (nha z) n) hf hx
    slot := fun b o z n hf hx => by
      rw [gk b (nha z)]
      exact un.slot b o (k b o z) (up (nha z) n) hf hx
    free := fun b o z n hx => by
      rw [del_ne (nha z)]
      exact un.free b o (k b o z) (up (nha z) n) hx
    there := fun b o z hx => by
      rw [gk b (nha z)]
      exact un.there b o (k b o z) hx
    tups := fun b xs z => by
      rw [del_ne (ne_of_none z hn)]
      exact un.tups b xs (by rw [upd_ne (ne_of_none z hn)]; exact z)
    frzs := fun b o v z => by
      rw [del_ne (ne_of_none z hn)]
      exact un.frzs b o v (by rw [upd_ne (ne_of_none z hn)]; exact z)
    tbls := fun b ps z => by
      rw [del_ne (ne_of_none z hn)]
      exact un.tbls b ps (by rw [upd_ne (ne_of_none z hn)]; exact z) }
  have hok3 : HOk X.prog X.w (del H2 a) G := fun b o z => by
    have hba : b ≠ a := fun e => by
      rw [e, del_same] at z
      cases z
    rw [del_ne hba] at z
    have noa : ∀ {c : Addr}, H2 c = some (.own b) → c ≠ a := fun {c} hc => at_ne ea hc exo_own
    exact (hok b o z).stay (fun c v hc y => by
        have hca : c ≠ a := by
          rcases hc with hc | hc
          · rw [hc]
            exact hba
          · exact noa hc
        rw [gk c hca]
        exact y)
      (fun c hc => by rw [del_ne (noa hc)]; exact hc) (fun c xs hc => by rw [del_ne (at_ne ea hc exo_tup)]; exact hc)
  have J : Inv X pins σ (del H2 a) ⟨G, g2, d2, t2, os2⟩ := I1.call' (ch := []) ho U hok3 hb (fun b z => absurd z (by simp))
  refine ⟨a, _, _, ⟨G, g2, d2, t2, os2⟩, _, .ref C, none, rfl, J, fun b o z => ?_, ge, hoe, ⟨rfl, rfl⟩, rfl, rfl, del_same, rfl, hb, T, q⟩
  by_cases hba : b = a
  · rw [hba, ge] at z
    cases z
  · exact (gk b hba).symm.trans z
/-- C(), C's own __init__ keeping sp and making no field -/
def tMkN (C : Addr) (sp : Sp) : L2.St → Hp → XK → Prop := fun _ H Q => ∀ a, H a = none → sp [.ref a] (upd H a (exo a C none)) (fun v H2 => v = .non ∧ H2 a = some (exo a C none) ∧ Q (.ref C) none (del H2 a)) (fun _ _ _ => False)
theorem pmk_oexN {CX : CXT} {x : Str} {C fI : Addr} {k : Nat} {fd : FuncData} {ps : List Str} {sp : Sp} {p pos : Pos} (T : OexC X.K C) (iC : PySem.W.findIn X.K (.ref C) "__init__" = some (some (.ref fI))) (tI : PySem.W.typeIn X.K (.ref fI) = some (.type "function"))
    (F1 : FnOk X.prog X.w X.K X.mg X.base CX k fI fd ps sp) (hr : Room (k + 1) X.A) (hb : Binds X.K fd ps []) (hx : Passes CX X (fun _ _ _ => False)) (hg : Gl X x) (hm : X.mg x = some (.ref C))
    (hdb : (x == ("__debug__" : Str)) = false := by decide) : PMk X (.Call (.Name x p) [] [] pos) (tMkN C sp) := by
  intro pins s σ H1 Q I1 q1
  obtain ⟨nm, q, N, bs, bm, sn, sub, ab, col, dd, k0, k1, k2, k3, k5, hC, hbm⟩ := T.cls
  refine wpAny_Call_Name_kw (ld_glob I1 hg hm ?_ hdb)
  refine PySem.W.callWith_K0 I1.kIn T.kC ?_
  show wpAny _ _ (call (.ref C) []) _ _ _
  obtain ⟨hp, g, dr, tk, os⟩ := s
  have hsz : hp.objs.size ≤ hp.objs.size + 1 := Nat.le_succ _
  have hn : H1 (hp.objs.size + 1) = none := I1.hok.fresh hsz
  have hq := q1 (hp.objs.size + 1) hn
  have kk : ∀ b o, hp.get? b = some o → ((hp.push (PySem.W.kdv_tup [])).push (PySem.HandSPX.excO C hp.objs.size)).get? b = some o := fun b o e => Heap.get?_push_of_some _ (Heap.get?_push_of_some _ e)
  have hget : ((hp.push (PySem.W.kdv_tup [])).push (PySem.HandSPX.excO C hp.objs.size)).get? (hp.objs.size + 1) = some (PySem.HandSPX.excO C hp.objs.size) := by heap_get
  have I2 : Inv X pins σ (upd H1 (hp.objs.size + 1) (exo (hp.objs.size + 1) C none)) ⟨(hp.push (PySem.W.kdv_tup [])).push (PySem.HandSPX.excO C hp.objs.size), g, dr, tk, os⟩ :=
    I1.laid (t' := tk) (a := hp.objs.size + 1) (o := exo (hp.objs.size + 1) C none) (h' := (hp.push (PySem.W.kdv_tup [])).push (PySem.HandSPX.excO C hp.objs.size)) kk hsz (exo_ok hget)
  have r2 : Vals [V.ref (hp.objs.size + 1)] [Value.ref (hp.objs.size + 1)] := .cons rfl .nil
  have hl : ([Value.ref (hp.objs.size + 1)] ++ []).length = ps.length := by
    have e := r2.length
    rw [F1.len _ _ _ _ hq] at e
    exact e.symm
  refine wpAny_call (PySem.HandSPX.call_own PySem.F.excBase_ValueError (fun Y => PySem.HandSPX.refsVE_contains Y bm hbm) (I1.kIn _ _ hC) (PySem.W.looks_findIn I1.kIn iC) (fun self => PySem.W.bind_fn I1.kIn self tI) (Nat.zero_le _)
    (codeAny_mono (F1.run _ X.stack _ _ ⟨[Value.ref (hp.objs.size + 1)], []⟩ [Value.ref (hp.objs.size + 1)] _ _ (fun _ _ _ => False) (hr.make C [] []) (I2.env0.make C [] []) (hb _ [Value.ref (hp.objs.size + 1)] I2.kIn hl) r2 hq) fun r s' hq' => ?_))
  cases r with
  | error er => exact hx pins σ _ _ er s' I2 hq'
  | ok fl =>
    cases fl with
    | ret u =>
      obtain ⟨v, H2, os2, bare2, un2, hok2, rv, ev, ea, q2⟩ := hq'
      subst ev
      obtain ⟨h2, g2, d2, t2, os'⟩ := s'
      exact ⟨rv, mk_endN (raises_own T.exC T.tyC) I1 hsz kk un2 hok2 os2 bare2 ea q2⟩
    | next => exact False.elim hq'
    | brk => exact False.elim hq'
    | cont => exact False.elim hq'
end
/-! ### a call of a local name that holds a def, which may raise -/
section
variable {X : Cx} {CX : CXT} {k i : Nat} {f : Addr} {fd : FuncData} {ps : List Str} {sp : Sp} {E : L2.St → XK} {x : Str} {p pos : Pos} {e : Expr} {es : List Expr} {t : TA}
def tCallLS (i : Nat) (f : Addr) (sp : Sp) (E : L2.St → XK) (t : TA) : TE := fun σ H Q => σ[i]? = some (some (.ref f)) ∧ t σ H fun vs H1 => sp vs H1 Q (E σ)
theorem pe_callLS (F : FnOk X.prog X.w X.K X.mg X.base CX k f fd ps sp) (hr : Room k X.A) (hN : X.N[i]? = some x) (hv : Vis X.env.scope x) (hk : PySem.W.keepIn X.K (.ref f) = true) (hb : Binds X.K fd ps []) (hx : ∀ σ, PassesAt CX X σ (E σ)) (ha : PA X (e :: es) t)
    (hdb : (x == ("__debug__" : Str)) = false := by decide) (hcd : (x == ("__classdict__" : Str)) = false := by decide)
    (he : starEach (e :: es) X.env = (false, eval e X.env) :: starEach es X.env := by rfl) (hpl : (backTo pos (starEach es X.env)).any (·.1) = false := by rfl) : PE X (.Call (.Name x p) (e :: es) [] pos) (tCallLS i f sp E t) := by
  refine ⟨fun pins s σ H Q I h => ?_⟩
  obtain ⟨hs, ht⟩ := h
  refine wpAny_Call_Name_kw (thn ((pe_var (pos := p) hN hv hdb hcd).run pins s σ H (fun v H1 => v = .ref f ∧ H1 = H) I ⟨.ref f, hs, rfl, rfl⟩) fun u s1 ⟨v, H1, I1, r1, q1⟩ => ?_)
  obtain ⟨rfl, rfl⟩ := q1
  cases r1
  refine PySem.W.callWith_K (h₀ := X.base) I.ok.mod.kin hk (thn (ha.run pos pins s1 σ _ _ I1 ht) fun us s2 ⟨vs, H2, I2, r, q⟩ => ⟨I2.kIn, ?_⟩) he hpl
  exact run_fnS F hr hb (hx σ) I2 r q
end
/-! ### isinstance of a caught error of an own class without fields -/
def rIsX (K : PySem.W.Frag) (a : Addr) (cls : Value) (d : Option Addr) : List V → Hp → VK → Prop := fun xs H Q => ∃ (D : Addr) (c : V) (cv : Value) (b : Bool), cls = .ref D ∧ d = none ∧ ExcC K D ∧ xs = [.ref a, c] ∧ (∀ u, L2.RelV c u → u = cv) ∧ PySem.W.kitOne K (.ref D) cv = some b ∧ Q (.bl b) H
theorem call_isX {X : Cx} {a : Addr} {oe : Obj} {cls : Value} {d : Option Addr} {pn : List (Addr × Obj)} (hz : Zc cls d oe) (hf : ∃ vs, oe.data = .fields vs) : CallR (X.suite a ((a, oe) :: pn)) (.builtin "isinstance") (rIsX X.K a cls d) := by
  intro pins s σ H xs us Q I r h
  obtain ⟨D, c, cv, b, rfl, rfl, C, rfl, hc, e, q⟩ := h
  exact call_isE C hz hf pins s σ H [.ref a, c] us Q I r ⟨c, cv, b, rfl, hc, e, q⟩
/-! ### what a law's text says of an own exception -/
/-- ExcT C f c cc: the class at C over SamphireError .. over ValueError, with its own __init__ at f -/
structure ExcT (P : Program) (K : PySem.W.Frag) (mg : Str → Option Value) (name : Str) (C f c cc : Addr) : Prop where
  S : SupC P K mg C f c cc
  g : mg name = some (.ref C)
  iC : PySem.W.findIn K (.ref C) "__init__" = some (some (.ref f))
  tI : PySem.W.typeIn K (.ref f) = some (.type "function")
  is : ExcC K C
  te : PySem.W.exmOne K (.ref C) (.ref C) = some true
theorem ExcT.xf {P : Program} {K : PySem.W.Frag} {mg : Str → Option Value} {name : Str} {C f c cc : Addr} (T : ExcT P K mg name C f c cc) : XfC K C := ⟨T.is.hg, T.is.hk, T.is.hs, T.is.hd⟩
/-- the file that a code object tells -/
def flIs (cvs : List Value) (f : Str) : Bool := match cvs with | _ :: _ :: .str file _ :: _ => f == file | _ => false
/-- what k_is finds, put together -/
theorem excT_mk {P : Program} {K : PySem.W.Frag} {mg : Str → Option Value} {name : Str} {C f c cc : Addr} {nm q : Str} {N : Addr} {bs bm : List Value} {sn : List Str} {sub : List Value} {ab : Bool} {col : Option Bool} {dd : Option Addr} {m0 m1 m2 m3 m5 : Option Value}
    {occ : Value} {cdd : Option Addr} {cvs : List Value} {csl : Array (Option Value)} {ccl : Value} {ccd : Option Addr} {ccs : Array (Option Value)}
    (xL : K.lookup C = some (excClassObj nm q C N bs bm true sn sub ab col dd m0 m1 m2 m3 m5 "ValueError.__new__")) (rv : PySem.HandSPX.refsVE bm = true)
    (sa : PySem.W.findIn K (.ref C) "__setattr__" = some (some (.builtin "object.__setattr__"))) (sB : PySem.W.subIn K (.ref C) (.type "BaseException") = some true) (tC : PySem.W.typeIn K (.ref C) = some (.type "type")) (kC : PySem.W.keepIn K (.ref C) = true)
    (code : K.lookup c = some ⟨occ, cdd, .fields cvs.toArray, csl⟩) (hfile : flIs cvs P.main.file = true)
    (cell : K.lookup cc = some ⟨ccl, ccd, .cell (some (.ref C)), ccs⟩) (mro : PySem.W.mroIn K C (.ref C) = some true) (sV : PySem.W.subIn K (.ref C) (.type "ValueError") = some true) (zs : mg "super" = none)
    (any : PySem.W.nsIn K PySem.cStatics "thirdparty.any" = some none) (sup : PySem.W.ks_superIn K C C "__init__" = some (some (.builtin "ValueError.__init__"))) (top : (P.main.scope.names.lookup ("super" : Str)).isSome = false)
    (g : mg name = some (.ref C)) (iC : PySem.W.findIn K (.ref C) "__init__" = some (some (.ref f))) (tI : PySem.W.typeIn K (.ref f) = some (.type "function")) (is : ExcC K C) (isc : PySem.W.isClsIn K C = true) (sC : PySem.W.subIn K (.ref C) (.ref C) = some true) : ExcT P K mg name C f c cc where
  S := {
    T := ⟨⟨nm, q, N, bs, bm, sn, sub, ab, col, dd, m0, m1, m2, m3, m5, xL, rv⟩, sa, sB, tC, kC⟩
    cd := ⟨_, by unfold PySem.W.clsIn; rw [xL] <;> rfl⟩
    code := by
      match cvs, code, hfile with
      | a :: b :: .str file tf :: r, code, hfile => exact ⟨_, _, _, _, file, tf, code, rfl, hfile⟩
    cell := ⟨_, _, _, cell⟩
    sub := mro
    subV := sV
    zs := zs
    any := any
    sup := sup
    top := top }
  g := g
  iC := iC
  tI := tI
  is := is
  te := PySem.W.exm_ref sB is.hd tC sC
end Sup

/-! ### list(reversed(a list)) -/
namespace RL
open PySem PySem.Spec PyProof.Rows RT L2
section
variable {prog : Program} {w : World} {A : Around} {E : Value → Shared → Prop} {s : Shared}
theorem extend_rev {R : Result → Shared → Prop} {S it l : Addr} {items : Array Value} {res : Value} {c₀ : Nat} (hh : A.handled = none) (hit : s.heap.IsRevIter it l ((items.size : Int) - 1)) (hl : s.heap.IsList l items) (hne : l ≠ it) (hSi : S ≠ it) (hSl : S ≠ l) (hn : items.size ≤ sizeLine)
    (hS : s.heap.get? S = some { cls := .type "list", data := .seq #[] c₀ })
    (hR : ∀ s' acc' c', Moved (S :: [it]) (fun a b => b = a) s s' → s'.heap.get? S = some { cls := .type "list", dict := none, data := .seq acc' c', slots := #[] } → ItemsOf (fun i v => items[items.size - 1 - i]? = some v) acc' items.size → R (.ok (.ret res)) s') :
    wpAny (model prog w) A.in1 (Builtin.List.listExtendWith (.ref S) (.ref it) res)
      (fun fin s' => match fin with | .done f => R (.ok f) s' | .again c' => c'.quiet = true ∧ codeAny (model prog w) A c' R s') (fun e s' => R (.error e) s') s := by
  have W := (Walks.listRev (prog := prog) (w := w) (A := A.in1) hh it l hne items).toS
  have hSf : S ∉ [it, l] := by simp only [List.mem_cons, List.not_mem_nil, or_false, not_or]; exact ⟨hSi, hSl⟩
  have hT : s.TypeIs (.ref it) "list_reverseiterator" := Heap.IsRevIter.typeIs hit
  have h1 : Builtin.List.listSameRef (.ref S) (.ref it) = false := by simp [Builtin.List.listSameRef, hSi]
  unfold Builtin.List.listExtendWith
  refine wpAny_bind (wpAny_typeOf hT ?_)
  rw [if_neg (by rw [h1]; decide)]
  refine wpAny_bind (wpAny_pyIter_revIter hit ?_)
  refine wpAny_bind (wpAny_holding ?_)
  unfold Builtin.List.listLengthHint
  refine wpAny_bind (wpAny_specialOf hT nolen_lri ?_)
  show wpAny _ A.in1 (specialOf (Value.ref it) (Str.ofString "__length_hint__") >>= _) _ _ _
  refine wpAny_bind (wpAny_specialOf hT hint_lri ?_)
  generalize hid : ("list_reverseiterator.__length_hint__" : String) = id0
  wp_delta
  rw [show splitId id0 = some ("list_reverseiterator", "__length_hint__") from by subst hid; decide +kernel]
  subst hid
  refine wpAny_bind (wpAny_isInstance (b := true) hT (by rw [isSubtype_type]; kernel_rfl) ?_)
  refine wpAny_pure ?_
  rw [if_neg (by decide)]
  have e0 : ((items.size : Nat) : Int) - 1 - ((0 : Nat) : Int) = (items.size : Int) - 1 := by omega
  refine wpAny_pure ⟨plainId_quiet F.plain_extend_loop _, codeAny_extend_loopS W hn _ hSf _ items.size 0 _ _ _ rfl (Nat.zero_le _) ⟨Nat.zero_le _, by rw [e0]; exact hit, hl⟩ hS (ItemsOf.nil _) fun s' acc' c' hm hS' hacc => ?_⟩
  exact hR s' acc' c' hm hS' hacc
theorem init_rev {R : Result → Shared → Prop} {S it l : Addr} {items : Array Value} (hh : A.handled = none) (hit : s.heap.IsRevIter it l ((items.size : Int) - 1)) (hl : s.heap.IsList l items) (hne : l ≠ it) (hSi : S ≠ it) (hSl : S ≠ l) (hn : items.size ≤ sizeLine)
    (hS : s.heap.get? S = some { cls := .type "list", data := .seq #[] })
    (hR : ∀ (h' : Heap) (tk : Nat) (acc : Array Value) (c' : Nat), (∀ b o, b ≠ S → b ≠ it → s.heap.get? b = some o → h'.get? b = some o) → h'.get? S = some { cls := .type "list", dict := none, data := .seq acc c', slots := #[] } → ItemsOf (fun i v => items[items.size - 1 - i]? = some v) acc items.size → R (.ok (.ret .none)) { s with heap := h', toks := tk }) :
    wpAny (model prog w) A.in1 (Builtin.«list.__init__» ⟨[.ref S, .ref it], []⟩)
      (fun fin s' => match fin with | .done f => R (.ok f) s' | .again c' => c'.quiet = true ∧ codeAny (model prog w) A c' R s') (fun e s' => R (.error e) s') s := by
  show wpAny _ A.in1 (do let old ← Builtin.List.listItems (.ref S); Builtin.List.listUpdate (.ref S) (fun _ => #[]); letGo old.toList.reverse; Builtin.List.listExtendWith (.ref S) (.ref it) .none) _ _ s
  refine wpAny_bind ?_
  unfold Builtin.List.listItems
  refine wpAny_bind (wpAny_seqItems hS rfl (wpAny_pure ?_))
  show wpAny _ A.in1 (updateSeq S (fun _ => #[]) >>= fun _ => letGo (#[] : Array Value).toList.reverse >>= fun _ => Builtin.List.listExtendWith (.ref S) (.ref it) .none) _ _ s
  refine wpAny_bind (wpAny_updateSeq hS rfl ?_)
  have hS₂ := Heap.get?_update_self (Obj.mapSeq (fun _ => (#[] : Array Value))) hS rfl
  have oth : ∀ b o, b ≠ S → s.heap.get? b = some o → (s.heap.update S (Obj.mapSeq (fun _ => (#[] : Array Value)))).get? b = some o :=
    fun b o hb e => (Heap.get?_update_other _ _ (Ne.symm hb)).trans e
  refine wpAny_bind (wpAny_letGo ?_)
  refine extend_rev (s := { s with heap := s.heap.update S (Obj.mapSeq (fun _ => (#[] : Array Value))) }) hh (hit.at fun o e => oth it o hSi.symm e) (by obtain ⟨o, ho, x⟩ := hl; exact ⟨o, oth l o hSl.symm ho, x⟩) hne hSi hSl hn hS₂ fun s' acc' c' hm hS' hacc => ?_
  rw [Moved.eq_with hm]
  exact hR s'.heap s'.toks acc' c' (fun b o hb hb2 e => hm.heap b o (by simp [hb, hb2]) (oth b o hb e)) hS' hacc
theorem call_list_rev {it l : Addr} {items : Array Value} {Q : Value → Shared → Prop} (hh : A.handled = none) (hit : s.heap.IsRevIter it l ((items.size : Int) - 1)) (hl : s.heap.IsList l items) (hne : l ≠ it) (hn : items.size ≤ sizeLine)
    (hQ : ∀ (h' : Heap) (tk : Nat) (acc : Array Value) (c' : Nat), (∀ b o, b ≠ it → s.heap.get? b = some o → h'.get? b = some o) → h'.get? s.heap.objs.size = some { cls := .type "list", dict := none, data := .seq acc c', slots := #[] } → ItemsOf (fun i v => items[items.size - 1 - i]? = some v) acc items.size → Q (.ref s.heap.objs.size) { s with heap := h', toks := tk }) :
    wpAny (model prog w) A (call (.type "list") [.ref it]) Q E s := by
  refine callType_codes (Q₁ := fun obj s₁ => obj = .ref s.heap.objs.size ∧ s₁ = { s with heap := s.heap.push { cls := .type "list", data := .seq #[] } }) F.called_list (F.typeCall_list_1 _) F.entry_list_init
    (code_list_new _ ⟨rfl, rfl⟩) fun obj s₁ h₁ => ?_
  obtain ⟨rfl, rfl⟩ := h₁
  have hS : (s.heap.push { cls := .type "list", data := .seq #[] }).get? s.heap.objs.size = some { cls := .type "list", data := .seq #[] } := Heap.get?_push_size _ rfl
  obtain ⟨oi, hoi, _⟩ := id hit
  obtain ⟨ol, hol, _⟩ := id hl
  refine ⟨⟨_, hS, rfl⟩, F.args_list_init_2 _ _, init_rev (A := A.in1) (s := { s with heap := s.heap.push { cls := .type "list", data := .seq #[] } }) hh (hit.at fun o e => Heap.get?_push_of_some _ e) (hl.push _) hne (Nat.ne_of_gt (Heap.lt_size hoi)) (Nat.ne_of_gt (Heap.lt_size hol)) hn hS fun h' tk acc c' hk hS' hacc => ?_⟩
  exact ⟨rfl, hQ h' tk acc c' (fun b o hb e => hk b o (Nat.ne_of_lt (Heap.lt_size e)) hb (Heap.get?_push_of_some _ e)) hS' hacc⟩
end
section
variable {X : Cx}
/-- list(reversed(xs)): a new list -/
def tListRev (K : PySem.W.Frag) (te : TE) : TE := fun σ H Q => te σ H fun x H1 => ∃ a xs, x = .ref a ∧ SqL K H1 a xs ∧ ∀ p, H1 p = none → Q (.ref p) (upd H1 p (.lst xs.reverse))
theorem pe_listRev {e : Expr} {te : TE} {p p2 pos pos2 : Pos} (hc : X.calm = true) (hg : Gl X "list") (hm : X.mg "list" = none) (hg2 : Gl X "reversed") (hm2 : X.mg "reversed" = none) (he : PE X e te)
    (hs : starEach [e] X.env = (false, eval e X.env) :: starEach [] X.env := by rfl)
    (hs2 : starEach [.Call (.Name "reversed" p2) [e] [] pos2] X.env = (false, eval (.Call (.Name "reversed" p2) [e] [] pos2) X.env) :: starEach [] X.env := by rfl) :
    PE X (.Call (.Name "list" p) [.Call (.Name "reversed" p2) [e] [] pos2] [] pos) (tListRev X.K te) := by
  refine ⟨fun pins s σ H Q I h => ?_⟩
  refine Call_ (ld_blt I hg hm boot_list (PyProof.Rows.callWith_type1 (args_cons (Call_ (ld_blt I hg2 hm2 PyProof.Rows.boot_reversed (PyProof.Rows.callWith_type1 (args_cons (thn (he.run pins s σ H _ I h) fun u s1 ⟨v, H1, I1, r1, q1⟩ => args_nil ?_) hs) hs rfl))) hs2) hs2 rfl))
  obtain ⟨a, xs, ev, hq, q⟩ := q1
  subst ev
  obtain rfl : u = Value.ref a := r1
  obtain ⟨its, rv, p', hz⟩ := I1.list hq
  refine call_reversed_list p'.isList (args_nil ?_)
  have k0 : ∀ b o, s1.heap.get? b = some o → (s1.heap.push (revObj a ((its.toArray.size : Int) - 1))).get? b = some o := fun b o e => Heap.get?_push_of_some _ e
  have hl := p'.isList
  obtain ⟨ol, hol, _⟩ := id hl
  have hne : a ≠ s1.heap.objs.size := Nat.ne_of_lt (Heap.lt_size hol)
  have hn : its.toArray.size ≤ sizeLine := by rw [List.size_toArray, ← rv.length]; exact hz
  refine call_list_rev (s := { s1 with heap := s1.heap.push (revObj a ((its.toArray.size : Int) - 1)) }) (I1.ok.hd hc) ⟨_, Heap.get?_push_size _ rfl, rfl, rfl⟩ (hl.push _) hne hn fun h' tk acc c' hk hS' hi => ?_
  have hle : s1.heap.objs.size ≤ (s1.heap.push (revObj a ((its.toArray.size : Int) - 1))).objs.size := by simp [Heap.push]
  have ea : acc.toList.toArray = acc := by simp
  exact ⟨.ref (s1.heap.push (revObj a ((its.toArray.size : Int) - 1))).objs.size, upd H1 (s1.heap.push (revObj a ((its.toArray.size : Int) - 1))).objs.size (.lst xs.reverse), I1.laid (t' := tk) (fun c o e => hk c o (Nat.ne_of_lt (Heap.lt_size e)) (k0 c o e)) hle (show ObjOk X.prog X.w _ _ _ (.lst xs.reverse) from ⟨by rw [List.length_reverse]; exact hz, acc.toList, c', vals_rev rv hi, by rw [ea]; exact hS'⟩), rfl, q _ (I1.hok.fresh hle)⟩
end
end RL
/-! ### xs.extend(a tuple) -/
namespace RL
open PySem PySem.Spec PyProof.Rows RT L2
theorem meets_extend_tup (l : Addr) (items : Array Value) (n : Nat) (b : Addr) (items2 : Array Value) (n2 : Nat) (o : Obj) (hc : o.cls = .type "tuple") (hd : o.data = .seq items2 n2) (hs1 : items.size + items2.size ≤ sizeLine) :
    Meets (Builtin.«list.extend» ⟨[.ref l, .ref b], []⟩) (fun _ R s => s.heap.get? l = some { cls := .type "list", dict := none, data := .seq items n, slots := #[] } ∧ s.heap.get? b = some o ∧ R (.ok (.ret Value.none)) { s with heap := s.heap.update l (Obj.mapSeq fun x => x ++ items2), toks := s.toks }) :=
  .of_wp fun prog w A R s h => by
    obtain ⟨hl, hb, h⟩ := h
    show wpAny _ _ (Builtin.List.listExtendWith (.ref l) (.ref b) .none) _ _ _
    unfold Builtin.List.listExtendWith
    refine wpAny_bind (wpAny_typeOf ⟨o, hb, hc⟩ ?_)
    have h1 : (Builtin.List.listSameRef (.ref l) (.ref b) || Value.type "tuple" == Value.type "list" || Value.type "tuple" == Value.type "tuple") = true := by simp
    simp only [h1, if_true]
    refine wpAny_bind ?_
    unfold Builtin.List.listItems
    refine wpAny_bind (wpAny_seqItems hb hd (wpAny_pure ?_))
    refine wpAny_bind ?_
    refine wpAny_bind (wpAny_seqItems hl rfl (wpAny_pure ?_))
    have hlong : ¬ (!items.isEmpty && Builtin.List.listTooLong (items.size + items2.size)) = true := by
      rw [notLongL hs1, Bool.and_false]
      exact Bool.false_ne_true
    rw [if_neg hlong]
    show wpAny _ _ (updateSeq l (· ++ items2) >>= fun _ => ret .none) _ _ s
    refine wpAny_bind (wpAny_updateSeq hl rfl (hz := by omega) (_hz' := by rw [Array.size_append]; omega) ?_)
    exact wpAny_pure ⟨_, rfl, h⟩
section
variable {X : Cx}
def rExtT : V → List V → Hp → VK → Prop := fun x vs H Q => ∃ l b xs zs, x = .ref l ∧ vs = [.ref b] ∧ H l = some (.lst xs) ∧ H b = some (.tup zs) ∧ xs.length + zs.length ≤ sizeLine ∧ Q .non (upd H l (.lst (xs ++ zs)))
theorem mt_extendT : MtM X "list.extend" rExtT := by
  intro pins s σ H x vs v us Q I rx rv h
  obtain ⟨l, b, xs, zs, rfl, rfl, hH, hB, hz, q⟩ := h
  cases rx
  obtain ⟨u, rfl, ru⟩ := rv.one
  cases ru
  obtain ⟨z, its, n, r, hl, e⟩ := I.lstM hH
  obtain ⟨its2, r2, ⟨o, ho, hc, n2, hd⟩, hz2⟩ := I.tuple (SqT.of hB)
  have hl2 := r2.length
  refine call_meets PySem.F.slot_list_extend ⟨_, e, rfl⟩ PySem.F.entry_list_extend (PySem.F.args_list_extend_2 _ _)
    (meets_extend_tup l its.toArray n b its2.toArray n2 o hc hd (by rw [List.size_toArray, List.size_toArray]; omega)) ⟨e, ho, ?_⟩
  refine ⟨.non, _, I.lset (its' := its ++ its2) hH e (by simp) (r.append r2) ?_, rfl, q⟩
  rw [List.length_append]
  omega
end
end RL
/-! ### enumerate(a list, start=k) -/
namespace RL
open PySem PySem.Spec PyProof.Rows L2
section
variable {M : Model} {A : Around} {E : Value → Shared → Prop} {s : Shared} {env : Env}
theorem callWith_type_kwB {pos : Pos} {T : String} {first : List Value} {args : List (Bool × Sem Value)} {keywords : List (Option Str × Sem Value)} {Q : Value → Shared → Prop}
    (hplain : args.any (·.1) = false) (hkw : keywords.any (·.1.isNone) = false)
    (h : wpAny M A (evalArgs (.type T) true args keywords) (fun a s₁ => wpAny M A (call (.type T) (first ++ a.pos) a.kw) Q E s₁) E s) :
    wpAny M A (callWith pos (.type T) first args keywords) Q E s := by
  unfold callWith
  refine wpAny_bind (wpAny_holding (wpAny_mono h (fun a s₁ h₁ => wpAny_bind (wpAny_standAt ?_)) fun _ _ x => x))
  simp only [hplain, hkw, Bool.or_false]
  refine wpAny_bind (wpAny_pure ?_)
  exact wpAny_bind (wpAny_mono h₁ (fun r s₂ hr => wpAny_bind (wpAny_holding (wpAny_point (wpAny_pure hr)))) fun _ _ x => x)
theorem callWith_type_kw {pos : Pos} {T : String} {e : Expr} {rest : List Expr} {kws : List Keyword} {Q : Value → Shared → Prop}
    (h : wpAny M A (spliced (backTo pos (starEach (e :: rest) env))) (fun vs s₁ => wpAny M A (evalAll ((backToKw pos (keywordEach kws env)).map (·.2)))
      (fun kvs s₂ => wpAny M A (call (.type T) vs (((backToKw pos (keywordEach kws env)).filterMap (·.1)).zip kvs)) Q E s₂) E s₁) E s)
    (he : backTo pos (starEach (e :: rest) env) = (false, eval e env) :: backTo pos (starEach rest env))
    (hplain : (backTo pos (starEach (e :: rest) env)).any (·.1) = false)
    (hall : (backToKw pos (keywordEach kws env)).all (·.1.isSome) = true)
    (hkw : (backToKw pos (keywordEach kws env)).any (·.1.isNone) = false) :
    wpAny M A (callWith pos (.type T) [] (backTo pos (starEach (e :: rest) env)) (backToKw pos (keywordEach kws env))) Q E s := by
  refine callWith_type_kwB hplain hkw ?_
  rw [he] at h ⊢
  exact evalArgs_kwB hall h
end
/-- the list at a as it stands at each turn, each item in a new pair, counted from k -/
def IteS (K : PySem.W.Frag) (a : Addr) (k : Int) : It :=
  ⟨fun i H => ∃ (xs : List V) (x : V), SqL K H a xs ∧ xs[i]? = some x, fun i H v H' => ∃ T x, v = .ref T ∧ H T = none ∧ H' = upd H T (.tup [.int (k + (i : Nat)), x]) ∧ ∀ xs, SqL K H a xs → xs[i]? = some x, fun i H => ∃ xs : List V, SqL K H a xs ∧ xs.length = i⟩
theorem turn_enumS {P : Program} {w : World} {K : PySem.W.Frag} {elts : List Expr} {kk : Nat} {tpos : Pos} (a e it : Addr) (k : Int) :
    Turn P w K (.Tuple elts kk tpos) (IteS K a k) [e, it] e (fun i h => (∃ old, IsEnum h e it (k + ((i : Nat) : Int)) old) ∧ h.IsListIter it a i ∧ e ≠ it ∧ e ≠ a ∧ a ≠ it) where
  mem := by simp
  obj := fun i h st b hb => by
    obtain ⟨⟨old, he⟩, ⟨o, ho, hc, hd⟩, _⟩ := st
    have e' : b = e ∨ b = it := by simpa using hb
    rcases e' with z | z
    · rw [z]; exact ⟨_, he, fun v q => nomatch q⟩
    · rw [z]; exact ⟨o, ho, fun v q => by rw [hd] at q; cases q⟩
  keep := fun i h h' st k => let ⟨⟨old, he⟩, hi, hne⟩ := st; ⟨⟨old, k e (by simp) _ he⟩, hi.at fun o q => k it (by simp) o q, hne⟩
  item := by
    intro X hP hw hK hc i pins s σ H E I hf st hg
    subst hP hw hK
    obtain ⟨⟨old, he⟩, hit, hne, hea, hai⟩ := st
    obtain ⟨xs, x, hq, hx⟩ := hg
    obtain ⟨its, rv, p, hz⟩ := I.list hq
    obtain ⟨u, hu, ru⟩ := rv.get hx
    have hel : e < s.heap.objs.size := Heap.lt_size he
    have hil : it < s.heap.objs.size := by obtain ⟨_, q, _⟩ := hit; exact Heap.lt_size q
    have D := Draws.list (prog := X.prog) (w := X.w) (A := X.A.in1) (I.ok.hd hc) it a hai its.toArray
    have hlt : i < its.toArray.size := by
      have := (List.getElem?_eq_some_iff.mp hu).1
      simpa using this
    refine wpAny_pyNext_enum_itemC D he ⟨hit, p.isList⟩ hlt hne (by simp [hne, hea]) fun u' h' tk hu' ho hst' hT hsz hk => ?_
    have euu : u' = u := by
      have z : its.toArray[i]? = some u := by simpa using hu
      rw [z] at hu'
      exact (Option.some.inj hu').symm
    subst euu
    refine ⟨_, rfl, wpAny_letOwnedTupleGo_enum (s := { s with heap := h', toks := tk + 1 }) ho fun h'' he' sb => ?_⟩
    have hT2 : h''.get? s.heap.objs.size = some { cls := .type "tuple", data := .seq #[.int (k + (i : Nat)) tk, u'] } := (sb.2 _ (Nat.ne_of_gt hel)).trans hT
    have new : ObjOk X.prog X.w (upd H s.heap.objs.size (.tup [.int (k + (i : Nat)), x])) h'' s.heap.objs.size (.tup [.int (k + (i : Nat)), x]) :=
      ⟨by show 2 ≤ sizeLine; decide, [.int (k + (i : Nat)) tk, u'], .cons ⟨_, rfl⟩ (.cons ru .nil), ⟨_, hT2, rfl, _, rfl⟩⟩
    have I1 : Inv X pins σ (upd H s.heap.objs.size (.tup [.int (k + (i : Nat)), x])) { s with heap := h'', toks := tk + 1 } :=
      I.turnedNew (ch := [e, it]) (fun b ob hb q => (sb.2 b (fun z => hb (by simp [z]))).trans (hk b ob (fun z => hb (by simp [z])) (fun z => hb (by simp [z])) q)) hf (Nat.le_refl _) new
    refine ⟨.ref s.heap.objs.size, _, I1, rfl, ⟨_, x, rfl, I.hok.fresh (Nat.le_refl _), rfl, fun ys hy => by rw [I.list_inj hy hq]; exact hx⟩, ⟨⟨u', ?_⟩, hst'.1.at fun o q => (sb.2 it (Ne.symm hne)).trans q, hne, hea, hai⟩, fun b hb => ?_⟩
    · have e1 : k + ((i + 1 : Nat) : Int) = k + (i : Int) + 1 := by omega
      rw [e1]; exact he'
    · have hb' : b < s.heap.objs.size := by
        have e' : b = e ∨ b = it := by simpa using hb
        rcases e' with z | z
        · rw [z]; exact hel
        · rw [z]; exact hil
      rw [upd_ne (Nat.ne_of_lt hb')]
      exact (hf b hb).1
  done := by
    intro X hP hw hK hc i pins s σ H E I hf st hg
    subst hP hw hK
    obtain ⟨⟨old, he⟩, hit, hne, hea, hai⟩ := st
    obtain ⟨xs, hq, hx⟩ := hg
    obtain ⟨its, rv, p, hz⟩ := I.list hq
    obtain ⟨f0, f1, f2, f3, f4, f5⟩ := hf it (by simp)
    have hl := rv.length
    have D := Draws.list (prog := X.prog) (w := X.w) (A := X.A.in1) (I.ok.hd hc) it a hai its.toArray
    have en : i = its.toArray.size := by rw [List.size_toArray]; omega
    subst en
    exact wpAny_pyNext_enum_endD D he ⟨hit, p.isList⟩ fun h' eb => ⟨rfl, I.turned (t' := s.toks) (fun b o hb q => eb b o hb q) f0 f1 f3 f4 f5⟩
  self := fun A i s Q E st h => let ⟨⟨_, he⟩, _⟩ := st; wpAny_pyIter_enum he h
def iEnumS (K : PySem.W.Frag) (ta : TA) (tk : TA) : TI := fun σ H R => ta σ H fun vs H1 => tk σ H1 fun zs H2 => ∃ a xs k, vs = [.ref a] ∧ zs = [.int k] ∧ -(2 ^ 63) ≤ k ∧ k < 2 ^ 63 ∧ SqL K H2 a xs ∧ R (IteS K a k) H2
theorem pi_enumS {X : Cx} {e e2 : Expr} {ta tk : TA} {p pos tpos kp : Pos} {elts : List Expr} {kk : Nat} (hg : Gl X "enumerate") (hm : X.mg "enumerate" = none) (ha : PA X [e] ta) (hkw : PK X [⟨some ("start" : Str), e2, kp⟩] tk)
    (he : backTo pos (starEach [e] X.env) = (false, eval e X.env) :: backTo pos (starEach [] X.env) := by rfl) (hpl : (backTo pos (starEach [e] X.env)).any (·.1) = false := by rfl)
    (hall : (backToKw pos (keywordEach [⟨some ("start" : Str), e2, kp⟩] X.env)).all (·.1.isSome) = true := by rfl) (hnone : (backToKw pos (keywordEach [⟨some ("start" : Str), e2, kp⟩] X.env)).any (·.1.isNone) = false := by rfl)
    (hks : (backToKw pos (keywordEach [⟨some ("start" : Str), e2, kp⟩] X.env)).filterMap (·.1) = [("start" : Str)] := by rfl) :
    PI X (.Tuple elts kk tpos) (.Call (.Name "enumerate" p) [e] [⟨some ("start" : Str), e2, kp⟩] pos) (iEnumS X.K ta tk) := by
  refine ⟨fun pins s σ H R I h => ?_⟩
  refine wpAny_Call_Name_kw (ld_blt I hg hm boot_enumerate (callWith_type_kw (thn (ha.run pos pins s σ H _ I h) fun us s0 ⟨vs, H0, I0, r0, q0⟩ => thn (hkw.run pos pins s0 σ H0 _ I0 q0) fun ws s1 ⟨zs, H1, I1, r2, q1⟩ => ?_) he hpl hall hnone))
  rw [hks]
  obtain ⟨a, xs, k, ex, ez, hk0, hk1, hq, q⟩ := q1
  subst ex ez
  cases r0 with
  | cons r rr =>
    cases rr
    cases r
    cases r2 with
    | cons r3 rr3 =>
      cases rr3
      obtain ⟨t, rfl⟩ := r3
      obtain ⟨its, rv, p', hz⟩ := I1.list hq
      have hal : a < s1.heap.objs.size := by obtain ⟨_, z, _⟩ := p'.isList; exact Heap.lt_size z
      refine enum_begins_start (begins_list a its.toArray) p'.isList hk0 hk1 fun h' he' hit hsz hk => wpAny_pyIter_enum he' ?_
      have I2 : Inv X pins σ H1 { s1 with heap := h' } := I1.kept (t' := s1.toks) hk
      refine ⟨s1.heap.objs.size + 1, [s1.heap.objs.size + 1, s1.heap.objs.size], _, _, H1, rfl, I2, turn_enumS a (s1.heap.objs.size + 1) s1.heap.objs.size k, ⟨⟨.none, ?_⟩, ⟨_, hit, rfl, ?_⟩, Nat.succ_ne_self _, Nat.ne_of_gt (Nat.lt_succ_of_lt hal), Nat.ne_of_lt hal⟩, fun b hb => ?_, q⟩
      · rw [show k + ((0 : Nat) : Int) = k by omega]
        exact he'
      · rfl
      · have e' : b = s1.heap.objs.size + 1 ∨ b = s1.heap.objs.size := by simpa using hb
        have hle : s1.heap.objs.size ≤ b := by
          rcases e' with z | z
          · rw [z]; exact Nat.le_add_right _ _
          · rw [z]; exact Nat.le_refl _
        exact I1.fpOk hle (I1.hok.fresh hle)
end RL
/-! ### a text times an int -/
namespace RL
open PySem PySem.Spec PyProof.Rows L2
def repS (z : Str) (k : Nat) : Str := ⟨(List.replicate k z.cps).foldl (· ++ ·) #[]⟩
theorem foldl_size : ∀ (l : List (Array Nat)) (a : Array Nat), (l.foldl (· ++ ·) a).toList = a.toList ++ (l.map Array.toList).flatten
  | [], a => by simp
  | x :: r, a => by
    rw [List.foldl_cons, foldl_size r (a ++ x), Array.toList_append, List.map_cons, List.flatten_cons, List.append_assoc]
theorem repS_tl (z : Str) (k : Nat) : TL.tl (repS z k) = (List.replicate k z.cps.toList).flatten := by
  show ((List.replicate k z.cps).foldl (· ++ ·) #[]).toList = _
  rw [foldl_size, List.map_replicate]
  rfl
theorem repS_len (z : Str) (k : Nat) : (repS z k).length = k * z.length := by
  show (repS z k).cps.size = _
  rw [← Array.length_toList]
  have h := repS_tl z k
  unfold TL.tl at h
  rw [h]
  simp [List.length_flatten]
  rfl
def rMulS : R2 := fun x y H Q => ∃ (z : Str) (k : Nat), x = .str z ∧ y = .int (k : Int) ∧ 2 ≤ k ∧ k ≤ 100000 ∧ 1 ≤ z.length ∧ z.length ≤ 100 ∧ Q (.str (repS z k)) H
theorem op_mulS {X : Cx} : OpR X (binaryOp .Mult) rMulS := by
  intro pins s σ H x y v u Q I rx ry h
  obtain ⟨z, k, rfl, rfl, hk, hk2, hz, hz2, q⟩ := h
  obtain ⟨t, rfl⟩ := rx
  obtain ⟨t', rfl⟩ := ry
  have hle : z.length * k ≤ 10000000 := by
    have h1 : z.length * k ≤ 100 * k := Nat.mul_le_mul_right k hz2
    omega
  have hno : ((((k : Nat) : Int) == 1) || z.length == 0) = false := by
    have h1 : (((k : Nat) : Int) == 1) = false := by
      apply beq_false_of_ne
      omega
    have h2 : (z.length == 0) = false := by
      apply beq_false_of_ne
      omega
    rw [h1, h2]; rfl
  refine PySem.P.mul_str ?_ ?_ ?_ ?_
  · have h1 : ¬ (k : Int) < -(2 ^ 63 : Int) := by omega
    have h2 : ¬ (k : Int) ≥ 2 ^ 63 := by omega
    rw [decide_eq_false h1, decide_eq_false h2]; rfl
  · intro _ _
    have h3 : (1000 : Int) ≤ (2 ^ 63 - 1) / (k : Int) := by
      rw [Int.le_ediv_iff_mul_le (by omega)]
      omega
    omega
  · intro _ _
    rw [Int.toNat_natCast]
    have hs : 10000000 ≤ sizeLine := by decide
    unfold Builtin.Str.tooLong
    exact decide_eq_false (by omega)
  · rw [if_neg (by omega), if_neg (by rw [hno]; decide)]
    rw [Int.toNat_natCast]
    have hl := repS_len z k
    have hs : 10000000 ≤ sizeLine := by decide
    have hc : k * z.length = z.length * k := Nat.mul_comm _ _
    refine ⟨?_, ⟨.str (repS z k), H, I.tok _, ⟨_, rfl⟩, q⟩⟩
    show (repS z k).length ≤ sizeLine
    omega
end RL

/-! ### Z: single steps of readings, for walking by with_reducible refine -/
namespace Z
open PySem L2
/-- all but what stands at M is as it was -/
def Kp (M : List Addr) (H H' : Hp) : Prop := ∀ b o, b ∉ M → H b = some o → H' b = some o
theorem Kp.refl {M : List Addr} (H : Hp) : Kp M H H := fun _ _ _ h => h
theorem Kp.trans {M : List Addr} {H H1 H2 : Hp} (a : Kp M H H1) (b : Kp M H1 H2) : Kp M H H2 := fun c o n h => b c o n (a c o n h)
theorem Kp.new {M : List Addr} {H : Hp} {p : Addr} {o : HO} (h : H p = none) : Kp M H (upd H p o) := fun b u _ e => by
  rw [upd_ne (ne_of_none e h)]
  exact e
theorem Kp.put {M : List Addr} {H : Hp} {p : Addr} {o : HO} (h : p ∈ M) : Kp M H (upd H p o) := fun b u n e => by
  rw [upd_ne (fun q => n (by rw [q]; exact h))]
  exact e
theorem Kp.sub {M M' : List Addr} {H H' : Hp} (a : Kp M H H') (h : ∀ x, x ∈ M → x ∈ M') : Kp M' H H' := fun b o n e => a b o (fun z => n (h b z)) e
theorem Kp.same {H H' : Hp} (a : Kp [] H H') : Same H H' := fun b o e => a b o (by simp) e
theorem Kp.of_same {M : List Addr} {H H' : Hp} (a : Same H H') : Kp M H H' := fun b o _ e => a b o e
theorem Kp.none {M : List Addr} {H H' : Hp} (a : Kp M H H') {p : Addr} (n : p ∉ M) (h : H' p = Option.none) : H p = Option.none := by
  cases q : H p with
  | none => rfl
  | some o =>
    rw [a p o n q] at h
    cases h
/-- what was not there may be forgotten from M -/
theorem Kp.drop {M : List Addr} {H H' : Hp} {p : Addr} (a : Kp (p :: M) H H') (h : H p = Option.none) : Kp M H H' := fun b o n e => a b o (by
  intro z
  rcases List.mem_cons.mp z with z | z
  · rw [z, h] at e
    cases e
  · exact n z) e
theorem Kp.get {M : List Addr} {H H' : Hp} (a : Kp M H H') {b : Addr} {o : HO} (n : b ∉ M) (e : H b = some o) : H' b = some o := a b o n e
theorem Kp.seq {M : List Addr} {K : PySem.W.Frag} {H H' : Hp} (e : Kp M H H') {a : Addr} {xs : List V} (n : a ∉ M) (h : SqL K H a xs) : SqL K H' a xs := by
  rcases h with (h | ⟨o, h⟩) | h
  · exact .inl (.inl (e _ _ n h))
  · exact .inl (.inr ⟨o, e _ _ n h⟩)
  · exact .inr h
theorem Kp.tup {M : List Addr} {K : PySem.W.Frag} {H H' : Hp} (e : Kp M H H') {a : Addr} {xs : List V} (n : a ∉ M) (h : SqT K H a xs) : SqT K H' a xs := by
  rcases h with (h | ⟨o, h⟩) | h
  · exact .inl (.inl (e _ _ n h))
  · exact .inl (.inr ⟨o, e _ _ n h⟩)
  · exact .inr h
/-- what H0 does not know may change -/
theorem Kp.mut {M : List Addr} {H0 H H' : Hp} {l : Addr} {o : HO} (a : Kp M H0 H) (h : H0 l = Option.none) (e : H' = upd H l o) : Kp M H0 H' := fun b u n z => by
  rw [e, upd_ne (ne_of_none z h)]
  exact a b u n z
theorem Kp.then1 {M : List Addr} {H0 H H' : Hp} {l : Addr} (a : Kp M H0 H) (b : Kp [l] H H') (h : H0 l = Option.none) : Kp M H0 H' := fun c o n e => b c o (by
  intro z
  rw [List.mem_singleton.mp z, h] at e
  cases e) (a c o n e)
/-- a new instance and its dict -/
theorem Kp.made {M : List Addr} {H : Hp} {x dx : Addr} {o u : HO} (nx : H x = Option.none) (nd : H dx = Option.none) : Kp M H (upd (upd H dx u) x o) := fun c o n e => by
  rw [upd_ne (ne_of_none e nx), upd_ne (ne_of_none e nd)]
  exact e
theorem none2 {H : Hp} {x dx l : Addr} {o u : HO} (h : upd (upd H dx u) x o l = Option.none) : H l = Option.none := by
  unfold upd at h
  split at h
  · cases h
  · split at h
    · cases h
    · exact h
theorem nin1 {a b : Addr} (h : b ≠ a) : b ∉ [a] := by simpa using h
theorem nin0 {b : Addr} : b ∉ ([] : List Addr) := by simp
theorem lstL {K : PySem.W.Frag} {H : Hp} {a : Addr} {xs : List V} (h : H a = some (.lst xs)) : SqL K H a xs := .inl (.inl h)
theorem tupT {K : PySem.W.Frag} {H : Hp} {a : Addr} {xs : List V} (h : H a = some (.tup xs)) : SqT K H a xs := .inl (.inl h)

theorem cxK {CX : CXT} {P : Program} {w : World} {K : PySem.W.Frag} {mg : Str → Option Value} {base : Heap} {N : List Str} {qual : Str} {scope : Scope} {f : Addr} {cd : Value} {A : Around} {outer : List Env} {s : Shared} {H : Hp} {E : XK} : (cxOf CX P w K mg base N qual scope f cd A outer s H E).K = K := rfl
/-! named readings of rules -/
def rLenN (K : PySem.W.Frag) : List V → Hp → VK → Prop := fun xs H Q => ∃ p ys, xs = [.ref p] ∧ (SqL K H p ys ∨ SqT K H p ys) ∧ Q (.int ys.length) H
theorem c_len {X : Cx} : CallR X (.builtin "len") (rLenN X.K) := call_len_seq
def rListN (K : PySem.W.Frag) : List V → Hp → VK → Prop := fun xs H Q => ∃ p ys, xs = [.ref p] ∧ (SqL K H p ys ∨ SqT K H p ys) ∧ ∀ l, H l = none → Q (.ref l) (upd H l (.lst ys))
theorem c_list {X : Cx} : CallR X (.type "list") (rListN X.K) := call_list_of
def rTupN (K : PySem.W.Frag) : List V → Hp → VK → Prop := fun xs H Q => ∃ p ys, xs = [.ref p] ∧ ((SqL K H p ys ∧ ∀ l, H l = none → Q (.ref l) (upd H l (.tup ys))) ∨ (SqT K H p ys ∧ Q (.ref p) H))
theorem c_tuple {X : Cx} : CallR X (.type "tuple") (rTupN X.K) := call_tuple_of
def rInt1 : List V → Hp → VK → Prop := fun xs H Q => (∃ i, xs = [.int i] ∧ Q (.int i) H) ∨ ∃ k, xs = [.bl k] ∧ Q (.int (if k then 1 else 0)) H
theorem c_int {X : Cx} : CallR X (.type "int") rInt1 := call_int1
def rAbs : List V → Hp → VK → Prop := fun xs H Q => ∃ i, xs = [.int i] ∧ Q (.int (if i < 0 then -i else i)) H
theorem c_abs {X : Cx} : CallR X (.builtin "abs") rAbs := call_abs
def rIsN : R2 := fun x y H Q => y = .non ∧ Q (.bl (decide (x = .non))) H
theorem o_isN {X : Cx} : OpR X (compareOp .Is) rIsN := op_isN
def rNotN : R2 := fun x y H Q => y = .non ∧ Q (.bl (!decide (x = .non))) H
theorem o_notN {X : Cx} : OpR X (compareOp .IsNot) rNotN := op_notN
def rAddS : R2 := fun x y H Q => ∃ i j, x = .str i ∧ y = .str j ∧ i.length + j.length ≤ sizeLine ∧ Q (.str (i ++ j)) H
theorem o_addS {X : Cx} : OpR X (binaryOp .Add) rAddS := op_add_str
def rInSg : R2 := fun x y H Q => ∃ (c : Nat) (z : Str), x = .str ⟨#[c]⟩ ∧ y = .str z ∧ Q (.bl (decide (c ∈ z.cps.toList))) H
theorem o_inSg {X : Cx} : OpR X (compareOp .In) rInSg := op_in_sign
def rNinSg : R2 := fun x y H Q => ∃ (c : Nat) (z : Str), x = .str ⟨#[c]⟩ ∧ y = .str z ∧ Q (.bl (!decide (c ∈ z.cps.toList))) H
theorem o_ninSg {X : Cx} : OpR X (compareOp .NotIn) rNinSg := op_notIn_sign
/-- // by a divisor of any sign -/
def CDivA (_ j : Int) : Prop := j ≠ 0 ∧ j.natAbs.log2 < 9000
theorem op_fdivA {X : Cx} : OpR X (binaryOp .FloorDiv) (rI CDivA fun i j => .int (i.fdiv j)) := opI fun i j _ _ _ _ _ hc q => PyProof.Rows.floordiv_int hc.1 q (.inl (PyProof.noPylong_of_log2 hc.2))
theorem divA {i j : Int} {b : Nat} (h : j ≠ 0) (hb : j.natAbs < 2 ^ b) (h0 : 0 < b) (h9 : b ≤ 9000) : CDivA i j := ⟨h, Nat.lt_of_lt_of_le (PySem.Flt.log2_lt_of h0 hb) h9⟩
def rLenS : List V → Hp → VK → Prop := fun xs H Q => ∃ x : Str, xs = [.str x] ∧ x.cps.size ≤ 10000000 ∧ Q (.int (x.cps.size : Nat)) H
theorem c_lens {X : Cx} : CallR X (.builtin "len") rLenS := fun pins s σ H xs us Q I r h => call_len pins s σ H xs us Q I r (by obtain ⟨x, rfl, hz, q⟩ := h; exact ⟨.str x, _, rfl, ⟨Nat.le_trans hz (by decide), rfl⟩, q⟩)
def rPopQ : V → List V → Hp → VK → Prop := rPop
section
variable {σ : St} {H : Hp} {Q : VK} {v x y : V} {ta tb tc te : TE} {tA : TT} {D : Ends} {t u ts : TS} {r : R2} {K : PySem.W.Frag} {i : Nat} {A B : Prop}
/-! values -/
theorem var (h : σ[i]? = some (some v)) (q : Q v H) : tVar i σ H Q := ⟨v, h, q⟩
theorem cst (q : Q v H) : tC v σ H Q := q
theorem op (h : ta σ H fun x H1 => tb σ H1 fun y H2 => r x y H2 Q) : tOp r ta tb σ H Q := h
theorem un {r : V → Hp → VK → Prop} (h : ta σ H fun x H1 => r x H1 Q) : tUn r ta σ H Q := h
theorem i0 {g : Int → Int → V} {a b : Int} (q : Q (g a b) H) : rI0 g (.int a) (.int b) H Q := ⟨a, b, rfl, rfl, q⟩
theorem iC {C : Int → Int → Prop} {g : Int → Int → V} {a b : Int} (c : C a b) (q : Q (g a b) H) : rI C g (.int a) (.int b) H Q := ⟨a, b, rfl, rfl, c, q⟩
theorem iU {g : Int → V} {a : Int} (q : Q (g a) H) : rU g (.int a) H Q := ⟨a, rfl, q⟩
theorem eqII {a b : Int} (q : Q (.bl (decide (a = b))) H) : rEq (.int a) (.int b) H Q := ⟨rfl, by
  have e : decide (V.int a = V.int b) = decide (a = b) := by simp
  rw [e]; exact q⟩
theorem neII {a b : Int} (q : Q (.bl (!decide (a = b))) H) : rNe (.int a) (.int b) H Q := ⟨rfl, by
  have e : decide (V.int a = V.int b) = decide (a = b) := by simp
  rw [e]; exact q⟩
theorem eqSS {a b : Str} (q : Q (.bl (decide (a = b))) H) : rEq (.str a) (.str b) H Q := ⟨rfl, by
  have e : decide (V.str a = V.str b) = decide (a = b) := by simp
  rw [e]; exact q⟩
theorem neSS {a b : Str} (q : Q (.bl (!decide (a = b))) H) : rNe (.str a) (.str b) H Q := ⟨rfl, by
  have e : decide (V.str a = V.str b) = decide (a = b) := by simp
  rw [e]; exact q⟩
theorem eqBB {a b : Bool} (q : Q (.bl (decide (a = b))) H) : rEq (.bl a) (.bl b) H Q := ⟨rfl, by
  have e : decide (V.bl a = V.bl b) = decide (a = b) := by simp
  rw [e]; exact q⟩
theorem neBB {a b : Bool} (q : Q (.bl (!decide (a = b))) H) : rNe (.bl a) (.bl b) H Q := ⟨rfl, by
  have e : decide (V.bl a = V.bl b) = decide (a = b) := by simp
  rw [e]; exact q⟩
theorem bl {b : Bool} {q : Bool → Hp → Prop} (h : q b H) : ∃ k, V.bl b = .bl k ∧ q k H := ⟨b, rfl, h⟩
theorem bl' {b : Bool} {q : Bool → Prop} (h : q b) : ∃ k, V.bl b = .bl k ∧ q k := ⟨b, rfl, h⟩
theorem test {Q : Bool → Hp → Prop} (h : te σ H fun x H' => ∃ k, x = .bl k ∧ Q k H') : tTest te σ H Q := h
theorem tbb {Q : Bool → Hp → Prop} (h : te σ H fun x H' => ∃ k, x = .bl k ∧ Q k H') : tB te σ H Q := h
theorem tand {a b : TT} {Q : Bool → Hp → Prop} (h : a σ H fun c H1 => if c = true then b σ H1 Q else Q false H1) : tAnd a b σ H Q := h
theorem tor {a b : TT} {Q : Bool → Hp → Prop} (h : a σ H fun c H1 => if c = true then Q true H1 else b σ H1 Q) : tOr a b σ H Q := h
theorem tnot {a : TT} {Q : Bool → Hp → Prop} (h : a σ H fun c H1 => Q (!c) H1) : tNot a σ H Q := h
theorem tyes {Q : Bool → Hp → Prop} (h : Q true H) : tYes σ H Q := h
theorem andV (h : ta σ H fun x H1 => ∃ c, x = .bl c ∧ if c = true then tb σ H1 Q else Q (.bl false) H1) : tAndV ta tb σ H Q := h
theorem orV (h : ta σ H fun x H1 => ∃ c, x = .bl c ∧ if c = true then Q (.bl true) H1 else tb σ H1 Q) : tOrV ta tb σ H Q := h
theorem notV (h : ta σ H fun x H1 => ∃ c, x = .bl c ∧ Q (.bl (!c)) H1) : tNotV ta σ H Q := h
theorem ifE (h : tA σ H fun c H1 => if c = true then ta σ H1 Q else tb σ H1 Q) : L2.tIf tA ta tb σ H Q := h
theorem chain {r r' : R2} (h : ta σ H fun x H1 => tb σ H1 fun y H2 => r x y H2 fun z H3 => ∃ k, z = .bl k ∧ (if k = true then tc σ H3 fun w' H4 => r' y w' H4 Q else Q (.bl false) H3)) : tChain r r' ta tb tc σ H Q := h
/-! branches -/
theorem ite {p : Prop} [Decidable p] (h1 : p → A) (h2 : ¬p → B) : if decide p = true then A else B := by
  by_cases h : p
  · rw [decide_eq_true h, if_pos rfl]; exact h1 h
  · rw [decide_eq_false h, if_neg Bool.false_ne_true]; exact h2 h
theorem iteN {p : Prop} [Decidable p] (h1 : ¬p → A) (h2 : p → B) : if (!decide p) = true then A else B := by
  by_cases h : p
  · rw [decide_eq_true h]; exact h2 h
  · rw [decide_eq_false h]; exact h1 h
theorem iteB {b : Bool} (h1 : b = true → A) (h2 : b = false → B) : if b = true then A else B := by
  cases b with
  | true => exact h1 rfl
  | false => exact h2 rfl
theorem yes {p : Prop} [Decidable p] (h : p) (q : A) : if decide p = true then A else B := by rw [decide_eq_true h, if_pos rfl]; exact q
theorem no {p : Prop} [Decidable p] (h : ¬p) (q : B) : if decide p = true then A else B := by rw [decide_eq_false h, if_neg Bool.false_ne_true]; exact q
theorem yesN {p : Prop} [Decidable p] (h : ¬p) (q : A) : if (!decide p) = true then A else B := by rw [decide_eq_false h]; exact q
theorem noN {p : Prop} [Decidable p] (h : p) (q : B) : if (!decide p) = true then A else B := by rw [decide_eq_true h]; exact q
theorem yesB (q : A) : if true = true then A else B := q
theorem noNB (q : B) : if (!true) = true then A else B := q
theorem yesNB (q : A) : if (!false) = true then A else B := q
theorem noB (q : B) : if false = true then A else B := q
/-! calls -/
theorem nil {Q : List V → Hp → Prop} (q : Q [] H) : tNil σ H Q := q
theorem cons {Q : List V → Hp → Prop} {tr : TA} (h : ta σ H fun x H1 => tr σ H1 fun xs H2 => Q (x :: xs) H2) : tCons ta tr σ H Q := h
theorem cb {r : List V → Hp → VK → Prop} {a : TA} (h : a σ H fun vs H1 => r vs H1 Q) : tCB r a σ H Q := h
theorem call {sp : Sp} {dvs : List V} {E : XK} {a : TA} (h : a σ H fun vs H1 => sp (vs ++ dvs) H1 Q E) : tCall sp dvs E a σ H Q := h
theorem meth {C : Addr} {m : Str} {sp : Sp} {dvs : List V} {E : XK} {a : TA} (h : ta σ H fun x H1 => ∃ p dx fs, x = .ref p ∧ H1 p = some (.ins C dx fs) ∧ fs.lookup m = none ∧ a σ H1 fun vs H2 => sp (x :: (vs ++ dvs)) H2 Q E) : tMeth C m sp dvs E ta a σ H Q := h
theorem fld {f : Str} (h : ta σ H fun x H1 => ∃ a C dx fs v, x = .ref a ∧ H1 a = some (.ins C dx fs) ∧ Cls K C ∧ NoAttr K C f ∧ fs.lookup f = some v ∧ Q v H1) : tFld K ta f σ H Q := h
theorem int1 {a : Int} (q : Q (.int a) H) : rInt1 [.int a] H Q := .inl ⟨a, rfl, q⟩
theorem intb {b : Bool} (q : Q (.int (if b then 1 else 0)) H) : rInt1 [.bl b] H Q := .inr ⟨b, rfl, q⟩
theorem abs1 {a : Int} (q : Q (.int (if a < 0 then -a else a)) H) : rAbs [.int a] H Q := ⟨a, rfl, q⟩
theorem isN (q : Q (.bl (decide (x = .non))) H) : rIsN x .non H Q := ⟨rfl, q⟩
theorem notN (q : Q (.bl (!decide (x = .non))) H) : rNotN x .non H Q := ⟨rfl, q⟩
theorem addS {a b : Str} (h : a.length + b.length ≤ sizeLine) (q : Q (.str (a ++ b)) H) : rAddS (.str a) (.str b) H Q := ⟨a, b, rfl, rfl, h, q⟩
theorem inSg {c : Nat} {z : Str} (q : Q (.bl (decide (c ∈ z.cps.toList))) H) : rInSg (.str ⟨#[c]⟩) (.str z) H Q := ⟨c, z, rfl, rfl, q⟩
theorem ninSg {c : Nat} {z : Str} (q : Q (.bl (!decide (c ∈ z.cps.toList))) H) : rNinSg (.str ⟨#[c]⟩) (.str z) H Q := ⟨c, z, rfl, rfl, q⟩
/-- a new object -/
theorem new {o : HO} (h : ∀ p, H p = none → Q (.ref p) (upd H p o)) : ∀ p, H p = none → Q (.ref p) (upd H p o) := h
def TupN (Q : VK) (xs : List V) (H1 : Hp) : Prop := xs.length ≤ sizeLine ∧ ∀ p, H1 p = none → Q (.ref p) (upd H1 p (.tup xs))
def LstN (Q : VK) (xs : List V) (H1 : Hp) : Prop := xs.length ≤ sizeLine ∧ ∀ p, H1 p = none → Q (.ref p) (upd H1 p (.lst xs))
theorem tup {a : TA} (h : a σ H (TupN Q)) : tTup a σ H Q := h
theorem lst {a : TA} (h : a σ H (LstN Q)) : tLst a σ H Q := h
/-- a new object, the heap behind it a letter -/
theorem mk {o : HO} {H0 : Hp} {R : Addr → Hp → Prop} (h : ∀ p H1, H0 p = none → Kp [] H0 H1 → H1 p = some o → R p H1) : ∀ p, H0 p = none → R p (upd H0 p o) := fun p n => h p _ n (Kp.new n) upd_same
theorem tupK {xs : List V} (q : ∀ p H1, H p = none → Kp [] H H1 → H1 p = some (.tup xs) → Q (.ref p) H1) (h : xs.length ≤ 100000 := by simp) : TupN Q xs H := ⟨Nat.le_trans h (by decide), mk q⟩
theorem lstK {xs : List V} (q : ∀ p H1, H p = none → Kp [] H H1 → H1 p = some (.lst xs) → Q (.ref p) H1) (h : xs.length ≤ 100000 := by simp) : LstN Q xs H := ⟨Nat.le_trans h (by decide), mk q⟩
theorem sz {n m : Nat} (h : n ≤ m) (hm : m ≤ 10000000 := by decide) : n ≤ sizeLine := Nat.le_trans h (Nat.le_trans hm (by decide))
theorem szl {n m : Nat} (h : n ≤ m) (hm : m ≤ 10000000 := by decide) : n < sizeLine := Nat.lt_of_le_of_lt (Nat.le_trans h hm) (by decide)
/-! subscripts -/
theorem ixL {p : Addr} {xs : List V} {j : Int} (h : SqL K H p xs) (e : atI xs j = some v) (q : Q v H) : rIxL K (.ref p) (.int j) H Q := ⟨p, xs, j, v, rfl, rfl, h, e, q⟩
theorem ixT {p : Addr} {xs : List V} {j : Int} (h : SqT K H p xs) (e : atI xs j = some v) (q : Q v H) : rIxT K (.ref p) (.int j) H Q := ⟨p, xs, j, v, rfl, rfl, h, e, q⟩
theorem setL {p : Addr} {xs : List V} {k : Int} {j : Nat} {v : V} {q : Hp → Prop} (h : H p = some (.lst xs)) (e : ixN xs.length k = some j) (hq : q (upd H p (.lst (xs.set j v)))) : rSetL (.ref p) (.int k) v H q := ⟨p, xs, k, j, rfl, rfl, h, e, hq⟩
theorem gsub {to ti : TE} {t : TSet} {Q : St → Hp → Prop} (h : to σ H fun o H1 => ti σ H1 fun i H2 => t o i v H2 fun H3 => Q σ H3) : gSub to ti t v σ H Q := h
/-! statements -/
/-- a statement whose ways join ahead of the rest -/
def tSeqJ (t u : TS) : TS := tSeq t u
theorem pss_consJ {X : Cx} {st : Stmt} {rest : List Stmt} {t u : TS} (h1 : PS X st t) (h2 : PSs X rest u) : PSs X (st :: rest) (tSeqJ t u) := pss_cons h1 h2
theorem seqJ (J : St → Hp → Prop) (h2 : ∀ σ H, J σ H → u D σ H) (h1 : ∀ N : St → Hp → Prop, (∀ σ H, J σ H → N σ H) → t { D with nx := N } σ H) : tSeqJ t u D σ H := h1 (u D) h2
theorem seqJ' (h : tSeq t u D σ H) : tSeqJ t u D σ H := h
theorem seq (h : t { D with nx := u D } σ H) : tSeq t u D σ H := h
theorem asg {g : TG} (h : te σ H fun x H1 => g x σ H1 D.nx) : tAsg te g D σ H := h
theorem gname {Q : St → Hp → Prop} {σ' : St} (e : σ.set i (some v) = σ') (h : Q σ' H) : gName i v σ H Q := by
  subst e; exact h
def ParK (i j : Nat) (D : Ends) (σ : St) (vs : List V) (H1 : Hp) : Prop := ∃ v w, vs = [v, w] ∧ D.nx ((σ.set i (some v)).set j (some w)) H1
theorem par {i j : Nat} {a : TA} (h : a σ H (ParK i j D σ)) : tPar i j a D σ H := h
theorem par2 {i j : Nat} {v w : V} {σ' : St} (e : (σ.set i (some v)).set j (some w) = σ') (h : D.nx σ' H) : ParK i j D σ [v, w] H := ⟨v, w, rfl, by rw [e]; exact h⟩
theorem aug {ti : TIp} {x : V} (e : σ[i]? = some (some x)) (h : te σ H fun y H1 => ti x y H1 fun z H2 => D.nx (σ.set i (some z)) H2) : tAug i te ti D σ H := ⟨x, e, h⟩
theorem ipI' {f : Int → Int → Int} {a b : Int} (q : Q (.int (f a b)) H) : ipI f (.int a) (.int b) H Q := ⟨a, b, rfl, rfl, q⟩
theorem ifs {c : TT} (h : c σ H fun b H1 => if b = true then t D σ H1 else u D σ H1) : tIfS c t u D σ H := h
theorem ret (h : te σ H D.rt) : tRet te D σ H := h
theorem retN (h : D.rt .non H) : tRetN D σ H := h
theorem next (h : D.nx σ H) : tNext D σ H := h
theorem brk (h : D.bk σ H) : tBreak D σ H := h
theorem drop (h : te σ H fun _ H1 => D.nx σ H1) : tDrop te D σ H := h
theorem bm {T : String} {r : V → List V → Hp → VK → Prop} {to : TE} {a : TA} (h : to σ H fun x H1 => tyV K T x H1 ∧ a σ H1 fun xs H2 => r x xs H2 Q) : tBM K T r to a σ H Q := h
theorem bm0 {T : String} {r : V → List V → Hp → VK → Prop} {to : TE} (h : to σ H fun x H1 => tyV K T x H1 ∧ r x [] H1 Q) : tBM0 K T r to σ H Q := h
theorem app {l : Addr} {xs : List V} {y : V} (h : H l = some (.lst xs)) (z : xs.length < sizeLine) (q : Q .non (upd H l (.lst (xs ++ [y])))) : rAppend (.ref l) [y] H Q := ⟨l, xs, y, rfl, rfl, h, z, q⟩
theorem tyL {p : Addr} {xs : List V} (h : H p = some (.lst xs)) : tyV K "list" (.ref p) H := .inl ⟨rfl, _, SqL.of h⟩
theorem sfld {tv : TE} {f : Str} (h : tv σ H fun y H1 => ta σ H1 fun x H2 => ∃ a C dx fs, x = .ref a ∧ H2 a = some (.ins C dx fs) ∧ Cls K C ∧ NoAttr K C f ∧ fs.length < 1000 ∧ D.nx σ (upd H2 a (.ins C dx (putF f y fs)))) : sFld K ta tv f D σ H := h
theorem sfldaug {tv : TE} {rd : V → V → Hp → VK → Prop} {f : Str} (h : ta σ H fun x H1 => ∃ a C dx fs v, x = .ref a ∧ H1 a = some (.ins C dx fs) ∧ Cls K C ∧ NoAttr K C f ∧ fs.lookup f = some v ∧ tv σ H1 fun y H2 => rd v y H2 fun z H3 => ∃ dx' fs', H3 a = some (.ins C dx' fs') ∧ fs'.length < 1000 ∧ D.nx σ (upd H3 a (.ins C dx' (putF f z fs')))) : sFldAug K ta tv rd f D σ H := h
theorem radd {a b : Int} (q : Q (.int (a + b)) H) : rAdd (.int a) (.int b) H Q := ⟨a, b, rfl, rfl, q⟩
theorem make {C : Addr} {sp : Sp} {dvs : List V} {E : XK} {a : TA} (h : a σ H fun vs H1 => ∀ x dx, H1 x = none → H1 dx = none → dx ≠ x → sp (.ref x :: (vs ++ dvs)) (upd (upd H1 dx (.own x)) x (.ins C dx [])) (fun v H2 => v = .non ∧ Q (.ref x) H2) E) : tMake C sp dvs E a σ H Q := h
/-- while -/
def WhB (W : Nat → St → Hp → Prop) (m : Nat) (tb : TS) (D : Ends) (σ : St) (H1 : Hp) : Prop := ∃ N : St → Hp → Prop, (∀ σ' H', N σ' H' → ∃ m', m' < m ∧ W m' σ' H') ∧ tb { D with nx := N, ct := N, bk := D.nx } σ H1
theorem whb {W : Nat → St → Hp → Prop} {m : Nat} {tb : TS} (h : tb { D with nx := fun σ' H' => ∃ m', m' < m ∧ W m' σ' H', ct := fun σ' H' => ∃ m', m' < m ∧ W m' σ' H', bk := D.nx } σ H) : WhB W m tb D σ H := ⟨_, fun _ _ z => z, h⟩
theorem wh {c : TT} {tb : TS} (W : Nat → St → Hp → Prop) (m : Nat) (h0 : W m σ H) (hs : ∀ m σ H, W m σ H → c σ H fun b H1 => if b = true then WhB W m tb D σ H1 else D.nx σ H1) : tWhile c tb D σ H := ⟨W, ⟨m, h0⟩, hs⟩
/-- calls by values -/
theorem sumL {a : Addr} {ns : List Int} (h : SqL K H a (ns.map V.int)) (q : Q (.int ns.sum) H) : rSum K [.ref a] H Q := ⟨a, ns, rfl, h, q⟩
theorem gcd {a b : Int} (q : Q (.int ((Nat.gcd a.natAbs b.natAbs : Nat) : Int)) H) : rGcd [.int a, .int b] H Q := ⟨a, b, rfl, q⟩
theorem mkN {C : Addr} {sp : Sp} {Q : XK} (h : ∀ a, H a = none → sp [.ref a] (upd H a (exo a C none)) (fun v H2 => v = .non ∧ H2 a = some (exo a C none) ∧ Q (.ref C) none (del H2 a)) (fun _ _ _ => False)) : Sup.tMkN C sp σ H Q := h
theorem gtup {n : Nat} {t : TGs} {a : Addr} {xs : List V} {Q : St → Hp → Prop} (h : SqT K H a xs) (e : xs.length = n) (q : t xs σ H Q) : gTup K n t (.ref a) σ H Q := ⟨a, xs, rfl, h, e, q⟩
theorem gcons {t : TG} {u : TGs} {v : V} {r : List V} {Q : St → Hp → Prop} (q : t v σ H fun σ' H' => u r σ' H' Q) : gCons t u (v :: r) σ H Q := ⟨v, r, rfl, q⟩
theorem gnil {Q : St → Hp → Prop} (q : Q σ H) : gNil [] σ H Q := ⟨rfl, q⟩
theorem lenL {a : Addr} {xs : List V} (h : SqL K H a xs) (q : Q (.int xs.length) H) : rLenN K [.ref a] H Q := ⟨a, xs, rfl, .inl h, q⟩
theorem lenT {a : Addr} {xs : List V} (h : SqT K H a xs) (q : Q (.int xs.length) H) : rLenN K [.ref a] H Q := ⟨a, xs, rfl, .inr h, q⟩
theorem listL {a : Addr} {xs : List V} (h : SqL K H a xs) (q : ∀ p H1, H p = none → Kp [] H H1 → H1 p = some (.lst xs) → Q (.ref p) H1) : rListN K [.ref a] H Q := ⟨a, xs, rfl, .inl h, mk q⟩
theorem isi {A B : String} {x : V} {b : Bool} (ht : TyX K H x (.type A)) (hk : kitB A B = some b) (q : Q (.bl b) H) : rIsi K [x, .ty B] H Q := ⟨x, _, _, _, b, rfl, .ty _, ht, kit_ty hk, q⟩
theorem isiI {B : String} {a : Int} {b : Bool} (hk : kitB "int" B = some b) (q : Q (.bl b) H) : rIsi K [.int a, .ty B] H Q := isi (.base (.int _)) hk q
theorem atM {ns : List Int} {j : Nat} {x : Int} (h : ns[j]? = some x) : atI (ns.map V.int) (j : Int) = some (.int x) := atI_nat (by rw [List.getElem?_map, h]; rfl)
theorem ixN_nat {n j : Nat} (hj : j < n) : ixN n (j : Int) = some j := by
  unfold ixN
  rw [if_pos (by omega), if_pos (by omega)]
  simp
/-- a comprehension, a loop over range(n), over a list -/
def ForK (g : TG) (tb : TS) (D : Ends) (σ : St) (J : It) (H1 : Hp) : Prop := ∃ W : Nat → Nat → St → Hp → Prop, (∃ m, W 0 m σ H1) ∧ ∀ i m σ H, W i m σ H →
  (J.stop i H ∧ D.nx σ H) ∨ (J.go i H ∧ ∃ N : St → Hp → Prop, (∀ σ' H', N σ' H' → ∃ m', m' < m ∧ W (i + 1) m' σ' H') ∧ ∀ x H', J.yld i H x H' → g x σ H' fun σ2 H2 => tb { D with nx := N, ct := N, bk := D.nx } σ2 H2)
def LcK (g : TG) (tt : TT) (te : TE) (vs : List Nat) (σ : St) (Q : VK) (J : It) (H1 : Hp) : Prop := ∀ D, H1 D = none → ∃ W : Nat → Nat → Hp → Prop, (∃ m, W 0 m (upd H1 D (.lst []))) ∧ ∀ i m H, W i m H →
      (J.stop i H ∧ Q (.ref D) H) ∨ (J.go i H ∧ ∃ Nx : Hp → Prop, (∀ H', Nx H' → ∃ m', m' < m ∧ W (i + 1) m' H') ∧ ∀ x H', J.yld i H x H' → g x (wipe σ vs) H' fun σ2 H2 => wipe σ2 vs = wipe σ vs ∧ tt σ2 H2 fun b H3 => if b = true then te σ2 H3 fun y H4 => ∃ acc, H4 D = some (.lst acc) ∧ acc.length < sizeLine ∧ Nx (upd H4 D (.lst (acc ++ [y]))) else Nx H3)
def Rng1K (R : It → Hp → Prop) (vs : List V) (H1 : Hp) : Prop := ∃ j : Int, vs = [.int j] ∧ -(2 ^ 62) ≤ j ∧ j < 2 ^ 62 ∧ R (Itr 0 j.toNat) H1
def ListK (K : PySem.W.Frag) (R : It → Hp → Prop) (x : V) (H1 : Hp) : Prop := ∃ a, x = .ref a ∧ (∃ xs, SqL K H1 a xs) ∧ R (Itl K a) H1
theorem lc {wi : TI} {g : TG} {tt : TT} {vs : List Nat} (h : wi σ H (LcK g tt te vs σ Q)) : tLc wi g tt te vs σ H Q := h
theorem rng1 {a : TA} {R : It → Hp → Prop} (h : a σ H (Rng1K R)) : iRng1 a σ H R := h
theorem ilist {R : It → Hp → Prop} (h : ta σ H (ListK K R)) : iList K ta σ H R := h
theorem for_ {wi : TI} {g : TG} {tb : TS} (h : wi σ H (ForK g tb D σ)) : tFor wi g tb D σ H := h
/-- what one turn of a comprehension asks -/
def LcT (g : TG) (tt : TT) (te : TE) (vs : List Nat) (σ : St) (D : Addr) (P : Hp → Prop) (x : V) (H1 : Hp) : Prop := g x (wipe σ vs) H1 fun σ2 H2 => wipe σ2 vs = wipe σ vs ∧ tt σ2 H2 fun b H3 => if b = true then te σ2 H3 fun y H4 => ∃ acc, H4 D = some (.lst acc) ∧ acc.length < sizeLine ∧ P (upd H4 D (.lst (acc ++ [y]))) else P H3
theorem lcr {g : TG} {tt : TT} {vs : List Nat} {e : Int} (n : Nat) (he : e = (n : Int)) (hb : n < 4611686018427387904) (Pv : Addr → Nat → Hp → Prop) (h0 : ∀ D H1, H D = none → Kp [] H H1 → H1 D = some (.lst []) → Pv D 0 H1)
    (hs : ∀ D i H1, H D = none → i < n → Pv D i H1 → g (.int (i : Int)) (wipe σ vs) H1 fun σ2 H2 => wipe σ2 vs = wipe σ vs ∧ tt σ2 H2 fun b H3 => if b = true then te σ2 H3 fun y H4 => ∃ acc, H4 D = some (.lst acc) ∧ acc.length < sizeLine ∧ Pv D (i + 1) (upd H4 D (.lst (acc ++ [y]))) else Pv D (i + 1) H3)
    (hd : ∀ D H1, H D = none → Pv D n H1 → Q (.ref D) H1) : Rng1K (LcK g tt te vs σ Q) [.int e] H := by
  subst he
  refine ⟨(n : Int), rfl, by omega, by omega, fun D hD => ?_⟩
  rw [show ((n : Int)).toNat = n by simp]
  refine lc_range (lo := 0) (n := n) (Pv D) (h0 D _ hD (Kp.new hD) upd_same) (fun i H1 hi p => ?_) fun H1 p => hd D H1 hD p
  rw [show (0 : Int) + (i : Int) = (i : Int) by omega]
  exact hs D i H1 hD hi p
theorem lcl {g : TG} {tt : TT} {vs : List Nat} {a : Addr} (xs : List V) (hS : SqL K H a xs) (Pv : Addr → Nat → Hp → Prop) (h0 : ∀ D H1, H D = none → Kp [] H H1 → H1 D = some (.lst []) → Pv D 0 H1)
    (hl : ∀ D i H1, H D = none → i ≤ xs.length → Pv D i H1 → SqL K H1 a xs)
    (hs : ∀ D i x H1, H D = none → xs[i]? = some x → Pv D i H1 → g x (wipe σ vs) H1 fun σ2 H2 => wipe σ2 vs = wipe σ vs ∧ tt σ2 H2 fun b H3 => if b = true then te σ2 H3 fun y H4 => ∃ acc, H4 D = some (.lst acc) ∧ acc.length < sizeLine ∧ Pv D (i + 1) (upd H4 D (.lst (acc ++ [y]))) else Pv D (i + 1) H3)
    (hd : ∀ D H1, H D = none → Pv D xs.length H1 → Q (.ref D) H1) : ListK K (LcK g tt te vs σ Q) (.ref a) H :=
  ⟨a, rfl, ⟨xs, hS⟩, fun D hD => lc_list (K := K) (a := a) (xs := xs) (Pv D) (h0 D _ hD (Kp.new hD) upd_same) (fun i H1 hi p => hl D i H1 hD hi p) (fun i x H1 hx p => hs D i x H1 hD hx p) fun H1 p => hd D H1 hD p⟩
/-- over a tuple -/
def TupK (K : PySem.W.Frag) (R : It → Hp → Prop) (x : V) (H1 : Hp) : Prop := ∃ a, x = .ref a ∧ (∃ xs, SqT K H1 a xs) ∧ R (Itt K a) H1
theorem itup {R : It → Hp → Prop} (h : ta σ H (TupK K R)) : iTup K ta σ H R := h
theorem lct {g : TG} {tt : TT} {vs : List Nat} {a : Addr} (xs : List V) (hS : SqT K H a xs) (Pv : Addr → Nat → Hp → Prop) (h0 : ∀ D H1, H D = none → Kp [] H H1 → H1 D = some (.lst []) → Pv D 0 H1)
    (hl : ∀ D i H1, H D = none → i ≤ xs.length → Pv D i H1 → SqT K H1 a xs)
    (hs : ∀ D i x H1, H D = none → xs[i]? = some x → Pv D i H1 → g x (wipe σ vs) H1 fun σ2 H2 => wipe σ2 vs = wipe σ vs ∧ tt σ2 H2 fun b H3 => if b = true then te σ2 H3 fun y H4 => ∃ acc, H4 D = some (.lst acc) ∧ acc.length < sizeLine ∧ Pv D (i + 1) (upd H4 D (.lst (acc ++ [y]))) else Pv D (i + 1) H3)
    (hd : ∀ D H1, H D = none → Pv D xs.length H1 → Q (.ref D) H1) : TupK K (LcK g tt te vs σ Q) (.ref a) H :=
  ⟨a, rfl, ⟨xs, hS⟩, fun D hD => lc_tup (K := K) (a := a) (xs := xs) (Pv D) (h0 D _ hD (Kp.new hD) upd_same) (fun i H1 hi p => hl D i H1 hD hi p) (fun i x H1 hx p => hs D i x H1 hD hx p) fun H1 p => hd D H1 hD p⟩
theorem allL {a : Addr} {bs : List Bool} (h : SqL K H a (bs.map V.bl)) (q : Q (.bl (bs.all id)) H) : rAll K [.ref a] H Q := ⟨a, bs, rfl, h, q⟩
theorem anyL {a : Addr} {bs : List Bool} (h : SqL K H a (bs.map V.bl)) (q : Q (.bl (bs.any id)) H) : rAny K [.ref a] H Q := ⟨a, bs, rfl, h, q⟩
theorem forr {g : TG} {tb : TS} {e : Int} (n : Nat) (he : e = (n : Int)) (hb : n < 4611686018427387904) (Pv : Nat → St → Hp → Prop) (h0 : Pv 0 σ H)
    (hs : ∀ i σ H, i < n → Pv i σ H → g (.int (i : Int)) σ H fun σ2 H2 => tb { D with nx := Pv (i + 1), ct := Pv (i + 1), bk := D.nx } σ2 H2) (hd : ∀ σ H, Pv n σ H → D.nx σ H) : Rng1K (ForK g tb D σ) [.int e] H := by
  subst he
  refine ⟨(n : Int), rfl, by omega, by omega, ?_⟩
  rw [show ((n : Int)).toNat = n by simp]
  refine for_range (lo := 0) (n := n) Pv h0 (fun i σ H1 hi p => ?_) hd
  rw [show (0 : Int) + (i : Int) = (i : Int) by omega]
  exact hs i σ H1 hi p
theorem forl {g : TG} {tb : TS} {a : Addr} (xs : List V) (hS : SqL K H a xs) (Pv : Nat → St → Hp → Prop) (h0 : Pv 0 σ H) (hl : ∀ i σ H, i ≤ xs.length → Pv i σ H → SqL K H a xs)
    (hs : ∀ i x σ H, xs[i]? = some x → Pv i σ H → g x σ H fun σ2 H2 => tb { D with nx := Pv (i + 1), ct := Pv (i + 1), bk := D.nx } σ2 H2) (hd : ∀ σ H, Pv xs.length σ H → D.nx σ H) : ListK K (ForK g tb D σ) (.ref a) H :=
  ⟨a, rfl, ⟨xs, hS⟩, for_list (K := K) (a := a) (xs := xs) Pv h0 hl hs hd⟩
/-! texts -/
def StrK (R : It → Hp → Prop) (v : V) (H1 : Hp) : Prop := ∃ x, v = .str x ∧ R (Its x) H1
theorem istr {R : It → Hp → Prop} (h : ta σ H (StrK R)) : iStr ta σ H R := h
theorem fors {g : TG} {tb : TS} {x : Str} (Pv : Nat → St → Hp → Prop) (h0 : Pv 0 σ H)
    (hs : ∀ i c σ H, x.cps[i]? = some c → Pv i σ H → g (.str ⟨#[c]⟩) σ H fun σ2 H2 => tb { D with nx := Pv (i + 1), ct := Pv (i + 1), bk := D.nx } σ2 H2) (hd : ∀ σ H, Pv x.cps.size σ H → D.nx σ H) : StrK (ForK g tb D σ) (.str x) H :=
  ⟨x, rfl, for_it walk_str Pv h0 (fun _ _ _ _ _ => trivial) (fun i v σ H H' hi p y => by obtain ⟨rfl, c, hc, rfl⟩ := y; exact hs i c σ _ hc p) hd⟩
theorem lcs {g : TG} {tt : TT} {vs : List Nat} {x : Str} (Pv : Addr → Nat → Hp → Prop) (h0 : ∀ D H1, H D = none → Kp [] H H1 → H1 D = some (.lst []) → Pv D 0 H1)
    (hs : ∀ D i c H1, H D = none → x.cps[i]? = some c → Pv D i H1 → g (.str ⟨#[c]⟩) (wipe σ vs) H1 fun σ2 H2 => wipe σ2 vs = wipe σ vs ∧ tt σ2 H2 fun b H3 => if b = true then te σ2 H3 fun y H4 => ∃ acc, H4 D = some (.lst acc) ∧ acc.length < sizeLine ∧ Pv D (i + 1) (upd H4 D (.lst (acc ++ [y]))) else Pv D (i + 1) H3)
    (hd : ∀ D H1, H D = none → Pv D x.cps.size H1 → Q (.ref D) H1) : StrK (LcK g tt te vs σ Q) (.str x) H :=
  ⟨x, rfl, fun D hD => lc_it walk_str (Pv D) (h0 D _ hD (Kp.new hD) upd_same) (fun _ _ _ _ => trivial) (fun i v H H' hi p y => by obtain ⟨rfl, c, hc, rfl⟩ := y; exact hs D i c _ hD hc p) fun H1 p => hd D H1 hD p⟩
theorem lenS {x : Str} (hz : x.cps.size ≤ 10000000) (q : Q (.int (x.cps.size : Nat)) H) : rLenS [.str x] H Q := ⟨x, rfl, hz, q⟩
/-! enumerate -/
def EnumK (K : PySem.W.Frag) (R : It → Hp → Prop) (vs : List V) (H1 : Hp) : Prop := ∃ a xs, vs = [.ref a] ∧ SqL K H1 a xs ∧ R (Ite K a) H1
theorem ienum {a : TA} {R : It → Hp → Prop} (h : a σ H (EnumK K R)) : iEnum K a σ H R := h
theorem fore {g : TG} {tb : TS} {a : Addr} (xs : List V) (hS : SqL K H a xs) (Pv : Nat → St → Hp → Prop) (h0 : Pv 0 σ H) (hl : ∀ i σ H, i ≤ xs.length → Pv i σ H → SqL K H a xs)
    (hs : ∀ i x σ H H' T, xs[i]? = some x → Pv i σ H → H T = none → Kp [] H H' → H' T = some (.tup [.int (i : Nat), x]) → g (.ref T) σ H' fun σ2 H2 => tb { D with nx := Pv (i + 1), ct := Pv (i + 1), bk := D.nx } σ2 H2) (hd : ∀ σ H, Pv xs.length σ H → D.nx σ H) : EnumK K (ForK g tb D σ) [.ref a] H :=
  ⟨a, xs, rfl, hS, for_it (walk_enum (K := K) (a := a) (xs := xs)) Pv h0 hl (fun i v σ H H' hi p y => by
    obtain ⟨T, x, z, rfl, h1, rfl, h2, h3⟩ := y
    cases h2
    exact hs i z σ H _ T h3 p h1 (Kp.new h1) upd_same) hd⟩
/-! dicts -/
theorem dnew (h : ∀ p H1, H p = none → Kp [] H H1 → H1 p = some (.dK []) → Q (.ref p) H1) : tDNewK σ H Q := mk h
theorem din {ty td : TE} (h : ty σ H fun y H1 => td σ H1 fun x H2 => ∃ a o, x = .ref a ∧ DGet H2 a y o ∧ Q (.bl o.isSome) H2) : tDIn ty td σ H Q := h
theorem dput {td ty tv : TE} (h : tv σ H fun v H1 => td σ H1 fun x H2 => ty σ H2 fun y H3 => ∃ a H4, x = .ref a ∧ DPut H3 a y v H4 ∧ D.nx σ H4) : sDPut td ty tv D σ H := h
theorem dget2 {td ty tx : TE} (h : td σ H fun x H1 => ∃ a, x = .ref a ∧ IsD H1 a ∧ ty σ H1 fun y H2 => tx σ H2 fun z H3 => ∃ o, DGet H3 a y o ∧ Q (o.getD z) H3) : tDGet2 td ty tx σ H Q := h
theorem dget {td ty : TE} (h : td σ H fun x H1 => ty σ H1 fun y H2 => ∃ a v, x = .ref a ∧ DGet H2 a y (some v) ∧ Q v H2) : tDGet td ty σ H Q := h
/-! lists and tuples -/
theorem ixA {p : Addr} {xs : List V} {j : Int} (h : SqL K H p xs ∨ SqT K H p xs) (e : atI xs j = some v) (q : Q v H) : rIx K (.ref p) (.int j) H Q := h.elim (fun h => .inl (ixL h e q)) (fun h => .inr (.inl (ixT h e q)))
theorem lenA {a : Addr} {xs : List V} (h : SqL K H a xs ∨ SqT K H a xs) (q : Q (.int xs.length) H) : rLenN K [.ref a] H Q := ⟨a, xs, rfl, h, q⟩
theorem sl {r : V → Option Int → Option Int → Hp → VK → Prop} {tl th : TO} (h : ta σ H fun x H1 => tl σ H1 fun l H2 => th σ H2 fun u H3 => r x l u H3 Q) : tSl r ta tl th σ H Q := h
theorem slno {Q : Option Int → Hp → Prop} (h : Q none H) : tNoPart σ H Q := h
theorem slpart {Q : Option Int → Hp → Prop} (h : ta σ H fun x H1 => ∃ i, x = .int i ∧ Q (some i) H1) : tPart ta σ H Q := h
theorem bint {i : Int} {q : Int → Prop} (h : q i) : ∃ k, V.int i = .int k ∧ q k := ⟨i, rfl, h⟩
theorem slL {p : Addr} {xs : List V} {lo hi : Option Int} (h : SqL K H p xs) (q : ∀ d H1, H d = none → Kp [] H H1 → H1 d = some (.lst (cutV xs lo hi)) → Q (.ref d) H1) : rSlL K (.ref p) lo hi H Q := ⟨p, xs, rfl, h, mk q⟩
theorem cut_take {xs : List V} {k : Nat} (h : k ≤ xs.length) : cutV xs none (some (k : Int)) = xs.take k := by
  unfold cutV
  rw [HT.sIx_none, HT.sIx_nat, List.drop_zero, Nat.sub_zero, Nat.min_eq_left h]
theorem cut_drop {xs : List V} {k : Nat} (h : k ≤ xs.length) : cutV xs (some (k : Int)) none = xs.drop k := by
  unfold cutV
  rw [HT.sIx_none, HT.sIx_nat, Nat.min_eq_left h]
  exact List.take_of_length_le (by rw [List.length_drop] <;> omega)
theorem inq {neg : Bool} {p : Addr} {xs : List V} (h : SqL K H p xs ∨ SqT K H p xs) (fx : flatV x = true) (fs : xs.all flatV = true) (q : Q (.bl (if neg then !inV x xs else inV x xs)) H) : rIn K neg x (.ref p) H Q := ⟨p, xs, rfl, h, fx, fs, q⟩
theorem inV_strs {a : Str} {l : List Str} : inV (.str a) (l.map V.str) = decide (a ∈ l) := by
  unfold inV
  induction l with
  | nil => simp
  | cons b r ih =>
    rw [List.map_cons, List.any_cons, ih]
    show ((b == a) || _) = _
    by_cases e : b = a
    · subst e; simp
    · have e' : ¬ a = b := fun z => e z.symm
      simp [e, e']
theorem strs_flat {l : List Str} : (l.map V.str).all flatV = true := by simp [flatV]
theorem pop {l : Addr} {xs : List V} {y : V} (h : H l = some (.lst xs)) (e : xs[xs.length - 1]? = some y) (q : Q y (upd H l (.lst xs.dropLast))) : rPop (.ref l) [] H Q := ⟨l, xs, y, rfl, rfl, h, e, q⟩
def LRK (K : PySem.W.Frag) (Q : VK) (x : V) (H1 : Hp) : Prop := ∃ a xs, x = .ref a ∧ SqL K H1 a xs ∧ ∀ p, H1 p = none → Q (.ref p) (upd H1 p (.lst xs.reverse))
theorem listrev (h : ta σ H (LRK K Q)) : RL.tListRev K ta σ H Q := h
theorem lrk {a : Addr} {xs : List V} (hS : SqL K H a xs) (q : ∀ p H1, H p = none → Kp [] H H1 → H1 p = some (.lst xs.reverse) → Q (.ref p) H1) : LRK K Q (.ref a) H := ⟨a, xs, rfl, hS, mk q⟩
theorem popS {l : Addr} {xs : List V} {y : V} (h : H l = some (.lst (xs ++ [y]))) (q : Q y (upd H l (.lst xs))) : rPop (.ref l) [] H Q := ⟨l, _, y, rfl, rfl, h, by simp, by rw [List.dropLast_concat]; exact q⟩
theorem extT {l b : Addr} {xs zs : List V} (h : H l = some (.lst xs)) (h2 : H b = some (.tup zs)) (hz : xs.length + zs.length ≤ 10000000) (q : Q .non (upd H l (.lst (xs ++ zs)))) : RL.rExtT (.ref l) [.ref b] H Q := ⟨l, b, xs, zs, rfl, rfl, h, h2, Nat.le_trans hz (by decide), q⟩
theorem slT {p : Addr} {xs : List V} {k : Nat} (h : SqT K H p xs) (h0 : 0 < k) (h1 : k ≤ xs.length) (q : ∀ d H1, H d = none → Kp [] H H1 → H1 d = some (.tup (xs.drop k)) → Q (.ref d) H1) : rSlT K (.ref p) (some (k : Int)) none H Q := ⟨p, xs, rfl, h, fun z => by
  rw [HT.sIx_nat, Nat.min_eq_left h1] at z
  omega, mk (by rw [cut_drop h1]; exact q)⟩
theorem revl (h : ta σ H (LRK K Q)) : tRevL K ta σ H Q := h
theorem idx {a : Addr} {ys : List V} {y : V} (j : Nat) {z : V} (hS : SqL K H a ys) (fy : flatV y = true) (fs : ys.all flatV = true) (hz : ys[j]? = some z) (hy : eqV z y = true) (hn : ∀ (m : Nat) (z' : V), m < j → ys[m]? = some z' → eqV z' y = false) (q : Q (.int (j : Nat)) H) : rIndex K (.ref a) [y] H Q := ⟨a, ys, y, j, z, rfl, rfl, hS, fy, fs, hz, hy, hn, q⟩
theorem truL {p : Addr} {xs : List V} {q : Bool → Prop} (h : H p = some (.lst xs)) (hq : q (!xs.isEmpty)) : ∃ k, TruV K (.ref p) H k ∧ q k := ⟨_, .inl ⟨xs, lstL h, rfl⟩, hq⟩
theorem glst {n : Nat} {t : TGs} {a : Addr} {xs : List V} {Q : St → Hp → Prop} (h : SqL K H a xs) (e : xs.length = n) (q : t xs σ H Q) : gLst K n t (.ref a) σ H Q := ⟨a, xs, rfl, h, e, q⟩
def rSplitQ : V → List V → Hp → VK → Prop := fun x xs H Q => ∃ a b, x = .str a ∧ xs = [.str b] ∧ (b.length == 0) = false ∧ a.length + 2 ≤ sizeLine ∧ rNewStrs (Txt.split a b) H Q
theorem m_split {X : Cx} : MtR X "str.split" rSplitQ := mt_split
theorem split {a b : Str} (hb : (b.length == 0) = false) (hz : a.length ≤ 10000000) (q : ∀ p H1, H p = none → Kp [] H H1 → H1 p = some (.lst ((Txt.split a b).map V.str)) → Q (.ref p) H1) : rSplitQ (.str a) [.str b] H Q := ⟨a, b, rfl, rfl, hb, Nat.le_trans (Nat.add_le_add_right hz 2) (by decide), mk q⟩
def EnSK (K : PySem.W.Frag) (R : It → Hp → Prop) (vs zs : List V) (H2 : Hp) : Prop := ∃ a xs k, vs = [.ref a] ∧ zs = [.int k] ∧ -(2 ^ 63) ≤ k ∧ k < 2 ^ 63 ∧ SqL K H2 a xs ∧ R (RL.IteS K a k) H2
theorem ienumS {a b : TA} {R : It → Hp → Prop} (h : a σ H fun vs H1 => b σ H1 fun zs H2 => EnSK K R vs zs H2) : RL.iEnumS K a b σ H R := h
theorem walk_enumS {a : Addr} {xs : List V} {k : Int} : Walk (RL.IteS K a k) xs.length (fun H => SqL K H a xs) (YPair (fun i => some (.int (k + (i : Nat)))) (fun i => xs[i]?)) := by
  refine ⟨fun i _ hi q => ⟨xs, xs[i], q, by simp [hi]⟩, fun _ q => ⟨xs, q, rfl⟩, fun i H v H' _ q y => ?_⟩
  obtain ⟨T, x, h1, h2, h3, h4⟩ := y
  exact ⟨T, .int (k + (i : Nat)), x, h1, h2, h3, rfl, h4 xs q⟩
theorem fores {g : TG} {tb : TS} {a : Addr} {k : Int} (xs : List V) (hk0 : -(2 ^ 63) ≤ k) (hk1 : k < 2 ^ 63) (hS : SqL K H a xs) (Pv : Nat → St → Hp → Prop) (h0 : Pv 0 σ H) (hl : ∀ i σ H, i ≤ xs.length → Pv i σ H → SqL K H a xs)
    (hs : ∀ i x σ H H' T, xs[i]? = some x → Pv i σ H → H T = none → Kp [] H H' → H' T = some (.tup [.int (k + (i : Nat)), x]) → g (.ref T) σ H' fun σ2 H2 => tb { D with nx := Pv (i + 1), ct := Pv (i + 1), bk := D.nx } σ2 H2) (hd : ∀ σ H, Pv xs.length σ H → D.nx σ H) : EnSK K (ForK g tb D σ) [.ref a] [.int k] H :=
  ⟨a, xs, k, rfl, rfl, hk0, hk1, hS, for_it (walk_enumS (K := K) (a := a) (xs := xs) (k := k)) Pv h0 hl (fun i v σ H H' hi p y => by
    obtain ⟨T, x, z, rfl, h1, rfl, h2, h3⟩ := y
    cases h2
    exact hs i z σ H _ T h3 p h1 (Kp.new h1) upd_same) hd⟩
/-- an f-string of two parts or more -/
def tJoin (ts : List TE) : TE := fun σ H Q => tJs ts Str.empty σ H fun out H1 => Q (.str out) H1
theorem pe_joinedN {X : Cx} {v1 v2 : Expr} {rest : List Expr} {ts : List TE} {pos : Pos} (h : PJ X (v1 :: v2 :: rest) ts) : PE X (.JoinedStr (v1 :: v2 :: rest) pos) (tJoin ts) := pe_joined h
def rJoinQ (K : PySem.W.Frag) : V → List V → Hp → VK → Prop := fun x xs H Q => ∃ a p, ∃ ys : List Str, x = .str a ∧ xs = [.ref p] ∧ (SqL K H p (ys.map V.str) ∨ SqT K H p (ys.map V.str)) ∧ (ys.map (·.length)).sum + ys.length * a.length ≤ 16777216 ∧ Q (.str (Txt.join a ys)) H
theorem m_join {X : Cx} : MtR X "str.join" (rJoinQ X.K) := mt_join
theorem join {a : Str} {p : Addr} {ys : List Str} (h : SqL K H p (ys.map V.str)) (hz : (ys.map (·.length)).sum + ys.length * a.length ≤ 16777216) (q : Q (.str (Txt.join a ys)) H) : rJoinQ K (.str a) [.ref p] H Q := ⟨a, p, ys, rfl, rfl, .inl h, hz, q⟩
theorem lens_le {n : Nat} : ∀ {ys : List Str}, (∀ y ∈ ys, y.length ≤ n) → (ys.map (·.length)).sum ≤ n * ys.length
  | [], _ => by simp
  | y :: r, h => by
    have h1 := h y (by simp)
    have h2 := lens_le (n := n) (ys := r) fun z hz => h z (by simp [hz])
    rw [List.map_cons, List.sum_cons, List.length_cons, Nat.mul_add]
    omega
theorem mulS {x : Str} {k : Nat} (h1 : 2 ≤ k) (h2 : k ≤ 100000) (h3 : 1 ≤ x.length) (h4 : x.length ≤ 100) (q : Q (.str (RL.repS x k)) H) : RL.rMulS (.str x) (.int (k : Int)) H Q := ⟨x, k, rfl, rfl, h1, h2, h3, h4, q⟩
theorem cat {l b : Addr} {xs zs : List V} (h : H l = some (.lst xs)) (h2 : H b = some (.lst zs)) (hz : xs.length + zs.length ≤ 100000) (q : ∀ p H1, H p = none → Kp [] H H1 → H1 p = some (.lst (xs ++ zs)) → Q (.ref p) H1) : rCat (.ref l) (.ref b) H Q := ⟨l, b, xs, zs, rfl, rfl, h, h2, Nat.le_trans hz (by decide), mk q⟩
end
end Z

/-! ### zip of two lists of one length -/
namespace Z
open PySem L2
section
variable {σ : St} {H : Hp} {Q : VK} {te : TE} {D : Ends} {K : PySem.W.Frag}
def ZipK (K : PySem.W.Frag) (R : It → Hp → Prop) (vs : List V) (H1 : Hp) : Prop := ∃ a b xs ys, vs = [.ref a, .ref b] ∧ SqL K H1 a xs ∧ SqL K H1 b ys ∧ R (Itz K a b) H1
theorem izip {a : TA} {R : It → Hp → Prop} (h : a σ H (ZipK K R)) : iZip K a σ H R := h
theorem forz {g : TG} {tb : TS} {a b : Addr} (xs ys : List V) (hn : xs.length = ys.length) (hS : SqL K H a xs) (hS2 : SqL K H b ys) (Pv : Nat → St → Hp → Prop) (h0 : Pv 0 σ H) (hl : ∀ i σ H, i ≤ xs.length → Pv i σ H → SqL K H a xs ∧ SqL K H b ys)
    (hs : ∀ i x y σ H H' T, xs[i]? = some x → ys[i]? = some y → Pv i σ H → H T = none → Kp [] H H' → H' T = some (.tup [x, y]) → g (.ref T) σ H' fun σ2 H2 => tb { D with nx := Pv (i + 1), ct := Pv (i + 1), bk := D.nx } σ2 H2) (hd : ∀ σ H, Pv xs.length σ H → D.nx σ H) : ZipK K (ForK g tb D σ) [.ref a, .ref b] H :=
  ⟨a, b, xs, ys, rfl, hS, hS2, for_it (walk_zip (K := K) (a := a) (b := b) (xs := xs) (ys := ys) (n := xs.length) (by omega)) Pv h0 hl (fun i v σ H H' hi p y => by
    obtain ⟨T, x, z, rfl, h1, rfl, h2, h3⟩ := y
    exact hs i x z σ H _ T h2 h3 p h1 (Kp.new h1) upd_same) hd⟩
theorem lcz {g : TG} {tt : TT} {vs : List Nat} {a b : Addr} (xs ys : List V) (hn : xs.length = ys.length) (hS : SqL K H a xs) (hS2 : SqL K H b ys) (Pv : Addr → Nat → Hp → Prop) (h0 : ∀ D H1, H D = none → Kp [] H H1 → H1 D = some (.lst []) → Pv D 0 H1)
    (hl : ∀ D i H1, H D = none → Pv D i H1 → SqL K H1 a xs ∧ SqL K H1 b ys)
    (hs : ∀ D i x y H1 H1' T, H D = none → xs[i]? = some x → ys[i]? = some y → Pv D i H1 → H1 T = none → Kp [] H1 H1' → H1' T = some (.tup [x, y]) → g (.ref T) (wipe σ vs) H1' fun σ2 H2 => wipe σ2 vs = wipe σ vs ∧ tt σ2 H2 fun b H3 => if b = true then te σ2 H3 fun y H4 => ∃ acc, H4 D = some (.lst acc) ∧ acc.length < sizeLine ∧ Pv D (i + 1) (upd H4 D (.lst (acc ++ [y]))) else Pv D (i + 1) H3)
    (hd : ∀ D H1, H D = none → Pv D xs.length H1 → Q (.ref D) H1) : ZipK K (LcK g tt te vs σ Q) [.ref a, .ref b] H :=
  ⟨a, b, xs, ys, rfl, hS, hS2, fun D hD => lc_it (walk_zip (K := K) (a := a) (b := b) (xs := xs) (ys := ys) (n := xs.length) (by omega)) (Pv D) (h0 D _ hD (Kp.new hD) upd_same) (fun _ _ _ p => hl D _ _ hD p) (fun i v H H' hi p y => by
    obtain ⟨T, x, z, rfl, h1, rfl, h2, h3⟩ := y
    exact hs D i x z H _ T hD h2 h3 p h1 (Kp.new h1) upd_same) fun H1 p => hd D H1 hD p⟩
end
end Z

/-! ### sorted of data that are alike -/
namespace RL
open PySem PySem.Spec PyProof.Rows L2 PySem.W
def DBs := List (V × PyData)
def rSortedD (K : PySem.W.Frag) : List V → Hp → VK → Prop := fun vs H Q => ∃ (a : Addr) (bs : List (V × PyData)), vs = [V.ref a] ∧ SqL K H a (bs.map Prod.fst) ∧ (∀ b ∈ bs, Dp K H b.1 b.2) ∧ AllAlike (bs.map Prod.snd) ∧ Sortable (bs.map Prod.snd) ∧ (∀ b ∈ bs, b.2.depth ≤ 60) ∧
  ∀ p, H p = none → Q (.ref p) (upd H p (.lst ((bs.mergeSort (dataLe false Prod.snd)).map Prod.fst)))
theorem each_vals : ∀ {bs : List (V × PyData)} {us : List Value}, Vals (bs.map Prod.fst) us → EachIs (fun (v : Value) (b : V × PyData) => RelV b.1 v) us bs
  | [], us, h => by cases h; exact .nil
  | b :: r, us, h => by
    cases h with
    | cons h1 h2 => exact .cons h1 (each_vals h2)
theorem vals_each : ∀ {bs : List (V × PyData)} {us : List Value}, EachIs (fun (v : Value) (b : V × PyData) => RelV b.1 v) us bs → Vals (bs.map Prod.fst) us
  | _, _, .nil => .nil
  | _, _, .cons h1 h2 => .cons h1 (vals_each h2)
theorem each_and {α β : Type} {R : α → β → Prop} {P : β → Prop} {S : α → β → Prop} (hS : ∀ a b, R a b → P b → S a b) : ∀ {as : List α} {bs : List β}, EachIs R as bs → (∀ b ∈ bs, P b) → EachIs S as bs
  | _, _, .nil, _ => .nil
  | _, _, .cons h1 h2, hp => .cons (hS _ _ h1 (hp _ (by simp))) (each_and hS h2 fun b hb => hp b (by simp [hb]))
theorem cr_sortedD {X : Cx} (hu : X.A.units + 64 < cLine) : CallR X (.builtin "sorted") (rSortedD X.K) := by
  intro pins s σ H vs us Q I r h
  obtain ⟨a, bs, rfl, hs, hD, hal, hk, hd, q⟩ := h
  obtain ⟨its, rv, hl, hz⟩ := I.list hs
  rw [Vals.ref1 r]
  have e := each_vals rv
  have er : EachIs (fun (v : Value) (b : V × PyData) => ∃ as, Reads s.heap v b.2 as) its bs := each_and (P := fun (b : V × PyData) => Dp X.K H b.1 b.2) (fun v b h1 h2 => Dp.reads I _ _ _ h2 h1) e hD
  have hL : bs.length ≤ sizeLine := by rw [List.length_map] at hz; exact hz
  refine sorted_data (enc := Prod.snd) (R := fun (v : Value) (b : V × PyData) => RelV b.1 v) hl.isList e er hal hk hL (fun b hb => by have := hd b hb; omega) fun out hlen ho => ?_
  obtain ⟨ep, he'⟩ := PyProof.Rows.sortedAll_at s.heap its out.toArray
  have hlen2 : ((bs.mergeSort (dataLe false Prod.snd)).map Prod.fst).length ≤ sizeLine := by rw [List.length_map, List.length_mergeSort]; exact hL
  exact ⟨.ref _, upd H (s.heap.objs.size + 1) (.lst ((bs.mergeSort (dataLe false Prod.snd)).map Prod.fst)), I.laid (t' := s.toks) (fun _ _ => PyProof.Rows.sortedAll_old) (Nat.le_succ _) ⟨hlen2, out, ep, vals_each ho, he'⟩, rfl, q _ (I.hok.fresh (Nat.le_succ _))⟩
end RL

namespace Z
open PySem L2
/-- what is never reached -/
def tDead : TS := fun _ _ _ => False
theorem ps_dead {X : Cx} {s : Stmt} : PS X s tDead := ⟨fun _ _ _ _ _ _ h => h.elim⟩
theorem u65 {k : Nat} {A : Around} (hr : Room k A) : A.units + 65 < cLine := by have := hr.un; omega
end Z

namespace Z
open PySem L2
/-! comprehensions of two clauses, both over lists -/
theorem it_list {K : PySem.W.Frag} {a : Addr} {xs : List V} {H0 : Hp} {R : Hp → Prop} {B : V → (Hp → Prop) → Hp → Prop} (Pv : Nat → Hp → Prop) (h0 : Pv 0 H0) (hl : ∀ i H, i ≤ xs.length → Pv i H → SqL K H a xs)
    (hs : ∀ i x H, xs[i]? = some x → Pv i H → B x (Pv (i + 1)) H) (hd : ∀ H, Pv xs.length H → R H) :
    ∃ W : Nat → Nat → Hp → Prop, (∃ m, W 0 m H0) ∧ ∀ i m H, W i m H →
      ((Itl K a).stop i H ∧ R H) ∨ ((Itl K a).go i H ∧ ∃ Nx : Hp → Prop, (∀ H', Nx H' → ∃ m', m' < m ∧ W (i + 1) m' H') ∧ ∀ x H', (Itl K a).yld i H x H' → B x Nx H') := by
  refine ⟨fun i m H => m = xs.length - i ∧ i ≤ xs.length ∧ Pv i H, ⟨xs.length, by simp, Nat.zero_le _, h0⟩, ?_⟩
  rintro i m H ⟨rfl, hi, p⟩
  have q := hl i H hi p
  by_cases hlt : i < xs.length
  · refine .inr ⟨⟨xs, xs[i], q, by simp [hlt]⟩, Pv (i + 1), fun H' p' => ⟨xs.length - (i + 1), by omega, rfl, hlt, p'⟩, fun x H' y => ?_⟩
    obtain ⟨e, y⟩ := y
    subst e
    exact hs i x _ (y xs q) p
  · have e : i = xs.length := by omega
    subst e
    exact .inl ⟨⟨xs, q, Nat.le_refl _⟩, hd H p⟩
def In2K (g1 : TG) (tt1 : TT) (te : TE) (vs1 : List Nat) (σ2 : L2.St) (D : Addr) (Nx : Hp → Prop) (J1 : It) (H4 : Hp) : Prop := ∃ W1 : Nat → Nat → Hp → Prop, (∃ m, W1 0 m H4) ∧ ∀ j k H, W1 j k H →
      (J1.stop j H ∧ Nx H) ∨ (J1.go j H ∧ ∃ Nx1 : Hp → Prop, (∀ H', Nx1 H' → ∃ k', k' < k ∧ W1 (j + 1) k' H') ∧ ∀ x H', J1.yld j H x H' → g1 x (wipe σ2 vs1) H' fun σ3 H5 => wipe σ3 vs1 = wipe σ2 vs1 ∧ tt1 σ3 H5 fun b H6 =>
        if b = true then te σ3 H6 fun y H7 => ∃ acc, H7 D = some (.lst acc) ∧ acc.length < sizeLine ∧ Nx1 (upd H7 D (.lst (acc ++ [y]))) else Nx1 H6)
def Lc2K (g : TG) (tt : TT) (wi1 : TI) (g1 : TG) (tt1 : TT) (te : TE) (vs vs1 : List Nat) (σ : L2.St) (Q : VK) (J : It) (H1 : Hp) : Prop := ∀ D, H1 D = none → ∃ W : Nat → Nat → Hp → Prop, (∃ m, W 0 m (upd H1 D (.lst []))) ∧ ∀ i m H, W i m H →
  (J.stop i H ∧ Q (.ref D) H) ∨ (J.go i H ∧ ∃ Nx : Hp → Prop, (∀ H', Nx H' → ∃ m', m' < m ∧ W (i + 1) m' H') ∧ ∀ x H', J.yld i H x H' → g x (wipe σ vs) H' fun σ2 H2 => wipe σ2 vs = wipe σ vs ∧ tt σ2 H2 fun b H3 =>
    if b = true then wi1 σ2 H3 (In2K g1 tt1 te vs1 σ2 D Nx) else Nx H3)
theorem lc2 {wi wi1 : TI} {g g1 : TG} {tt tt1 : TT} {te : TE} {vs vs1 : List Nat} {σ : L2.St} {H : Hp} {Q : VK} (h : wi σ H (Lc2K g tt wi1 g1 tt1 te vs vs1 σ Q)) : tLc2 wi g tt wi1 g1 tt1 te vs vs1 σ H Q := h
theorem lc2l {K : PySem.W.Frag} {wi1 : TI} {g g1 : TG} {tt tt1 : TT} {te : TE} {vs vs1 : List Nat} {σ : L2.St} {H : Hp} {Q : VK} {a : Addr} (xs : List V) (hS : SqL K H a xs) (Pv : Addr → Nat → Hp → Prop) (h0 : ∀ D H1, H D = none → Kp [] H H1 → H1 D = some (.lst []) → Pv D 0 H1)
    (hl : ∀ D i H1, H D = none → i ≤ xs.length → Pv D i H1 → SqL K H1 a xs)
    (hs : ∀ D i x H1, H D = none → xs[i]? = some x → Pv D i H1 → g x (wipe σ vs) H1 fun σ2 H2 => wipe σ2 vs = wipe σ vs ∧ tt σ2 H2 fun b H3 => if b = true then wi1 σ2 H3 (In2K g1 tt1 te vs1 σ2 D (Pv D (i + 1))) else Pv D (i + 1) H3)
    (hd : ∀ D H1, H D = none → Pv D xs.length H1 → Q (.ref D) H1) : ListK K (Lc2K g tt wi1 g1 tt1 te vs vs1 σ Q) (.ref a) H :=
  ⟨a, rfl, ⟨xs, hS⟩, fun D hD => it_list (K := K) (a := a) (xs := xs) (R := fun H1 => Q (.ref D) H1) (B := fun x Nx H' => g x (wipe σ vs) H' fun σ2 H2 => wipe σ2 vs = wipe σ vs ∧ tt σ2 H2 fun b H3 => if b = true then wi1 σ2 H3 (In2K g1 tt1 te vs1 σ2 D Nx) else Nx H3) (Pv D) (h0 D _ hD (Kp.new hD) upd_same) (fun i H1 hi p => hl D i H1 hD hi p) (fun i x H1 hx p => hs D i x H1 hD hx p) fun H1 p => hd D H1 hD p⟩
theorem in2l {K : PySem.W.Frag} {g1 : TG} {tt1 : TT} {te : TE} {vs1 : List Nat} {σ2 : L2.St} {H : Hp} {D : Addr} {Nx : Hp → Prop} {a : Addr} (ys : List V) (hS : SqL K H a ys) (Pv : Nat → Hp → Prop) (h0 : Pv 0 H) (hl : ∀ i H1, i ≤ ys.length → Pv i H1 → SqL K H1 a ys)
    (hs : ∀ j y H1, ys[j]? = some y → Pv j H1 → g1 y (wipe σ2 vs1) H1 fun σ3 H5 => wipe σ3 vs1 = wipe σ2 vs1 ∧ tt1 σ3 H5 fun b H6 => if b = true then te σ3 H6 fun z H7 => ∃ acc, H7 D = some (.lst acc) ∧ acc.length < sizeLine ∧ Pv (j + 1) (upd H7 D (.lst (acc ++ [z]))) else Pv (j + 1) H6)
    (hd : ∀ H1, Pv ys.length H1 → Nx H1) : ListK K (In2K g1 tt1 te vs1 σ2 D Nx) (.ref a) H :=
  ⟨a, rfl, ⟨ys, hS⟩, it_list (K := K) (a := a) (xs := ys) (R := Nx) (B := fun x Nx1 H' => g1 x (wipe σ2 vs1) H' fun σ3 H5 => wipe σ3 vs1 = wipe σ2 vs1 ∧ tt1 σ3 H5 fun b H6 => if b = true then te σ3 H6 fun y H7 => ∃ acc, H7 D = some (.lst acc) ∧ acc.length < sizeLine ∧ Nx1 (upd H7 D (.lst (acc ++ [y]))) else Nx1 H6) Pv h0 hl hs hd⟩
end Z

namespace Z
open PySem L2
/-! range(lo, e) -/
def Rng2K (R : It → Hp → Prop) (vs : List V) (H1 : Hp) : Prop := ∃ i j : Int, vs = [.int i, .int j] ∧ (-(2 ^ 62) ≤ i ∧ i < 2 ^ 62 ∧ -(2 ^ 62) ≤ j ∧ j < 2 ^ 62) ∧ R (Itr i (j - i).toNat) H1
theorem irng2 {a : TA} {σ : L2.St} {H : Hp} {R : It → Hp → Prop} (h : a σ H (Rng2K R)) : iRng2 a σ H R := h
theorem forr2 {σ : L2.St} {H : Hp} {D : Ends} {g : TG} {tb : TS} {lo e : Int} (n : Nat) (he : (e - lo).toNat = n) (hb : -1000000 ≤ lo ∧ lo ≤ 1000000 ∧ -1000000 ≤ e ∧ e ≤ 1000000) (Pv : Nat → L2.St → Hp → Prop) (h0 : Pv 0 σ H)
    (hs : ∀ i σ H, i < n → Pv i σ H → g (.int (lo + (i : Int))) σ H fun σ2 H2 => tb { D with nx := Pv (i + 1), ct := Pv (i + 1), bk := D.nx } σ2 H2) (hd : ∀ σ H, Pv n σ H → D.nx σ H) : Rng2K (ForK g tb D σ) [.int lo, .int e] H := by
  refine ⟨lo, e, rfl, ⟨by omega, by omega, by omega, by omega⟩, ?_⟩
  rw [he]
  exact for_range (lo := lo) (n := n) Pv h0 (fun i σ H1 hi p => hs i σ H1 hi p) hd
end Z

namespace Z
open PySem L2
/-! reversed(range(n)) -/
def RevRK (R : It → Hp → Prop) (a b : Int) (H1 : Hp) : Prop := -(2 ^ 62) ≤ a ∧ a < 2 ^ 62 ∧ -(2 ^ 62) ≤ b ∧ b < 2 ^ 62 ∧ R (Itc (a + (((b - a).toNat : Nat) : Int) - 1) (-1) (b - a).toNat) H1
theorem irevr {tr : L2.St → Hp → (Int → Int → Hp → Prop) → Prop} {σ : L2.St} {H : Hp} {R : It → Hp → Prop} (h : tr σ H (RevRK R)) : iRevR tr σ H R := h
def Rg1K (R : Int → Int → Hp → Prop) (x : V) (H1 : Hp) : Prop := ∃ n : Int, x = .int n ∧ R 0 n H1
theorem rg1 {ta : TE} {σ : L2.St} {H : Hp} {R : Int → Int → Hp → Prop} (h : ta σ H (Rg1K R)) : tRg1 ta σ H R := h
theorem forrv {σ : L2.St} {H : Hp} {D : Ends} {g : TG} {tb : TS} {e : Int} (n : Nat) (he : e = (n : Int)) (hb : n < 4611686018427387904) (Pv : Nat → L2.St → Hp → Prop) (h0 : Pv 0 σ H)
    (hs : ∀ i σ H, i < n → Pv i σ H → g (.int ((n - 1 - i : Nat) : Int)) σ H fun σ2 H2 => tb { D with nx := Pv (i + 1), ct := Pv (i + 1), bk := D.nx } σ2 H2) (hd : ∀ σ H, Pv n σ H → D.nx σ H) : Rg1K (RevRK (ForK g tb D σ)) (.int e) H := by
  subst he
  refine ⟨(n : Int), rfl, by omega, by omega, by omega, by omega, ?_⟩
  rw [show ((n : Int) - 0).toNat = n by omega]
  refine for_rangeC Pv h0 (fun i σ H1 hi p => ?_) hd
  rw [show (0 + (n : Int) - 1 + (i : Int) * -1) = ((n - 1 - i : Nat) : Int) by omega]
  exact hs i σ H1 hi p
end Z

/-! ### math.lcm -/
namespace RL
open PySem PySem.Spec PyProof.Rows L2
def rLcm : List V → Hp → VK → Prop := fun vs H Q => ∃ a b : Int, vs = [.int a, .int b] ∧ a.natAbs < 2 ^ 6000 ∧ b.natAbs < 2 ^ 6000 ∧ Q (.int ((Nat.lcm a.natAbs b.natAbs : Nat) : Int)) H
theorem lcm_le (a b : Nat) : Nat.lcm a b ≤ a * b := by
  by_cases h : a * b = 0
  · rcases Nat.mul_eq_zero.mp h with h | h <;> subst h <;> simp
  · exact Nat.le_of_dvd (Nat.pos_of_ne_zero h) (Nat.lcm_dvd_mul a b)
theorem cr_lcm {X : Cx} : CallR X (.builtin "math.lcm") rLcm := by
  intro pins s σ H vs us Q I r h
  obtain ⟨a, b, rfl, ha, hb, q⟩ := h
  obtain ⟨t, u, rfl⟩ := Vals.int2 r
  have e1 : Nat.lcm 1 a.natAbs = a.natAbs := by simp
  have hp : (1 : Nat) < 2 ^ 6000 := Nat.one_lt_two_pow (by decide)
  have l1 : (max 1 a.natAbs).log2 ≤ 5999 := PySem.W.mg_log (k := 5999) (Nat.max_lt.mpr ⟨hp, ha⟩)
  have l2 : (max a.natAbs b.natAbs).log2 ≤ 5999 := PySem.W.mg_log (k := 5999) (Nat.max_lt.mpr ⟨ha, hb⟩)
  have hm : a.natAbs * b.natAbs < 2 ^ (6000 + 6000) := by
    rw [Nat.pow_add]
    exact Nat.mul_lt_mul'' ha hb
  have l3 : ((((Nat.lcm 1 a.natAbs).lcm b.natAbs : Nat) : Int)).natAbs.log2 < bitsLine := by
    rw [e1, Int.natAbs_natCast]
    have := PySem.W.mg_log (k := 11999) (Nat.lt_of_le_of_lt (lcm_le a.natAbs b.natAbs) hm)
    exact Nat.lt_of_le_of_lt this (by decide)
  have g := PySem.W.mg_run_lcm a t b u (by omega) (by omega) l3
  rw [e1] at g
  exact call_function_meets PySem.W.MGF.kind_lcm PySem.W.MGF.plain_lcm PySem.W.MGF.entry_lcm (PySem.W.MGF.args_lcm _ _) g.meets ⟨.int _, H, I.tok _, ⟨_, rfl⟩, q⟩
end RL

/-! ### sorted(xs, key=lambda x: x[0]) -/
namespace LamK
open PySem PySem.Spec PyProof.Rows L2 LamX PySem.W
/-- a lambda's names: its parameter alone, and globals -/
structure KeyS (scope : Scope) (x : Str) : Prop where
  kind : scope.kind = .function
  co : scope.isCoroutine = false
  gen : scope.isGenerator = false
  own : ∀ y ∈ scope.names, y.2 ≠ .cell ∧ y.2 ≠ .free
  loc : scope.names.lookup x = some .local
def keySB (scope : Scope) (x : Str) : Bool := decide (scope.kind = .function) && !scope.isCoroutine && !scope.isGenerator && (scope.names.all fun y => !decide (y.2 = .cell) && !decide (y.2 = .free)) && decide (scope.names.lookup x = some .local)
theorem keyS_by {scope : Scope} {x : Str} (h : keySB scope x = true) : KeyS scope x := by
  unfold keySB at h
  simp only [Bool.and_eq_true, Bool.not_eq_true', decide_eq_true_eq, decide_eq_false_iff_not, List.all_eq_true] at h
  obtain ⟨⟨⟨⟨h1, h2⟩, h3⟩, h4⟩, h5⟩ := h
  exact ⟨h1, h2, h3, h4, h5⟩
section
variable {prog : Program} {w : World} {A : Around} {s : Shared}
theorem key_call {f c' t : Addr} {name qual : Str} {params : Arguments} {scope : Scope} {cl : List (Str × Addr)} {pm ctv : Value} {x : Str} {j : Nat} {p1 p2 p3 : Pos} {its : Array Value} {u : Value} {k : PyData}
    (ho : s.heap.get? f = some (PySem.W.kla_obj name qual params (.Subscript (.Name x p1) (.Constant (.int 0) j p2) p3) scope cl pm c' ctv)) (hcd : s.heap.CodeRec (.ref c') qual) (hroom : A.depth < recursionLimit) (hl : s.heap.NoLimit)
    (hbind : bindArgs (PySem.W.kla_fn name qual params (.Subscript (.Name x p1) (.Constant (.int 0) j p2) p3) scope cl pm (.ref c') ctv) ⟨[.ref t], []⟩ = pure [(x, .ref t)])
    (S : KeyS scope x) (ht : IsTup s.heap t its) (hu : its[0]? = some u) (hk : Reads s.heap u k []) (hd : (x == ("__debug__" : Str)) = false) :
    wpAny (model prog w) A (call (.ref f) [.ref t]) (PySem.W.KeyPure k s) (fun _ _ => False) s := by
  refine wpAny_call (codeAny_mono (R := fun r s' => ∃ v, r = .ok (.ret v) ∧ PySem.W.KeyPure k s v s') ?_ fun r s' hq => ?_)
  · refine PySem.W.kla_callFunE hroom ho rfl S.co S.gen rfl hcd ?_
    rw [hbind]
    refine wpAny_pure (wpAny_newFunctionEnv (fun y hy => (S.own y hy).1) (fun y hy => ?_) (fun h₁ hns hsb => ⟨hl.fresh _ hsb, ?_⟩) S.kind)
    · rw [List.mem_singleton.mp hy]
      exact S.loc
    · have kp : ∀ b o, s.heap.get? b = some o → h₁.get? b = some o := fun b o e => hsb.extBut b o (Nat.ne_of_lt (Heap.lt_size e)) (Heap.get?_push_of_some _ e)
      have ht1 : IsTup h₁ t its := ht.keeps kp
      refine PySem.W.kla_codeExpr ?_
      refine Subscript_ ?_
      refine wpAny_Name (wpAny_loadName_local (v := .ref t) S.kind S.loc hns (by simp) ?_) hd
      refine wpAny_Constant_int ?_
      refine subscriptTail_builtinR (x := u) ht1.typeIs slot_tuple_getitem.lookup (getItem_tuple (j := 0) ht1 (by decide) (by decide) (seqIndex_of (by decide) (by have := (Array.getElem?_eq_some_iff.mp hu).1; omega)) hu ⟨rfl, ?_⟩)
      refine ⟨u, rfl, h₁, _, rfl, kp, PyProof.Rows.Reads.keeps kp hk⟩
  · obtain ⟨v, rfl, h⟩ := hq
    exact h
end
mutual
/-- data without lists and dicts -/
def noLst : PyData → Bool
  | .list _ => false
  | .dict _ => false
  | .tuple xs => noLstAll xs
  | .none => true
  | .bool _ => true
  | .int _ => true
  | .str _ => true
def noLstAll : List PyData → Bool
  | [] => true
  | d :: ds => noLst d && noLstAll ds
end
mutual
theorem reads_flat {h : Heap} : ∀ (d : PyData) {v : Value} {as : List Addr}, noLst d = true → Reads h v d as → as = []
  | .none, _, _, _, .none => rfl
  | .bool _, _, _, _, .bool _ => rfl
  | .int _, _, _, _, .int _ _ => rfl
  | .str _, _, _, _, .str _ _ => rfl
  | .list _, _, _, z, _ => by simp [noLst] at z
  | .dict _, _, _, z, _ => by simp [noLst] at z
  | .tuple xs, _, _, z, .tuple _ _ _ r => reads_flatAll xs (by simpa [noLst] using z) r
theorem reads_flatAll {h : Heap} : ∀ (ds : List PyData) {vs : List Value} {as : List Addr}, noLstAll ds = true → ReadsAll h vs ds as → as = []
  | [], _, _, _, .nil => rfl
  | d :: ds, _, _, z, .cons r rs => by
    have z' : noLst d = true ∧ noLstAll ds = true := by simpa [noLstAll] using z
    rw [reads_flat d z'.1 r, reads_flatAll ds z'.2 rs]
    rfl
end
/-- the rows at ts are tuples, the first items the keys ds -/
def KeyRows (K : PySem.W.Frag) (H : Hp) (bs : List (Addr × PyData)) : Prop := ∀ b ∈ bs, noLst b.2 = true ∧ b.2.depth ≤ 60 ∧ ∃ xs y, SqT K H b.1 xs ∧ xs[0]? = some y ∧ Dp K H y b.2
def KeyOk (ds : List PyData) : Prop := PySem.W.AllAlike ds ∧ PySem.W.Sortable ds
def tSortLam (K : PySem.W.Frag) (T : List (Addr × Str)) (t : TA) : TE := fun σ H Q => t σ H fun vs H1 => Tabs T H1 ∧ ∃ (a : Addr) (bs : List (Addr × PyData)), vs = [.ref a] ∧ SqL K H1 a (bs.map fun b => V.ref b.1) ∧ KeyRows K H1 bs ∧ KeyOk (bs.map Prod.snd) ∧
  ∀ H2 l, ExtN H1 H2 → Tabs T H2 → H2 l = none → Q (.ref l) (upd H2 l (.lst ((bs.mergeSort (PySem.W.dataLe false Prod.snd)).map fun b => V.ref b.1)))
theorem ext_rd {H H' : Hp} (e : ExtN H H') {a : Addr} {u : HO} (n : ∀ ps, u ≠ .tbl ps) (h : Rd H a u) : Rd H' a u := by
  rcases h with h | ⟨o, h⟩
  · exact .inl (e _ _ h n)
  · exact .inr ⟨o, e _ _ h fun ps z => by cases z⟩
theorem ext_seq {K : PySem.W.Frag} {H H' : Hp} (e : ExtN H H') {a : Addr} {xs : List V} (h : SqL K H a xs) : SqL K H' a xs := h.elim (fun h => .inl (ext_rd e (fun ps z => by cases z) h)) .inr
theorem ext_tup {K : PySem.W.Frag} {H H' : Hp} (e : ExtN H H') {a : Addr} {xs : List V} (h : SqT K H a xs) : SqT K H' a xs := h.elim (fun h => .inl (ext_rd e (fun ps z => by cases z) h)) .inr
mutual
theorem ext_dp {K : PySem.W.Frag} {H H' : Hp} (e : ExtN H H') : ∀ (d : PyData) {v : V}, Dp K H v d → Dp K H' v d
  | .none, _, .non => .non
  | .bool _, _, .bl b => .bl b
  | .int _, _, .int i => .int i
  | .str _, _, .str x => .str x
  | .list ds, _, .lst h r => .lst (ext_seq e h) (ext_dpAll e ds r)
  | .tuple ds, _, .tup h r => .tup (ext_tup e h) (ext_dpAll e ds r)
theorem ext_dpAll {K : PySem.W.Frag} {H H' : Hp} (e : ExtN H H') : ∀ (ds : List PyData) {vs : List V}, DpAll K H vs ds → DpAll K H' vs ds
  | [], _, .nil => .nil
  | d :: ds, _, .cons h r => .cons (ext_dp e d h) (ext_dpAll e ds r)
end
theorem ext_rows {K : PySem.W.Frag} {H H' : Hp} (e : ExtN H H') {bs : List (Addr × PyData)} (h : KeyRows K H bs) : KeyRows K H' bs := fun b hb => by
  obtain ⟨h1, h2, xs, y, h3, h4, h5⟩ := h b hb
  exact ⟨h1, h2, xs, y, ext_tup e h3, h4, ext_dp e _ h5⟩
theorem vals_refs : ∀ {bs : List (Addr × PyData)} {us : List Value}, Vals (bs.map fun b => V.ref b.1) us → us = bs.map fun b => Value.ref b.1
  | [], _, .nil => rfl
  | b :: bs, _, .cons r rs => by
    obtain rfl : _ = Value.ref b.1 := r
    rw [vals_refs rs]
    rfl
theorem refs_vals : ∀ bs : List (Addr × PyData), Vals (bs.map fun b => V.ref b.1) (bs.map fun b => Value.ref b.1)
  | [] => .nil
  | _ :: bs => .cons rfl (refs_vals bs)
def KeyAt (h : Heap) (v : Value) (b : Addr × PyData) : Prop := v = .ref b.1 ∧ ∃ its u, IsTup h b.1 its ∧ its[0]? = some u ∧ Reads h u b.2 []
theorem each_at {h : Heap} : ∀ {bs : List (Addr × PyData)}, (∀ b ∈ bs, KeyAt h (.ref b.1) b) → PySem.W.EachIs (KeyAt h) (bs.map fun b => Value.ref b.1) bs
  | [], _ => .nil
  | b :: bs, z => .cons (z b (by simp)) (each_at (bs := bs) fun x hx => z x (by simp [hx]))
theorem each_refs {h : Heap} : ∀ {us : List Value} {bs : List (Addr × PyData)}, PySem.W.EachIs (KeyAt h) us bs → us = bs.map fun b => Value.ref b.1
  | _, _, .nil => rfl
  | _, _, .cons r rs => by rw [r.1, each_refs rs]; rfl
theorem pe_sortLam {X : Cx} {T : List (Addr × Str)} {c P : Addr} {e : Expr} {t : TA} {x : Str} {j k : Nat} {params : Arguments} {scope : Scope} {lpos p1 p2 p3 kpos p pos : Pos} (hg : Gl X "sorted") (hm : X.mg "sorted" = none) (ha : PA X [e] t)
    (TB : TabB X.base X.mg c P) (hcode : X.env.code = .ref c) (hmT : (P, X.env.qual ++ "<lambda>") ∈ T) (hu : ∀ q ∈ T, q.1 = P → q.2 = X.env.qual ++ "<lambda>") (hr : Room k X.A) (S : KeyS scope x) (hdef : defaultsOf params X.env = ([], []))
    (hbind : ∀ (q : Str) (cl : List (Str × Addr)) (pm cv ctv v : Value), bindArgs (PySem.W.kla_fn "<lambda>" q params (.Subscript (.Name x p1) (.Constant (.int 0) j p2) p3) scope cl pm cv ctv) ⟨[v], []⟩ = pure [(x, v)])
    (hd : (x == ("__debug__" : Str)) = false := by decide) (hst : starEach [e] X.env = (false, eval e X.env) :: starEach [] X.env := by rfl) :
    PE X (.Call (.Name "sorted" p) [e] [⟨some "key", .Lambda params (.Subscript (.Name x p1) (.Constant (.int 0) j p2) p3) scope lpos, kpos⟩] pos) (tSortLam X.K T t) := by
  refine ⟨fun pins s σ H Q I h => ?_⟩
  refine wpAny_Call_Name_kw (ld_blt I hg hm PyProof.Rows.boot_sorted ?_ (by decide) (by decide))
  refine PyProof.Rows.callWith_kw ?_ (by rw [hst]; rfl) (by rw [hst]; rfl) (by rfl) (by rfl)
  refine thn (ha.run pos pins s σ H _ I h) fun us s1 ⟨vs, H1, I1, r1, q1⟩ => ?_
  obtain ⟨hT, a, bs, rfl, hS, hK, hO, q⟩ := q1
  obtain rfl := Vals.ref1 r1
  show wpAny _ _ (evalAll ((do let v ← eval (.Lambda params (.Subscript (.Name x p1) (.Constant (.int 0) j p2) p3) scope lpos) X.env; standAt pos; pure v) :: [])) _ _ s1
  refine wpAny_evalAll_cons (wpAny_bind (lam_make2 I1 TB hcode hmT hu hT hdef (fun y hy z => absurd z (S.own y hy).2) fun f c' pm ctv H2 s2 I2 eN T2 hf hfn hfr hco => ?_))
  refine wpAny_bind (wpAny_standAt (wpAny_pure ?_))
  refine wpAny_evalAll_nil ?_
  obtain ⟨⟨oc, us, t, hoc, hdc, hvc⟩, _, _⟩ := I2.hok c' _ hco
  have kS := ext_seq eN hS
  have kR := ext_rows eN hK
  obtain ⟨its, rv, hl, hz⟩ := I2.list kS
  obtain rfl := vals_refs rv
  rw [List.length_map] at hz
  have room := hr.dp
  have roomU := hr.un
  have dpt : X.A.in1.in1.depth = X.A.depth := rfl
  have lim := I2.nolimit
  refine PySem.W.sorted_key_data (b := false) (R := KeyAt s2.heap) (bs := bs) (f := .ref f) (fun b : Addr × PyData => b.2) hl.isList (each_at fun b hb => ⟨rfl, ?_⟩) hO.1 hO.2 hz (fun b hb => ?_) (ksk_s1 _ _) (fun _ => ksk_l1 _ _) (fun _ => ksk_t1 _ _) (fun v b ⟨ev, its, u, ht, hu, hk⟩ hb h tk kp => ?_) fun out cc h' tk kp fresh hD hlen eo => ?_
  · obtain ⟨h1, h2, xs, y, h3, h4, h5⟩ := kR b hb
    obtain ⟨its, rv, pt, _⟩ := I2.tuple h3
    obtain ⟨u, hu, ru⟩ := rv.get h4
    obtain ⟨as, rd⟩ := Dp.reads I2 _ _ _ h5 ru
    rw [reads_flat _ h1 rd] at rd
    exact ⟨_, u, pt, by simpa using hu, rd⟩
  · have := (kR b hb).2.1
    omega
  · subst ev
    refine key_call (s := { s2 with heap := h, toks := tk }) (kp _ _ hf) ⟨c', oc, us, t, rfl, kp _ _ hoc, hdc, hvc⟩ (by rw [dpt]; omega) (lim.keeps kp) (hbind _ _ _ _ _ _) S (ht.keeps kp) hu (PyProof.Rows.Reads.keeps kp hk) hd
  · obtain rfl := each_refs eo
    refine ⟨.ref (s2.heap.objs.size + 1), _, I2.laid (t' := tk) kp (Nat.le_succ _) (o := .lst ((bs.mergeSort (PySem.W.dataLe false Prod.snd)).map fun b => V.ref b.1)) ⟨?_, _, cc, refs_vals _, hD⟩, rfl, q _ _ eN T2 (I2.hok.fresh (Nat.le_succ _))⟩
    rw [List.length_map, List.length_mergeSort]
    exact hz
end LamK
namespace LamK
open PySem PySem.Spec PyProof.Rows L2 LamX
/-- a def that makes lambdas: its code object stands at c -/
def CodeFn (K : PySem.W.Frag) (f : Addr) (fd : FuncData) (st : Stmt) (x : Str) (c : Addr) : Prop :=
  ∃ (oc : Value) (od : Option Addr) (kV doc pm : Value) (an : Option Addr) (ct : Value) (osl : Array (Option Value)),
    fd = PySem.W.fnOf x x (defArgs st) (defBody st) (defScope st) .none kV doc pm an (.ref c) ct ∧ K.lookup f = some ⟨oc, od, .func fd, osl⟩ ∧ PySem.W.codeIn K (.ref c) x = true
/-- at l nothing is tracked, but for a table -/
def Nw (H : Hp) (l : Addr) : Prop := ∀ o, H l = some o → ∃ ps, o = .tbl ps
theorem Nw.of {H : Hp} {l : Addr} (h : H l = none) : Nw H l := fun o e => by rw [h] at e; cases e
theorem Nw.back {H H1 : Hp} {l : Addr} (h : Nw H1 l) (e : ExtN H H1) : Nw H l := fun o ho => by
  by_cases z : ∀ ps, o ≠ .tbl ps
  · obtain ⟨ps, q⟩ := h o (e l o ho z)
    exact absurd q (z ps)
  · simp only [Classical.not_forall, Classical.not_not, ne_eq] at z
    exact z
theorem Nw.ne {H : Hp} {l b : Addr} {o : HO} (h : Nw H l) (e : H b = some o) (n : ∀ ps, o ≠ .tbl ps) : b ≠ l := fun z => by
  rw [z] at e
  obtain ⟨ps, q⟩ := h o e
  exact n ps q
/-- what srt asks where the rows are read -/
def SrtK (K : PySem.W.Frag) (T : List (Addr × Str)) (Q : VK) : List V → Hp → Prop := fun vs H1 => Tabs T H1 ∧ ∃ (a : Addr) (bs : List (Addr × PyData)), vs = [.ref a] ∧ SqL K H1 a (bs.map fun b => V.ref b.1) ∧ KeyRows K H1 bs ∧ KeyOk (bs.map Prod.snd) ∧
  ∀ H2 l, ExtN H1 H2 → Tabs T H2 → H2 l = none → Q (.ref l) (upd H2 l (.lst ((bs.mergeSort (PySem.W.dataLe false Prod.snd)).map fun b => V.ref b.1)))
theorem srt {K : PySem.W.Frag} {T : List (Addr × Str)} {t : TA} {σ : L2.St} {H : Hp} {Q : VK} (h : t σ H (SrtK K T Q)) : tSortLam K T t σ H Q := h
theorem tabs_none {T : List (Addr × Str)} {H : Hp} {l : Addr} {o : HO} (t : Tabs T H) (h : H l = none) : Tabs T (upd H l o) := t.ext fun b u e => by rw [upd_ne (fun z => by rw [z, h] at e; cases e)]; exact e
theorem srtK {K : PySem.W.Frag} {T : List (Addr × Str)} {H : Hp} {Q : VK} {a : Addr} {bs : List (Addr × PyData)} (hT : Tabs T H) (hS : SqL K H a (bs.map fun b => V.ref b.1)) (hK : KeyRows K H bs) (hO : KeyOk (bs.map Prod.snd))
    (q : ∀ H3 l, ExtN H H3 → Tabs T H3 → Nw H l → H3 l = some (.lst ((bs.mergeSort (PySem.W.dataLe false Prod.snd)).map fun b => V.ref b.1)) → Q (.ref l) H3) : SrtK K T Q [.ref a] H :=
  ⟨hT, a, bs, rfl, hS, hK, hO, fun H2 l e t n => q _ l (fun b o h z => by
      have h2 := e b o h z
      rw [upd_ne (fun z => by rw [z, n] at h2; cases h2)]
      exact h2) (tabs_none t n) (Nw.back (Nw.of n) e) upd_same⟩
theorem ext_kp {H H' : Hp} (k : Z.Kp [] H H') : ExtN H H' := fun b o h _ => k b o (by simp) h
theorem ext_put {H H1 H2 : Hp} {l : Addr} (e : ExtN H H1) (k : Z.Kp [l] H1 H2) (n : Nw H l) : ExtN H H2 := fun b o h z => k b o (by
  intro y
  exact n.ne h z (List.mem_singleton.mp y)) (e b o h z)
theorem tabs_kp {T : List (Addr × Str)} {H H' : Hp} (t : Tabs T H) (k : Z.Kp [] H H') : Tabs T H' := t.ext fun b o h => k b o (by simp) h
/-- a list at l is written: tables stay -/
theorem tabs_put {T : List (Addr × Str)} {H H' : Hp} {l : Addr} {xs : List V} (t : Tabs T H) (k : Z.Kp [l] H H') (h : H l = some (.lst xs)) : Tabs T H' := fun p hp => by
  obtain ⟨ps, h1, h2, h3⟩ := t p hp
  have at' : ∀ {b : Addr} {o : HO}, H b = some o → o ≠ .lst xs → H' b = some o := fun {b o} e n => k b o (by
    intro y
    rw [List.mem_singleton.mp y, h] at e
    exact n (Option.some.inj e).symm) e
  exact ⟨ps, at' h1 (by simp), h2, fun pos cv hc => let ⟨c, e1, e2⟩ := h3 pos cv hc; ⟨c, e1, at' e2 (by unfold CodeO; simp)⟩⟩
theorem ext_get {H H' : Hp} (e : ExtN H H') {b : Addr} {o : HO} (h : H b = some o) (n : ∀ ps, o ≠ .tbl ps := by intro ps; simp) : H' b = some o := e b o h n
/-- o.m() within a try -/
def tMethX (C : Addr) (m : Str) (sp : Sp) (E : L2.St → XK) (ta : TE) : TE := fun σ H Q => ta σ H fun x H1 => ∃ a dx fs, x = .ref a ∧ H1 a = some (.ins C dx fs) ∧ fs.lookup m = none ∧ sp [x] H1 Q (E σ)
theorem pe_meth0X {X : Cx} {CX : CXT} {k : Nat} {f C : Addr} {fd : FuncData} {ps : List Str} {sp : Sp} {E : L2.St → XK} {m : Str} {pos apos : Pos} {o : Expr} {ta : TE} {pl : Sem Bool} (he : PE X o ta) (c : Cls X.K C) (hm : Meth X.K C m f) (F : FnOk X.prog X.w X.K X.mg X.base CX k f fd ps sp) (hr : Room k X.A) (hb : Binds X.K fd ps []) (hx : ∀ σ, PassesAt CX X σ (E σ))
    (ht : eval (.Call (.Attribute o m apos) [] [] pos) X.env = (do
      let ov ← eval o X.env
      standAt apos.atName
      let (f, first) ← holding [ov] (getMethod ov m pl)
      callWith pos f first (backTo pos (starEach [] X.env)) (backToKw pos (keywordEach [] X.env))) := by rfl) : PE X (.Call (.Attribute o m apos) [] [] pos) (tMethX C m sp E ta) := by
  refine ⟨fun pins s σ H Q I h => PySem.W.methodCall_KW (pl := pl) (thn (he.run pins s σ H _ I h) fun u s1 ⟨x, H1, I1, rx, a, dx, fs, ex, ea, l, q⟩ => ?_) ht⟩
  subst ex
  obtain rfl : u = Value.ref a := rx
  exact getmeth_ok I1 ea c hm l (PySem.W.callWith_K0 (first := [.ref a]) I1.kIn hm.kp (run_fnS (us := [.ref a]) (vs := [.ref a]) F hr hb (hx σ) I1 (.cons rfl .nil) q))
theorem methX {C : Addr} {m : Str} {sp : Sp} {E : L2.St → XK} {ta : TE} {σ : L2.St} {H : Hp} {Q : VK} (h : ta σ H fun x H1 => ∃ a dx fs, x = .ref a ∧ H1 a = some (.ins C dx fs) ∧ fs.lookup m = none ∧ sp [x] H1 Q (E σ)) : tMethX C m sp E ta σ H Q := h
end LamK

/-! ### sorted(xs, key=lambda x: x[0] * 10 ** 30 // max(1, x[1])) -/
namespace LamQ
open PySem PySem.Spec PyProof.Rows L2 LamX PySem.W LamK
abbrev qBody (x : Str) (j0 j1 j10 j30 jm : Nat) (a1 a2 a3 b1 b2 b3 c1 c2 c3 d1 d2 d3 d4 e1 e2 : Pos) : Expr :=
  .BinOp (.BinOp (.Subscript (.Name x a1) (.Constant (.int 0) j0 a2) a3) .Mult (.BinOp (.Constant (.int 10) j10 b1) .Pow (.Constant (.int 30) j30 b2) b3) c1) .FloorDiv
    (.Call (.Name "max" c2) [.Constant (.int 1) jm c3, .Subscript (.Name x d1) (.Constant (.int 1) j1 d2) d3] [] d4) e1
structure KeyQ (scope : Scope) (x : Str) : Prop extends KeyS scope x where
  mx : scope.names.lookup ("max" : Str) = some NameKind.globalImplicit
def keyQB (scope : Scope) (x : Str) : Bool := keySB scope x && decide (scope.names.lookup ("max" : Str) = some NameKind.globalImplicit)
theorem keyQ_by {scope : Scope} {x : Str} (h : keyQB scope x = true) : KeyQ scope x := by
  unfold keyQB at h
  simp only [Bool.and_eq_true, decide_eq_true_eq] at h
  exact ⟨keyS_by h.1, h.2⟩
/-- the key of a row (p, q) -/
def qKey (p q : Int) : Int := (p * 10 ^ 30) / (max 1 q)
section
variable {prog : Program} {w : World} {A : Around} {s : Shared} {E : Value → Shared → Prop}
/-- the heap only grows -/
def Grew (s s' : Shared) : Prop := ∃ h' tk, s' = { s with heap := h', toks := tk } ∧ ∀ b o, s.heap.get? b = some o → h'.get? b = some o
theorem Grew.refl (s : Shared) : Grew s s := ⟨_, _, rfl, fun _ _ e => e⟩
theorem Grew.trans {a b c : Shared} (x : Grew a b) (y : Grew b c) : Grew a c := by
  obtain ⟨h1, t1, rfl, k1⟩ := x
  obtain ⟨h2, t2, rfl, k2⟩ := y
  exact ⟨h2, t2, rfl, fun b o e => k2 b o (k1 b o e)⟩
def IntP (i : Int) (s : Shared) : Value → Shared → Prop := fun v s' => Grew s s' ∧ ∃ t, v = .int i t
theorem sub_int {env : Env} {x : Str} {t : Addr} {its : Array Value} {i : Int} {u : Tok} {j : Nat} {k : Nat} {p1 p2 p3 : Pos} {m : Str → Option Value} {s0 : Shared} (g : Grew s0 s) (hk : env.scope.kind = .function) (hl : env.scope.names.lookup x = some .local) (hns : s.heap.Ns env.locals m)
    (hx : m x = some (.ref t)) (ht : IsTup s.heap t its) (hu : its[j]? = some (.int i u)) (hd : (x == ("__debug__" : Str)) = false) (hj : j < 2) :
    wpAny (model prog w) A (eval (.Subscript (.Name x p1) (.Constant (.int (j : Int)) k p2) p3) env) (IntP i s0) E s := by
  refine Subscript_ ?_
  refine wpAny_Name (wpAny_loadName_local (v := .ref t) hk hl hns hx ?_) hd
  refine wpAny_Constant_int ?_
  refine subscriptTail_builtinR (x := .int i u) ht.typeIs slot_tuple_getitem.lookup (getItem_tuple (j := j) ht (by omega) (by omega) (seqIndex_of (by omega) (by have := (Array.getElem?_eq_some_iff.mp hu).1; omega)) hu ⟨rfl, ?_⟩)
  exact ⟨g.trans ⟨s.heap, _, rfl, fun _ _ e => e⟩, u, rfl⟩
theorem pick_max {q : Int} {a b : Tok} : (if q > 1 then Value.int q a else Value.int 1 b) = Value.int (max 1 q) (if q > 1 then a else b) := by
  by_cases z : q > 1
  · rw [if_pos z, if_pos z, show max 1 q = q by omega]
  · rw [if_neg z, if_neg z, show max 1 q = 1 by omega]
theorem max_pos (q : Int) : 0 < max 1 q := by omega
theorem body_int {env : Env} {x : Str} {t : Addr} {its : Array Value} {p q : Int} {u0 u1 : Tok} {m mg mb : Str → Option Value} {j0 j1 j10 j30 jm : Nat} {a1 a2 a3 b1 b2 b3 c1 c2 c3 d1 d2 d3 d4 e1 e2 : Pos} (hk : env.scope.kind = .function) (hl : env.scope.names.lookup x = some .local) (hmx : env.scope.names.lookup ("max" : Str) = some NameKind.globalImplicit)
    (hns : s.heap.Ns env.locals m) (hx : m x = some (.ref t)) (ht : IsTup s.heap t its) (h0 : its[0]? = some (.int p u0)) (h1 : its[1]? = some (.int q u1)) (hd : (x == ("__debug__" : Str)) = false)
    (hg : s.heap.Ns env.globals mg) (hmm : mg "max" = none) (hb : s.heap.Ns env.builtins mb) (hv : mb "max" = some (.builtin "max")) (hh : A.handled = none) (hM : IntMulOk p (10 ^ 30)) (hD : (max 1 q).natAbs.log2 < 9000) :
    wpAny (model prog w) A (eval (qBody x j0 j1 j10 j30 jm a1 a2 a3 b1 b2 b3 c1 c2 c3 d1 d2 d3 d4 e1 e2) env) (IntP (qKey p q) s) E s := by
  refine wpAny_BinOp (wpAny_BinOp ?_)
  refine wpAny_mono (sub_int (j := 0) (Grew.refl s) hk hl hns hx ht h0 hd (by omega)) (fun v s1 ⟨⟨H1, k1, e1, g1⟩, t1, ev⟩ => ?_) (fun _ _ h => h)
  subst ev
  subst e1
  refine wpAny_BinOp (wpAny_Constant_int (wpAny_Constant_int (PyProof.Rows.pow_int_small (by decide) (by decide) (by decide) ?_)))
  refine PyProof.Rows.mul_int ?_ hM
  refine wpAny_Call_Name_kw (Calls.Name_function_global hk hmx (Calls.loadGlobal_builtin (hg.keeps g1) hmm (hb.keeps g1) hv ?_))
  refine PyProof.Rows.callWith_builtin1 ?_
  show wpAny _ _ (spliced ((false, eval (.Constant (.int 1) jm c3) env) :: (false, eval (.Subscript (.Name x d1) (.Constant (.int 1) j1 d2) d3) env) :: [])) _ _ _
  refine Calls.spliced_cons (wpAny_Constant_int ?_)
  refine Calls.spliced_cons ?_
  refine wpAny_mono (sub_int (j := 1) (Grew.refl _) hk hl (hns.keeps g1) hx (ht.keeps g1) h1 hd (by omega)) (fun v s2 ⟨⟨H2, k2, e2, g2⟩, t2, ev⟩ => ?_) (fun _ _ h => h)
  subst ev
  subst e2
  refine Calls.spliced_nil ?_
  refine max_two_ints hh fun h' tk k => ?_
  rw [pick_max]
  refine PyProof.Rows.floordiv_int (by have := max_pos q; omega) ?_ (.inl (PyProof.noPylong_of_log2 hD))
  have eQ : Int.fdiv (p * 10 ^ Int.toNat 30) (max 1 q) = qKey p q := Int.fdiv_eq_ediv_of_nonneg _ (by have := max_pos q; omega)
  rw [eQ]
  exact ⟨⟨_, _, rfl, fun b o e => k b o (g2 b o (g1 b o e))⟩, _, rfl⟩
theorem key_callQ {f c' t : Addr} {name qual : Str} {params : Arguments} {scope : Scope} {cl : List (Str × Addr)} {pm ctv : Value} {x : Str} {mg mb : Str → Option Value} {j0 j1 j10 j30 jm : Nat} {a1 a2 a3 b1 b2 b3 c1 c2 c3 d1 d2 d3 d4 e1 e2 : Pos} {its : Array Value} {p q : Int} {u0 u1 : Tok}
    (ho : s.heap.get? f = some (PySem.W.kla_obj name qual params (qBody x j0 j1 j10 j30 jm a1 a2 a3 b1 b2 b3 c1 c2 c3 d1 d2 d3 d4 e1 e2) scope cl pm c' ctv)) (hcd : s.heap.CodeRec (.ref c') qual) (hroom : A.depth < recursionLimit) (hl : s.heap.NoLimit)
    (hbind : bindArgs (PySem.W.kla_fn name qual params (qBody x j0 j1 j10 j30 jm a1 a2 a3 b1 b2 b3 c1 c2 c3 d1 d2 d3 d4 e1 e2) scope cl pm (.ref c') ctv) ⟨[.ref t], []⟩ = pure [(x, .ref t)])
    (S : KeyQ scope x) (ht : IsTup s.heap t its) (h0 : its[0]? = some (.int p u0)) (h1 : its[1]? = some (.int q u1)) (hd : (x == ("__debug__" : Str)) = false)
    (hg : s.heap.Ns mainGlobals mg) (hmm : mg "max" = none) (hb : s.heap.Ns builtinsNs mb) (hv : mb "max" = some (.builtin "max")) (hh : A.handled = none) (hM : IntMulOk p (10 ^ 30)) (hD : (max 1 q).natAbs.log2 < 9000) :
    wpAny (model prog w) A (call (.ref f) [.ref t]) (PySem.W.KeyPure (.int (qKey p q)) s) (fun _ _ => False) s := by
  refine wpAny_call (codeAny_mono (R := fun r s' => ∃ v, r = .ok (.ret v) ∧ PySem.W.KeyPure (.int (qKey p q)) s v s') ?_ fun r s' hq => ?_)
  · refine PySem.W.kla_callFunE hroom ho rfl S.co S.gen rfl hcd ?_
    rw [hbind]
    refine wpAny_pure (wpAny_newFunctionEnv (fun y hy => (S.own y hy).1) (fun y hy => ?_) (fun h₁ hns hsb => ⟨hl.fresh _ hsb, ?_⟩) S.kind)
    · rw [List.mem_singleton.mp hy]
      exact S.loc
    · have kp : ∀ b o, s.heap.get? b = some o → h₁.get? b = some o := fun b o e => hsb.extBut b o (Nat.ne_of_lt (Heap.lt_size e)) (Heap.get?_push_of_some _ e)
      refine PySem.W.kla_codeExpr ?_
      refine wpAny_mono (body_int (s := { s with heap := h₁, toks := _ }) S.kind S.loc S.mx hns (by simp) (ht.keeps kp) h0 h1 hd (hg.keeps kp) hmm (hb.keeps kp) hv hh hM hD) (fun v s1 ⟨⟨H1, k1, e1, g1⟩, t1, ev⟩ => ?_) (fun _ _ h => h)
      subst ev
      subst e1
      exact ⟨_, rfl, _, _, rfl, fun b o e => g1 b o (kp b o e), .int _ _⟩
  · obtain ⟨v, rfl, h⟩ := hq
    exact h
end
def KeyRowsQ (K : PySem.W.Frag) (H : Hp) (bs : List (Addr × PyData)) : Prop := ∀ b ∈ bs, ∃ p q, b.2 = .int (qKey p q) ∧ IntMulOk p (10 ^ 30) ∧ (max 1 q).natAbs.log2 < 9000 ∧ SqT K H b.1 [.int p, .int q]
def tSortQ (K : PySem.W.Frag) (T : List (Addr × Str)) (t : TA) : TE := fun σ H Q => t σ H fun vs H1 => Tabs T H1 ∧ ∃ (a : Addr) (bs : List (Addr × PyData)), vs = [.ref a] ∧ SqL K H1 a (bs.map fun b => V.ref b.1) ∧ KeyRowsQ K H1 bs ∧ KeyOk (bs.map Prod.snd) ∧
  ∀ H2 l, ExtN H1 H2 → Tabs T H2 → H2 l = none → Q (.ref l) (upd H2 l (.lst ((bs.mergeSort (PySem.W.dataLe false Prod.snd)).map fun b => V.ref b.1)))
theorem ext_rowsQ {K : PySem.W.Frag} {H H' : Hp} (e : ExtN H H') {bs : List (Addr × PyData)} (h : KeyRowsQ K H bs) : KeyRowsQ K H' bs := fun b hb => by
  obtain ⟨p, q, h1, h2, h3, h4⟩ := h b hb
  exact ⟨p, q, h1, h2, h3, ext_tup e h4⟩
def KeyAtQ (h : Heap) (v : Value) (b : Addr × PyData) : Prop := v = .ref b.1 ∧ ∃ its p q u0 u1, IsTup h b.1 its ∧ its[0]? = some (.int p u0) ∧ its[1]? = some (.int q u1) ∧ b.2 = .int (qKey p q) ∧ IntMulOk p (10 ^ 30) ∧ (max 1 q).natAbs.log2 < 9000
theorem each_atQ {h : Heap} : ∀ {bs : List (Addr × PyData)}, (∀ b ∈ bs, KeyAtQ h (.ref b.1) b) → PySem.W.EachIs (KeyAtQ h) (bs.map fun b => Value.ref b.1) bs
  | [], _ => .nil
  | b :: bs, z => .cons (z b (by simp)) (each_atQ (bs := bs) fun x hx => z x (by simp [hx]))
theorem each_refsQ {h : Heap} : ∀ {us : List Value} {bs : List (Addr × PyData)}, PySem.W.EachIs (KeyAtQ h) us bs → us = bs.map fun b => Value.ref b.1
  | _, _, .nil => rfl
  | _, _, .cons r rs => by rw [r.1, each_refsQ rs]; rfl
theorem pe_sortQ {X : Cx} {T : List (Addr × Str)} {c P : Addr} {e : Expr} {t : TA} {x : Str} {j0 j1 j10 j30 jm k : Nat} {params : Arguments} {scope : Scope} {lpos a1 a2 a3 b1 b2 b3 c1 c2 c3 d1 d2 d3 d4 e1 e2 kpos p pos : Pos} (hg : Gl X "sorted") (hm : X.mg "sorted" = none) (ha : PA X [e] t)
    (TB : TabB X.base X.mg c P) (hcode : X.env.code = .ref c) (hmT : (P, X.env.qual ++ "<lambda>") ∈ T) (hu : ∀ q ∈ T, q.1 = P → q.2 = X.env.qual ++ "<lambda>") (hr : Room k X.A) (S : KeyQ scope x) (hdef : defaultsOf params X.env = ([], []))
    (hbind : ∀ (q : Str) (cl : List (Str × Addr)) (pm cv ctv v : Value), bindArgs (PySem.W.kla_fn "<lambda>" q params (qBody x j0 j1 j10 j30 jm a1 a2 a3 b1 b2 b3 c1 c2 c3 d1 d2 d3 d4 e1 e2) scope cl pm cv ctv) ⟨[v], []⟩ = pure [(x, v)])
    (hmax : X.mg "max" = none) (hcalm : X.calm = true) (hd : (x == ("__debug__" : Str)) = false := by decide) (hst : starEach [e] X.env = (false, eval e X.env) :: starEach [] X.env := by rfl) :
    PE X (.Call (.Name "sorted" p) [e] [⟨some "key", .Lambda params (qBody x j0 j1 j10 j30 jm a1 a2 a3 b1 b2 b3 c1 c2 c3 d1 d2 d3 d4 e1 e2) scope lpos, kpos⟩] pos) (tSortQ X.K T t) := by
  refine ⟨fun pins s σ H Q I h => ?_⟩
  refine wpAny_Call_Name_kw (ld_blt I hg hm PyProof.Rows.boot_sorted ?_ (by decide) (by decide))
  refine PyProof.Rows.callWith_kw ?_ (by rw [hst]; rfl) (by rw [hst]; rfl) (by rfl) (by rfl)
  refine thn (ha.run pos pins s σ H _ I h) fun us s1 ⟨vs, H1, I1, r1, q1⟩ => ?_
  obtain ⟨hT, a, bs, rfl, hS, hK, hO, q⟩ := q1
  obtain rfl := Vals.ref1 r1
  show wpAny _ _ (evalAll ((do let v ← eval (.Lambda params (qBody x j0 j1 j10 j30 jm a1 a2 a3 b1 b2 b3 c1 c2 c3 d1 d2 d3 d4 e1 e2) scope lpos) X.env; standAt pos; pure v) :: [])) _ _ s1
  refine wpAny_evalAll_cons (wpAny_bind (lam_make2 I1 TB hcode hmT hu hT hdef (fun y hy z => absurd z (S.own y hy).2) fun f c' pm ctv H2 s2 I2 eN T2 hf hfn hfr hco => ?_))
  refine wpAny_bind (wpAny_standAt (wpAny_pure ?_))
  refine wpAny_evalAll_nil ?_
  obtain ⟨⟨oc, us, t, hoc, hdc, hvc⟩, _, _⟩ := I2.hok c' _ hco
  have kS := ext_seq eN hS
  have kR := ext_rowsQ eN hK
  obtain ⟨its, rv, hl, hz⟩ := I2.list kS
  obtain rfl := vals_refs rv
  rw [List.length_map] at hz
  have room := hr.dp
  have roomU := hr.un
  have dpt : X.A.in1.in1.depth = X.A.depth := rfl
  have lim := I2.nolimit
  refine PySem.W.sorted_key_data (b := false) (R := KeyAtQ s2.heap) (bs := bs) (f := .ref f) (fun b : Addr × PyData => b.2) hl.isList (each_atQ fun b hb => ⟨rfl, ?_⟩) hO.1 hO.2 hz (fun b hb => ?_) (ksk_s1 _ _) (fun _ => ksk_l1 _ _) (fun _ => ksk_t1 _ _) (fun v b ⟨ev, its, p, q, u0, u1, ht, h0, h1, hk, hM, hD⟩ hb h tk kp => ?_) fun out cc h' tk kp fresh hD hlen eo => ?_
  · obtain ⟨p, q, h1, hM, hD, h3⟩ := kR b hb
    obtain ⟨its, rv, pt, _⟩ := I2.tuple h3
    obtain ⟨v0, v1, rfl, ⟨t0, rfl⟩, ⟨t1, rfl⟩⟩ := vals2 rv
    exact ⟨_, p, q, t0, t1, pt, rfl, rfl, h1, hM, hD⟩
  · obtain ⟨p, q, h1, _⟩ := kR b hb
    rw [h1]
    show _ + 0 < _ 
    omega
  · subst ev
    obtain ⟨mb, hb1, hb2⟩ := I2.mod.blt
    rw [hk]
    refine key_callQ (s := { s2 with heap := h, toks := tk }) (kp _ _ hf) ⟨c', oc, us, t, rfl, kp _ _ hoc, hdc, hvc⟩ (by rw [dpt]; omega) (lim.keeps kp) (hbind _ _ _ _ _ _) S (ht.keeps kp) h0 h1 hd ((I2.mod.glob.keeps I2.bk).keeps kp) hmax ((hb1.keeps I2.bk).keeps kp) ((hb2 "max" (by decide)).trans rfl) (I2.ok.hd hcalm) hM hD
  · obtain rfl := each_refsQ eo
    refine ⟨.ref (s2.heap.objs.size + 1), _, I2.laid (t' := tk) kp (Nat.le_succ _) (o := .lst ((bs.mergeSort (PySem.W.dataLe false Prod.snd)).map fun b => V.ref b.1)) ⟨?_, _, cc, refs_vals _, hD⟩, rfl, q _ _ eN T2 (I2.hok.fresh (Nat.le_succ _))⟩
    rw [List.length_map, List.length_mergeSort]
    exact hz
/-- what srtQ asks where the rows are read -/
def SrtQ (K : PySem.W.Frag) (T : List (Addr × Str)) (Q : VK) : List V → Hp → Prop := fun vs H1 => Tabs T H1 ∧ ∃ (a : Addr) (bs : List (Addr × PyData)), vs = [.ref a] ∧ SqL K H1 a (bs.map fun b => V.ref b.1) ∧ KeyRowsQ K H1 bs ∧ KeyOk (bs.map Prod.snd) ∧
  ∀ H2 l, ExtN H1 H2 → Tabs T H2 → H2 l = none → Q (.ref l) (upd H2 l (.lst ((bs.mergeSort (PySem.W.dataLe false Prod.snd)).map fun b => V.ref b.1)))
theorem srtQ {K : PySem.W.Frag} {T : List (Addr × Str)} {t : TA} {σ : L2.St} {H : Hp} {Q : VK} (h : t σ H (SrtQ K T Q)) : tSortQ K T t σ H Q := h
theorem srtQK {K : PySem.W.Frag} {T : List (Addr × Str)} {H : Hp} {Q : VK} {a : Addr} {bs : List (Addr × PyData)} (hT : Tabs T H) (hS : SqL K H a (bs.map fun b => V.ref b.1)) (hK : KeyRowsQ K H bs) (hO : KeyOk (bs.map Prod.snd))
    (q : ∀ H3 l, ExtN H H3 → Tabs T H3 → Nw H l → H3 l = some (.lst ((bs.mergeSort (PySem.W.dataLe false Prod.snd)).map fun b => V.ref b.1)) → Q (.ref l) H3) : SrtQ K T Q [.ref a] H :=
  ⟨hT, a, bs, rfl, hS, hK, hO, fun H2 l e t n => q _ l (fun b o h z => by
      have h2 := e b o h z
      rw [upd_ne (fun z => by rw [z, n] at h2; cases h2)]
      exact h2) (tabs_none t n) (Nw.back (Nw.of n) e) upd_same⟩
end LamQ

namespace GT
open PySem L2 Z
/-! dicts whose keys are tuples -/
def rListT : List V → Hp → VK → Prop := fun xs H Q => ∃ d kvs, xs = [V.ref d] ∧ Rd H d (.dT kvs) ∧ ∀ p bs, H p = none → IsKeys H kvs bs → Q (.ref p) (upd H p (.lst (bs.map V.ref)))
theorem c_listT {X : Cx} (hc : X.calm = true) : CallR X (.type "list") rListT := call_list_dT hc
theorem dnewT {Q : VK} {σ : L2.St} {H : Hp} (h : ∀ p H1, H p = none → Kp [] H H1 → H1 p = some (.dT []) → Q (.ref p) H1) : tDNewT σ H Q := mk h
/-- a key as data -/
def kD : Key → PyData
  | .inl i => .int i
  | .inr s => .str s
def keyD (k : List Key) : PyData := .tuple (k.map kD)
theorem dp_keys {K : PySem.W.Frag} {H : Hp} : ∀ k : List Key, DpAll K H (k.map kV) (k.map kD)
  | [] => .nil
  | .inl i :: r => .cons (.int i) (dp_keys r)
  | .inr s :: r => .cons (.str s) (dp_keys r)
theorem dp_key {K : PySem.W.Frag} {H : Hp} {b : Addr} {k : List Key} (h : H b = some (.tup (k.map kV))) : Dp K H (.ref b) (keyD k) := .tup (tupT h) (dp_keys k)
theorem keys_depth : ∀ k : List Key, PyData.depthAll (k.map kD) ≤ 1
  | [] => by simp [PyData.depthAll]
  | .inl i :: r => by
    have := keys_depth r
    simp [PyData.depthAll, kD, PyData.depth]
    omega
  | .inr s :: r => by
    have := keys_depth r
    simp [PyData.depthAll, kD, PyData.depth]
    omega
theorem keys_lay : ∀ k : List Key, (∀ s, Sum.inr s ∈ k → PyData.strOk s = true) → PyData.canLayAll0 (k.map kD) = true
  | [], _ => by simp [PyData.canLayAll0]
  | .inl i :: r, h => by
    have := keys_lay r fun s hs => h s (by simp [hs])
    simp [PyData.canLayAll0, kD, PyData.canLay0, this]
  | .inr s :: r, h => by
    have := keys_lay r fun s hs => h s (by simp [hs])
    simp [PyData.canLayAll0, kD, PyData.canLay0, this, h s]
theorem keys_flat : ∀ k : List Key, LamK.noLstAll (k.map kD) = true
  | [] => by simp [LamK.noLstAll]
  | .inl i :: r => by
    have := keys_flat r
    simp [LamK.noLstAll, LamK.noLst, kD, this]
  | .inr s :: r => by
    have := keys_flat r
    simp [LamK.noLstAll, LamK.noLst, kD, this]
end GT

/-! ### dicts whose keys are ints and texts, or tuples of them: which, is the proof's choice -/
namespace GU
open PySem L2 Z GT
abbrev OK := Key ⊕ List Key
def okD : OK → PyData
  | .inl k => kD k
  | .inr ks => keyD ks
/-- a key as a value -/
def OkAt (H : Hp) : OK → V → Prop
  | .inl k, v => v = kV k
  | .inr ks, v => ∃ p, v = .ref p ∧ H p = some (.tup (ks.map kV))
def fm : OK → Bool
  | .inl _ => false
  | .inr _ => true
theorem OkAt.kp {M : List Addr} {H H' : Hp} {k : OK} {v : V} (h : OkAt H k v) (e : Kp M H H') (n : ∀ x ∈ M, ∀ vs, H x ≠ some (.tup vs)) : OkAt H' k v := by
  cases k with
  | inl k => exact h
  | inr ks =>
    obtain ⟨p, e1, e2⟩ := h
    exact ⟨p, e1, e.get (fun z => n _ z _ e2) e2⟩
theorem OkAt.kp0 {H H' : Hp} {k : OK} {v : V} (h : OkAt H k v) (e : Kp [] H H') : OkAt H' k v := h.kp e fun _ h => by cases h
theorem OkAt.dp {K : PySem.W.Frag} {H : Hp} {k : OK} {v : V} (h : OkAt H k v) : Dp K H v (okD k) := by
  cases k with
  | inl k =>
    have h : v = kV k := h
    subst h
    cases k with
    | inl i => exact .int i
    | inr s => exact .str s
  | inr ks =>
    obtain ⟨p, rfl, e⟩ := h
    exact dp_key e
def injK (kvs : List (Key × V)) : List (OK × V) := kvs.map fun x => (.inl x.1, x.2)
def injT (kvs : List (List Key × V)) : List (OK × V) := kvs.map fun x => (.inr x.1, x.2)
theorem valV_injK (kvs : List (Key × V)) (k : Key) : valV (injK kvs) (.inl k) = valV kvs k := by
  unfold valV injK
  rw [List.find?_map, Option.map_map]
  have : ((fun kv : OK × V => decide (kv.1 = Sum.inl k)) ∘ fun x : Key × V => ((Sum.inl x.1 : OK), x.2)) = fun x => decide (x.1 = k) := by
    funext x
    show decide ((Sum.inl x.1 : OK) = Sum.inl k) = decide (x.1 = k)
    by_cases h : x.1 = k
    · rw [h]; simp
    · rw [decide_eq_false h, decide_eq_false (fun z => h (Sum.inl.inj z))]
  rw [this]
  rfl
theorem valV_injT (kvs : List (List Key × V)) (k : List Key) : valV (injT kvs) (.inr k) = valV kvs k := by
  unfold valV injT
  rw [List.find?_map, Option.map_map]
  have : ((fun kv : OK × V => decide (kv.1 = Sum.inr k)) ∘ fun x : List Key × V => ((Sum.inr x.1 : OK), x.2)) = fun x => decide (x.1 = k) := by
    funext x
    show decide ((Sum.inr x.1 : OK) = Sum.inr k) = decide (x.1 = k)
    by_cases h : x.1 = k
    · rw [h]; simp
    · rw [decide_eq_false h, decide_eq_false (fun z => h (Sum.inr.inj z))]
  rw [this]
  rfl
theorem putK_injK (kvs : List (Key × V)) (k : Key) (v : V) : putK (injK kvs) (.inl k) v = injK (putK kvs k v) := by
  have ha : ((injK kvs).any fun kv => decide (kv.1 = Sum.inl k)) = kvs.any fun kv => decide (kv.1 = k) := by
    rw [valV_any, valV_any, valV_injK]
  unfold putK
  rw [ha]
  split
  · unfold injK
    rw [List.map_map, List.map_map]
    refine List.map_congr_left fun x _ => ?_
    show (if (Sum.inl x.1 : OK) = Sum.inl k then ((Sum.inl x.1 : OK), v) else (Sum.inl x.1, x.2)) = ((Sum.inl (if x.1 = k then (x.1, v) else x).1 : OK), (if x.1 = k then (x.1, v) else x).2)
    by_cases h : x.1 = k
    · rw [if_pos (congrArg Sum.inl h), if_pos h]
    · rw [if_neg (fun z => h (Sum.inl.inj z)), if_neg h]
  · unfold injK
    rw [List.map_append]; rfl
theorem putK_injT (kvs : List (List Key × V)) (k : List Key) (v : V) : putK (injT kvs) (.inr k) v = injT (putK kvs k v) := by
  have ha : ((injT kvs).any fun kv => decide (kv.1 = Sum.inr k)) = kvs.any fun kv => decide (kv.1 = k) := by
    rw [valV_any, valV_any, valV_injT]
  unfold putK
  rw [ha]
  split
  · unfold injT
    rw [List.map_map, List.map_map]
    refine List.map_congr_left fun x _ => ?_
    show (if (Sum.inr x.1 : OK) = Sum.inr k then ((Sum.inr x.1 : OK), v) else (Sum.inr x.1, x.2)) = ((Sum.inr (if x.1 = k then (x.1, v) else x).1 : OK), (if x.1 = k then (x.1, v) else x).2)
    by_cases h : x.1 = k
    · rw [if_pos (congrArg Sum.inr h), if_pos h]
    · rw [if_neg (fun z => h (Sum.inr.inj z)), if_neg h]
  · unfold injT
    rw [List.map_append]; rfl
/-- a dict at d; f: its keys are tuples -/
def DA (f : Bool) (H : Hp) (d : Addr) (kvs : List (OK × V)) : Prop := (f = false ∧ ∃ ks, H d = some (.dK ks) ∧ kvs = injK ks) ∨ (f = true ∧ ∃ ks, H d = some (.dT ks) ∧ kvs = injT ks)
theorem DA.kp {M : List Addr} {f : Bool} {H H' : Hp} {d : Addr} {kvs : List (OK × V)} (h : DA f H d kvs) (k : Kp M H H') (n : d ∉ M) : DA f H' d kvs := by
  rcases h with ⟨e, ks, h1, h2⟩ | ⟨e, ks, h1, h2⟩
  · exact .inl ⟨e, ks, k.get n h1, h2⟩
  · exact .inr ⟨e, ks, k.get n h1, h2⟩
theorem DA.kp0 {f : Bool} {H H' : Hp} {d : Addr} {kvs : List (OK × V)} (h : DA f H d kvs) (k : Kp [] H H') : DA f H' d kvs := h.kp k (by simp)
theorem DA.notup {f : Bool} {H : Hp} {d : Addr} {kvs : List (OK × V)} (h : DA f H d kvs) : ∀ x ∈ [d], ∀ vs, H x ≠ some (.tup vs) := fun x hx vs z => by
  rw [List.mem_singleton.mp hx] at z
  rcases h with ⟨_, ks, h1, _⟩ | ⟨_, ks, h1, _⟩ <;> rw [h1] at z <;> cases z
theorem DA.NoTup {f : Bool} {H : Hp} {d : Addr} {kvs : List (OK × V)} (h : DA f H d kvs) : ∃ o, H d = some o ∧ ∀ xs, o ≠ .tup xs ∧ ∀ u, o ≠ .frz u (.tup xs) := by
  rcases h with ⟨_, ks, h1, _⟩ | ⟨_, ks, h1, _⟩
  · exact ⟨_, h1, fun xs => ⟨by simp, by simp⟩⟩
  · exact ⟨_, h1, fun xs => ⟨by simp, by simp⟩⟩
theorem DA.isD {f : Bool} {H : Hp} {d : Addr} {kvs : List (OK × V)} (h : DA f H d kvs) : IsD H d := by
  rcases h with ⟨_, ks, h1, _⟩ | ⟨_, ks, h1, _⟩
  · exact .inl ⟨ks, .inl h1⟩
  · exact .inr ⟨ks, .inl h1⟩
theorem DA.ne {f : Bool} {H : Hp} {d l : Addr} {kvs : List (OK × V)} (h : DA f H d kvs) (n : H l = none) : d ≠ l := by
  rcases h with ⟨_, ks, h1, _⟩ | ⟨_, ks, h1, _⟩ <;> exact ne_of_none h1 n
theorem DA.get {f : Bool} {H : Hp} {d : Addr} {kvs : List (OK × V)} {k : OK} {v : V} (h : DA f H d kvs) (hk : fm k = f) (hv : OkAt H k v) : DGet H d v (valV kvs k) := by
  rcases h with ⟨e, ks, h1, rfl⟩ | ⟨e, ks, h1, rfl⟩
  · cases k with
    | inr ks => rw [e] at hk; cases hk
    | inl k =>
      have hv : v = kV k := hv
      rw [hv, valV_injK]
      exact DGet.k h1
  · cases k with
    | inl k => rw [e] at hk; cases hk
    | inr k =>
      obtain ⟨p, rfl, hp⟩ := hv
      rw [valV_injT]
      exact DGet.t h1 hp
theorem DA.put {f : Bool} {H : Hp} {d : Addr} {kvs : List (OK × V)} {k : OK} {v w : V} (h : DA f H d kvs) (hk : fm k = f) (hv : OkAt H k v) (hl : kvs.length < sizeLine) : ∃ H', DPut H d v w H' ∧ Kp [d] H H' ∧ DA f H' d (putK kvs k w) ∧ ∃ o, H' = upd H d o := by
  rcases h with ⟨e, ks, h1, rfl⟩ | ⟨e, ks, h1, rfl⟩
  · cases k with
    | inr ks => rw [e] at hk; cases hk
    | inl k =>
      have hv : v = kV k := hv
      subst hv
      refine ⟨_, DPut.k h1 (by unfold injK at hl; rwa [List.length_map] at hl), Kp.put (by simp), .inl ⟨e, putK ks k w, upd_same, putK_injK ks k w⟩, _, rfl⟩
  · cases k with
    | inl k => rw [e] at hk; cases hk
    | inr k =>
      obtain ⟨p, rfl, hp⟩ := hv
      refine ⟨_, DPut.t h1 hp (by unfold injT at hl; rwa [List.length_map] at hl), Kp.put (by simp), .inr ⟨e, putK ks k w, upd_same, putK_injT ks k w⟩, _, rfl⟩
/-! {} -/
def tDNewA : TE := fun σ H Q => tDNewK σ H Q ∨ tDNewT σ H Q
theorem pe_dnewA {X : Cx} {pos : Pos} : PE X (.Dict [] [] pos) tDNewA := ⟨fun pins s σ H Q I h => h.elim (fun h => pe_dnewK.run pins s σ H Q I h) (fun h => pe_dnewT.run pins s σ H Q I h)⟩
theorem dnewA {Q : VK} {σ : L2.St} {H : Hp} (f : Bool) (h : ∀ p H1, H p = none → Kp [] H H1 → DA f H1 p [] → Q (.ref p) H1) : tDNewA σ H Q := by
  cases f with
  | false => exact .inl (Z.dnew fun p H1 np k1 e1 => h p H1 np k1 (.inl ⟨rfl, [], e1, rfl⟩))
  | true => exact .inr (GT.dnewT fun p H1 np k1 e1 => h p H1 np k1 (.inr ⟨rfl, [], e1, rfl⟩))
/-! list(d) -/
def rListDK : List V → Hp → VK → Prop := fun xs H Q => ∃ (a : Addr) (kvs : List (Key × V)), xs = [.ref a] ∧ Rd H a (.dK kvs) ∧ ∀ p, H p = none → Q (.ref p) (upd H p (.lst (kvs.map fun kv => kV kv.1)))
def rListA : List V → Hp → VK → Prop := fun xs H Q => rListDK xs H Q ∨ rListT xs H Q
theorem c_listA {X : Cx} (hc : X.calm = true) : CallR X (.type "list") rListA := fun pins s σ H xs us Q I r h => h.elim (fun h => call_listD hc pins s σ H xs us Q I r h) (fun h => c_listT hc pins s σ H xs us Q I r h)
/-- values that stand for these keys -/
inductive KeysAt (H : Hp) : List OK → List V → Prop
  | nil : KeysAt H [] []
  | cons {k : OK} {v : V} {ks : List OK} {vs : List V} : OkAt H k v → KeysAt H ks vs → KeysAt H (k :: ks) (v :: vs)
theorem KeysAt.kp0 {H H' : Hp} (e : Kp [] H H') : ∀ {ks : List OK} {vs : List V}, KeysAt H ks vs → KeysAt H' ks vs
  | _, _, .nil => .nil
  | _, _, .cons h t => .cons (h.kp0 e) (KeysAt.kp0 e t)
theorem KeysAt.dp {K : PySem.W.Frag} {H : Hp} : ∀ {ks : List OK} {vs : List V}, KeysAt H ks vs → DpAll K H vs (ks.map okD)
  | _, _, .nil => .nil
  | _, _, .cons h t => .cons h.dp t.dp
theorem KeysAt.len {H : Hp} : ∀ {ks : List OK} {vs : List V}, KeysAt H ks vs → ks.length = vs.length
  | _, _, .nil => rfl
  | _, _, .cons _ t => by rw [List.length_cons, List.length_cons, t.len]
theorem keysK {H : Hp} : ∀ kvs : List (Key × V), KeysAt H ((injK kvs).map (·.1)) (kvs.map fun kv => kV kv.1)
  | [] => .nil
  | kv :: r => .cons rfl (keysK r)
theorem keysT {H : Hp} : ∀ {kvs : List (List Key × V)} {bs : List Addr}, IsKeys H kvs bs → KeysAt H ((injT kvs).map (·.1)) (bs.map V.ref)
  | [], [], .nil => .nil
  | kv :: kvs, b :: bs, .cons h t => .cons ⟨b, rfl, h⟩ (keysT t)
theorem listA {Q : VK} {f : Bool} {H : Hp} {d : Addr} {kvs : List (OK × V)} (h : DA f H d kvs) (q : ∀ p H1 vs, H p = none → Kp [] H H1 → H1 p = some (.lst vs) → KeysAt H1 (kvs.map (·.1)) vs → Q (.ref p) H1) : rListA [.ref d] H Q := by
  rcases h with ⟨e, ks, h1, rfl⟩ | ⟨e, ks, h1, rfl⟩
  · exact .inl ⟨d, ks, rfl, .inl h1, fun p np => q p _ _ np (Kp.new np) upd_same ((keysK ks).kp0 (Kp.new np))⟩
  · exact .inr ⟨d, ks, rfl, .inl h1, fun p bs np hb => q p _ _ np (Kp.new np) upd_same ((keysT hb).kp0 (Kp.new np))⟩
end GU

/-! ### dicts whose keys are tuples of any nesting -/
namespace ND
open PySem L2 Z
abbrev NK := NestedKey
section
variable {X : Cx} {pins : List (Addr × Obj)} {σ : L2.St} {H : Hp} {s : Shared}
mutual
theorem is_of (I : Inv X pins σ H s) : ∀ (k : NK) (v : V) (u : Value), Dp X.K H v k.data → RelV v u → NestedIs s.heap k u
  | .none, _, _, h, r => by
    cases h
    cases r
    exact .none
  | .num i, _, _, h, r => by
    cases h
    obtain ⟨t, rfl⟩ := r
    exact .int i t
  | .text x, _, _, h, r => by
    cases h
    obtain ⟨t, rfl⟩ := r
    exact .text x t
  | .tup ks, v, u, h, r => by
    have h : Dp X.K H v (.tuple (NestedKey.datas ks)) := h
    cases h with
    | tup hs ha =>
      cases r
      obtain ⟨its, rv, ⟨o, ho, hc, n, hd⟩, _⟩ := I.tuple hs
      exact .tup ho hc hd (by simpa using all_of I ks _ its ha rv)
theorem all_of (I : Inv X pins σ H s) : ∀ (ks : List NK) (vs : List V) (us : List Value), DpAll X.K H vs (NestedKey.datas ks) → Vals vs us → NestedAll s.heap ks us
  | [], _, _, h, r => by
    cases h
    cases r
    exact .nil
  | k :: ks, vs, us, h, r => by
    have h : DpAll X.K H vs (k.data :: NestedKey.datas ks) := h
    cases h with
    | cons h1 h2 =>
      cases r with
      | cons r1 r2 => exact .cons (is_of I k _ _ h1 r1) (all_of I ks _ _ h2 r2)
end
end
/-! data with only tuples in it stays where lists and dicts are written -/
def NoTp (H : Hp) (x : Addr) : Prop := ∀ xs, ¬ Rd H x (.tup xs)
theorem tup_kp {M : List Addr} {K : PySem.W.Frag} {H H' : Hp} {a : Addr} {xs : List V} (h : SqT K H a xs) (k : Kp M H H') (n : ∀ x ∈ M, NoTp H x) : SqT K H' a xs := by
  rcases h with h | h
  · have hn : a ∉ M := fun z => n a z xs h
    exact k.tup hn (.inl h)
  · exact .inr h
mutual
theorem nk_kp {M : List Addr} {K : PySem.W.Frag} {H H' : Hp} (e : Kp M H H') (n : ∀ x ∈ M, NoTp H x) : ∀ (k : NK) {v : V}, Dp K H v k.data → Dp K H' v k.data
  | .none, _, h => by
    cases h
    exact .non
  | .num i, _, h => by
    cases h
    exact .int i
  | .text x, _, h => by
    cases h
    exact .str x
  | .tup ks, v, h => by
    have h : Dp K H v (.tuple (NestedKey.datas ks)) := h
    show Dp K H' v (.tuple (NestedKey.datas ks))
    cases h with
    | tup hs ha => exact .tup (tup_kp hs e n) (nk_kpAll e n ks ha)
theorem nk_kpAll {M : List Addr} {K : PySem.W.Frag} {H H' : Hp} (e : Kp M H H') (n : ∀ x ∈ M, NoTp H x) : ∀ (ks : List NK) {vs : List V}, DpAll K H vs (NestedKey.datas ks) → DpAll K H' vs (NestedKey.datas ks)
  | [], _, h => by
    cases h
    exact .nil
  | k :: ks, vs, h => by
    have h : DpAll K H vs (k.data :: NestedKey.datas ks) := h
    show DpAll K H' vs (k.data :: NestedKey.datas ks)
    cases h with
    | cons h1 h2 => exact .cons (nk_kp e n k h1) (nk_kpAll e n ks h2)
end
/-- the value v is the key k -/
def NkAt (K : PySem.W.Frag) (H : Hp) (k : NK) (v : V) : Prop := Dp K H v k.data ∧ k.depth ≤ 8 ∧ ∃ b, v = .ref b
theorem NkAt.kp {M : List Addr} {K : PySem.W.Frag} {H H' : Hp} {k : NK} {v : V} (h : NkAt K H k v) (e : Kp M H H') (n : ∀ x ∈ M, NoTp H x) : NkAt K H' k v := ⟨nk_kp e n k h.1, h.2⟩
theorem NkAt.kp0 {K : PySem.W.Frag} {H H' : Hp} {k : NK} {v : V} (h : NkAt K H k v) (e : Kp [] H H') : NkAt K H' k v := h.kp e fun _ h => by cases h
theorem NkAt.is {X : Cx} {pins : List (Addr × Obj)} {σ : L2.St} {H : Hp} {s : Shared} (I : Inv X pins σ H s) {k : NK} {b : Addr} (h : NkAt X.K H k (.ref b)) : (nestedKind X.prog X.w).is s.heap k b := ⟨is_of I k _ _ h.1 rfl, h.2.1⟩
/-! entries: key, where its tuple stands, value -/
abbrev NX := NK × Addr × V
def kvsX (xs : List NX) : List (NK × V) := xs.map fun x => (x.1, x.2.2)
def RelX (p : NX) (q : NK × Addr × Value) : Prop := p.1 = q.1 ∧ p.2.1 = q.2.1 ∧ RelV p.2.2 q.2.2
abbrev KX : List NX → List (NK × Addr × Value) → Prop := Paired RelX
def putX (xs : List NX) (k : NK) (b : Addr) (v : V) : List NX :=
  if (valV (kvsX xs) k).isSome = true then xs.map (fun x => if x.1 = k then (x.1, x.2.1, v) else x) else xs ++ [(k, b, v)]
theorem kvs_putX (xs : List NX) (k : NK) (b : Addr) (v : V) : kvsX (putX xs k b v) = putK (kvsX xs) k v := by
  unfold putX putK
  rw [valV_any]
  split
  · unfold kvsX
    rw [List.map_map, List.map_map]
    refine List.map_congr_left fun x _ => ?_
    simp only [Function.comp]
    split <;> rfl
  · unfold kvsX
    rw [List.map_append]; rfl
theorem KX.val {xs : List NX} {ys : List (NK × Addr × Value)} (r : KX xs ys) (k : NK) : RelO (valV (kvsX xs) k) ((atKey ys k).map (·.2)) := by
  induction r with
  | nil => exact True.intro
  | @cons p q ps qs h t ih =>
    obtain ⟨h1, _, h2⟩ := h
    show RelO (valV ((p.1, p.2.2) :: kvsX ps) k) _
    by_cases e : p.1 = k
    · have e' : q.1 = k := h1.symm.trans e
      have b : atKey (q :: qs) k = some q.2 := by simp [atKey, List.find?_cons, e']
      rw [valV_pos e, b]; exact h2
    · have e' : ¬ q.1 = k := fun z => e (h1.trans z)
      have b : atKey (q :: qs) k = atKey qs k := by simp [atKey, List.find?_cons, e']
      rw [valV_neg e, b]; exact ih
theorem KX.repl {xs : List NX} {ys : List (NK × Addr × Value)} (r : KX xs ys) (k : NK) {y : V} {u : Value} (ry : RelV y u) :
    KX (xs.map fun x => if x.1 = k then (x.1, x.2.1, y) else x) (ys.map (putAt k u)) := by
  induction r with
  | nil => exact .nil
  | @cons p q ps qs h t ih =>
    rw [List.map_cons, List.map_cons]
    refine .cons ?_ ih
    obtain ⟨h1, h2, h3⟩ := h
    unfold putAt
    by_cases e : p.1 = k
    · rw [if_pos e, if_pos (h1.symm.trans e)]; exact ⟨h1, h2, ry⟩
    · rw [if_neg e, if_neg (fun z => e (h1.trans z))]; exact ⟨h1, h2, h3⟩
theorem KX.put {xs : List NX} {ys : List (NK × Addr × Value)} (r : KX xs ys) (k : NK) {b : Addr} {y : V} {u : Value} (ry : RelV y u) :
    KX (putX xs k b y) (storedH ys k b u) := by
  unfold putX storedH
  rw [show (valV (kvsX xs) k).isSome = (atKey ys k).isSome by rw [(r.val k).isSome_eq, Option.isSome_map]]
  by_cases q : (atKey ys k).isSome = true
  · rw [if_pos q, if_pos q]; exact r.repl k ry
  · rw [if_neg q, if_neg q]; exact Paired.snoc r ⟨rfl, rfl, ry⟩
/-- what is true of the dict's one object -/
def ndP (w : World) (d : Addr) (xs : List NX) (h : Heap) : Prop := xs.length ≤ sizeLine ∧ (d == sysModules) = false ∧ ∃ ys, KX xs ys ∧
  ∃ o es ep, h.get? d = some o ∧ o.ExactDict ∧ o.data = .dict es ep ∧ es.toList = ys.map (fun y => (⟨y.1.hash w, .ref y.2.1, y.2.2⟩ : DictEntry)) ∧ (ys.map (·.1)).Nodup
abbrev ndO (w : World) (d : Addr) (xs : List NX) : HO := .ext (ndP w d xs)
theorem nd_ok {P : Program} {w w' : World} {H : Hp} {h : Heap} {d : Addr} {xs : List NX} (p : ndP w d xs h) : ObjOk P w' H h d (ndO w d xs) := by
  have p' := p
  obtain ⟨_, _, _, _, o, _, _, ho, _⟩ := p'
  refine ⟨p, ⟨o, ho⟩, fun h1 h2 q k => ?_⟩
  obtain ⟨z, y, ys, r, o, es, ep, ho, c⟩ := q
  exact ⟨z, y, ys, r, o, es, ep, k o ho, c⟩
/-- the dict at d -/
def DN (w : World) (K : PySem.W.Frag) (H : Hp) (d : Addr) (kvs : List (NK × V)) : Prop := ∃ xs, H d = some (ndO w d xs) ∧ kvs = kvsX xs ∧ ∀ x ∈ xs, NkAt K H x.1 (.ref x.2.1)
theorem DN.notp {w : World} {K : PySem.W.Frag} {H : Hp} {d : Addr} {kvs : List (NK × V)} (h : DN w K H d kvs) : NoTp H d := fun xs z => by
  obtain ⟨_, h1, _⟩ := h
  rcases z with z | ⟨_, z⟩ <;> rw [h1] at z <;> cases z
theorem DN.kp {w : World} {M : List Addr} {K : PySem.W.Frag} {H H' : Hp} {d : Addr} {kvs : List (NK × V)} (h : DN w K H d kvs) (k : Kp M H H') (hd : d ∉ M) (n : ∀ x ∈ M, NoTp H x) : DN w K H' d kvs := by
  obtain ⟨xs, h1, e, h2⟩ := h
  exact ⟨xs, k.get hd h1, e, fun x hx => (h2 x hx).kp k n⟩
theorem DN.kp0 {w : World} {K : PySem.W.Frag} {H H' : Hp} {d : Addr} {kvs : List (NK × V)} (h : DN w K H d kvs) (k : Kp [] H H') : DN w K H' d kvs := h.kp k (by simp) fun _ h => by cases h
theorem DN.ne {w : World} {K : PySem.W.Frag} {H : Hp} {d l : Addr} {kvs : List (NK × V)} (h : DN w K H d kvs) (n : H l = none) : d ≠ l := by
  obtain ⟨_, h1, _⟩ := h
  exact ne_of_none h1 n
section
variable {X : Cx} {pins : List (Addr × Obj)} {σ : L2.St} {H : Hp} {s : Shared}
theorem dn_of (I : Inv X pins σ H s) {d : Addr} {xs : List NX} (e : H d = some (ndO X.w d xs)) (hk : ∀ x ∈ xs, NkAt X.K H x.1 (.ref x.2.1)) :
    xs.length ≤ sizeLine ∧ (d == sysModules) = false ∧ ∃ ys, KX xs ys ∧ s.heap.DictOfH (nestedKind X.prog X.w) d ys := by
  obtain ⟨z, y, ys, r, o, es, ep, ho, hx, hd, he, hn⟩ := (show ObjOk X.prog X.w H s.heap d (ndO X.w d xs) from I.hok d _ e).1
  refine ⟨z, y, ys, r, o, es, ep, ho, hx, hd, he, ?_, hn⟩
  have all : ∀ {l : List NX} {m : List (NK × Addr × Value)}, KX l m → (∀ x ∈ l, NkAt X.K H x.1 (.ref x.2.1)) → ∀ x ∈ m, (nestedKind X.prog X.w).is s.heap x.1 x.2.1 := by
    intro l m q
    induction q with
    | nil => intro _ x hx; exact nomatch hx
    | @cons p q ps qs hq t ih =>
      intro hl x hx
      rcases List.mem_cons.mp hx with e | hx
      · subst e
        rw [← hq.1, ← hq.2.1]
        exact (hl p (by simp)).is I
      · exact ih (fun y hy => hl y (by simp [hy])) x hx
  exact all r hk
theorem room_in1 {P : Program} {w : World} {A : Around} (hu : A.units + 64 < cLine) : (nestedKind P w).room A.in1 := by
  show A.in1.units + 8 < cLine
  have : A.in1.units = A.units + 1 := rfl
  omega
/-- d[y], there -/
theorem n_getItem {A : Around} {E : Value → Shared → Prop} {Q : Value → Shared → Prop} {a : Addr} {kvs : List (NK × V)} {k : NK} {y v : V} {u : Value} (hu : A.units + 64 < cLine) (I : Inv X pins σ H s) (g : DN X.w X.K H a kvs) (hk : NkAt X.K H k y) (hv : valV kvs k = some v) (ry : RelV y u)
    (h : ∀ w' s', Inv X pins σ H s' → RelV v w' → Q w' s') : wpAny (model X.prog X.w) A (getItem (.ref a) u) Q E s := by
  obtain ⟨xs, e, rfl, hx⟩ := g
  obtain ⟨_, _, b, rfl⟩ := id hk
  cases (show u = Value.ref b from ry)
  obtain ⟨z, hd, ys, rel, dd⟩ := dn_of I e hx
  obtain ⟨w', hw, rw'⟩ := RelO.some_of (v := v) (o := (atKey ys k).map (·.2)) (by rw [← hv]; exact rel.val k)
  obtain ⟨p, hp, hp2⟩ := Option.map_eq_some_iff.mp hw
  refine wpAny_getItem_heap (room_in1 hu) (hk.is I) dd hp ?_
  rw [hp2]
  exact h w' _ (I.tok _) rw'
theorem n_in {A : Around} {E : Value → Shared → Prop} {Q : Value → Shared → Prop} {a : Addr} {kvs : List (NK × V)} {k : NK} {y : V} {u : Value} (hu : A.units + 64 < cLine) (I : Inv X pins σ H s) (g : DN X.w X.K H a kvs) (hk : NkAt X.K H k y) (ry : RelV y u)
    (h : ∀ s', Inv X pins σ H s' → Q (.bool (valV kvs k).isSome) s') : wpAny (model X.prog X.w) A (compareOp .In u (.ref a)) Q E s := by
  obtain ⟨xs, e, rfl, hx⟩ := g
  obtain ⟨_, _, b, rfl⟩ := id hk
  cases (show u = Value.ref b from ry)
  obtain ⟨z, hd, ys, rel, dd⟩ := dn_of I e hx
  refine wpAny_in_heap (room_in1 hu) (hk.is I) hd dd ?_
  have q := (rel.val k).isSome_eq
  rw [Option.isSome_map] at q
  rw [← q]
  exact h _ (I.tok _)
theorem n_notIn {A : Around} {E : Value → Shared → Prop} {Q : Value → Shared → Prop} {a : Addr} {kvs : List (NK × V)} {k : NK} {y : V} {u : Value} (hu : A.units + 64 < cLine) (I : Inv X pins σ H s) (g : DN X.w X.K H a kvs) (hk : NkAt X.K H k y) (ry : RelV y u)
    (h : ∀ s', Inv X pins σ H s' → Q (.bool (!(valV kvs k).isSome)) s') : wpAny (model X.prog X.w) A (compareOp .NotIn u (.ref a)) Q E s := by
  obtain ⟨xs, e, rfl, hx⟩ := g
  obtain ⟨_, _, b, rfl⟩ := id hk
  cases (show u = Value.ref b from ry)
  obtain ⟨z, hd, ys, rel, dd⟩ := dn_of I e hx
  show wpAny _ _ (do return .bool (!(← contains (.ref a) (.ref b)))) Q E s
  refine wpAny_bind (wpAny_contains_heap (room_in1 hu) (hk.is I) hd dd (wpAny_pure ?_))
  have q := (rel.val k).isSome_eq
  rw [Option.isSome_map] at q
  rw [← q]
  exact h _ (I.tok _)
theorem n_get2 {A : Around} {E : Value → Shared → Prop} {Q : Value → Shared → Prop} {a : Addr} {kvs : List (NK × V)} {k : NK} {y z : V} {u r : Value} (hu : A.units + 64 < cLine) (I : Inv X pins σ H s) (g : DN X.w X.K H a kvs) (hk : NkAt X.K H k y) (ry : RelV y u) (rd : RelV z r)
    (h : ∀ w' s', Inv X pins σ H s' → RelV ((valV kvs k).getD z) w' → Q w' s') : wpAny (model X.prog X.w) A (call (.builtin "dict.get") [.ref a, u, r]) Q E s := by
  obtain ⟨xs, e, rfl, hx⟩ := g
  obtain ⟨_, _, b, rfl⟩ := id hk
  cases (show u = Value.ref b from ry)
  obtain ⟨_, hd, ys, rel, dd⟩ := dn_of I e hx
  exact call_meetsIn PySem.F.slot_dict_get dd.typeIs PySem.F.entry_dict_get (PySem.F.args_dict_get_3 _ _ _) (meetsH_dict_get_default (nestedKind X.prog X.w) a b hd r) ⟨room_in1 hu, k, ys, hk.is I, dd, h _ _ (I.tok _) ((rel.val k).getD rd)⟩
/-- the heap behind d[y] = v -/
def DPutN (w : World) (K : PySem.W.Frag) (H : Hp) (a : Addr) (y v : V) (Q : Hp → Prop) : Prop := ∃ kvs k, DN w K H a kvs ∧ NkAt K H k y ∧ kvs.length < sizeLine ∧
  ∀ H', Kp [a] H H' → DN w K H' a (putK kvs k v) → (∃ o, H' = upd H a o) → Q H'
theorem n_setItem {A : Around} {E : Value → Shared → Prop} {Q : Unit → Shared → Prop} {a : Addr} {y v : V} {u r : Value} {QH : Hp → Prop} (hu : A.units + 64 < cLine) (I : Inv X pins σ H s) (g : DPutN X.w X.K H a y v QH) (ry : RelV y u) (rv : RelV v r)
    (h : ∀ H' s', Inv X pins σ H' s' → QH H' → Q () s') : wpAny (model X.prog X.w) A (setItem (.ref a) u r) Q E s := by
  obtain ⟨kvs, k, ⟨xs, e, rfl, hx⟩, hk, hl, q⟩ := g
  have hk' := hk
  obtain ⟨_, _, b, rfl⟩ := hk'
  cases (show u = Value.ref b from ry)
  obtain ⟨z, hd, ys, rel, dd⟩ := dn_of I e hx
  have hz : ys.length ≤ sizeLine := by rw [← Paired.length rel]; exact z
  have hlx : xs.length < sizeLine := by unfold kvsX at hl; rwa [List.length_map] at hl
  have hl2 : (putX xs k b v).length ≤ sizeLine := by
    unfold putX
    split
    · rw [List.length_map]; omega
    · rw [List.length_append, List.length_singleton]; omega
  refine wpAny_setItem_heap (hsz := hz) (room_in1 hu) (hk.is I) dd fun h' dd' hs => ?_
  obtain ⟨ob, es, ep, hq, h2, h3, h4, _, h5⟩ := dd'
  have hn : ∀ x ∈ [a], NoTp H x := fun x hx' => by
    rw [List.mem_singleton.mp hx']
    exact DN.notp ⟨xs, e, rfl, hx⟩
  have kp : Kp [a] H (upd H a (ndO X.w a (putX xs k b v))) := Kp.put (by simp)
  refine h (upd H a (ndO X.w a (putX xs k b v))) _ (d_write (t' := _) I (by rw [e]; exact True.intro) hs ⟨ob, hq⟩ (nd_ok ⟨hl2, hd, _, rel.put k rv, ob, es, ep, hq, h2, h3, h4, h5⟩)) (q _ kp ⟨putX xs k b v, upd_same, (kvs_putX xs k b v).symm, fun x hxm => ?_⟩ ⟨_, rfl⟩)
  unfold putX at hxm
  split at hxm
  · obtain ⟨y, hy, ey⟩ := List.mem_map.mp hxm
    have := (hx y hy).kp kp hn
    split at ey
    · subst ey; exact this
    · subst ey; exact this
  · rcases List.mem_append.mp hxm with hy | hy
    · exact (hx x hy).kp kp hn
    · rw [List.mem_singleton.mp hy]
      exact hk.kp kp hn
end
theorem nd_empty {w : World} (h : Heap) (hb : sysModules < h.objs.size) : ndP w h.objs.size [] (h.push { cls := .type "dict", data := .dict #[] }) :=
  ⟨Nat.zero_le _, beq_eq_false_iff_ne.mpr (Ne.symm (Nat.ne_of_lt hb)), [], .nil, _, #[], 0, Heap.get?_push_size _ rfl, ⟨rfl, rfl, rfl⟩, rfl, rfl, List.nodup_nil⟩
/-! ### readings and rules -/
/-- {} -/
def tDNewN (w : World) (K : PySem.W.Frag) : TE := fun _ H Q => ∀ p H1, H p = none → Kp [] H H1 → DN w K H1 p [] → (∃ o, H1 = upd H p o) → Q (.ref p) H1
/-- d[y] -/
def tDGetN (w : World) (K : PySem.W.Frag) (td ty : TE) : TE := fun σ H Q => td σ H fun x H1 => ty σ H1 fun y H2 => ∃ a kvs k v, x = .ref a ∧ DN w K H2 a kvs ∧ NkAt K H2 k y ∧ valV kvs k = some v ∧ Q v H2
def tDInN (w : World) (K : PySem.W.Frag) (ty td : TE) : TE := fun σ H Q => ty σ H fun y H1 => td σ H1 fun x H2 => ∃ a kvs k, x = .ref a ∧ DN w K H2 a kvs ∧ NkAt K H2 k y ∧ Q (.bl (valV kvs k).isSome) H2
def tDNotInN (w : World) (K : PySem.W.Frag) (ty td : TE) : TE := fun σ H Q => ty σ H fun y H1 => td σ H1 fun x H2 => ∃ a kvs k, x = .ref a ∧ DN w K H2 a kvs ∧ NkAt K H2 k y ∧ Q (.bl (!(valV kvs k).isSome)) H2
def tDGet2N (w : World) (K : PySem.W.Frag) (td ty tx : TE) : TE := fun σ H Q => td σ H fun x H1 => ∃ a, x = .ref a ∧ (∃ kvs, DN w K H1 a kvs) ∧ ty σ H1 fun y H2 => tx σ H2 fun z H3 => ∃ kvs k, DN w K H3 a kvs ∧ NkAt K H3 k y ∧ Q ((valV kvs k).getD z) H3
def sDPutN (w : World) (K : PySem.W.Frag) (td ty tv : TE) : TS := fun D σ H => tv σ H fun v H1 => td σ H1 fun x H2 => ty σ H2 fun y H3 => ∃ a, x = .ref a ∧ DPutN w K H3 a y v fun H4 => D.nx σ H4
section
variable {X : Cx} {o i e f value : Expr} {pos pos' tpos apos cpos : Pos} {td ty tv tx : TE}
theorem pe_dnewN : PE X (.Dict [] [] pos) (tDNewN X.w X.K) := ⟨fun pins s σ H Q I h => by
  have np : H s.heap.objs.size = none := I.hok.fresh (Nat.le_refl _)
  exact wpAny_Dict_empty ⟨.ref s.heap.objs.size, _, I.laid (a := s.heap.objs.size) (o := ndO X.w s.heap.objs.size []) (t' := s.toks) (fun _ _ q => Heap.get?_push_of_some _ q) (Nat.le_refl _) (nd_ok (nd_empty s.heap I.big)), rfl,
    h _ _ np (Kp.new np) ⟨[], upd_same, rfl, fun _ h => by cases h⟩ ⟨_, rfl⟩⟩⟩
theorem n_typeIs {pins : List (Addr × Obj)} {σ : L2.St} {H : Hp} {s : Shared} {a : Addr} {kvs : List (NK × V)} (I : Inv X pins σ H s) (g : DN X.w X.K H a kvs) :
    s.TypeIs (.ref a) "dict" ∧ (∀ b, Value.ref a = .ref b → ∃ ob, s.heap.get? b = some ob ∧ ob.dict = none) := by
  obtain ⟨xs, e, rfl, hx⟩ := g
  obtain ⟨_, _, ys, _, dd⟩ := dn_of I e hx
  refine ⟨dd.typeIs, fun b q => ?_⟩
  cases q
  obtain ⟨ob, _, _, h1, h2, _⟩ := dd
  exact ⟨ob, h1, h2.2.1⟩
theorem pe_dgetN (hu : X.A.units + 64 < cLine) (ho : PE X o td) (hi : PE X i ty) (hs : NoSl i) : PE X (.Subscript o i pos) (tDGetN X.w X.K td ty) := by
  refine ⟨fun pins s σ H Q I h => ?_⟩
  refine subD_of PySem.F.slot_dict_getitem.lookup hs (thn (ho.run pins s σ H _ I h) fun u s1 ⟨x, H1, I1, rx, q1⟩ => thn (hi.run pins s1 σ H1 _ I1 q1) fun iv s2 ⟨y, H2, I2, ry, a, kvs, k, v, ex, g, hk, hv, q2⟩ => ?_)
  subst ex
  obtain rfl : u = Value.ref a := rx
  exact ⟨(n_typeIs I2 g).1, n_getItem hu I2 g hk hv ry fun w' s3 I3 rw' => ⟨v, H2, I3, rw', q2⟩⟩
theorem pc_dinN (hu : X.A.units + 64 < cLine) (hi : PE X i ty) (ho : PE X o td) : PC X .In i o (tDInN X.w X.K ty td) := by
  refine ⟨fun pins s σ H Q I h => ?_⟩
  refine thn (hi.run pins s σ H _ I h) fun iv s1 ⟨y, H1, I1, ry, q1⟩ => thn (ho.run pins s1 σ H1 _ I1 q1) fun u s2 ⟨x, H2, I2, rx, a, kvs, k, ex, g, hk, q2⟩ => ?_
  subst ex
  obtain rfl : u = Value.ref a := rx
  exact n_in hu I2 g hk ry fun s3 I3 => ⟨.bl (valV kvs k).isSome, H2, I3, rfl, q2⟩
theorem pc_dnotinN (hu : X.A.units + 64 < cLine) (hi : PE X i ty) (ho : PE X o td) : PC X .NotIn i o (tDNotInN X.w X.K ty td) := by
  refine ⟨fun pins s σ H Q I h => ?_⟩
  refine thn (hi.run pins s σ H _ I h) fun iv s1 ⟨y, H1, I1, ry, q1⟩ => thn (ho.run pins s1 σ H1 _ I1 q1) fun u s2 ⟨x, H2, I2, rx, a, kvs, k, ex, g, hk, q2⟩ => ?_
  subst ex
  obtain rfl : u = Value.ref a := rx
  exact n_notIn hu I2 g hk ry fun s3 I3 => ⟨.bl (!(valV kvs k).isSome), H2, I3, rfl, q2⟩
theorem ps_dputN (hu : X.A.units + 64 < cLine) (ho : PE X o td) (hi : PE X i ty) (hv : PE X value tv) (hs : swapsWith value (some (.Subscript o i pos')) pos.line X.env = pure false) :
    PS X (.Assign [.Subscript o i pos'] value pos) (sDPutN X.w X.K td ty tv) := by
  refine ⟨fun pins s σ H D I h => ?_⟩
  refine wpAny_Assign_Subscript (thn (hv.run pins s σ H _ I h) fun r s1 ⟨v, H1, I1, rv, q1⟩ => thn (ho.run pins s1 σ H1 _ I1 q1) fun u s2 ⟨x, H2, I2, rx, q2⟩ => thn (hi.run pins s2 σ H2 _ I2 q2) fun iv s3 ⟨y, H3, I3, ry, a, ex, g⟩ => ?_) hs
  subst ex
  obtain rfl : u = Value.ref a := rx
  exact n_setItem hu I3 g ry rv fun H4 s4 I4 q4 => ⟨σ, H4, I4, q4⟩
theorem pe_dget2N (hu : X.A.units + 64 < cLine) (ho : PE X o td) (he : PE X e ty) (hf : PE X f tx) (m : M2 X o "get" apos e f cpos) : PE X (.Call (.Attribute o "get" apos) [e, f] [] cpos) (tDGet2N X.w X.K td ty tx) := by
  refine ⟨fun pins s σ H Q I h => ?_⟩
  refine wpAny_Call_method m.base m.few m.line PySem.F.plainAttrs_dict PySem.F.slot_dict_get PySem.F.type_dict_get (thn (ho.run pins s σ H _ I h) fun u s1 ⟨x, H1, I1, rx, a, ex, ⟨kvs0, d⟩, q1⟩ => ?_)
  subst ex
  obtain rfl : u = Value.ref a := rx
  obtain ⟨t1, t2⟩ := n_typeIs I1 d
  refine ⟨t1, t2, ?_⟩
  rw [m.trees]
  refine Calls.callWith_builtin rfl (Calls.evalArgs_plain (Calls.spliced_cons (thn (he.run pins s1 σ H1 _ I1 q1) fun iv s2 ⟨y, H2, I2, ry, q2⟩ =>
    Calls.spliced_cons (thn (hf.run pins s2 σ H2 _ I2 q2) fun fv s3 ⟨z, H3, I3, rz, kvs, k, g, hk, q3⟩ => Calls.spliced_nil ?_))))
  exact n_get2 hu I3 g hk ry rz fun w' s4 I4 rw' => ⟨_, H3, I4, rw', q3⟩
end
/-! list(d) -/
def rListN (w : World) (K : PySem.W.Frag) : List V → Hp → VK → Prop := fun xs H Q => ∃ d kvs, xs = [V.ref d] ∧ DN w K H d kvs ∧
  ∀ p H1 vs, H p = none → Kp [] H H1 → H1 p = some (.lst vs) → DpAll K H1 vs ((kvs.map (·.1)).map NestedKey.data) → (∃ o, H1 = upd H p o) → Q (.ref p) H1
theorem keys_dp {K : PySem.W.Frag} {H : Hp} : ∀ {xs : List NX}, (∀ x ∈ xs, NkAt K H x.1 (.ref x.2.1)) → DpAll K H (xs.map fun x => V.ref x.2.1) (((kvsX xs).map (·.1)).map NestedKey.data)
  | [], _ => .nil
  | x :: xs, h => .cons (h x (by simp)).1 (keys_dp fun y hy => h y (by simp [hy]))
theorem c_listN {X : Cx} (hc : X.calm = true) : CallR X (.type "list") (rListN X.w X.K) := by
  intro pins s σ H xs us Q I r h
  obtain ⟨d, kvs, rfl, ⟨zs, hd, rfl, hx⟩, q⟩ := h
  obtain ⟨u, rfl, rx⟩ := r.one
  cases rx
  obtain ⟨z, hs, ks, pr, o, es, ep, ho, hxx, hdt, he, hn⟩ := (show ObjOk X.prog X.w H s.heap d (ndO X.w d zs) from I.hok d _ hd).1
  have he' : es.toList = ks.map (entryOfKey (nestedKind X.prog X.w)) := he
  have l1 : es.size = ks.length := size_of_entries he'
  have l2 : zs.length = ks.length := Paired.length pr
  refine PySem.W.kdl_call (kdl_raw hs hxx hdt) (I.ok.hd hc) ho (by omega) fun h' tk acc' c' kp e it => ?_
  have ea : acc'.toList = ks.map fun x => Value.ref x.2.1 := by
    have hl : acc'.toList.length = ks.length := by rw [Array.length_toList, it.1]; exact l1
    apply List.ext_getElem?
    intro j
    rw [List.getElem?_map]
    cases hj : acc'.toList[j]? with
    | none =>
      have h1 := List.getElem?_eq_none_iff.mp hj
      rw [List.getElem?_eq_none (by omega)]
      all_goals rfl
    | some v =>
      obtain ⟨en, hen, hv⟩ := it.2 j v (by rw [← Array.getElem?_toList]; exact hj)
      have qe := entry_at he' j
      rw [hen] at qe
      cases hb : ks[j]? with
      | none =>
        rw [hb] at qe
        exact nomatch (show some en = none from qe)
      | some b =>
        rw [hb] at qe
        have e2 : en = entryOfKey (nestedKind X.prog X.w) b := Option.some.inj qe
        rw [hv, e2]
        all_goals rfl
  have eb : acc'.toList = (zs.map fun x => x.2.1).map Value.ref := by
    rw [ea, List.map_map]
    clear ea e it l1 l2 he he' hn q hx hd hs z
    induction pr with
    | nil => rfl
    | cons h t ih => rw [List.map_cons, List.map_cons, ih, ← h.2.1]; rfl
  have rv : Vals (zs.map fun x => V.ref x.2.1) acc'.toList := by
    rw [eb]
    have := vals_refs (zs.map fun x => x.2.1)
    rwa [List.map_map] at this
  have hz : (zs.map fun x => V.ref x.2.1).length ≤ sizeLine := by rw [List.length_map]; omega
  have np : H s.heap.objs.size = none := I.hok.fresh (Nat.le_refl _)
  refine ⟨.ref s.heap.objs.size, _, I.laid (t' := tk) (o := .lst (zs.map fun x => V.ref x.2.1)) kp (Nat.le_refl _) ?_, rfl, q _ _ _ np (Kp.new np) upd_same (keys_dp fun x hxm => (hx x hxm).kp0 (Kp.new np)) ⟨_, rfl⟩⟩
  exact ⟨hz, acc'.toList, c', rv, by rw [Array.toArray_toList]; exact e⟩
end ND


namespace K27
open PySem L2 Z
def topS (i : Nat) : Stmt := PySem.Challenge.pw_samphire_k27_merges_of_optimal_samples.main.body.getD i (.Pass ⟨0, 0, 0, 0⟩)
abbrev s_lowest : Stmt := topS 13
abbrev N_lowest : List Str := ["p", "q", "common"]
theorem sc_lowest : FnScope N_lowest ["p", "q"] (defScope s_lowest) := ⟨rfl, rfl, rfl, by decide +kernel, rfl, by decide +kernel, by decide +kernel⟩
abbrev s_plus : Stmt := topS 14
abbrev N_plus : List Str := ["a", "b"]
theorem sc_plus : FnScope N_plus ["a", "b"] (defScope s_plus) := ⟨rfl, rfl, rfl, by decide +kernel, rfl, by decide +kernel, by decide +kernel⟩
abbrev s_minus : Stmt := topS 15
abbrev N_minus : List Str := ["a", "b"]
theorem sc_minus : FnScope N_minus ["a", "b"] (defScope s_minus) := ⟨rfl, rfl, rfl, by decide +kernel, rfl, by decide +kernel, by decide +kernel⟩
abbrev s_times : Stmt := topS 16
abbrev N_times : List Str := ["a", "b"]
theorem sc_times : FnScope N_times ["a", "b"] (defScope s_times) := ⟨rfl, rfl, rfl, by decide +kernel, rfl, by decide +kernel, by decide +kernel⟩
abbrev s_over : Stmt := topS 17
abbrev N_over : List Str := ["a", "b"]
theorem sc_over : FnScope N_over ["a", "b"] (defScope s_over) := ⟨rfl, rfl, rfl, by decide +kernel, rfl, by decide +kernel, by decide +kernel⟩
abbrev s_less : Stmt := topS 18
abbrev N_less : List Str := ["a", "b"]
theorem sc_less : FnScope N_less ["a", "b"] (defScope s_less) := ⟨rfl, rfl, rfl, by decide +kernel, rfl, by decide +kernel, by decide +kernel⟩
abbrev s_sum_of : Stmt := topS 19
abbrev N_sum_of : List Str := ["fractions", "total", "fraction"]
theorem sc_sum_of : FnScope N_sum_of ["fractions"] (defScope s_sum_of) := ⟨rfl, rfl, rfl, by decide +kernel, rfl, by decide +kernel, by decide +kernel⟩
abbrev s_common_denominator : Stmt := topS 20
abbrev N_common_denominator : List Str := ["fractions", "common", "fraction"]
theorem sc_common_denominator : FnScope N_common_denominator ["fractions"] (defScope s_common_denominator) := ⟨rfl, rfl, rfl, by decide +kernel, rfl, by decide +kernel, by decide +kernel⟩
abbrev s_scaled : Stmt := topS 21
abbrev N_scaled : List Str := ["fractions", "factor", "p", "q"]
theorem sc_scaled : FnScope N_scaled ["fractions", "factor"] (defScope s_scaled) := ⟨rfl, rfl, rfl, by decide +kernel, rfl, by decide +kernel, by decide +kernel⟩
abbrev s_least_twice : Stmt := topS 23
abbrev N_least_twice : List Str := ["names", "ordered", "place"]
theorem sc_least_twice : FnScope N_least_twice ["names"] (defScope s_least_twice) := ⟨rfl, rfl, rfl, by decide +kernel, rfl, by decide +kernel, by decide +kernel⟩
abbrev s_check_keys : Stmt := topS 24
abbrev N_check_keys : List Str := ["samples", "key", "sample", "item"]
theorem sc_check_keys : FnScope N_check_keys ["samples"] (defScope s_check_keys) := ⟨rfl, rfl, rfl, by decide +kernel, rfl, by decide +kernel, by decide +kernel⟩
abbrev s_threshold : Stmt := topS 26
abbrev N_threshold : List Str := ["weights", "size", "common", "smaller", "total", "places"]
theorem sc_threshold : FnScope N_threshold ["weights", "size"] (defScope s_threshold) := ⟨rfl, rfl, rfl, by decide +kernel, rfl, by decide +kernel, by decide +kernel⟩
abbrev s_chance_at : Stmt := topS 27
abbrev N_chance_at : List Str := ["weight", "bar"]
theorem sc_chance_at : FnScope N_chance_at ["weight", "bar"] (defScope s_chance_at) := ⟨rfl, rfl, rfl, by decide +kernel, rfl, by decide +kernel, by decide +kernel⟩
abbrev s_raised : Stmt := topS 28
abbrev N_raised : List Str := ["pair", "bar", "item", "adjusted"]
theorem sc_raised : FnScope N_raised ["pair", "bar"] (defScope s_raised) := ⟨rfl, rfl, rfl, by decide +kernel, rfl, by decide +kernel, by decide +kernel⟩
abbrev s_one_dropped : Stmt := topS 29
abbrev N_one_dropped : List Str := ["pairs", "dice", "bar", "chances", "place", "item", "adjusted", "pair"]
theorem sc_one_dropped : FnScope N_one_dropped ["pairs", "dice"] (defScope s_one_dropped) := ⟨rfl, rfl, rfl, by decide +kernel, rfl, by decide +kernel, by decide +kernel⟩
abbrev s_Optimal_init : Stmt := inClass (topS 30) 0
abbrev N_Optimal_init : List Str := ["self", "size", "parts", "item", "adjusted"]
theorem sc_Optimal_init : FnScope N_Optimal_init ["self", "size", "parts"] (defScope s_Optimal_init) := ⟨rfl, rfl, rfl, by decide +kernel, rfl, by decide +kernel, by decide +kernel⟩
abbrev s_Optimal_merge : Stmt := inClass (topS 30) 3
abbrev N_Optimal_merge : List Str := ["self", "other", "dice", "pairs"]
theorem sc_Optimal_merge : FnScope N_Optimal_merge ["self", "other", "dice"] (defScope s_Optimal_merge) := ⟨rfl, rfl, rfl, by decide +kernel, rfl, by decide +kernel, by decide +kernel⟩
abbrev s_Optimal_view : Stmt := inClass (topS 30) 5
abbrev N_Optimal_view : List Str := ["self"]
theorem sc_Optimal_view : FnScope N_Optimal_view ["self"] (defScope s_Optimal_view) := ⟨rfl, rfl, rfl, by decide +kernel, rfl, by decide +kernel, by decide +kernel⟩
abbrev s_check_chances : Stmt := topS 32
abbrev N_check_chances : List Str := ["chances", "chance"]
theorem sc_check_chances : FnScope N_check_chances ["chances"] (defScope s_check_chances) := ⟨rfl, rfl, rfl, by decide +kernel, rfl, by decide +kernel, by decide +kernel⟩
abbrev s_law_from : Stmt := topS 33
abbrev N_law_from : List Str := ["rows", "found", "outcome", "chance"]
theorem sc_law_from : FnScope N_law_from ["rows"] (defScope s_law_from) := ⟨rfl, rfl, rfl, by decide +kernel, rfl, by decide +kernel, by decide +kernel⟩
abbrev s_next_number : Stmt := topS 36
abbrev N_next_number : List Str := ["weights", "start", "number"]
theorem sc_next_number : FnScope N_next_number ["weights", "start"] (defScope s_next_number) := ⟨rfl, rfl, rfl, by decide +kernel, rfl, by decide +kernel, by decide +kernel⟩
abbrev s_chance_behind : Stmt := topS 37
abbrev N_chance_behind : List Str := ["path", "weights", "total", "number", "before"]
theorem sc_chance_behind : FnScope N_chance_behind ["path"] (defScope s_chance_behind) := ⟨rfl, rfl, rfl, by decide +kernel, rfl, by decide +kernel, by decide +kernel⟩
abbrev s_following : Stmt := topS 38
abbrev N_following : List Str := ["path", "place", "weights", "total", "number", "before", "further"]
theorem sc_following : FnScope N_following ["path"] (defScope s_following) := ⟨rfl, rfl, rfl, by decide +kernel, rfl, by decide +kernel, by decide +kernel⟩
abbrev s_Explorer_init : Stmt := inClass (topS 39) 0
abbrev N_Explorer_init : List Str := ["self"]
theorem sc_Explorer_init : FnScope N_Explorer_init ["self"] (defScope s_Explorer_init) := ⟨rfl, rfl, rfl, by decide +kernel, rfl, by decide +kernel, by decide +kernel⟩
abbrev s_Explorer_begin : Stmt := inClass (topS 39) 1
abbrev N_Explorer_begin : List Str := ["self", "path"]
theorem sc_Explorer_begin : FnScope N_Explorer_begin ["self"] (defScope s_Explorer_begin) := ⟨rfl, rfl, rfl, by decide +kernel, rfl, by decide +kernel, by decide +kernel⟩
abbrev s_Explorer_pick : Stmt := inClass (topS 39) 2
abbrev N_Explorer_pick : List Str := ["self", "weights", "number"]
theorem sc_Explorer_pick : FnScope N_Explorer_pick ["self", "weights"] (defScope s_Explorer_pick) := ⟨rfl, rfl, rfl, by decide +kernel, rfl, by decide +kernel, by decide +kernel⟩
abbrev s_Explorer_end : Stmt := inClass (topS 39) 3
abbrev N_Explorer_end : List Str := ["self", "outcome"]
theorem sc_Explorer_end : FnScope N_Explorer_end ["self", "outcome"] (defScope s_Explorer_end) := ⟨rfl, rfl, rfl, by decide +kernel, rfl, by decide +kernel, by decide +kernel⟩
abbrev s_Explorer_runs : Stmt := inClass (topS 39) 4
abbrev N_Explorer_runs : List Str := ["self"]
theorem sc_Explorer_runs : FnScope N_Explorer_runs ["self"] (defScope s_Explorer_runs) := ⟨rfl, rfl, rfl, by decide +kernel, rfl, by decide +kernel, by decide +kernel⟩
abbrev s_Explorer_gathered : Stmt := inClass (topS 39) 5
abbrev N_Explorer_gathered : List Str := ["self"]
theorem sc_Explorer_gathered : FnScope N_Explorer_gathered ["self"] (defScope s_Explorer_gathered) := ⟨rfl, rfl, rfl, by decide +kernel, rfl, by decide +kernel, by decide +kernel⟩
abbrev s__law_mix : Stmt := topS 41
abbrev N__law_mix : List Str := ["number", "k"]
theorem sc__law_mix : FnScope N__law_mix ["number", "k"] (defScope s__law_mix) := ⟨rfl, rfl, rfl, by decide +kernel, rfl, by decide +kernel, by decide +kernel⟩
abbrev s__law_numbers : Stmt := topS 42
abbrev N__law_numbers : List Str := ["script", "count", "row", "base", "cell", "rest", "k"]
theorem sc__law_numbers : FnScope N__law_numbers ["script", "count"] (defScope s__law_numbers) := ⟨rfl, rfl, rfl, by decide +kernel, rfl, by decide +kernel, by decide +kernel⟩
abbrev s__law_take : Stmt := topS 43
abbrev N__law_take : List Str := ["row", "bound"]
theorem sc__law_take : FnScope N__law_take ["row", "bound"] (defScope s__law_take) := ⟨rfl, rfl, rfl, by decide +kernel, rfl, by decide +kernel, by decide +kernel⟩
abbrev s__law_low : Stmt := topS 44
abbrev N__law_low : List Str := ["p", "q", "first", "second", "turn"]
theorem sc__law_low : FnScope N__law_low ["p", "q"] (defScope s__law_low) := ⟨rfl, rfl, rfl, by decide +kernel, rfl, by decide +kernel, by decide +kernel⟩
abbrev s__law_plus : Stmt := topS 45
abbrev N__law_plus : List Str := ["one", "other"]
theorem sc__law_plus : FnScope N__law_plus ["one", "other"] (defScope s__law_plus) := ⟨rfl, rfl, rfl, by decide +kernel, rfl, by decide +kernel, by decide +kernel⟩
abbrev s__law_minus : Stmt := topS 46
abbrev N__law_minus : List Str := ["one", "other"]
theorem sc__law_minus : FnScope N__law_minus ["one", "other"] (defScope s__law_minus) := ⟨rfl, rfl, rfl, by decide +kernel, rfl, by decide +kernel, by decide +kernel⟩
abbrev s__law_times : Stmt := topS 47
abbrev N__law_times : List Str := ["one", "other"]
theorem sc__law_times : FnScope N__law_times ["one", "other"] (defScope s__law_times) := ⟨rfl, rfl, rfl, by decide +kernel, rfl, by decide +kernel, by decide +kernel⟩
abbrev s__law_less : Stmt := topS 48
abbrev N__law_less : List Str := ["one", "other"]
theorem sc__law_less : FnScope N__law_less ["one", "other"] (defScope s__law_less) := ⟨rfl, rfl, rfl, by decide +kernel, rfl, by decide +kernel, by decide +kernel⟩
abbrev s__law_sum : Stmt := topS 49
abbrev N__law_sum : List Str := ["rows", "whole", "one"]
theorem sc__law_sum : FnScope N__law_sum ["rows"] (defScope s__law_sum) := ⟨rfl, rfl, rfl, by decide +kernel, rfl, by decide +kernel, by decide +kernel⟩
abbrev s__law_items : Stmt := topS 50
abbrev N__law_items : List Str := ["row", "many", "found", "k", "weight"]
theorem sc__law_items : FnScope N__law_items ["row", "many"] (defScope s__law_items) := ⟨rfl, rfl, rfl, by decide +kernel, rfl, by decide +kernel, by decide +kernel⟩
abbrev s__law_lesser : Stmt := topS 51
abbrev N__law_lesser : List Str := ["weight", "limit"]
theorem sc__law_lesser : FnScope N__law_lesser ["weight", "limit"] (defScope s__law_lesser) := ⟨rfl, rfl, rfl, by decide +kernel, rfl, by decide +kernel, by decide +kernel⟩
abbrev s__law_threshold : Stmt := topS 52
abbrev N__law_threshold : List Str := ["weights", "size", "large", "rows", "rest", "found"]
theorem sc__law_threshold : FnScope N__law_threshold ["weights", "size"] (defScope s__law_threshold) := ⟨rfl, rfl, rfl, by decide +kernel, rfl, by decide +kernel, by decide +kernel⟩
abbrev s__law_raised : Stmt := topS 53
abbrev N__law_raised : List Str := ["parts", "limit", "item", "adjusted"]
theorem sc__law_raised : FnScope N__law_raised ["parts", "limit"] (defScope s__law_raised) := ⟨rfl, rfl, rfl, by decide +kernel, rfl, by decide +kernel, by decide +kernel⟩
abbrev s__law_dropped : Stmt := topS 54
abbrev N__law_dropped : List Str := ["chance", "parts", "size", "waiting", "found", "turn", "limit", "k", "gone", "one"]
theorem sc__law_dropped : FnScope N__law_dropped ["chance", "parts", "size"] (defScope s__law_dropped) := ⟨rfl, rfl, rfl, by decide +kernel, rfl, by decide +kernel, by decide +kernel⟩
abbrev s__law_law : Stmt := topS 55
abbrev N__law_law : List Str := ["rows", "found", "outcome", "chance"]
theorem sc__law_law : FnScope N__law_law ["rows"] (defScope s__law_law) := ⟨rfl, rfl, rfl, by decide +kernel, rfl, by decide +kernel, by decide +kernel⟩
abbrev s__law_parts : Stmt := topS 56
abbrev N__law_parts : List Str := ["row", "things", "found", "item", "adjusted"]
theorem sc__law_parts : FnScope N__law_parts ["row", "things"] (defScope s__law_parts) := ⟨rfl, rfl, rfl, by decide +kernel, rfl, by decide +kernel, by decide +kernel⟩
abbrev s__law_explored : Stmt := topS 57
abbrev N__law_explored : List Str := ["first", "second", "explorer", "turn"]
theorem sc__law_explored : FnScope N__law_explored ["first", "second"] (defScope s__law_explored) := ⟨rfl, rfl, rfl, by decide +kernel, rfl, by decide +kernel, by decide +kernel⟩
abbrev s_law : Stmt := topS 58
abbrev N_law : List Str := ["script", "row", "size", "things", "many", "first", "second", "one", "other", "due", "chance", "parts"]
theorem sc_law : FnScope N_law ["script"] (defScope s_law) := ⟨rfl, rfl, rfl, by decide +kernel, rfl, by decide +kernel, by decide +kernel⟩
abbrev s_TooLarge_init : Stmt := inClass (topS 4) 0
abbrev N_TooLarge_init : List Str := ["self", "limit", "__class__"]
theorem sc_TooLarge_init : NdefX.NScope N_TooLarge_init ["self", "limit"] ["__class__"] (defScope s_TooLarge_init) := NdefX.nscope_by (by decide +kernel)
abbrev NF_TooLarge (cc c : Addr) : NdefX.NF := ⟨"__init__", "TooLarge.__init__", defArgs s_TooLarge_init, defBody s_TooLarge_init, defScope s_TooLarge_init, [(("__class__" : Str), cc)], c⟩
abbrev s_ZeroDenominator_init : Stmt := inClass (topS 7) 0
abbrev N_ZeroDenominator_init : List Str := ["self", "__class__"]
theorem sc_ZeroDenominator_init : NdefX.NScope N_ZeroDenominator_init ["self"] ["__class__"] (defScope s_ZeroDenominator_init) := NdefX.nscope_by (by decide +kernel)
abbrev NF_ZeroDenominator (cc c : Addr) : NdefX.NF := ⟨"__init__", "ZeroDenominator.__init__", defArgs s_ZeroDenominator_init, defBody s_ZeroDenominator_init, defScope s_ZeroDenominator_init, [(("__class__" : Str), cc)], c⟩
abbrev s_InvalidLaw_init : Stmt := inClass (topS 8) 0
abbrev N_InvalidLaw_init : List Str := ["self", "__class__"]
theorem sc_InvalidLaw_init : NdefX.NScope N_InvalidLaw_init ["self"] ["__class__"] (defScope s_InvalidLaw_init) := NdefX.nscope_by (by decide +kernel)
abbrev NF_InvalidLaw (cc c : Addr) : NdefX.NF := ⟨"__init__", "InvalidLaw.__init__", defArgs s_InvalidLaw_init, defBody s_InvalidLaw_init, defScope s_InvalidLaw_init, [(("__class__" : Str), cc)], c⟩
abbrev s_NotEnded_init : Stmt := inClass (topS 9) 0
abbrev N_NotEnded_init : List Str := ["self", "__class__"]
theorem sc_NotEnded_init : NdefX.NScope N_NotEnded_init ["self"] ["__class__"] (defScope s_NotEnded_init) := NdefX.nscope_by (by decide +kernel)
abbrev NF_NotEnded (cc c : Addr) : NdefX.NF := ⟨"__init__", "NotEnded.__init__", defArgs s_NotEnded_init, defBody s_NotEnded_init, defScope s_NotEnded_init, [(("__class__" : Str), cc)], c⟩
set_option maxHeartbeats 4000000 in
structure T (P : Program) (K : PySem.W.Frag) (mg : Str → Option Value) (base : Heap) where
  a_lowest : Addr
  fd_lowest : FuncData
  F_lowest : Fun K "lowest" "lowest" s_lowest a_lowest fd_lowest
  b_lowest : Binds K fd_lowest ["p", "q"] []
  g_lowest : mg "lowest" = some (.ref a_lowest)
  a_plus : Addr
  fd_plus : FuncData
  F_plus : Fun K "plus" "plus" s_plus a_plus fd_plus
  b_plus : Binds K fd_plus ["a", "b"] []
  g_plus : mg "plus" = some (.ref a_plus)
  a_minus : Addr
  fd_minus : FuncData
  F_minus : Fun K "minus" "minus" s_minus a_minus fd_minus
  b_minus : Binds K fd_minus ["a", "b"] []
  g_minus : mg "minus" = some (.ref a_minus)
  a_times : Addr
  fd_times : FuncData
  F_times : Fun K "times" "times" s_times a_times fd_times
  b_times : Binds K fd_times ["a", "b"] []
  g_times : mg "times" = some (.ref a_times)
  a_over : Addr
  fd_over : FuncData
  F_over : Fun K "over" "over" s_over a_over fd_over
  b_over : Binds K fd_over ["a", "b"] []
  g_over : mg "over" = some (.ref a_over)
  a_less : Addr
  fd_less : FuncData
  F_less : Fun K "less" "less" s_less a_less fd_less
  b_less : Binds K fd_less ["a", "b"] []
  g_less : mg "less" = some (.ref a_less)
  a_sum_of : Addr
  fd_sum_of : FuncData
  F_sum_of : Fun K "sum_of" "sum_of" s_sum_of a_sum_of fd_sum_of
  b_sum_of : Binds K fd_sum_of ["fractions"] []
  g_sum_of : mg "sum_of" = some (.ref a_sum_of)
  a_common_denominator : Addr
  fd_common_denominator : FuncData
  F_common_denominator : Fun K "common_denominator" "common_denominator" s_common_denominator a_common_denominator fd_common_denominator
  b_common_denominator : Binds K fd_common_denominator ["fractions"] []
  g_common_denominator : mg "common_denominator" = some (.ref a_common_denominator)
  a_scaled : Addr
  fd_scaled : FuncData
  F_scaled : Fun K "scaled" "scaled" s_scaled a_scaled fd_scaled
  b_scaled : Binds K fd_scaled ["fractions", "factor"] []
  g_scaled : mg "scaled" = some (.ref a_scaled)
  a_least_twice : Addr
  fd_least_twice : FuncData
  F_least_twice : Fun K "least_twice" "least_twice" s_least_twice a_least_twice fd_least_twice
  b_least_twice : Binds K fd_least_twice ["names"] []
  g_least_twice : mg "least_twice" = some (.ref a_least_twice)
  a_check_keys : Addr
  fd_check_keys : FuncData
  F_check_keys : Fun K "check_keys" "check_keys" s_check_keys a_check_keys fd_check_keys
  b_check_keys : Binds K fd_check_keys ["samples"] []
  g_check_keys : mg "check_keys" = some (.ref a_check_keys)
  a_threshold : Addr
  fd_threshold : FuncData
  F_threshold : Fun K "threshold" "threshold" s_threshold a_threshold fd_threshold
  b_threshold : Binds K fd_threshold ["weights", "size"] []
  g_threshold : mg "threshold" = some (.ref a_threshold)
  a_chance_at : Addr
  fd_chance_at : FuncData
  F_chance_at : Fun K "chance_at" "chance_at" s_chance_at a_chance_at fd_chance_at
  b_chance_at : Binds K fd_chance_at ["weight", "bar"] []
  g_chance_at : mg "chance_at" = some (.ref a_chance_at)
  a_raised : Addr
  fd_raised : FuncData
  F_raised : Fun K "raised" "raised" s_raised a_raised fd_raised
  b_raised : Binds K fd_raised ["pair", "bar"] []
  g_raised : mg "raised" = some (.ref a_raised)
  a_one_dropped : Addr
  fd_one_dropped : FuncData
  F_one_dropped : Fun K "one_dropped" "one_dropped" s_one_dropped a_one_dropped fd_one_dropped
  b_one_dropped : Binds K fd_one_dropped ["pairs", "dice"] []
  g_one_dropped : mg "one_dropped" = some (.ref a_one_dropped)
  a_Optimal_init : Addr
  fd_Optimal_init : FuncData
  F_Optimal_init : Fun K "__init__" "Optimal.__init__" s_Optimal_init a_Optimal_init fd_Optimal_init
  b_Optimal_init : Binds K fd_Optimal_init ["self", "size", "parts"] []
  a_Optimal_merge : Addr
  fd_Optimal_merge : FuncData
  F_Optimal_merge : Fun K "merge" "Optimal.merge" s_Optimal_merge a_Optimal_merge fd_Optimal_merge
  b_Optimal_merge : Binds K fd_Optimal_merge ["self", "other", "dice"] []
  a_Optimal_view : Addr
  fd_Optimal_view : FuncData
  F_Optimal_view : Fun K "view" "Optimal.view" s_Optimal_view a_Optimal_view fd_Optimal_view
  b_Optimal_view : Binds K fd_Optimal_view ["self"] []
  a_check_chances : Addr
  fd_check_chances : FuncData
  F_check_chances : Fun K "check_chances" "check_chances" s_check_chances a_check_chances fd_check_chances
  b_check_chances : Binds K fd_check_chances ["chances"] []
  g_check_chances : mg "check_chances" = some (.ref a_check_chances)
  a_law_from : Addr
  fd_law_from : FuncData
  F_law_from : Fun K "law_from" "law_from" s_law_from a_law_from fd_law_from
  b_law_from : Binds K fd_law_from ["rows"] []
  g_law_from : mg "law_from" = some (.ref a_law_from)
  a_next_number : Addr
  fd_next_number : FuncData
  F_next_number : Fun K "next_number" "next_number" s_next_number a_next_number fd_next_number
  b_next_number : Binds K fd_next_number ["weights", "start"] []
  g_next_number : mg "next_number" = some (.ref a_next_number)
  a_chance_behind : Addr
  fd_chance_behind : FuncData
  F_chance_behind : Fun K "chance_behind" "chance_behind" s_chance_behind a_chance_behind fd_chance_behind
  b_chance_behind : Binds K fd_chance_behind ["path"] []
  g_chance_behind : mg "chance_behind" = some (.ref a_chance_behind)
  a_following : Addr
  fd_following : FuncData
  F_following : Fun K "following" "following" s_following a_following fd_following
  b_following : Binds K fd_following ["path"] []
  g_following : mg "following" = some (.ref a_following)
  a_Explorer_init : Addr
  fd_Explorer_init : FuncData
  F_Explorer_init : Fun K "__init__" "Explorer.__init__" s_Explorer_init a_Explorer_init fd_Explorer_init
  b_Explorer_init : Binds K fd_Explorer_init ["self"] []
  a_Explorer_begin : Addr
  fd_Explorer_begin : FuncData
  F_Explorer_begin : Fun K "begin" "Explorer.begin" s_Explorer_begin a_Explorer_begin fd_Explorer_begin
  b_Explorer_begin : Binds K fd_Explorer_begin ["self"] []
  a_Explorer_pick : Addr
  fd_Explorer_pick : FuncData
  F_Explorer_pick : Fun K "pick" "Explorer.pick" s_Explorer_pick a_Explorer_pick fd_Explorer_pick
  b_Explorer_pick : Binds K fd_Explorer_pick ["self", "weights"] []
  a_Explorer_end : Addr
  fd_Explorer_end : FuncData
  F_Explorer_end : Fun K "end" "Explorer.end" s_Explorer_end a_Explorer_end fd_Explorer_end
  b_Explorer_end : Binds K fd_Explorer_end ["self", "outcome"] []
  a_Explorer_runs : Addr
  fd_Explorer_runs : FuncData
  F_Explorer_runs : Fun K "runs" "Explorer.runs" s_Explorer_runs a_Explorer_runs fd_Explorer_runs
  b_Explorer_runs : Binds K fd_Explorer_runs ["self"] []
  a_Explorer_gathered : Addr
  fd_Explorer_gathered : FuncData
  F_Explorer_gathered : Fun K "gathered" "Explorer.gathered" s_Explorer_gathered a_Explorer_gathered fd_Explorer_gathered
  b_Explorer_gathered : Binds K fd_Explorer_gathered ["self"] []
  a__law_mix : Addr
  fd__law_mix : FuncData
  F__law_mix : Fun K "_law_mix" "_law_mix" s__law_mix a__law_mix fd__law_mix
  b__law_mix : Binds K fd__law_mix ["number", "k"] []
  g__law_mix : mg "_law_mix" = some (.ref a__law_mix)
  a__law_numbers : Addr
  fd__law_numbers : FuncData
  F__law_numbers : Fun K "_law_numbers" "_law_numbers" s__law_numbers a__law_numbers fd__law_numbers
  b__law_numbers : Binds K fd__law_numbers ["script", "count"] []
  g__law_numbers : mg "_law_numbers" = some (.ref a__law_numbers)
  a__law_take : Addr
  fd__law_take : FuncData
  F__law_take : Fun K "_law_take" "_law_take" s__law_take a__law_take fd__law_take
  b__law_take : Binds K fd__law_take ["row", "bound"] []
  g__law_take : mg "_law_take" = some (.ref a__law_take)
  a__law_low : Addr
  fd__law_low : FuncData
  F__law_low : Fun K "_law_low" "_law_low" s__law_low a__law_low fd__law_low
  b__law_low : Binds K fd__law_low ["p", "q"] []
  g__law_low : mg "_law_low" = some (.ref a__law_low)
  a__law_plus : Addr
  fd__law_plus : FuncData
  F__law_plus : Fun K "_law_plus" "_law_plus" s__law_plus a__law_plus fd__law_plus
  b__law_plus : Binds K fd__law_plus ["one", "other"] []
  g__law_plus : mg "_law_plus" = some (.ref a__law_plus)
  a__law_minus : Addr
  fd__law_minus : FuncData
  F__law_minus : Fun K "_law_minus" "_law_minus" s__law_minus a__law_minus fd__law_minus
  b__law_minus : Binds K fd__law_minus ["one", "other"] []
  g__law_minus : mg "_law_minus" = some (.ref a__law_minus)
  a__law_times : Addr
  fd__law_times : FuncData
  F__law_times : Fun K "_law_times" "_law_times" s__law_times a__law_times fd__law_times
  b__law_times : Binds K fd__law_times ["one", "other"] []
  g__law_times : mg "_law_times" = some (.ref a__law_times)
  a__law_less : Addr
  fd__law_less : FuncData
  F__law_less : Fun K "_law_less" "_law_less" s__law_less a__law_less fd__law_less
  b__law_less : Binds K fd__law_less ["one", "other"] []
  g__law_less : mg "_law_less" = some (.ref a__law_less)
  a__law_sum : Addr
  fd__law_sum : FuncData
  F__law_sum : Fun K "_law_sum" "_law_sum" s__law_sum a__law_sum fd__law_sum
  b__law_sum : Binds K fd__law_sum ["rows"] []
  g__law_sum : mg "_law_sum" = some (.ref a__law_sum)
  a__law_items : Addr
  fd__law_items : FuncData
  F__law_items : Fun K "_law_items" "_law_items" s__law_items a__law_items fd__law_items
  b__law_items : Binds K fd__law_items ["row", "many"] []
  g__law_items : mg "_law_items" = some (.ref a__law_items)
  a__law_lesser : Addr
  fd__law_lesser : FuncData
  F__law_lesser : Fun K "_law_lesser" "_law_lesser" s__law_lesser a__law_lesser fd__law_lesser
  b__law_lesser : Binds K fd__law_lesser ["weight", "limit"] []
  g__law_lesser : mg "_law_lesser" = some (.ref a__law_lesser)
  a__law_threshold : Addr
  fd__law_threshold : FuncData
  F__law_threshold : Fun K "_law_threshold" "_law_threshold" s__law_threshold a__law_threshold fd__law_threshold
  b__law_threshold : Binds K fd__law_threshold ["weights", "size"] []
  g__law_threshold : mg "_law_threshold" = some (.ref a__law_threshold)
  a__law_raised : Addr
  fd__law_raised : FuncData
  F__law_raised : Fun K "_law_raised" "_law_raised" s__law_raised a__law_raised fd__law_raised
  b__law_raised : Binds K fd__law_raised ["parts", "limit"] []
  g__law_raised : mg "_law_raised" = some (.ref a__law_raised)
  a__law_dropped : Addr
  fd__law_dropped : FuncData
  F__law_dropped : Fun K "_law_dropped" "_law_dropped" s__law_dropped a__law_dropped fd__law_dropped
  b__law_dropped : Binds K fd__law_dropped ["chance", "parts", "size"] []
  g__law_dropped : mg "_law_dropped" = some (.ref a__law_dropped)
  a__law_law : Addr
  fd__law_law : FuncData
  F__law_law : Fun K "_law_law" "_law_law" s__law_law a__law_law fd__law_law
  b__law_law : Binds K fd__law_law ["rows"] []
  g__law_law : mg "_law_law" = some (.ref a__law_law)
  a__law_parts : Addr
  fd__law_parts : FuncData
  F__law_parts : Fun K "_law_parts" "_law_parts" s__law_parts a__law_parts fd__law_parts
  b__law_parts : Binds K fd__law_parts ["row", "things"] []
  g__law_parts : mg "_law_parts" = some (.ref a__law_parts)
  a__law_explored : Addr
  fd__law_explored : FuncData
  F__law_explored : Fun K "_law_explored" "_law_explored" s__law_explored a__law_explored fd__law_explored
  b__law_explored : Binds K fd__law_explored ["first", "second"] []
  g__law_explored : mg "_law_explored" = some (.ref a__law_explored)
  a_law : Addr
  fd_law : FuncData
  F_law : Fun K "law" "law" s_law a_law fd_law
  b_law : Binds K fd_law ["script"] []
  g_law : mg "law" = some (.ref a_law)
  C_Optimal : Addr
  cl_Optimal : Cls K C_Optimal
  mg_Optimal : mg "Optimal" = some (.ref C_Optimal)
  mk_Optimal : Mk K C_Optimal a_Optimal_init
  na_Optimal_size : NoAttr K C_Optimal "size"
  na_Optimal_parts : NoAttr K C_Optimal "parts"
  na_Optimal_kept : NoAttr K C_Optimal "kept"
  me_Optimal_merge : Meth K C_Optimal "merge" a_Optimal_merge
  me_Optimal_view : Meth K C_Optimal "view" a_Optimal_view
  C_Explorer : Addr
  cl_Explorer : Cls K C_Explorer
  mg_Explorer : mg "Explorer" = some (.ref C_Explorer)
  mk_Explorer : Mk K C_Explorer a_Explorer_init
  na_Explorer__path : NoAttr K C_Explorer "_path"
  na_Explorer__made : NoAttr K C_Explorer "_made"
  na_Explorer__running : NoAttr K C_Explorer "_running"
  na_Explorer__finished : NoAttr K C_Explorer "_finished"
  na_Explorer__rows : NoAttr K C_Explorer "_rows"
  me_Explorer_begin : Meth K C_Explorer "begin" a_Explorer_begin
  me_Explorer_pick : Meth K C_Explorer "pick" a_Explorer_pick
  me_Explorer_end : Meth K C_Explorer "end" a_Explorer_end
  me_Explorer_runs : Meth K C_Explorer "runs" a_Explorer_runs
  me_Explorer_gathered : Meth K C_Explorer "gathered" a_Explorer_gathered
  C_SamphireError : Addr
  mg_SamphireError : mg "SamphireError" = some (.ref C_SamphireError)
  C_TooLarge : Addr
  a_TooLarge_init : Addr
  c_TooLarge : Addr
  cc_TooLarge : Addr
  x_TooLarge : Sup.ExcT P K mg "TooLarge" C_TooLarge a_TooLarge_init c_TooLarge cc_TooLarge
  doc_TooLarge : Value
  pm_TooLarge : Value
  ctv_TooLarge : Value
  oc_TooLarge : Value
  od_TooLarge : Option Addr
  osl_TooLarge : Array (Option Value)
  lk_TooLarge : K.lookup a_TooLarge_init = some ⟨oc_TooLarge, od_TooLarge, .func ((NF_TooLarge cc_TooLarge c_TooLarge).fd doc_TooLarge pm_TooLarge ctv_TooLarge), osl_TooLarge⟩
  hc_TooLarge : PySem.W.codeIn K (.ref c_TooLarge) "TooLarge.__init__" = true
  bx_TooLarge : Binds K ((NF_TooLarge cc_TooLarge c_TooLarge).fd doc_TooLarge pm_TooLarge ctv_TooLarge) ["self", "limit"] []
  nf_TooLarge_limit : PySem.W.findIn K (.ref C_TooLarge) "limit" = some none
  C_ZeroDenominator : Addr
  a_ZeroDenominator_init : Addr
  c_ZeroDenominator : Addr
  cc_ZeroDenominator : Addr
  x_ZeroDenominator : Sup.ExcT P K mg "ZeroDenominator" C_ZeroDenominator a_ZeroDenominator_init c_ZeroDenominator cc_ZeroDenominator
  doc_ZeroDenominator : Value
  pm_ZeroDenominator : Value
  ctv_ZeroDenominator : Value
  oc_ZeroDenominator : Value
  od_ZeroDenominator : Option Addr
  osl_ZeroDenominator : Array (Option Value)
  lk_ZeroDenominator : K.lookup a_ZeroDenominator_init = some ⟨oc_ZeroDenominator, od_ZeroDenominator, .func ((NF_ZeroDenominator cc_ZeroDenominator c_ZeroDenominator).fd doc_ZeroDenominator pm_ZeroDenominator ctv_ZeroDenominator), osl_ZeroDenominator⟩
  hc_ZeroDenominator : PySem.W.codeIn K (.ref c_ZeroDenominator) "ZeroDenominator.__init__" = true
  bx_ZeroDenominator : Binds K ((NF_ZeroDenominator cc_ZeroDenominator c_ZeroDenominator).fd doc_ZeroDenominator pm_ZeroDenominator ctv_ZeroDenominator) ["self"] []
  C_InvalidLaw : Addr
  a_InvalidLaw_init : Addr
  c_InvalidLaw : Addr
  cc_InvalidLaw : Addr
  x_InvalidLaw : Sup.ExcT P K mg "InvalidLaw" C_InvalidLaw a_InvalidLaw_init c_InvalidLaw cc_InvalidLaw
  doc_InvalidLaw : Value
  pm_InvalidLaw : Value
  ctv_InvalidLaw : Value
  oc_InvalidLaw : Value
  od_InvalidLaw : Option Addr
  osl_InvalidLaw : Array (Option Value)
  lk_InvalidLaw : K.lookup a_InvalidLaw_init = some ⟨oc_InvalidLaw, od_InvalidLaw, .func ((NF_InvalidLaw cc_InvalidLaw c_InvalidLaw).fd doc_InvalidLaw pm_InvalidLaw ctv_InvalidLaw), osl_InvalidLaw⟩
  hc_InvalidLaw : PySem.W.codeIn K (.ref c_InvalidLaw) "InvalidLaw.__init__" = true
  bx_InvalidLaw : Binds K ((NF_InvalidLaw cc_InvalidLaw c_InvalidLaw).fd doc_InvalidLaw pm_InvalidLaw ctv_InvalidLaw) ["self"] []
  C_NotEnded : Addr
  a_NotEnded_init : Addr
  c_NotEnded : Addr
  cc_NotEnded : Addr
  x_NotEnded : Sup.ExcT P K mg "NotEnded" C_NotEnded a_NotEnded_init c_NotEnded cc_NotEnded
  doc_NotEnded : Value
  pm_NotEnded : Value
  ctv_NotEnded : Value
  oc_NotEnded : Value
  od_NotEnded : Option Addr
  osl_NotEnded : Array (Option Value)
  lk_NotEnded : K.lookup a_NotEnded_init = some ⟨oc_NotEnded, od_NotEnded, .func ((NF_NotEnded cc_NotEnded c_NotEnded).fd doc_NotEnded pm_NotEnded ctv_NotEnded), osl_NotEnded⟩
  hc_NotEnded : PySem.W.codeIn K (.ref c_NotEnded) "NotEnded.__init__" = true
  bx_NotEnded : Binds K ((NF_NotEnded cc_NotEnded c_NotEnded).fd doc_NotEnded pm_NotEnded ctv_NotEnded) ["self"] []
  isa_Optimal : PySem.W.findIn K (.ref C_Optimal) "__class__" = some (some (.builtin "object.__class__"))
  isg_Optimal : PySem.W.specialIn K (.builtin "object.__class__") "__get__" = some (some (.builtin "getset_descriptor.__get__"))
  ist_Optimal : PySem.W.takesIn K (.builtin "object.__class__") = some true
  ism_Optimal : PySem.W.mroIn K C_Optimal (.type "object") = some true
  kit_Optimal_Optimal : PySem.W.kitOne K (.ref C_Optimal) (.ref C_Optimal) = some true
  z_abs : mg "abs" = none
  z_int : mg "int" = none
  z_isinstance : mg "isinstance" = none
  z_len : mg "len" = none
  z_list : mg "list" = none
  z_max : mg "max" = none
  z_range : mg "range" = none
  z_reversed : mg "reversed" = none
  z_sorted : mg "sorted" = none
  z_sum : mg "sum" = none
  z_super : mg "super" = none
  z_tuple : mg "tuple" = none
  v_MOST_RUNS : Value
  g_MOST_RUNS : mg "MOST_RUNS" = some v_MOST_RUNS
  r_MOST_RUNS : RelV (.int (20000)) v_MOST_RUNS
  k_ZERO : Addr
  g_ZERO : mg "ZERO" = some (.ref k_ZERO)
  q_ZERO : ∀ H, SqT K H k_ZERO [.int (0), .int (1)]
  k_ONE : Addr
  g_ONE : mg "ONE" = some (.ref k_ONE)
  q_ONE : ∀ H, SqT K H k_ONE [.int (1), .int (1)]
  g_gcd : mg "gcd" = some (.builtin "math.gcd")
  g_lcm : mg "lcm" = some (.builtin "math.lcm")
  c_law_from : Addr
  P_law_from : Addr
  TB_law_from : LamX.TabB base mg c_law_from P_law_from
  L_law_from : LamK.CodeFn K a_law_from fd_law_from s_law_from "law_from" c_law_from
  c__law_threshold : Addr
  P__law_threshold : Addr
  TB__law_threshold : LamX.TabB base mg c__law_threshold P__law_threshold
  L__law_threshold : LamK.CodeFn K a__law_threshold fd__law_threshold s__law_threshold "_law_threshold" c__law_threshold
  neP : P_law_from ≠ P__law_threshold
abbrev TBS {P : Program} {K : PySem.W.Frag} {mg : Str → Option Value} {base : Heap} (T : T P K mg base) : List (Addr × Str) := [(T.P_law_from, "law_from.<locals>.<lambda>"), (T.P__law_threshold, "_law_threshold.<locals>.<lambda>")]

/-! ### the walk by single steps -/
local macro_rules | `(tactic| walk_at "z1") => `(tactic| first
  | with_reducible refine Z.seq ?_
  | with_reducible refine Z.asg ?_
  | ((with_reducible refine' Z.gname ?zv ?_); (case zv => first | (dsimp only [List.set]; done) | (dsimp only [List.set]; exact rfl)))
  | ((with_reducible refine' Z.var ?zv ?_); (case zv => exact rfl))
  | with_reducible refine Z.cst ?_
  | with_reducible refine Z.op ?_
  | with_reducible refine Z.un ?_
  | with_reducible refine Z.i0 ?_
  | with_reducible refine Z.iU ?_
  | with_reducible refine Z.eqII ?_
  | with_reducible refine Z.neII ?_
  | with_reducible refine Z.eqSS ?_
  | with_reducible refine Z.neSS ?_
  | with_reducible refine Z.eqBB ?_
  | with_reducible refine Z.neBB ?_
  | with_reducible refine Z.bl' ?_
  | with_reducible refine Z.test ?_
  | with_reducible refine Z.tbb ?_
  | with_reducible refine Z.tand ?_
  | with_reducible refine Z.tor ?_
  | with_reducible refine Z.tnot ?_
  | with_reducible refine Z.tyes ?_
  | with_reducible refine Z.andV ?_
  | with_reducible refine Z.orV ?_
  | with_reducible refine Z.notV ?_
  | with_reducible refine Z.ifE ?_
  | with_reducible refine Z.chain ?_
  | with_reducible refine Z.yesB ?_
  | with_reducible refine Z.noB ?_
  | with_reducible refine Z.noNB ?_
  | with_reducible refine Z.yesNB ?_
  | with_reducible refine Z.nil ?_
  | with_reducible refine Z.cons ?_
  | with_reducible refine Z.cb ?_
  | with_reducible refine Z.call ?_
  | with_reducible refine Z.meth ?_
  | with_reducible refine Z.fld ?_
  | with_reducible refine Z.int1 ?_
  | with_reducible refine Z.intb ?_
  | with_reducible refine Z.abs1 ?_
  | with_reducible refine Z.gcons ?_
  | with_reducible refine Z.gnil ?_
  | with_reducible refine Z.gcd ?_
  | ((with_reducible refine' Z.par2 ?zv ?_); (case zv => first | (dsimp only [List.set]; done) | (dsimp only [List.set]; exact rfl)))
  | with_reducible refine Z.isN ?_
  | with_reducible refine Z.notN ?_
  | with_reducible refine Z.inSg ?_
  | with_reducible refine Z.ninSg ?_
  | with_reducible refine Z.tup ?_
  | with_reducible refine Z.lst ?_
  | with_reducible refine Z.gsub ?_
  | with_reducible refine Z.par ?_
  | ((with_reducible refine' Z.aug ?zv ?_); (case zv => exact rfl))
  | with_reducible refine Z.ipI' ?_
  | with_reducible refine Z.ifs ?_
  | with_reducible refine Z.ret ?_
  | with_reducible refine Z.retN ?_
  | with_reducible refine Z.next ?_
  | with_reducible refine Z.brk ?_
  | with_reducible refine Z.drop ?_
  | with_reducible refine Z.bm ?_
  | with_reducible refine Z.bm0 ?_
  | with_reducible refine Z.sfld ?_
  | with_reducible refine Z.sfldaug ?_
  | with_reducible refine Z.radd ?_
  | with_reducible refine Z.make ?_
  | with_reducible refine Z.lc ?_
  | with_reducible refine Z.rng1 ?_
  | with_reducible refine Z.ilist ?_
  | with_reducible refine Z.itup ?_
  | with_reducible refine Z.for_ ?_
  | with_reducible refine Z.istr ?_
  | with_reducible refine Z.ienum ?_
  | with_reducible refine Z.izip ?_
  | with_reducible refine Z.irng2 ?_
  | with_reducible refine LamK.srt ?_
  | with_reducible refine LamQ.srtQ ?_
  | with_reducible refine Z.irevr ?_
  | with_reducible refine Z.rg1 ?_
  | with_reducible refine LamK.methX ?_
  | with_reducible refine Z.augs ?_
  | with_reducible refine Z.ienumS ?_
  | with_reducible refine Z.din ?_
  | with_reducible refine Z.dput ?_
  | with_reducible refine Z.dget ?_
  | with_reducible refine Z.dget2 ?_
  | with_reducible refine Z.sl ?_
  | with_reducible refine Z.slno ?_
  | with_reducible refine Z.slpart ?_
  | with_reducible refine Z.bint ?_
  | with_reducible refine Z.listrev ?_
  | with_reducible refine Z.revl ?_
  | dsimp only)
local macro_rules | `(tactic| walk_at "z0") => `(tactic| ((try simp only [Z.cxK]); (try dsimp only [L2.start, List.map, List.length, Nat.reduceAdd, Nat.reduceSub, List.replicate, List.cons_append, List.nil_append])))
local macro_rules | `(tactic| walk_at "z") => `(tactic| (repeat (walk_at "z1")))

/-! ### the numbers of a law: _law_mix, _law_numbers, _law_take -/
def DrawsAt (H : Hp) (a : Addr) : Prop := ∃ ns : List Int, H a = some (.lst (ns.map V.int))
theorem DrawsAt.ne {H : Hp} {a l : Addr} (d : DrawsAt H a) (h : H l = none) : a ≠ l := ne_of_none d.choose_spec h
theorem DrawsAt.kp {M : List Addr} {H H' : Hp} {a : Addr} (d : DrawsAt H a) (k : Kp M H H') (n : a ∉ M) : DrawsAt H' a := let ⟨ns, h⟩ := d; ⟨ns, k _ _ n h⟩
theorem DrawsAt.kp0 {H H' : Hp} {a : Addr} (d : DrawsAt H a) (k : Kp [] H H') : DrawsAt H' a := d.kp k nin0
theorem DrawsAt.put {H : Hp} {a b : Addr} {o : HO} (d : DrawsAt H a) (n : a ≠ b) : DrawsAt (upd H b o) a := let ⟨ns, h⟩ := d; ⟨ns, (upd_ne n).trans h⟩
def spMix : Sp := fun vs H Q _ => ∃ n k : Int, vs = [.int n, .int k] ∧ ∀ v, 0 ≤ v → v < 998244353 → Q (.int v) H
theorem ok__law_mix {P : Program} {w : World} {K : PySem.W.Frag} {mg : Str → Option Value} {base : Heap} (T : T P K mg base) : FnOk P w K mg base CX0 1 T.a__law_mix T.fd__law_mix ["number", "k"] spMix := by
  refine T.F__law_mix.ok sc__law_mix (fun vs H Q E h => ?_) (fun cdv A outer s H vs Q E hr h => ?_)
  · obtain ⟨n, k, rfl, _⟩ := h
    rfl
  · obtain ⟨n, k, rfl, q⟩ := h
    refine ⟨_, (pss_one (ps_ret (pe_op op_mod (pe_op op_mul (pe_op op_mod (pe_callTy c_int (by rfl) T.z_int (by decide +kernel) (pa_cons (pe_op op_mul (pe_op op_add (pe_op op_add (pe_op op_mod (pe_callTy c_int (by rfl) T.z_int (by decide +kernel) (pa_cons (pv 0) pa_nil)) pe_int) (pe_op op_mul pe_int (pv 1))) pe_int) pe_int) pa_nil)) pe_int) pe_int) pe_int))), ?_⟩
    walk_at "z0"
    walk_at "z"
    refine Z.iC (by decide) ?_
    walk_at "z"
    refine Z.iC (.inl (by decide)) ?_
    walk_at "z"
    refine Z.iC (.inr (by decide)) ?_
    walk_at "z"
    refine Z.iC (by decide) ?_
    walk_at "z"
    refine Z.iC (.inr (by decide)) ?_
    walk_at "z"
    refine Z.iC (by decide) ?_
    walk_at "z"
    exact q _ (Int.emod_nonneg _ (by omega)) (Int.emod_lt_of_pos _ (by omega))
def spTake (K : PySem.W.Frag) : Sp := fun vs H Q _ => ∃ (a : Addr) (m : Int), vs = [.ref a, .int m] ∧ DrawsAt H a ∧ 1 ≤ m ∧ m < 18446744073709551616 ∧ ∀ H' v, 0 ≤ v → v < m → Kp [a] H H' → DrawsAt H' a → Q (.int v) H'
theorem ok__law_take {P : Program} {w : World} {K : PySem.W.Frag} {mg : Str → Option Value} {base : Heap} (T : T P K mg base) : FnOk P w K mg base CX0 1 T.a__law_take T.fd__law_take ["row", "bound"] (spTake K) := by
  refine T.F__law_take.ok sc__law_take (fun vs H Q E h => ?_) (fun cdv A outer s H vs Q E hr h => ?_)
  · obtain ⟨a, m, rfl, _⟩ := h
    rfl
  · obtain ⟨a, m, rfl, ⟨ns, ha⟩, h0, h1, q⟩ := h
    refine ⟨_, (pss_cons (ps_if (pt_not (pt_truth (pv 0) (by intro _; rfl))) (pss_one (ps_ret pe_int)) pss_nil)
      (pss_one (ps_ret (pe_op op_mod (pe_callTy c_int (by rfl) T.z_int (by decide +kernel) (pa_cons (pe_bm0 PySem.F.plainAttrs_list PySem.F.slot_list_pop PySem.F.type_list_pop mt_pop (pv 0)) pa_nil)) (pv 1))))), ?_⟩
    walk_at "z0"
    walk_at "z"
    refine Z.truL ha ?_
    cases hns : ns with
    | nil =>
      walk_at "z"
      exact q _ _ (by omega) (by omega) (Kp.refl _) ⟨ns, ha⟩
    | cons n r =>
      rw [show (!!(List.map V.int (n :: r)).isEmpty) = false from rfl]
      walk_at "z"
      refine ⟨Z.tyL ha, ?_⟩
      have hl : 0 < ns.length := by rw [hns]; simp
      have hi : ns.length - 1 < ns.length := by omega
      refine Z.pop ha (y := .int ns[ns.length - 1]) (by rw [List.length_map, List.getElem?_map, List.getElem?_eq_getElem hi]; rfl) ?_
      walk_at "z"
      refine Z.iC (by omega) ?_
      exact q _ _ (Int.emod_nonneg _ (by omega)) (Int.emod_lt_of_pos _ (by omega)) (Kp.put (by simp)) ⟨ns.dropLast, by rw [upd_same, List.map_dropLast]⟩
def spNumbers (K : PySem.W.Frag) : Sp := fun vs H Q _ => ∃ (c : Addr) (ns : List Int) (n : Nat), vs = [.ref c, .int (n : Int)] ∧ SqL K H c (ns.map V.int) ∧ n ≤ 1000 ∧ (∀ z ∈ ns, Builtin.Int.intBits z ≤ 1048576) ∧ ∀ a H', H a = none → Kp [] H H' → DrawsAt H' a → Q (.ref a) H'
theorem ok__law_numbers {P : Program} {w : World} {K : PySem.W.Frag} {mg : Str → Option Value} {base : Heap} (T : T P K mg base) : FnOk P w K mg base CX0 2 T.a__law_numbers T.fd__law_numbers ["script", "count"] (spNumbers K) := by
  refine T.F__law_numbers.ok sc__law_numbers (fun vs H Q E h => ?_) (fun cdv A outer s H vs Q E hr h => ?_)
  · obtain ⟨c, ns, n, rfl, _⟩ := h
    rfl
  · obtain ⟨c, ns, n, rfl, hS, hn, hb, q⟩ := h
    refine ⟨_, (pss_cons (ps_set (i := 2) sc__law_numbers.nd rfl (by first | exact Or.inl rfl | exact Or.inr rfl) (pe_lst pa_nil))
      (pss_cons (ps_set (i := 3) sc__law_numbers.nd rfl (by first | exact Or.inl rfl | exact Or.inr rfl) pe_int)
      (Z.pss_consJ (ps_for PassesOwn.never rfl (pi_list (pe_slice sl_list (pv 0) po_none (po_some pe_int))) (pg_name (i := 4) sc__law_numbers.nd rfl (by first | exact Or.inl rfl | exact Or.inr rfl)) (pss_cons (ps_set (i := 3) sc__law_numbers.nd rfl (by first | exact Or.inl rfl | exact Or.inr rfl) (pe_op op_add (pv 3) (pv 4)))
      (pss_one (ps_if (pt_cmpR op_ge (pv 4) pe_int (nomark _)) (pss_cons (ps_set (i := 5) sc__law_numbers.nd rfl (by first | exact Or.inl rfl | exact Or.inr rfl) (pv 4))
      (pss_one (ps_for PassesOwn.never rfl (pi_range1 (by rfl) T.z_range (pa_cons pe_int pa_nil)) (pg_name (i := 6) sc__law_numbers.nd rfl (by first | exact Or.inl rfl | exact Or.inr rfl)) (pss_cons (ps_expr (pe_bm PySem.F.plainAttrs_list PySem.F.slot_list_append PySem.F.type_list_append mt_append (pv 2) (pa_cons (pe_op op_mod (pe_callTy c_int (by rfl) T.z_int (by decide +kernel) (pa_cons (pv 5) pa_nil)) pe_int) pa_nil)))
      (pss_cons (ps_set (i := 5) sc__law_numbers.nd rfl (by first | exact Or.inl rfl | exact Or.inr rfl) (pe_op op_fdivW (pv 5) pe_int))
      (pss_one (ps_if (pt_cmpR op_eq (pv 5) pe_int (nomark _)) (pss_one ps_break) pss_nil))))))) (pss_one (ps_expr (pe_bm PySem.F.plainAttrs_list PySem.F.slot_list_append PySem.F.type_list_append mt_append (pv 2) (pa_cons (pe_call (ok__law_mix T) (hr.mono (by decide)) (by rfl) T.g__law_mix T.F__law_mix.kp T.b__law_mix .nil pass0 (pa_cons (pe_call (ok__law_mix T) (hr.mono (by decide)) (by rfl) T.g__law_mix T.F__law_mix.kp T.b__law_mix .nil pass0 (pa_cons (pv 4) (pa_cons pe_int pa_nil))) (pa_cons pe_int pa_nil))) pa_nil))))))))
      (pss_cons (ps_for PassesOwn.never rfl (pi_range1 (by rfl) T.z_range (pa_cons (pv 1) pa_nil)) (pg_name (i := 6) sc__law_numbers.nd rfl (by first | exact Or.inl rfl | exact Or.inr rfl)) (pss_one (ps_expr (pe_bm PySem.F.plainAttrs_list PySem.F.slot_list_append PySem.F.type_list_append mt_append (pv 2) (pa_cons (pe_call (ok__law_mix T) (hr.mono (by decide)) (by rfl) T.g__law_mix T.F__law_mix.kp T.b__law_mix .nil pass0 (pa_cons (pe_call (ok__law_mix T) (hr.mono (by decide)) (by rfl) T.g__law_mix T.F__law_mix.kp T.b__law_mix .nil pass0 (pa_cons (pe_op op_add (pv 3) (pe_op op_mul pe_int (pv 6))) (pa_cons (pe_op op_add pe_int (pv 6)) pa_nil))) (pa_cons pe_int pa_nil))) pa_nil)))))
      (pss_cons (ps_expr (pe_bm0 PySem.F.plainAttrs_list PySem.F.slot_list_reverse PySem.F.type_list_reverse mt_reverse (pv 2)))
      (pss_one (ps_ret (pv 2)))))))), ?_⟩
    walk_at "z0"
    walk_at "z"
    refine Z.lstK (fun D H1 nD k1 e1 => ?_)
    walk_at "z"
    refine Z.seqJ' ?_
    walk_at "z"
    refine Z.slL (k1.seq nin0 hS) (fun S H2 nS k2 e2 => ?_)
    have e2D := k2.get nin0 e1
    have nDS : D ≠ S := ne_of_none e1 nS
    have hcut : ∃ ms : List Int, cutV (ns.map V.int) none (some 63) = ms.map V.int ∧ ms.length ≤ 63 := by
      unfold cutV
      rw [HT.sIx_none, show (63 : Int) = ((63 : Nat) : Int) from rfl, HT.sIx_nat, List.drop_zero, Nat.sub_zero, ← List.map_take]
      exact ⟨_, rfl, by rw [List.length_take]; omega⟩
    obtain ⟨ms, hms, hm63⟩ := hcut
    rw [hms] at e2
    walk_at "z"
    refine Z.forl (ms.map V.int) (lstL e2) (fun i σ' H' => ∃ y4 y5 y6, ∃ (z : Int) (ds : List Int), σ' = [some (.ref c), some (.int (n : Int)), some (.ref D), some (.int z), y4, y5, y6] ∧ Kp [D] H2 H' ∧ H' D = some (.lst (ds.map V.int)) ∧ ds.length ≤ i * 61) ⟨_, _, _, _, [], rfl, Kp.refl _, e2D, by simp⟩ ?_ ?_ ?_
    · rintro i σ' H' hi ⟨y4, y5, y6, z, ds, rfl, k3, e3, hl⟩
      exact lstL (k3.get (nin1 nDS.symm) e2)
    · rintro i x σ' H' hx ⟨y4, y5, y6, z, ds, rfl, k3, e3, hl⟩
      obtain ⟨u, hu, rfl⟩ : ∃ u, ms[i]? = some u ∧ x = .int u := by
        rw [List.getElem?_map] at hx
        cases hw : ms[i]? with
        | none => rw [hw] at hx; cases hx
        | some r => rw [hw] at hx; exact ⟨r, rfl, (Option.some.inj hx).symm⟩
      have hi : i < ms.length := (List.getElem?_eq_some_iff.mp hu).1
      walk_at "z"
      refine Z.ite (fun h2 => ?_) (fun h2 => ?_)
      · walk_at "z"
        refine Z.forr 60 (by rfl) (by decide) (fun j σ' H' => ∃ y6, ∃ (v : Int) (ds : List Int), σ' = [some (.ref c), some (.int (n : Int)), some (.ref D), some (.int (z + u)), some (.int u), some (.int v), y6] ∧ Kp [D] H2 H' ∧ H' D = some (.lst (ds.map V.int)) ∧ ds.length ≤ i * 61 + j) ⟨_, _, ds, rfl, k3, e3, by omega⟩ ?_ ?_
        · rintro j σ' H' hj ⟨y6, v, ds, rfl, k4, e4, hl4⟩
          walk_at "z"
          refine ⟨Z.tyL e4, ?_⟩
          walk_at "z"
          refine Z.iC (by decide) ?_
          walk_at "z"
          refine Z.app e4 (Z.szl (m := 100000) (by rw [List.length_map]; omega)) ?_
          walk_at "z"
          refine Z.iC ⟨by decide, by decide⟩ ?_
          walk_at "z"
          have e5 : upd H' D (.lst (ds.map V.int ++ [.int (v % 840)])) D = some (.lst ((ds ++ [v % 840]).map V.int)) := by rw [upd_same, List.map_append]; rfl
          have k5 : Kp [D] H2 (upd H' D (.lst (ds.map V.int ++ [.int (v % 840)]))) := k4.trans (Kp.put (by simp))
          refine Z.ite (fun h3 => ?_) (fun h3 => ?_)
          · walk_at "z"
            exact ⟨_, _, _, _, ds ++ [v % 840], rfl, k5, e5, by simp; omega⟩
          · walk_at "z"
            exact ⟨_, _, ds ++ [v % 840], rfl, k5, e5, by simp; omega⟩
        · rintro σ' H' ⟨y6, v, ds, rfl, k4, e4, hl4⟩
          exact ⟨_, _, _, _, ds, rfl, k4, e4, by omega⟩
      · walk_at "z"
        refine ⟨Z.tyL e3, ?_⟩
        walk_at "z"
        refine ⟨_, _, rfl, fun v0 _ _ => ?_⟩
        walk_at "z"
        refine ⟨_, _, rfl, fun v1 _ _ => ?_⟩
        walk_at "z"
        refine Z.app e3 (Z.szl (m := 100000) (by rw [List.length_map]; omega)) ?_
        walk_at "z"
        exact ⟨_, _, _, _, ds ++ [v1], rfl, k3.trans (Kp.put (by simp)), by rw [upd_same, List.map_append]; rfl, by simp; omega⟩
    · rintro σ' H' ⟨y4, y5, y6, z, ds, rfl, k3, e3, hl⟩
      rw [List.length_map] at hl
      walk_at "z"
      refine Z.forr n (by rfl) (by omega) (fun j σ' H' => ∃ y6, ∃ (ds : List Int), σ' = [some (.ref c), some (.int (n : Int)), some (.ref D), some (.int z), y4, y5, y6] ∧ Kp [D] H2 H' ∧ H' D = some (.lst (ds.map V.int)) ∧ ds.length ≤ ms.length * 61 + j) ⟨_, ds, rfl, k3, e3, by omega⟩ ?_ ?_
      · rintro j σ' H' hj ⟨y6, ds, rfl, k4, e4, hl4⟩
        walk_at "z"
        refine ⟨Z.tyL e4, ?_⟩
        walk_at "z"
        refine Z.iC (.inl (by decide)) ?_
        walk_at "z"
        refine ⟨_, _, rfl, fun v0 _ _ => ?_⟩
        walk_at "z"
        refine ⟨_, _, rfl, fun v1 _ _ => ?_⟩
        walk_at "z"
        refine Z.app e4 (Z.szl (m := 100000) (by rw [List.length_map]; omega)) ?_
        walk_at "z"
        exact ⟨_, ds ++ [v1], rfl, k4.trans (Kp.put (by simp)), by rw [upd_same, List.map_append]; rfl, by simp; omega⟩
      · rintro σ' H' ⟨y6, ds, rfl, k4, e4, hl4⟩
        walk_at "z"
        refine ⟨Z.tyL e4, ?_⟩
        refine ⟨D, _, rfl, rfl, e4, ?_⟩
        walk_at "z"
        have nSD : H1 D = none → False := fun z => by rw [e1] at z; cases z
        refine q D _ nD ?_ ⟨ds.reverse, by rw [upd_same, List.map_reverse]⟩
        exact ((k1.trans k2).then1 k4 nD).mut nD rfl

/-! ### items of a law: _law_name, _law_items -/
theorem mem_append_one {α : Type} {P : α → Prop} {l : List α} {x : α} (h : ∀ n ∈ l, P n) (hx : P x) : ∀ n ∈ l ++ [x], P n := fun n hn => by
  rcases List.mem_append.mp hn with h1 | h1
  · exact h n h1
  · rw [List.mem_singleton.mp h1]; exact hx
theorem mem_set_of {α : Type} {P : α → Prop} {l : List α} {j : Nat} {x : α} (h : ∀ n ∈ l, P n) (hx : P x) : ∀ n ∈ l.set j x, P n := fun n hn => by
  rcases List.mem_or_eq_of_mem_set hn with h1 | h1
  · exact h n h1
  · rw [h1]; exact hx
structure Row where
  k : Str
  g : Str
  w : Int
  m : Int
def Row.vs (r : Row) : List V := [.str r.k, .str r.g, .int r.w, .int r.m]
def RowAt (H : Hp) (p : Addr) (r : Row) : Prop := H p = some (.tup r.vs)
def RowsAt (H : Hp) (ps : List (Addr × Row)) : Prop := ∀ x ∈ ps, RowAt H x.1 x.2
def refs (ps : List (Addr × Row)) : List V := ps.map fun x => V.ref x.1
theorem refs_len (ps : List (Addr × Row)) : (refs ps).length = ps.length := by unfold refs; rw [List.length_map]
theorem refs_at {ps : List (Addr × Row)} {i : Nat} {x : Addr × Row} (h : ps[i]? = some x) : (refs ps)[i]? = some (.ref x.1) := by unfold refs; rw [List.getElem?_map, h]; rfl
theorem refs_of {ps : List (Addr × Row)} {i : Nat} {v : V} (h : (refs ps)[i]? = some v) : ∃ x, ps[i]? = some x ∧ v = .ref x.1 := by
  unfold refs at h
  rw [List.getElem?_map] at h
  cases e : ps[i]? with
  | none => rw [e] at h; cases h
  | some x => rw [e] at h; exact ⟨x, rfl, (Option.some.inj h).symm⟩
theorem refs_snoc (ps : List (Addr × Row)) (x : Addr × Row) : refs (ps ++ [x]) = refs ps ++ [.ref x.1] := by unfold refs; rw [List.map_append]; rfl
theorem RowsAt.kp {M : List Addr} {H H' : Hp} {ps : List (Addr × Row)} (r : RowsAt H ps) (k : Kp M H H') (n : ∀ x ∈ M, ∃ xs, H x = some (.lst xs)) : RowsAt H' ps := fun x hx => k _ _ (fun z => by
  obtain ⟨xs, e⟩ := n _ z
  have e2 := r x hx
  unfold RowAt at e2
  rw [e] at e2
  cases e2) (r x hx)
theorem RowsAt.kp0 {H H' : Hp} {ps : List (Addr × Row)} (r : RowsAt H ps) (k : Kp [] H H') : RowsAt H' ps := r.kp k fun _ h => by cases h
theorem RowsAt.kp1 {H H' : Hp} {a : Addr} {ps : List (Addr × Row)} {xs : List V} (r : RowsAt H ps) (k : Kp [a] H H') (e : H a = some (.lst xs)) : RowsAt H' ps := r.kp k fun x h => by
  rw [List.mem_singleton.mp h]
  exact ⟨xs, e⟩
theorem RowsAt.kpd {H H' : Hp} {a : Addr} {ps : List (Addr × Row)} (r : RowsAt H ps) (k : Kp [a] H H') (d : DrawsAt H a) : RowsAt H' ps := let ⟨_, e⟩ := d; r.kp1 k e
theorem RowsAt.snoc {H : Hp} {ps : List (Addr × Row)} {x : Addr × Row} (r : RowsAt H ps) (h : RowAt H x.1 x.2) : RowsAt H (ps ++ [x]) := fun y hy => by
  rcases List.mem_append.mp hy with z | z
  · exact r y z
  · rw [List.mem_singleton.mp z]; exact h
theorem pickS (l : List Str) {v : Int} (h0 : 0 ≤ v) (h1 : v < (l.length : Nat)) : ∃ s, s ∈ l ∧ atI (l.map V.str) v = some (.str s) := by
  obtain ⟨j, rfl⟩ : ∃ j : Nat, v = (j : Int) := ⟨v.toNat, by omega⟩
  have hj : j < l.length := by omega
  exact ⟨l[j], List.getElem_mem hj, atI_nat (by rw [List.getElem?_map, List.getElem?_eq_getElem hj]; rfl)⟩
theorem pickI (l : List Int) {v : Int} (h0 : 0 ≤ v) (h1 : v < (l.length : Nat)) : ∃ s, s ∈ l ∧ atI (l.map V.int) v = some (.int s) := by
  obtain ⟨j, rfl⟩ : ∃ j : Nat, v = (j : Int) := ⟨v.toNat, by omega⟩
  have hj : j < l.length := by omega
  exact ⟨l[j], List.getElem_mem hj, atI_nat (by rw [List.getElem?_map, List.getElem?_eq_getElem hj]; rfl)⟩
structure RowS (r : Row) : Prop where
  k : PyData.strOk r.k = true
  g : PyData.strOk r.g = true
  kz : r.k.cps.size ≤ 20
  gz : r.g.cps.size ≤ 20
def smallS (l : List Str) : Bool := l.all fun s => PyData.strOk s && decide (s.cps.size ≤ 20)
theorem smallS_of {l : List Str} (h : smallS l = true) {s : Str} (hs : s ∈ l) : PyData.strOk s = true ∧ s.cps.size ≤ 20 := by
  have h1 := List.all_eq_true.mp h s hs
  rw [Bool.and_eq_true, decide_eq_true_eq] at h1
  exact h1
def rowD (r : Row) : PyData := .tuple [.str r.k, .str r.g, .int r.w, .int r.m]
theorem dpRow {K : PySem.W.Frag} {H : Hp} {p : Addr} {r : Row} (h : RowAt H p r) : Dp K H (.ref p) (rowD r) := .tup (tupT h) (.cons (.str _) (.cons (.str _) (.cons (.int _) (.cons (.int _) .nil))))
def rowsD (ps : List (Addr × Row)) : List PyData := ps.map fun x => rowD x.2
theorem dpRowsAll {K : PySem.W.Frag} {H : Hp} : ∀ {ps : List (Addr × Row)}, RowsAt H ps → DpAll K H (refs ps) (rowsD ps)
  | [], _ => .nil
  | x :: r, h => .cons (dpRow (h x (by simp))) (dpRowsAll (ps := r) fun y hy => h y (by simp [hy]))
theorem dpRows {K : PySem.W.Frag} {H : Hp} {p : Addr} {ps : List (Addr × Row)} (h : H p = some (.lst (refs ps))) (r : RowsAt H ps) : Dp K H (.ref p) (.list (rowsD ps)) := .lst (lstL h) (dpRowsAll r)
theorem rowD_lay {r : Row} (h : RowS r) : PyData.canLay0 (rowD r) = true := by simp [rowD, PyData.canLay0, PyData.canLayAll0, h.k, h.g]
theorem layRows : ∀ {ps : List (Addr × Row)}, (∀ x ∈ ps, RowS x.2) → PyData.canLayAll0 (rowsD ps) = true
  | [], _ => by simp [rowsD, PyData.canLayAll0]
  | x :: r, h => by
    have ih := layRows (ps := r) fun y hy => h y (by simp [hy])
    show PyData.canLayAll0 (rowD x.2 :: rowsD r) = true
    rw [PyData.canLayAll0, rowD_lay (h x (by simp)), ih]; rfl
theorem rowD_depth (r : Row) : (rowD r).depth = 1 := by simp [rowD, PyData.depth, PyData.depthAll]
theorem depthRows : ∀ ps : List (Addr × Row), PyData.depthAll (rowsD ps) ≤ 1
  | [] => by simp [rowsD, PyData.depthAll]
  | x :: r => by
    have ih := depthRows r
    show PyData.depthAll (rowD x.2 :: rowsD r) ≤ 1
    rw [PyData.depthAll, rowD_depth]
    omega
theorem shRows {ps : List (Addr × Row)} (h : ∀ x ∈ ps, RowS x.2) : SeqAt.shaped (.list (rowsD ps)) = true := by
  have := depthRows ps
  simp [SeqAt.shaped, PyData.canLay0, PyData.depth, layRows h]
  omega
theorem shNil : SeqAt.shaped (.list []) = true := by decide +kernel
theorem neRows {K : PySem.W.Frag} {H : Hp} {Q : VK} {a b : Addr} {ps : List (Addr × Row)} (h1 : H a = some (.lst (refs ps))) (h2 : H b = some (.lst (refs ps))) (r : RowsAt H ps) (s : ∀ x ∈ ps, RowS x.2) (q : Q (.bl false) H) : rNeD K (.ref a) (.ref b) H Q :=
  ⟨_, _, dpRows h1 r, dpRows h2 r, shRows s, shRows s, by rw [SeqAt.eqv_refl _ (by rw [PyData.canLay0]; exact layRows s)]; exact q⟩
theorem eqvAll_nil : ∀ l : List PyData, PyData.eqvAll l [] = l.isEmpty
  | [] => by simp [PyData.eqvAll]
  | _ :: _ => by simp [PyData.eqvAll]
theorem eqNil {K : PySem.W.Frag} {H : Hp} {Q : VK} {a b : Addr} {ps : List (Addr × Row)} (h1 : H a = some (.lst (refs ps))) (h2 : H b = some (.lst [])) (r : RowsAt H ps) (s : ∀ x ∈ ps, RowS x.2) (q : Q (.bl ps.isEmpty) H) : rEqD K (.ref a) (.ref b) H Q :=
  ⟨_, _, dpRows h1 r, .lst (ds := []) (lstL h2) .nil, shRows s, shNil, by
    rw [PyData.eqv, eqvAll_nil]
    have e : (rowsD ps).isEmpty = ps.isEmpty := by cases ps <;> rfl
    rw [e]; exact q⟩
/-! what is a name, an item -/
theorem RowAt.k0 {K : PySem.W.Frag} {H : Hp} {Q : VK} {p : Addr} {r : Row} (h : RowAt H p r) (q : Q (.str r.k) H) : rIxT K (.ref p) (.int 0) H Q := Z.ixT (tupT h) rfl q
theorem RowAt.g1 {K : PySem.W.Frag} {H : Hp} {Q : VK} {p : Addr} {r : Row} (h : RowAt H p r) (q : Q (.str r.g) H) : rIxT K (.ref p) (.int 1) H Q := Z.ixT (tupT h) rfl q
theorem RowAt.w2 {K : PySem.W.Frag} {H : Hp} {Q : VK} {p : Addr} {r : Row} (h : RowAt H p r) (q : Q (.int r.w) H) : rIxT K (.ref p) (.int 2) H Q := Z.ixT (tupT h) rfl q
theorem RowAt.m3 {K : PySem.W.Frag} {H : Hp} {Q : VK} {p : Addr} {r : Row} (h : RowAt H p r) (q : Q (.int r.m) H) : rIxT K (.ref p) (.int 3) H Q := Z.ixT (tupT h) rfl q
theorem RowAt.kp0 {H H' : Hp} {p : Addr} {r : Row} (h : RowAt H p r) (k : Kp [] H H') : RowAt H' p r := k.get nin0 h

/-! ### items of a law: k + digit -/
def key7 (i : Nat) : Str := "k" ++ (⟨#[("3104526" : Str).cps.toList.getD i 0]⟩ : Str)
theorem key7_at {i : Nat} (h : i < 7) : atI ("3104526" : Str).cps.toList (i : Int) = some (("3104526" : Str).cps.toList.getD i 0) := by
  have h7 : ("3104526" : Str).cps.toList.length = 7 := by decide +kernel
  rw [atI_nat (v := ("3104526" : Str).cps.toList.getD i 0)]
  rw [List.getD_eq_getElem?_getD, List.getElem?_eq_getElem (by omega)]
  rfl
theorem key7_all : ∀ i : Fin 7, (PyData.strOk (key7 i.val) = true ∧ (key7 i.val).cps.size = 2) ∧ ∀ j : Fin 7, key7 i.val = key7 j.val → i = j := by decide +kernel
theorem key7_inj {i j : Nat} (hi : i < 7) (hj : j < 7) (h : key7 i = key7 j) : i = j := by
  have := (key7_all ⟨i, hi⟩).2 ⟨j, hj⟩ h
  exact congrArg Fin.val this
structure Row7 (i : Nat) (r : Row) : Prop where
  k : r.k = key7 i
  g : r.g ∈ (["x", "y"] : List Str)
  w0 : 1 ≤ r.w
  w1 : r.w ≤ 1000
  m0 : -9 ≤ r.m
  m1 : r.m ≤ 9
theorem g7_small : smallS ["x", "y"] = true := by decide +kernel
theorem Row7.s {i : Nat} {r : Row} (h : Row7 i r) (hi : i < 7) : RowS r := by
  have h1 := (key7_all ⟨i, hi⟩).1
  have h2 := smallS_of g7_small h.g
  refine ⟨?_, h2.1, ?_, h2.2⟩
  · rw [h.k]; exact h1.1
  · rw [h.k]; exact Nat.le_trans (Nat.le_of_eq h1.2) (by decide)
structure Items7 (H H' : Hp) (a p : Addr) (n : Nat) (ps : List (Addr × Row)) : Prop where
  kp : Kp [a] H H'
  dr : DrawsAt H' a
  at_ : H' p = some (.lst (refs ps))
  rows : RowsAt H' ps
  len : ps.length = n
  ok : ∀ (i : Nat) (x : Addr × Row), ps[i]? = some x → Row7 i x.2
def spItems7 (K : PySem.W.Frag) : Sp := fun vs H Q _ => ∃ (a : Addr) (n : Nat), vs = [.ref a, .int (n : Int)] ∧ DrawsAt H a ∧ n ≤ 7 ∧ ∀ H' p ps, H p = none → Items7 H H' a p n ps → Q (.ref p) H'
theorem ok__law_items {P : Program} {w : World} {K : PySem.W.Frag} {mg : Str → Option Value} {base : Heap} (T : T P K mg base) : FnOk P w K mg base CX0 2 T.a__law_items T.fd__law_items ["row", "many"] (spItems7 K) := by
  refine T.F__law_items.ok sc__law_items (fun vs H Q E h => ?_) (fun cdv A outer s H vs Q E hr h => ?_)
  · obtain ⟨a, n, rfl, _⟩ := h
    rfl
  · obtain ⟨a, n, rfl, hd, hn, q⟩ := h
    refine ⟨_, (pss_cons (ps_set (i := 2) sc__law_items.nd rfl (by first | exact Or.inl rfl | exact Or.inr rfl) (pe_lst pa_nil))
      (pss_cons (ps_for PassesOwn.never rfl (pi_range1 (by rfl) T.z_range (pa_cons (pv 1) pa_nil)) (pg_name (i := 3) sc__law_items.nd rfl (by first | exact Or.inl rfl | exact Or.inr rfl)) (pss_cons (ps_set (i := 4) sc__law_items.nd rfl (by first | exact Or.inl rfl | exact Or.inr rfl) (pe_op op_add pe_int (pe_call (ok__law_take T) (hr.mono (by decide)) (by rfl) T.g__law_take T.F__law_take.kp T.b__law_take .nil pass0 (pa_cons (pv 0) (pa_cons pe_int pa_nil)))))
      (Z.pss_consJ (ps_if (pt_cmpR op_eq (pe_call (ok__law_take T) (hr.mono (by decide)) (by rfl) T.g__law_take T.F__law_take.kp T.b__law_take .nil pass0 (pa_cons (pv 0) (pa_cons pe_int pa_nil))) pe_int (nomark _)) (pss_one (ps_set (i := 4) sc__law_items.nd rfl (by first | exact Or.inl rfl | exact Or.inr rfl) (pe_ix ix_list (pe_lst (pa_cons pe_int (pa_cons pe_int (pa_cons pe_int (pa_cons pe_int pa_nil))))) (pe_call (ok__law_take T) (hr.mono (by decide)) (by rfl) T.g__law_take T.F__law_take.kp T.b__law_take .nil pass0 (pa_cons (pv 0) (pa_cons pe_int pa_nil))) (fun _ _ => rfl)))) pss_nil)
      (pss_one (ps_expr (pe_bm PySem.F.plainAttrs_list PySem.F.slot_list_append PySem.F.type_list_append mt_append (pv 2) (pa_cons (pe_tup (pa_cons (pe_op o_addS pe_str (pe_ix ix_str pe_str (pv 3) (fun _ _ => rfl))) (pa_cons (pe_ix ix_list (pe_lst (pa_cons pe_str (pa_cons pe_str pa_nil))) (pe_call (ok__law_take T) (hr.mono (by decide)) (by rfl) T.g__law_take T.F__law_take.kp T.b__law_take .nil pass0 (pa_cons (pv 0) (pa_cons pe_int pa_nil))) (fun _ _ => rfl)) (pa_cons (pv 4) (pa_cons (pe_op op_sub (pe_call (ok__law_take T) (hr.mono (by decide)) (by rfl) T.g__law_take T.F__law_take.kp T.b__law_take .nil pass0 (pa_cons (pv 0) (pa_cons pe_int pa_nil))) pe_int) pa_nil))))) pa_nil)))))))
      (pss_one (ps_ret (pv 2))))), ?_⟩
    walk_at "z0"
    walk_at "z"
    refine Z.lstK (fun F H1 nF k1 e1 => ?_)
    have d1 := hd.kp0 k1
    have naF : a ≠ F := hd.ne nF
    walk_at "z"
    refine Z.forr n (by rfl) (by omega) (fun i σ' H' => ∃ y3 y4, ∃ ps : List (Addr × Row), σ' = [some (.ref a), some (.int (n : Int)), some (.ref F), y3, y4] ∧ Kp [a] H H' ∧ DrawsAt H' a ∧ H' F = some (.lst (refs ps)) ∧ RowsAt H' ps ∧ ps.length = i ∧ ∀ (j : Nat) (x : Addr × Row), ps[j]? = some x → Row7 j x.2) ⟨_, _, [], rfl, k1.sub (by simp), d1, e1, (fun x hx => by cases hx), rfl, fun j x hx => by simp at hx⟩ ?_ ?_
    · rintro i σ' H2 hi ⟨y3, y4, ps, rfl, k2, d2, e2, r2, hl2, hok⟩
      walk_at "z"
      refine ⟨a, 9, rfl, d2, by decide, by decide, fun H3 v hv0 hv1 k3 d3 => ?_⟩
      have e3 := k3.get (nin1 naF.symm) e2
      have r3 := r2.kpd k3 d2
      walk_at "z"
      refine Z.seqJ (fun σ' H' => ∃ w : Int, σ' = [some (.ref a), some (.int (n : Int)), some (.ref F), some (.int (i : Int)), some (.int w)] ∧ 1 ≤ w ∧ w ≤ 1000 ∧ Kp [a] H H' ∧ DrawsAt H' a ∧ H' F = some (.lst (refs ps)) ∧ RowsAt H' ps) ?_ ?_
      · rintro σ' H4 ⟨w, rfl, hw0, hw1, k4, d4, e4, r4⟩
        walk_at "z"
        refine ⟨Z.tyL e4, ?_⟩
        walk_at "z"
        refine ⟨_, _, _, rfl, rfl, (show ("3104526" : Str).length ≤ sizeLine by decide +kernel), key7_at (i := i) (by omega), ?_⟩
        refine Z.addS (show ("k" : Str).length + 1 ≤ sizeLine by decide +kernel) ?_
        walk_at "z"
        refine Z.lstK (fun b H5 nb k5 e5 => ?_)
        have d5 := d4.kp0 k5
        have nab : a ≠ b := d4.ne nb
        walk_at "z"
        refine ⟨a, 2, rfl, d5, by decide, by decide, fun H6 v6 hv60 hv61 k6 d6 => ?_⟩
        obtain ⟨s, hs, es⟩ := pickS ["x", "y"] hv60 hv61
        refine Z.ixL (lstL (k6.get (nin1 nab.symm) e5)) es ?_
        walk_at "z"
        refine ⟨a, 19, rfl, d6, by decide, by decide, fun H7 v7 hv70 hv71 k7 d7 => ?_⟩
        walk_at "z"
        refine Z.tupK (fun t H8 nt k8 e8 => ?_)
        have k48 := ((k5.sub (M' := [a]) (by simp)).trans k6).trans (k7.trans (k8.sub (by simp)))
        have e8F := k8.get nin0 (k7.get (nin1 naF.symm) (k6.get (nin1 naF.symm) (k5.get nin0 e4)))
        have r8 := (((r4.kp0 k5).kpd k6 d5).kpd k7 d6).kp0 k8
        have d8 := d7.kp0 k8
        have ntF : t ≠ F := fun z => by rw [z, e8F] at e8; cases e8
        have kF : Kp [F] H8 (upd H8 F (.lst (refs ps ++ [.ref t]))) := Kp.put (by simp)
        walk_at "z"
        refine Z.app e8F (Z.szl (m := 1000) (by rw [refs_len]; omega)) ?_
        refine ⟨_, _, ps ++ [(t, ⟨key7 i, s, w, v7 - 9⟩)], rfl, (k4.trans k48).mut nF rfl, d8.put naF, by rw [upd_same, refs_snoc], (r8.kp1 kF e8F).snoc (show RowAt _ t ⟨key7 i, s, w, v7 - 9⟩ from kF.get (nin1 ntF) e8), by simp [hl2], fun j x hx => ?_⟩
        rw [List.getElem?_append] at hx
        split at hx
        · exact hok j x hx
        · have hj : j - ps.length = 0 := by
            have := (List.getElem?_eq_some_iff.mp hx).1
            simp at this
            exact this
          rw [hj] at hx
          have e : j = i := by omega
          subst e
          cases hx
          exact ⟨rfl, hs, hw0, hw1, by show -9 ≤ v7 - 9; omega, by show v7 - 9 ≤ 9; omega⟩
      · intro N jn
        walk_at "z"
        refine ⟨a, 6, rfl, d3, by decide, by decide, fun H4 v4 hv40 hv41 k4 d4 => ?_⟩
        have e4 := k4.get (nin1 naF.symm) e3
        have r4 := r3.kpd k4 d3
        walk_at "z"
        refine Z.ite (fun h2 => ?_) (fun h2 => ?_)
        · walk_at "z"
          refine Z.lstK (fun b H5 nb k5 e5 => ?_)
          have d5 := d4.kp0 k5
          have nab : a ≠ b := d4.ne nb
          walk_at "z"
          refine ⟨a, 4, rfl, d5, by decide, by decide, fun H6 v6 hv60 hv61 k6 d6 => ?_⟩
          obtain ⟨s, hs, es⟩ := pickI [1000, 1, 40, 7] hv60 hv61
          refine Z.ixL (lstL (k6.get (nin1 nab.symm) e5)) es ?_
          walk_at "z"
          have hs2 : 1 ≤ s ∧ s ≤ 1000 := by
            simp only [List.mem_cons, List.not_mem_nil, or_false] at hs
            rcases hs with rfl | rfl | rfl | rfl <;> decide
          exact jn _ _ ⟨s, rfl, hs2.1, hs2.2, ((k2.trans k3).trans k4).trans ((k5.sub (by simp)).trans k6), d6, k6.get (nin1 naF.symm) (k5.get nin0 e4), (r4.kp0 k5).kpd k6 d5⟩
        · walk_at "z"
          exact jn _ _ ⟨_, rfl, by omega, by omega, (k2.trans k3).trans k4, d4, e4, r4⟩
    · rintro σ' H2 ⟨y3, y4, ps, rfl, k2, d2, e2, r2, hl2, hok⟩
      walk_at "z"
      exact q H2 F ps nF ⟨k2, d2, e2, r2, hl2, hok⟩

/-! ### sums of lists of ints -/
theorem sum_nonneg : ∀ {l : List Int}, (∀ n ∈ l, 0 ≤ n) → 0 ≤ l.sum
  | [], _ => by simp
  | a :: r, h => by
    have h1 := h a (by simp)
    have h2 := sum_nonneg (l := r) fun n hn => h n (by simp [hn])
    rw [List.sum_cons]
    omega
theorem sum_le {c : Int} : ∀ {l : List Int}, (∀ n ∈ l, n ≤ c) → l.sum ≤ c * l.length
  | [], _ => by simp
  | a :: r, h => by
    have h1 := h a (by simp)
    have h2 := sum_le (c := c) (l := r) fun n hn => h n (by simp [hn])
    rw [List.sum_cons, List.length_cons, show c * ((r.length + 1 : Nat) : Int) = c * r.length + c by rw [Int.natCast_add, Int.mul_add]; simp]
    omega
theorem sum_ge_mem : ∀ {l : List Int}, (∀ n ∈ l, 0 ≤ n) → ∀ x ∈ l, x ≤ l.sum
  | [], _, x, hx => by simp at hx
  | a :: r, h, x, hx => by
    have h1 := h a (by simp)
    have h3 := sum_nonneg (l := r) fun n hn => h n (by simp [hn])
    rw [List.sum_cons]
    rcases List.mem_cons.mp hx with e | e
    · omega
    · have h2 := sum_ge_mem (l := r) (fun n hn => h n (by simp [hn])) x e
      omega
theorem take_nonneg {l : List Int} (h : ∀ n ∈ l, 0 ≤ n) (i : Nat) : 0 ≤ (l.take i).sum := sum_nonneg fun n hn => h n (List.mem_of_mem_take hn)
/-! ### lists of ints as data -/
theorem layInts : ∀ ws : List Int, PyData.canLayAll0 (ws.map PyData.int) = true
  | [] => by simp [PyData.canLayAll0]
  | w :: r => by simp [PyData.canLayAll0, PyData.canLay0, layInts r]
theorem depthInts : ∀ ws : List Int, PyData.depthAll (ws.map PyData.int) = 0
  | [] => by simp [PyData.depthAll]
  | w :: r => by simp [PyData.depthAll, PyData.depth, depthInts r]
theorem shInts (ws : List Int) : SeqAt.shaped (.list (ws.map PyData.int)) = true := by
  simp [SeqAt.shaped, PyData.canLay0, PyData.depth, layInts, depthInts]
theorem dpInts {K : PySem.W.Frag} {H : Hp} : ∀ ws : List Int, DpAll K H (ws.map V.int) (ws.map PyData.int)
  | [] => .nil
  | w :: r => .cons (.int w) (dpInts r)
theorem dpI {K : PySem.W.Frag} {H : Hp} {a : Addr} {ws : List Int} (h : SqL K H a (ws.map V.int)) : Dp K H (.ref a) (.list (ws.map PyData.int)) := .lst h (dpInts ws)
theorem eqvI (ws : List Int) : PyData.eqv (.list (ws.map PyData.int)) (.list (ws.map PyData.int)) = true := SeqAt.eqv_refl _ (by simp [PyData.canLay0, layInts])
theorem neLL {K : PySem.W.Frag} {H : Hp} {Q : VK} {a b : Addr} {ws : List Int} (h1 : SqL K H a (ws.map V.int)) (h2 : SqL K H b (ws.map V.int)) (q : Q (.bl false) H) : rNeD K (.ref a) (.ref b) H Q :=
  ⟨_, _, dpI h1, dpI h2, shInts _, shInts _, by rw [eqvI]; exact q⟩
theorem eqLL {K : PySem.W.Frag} {H : Hp} {Q : VK} {a b : Addr} {ws : List Int} (h1 : SqL K H a (ws.map V.int)) (h2 : SqL K H b (ws.map V.int)) (q : Q (.bl true) H) : rEqD K (.ref a) (.ref b) H Q :=
  ⟨_, _, dpI h1, dpI h2, shInts _, shInts _, by rw [eqvI]; exact q⟩

/-! ### Euclid and lowest terms -/
def eStep (p : Nat × Nat) : Nat × Nat := if p.2 = 0 then p else (p.2, p.1 % p.2)
def euc : Nat → Nat × Nat → Nat × Nat
  | 0, p => p
  | i + 1, p => euc i (eStep p)
theorem euc_succ : ∀ (i : Nat) (p : Nat × Nat), euc (i + 1) p = eStep (euc i p)
  | 0, p => rfl
  | i + 1, p => euc_succ i (eStep p)
theorem eStep_gcd (p : Nat × Nat) : Nat.gcd (eStep p).1 (eStep p).2 = Nat.gcd p.1 p.2 := by
  unfold eStep
  split
  · rfl
  · show Nat.gcd p.2 (p.1 % p.2) = Nat.gcd p.1 p.2
    rw [Nat.gcd_comm p.1 p.2, Nat.gcd_rec p.2 p.1, Nat.gcd_comm]
theorem euc_gcd : ∀ (i : Nat) (p : Nat × Nat), Nat.gcd (euc i p).1 (euc i p).2 = Nat.gcd p.1 p.2
  | 0, p => rfl
  | i + 1, p => (euc_gcd i (eStep p)).trans (eStep_gcd p)
theorem eStep_zero {p : Nat × Nat} (h : p.2 = 0) : eStep p = p := if_pos h
theorem euc_zero : ∀ (i : Nat) {p : Nat × Nat}, p.2 = 0 → euc i p = p
  | 0, _, _ => rfl
  | i + 1, p, h => by
    show euc i (eStep p) = p
    rw [eStep_zero h]
    exact euc_zero i h
theorem eStep2 (p : Nat × Nat) : 2 * (eStep (eStep p)).2 ≤ p.2 := by
  obtain ⟨a, b⟩ := p
  by_cases hb : b = 0
  · rw [eStep_zero (p := (a, b)) hb, eStep_zero (p := (a, b)) hb]
    show 2 * b ≤ b
    omega
  · have e1 : eStep (a, b) = (b, a % b) := if_neg hb
    rw [e1]
    have hc : a % b < b := Nat.mod_lt _ (by omega)
    by_cases h0 : a % b = 0
    · rw [eStep_zero (p := (b, a % b)) h0]
      show 2 * (a % b) ≤ b
      omega
    · have e2 : eStep (b, a % b) = (a % b, b % (a % b)) := if_neg h0
      rw [e2]
      show 2 * (b % (a % b)) ≤ b
      have h1 : b % (a % b) < a % b := Nat.mod_lt _ (by omega)
      have h2 := Nat.div_add_mod b (a % b)
      have h3 : 1 ≤ b / (a % b) := Nat.div_pos (by omega) (by omega)
      have h4 : (a % b) * 1 ≤ (a % b) * (b / (a % b)) := Nat.mul_le_mul_left _ h3
      omega
theorem euc_end : ∀ (n : Nat) (p : Nat × Nat), p.2 < 2 ^ n → (euc (2 * n) p).2 = 0
  | 0, p, h => by
    have h' : p.2 < 1 := h
    show p.2 = 0
    omega
  | n + 1, p, h => by
    show (euc (2 * n) (eStep (eStep p))).2 = 0
    refine euc_end n _ ?_
    have := eStep2 p
    rw [Nat.pow_succ] at h
    omega
theorem euc_add : ∀ (i j : Nat) (p : Nat × Nat), euc (i + j) p = euc j (euc i p)
  | 0, j, p => by rw [Nat.zero_add]; rfl
  | i + 1, j, p => by
    rw [show i + 1 + j = (i + j) + 1 by omega]
    exact euc_add i j (eStep p)
theorem euc_5000 {p : Nat × Nat} (h : p.2 < 2 ^ 2400) : (euc 5000 p).2 = 0 := by
  rw [show (5000 : Nat) = 2 * 2400 + 200 from rfl, euc_add, euc_zero 200 (euc_end 2400 p h)]
  exact euc_end 2400 p h
def gN (p q : Int) : Nat := Nat.gcd p.natAbs q.natAbs
def gI (p q : Int) : Int := if q < 0 then -(gN p q : Int) else (gN p q : Int)
def lo (p q : Int) : Int × Int := (p.fdiv (gI p q), q.fdiv (gI p q))
theorem gN_pos {p q : Int} (h : q ≠ 0) : 0 < gN p q := Nat.gcd_pos_of_pos_right _ (by omega)
theorem gI_ne {p q : Int} (h : q ≠ 0) : gI p q ≠ 0 := by
  have := gN_pos (p := p) h
  unfold gI
  split <;> omega
theorem gN_le {p q : Int} (h : q ≠ 0) : gN p q ≤ q.natAbs := Nat.le_of_dvd (by omega) (Nat.gcd_dvd_right _ _)
theorem gI_abs (p q : Int) : (gI p q).natAbs = gN p q := by
  unfold gI
  split <;> omega
theorem dvdI {g : Nat} {p : Int} (h : g ∣ p.natAbs) : ∃ a : Int, p = (g : Int) * a ∧ p.natAbs = g * a.natAbs := by
  obtain ⟨c, hc⟩ := Int.ofNat_dvd_left.mpr h
  refine ⟨c, hc, ?_⟩
  rw [hc, Int.natAbs_mul]
  simp
/-- lowest terms: exactly divided, a denominator of at least 1, no common part -/
theorem lo_spec {p q : Int} (h : q ≠ 0) : ∃ a b : Int, lo p q = (a, b) ∧ 1 ≤ b ∧ Nat.gcd a.natAbs b.natAbs = 1 ∧ p = gI p q * a ∧ q = gI p q * b := by
  obtain ⟨a, ha, ha2⟩ := dvdI (Nat.gcd_dvd_left p.natAbs q.natAbs)
  obtain ⟨b, hb, hb2⟩ := dvdI (Nat.gcd_dvd_right p.natAbs q.natAbs)
  have hg := gN_pos (p := p) h
  have hcop : Nat.gcd a.natAbs b.natAbs = 1 := by
    have e := Nat.gcd_mul_left (gN p q) a.natAbs b.natAbs
    have e2 : gN p q * a.natAbs = p.natAbs := ha2.symm
    have e3 : gN p q * b.natAbs = q.natAbs := hb2.symm
    rw [e2, e3] at e
    have e4 : gN p q * 1 = gN p q * Nat.gcd a.natAbs b.natAbs := by rw [Nat.mul_one]; exact e
    exact (Nat.eq_of_mul_eq_mul_left hg e4).symm
  have ha' : p = (gN p q : Int) * a := ha
  have hb' : q = (gN p q : Int) * b := hb
  have gpos : (0 : Int) < (gN p q : Int) := by omega
  have hb0 : b ≠ 0 := fun z => by
    rw [z, Int.mul_zero] at hb'
    exact h hb'
  by_cases hq : q < 0
  · have eg : gI p q = -(gN p q : Int) := if_pos hq
    have hbn : b < 0 := by
      rcases Int.lt_or_le b 0 with z | z
      · exact z
      · have := Int.mul_nonneg (Int.le_of_lt gpos) z
        omega
    have ep : p = gI p q * -a := by rw [eg, Int.neg_mul_neg]; exact ha'
    have eq : q = gI p q * -b := by rw [eg, Int.neg_mul_neg]; exact hb'
    refine ⟨-a, -b, ?_, by omega, by rw [Int.natAbs_neg, Int.natAbs_neg]; exact hcop, ep, eq⟩
    have g0 := gI_ne (p := p) h
    unfold lo
    have f1 : p.fdiv (gI p q) = -a := by
      have := Int.mul_fdiv_cancel_left (-a) g0
      rw [← ep] at this
      exact this
    have f2 : q.fdiv (gI p q) = -b := by
      have := Int.mul_fdiv_cancel_left (-b) g0
      rw [← eq] at this
      exact this
    rw [f1, f2]
  · have eg : gI p q = (gN p q : Int) := if_neg hq
    have hbp : 0 < b := by
      rcases Int.lt_or_le 0 b with z | z
      · exact z
      · have := Int.mul_nonpos_of_nonneg_of_nonpos (Int.le_of_lt gpos) z
        omega
    have ep : p = gI p q * a := by rw [eg]; exact ha'
    have eq : q = gI p q * b := by rw [eg]; exact hb'
    refine ⟨a, b, ?_, by omega, hcop, ep, eq⟩
    have g0 := gI_ne (p := p) h
    unfold lo
    have f1 : p.fdiv (gI p q) = a := by
      have := Int.mul_fdiv_cancel_left a g0
      rw [← ep] at this
      exact this
    have f2 : q.fdiv (gI p q) = b := by
      have := Int.mul_fdiv_cancel_left b g0
      rw [← eq] at this
      exact this
    rw [f1, f2]
theorem lo_pos {p q : Int} (h : q ≠ 0) : 1 ≤ (lo p q).2 := by
  obtain ⟨a, b, e, h1, _⟩ := lo_spec (p := p) h
  rw [e]; exact h1
theorem lo_cop {p q : Int} (h : q ≠ 0) : Nat.gcd (lo p q).1.natAbs (lo p q).2.natAbs = 1 := by
  obtain ⟨a, b, e, _, h1, _⟩ := lo_spec (p := p) h
  rw [e]; exact h1
theorem abs_le_mul {g a : Int} (h : g ≠ 0) : a.natAbs ≤ (g * a).natAbs := by
  rw [Int.natAbs_mul]
  exact Nat.le_mul_of_pos_left _ (by omega)
theorem lo_abs1 {p q : Int} (h : q ≠ 0) : (lo p q).1.natAbs ≤ p.natAbs := by
  obtain ⟨a, b, e, _, _, h1, _⟩ := lo_spec (p := p) h
  rw [e]
  have := abs_le_mul (a := a) (gI_ne (p := p) h)
  rw [← h1] at this
  exact this
theorem lo_abs2 {p q : Int} (h : q ≠ 0) : (lo p q).2.natAbs ≤ q.natAbs := by
  obtain ⟨a, b, e, _, _, _, h1⟩ := lo_spec (p := p) h
  rw [e]
  have := abs_le_mul (a := b) (gI_ne (p := p) h)
  rw [← h1] at this
  exact this

/-! ### fractions: tuples of two ints -/
section frac
variable {K : PySem.W.Frag}
abbrev Fr := Int × Int
def frV (f : Fr) : List V := [.int f.1, .int f.2]
/-- at x there is no tuple -/
def NoTup (H : Hp) (x : Addr) : Prop := ∀ xs, ¬ Rd H x (.tup xs)
theorem NoTup.of {H : Hp} {x : Addr} {o : HO} (h : H x = some o) (n : ∀ xs, o ≠ .tup xs ∧ ∀ u, o ≠ .frz u (.tup xs)) : NoTup H x := fun xs r => by
  rcases r with r | ⟨u, r⟩
  · rw [h] at r; exact (n xs).1 (Option.some.inj r)
  · rw [h] at r; exact (n xs).2 u (Option.some.inj r)
theorem NoTup.lst {H : Hp} {x : Addr} {xs : List V} (h : H x = some (.lst xs)) : NoTup H x := NoTup.of h fun ys => ⟨by simp, by simp⟩
theorem NoTup.new {H : Hp} {x : Addr} (h : H x = none) : NoTup H x := fun xs r => by
  rcases r with r | ⟨u, r⟩ <;> rw [h] at r <;> cases r
theorem kpTup {K : PySem.W.Frag} {M : List Addr} {H H' : Hp} {a : Addr} {xs : List V} (h : SqT K H a xs) (k : Kp M H H') (n : ∀ x ∈ M, NoTup H x) : SqT K H' a xs := by
  rcases h with h | h
  · have na : a ∉ M := fun z => n a z xs h
    exact k.tup na (.inl h)
  · exact .inr h
/-- a fraction at a, a new one or one of the top -/
def FrAt (K : PySem.W.Frag) (H : Hp) (a : Addr) (f : Fr) : Prop := SqT K H a (frV f)
theorem FrAt.kp {M : List Addr} {H H' : Hp} {a : Addr} {f : Fr} (h : FrAt K H a f) (k : Kp M H H') (n : ∀ x ∈ M, NoTup H x) : FrAt K H' a f := kpTup h k n
theorem FrAt.kp0 {H H' : Hp} {a : Addr} {f : Fr} (h : FrAt K H a f) (k : Kp [] H H') : FrAt K H' a f := k.tup nin0 h
theorem FrAt.kpl {H H' : Hp} {a l : Addr} {f : Fr} {xs : List V} (h : FrAt K H a f) (k : Kp [l] H H') (e : H l = some (.lst xs)) : FrAt K H' a f := kpTup h k fun x hx => by
  rw [List.mem_singleton.mp hx]
  exact NoTup.lst e
theorem fr0 (f : Fr) : atI (frV f) 0 = some (.int f.1) := rfl
theorem fr1 (f : Fr) : atI (frV f) 1 = some (.int f.2) := rfl
/-- small enough for the machine's ints -/
def FrB (n : Nat) (f : Fr) : Prop := f.1.natAbs < 2 ^ n ∧ f.2.natAbs < 2 ^ n
theorem FrB.mono {n m : Nat} {f : Fr} (h : FrB n f) (l : n ≤ m) : FrB m f := ⟨Nat.lt_of_lt_of_le h.1 (Nat.pow_le_pow_right (by decide) l), Nat.lt_of_lt_of_le h.2 (Nat.pow_le_pow_right (by decide) l)⟩
theorem lo_B {n : Nat} {p q : Int} (h : q ≠ 0) (h1 : p.natAbs < 2 ^ n) (h2 : q.natAbs < 2 ^ n) : FrB n (lo p q) := ⟨Nat.lt_of_le_of_lt (lo_abs1 h) h1, Nat.lt_of_le_of_lt (lo_abs2 h) h2⟩
theorem add_B {n : Nat} {a b : Int} (h1 : a.natAbs < 2 ^ n) (h2 : b.natAbs < 2 ^ n) : (a + b).natAbs < 2 ^ (n + 1) := by
  rw [Nat.pow_succ]
  omega
theorem sub_B {n : Nat} {a b : Int} (h1 : a.natAbs < 2 ^ n) (h2 : b.natAbs < 2 ^ n) : (a - b).natAbs < 2 ^ (n + 1) := by
  rw [Nat.pow_succ]
  omega
theorem mul_B {n m : Nat} {a b : Int} (h1 : a.natAbs < 2 ^ n) (h2 : b.natAbs < 2 ^ m) : (a * b).natAbs < 2 ^ (n + m) := wide_lt h1 h2
theorem up_B {n m : Nat} {a : Int} (h : a.natAbs < 2 ^ n) (l : n ≤ m) : a.natAbs < 2 ^ m := Nat.lt_of_lt_of_le h (Nat.pow_le_pow_right (by decide) l)
theorem mul_ok {n : Nat} {a b : Int} (h1 : a.natAbs < 2 ^ n) (h2 : b.natAbs < 2 ^ n) (h0 : 0 < n := by omega) (h : n ≤ 400000 := by omega) : CMulW a b := wide_mul h1 h2 h0 h0 (by omega)
def fplus (f g : Fr) : Fr := lo (f.1 * g.2 + g.1 * f.2) (f.2 * g.2)
def fminus (f g : Fr) : Fr := lo (f.1 * g.2 - g.1 * f.2) (f.2 * g.2)
def ftimes (f g : Fr) : Fr := lo (f.1 * g.1) (f.2 * g.2)
def fover (f g : Fr) : Fr := lo (f.1 * g.2) (f.2 * g.1)
def fless (f g : Fr) : Bool := decide (f.1 * g.2 < g.1 * f.2)
theorem fplus_B {n m : Nat} {f g : Fr} (hf : FrB n f) (hg : FrB m g) (h1 : f.2 ≠ 0) (h2 : g.2 ≠ 0) : FrB (n + m + 1) (fplus f g) :=
  lo_B (Int.mul_ne_zero h1 h2) (add_B (mul_B hf.1 hg.2) (by rw [Nat.add_comm n m]; exact mul_B hg.1 hf.2)) (up_B (mul_B hf.2 hg.2) (by omega))
theorem fminus_B {n m : Nat} {f g : Fr} (hf : FrB n f) (hg : FrB m g) (h1 : f.2 ≠ 0) (h2 : g.2 ≠ 0) : FrB (n + m + 1) (fminus f g) :=
  lo_B (Int.mul_ne_zero h1 h2) (sub_B (mul_B hf.1 hg.2) (by rw [Nat.add_comm n m]; exact mul_B hg.1 hf.2)) (up_B (mul_B hf.2 hg.2) (by omega))
theorem ftimes_B {n m : Nat} {f g : Fr} (hf : FrB n f) (hg : FrB m g) (h1 : f.2 ≠ 0) (h2 : g.2 ≠ 0) : FrB (n + m) (ftimes f g) := lo_B (Int.mul_ne_zero h1 h2) (mul_B hf.1 hg.1) (mul_B hf.2 hg.2)
theorem fplus_pos {f g : Fr} (h1 : f.2 ≠ 0) (h2 : g.2 ≠ 0) : 1 ≤ (fplus f g).2 := lo_pos (Int.mul_ne_zero h1 h2)
/-! ### samphire.errors, samphire.ratios -/
def spZD (C : Addr) : Sp := fun vs H Q _ => ∃ a : Addr, vs = [.ref a] ∧ H a = some (exo a C none) ∧ Q .non H
theorem ok_ZeroDenominator_init {P : Program} {w : World} {K : PySem.W.Frag} {mg : Str → Option Value} {base : Heap} (T : T P K mg base) : FnOk P w K mg base CX0 1 T.a_ZeroDenominator_init ((NF_ZeroDenominator T.cc_ZeroDenominator T.c_ZeroDenominator).fd T.doc_ZeroDenominator T.pm_ZeroDenominator T.ctv_ZeroDenominator) ["self"] (spZD T.C_ZeroDenominator) := by
  refine Sup.fn_super (F := NF_ZeroDenominator T.cc_ZeroDenominator T.c_ZeroDenominator) (p := "self") (ps' := []) T.x_ZeroDenominator.S T.lk_ZeroDenominator rfl T.hc_ZeroDenominator sc_ZeroDenominator_init rfl ⟨_, rfl, rfl⟩ rfl rfl (fun _ => rfl) (fun _ => ⟨_, rfl⟩) (fun _ => rfl) (fun vs H Q E h => ?_) (fun A outer s H vs Q E hr h => ?_)
  · obtain ⟨a, rfl, _⟩ := h
    rfl
  · obtain ⟨a, rfl, ha, q⟩ := h
    exact ⟨a, [], _, _, rfl, ha, pa_cons pe_str pa_nil, pss_nil, by decide, ha, q⟩
def spLowest (K : PySem.W.Frag) (C : Addr) : Sp := fun vs H Q E => ∃ p q : Int, vs = [.int p, .int q] ∧ q.natAbs < 2 ^ 8000 ∧ (q = 0 → E (.ref C) none H) ∧ (q ≠ 0 → ∀ H' b, H b = none → Kp [] H H' → FrAt K H' b (lo p q) → Q (.ref b) H')
theorem del_upd {H : Hp} {a : Addr} {o : HO} (h : H a = none) : del (upd H a o) a = H := by
  funext b
  by_cases hb : b = a
  · rw [hb, del_same, h]
  · rw [del_ne hb, upd_ne hb]
theorem ok_lowest {P : Program} {w : World} {K : PySem.W.Frag} {mg : Str → Option Value} {base : Heap} (T : T P K mg base) : FnOk P w K mg base (L2.CX P w) 3 T.a_lowest T.fd_lowest ["p", "q"] (spLowest K T.C_ZeroDenominator) := by
  refine T.F_lowest.okX sc_lowest (fun vs H Q E h => ?_) (fun cdv A outer s H vs Q E hr h => ?_)
  · obtain ⟨p, q, rfl, _⟩ := h
    rfl
  · obtain ⟨p, q, rfl, hb, h0, h1⟩ := h
    refine ⟨_, (pss_cons (ps_if (pt_cmpR op_eq (pv 1) pe_int (nomark _)) (pss_one (ps_raise rfl (takes_of rfl rfl rfl rfl) (Sup.pmk_oexN T.x_ZeroDenominator.S.T T.x_ZeroDenominator.iC T.x_ZeroDenominator.tI (ok_ZeroDenominator_init T) (hr.mono (by decide)) (T.bx_ZeroDenominator) pass0 (by rfl) T.x_ZeroDenominator.g))) pss_nil)
      (pss_cons (ps_set (i := 2) sc_lowest.nd rfl (by first | exact Or.inl rfl | exact Or.inr rfl) (pe_callBfun cr_gcd (by rfl) T.g_gcd (pa_cons (pv 0) (pa_cons (pv 1) pa_nil))))
      (Z.pss_consJ (ps_if (pt_cmpR op_lt (pv 1) pe_int (nomark _)) (pss_one (ps_set (i := 2) sc_lowest.nd rfl (by first | exact Or.inl rfl | exact Or.inr rfl) (pe_un un_neg (pv 2)))) pss_nil)
      (pss_one (ps_ret (pe_tup (pa_cons (pe_op Z.op_fdivA (pv 0) (pv 2)) (pa_cons (pe_op Z.op_fdivA (pv 1) (pv 2)) pa_nil)))))))), ?_⟩
    walk_at "z0"
    walk_at "z"
    refine Z.ite (fun hq => ?_) (fun hq => ?_)
    · refine Z.mkN fun a na => ⟨a, rfl, upd_same, rfl, upd_same, ?_⟩
      rw [del_upd na]
      exact h0 hq
    · walk_at "z"
      have hg := gI_ne (p := p) hq
      have hdv : Z.CDivA p (gI p q) := Z.divA (b := 8000) hg (by rw [gI_abs]; exact Nat.lt_of_le_of_lt (gN_le hq) hb) (by decide) (by decide)
      have hdv2 : Z.CDivA q (gI p q) := hdv
      refine Z.seqJ (fun σ' H' => σ' = [some (.int p), some (.int q), some (.int (gI p q))] ∧ H' = H) ?_ ?_
      · rintro σ' H' ⟨rfl, rfl⟩
        walk_at "z"
        refine Z.iC hdv ?_
        walk_at "z"
        refine Z.iC hdv2 ?_
        refine Z.tupK (fun b H1 nb k1 e1 => ?_)
        exact h1 hq _ _ nb k1 (tupT e1)
      · intro N jn
        walk_at "z"
        refine Z.ite (fun h2 => ?_) (fun h2 => ?_)
        · walk_at "z"
          refine jn _ _ ⟨?_, rfl⟩
          unfold gI
          rw [if_pos h2]; rfl
        · walk_at "z"
          refine jn _ _ ⟨?_, rfl⟩
          unfold gI
          rw [if_neg h2]; rfl
/-- two fractions in, a fraction out -/
def spF2 (K : PySem.W.Frag) (o : Fr → Fr → Fr) : Sp := fun vs H Q _ => ∃ (a b : Addr) (f g : Fr), vs = [.ref a, .ref b] ∧ FrAt K H a f ∧ FrAt K H b g ∧ f.2 ≠ 0 ∧ g.2 ≠ 0 ∧ FrB 3900 f ∧ FrB 3900 g ∧ ∀ H' c, H c = none → Kp [] H H' → FrAt K H' c (o f g) → Q (.ref c) H'
theorem ok_plus {P : Program} {w : World} {K : PySem.W.Frag} {mg : Str → Option Value} {base : Heap} (T : T P K mg base) : FnOk P w K mg base CX0 4 T.a_plus T.fd_plus ["a", "b"] (spF2 K fplus) := by
  refine T.F_plus.ok sc_plus (fun vs H Q E h => ?_) (fun cdv A outer s H vs Q E hr h => ?_)
  · obtain ⟨a, b, f, g, rfl, _⟩ := h
    rfl
  · obtain ⟨a, b, f, g, rfl, ha, hb, hf, hg, Bf, Bg, q⟩ := h
    refine ⟨_, (pss_one (ps_ret (pe_call (ok_lowest T) (hr.mono (by decide)) (by rfl) T.g_lowest T.F_lowest.kp T.b_lowest .nil passL (pa_cons (pe_op op_add (pe_op op_mulW (pe_ix ix_tup (pv 0) pe_int (fun _ _ => rfl)) (pe_ix ix_tup (pv 1) pe_int (fun _ _ => rfl))) (pe_op op_mulW (pe_ix ix_tup (pv 1) pe_int (fun _ _ => rfl)) (pe_ix ix_tup (pv 0) pe_int (fun _ _ => rfl)))) (pa_cons (pe_op op_mulW (pe_ix ix_tup (pv 0) pe_int (fun _ _ => rfl)) (pe_ix ix_tup (pv 1) pe_int (fun _ _ => rfl))) pa_nil))))), ?_⟩
    walk_at "z0"
    walk_at "z"
    refine Z.ixT ha (fr0 f) ?_
    walk_at "z"
    refine Z.ixT hb (fr1 g) ?_
    walk_at "z"
    refine Z.iC (mul_ok Bf.1 Bg.2) ?_
    walk_at "z"
    refine Z.ixT hb (fr0 g) ?_
    walk_at "z"
    refine Z.ixT ha (fr1 f) ?_
    walk_at "z"
    refine Z.iC (mul_ok Bg.1 Bf.2) ?_
    walk_at "z"
    refine Z.ixT ha (fr1 f) ?_
    walk_at "z"
    refine Z.ixT hb (fr1 g) ?_
    walk_at "z"
    refine Z.iC (mul_ok Bf.2 Bg.2) ?_
    walk_at "z"
    exact ⟨_, _, rfl, up_B (mul_B Bf.2 Bg.2) (by decide), fun z => absurd z (Int.mul_ne_zero hf hg), fun _ H' c nc k e => q _ _ nc k e⟩
theorem ok_minus {P : Program} {w : World} {K : PySem.W.Frag} {mg : Str → Option Value} {base : Heap} (T : T P K mg base) : FnOk P w K mg base CX0 4 T.a_minus T.fd_minus ["a", "b"] (spF2 K fminus) := by
  refine T.F_minus.ok sc_minus (fun vs H Q E h => ?_) (fun cdv A outer s H vs Q E hr h => ?_)
  · obtain ⟨a, b, f, g, rfl, _⟩ := h
    rfl
  · obtain ⟨a, b, f, g, rfl, ha, hb, hf, hg, Bf, Bg, q⟩ := h
    refine ⟨_, (pss_one (ps_ret (pe_call (ok_lowest T) (hr.mono (by decide)) (by rfl) T.g_lowest T.F_lowest.kp T.b_lowest .nil passL (pa_cons (pe_op op_sub (pe_op op_mulW (pe_ix ix_tup (pv 0) pe_int (fun _ _ => rfl)) (pe_ix ix_tup (pv 1) pe_int (fun _ _ => rfl))) (pe_op op_mulW (pe_ix ix_tup (pv 1) pe_int (fun _ _ => rfl)) (pe_ix ix_tup (pv 0) pe_int (fun _ _ => rfl)))) (pa_cons (pe_op op_mulW (pe_ix ix_tup (pv 0) pe_int (fun _ _ => rfl)) (pe_ix ix_tup (pv 1) pe_int (fun _ _ => rfl))) pa_nil))))), ?_⟩
    walk_at "z0"
    walk_at "z"
    refine Z.ixT ha (fr0 f) ?_
    walk_at "z"
    refine Z.ixT hb (fr1 g) ?_
    walk_at "z"
    refine Z.iC (mul_ok Bf.1 Bg.2) ?_
    walk_at "z"
    refine Z.ixT hb (fr0 g) ?_
    walk_at "z"
    refine Z.ixT ha (fr1 f) ?_
    walk_at "z"
    refine Z.iC (mul_ok Bg.1 Bf.2) ?_
    walk_at "z"
    refine Z.ixT ha (fr1 f) ?_
    walk_at "z"
    refine Z.ixT hb (fr1 g) ?_
    walk_at "z"
    refine Z.iC (mul_ok Bf.2 Bg.2) ?_
    walk_at "z"
    exact ⟨_, _, rfl, up_B (mul_B Bf.2 Bg.2) (by decide), fun z => absurd z (Int.mul_ne_zero hf hg), fun _ H' c nc k e => q _ _ nc k e⟩
theorem ok_times {P : Program} {w : World} {K : PySem.W.Frag} {mg : Str → Option Value} {base : Heap} (T : T P K mg base) : FnOk P w K mg base CX0 4 T.a_times T.fd_times ["a", "b"] (spF2 K ftimes) := by
  refine T.F_times.ok sc_times (fun vs H Q E h => ?_) (fun cdv A outer s H vs Q E hr h => ?_)
  · obtain ⟨a, b, f, g, rfl, _⟩ := h
    rfl
  · obtain ⟨a, b, f, g, rfl, ha, hb, hf, hg, Bf, Bg, q⟩ := h
    refine ⟨_, (pss_one (ps_ret (pe_call (ok_lowest T) (hr.mono (by decide)) (by rfl) T.g_lowest T.F_lowest.kp T.b_lowest .nil passL (pa_cons (pe_op op_mulW (pe_ix ix_tup (pv 0) pe_int (fun _ _ => rfl)) (pe_ix ix_tup (pv 1) pe_int (fun _ _ => rfl))) (pa_cons (pe_op op_mulW (pe_ix ix_tup (pv 0) pe_int (fun _ _ => rfl)) (pe_ix ix_tup (pv 1) pe_int (fun _ _ => rfl))) pa_nil))))), ?_⟩
    walk_at "z0"
    walk_at "z"
    refine Z.ixT ha (fr0 f) ?_
    walk_at "z"
    refine Z.ixT hb (fr0 g) ?_
    walk_at "z"
    refine Z.iC (mul_ok Bf.1 Bg.1) ?_
    walk_at "z"
    refine Z.ixT ha (fr1 f) ?_
    walk_at "z"
    refine Z.ixT hb (fr1 g) ?_
    walk_at "z"
    refine Z.iC (mul_ok Bf.2 Bg.2) ?_
    walk_at "z"
    exact ⟨_, _, rfl, up_B (mul_B Bf.2 Bg.2) (by decide), fun z => absurd z (Int.mul_ne_zero hf hg), fun _ H' c nc k e => q _ _ nc k e⟩
def spOver (K : PySem.W.Frag) (C : Addr) : Sp := fun vs H Q E => ∃ (a b : Addr) (f g : Fr), vs = [.ref a, .ref b] ∧ FrAt K H a f ∧ FrAt K H b g ∧ f.2 ≠ 0 ∧ FrB 3900 f ∧ FrB 3900 g ∧ (g.1 = 0 → E (.ref C) none H) ∧ (g.1 ≠ 0 → ∀ H' c, H c = none → Kp [] H H' → FrAt K H' c (fover f g) → Q (.ref c) H')
theorem ok_over {P : Program} {w : World} {K : PySem.W.Frag} {mg : Str → Option Value} {base : Heap} (T : T P K mg base) : FnOk P w K mg base (L2.CX P w) 4 T.a_over T.fd_over ["a", "b"] (spOver K T.C_ZeroDenominator) := by
  refine T.F_over.okX sc_over (fun vs H Q E h => ?_) (fun cdv A outer s H vs Q E hr h => ?_)
  · obtain ⟨a, b, f, g, rfl, _⟩ := h
    rfl
  · obtain ⟨a, b, f, g, rfl, ha, hb, hf, Bf, Bg, q0, q1⟩ := h
    refine ⟨_, (pss_one (ps_ret (pe_call (ok_lowest T) (hr.mono (by decide)) (by rfl) T.g_lowest T.F_lowest.kp T.b_lowest .nil (passes_call (takes_of rfl rfl rfl rfl) (fun _ _ _ _ h => h)) (pa_cons (pe_op op_mulW (pe_ix ix_tup (pv 0) pe_int (fun _ _ => rfl)) (pe_ix ix_tup (pv 1) pe_int (fun _ _ => rfl))) (pa_cons (pe_op op_mulW (pe_ix ix_tup (pv 0) pe_int (fun _ _ => rfl)) (pe_ix ix_tup (pv 1) pe_int (fun _ _ => rfl))) pa_nil))))), ?_⟩
    walk_at "z0"
    walk_at "z"
    refine Z.ixT ha (fr0 f) ?_
    walk_at "z"
    refine Z.ixT hb (fr1 g) ?_
    walk_at "z"
    refine Z.iC (mul_ok Bf.1 Bg.2) ?_
    walk_at "z"
    refine Z.ixT ha (fr1 f) ?_
    walk_at "z"
    refine Z.ixT hb (fr0 g) ?_
    walk_at "z"
    refine Z.iC (mul_ok Bf.2 Bg.1) ?_
    walk_at "z"
    refine ⟨_, _, rfl, up_B (mul_B Bf.2 Bg.1) (by decide), fun z => ?_, fun z H' c nc k e => ?_⟩
    · rcases Int.mul_eq_zero.mp z with z | z
      · exact absurd z hf
      · exact q0 z
    · exact q1 (fun y => z (by rw [y, Int.mul_zero])) _ _ nc k e
def spLess (K : PySem.W.Frag) : Sp := fun vs H Q _ => ∃ (a b : Addr) (f g : Fr), vs = [.ref a, .ref b] ∧ FrAt K H a f ∧ FrAt K H b g ∧ FrB 3900 f ∧ FrB 3900 g ∧ Q (.bl (fless f g)) H
theorem ok_less {P : Program} {w : World} {K : PySem.W.Frag} {mg : Str → Option Value} {base : Heap} (T : T P K mg base) : FnOk P w K mg base CX0 1 T.a_less T.fd_less ["a", "b"] (spLess K) := by
  refine T.F_less.ok sc_less (fun vs H Q E h => ?_) (fun cdv A outer s H vs Q E hr h => ?_)
  · obtain ⟨a, b, f, g, rfl, _⟩ := h
    rfl
  · obtain ⟨a, b, f, g, rfl, ha, hb, Bf, Bg, q⟩ := h
    refine ⟨_, (pss_one (ps_ret (pe_cmpR op_lt (pe_op op_mulW (pe_ix ix_tup (pv 0) pe_int (fun _ _ => rfl)) (pe_ix ix_tup (pv 1) pe_int (fun _ _ => rfl))) (pe_op op_mulW (pe_ix ix_tup (pv 1) pe_int (fun _ _ => rfl)) (pe_ix ix_tup (pv 0) pe_int (fun _ _ => rfl))) (nomark _)))), ?_⟩
    walk_at "z0"
    walk_at "z"
    refine Z.ixT ha (fr0 f) ?_
    walk_at "z"
    refine Z.ixT hb (fr1 g) ?_
    walk_at "z"
    refine Z.iC (mul_ok Bf.1 Bg.2) ?_
    walk_at "z"
    refine Z.ixT hb (fr0 g) ?_
    walk_at "z"
    refine Z.ixT ha (fr1 f) ?_
    walk_at "z"
    refine Z.iC (mul_ok Bg.1 Bf.2) ?_
    walk_at "z"
    exact q
/-- lists of fractions -/
def FrsAt (K : PySem.W.Frag) (H : Hp) (as : List Addr) (fs : List Fr) : Prop := Paired (fun a f => FrAt K H a f) as fs
theorem FrsAt.kp {M : List Addr} {H H' : Hp} {as : List Addr} {fs : List Fr} (h : FrsAt K H as fs) (k : Kp M H H') (n : ∀ x ∈ M, NoTup H x) : FrsAt K H' as fs := by
  induction h with
  | nil => exact .nil
  | cons r t ih => exact .cons (FrAt.kp r k n) ih
theorem FrsAt.kp0 {H H' : Hp} {as : List Addr} {fs : List Fr} (h : FrsAt K H as fs) (k : Kp [] H H') : FrsAt K H' as fs := h.kp k fun _ h => by cases h
theorem FrsAt.kpl {H H' : Hp} {as : List Addr} {fs : List Fr} {l : Addr} {xs : List V} (h : FrsAt K H as fs) (k : Kp [l] H H') (e : H l = some (.lst xs)) : FrsAt K H' as fs := h.kp k fun x hx => by
  rw [List.mem_singleton.mp hx]
  exact NoTup.lst e
theorem FrsAt.get {H : Hp} : ∀ {as : List Addr} {fs : List Fr} {i : Nat} {v : V}, FrsAt K H as fs → (as.map V.ref)[i]? = some v → ∃ a f, v = .ref a ∧ fs[i]? = some f ∧ FrAt K H a f
  | _, _, i, v, .nil, h => by simp at h
  | _, _, 0, v, .cons r t, h => by
    simp at h
    exact ⟨_, _, h.symm, rfl, r⟩
  | _, _, i + 1, v, .cons r t, h => by
    obtain ⟨a, f, e1, e2, e3⟩ := FrsAt.get (i := i) t (by simpa using h)
    exact ⟨a, f, e1, by simpa using e2, e3⟩
theorem FrsAt.len {H : Hp} {as : List Addr} {fs : List Fr} (h : FrsAt K H as fs) : as.length = fs.length := Paired.length h
theorem FrsAt.snoc {H : Hp} {as : List Addr} {fs : List Fr} {a : Addr} {f : Fr} (h : FrsAt K H as fs) (r : FrAt K H a f) : FrsAt K H (as ++ [a]) (fs ++ [f]) := by
  induction h with
  | nil => exact .cons r .nil
  | cons r t ih => exact .cons r ih
theorem FrsAt.app {H : Hp} {as bs : List Addr} {fs gs : List Fr} (h : FrsAt K H as fs) (r : FrsAt K H bs gs) : FrsAt K H (as ++ bs) (fs ++ gs) := by
  induction h with
  | nil => exact r
  | cons r t ih => exact .cons r ih
theorem FrsAt.take {H : Hp} : ∀ {as : List Addr} {fs : List Fr} (i : Nat), FrsAt K H as fs → FrsAt K H (as.take i) (fs.take i)
  | _, _, 0, _ => by rw [List.take_zero, List.take_zero]; exact .nil
  | _, _, i + 1, .nil => by rw [List.take_nil, List.take_nil]; exact .nil
  | _, _, i + 1, .cons r t => .cons r (FrsAt.take i t)
theorem FrsAt.drop {H : Hp} : ∀ {as : List Addr} {fs : List Fr} (i : Nat), FrsAt K H as fs → FrsAt K H (as.drop i) (fs.drop i)
  | _, _, 0, h => h
  | _, _, i + 1, .nil => by rw [List.drop_nil, List.drop_nil]; exact .nil
  | _, _, i + 1, .cons r t => FrsAt.drop i t
/-- data -/
def frD (f : Fr) : PyData := .tuple [.int f.1, .int f.2]
theorem dpF {H : Hp} {a : Addr} {f : Fr} (h : FrAt K H a f) : Dp K H (.ref a) (frD f) := .tup h (.cons (.int _) (.cons (.int _) .nil))
theorem frD_sh (f : Fr) : SeqAt.shaped (frD f) = true := by
  simp [frD, SeqAt.shaped, PyData.canLay0, PyData.canLayAll0, PyData.depth, PyData.depthAll]
theorem frD_eq (f : Fr) : PyData.eqv (frD f) (frD f) = true := SeqAt.eqv_refl _ (by simp [frD, PyData.canLay0, PyData.canLayAll0])
theorem neFF {K : PySem.W.Frag} {H : Hp} {Q : VK} {a b : Addr} {f : Fr} (h1 : FrAt K H a f) (h2 : FrAt K H b f) (q : Q (.bl false) H) : rNeD K (.ref a) (.ref b) H Q :=
  ⟨_, _, dpF h1, dpF h2, frD_sh _, frD_sh _, by rw [frD_eq]; exact q⟩
theorem dpFs {K : PySem.W.Frag} {H : Hp} : ∀ {as : List Addr} {fs : List Fr}, FrsAt K H as fs → DpAll K H (as.map V.ref) (fs.map frD)
  | _, _, .nil => .nil
  | _, _, .cons r t => .cons (dpF r) (dpFs t)
theorem layFs : ∀ fs : List Fr, PyData.canLayAll0 (fs.map frD) = true
  | [] => by simp [PyData.canLayAll0]
  | f :: r => by simp [PyData.canLayAll0, frD, PyData.canLay0, layFs r]
theorem depthFs : ∀ fs : List Fr, PyData.depthAll (fs.map frD) ≤ 1
  | [] => by simp [PyData.depthAll]
  | f :: r => by
    have := depthFs r
    simp [PyData.depthAll, frD, PyData.depth]
    exact Nat.max_le.mpr ⟨by omega, this⟩
theorem shFs (fs : List Fr) : SeqAt.shaped (.list (fs.map frD)) = true := by
  have := depthFs fs
  simp only [SeqAt.shaped, PyData.canLay0, PyData.depth, layFs, Bool.true_and]
  exact decide_eq_true (by omega)
theorem neFL {K : PySem.W.Frag} {H : Hp} {Q : VK} {a b : Addr} {as : List Addr} {fs : List Fr} (h1 : H a = some (.lst (as.map V.ref))) (h2 : H b = some (.lst (as.map V.ref))) (h : FrsAt K H as fs) (q : Q (.bl false) H) : rNeD K (.ref a) (.ref b) H Q :=
  ⟨_, _, .lst (lstL h1) (dpFs h), .lst (lstL h2) (dpFs h), shFs _, shFs _, by rw [SeqAt.eqv_refl (.list (fs.map frD)) (by simp [PyData.canLay0, layFs])]; exact q⟩
end frac
/-- sums, from the left -/
def fsum (t : Fr) (fs : List Fr) : Fr := fs.foldl fplus t
theorem fsum_B : ∀ {fs : List Fr} {t : Fr} {n m : Nat}, FrB n t → t.2 ≠ 0 → (∀ f ∈ fs, FrB m f ∧ f.2 ≠ 0) → FrB (n + fs.length * (m + 1)) (fsum t fs) ∧ (fsum t fs).2 ≠ 0
  | [], t, n, m, h, h0, _ => by
    refine ⟨?_, h0⟩
    show FrB (n + 0 * (m + 1)) t
    rw [Nat.zero_mul]
    exact h
  | f :: r, t, n, m, h, h0, hf => by
    have h1 := hf f (by simp)
    have hp := fplus_pos h0 h1.2
    have ih := fsum_B (fs := r) (t := fplus t f) (n := n + m + 1) (m := m) (fplus_B h h1.1 h0 h1.2) (by omega) fun g hg => hf g (by simp [hg])
    refine ⟨?_, ih.2⟩
    have e : n + (f :: r).length * (m + 1) = n + m + 1 + r.length * (m + 1) := by
      rw [List.length_cons, Nat.add_mul]
      omega
    rw [e]
    exact ih.1
theorem fsum_take {t : Fr} {fs : List Fr} {i : Nat} {f : Fr} (h : fs[i]? = some f) : fsum t (fs.take (i + 1)) = fplus (fsum t (fs.take i)) f := by
  unfold fsum
  rw [List.take_add_one, h, List.foldl_append]
  rfl
def spSumOf (K : PySem.W.Frag) (m k : Nat) : Sp := fun vs H Q _ => ∃ (a : Addr) (as : List Addr) (fs : List Fr), vs = [.ref a] ∧ SqL K H a (as.map V.ref) ∧ FrsAt K H as fs ∧ (∀ f ∈ fs, FrB m f ∧ f.2 ≠ 0) ∧ fs.length ≤ k ∧ ∀ H' c, Kp [] H H' → FrAt K H' c (fsum (0, 1) fs) → Q (.ref c) H'
theorem ok_sum_of_any {P : Program} {w : World} {K : PySem.W.Frag} {mg : Str → Option Value} {base : Heap} (T : T P K mg base) (m k : Nat) (hm : m ≤ 3900) (hk : 1 + k * (m + 1) ≤ 3900) : FnOk P w K mg base CX0 5 T.a_sum_of T.fd_sum_of ["fractions"] (spSumOf K m k) := by
  refine T.F_sum_of.ok sc_sum_of (fun vs H Q E h => ?_) (fun cdv A outer s H vs Q E hr h => ?_)
  · obtain ⟨a, as, fs, rfl, _⟩ := h
    rfl
  · obtain ⟨a, as, fs, rfl, hS, hF, hB, hl, q⟩ := h
    refine ⟨_, (pss_cons (ps_set (i := 1) sc_sum_of.nd rfl (by first | exact Or.inl rfl | exact Or.inr rfl) (pe_glob (v := .ref T.k_ZERO) (by rfl) T.g_ZERO rfl))
      (pss_cons (ps_for PassesOwn.never rfl (pi_list (pv 0)) (pg_name (i := 2) sc_sum_of.nd rfl (by first | exact Or.inl rfl | exact Or.inr rfl)) (pss_one (ps_set (i := 1) sc_sum_of.nd rfl (by first | exact Or.inl rfl | exact Or.inr rfl) (pe_call (ok_plus T) (hr.mono (by decide)) (by rfl) T.g_plus T.F_plus.kp T.b_plus .nil pass0 (pa_cons (pv 1) (pa_cons (pv 2) pa_nil))))))
      (pss_one (ps_ret (pv 1))))), ?_⟩
    walk_at "z0"
    walk_at "z"
    refine Z.forl (as.map V.ref) hS (fun i σ' H' => ∃ c y, σ' = [some (.ref a), some (.ref c), y] ∧ Kp [] H H' ∧ FrAt K H' c (fsum (0, 1) (fs.take i))) ?_ ?_ ?_ ?_
    · exact ⟨T.k_ZERO, none, rfl, Kp.refl _, T.q_ZERO H⟩
    · rintro i σ' H' _ ⟨c, y, rfl, k2, _⟩
      exact k2.seq nin0 hS
    · rintro i v σ' H' hv ⟨c, y, rfl, k2, e2⟩
      obtain ⟨x, f, rfl, hf, hx⟩ := (hF.kp0 k2).get hv
      have hfB := hB f (List.mem_of_getElem? hf)
      have hB1 := fsum_B (fs := fs.take i) (t := (0, 1)) (n := 1) (m := m) ⟨by decide, by decide⟩ (by decide) fun g hg => hB g (List.mem_of_mem_take hg)
      have hle : 1 + (fs.take i).length * (m + 1) ≤ 3900 := Nat.le_trans (Nat.add_le_add_left (Nat.mul_le_mul_right _ (Nat.le_trans (by rw [List.length_take]; exact Nat.min_le_right _ _) hl)) 1) hk
      walk_at "z"
      refine ⟨c, x, _, f, rfl, e2, hx, hB1.2, hfB.2, hB1.1.mono hle, hfB.1.mono hm, fun H3 d nd k3 e3 => ?_⟩
      walk_at "z"
      exact ⟨d, _, rfl, k2.trans k3, by rw [fsum_take hf]; exact e3⟩
    · rintro σ' H' ⟨c, y, rfl, k2, e2⟩
      walk_at "z"
      rw [List.length_map, hF.len, List.take_length] at e2
      exact q _ _ k2 e2

/-! ### fractions as rational numbers -/
def rv (f : Int × Int) : Rat := (f.1 : Rat) / (f.2 : Rat)
theorem ratNe {q : Int} (h : q ≠ 0) : (q : Rat) ≠ 0 := fun z => h (by exact_mod_cast z)
theorem ratPos {q : Int} (h : 0 < q) : (0 : Rat) < (q : Rat) := by exact_mod_cast h
theorem div_eqR {a b c : Rat} (h : b ≠ 0) : a / b = c ↔ a = c * b := by
  constructor
  · rintro rfl
    rw [Rat.div_mul_cancel h]
  · rintro rfl
    rw [Rat.mul_div_cancel h]
theorem rv_lo {p q : Int} (h : q ≠ 0) : rv (lo p q) = (p : Rat) / (q : Rat) := by
  obtain ⟨a, b, e, h1, h2, h3, h4⟩ := lo_spec (p := p) h
  rw [e]
  have hb : (b : Rat) ≠ 0 := ratNe (by omega)
  have hg : (gI p q : Rat) ≠ 0 := ratNe (gI_ne h)
  have hq : (q : Rat) = (gI p q : Rat) * (b : Rat) := by exact_mod_cast h4
  have hp : (p : Rat) = (gI p q : Rat) * (a : Rat) := by exact_mod_cast h3
  show (a : Rat) / (b : Rat) = (p : Rat) / (q : Rat)
  rw [hp, hq]
  grind

/-- a fraction in lowest terms -/
def Low (f : Int × Int) : Prop := 1 ≤ f.2 ∧ Nat.gcd f.1.natAbs f.2.natAbs = 1
theorem lo_low {p q : Int} (h : q ≠ 0) : Low (lo p q) := ⟨lo_pos h, lo_cop h⟩
theorem Low.ne {f : Int × Int} (h : Low f) : f.2 ≠ 0 := by have := h.1; omega
theorem Low.pos {f : Int × Int} (h : Low f) : (0 : Rat) < (f.2 : Rat) := ratPos (by have := h.1; omega)
theorem rv_eqI {f g : Int × Int} (h1 : f.2 ≠ 0) (h2 : g.2 ≠ 0) : rv f = rv g ↔ f.1 * g.2 = g.1 * f.2 := by
  have a1 := ratNe h1
  have a2 := ratNe h2
  unfold rv
  constructor
  · intro h
    have h3 : (f.1 : Rat) * (g.2 : Rat) = (g.1 : Rat) * (f.2 : Rat) := by grind
    exact_mod_cast h3
  · intro h
    have h3 : (f.1 : Rat) * (g.2 : Rat) = (g.1 : Rat) * (f.2 : Rat) := by exact_mod_cast h
    grind
theorem low_eq {f g : Int × Int} (h1 : Low f) (h2 : Low g) (h : rv f = rv g) : f = g := by
  have h3 := (rv_eqI h1.ne h2.ne).mp h
  obtain ⟨a, b⟩ := f
  obtain ⟨c, d⟩ := g
  obtain ⟨hb, h1⟩ := h1
  obtain ⟨hd, h2⟩ := h2
  dsimp only at *
  have e1 : a.natAbs * d.natAbs = c.natAbs * b.natAbs := by rw [← Int.natAbs_mul, ← Int.natAbs_mul, h3]
  have d1 : b.natAbs ∣ d.natAbs := by
    have : b.natAbs ∣ a.natAbs * d.natAbs := ⟨c.natAbs, by rw [e1, Nat.mul_comm]⟩
    exact Nat.Coprime.dvd_of_dvd_mul_left (Nat.Coprime.symm h1) this
  have d2 : d.natAbs ∣ b.natAbs := by
    have : d.natAbs ∣ c.natAbs * b.natAbs := ⟨a.natAbs, by rw [← e1, Nat.mul_comm]⟩
    exact Nat.Coprime.dvd_of_dvd_mul_left (Nat.Coprime.symm h2) this
  have e2 := Nat.dvd_antisymm d1 d2
  have e3 : b = d := by omega
  subst e3
  have e4 : a = c := Int.eq_of_mul_eq_mul_right (by omega) h3
  rw [e4]
theorem rv_lt {f g : Int × Int} (h1 : 1 ≤ f.2) (h2 : 1 ≤ g.2) : f.1 * g.2 < g.1 * f.2 ↔ rv f < rv g := by
  have a1 : (0 : Rat) < (f.2 : Rat) := ratPos (by omega)
  have a2 : (0 : Rat) < (g.2 : Rat) := ratPos (by omega)
  have e1 : (f.1 : Rat) = rv f * (f.2 : Rat) := by unfold rv; rw [Rat.div_mul_cancel (ratNe (by omega))]
  have e2 : (g.1 : Rat) = rv g * (g.2 : Rat) := by unfold rv; rw [Rat.div_mul_cancel (ratNe (by omega))]
  have hp : (0 : Rat) < (f.2 : Rat) * (g.2 : Rat) := Rat.mul_pos a1 a2
  have k : f.1 * g.2 < g.1 * f.2 ↔ (f.1 : Rat) * (g.2 : Rat) < (g.1 : Rat) * (f.2 : Rat) := by
    constructor
    · intro h; exact_mod_cast h
    · intro h; exact_mod_cast h
  rw [k, e1, e2]
  have e3 : rv f * (f.2 : Rat) * (g.2 : Rat) = rv f * ((f.2 : Rat) * (g.2 : Rat)) := by grind
  have e4 : rv g * (g.2 : Rat) * (f.2 : Rat) = rv g * ((f.2 : Rat) * (g.2 : Rat)) := by grind
  rw [e3, e4]
  constructor
  · intro h
    by_cases z : rv f < rv g
    · exact z
    · by_cases z2 : rv f = rv g
      · rw [z2] at h; exact absurd h (Rat.lt_irrefl)
      · have z3 : rv g < rv f := by grind
        have := Rat.mul_lt_mul_of_pos_right z3 hp
        grind
  · intro h
    exact Rat.mul_lt_mul_of_pos_right h hp
theorem rv_pos {f : Int × Int} (h1 : 1 ≤ f.2) : 0 < f.1 ↔ 0 < rv f := by
  have := rv_lt (f := (0, 1)) (g := f) (by decide) h1
  have e : rv (0, 1) = 0 := by unfold rv; grind
  rw [e] at this
  rw [← this]
  show _ ↔ 0 * f.2 < f.1 * 1
  rw [Int.zero_mul, Int.mul_one]
theorem rv_int (n : Int) : rv (n, 1) = (n : Rat) := by unfold rv; grind

/-! ### thresholds -/
/-- the sum of the lesser ones of t and the weights -/
def cap (t : Rat) : List Rat → Rat
  | [] => 0
  | w :: r => (if w < t then w else t) + cap t r
structure Thr (ws : List Rat) (k : Nat) (t : Rat) : Prop where
  small : ws.length ≤ k → t = 0
  big : k < ws.length → 0 < t ∧ cap t ws = (k : Rat) * t
theorem cap_app (t : Rat) : ∀ a b : List Rat, cap t (a ++ b) = cap t a + cap t b
  | [], b => by show cap t b = 0 + cap t b; grind
  | w :: r, b => by
    show (if w < t then w else t) + cap t (r ++ b) = (if w < t then w else t) + cap t r + cap t b
    rw [cap_app t r b]
    grind
theorem cap_all {t : Rat} : ∀ {ws : List Rat}, (∀ w ∈ ws, t ≤ w) → cap t ws = (ws.length : Rat) * t
  | [], _ => by show (0 : Rat) = ((0 : Nat) : Rat) * t; grind
  | w :: r, h => by
    have h1 := h w (by simp)
    show (if w < t then w else t) + cap t r = _
    rw [cap_all (ws := r) fun z hz => h z (by simp [hz]), if_neg (by grind), List.length_cons]
    have e : ((r.length + 1 : Nat) : Rat) = (r.length : Rat) + 1 := by exact_mod_cast rfl
    rw [e]
    grind
theorem cap_ge {t : Rat} (ht : 0 ≤ t) : ∀ {ws : List Rat}, (∀ w ∈ ws, 0 < w) → 0 ≤ cap t ws
  | [], _ => by show (0 : Rat) ≤ 0; grind
  | w :: r, h => by
    have h1 := h w (by simp)
    have h2 := cap_ge ht (ws := r) fun z hz => h z (by simp [hz])
    show 0 ≤ (if w < t then w else t) + cap t r
    split <;> grind
theorem cap_one {s t w : Rat} (hs : 0 < s) (h : s < t) (hw : 0 < w) : (if w < t then w else t) * s ≤ (if w < s then w else s) * t ∧ (w < t → (if w < t then w else t) * s < (if w < s then w else s) * t) := by
  have ht : 0 < t := by grind
  by_cases h1 : w < s
  · have h2 : w < t := by grind
    rw [if_pos h1, if_pos h2]
    have := Rat.mul_lt_mul_of_pos_left h hw
    exact ⟨by grind, fun _ => this⟩
  · rw [if_neg h1]
    by_cases h2 : w < t
    · rw [if_pos h2]
      have := Rat.mul_lt_mul_of_pos_right h2 hs
      have e : s * t = t * s := Rat.mul_comm s t
      rw [e]
      exact ⟨by grind, fun _ => this⟩
    · rw [if_neg h2]
      exact ⟨by grind, fun z => absurd z h2⟩
theorem cap_cmp {s t : Rat} (hs : 0 < s) (h : s < t) : ∀ {ws : List Rat}, (∀ w ∈ ws, 0 < w) → cap t ws * s ≤ cap s ws * t ∧ (cap t ws * s = cap s ws * t → ∀ w ∈ ws, t ≤ w)
  | [], _ => ⟨by show (0 : Rat) * s ≤ 0 * t; grind, fun _ w hw => by cases hw⟩
  | w :: r, hp => by
    have h1 := cap_one hs h (hp w (by simp))
    have h2 := cap_cmp hs h (ws := r) fun z hz => hp z (by simp [hz])
    have e1 : cap t (w :: r) = (if w < t then w else t) + cap t r := rfl
    have e2 : cap s (w :: r) = (if w < s then w else s) + cap s r := rfl
    rw [e1, e2, Rat.add_mul, Rat.add_mul]
    generalize (if w < t then w else t) * s = a at *
    generalize (if w < s then w else s) * t = b at *
    generalize cap t r * s = c at *
    generalize cap s r * t = d at *
    refine ⟨by grind, fun e z hz => ?_⟩
    rcases List.mem_cons.mp hz with rfl | hz
    · by_cases hw : z < t
      · have := h1.2 hw
        grind
      · grind
    · exact h2.2 (by grind) z hz
theorem natR_lt {a b : Nat} (h : a < b) : (a : Rat) < (b : Rat) := by exact_mod_cast h
/-- above the threshold there is room -/
theorem thr_le {ws : List Rat} {k : Nat} {t s : Rat} (hp : ∀ w ∈ ws, 0 < w) (h : Thr ws k t) (hk : k < ws.length) (hs : 0 < s) (hc : cap s ws ≤ (k : Rat) * s) : t ≤ s := by
  by_cases z : t ≤ s
  · exact z
  · have hst : s < t := by grind
    obtain ⟨ht, e⟩ := h.big hk
    have h1 := cap_cmp hs hst hp
    have h2 : cap s ws * t ≤ (k : Rat) * s * t := Rat.mul_le_mul_of_nonneg_right hc (by grind)
    rw [e] at h1
    have h3 : (k : Rat) * t * s = (k : Rat) * s * t := by grind
    have h4 := h1.2 (by grind)
    have h5 := cap_all h4
    rw [e] at h5
    have h6 := Rat.mul_lt_mul_of_pos_right (natR_lt hk) ht
    grind
theorem thr_ge {ws : List Rat} {k : Nat} {t s : Rat} (hp : ∀ w ∈ ws, 0 < w) (h : Thr ws k t) (hk : k < ws.length) (hs : 0 < s) (hc : (k : Rat) * s ≤ cap s ws) : s ≤ t := by
  by_cases z : s ≤ t
  · exact z
  · have hst : t < s := by grind
    obtain ⟨ht, e⟩ := h.big hk
    have h1 := cap_cmp ht hst hp
    have h2 : (k : Rat) * s * t ≤ cap s ws * t := Rat.mul_le_mul_of_nonneg_right hc (by grind)
    rw [e] at h1
    have h3 : (k : Rat) * t * s = (k : Rat) * s * t := by grind
    have h4 := h1.2 (by grind)
    have h7 : ∀ w ∈ ws, t ≤ w := fun w hw => by have := h4 w hw; grind
    have h5 := cap_all h7
    rw [e] at h5
    have h6 := Rat.mul_lt_mul_of_pos_right (natR_lt hk) ht
    grind
theorem thr_uniq {ws : List Rat} {k : Nat} {t s : Rat} (hp : ∀ w ∈ ws, 0 < w) (h : Thr ws k t) (h2 : Thr ws k s) : t = s := by
  by_cases hk : k < ws.length
  · obtain ⟨hs, e⟩ := h2.big hk
    have a := thr_le hp h hk hs (by grind)
    have b := thr_ge hp h hk hs (by grind)
    grind
  · rw [h.small (by omega), h2.small (by omega)]
theorem thr_nonneg {ws : List Rat} {k : Nat} {t : Rat} (h : Thr ws k t) : 0 ≤ t := by
  by_cases hk : k < ws.length
  · have := (h.big hk).1; grind
  · rw [h.small (by omega)]; grind
theorem cap_perm {t : Rat} {a b : List Rat} (h : a.Perm b) : cap t a = cap t b := by
  induction h with
  | nil => rfl
  | cons x _ ih => show _ + cap t _ = _ + cap t _; rw [ih]
  | swap x y l => show _ + (_ + cap t l) = _ + (_ + cap t l); grind
  | trans _ _ h1 h2 => exact h1.trans h2
theorem Thr.perm {a b : List Rat} {k : Nat} {t : Rat} (h : Thr a k t) (p : a.Perm b) : Thr b k t := ⟨fun hl => h.small (by rw [p.length_eq]; exact hl), fun hl => by rw [← cap_perm p]; exact h.big (by rw [p.length_eq]; exact hl)⟩

/-! ### calculations with fractions, as rational numbers -/
theorem rv_fplus {f g : Fr} (h1 : f.2 ≠ 0) (h2 : g.2 ≠ 0) : rv (fplus f g) = rv f + rv g := by
  unfold fplus
  rw [rv_lo (Int.mul_ne_zero h1 h2)]
  have a1 := ratNe h1
  have a2 := ratNe h2
  have e1 : ((f.1 * g.2 + g.1 * f.2 : Int) : Rat) = (f.1 : Rat) * (g.2 : Rat) + (g.1 : Rat) * (f.2 : Rat) := by exact_mod_cast rfl
  have e2 : ((f.2 * g.2 : Int) : Rat) = (f.2 : Rat) * (g.2 : Rat) := by exact_mod_cast rfl
  rw [e1, e2]
  unfold rv
  grind
theorem rv_fminus {f g : Fr} (h1 : f.2 ≠ 0) (h2 : g.2 ≠ 0) : rv (fminus f g) = rv f - rv g := by
  unfold fminus
  rw [rv_lo (Int.mul_ne_zero h1 h2)]
  have a1 := ratNe h1
  have a2 := ratNe h2
  have e1 : ((f.1 * g.2 - g.1 * f.2 : Int) : Rat) = (f.1 : Rat) * (g.2 : Rat) - (g.1 : Rat) * (f.2 : Rat) := by exact_mod_cast rfl
  have e2 : ((f.2 * g.2 : Int) : Rat) = (f.2 : Rat) * (g.2 : Rat) := by exact_mod_cast rfl
  rw [e1, e2]
  unfold rv
  grind
theorem rv_ftimes {f g : Fr} (h1 : f.2 ≠ 0) (h2 : g.2 ≠ 0) : rv (ftimes f g) = rv f * rv g := by
  unfold ftimes
  rw [rv_lo (Int.mul_ne_zero h1 h2)]
  have a1 := ratNe h1
  have a2 := ratNe h2
  have e1 : ((f.1 * g.1 : Int) : Rat) = (f.1 : Rat) * (g.1 : Rat) := by exact_mod_cast rfl
  have e2 : ((f.2 * g.2 : Int) : Rat) = (f.2 : Rat) * (g.2 : Rat) := by exact_mod_cast rfl
  rw [e1, e2]
  unfold rv
  grind
theorem fless_iff {f g : Fr} (h1 : 1 ≤ f.2) (h2 : 1 ≤ g.2) : fless f g = decide (rv f < rv g) := by
  unfold fless
  rw [decide_eq_decide]
  exact rv_lt h1 h2
theorem fplus_low {f g : Fr} (h1 : f.2 ≠ 0) (h2 : g.2 ≠ 0) : Low (fplus f g) := lo_low (Int.mul_ne_zero h1 h2)
theorem rv_fsum : ∀ {fs : List Fr} {t : Fr}, Low t → (∀ f ∈ fs, f.2 ≠ 0) → rv (fsum t fs) = rv t + (fs.map rv).sum ∧ Low (fsum t fs)
  | [], t, h, _ => ⟨by show rv t = rv t + 0; grind, h⟩
  | f :: r, t, h, hf => by
    have h1 := hf f (by simp)
    have ih := rv_fsum (fs := r) (t := fplus t f) (fplus_low h.ne h1) fun g hg => hf g (by simp [hg])
    refine ⟨?_, ih.2⟩
    show rv (fsum (fplus t f) r) = _
    rw [ih.1, rv_fplus h.ne h1, List.map_cons, List.sum_cons]
    grind
theorem eqv_fr (f g : Fr) : PyData.eqv (frD f) (frD g) = decide (f = g) := by
  obtain ⟨a, b⟩ := f
  obtain ⟨c, d⟩ := g
  simp [frD, PyData.eqv, PyData.eqvAll, Prod.ext_iff]
  rfl
theorem eqF {K : PySem.W.Frag} {H : Hp} {Q : VK} {a b : Addr} {f g : Fr} (h1 : FrAt K H a f) (h2 : FrAt K H b g) (q : Q (.bl (decide (f = g))) H) : rEqD K (.ref a) (.ref b) H Q :=
  ⟨_, _, dpF h1, dpF h2, frD_sh _, frD_sh _, by rw [eqv_fr]; exact q⟩
theorem neF {K : PySem.W.Frag} {H : Hp} {Q : VK} {a b : Addr} {f g : Fr} (h1 : FrAt K H a f) (h2 : FrAt K H b g) (q : Q (.bl (!decide (f = g))) H) : rNeD K (.ref a) (.ref b) H Q :=
  ⟨_, _, dpF h1, dpF h2, frD_sh _, frD_sh _, by rw [eqv_fr]; exact q⟩

/-! ### the law's own fractions -/
def spLow (K : PySem.W.Frag) : Sp := fun vs H Q _ => ∃ p q : Int, vs = [.int p, .int q] ∧ 1 ≤ q ∧ q.natAbs < 2 ^ 1900 ∧ ∀ H' b, H b = none → Kp [] H H' → FrAt K H' b (lo p q) → Q (.ref b) H'
theorem abs_if (i : Int) : (if i < 0 then -i else i) = (i.natAbs : Int) := by
  split <;> omega
theorem euc_4000 {p : Nat × Nat} (h : p.2 < 2 ^ 1900) : (euc 4000 p).2 = 0 := by
  rw [show (4000 : Nat) = 2 * 1900 + 200 from rfl, euc_add, euc_zero 200 (euc_end 1900 p h)]
  exact euc_end 1900 p h
theorem gI_pos {p q : Int} (h : 1 ≤ q) : gI p q = (gN p q : Int) := by
  unfold gI
  rw [if_neg (by omega)]

theorem ok__law_low {P : Program} {w : World} {K : PySem.W.Frag} {mg : Str → Option Value} {base : Heap} (T : T P K mg base) : FnOk P w K mg base CX0 1 T.a__law_low T.fd__law_low ["p", "q"] (spLow K) := by
  refine T.F__law_low.ok sc__law_low (fun vs H Q E h => ?_) (fun cdv A outer s H vs Q E hr h => ?_)
  · obtain ⟨p, q, rfl, _⟩ := h
    rfl
  · obtain ⟨p, q, rfl, hq, hb, q1⟩ := h
    have hg := gI_ne (p := p) (q := q) (by omega)
    have hdv : Z.CDivA p (gI p q) := Z.divA (b := 1900) hg (by rw [gI_abs]; exact Nat.lt_of_le_of_lt (gN_le (by omega)) hb) (by decide) (by decide)
    have hdv2 : Z.CDivA q (gI p q) := hdv
    have eq : q = (q.natAbs : Int) := by omega
    refine ⟨_, (pss_cons (ps_par (i := 2) (j := 3) rfl sc__law_low.nd rfl rfl (by decide) rfl rfl (pa_cons (pe_callB c_abs (by rfl) T.z_abs (by decide +kernel) (pa_cons (pv 0) pa_nil)) (pa_cons (pv 1) pa_nil)) (by rfl))
      (Z.pss_consJ (ps_for PassesOwn.never rfl (pi_range1 (by rfl) T.z_range (pa_cons pe_int pa_nil)) (pg_name (i := 4) sc__law_low.nd rfl (by first | exact Or.inl rfl | exact Or.inr rfl)) (pss_cons (ps_if (pt_cmpR op_eq (pv 3) pe_int (nomark _)) (pss_one ps_break) pss_nil)
      (pss_one (ps_par (i := 2) (j := 3) rfl sc__law_low.nd rfl rfl (by decide) rfl rfl (pa_cons (pv 3) (pa_cons (pe_op op_mod (pe_callTy c_int (by rfl) T.z_int (by decide +kernel) (pa_cons (pv 2) pa_nil)) (pv 3)) pa_nil)) (by rfl)))))
      (pss_one (ps_ret (pe_tup (pa_cons (pe_op Z.op_fdivA (pv 0) (pv 2)) (pa_cons (pe_op Z.op_fdivA (pv 1) (pv 2)) pa_nil))))))), ?_⟩
    walk_at "z0"
    walk_at "z"
    rw [abs_if]
    refine Z.seqJ (fun σ' H' => ∃ y z : Option V, σ' = [some (.int p), some (.int q), some (.int (gI p q)), y, z] ∧ H' = H) ?_ ?_
    · rintro σ' H' ⟨y, z, rfl, rfl⟩
      walk_at "z"
      refine Z.iC hdv ?_
      walk_at "z"
      refine Z.iC hdv2 ?_
      refine Z.tupK (fun b H1 nb k1 e1 => ?_)
      exact q1 _ _ nb k1 (tupT e1)
    · intro N jn
      walk_at "z"
      refine Z.forr 4000 ?_ (by decide) (fun i σ' H' => ∃ z : Option V, σ' = [some (.int p), some (.int q), some (.int ((euc i (p.natAbs, q.natAbs)).1 : Int)), some (.int ((euc i (p.natAbs, q.natAbs)).2 : Int)), z] ∧ H' = H) ?_ ?_ ?_
      · rfl
      · refine ⟨none, ?_, rfl⟩
        show _ = [some (V.int p), some (V.int q), some (V.int (p.natAbs : Int)), some (V.int (q.natAbs : Int)), none]
        rw [← eq]
      · rintro i σ' H' hi ⟨z, rfl, rfl⟩
        walk_at "z"
        refine Z.ite (fun h2 => ?_) (fun h2 => ?_)
        · walk_at "z"
          have h0 : (euc i (p.natAbs, q.natAbs)).2 = 0 := by omega
          have eg := euc_gcd i (p.natAbs, q.natAbs)
          rw [h0, Nat.gcd_zero_right] at eg
          have eg2 : (((euc i (p.natAbs, q.natAbs)).1 : Nat) : Int) = gI p q := by rw [eg]; exact (gI_pos hq).symm
          rw [eg2]
          exact jn _ _ ⟨_, _, rfl, rfl⟩
        · walk_at "z"
          refine Z.iC (by omega) ?_
          walk_at "z"
          have es : euc (i + 1) (p.natAbs, q.natAbs) = ((euc i (p.natAbs, q.natAbs)).2, (euc i (p.natAbs, q.natAbs)).1 % (euc i (p.natAbs, q.natAbs)).2) := by
            rw [euc_succ]
            exact if_neg (by omega)
          refine ⟨some (.int (i : Int)), ?_, rfl⟩
          rw [es]
          rfl
      · rintro σ' H' ⟨z, rfl, rfl⟩
        have h0 := euc_4000 (p := (p.natAbs, q.natAbs)) hb
        have eg := euc_gcd 4000 (p.natAbs, q.natAbs)
        rw [h0, Nat.gcd_zero_right] at eg
        have eg2 : (((euc 4000 (p.natAbs, q.natAbs)).1 : Nat) : Int) = gI p q := by rw [eg]; exact (gI_pos hq).symm
        walk_at "z"
        rw [eg2]
        exact jn _ _ ⟨_, _, rfl, rfl⟩

/-- two fractions in, a fraction out; smaller ones -/
def spG2 (K : PySem.W.Frag) (o : Fr → Fr → Fr) : Sp := fun vs H Q _ => ∃ (a b : Addr) (f g : Fr), vs = [.ref a, .ref b] ∧ FrAt K H a f ∧ FrAt K H b g ∧ 1 ≤ f.2 ∧ 1 ≤ g.2 ∧ (∃ n m, FrB n f ∧ FrB m g ∧ n + m ≤ 1900) ∧ ∀ H' c, H c = none → Kp [] H H' → FrAt K H' c (o f g) → Q (.ref c) H'
theorem ok__law_plus {P : Program} {w : World} {K : PySem.W.Frag} {mg : Str → Option Value} {base : Heap} (T : T P K mg base) : FnOk P w K mg base CX0 2 T.a__law_plus T.fd__law_plus ["one", "other"] (spG2 K fplus) := by
  refine T.F__law_plus.ok sc__law_plus (fun vs H Q E h => ?_) (fun cdv A outer s H vs Q E hr h => ?_)
  · obtain ⟨a, b, f, g, rfl, _⟩ := h
    rfl
  · obtain ⟨a, b, f, g, rfl, ha, hb, hf, hg, ⟨n, m, Bf0, Bg0, hnm⟩, q⟩ := h
    have Bf : FrB 1900 f := Bf0.mono (by omega)
    have Bg : FrB 1900 g := Bg0.mono (by omega)
    refine ⟨_, (pss_one (ps_ret (pe_call (ok__law_low T) (hr.mono (by decide)) (by rfl) T.g__law_low T.F__law_low.kp T.b__law_low .nil pass0 (pa_cons (pe_op op_add (pe_op op_mulW (pe_ix ix_tup (pv 0) pe_int (fun _ _ => rfl)) (pe_ix ix_tup (pv 1) pe_int (fun _ _ => rfl))) (pe_op op_mulW (pe_ix ix_tup (pv 1) pe_int (fun _ _ => rfl)) (pe_ix ix_tup (pv 0) pe_int (fun _ _ => rfl)))) (pa_cons (pe_op op_mulW (pe_ix ix_tup (pv 0) pe_int (fun _ _ => rfl)) (pe_ix ix_tup (pv 1) pe_int (fun _ _ => rfl))) pa_nil))))), ?_⟩
    walk_at "z0"
    walk_at "z"
    refine Z.ixT ha (fr0 f) ?_
    walk_at "z"
    refine Z.ixT hb (fr1 g) ?_
    walk_at "z"
    refine Z.iC (mul_ok Bf.1 Bg.2) ?_
    walk_at "z"
    refine Z.ixT hb (fr0 g) ?_
    walk_at "z"
    refine Z.ixT ha (fr1 f) ?_
    walk_at "z"
    refine Z.iC (mul_ok Bg.1 Bf.2) ?_
    walk_at "z"
    refine Z.ixT ha (fr1 f) ?_
    walk_at "z"
    refine Z.ixT hb (fr1 g) ?_
    walk_at "z"
    refine Z.iC (mul_ok Bf.2 Bg.2) ?_
    walk_at "z"
    have h0 := Int.mul_pos (show 0 < f.2 by omega) (show 0 < g.2 by omega)
    exact ⟨_, _, rfl, by omega, up_B (mul_B Bf0.2 Bg0.2) hnm, fun H' c nc k e => q _ _ nc k e⟩
theorem ok__law_times {P : Program} {w : World} {K : PySem.W.Frag} {mg : Str → Option Value} {base : Heap} (T : T P K mg base) : FnOk P w K mg base CX0 2 T.a__law_times T.fd__law_times ["one", "other"] (spG2 K ftimes) := by
  refine T.F__law_times.ok sc__law_times (fun vs H Q E h => ?_) (fun cdv A outer s H vs Q E hr h => ?_)
  · obtain ⟨a, b, f, g, rfl, _⟩ := h
    rfl
  · obtain ⟨a, b, f, g, rfl, ha, hb, hf, hg, ⟨n, m, Bf0, Bg0, hnm⟩, q⟩ := h
    have Bf : FrB 1900 f := Bf0.mono (by omega)
    have Bg : FrB 1900 g := Bg0.mono (by omega)
    refine ⟨_, (pss_one (ps_ret (pe_call (ok__law_low T) (hr.mono (by decide)) (by rfl) T.g__law_low T.F__law_low.kp T.b__law_low .nil pass0 (pa_cons (pe_op op_mulW (pe_ix ix_tup (pv 0) pe_int (fun _ _ => rfl)) (pe_ix ix_tup (pv 1) pe_int (fun _ _ => rfl))) (pa_cons (pe_op op_mulW (pe_ix ix_tup (pv 0) pe_int (fun _ _ => rfl)) (pe_ix ix_tup (pv 1) pe_int (fun _ _ => rfl))) pa_nil))))), ?_⟩
    walk_at "z0"
    walk_at "z"
    refine Z.ixT ha (fr0 f) ?_
    walk_at "z"
    refine Z.ixT hb (fr0 g) ?_
    walk_at "z"
    refine Z.iC (mul_ok Bf.1 Bg.1) ?_
    walk_at "z"
    refine Z.ixT ha (fr1 f) ?_
    walk_at "z"
    refine Z.ixT hb (fr1 g) ?_
    walk_at "z"
    refine Z.iC (mul_ok Bf.2 Bg.2) ?_
    walk_at "z"
    have h0 := Int.mul_pos (show 0 < f.2 by omega) (show 0 < g.2 by omega)
    exact ⟨_, _, rfl, by omega, up_B (mul_B Bf0.2 Bg0.2) hnm, fun H' c nc k e => q _ _ nc k e⟩

theorem ok__law_minus {P : Program} {w : World} {K : PySem.W.Frag} {mg : Str → Option Value} {base : Heap} (T : T P K mg base) : FnOk P w K mg base CX0 2 T.a__law_minus T.fd__law_minus ["one", "other"] (spG2 K fminus) := by
  refine T.F__law_minus.ok sc__law_minus (fun vs H Q E h => ?_) (fun cdv A outer s H vs Q E hr h => ?_)
  · obtain ⟨a, b, f, g, rfl, _⟩ := h
    rfl
  · obtain ⟨a, b, f, g, rfl, ha, hb, hf, hg, ⟨n, m, Bf0, Bg0, hnm⟩, q⟩ := h
    have Bf : FrB 1900 f := Bf0.mono (by omega)
    have Bg : FrB 1900 g := Bg0.mono (by omega)
    refine ⟨_, (pss_one (ps_ret (pe_call (ok__law_low T) (hr.mono (by decide)) (by rfl) T.g__law_low T.F__law_low.kp T.b__law_low .nil pass0 (pa_cons (pe_op op_sub (pe_op op_mulW (pe_ix ix_tup (pv 0) pe_int (fun _ _ => rfl)) (pe_ix ix_tup (pv 1) pe_int (fun _ _ => rfl))) (pe_op op_mulW (pe_ix ix_tup (pv 1) pe_int (fun _ _ => rfl)) (pe_ix ix_tup (pv 0) pe_int (fun _ _ => rfl)))) (pa_cons (pe_op op_mulW (pe_ix ix_tup (pv 0) pe_int (fun _ _ => rfl)) (pe_ix ix_tup (pv 1) pe_int (fun _ _ => rfl))) pa_nil))))), ?_⟩
    walk_at "z0"
    walk_at "z"
    refine Z.ixT ha (fr0 f) ?_
    walk_at "z"
    refine Z.ixT hb (fr1 g) ?_
    walk_at "z"
    refine Z.iC (mul_ok Bf.1 Bg.2) ?_
    walk_at "z"
    refine Z.ixT hb (fr0 g) ?_
    walk_at "z"
    refine Z.ixT ha (fr1 f) ?_
    walk_at "z"
    refine Z.iC (mul_ok Bg.1 Bf.2) ?_
    walk_at "z"
    refine Z.ixT ha (fr1 f) ?_
    walk_at "z"
    refine Z.ixT hb (fr1 g) ?_
    walk_at "z"
    refine Z.iC (mul_ok Bf.2 Bg.2) ?_
    walk_at "z"
    have h0 := Int.mul_pos (show 0 < f.2 by omega) (show 0 < g.2 by omega)
    exact ⟨_, _, rfl, by omega, up_B (mul_B Bf0.2 Bg0.2) hnm, fun H' c nc k e => q _ _ nc k e⟩

def spLessG (K : PySem.W.Frag) : Sp := fun vs H Q _ => ∃ (a b : Addr) (f g : Fr), vs = [.ref a, .ref b] ∧ FrAt K H a f ∧ FrAt K H b g ∧ FrB 8000 f ∧ FrB 8000 g ∧ Q (.bl (fless f g)) H
theorem ok__law_less {P : Program} {w : World} {K : PySem.W.Frag} {mg : Str → Option Value} {base : Heap} (T : T P K mg base) : FnOk P w K mg base CX0 1 T.a__law_less T.fd__law_less ["one", "other"] (spLessG K) := by
  refine T.F__law_less.ok sc__law_less (fun vs H Q E h => ?_) (fun cdv A outer s H vs Q E hr h => ?_)
  · obtain ⟨a, b, f, g, rfl, _⟩ := h
    rfl
  · obtain ⟨a, b, f, g, rfl, ha, hb, Bf, Bg, q⟩ := h
    refine ⟨_, (pss_one (ps_ret (pe_cmpR op_lt (pe_op op_mulW (pe_ix ix_tup (pv 0) pe_int (fun _ _ => rfl)) (pe_ix ix_tup (pv 1) pe_int (fun _ _ => rfl))) (pe_op op_mulW (pe_ix ix_tup (pv 1) pe_int (fun _ _ => rfl)) (pe_ix ix_tup (pv 0) pe_int (fun _ _ => rfl))) (nomark _)))), ?_⟩
    walk_at "z0"
    walk_at "z"
    refine Z.ixT ha (fr0 f) ?_
    walk_at "z"
    refine Z.ixT hb (fr1 g) ?_
    walk_at "z"
    refine Z.iC (mul_ok Bf.1 Bg.2) ?_
    walk_at "z"
    refine Z.ixT hb (fr0 g) ?_
    walk_at "z"
    refine Z.ixT ha (fr1 f) ?_
    walk_at "z"
    refine Z.iC (mul_ok Bg.1 Bf.2) ?_
    walk_at "z"
    exact q

/-- a promise for each of many -/
def spEx {ι : Type} (p : ι → Prop) (sp : ι → Sp) : Sp := fun vs H Q E => ∃ i, p i ∧ sp i vs H Q E
theorem fnEx {ι : Type} {P : Program} {w : World} {K : PySem.W.Frag} {mg : Str → Option Value} {base : Heap} {CX : CXT} {k : Nat} {f : Addr} {fd : FuncData} {ps : List Str} {p : ι → Prop} {sp : ι → Sp} (F : ∀ i, p i → FnOk P w K mg base CX k f fd ps (sp i)) : FnOk P w K mg base CX k f fd ps (spEx p sp) :=
  ⟨fun vs H Q E ⟨i, hi, q⟩ => (F i hi).len vs H Q E q, fun A outer s H args us vs Q E hr he hb hv ⟨i, hi, hs⟩ => (F i hi).run A outer s H args us vs Q E hr he hb hv hs⟩

/-! ### thresholds: common_denominator, scaled, threshold -/
def comm (fs : List Fr) : Nat := fs.foldl (fun c f => Nat.lcm c f.2.natAbs) 1
theorem comm_take {fs : List Fr} {i : Nat} {f : Fr} (h : fs[i]? = some f) : comm (fs.take (i + 1)) = Nat.lcm (comm (fs.take i)) f.2.natAbs := by
  unfold comm
  rw [List.take_add_one, h, List.foldl_append]
  rfl
theorem foldl_lcm_dvd : ∀ {fs : List Fr} {c : Nat}, c ∣ fs.foldl (fun c f => Nat.lcm c f.2.natAbs) c ∧ ∀ f ∈ fs, f.2.natAbs ∣ fs.foldl (fun c f => Nat.lcm c f.2.natAbs) c
  | [], c => ⟨Nat.dvd_refl c, fun f h => by cases h⟩
  | g :: r, c => by
    have h := foldl_lcm_dvd (fs := r) (c := Nat.lcm c g.2.natAbs)
    refine ⟨Nat.dvd_trans (Nat.dvd_lcm_left c g.2.natAbs) h.1, fun f hf => ?_⟩
    rcases List.mem_cons.mp hf with rfl | hf
    · exact Nat.dvd_trans (Nat.dvd_lcm_right c f.2.natAbs) h.1
    · exact h.2 f hf
theorem comm_dvd {fs : List Fr} {f : Fr} (h : f ∈ fs) : f.2.natAbs ∣ comm fs := foldl_lcm_dvd.2 f h
theorem foldl_lcm_lt {m : Nat} : ∀ {fs : List Fr} {c n : Nat}, 1 ≤ c → c ≤ 2 ^ n → (∀ f ∈ fs, 1 ≤ f.2.natAbs ∧ f.2.natAbs < 2 ^ m) → 1 ≤ fs.foldl (fun c f => Nat.lcm c f.2.natAbs) c ∧ fs.foldl (fun c f => Nat.lcm c f.2.natAbs) c ≤ 2 ^ (n + m * fs.length)
  | [], c, n, h1, h2, _ => ⟨h1, by rw [List.length_nil, Nat.mul_zero, Nat.add_zero]; exact h2⟩
  | g :: r, c, n, h1, h2, h => by
    have hg := h g (by simp)
    have h3 : 1 ≤ Nat.lcm c g.2.natAbs := Nat.lcm_pos (by omega) (by omega)
    have h4 : Nat.lcm c g.2.natAbs ≤ 2 ^ (n + m) := by
      rw [Nat.pow_add]
      exact Nat.le_trans (RL.lcm_le _ _) (Nat.mul_le_mul h2 (by omega))
    have ih := foldl_lcm_lt (m := m) (fs := r) h3 h4 fun f hf => h f (by simp [hf])
    refine ⟨ih.1, ?_⟩
    rw [List.length_cons, Nat.mul_add, show n + (m * r.length + m * 1) = n + m + m * r.length by omega]
    exact ih.2
theorem comm_lt {m : Nat} {fs : List Fr} (h : ∀ f ∈ fs, 1 ≤ f.2.natAbs ∧ f.2.natAbs < 2 ^ m) : 1 ≤ comm fs ∧ comm fs ≤ 2 ^ (m * fs.length) := by
  have := foldl_lcm_lt (m := m) (fs := fs) (c := 1) (n := 0) (by decide) (by decide) h
  rwa [Nat.zero_add] at this
/-- positive fractions, small enough -/
def PosB (m : Nat) (f : Fr) : Prop := 1 ≤ f.2 ∧ 0 < f.1 ∧ FrB m f
theorem PosB.den {m : Nat} {f : Fr} (h : PosB m f) : 1 ≤ f.2.natAbs ∧ f.2.natAbs < 2 ^ m := ⟨by have := h.1; omega, h.2.2.2⟩
def spComm (K : PySem.W.Frag) (m k : Nat) : Sp := fun vs H Q _ => ∃ (a : Addr) (as : List Addr) (fs : List Fr), vs = [.ref a] ∧ SqL K H a (as.map V.ref) ∧ FrsAt K H as fs ∧ (∀ f ∈ fs, 1 ≤ f.2.natAbs ∧ f.2.natAbs < 2 ^ m) ∧ fs.length ≤ k ∧ Q (.int (comm fs : Int)) H
theorem ok_common_any {P : Program} {w : World} {K : PySem.W.Frag} {mg : Str → Option Value} {base : Heap} (T : T P K mg base) (m k : Nat) (hm : m < 6000) (hk : m * k < 6000) : FnOk P w K mg base CX0 1 T.a_common_denominator T.fd_common_denominator ["fractions"] (spComm K m k) := by
  refine T.F_common_denominator.ok sc_common_denominator (fun vs H Q E h => ?_) (fun cdv A outer s H vs Q E hr h => ?_)
  · obtain ⟨a, as, fs, rfl, _⟩ := h
    rfl
  · obtain ⟨a, as, fs, rfl, hS, hF, hB, hl, q⟩ := h
    refine ⟨_, (pss_cons (ps_set (i := 1) sc_common_denominator.nd rfl (by first | exact Or.inl rfl | exact Or.inr rfl) pe_int)
      (pss_cons (ps_for PassesOwn.never rfl (pi_list (pv 0)) (pg_name (i := 2) sc_common_denominator.nd rfl (by first | exact Or.inl rfl | exact Or.inr rfl)) (pss_one (ps_set (i := 1) sc_common_denominator.nd rfl (by first | exact Or.inl rfl | exact Or.inr rfl) (pe_callBfun RL.cr_lcm (by rfl) T.g_lcm (pa_cons (pv 1) (pa_cons (pe_ix ix_tup (pv 2) pe_int (fun _ _ => rfl)) pa_nil))))))
      (pss_one (ps_ret (pv 1))))), ?_⟩
    walk_at "z0"
    walk_at "z"
    refine Z.forl (as.map V.ref) hS (fun i σ' H' => ∃ y, σ' = [some (.ref a), some (.int (comm (fs.take i) : Int)), y] ∧ H' = H) ?_ ?_ ?_ ?_
    · exact ⟨none, rfl, rfl⟩
    · rintro i σ' H' _ ⟨y, rfl, rfl⟩
      exact hS
    · rintro i v σ' H' hv ⟨y, rfl, rfl⟩
      obtain ⟨x, f, rfl, hf, hx⟩ := hF.get hv
      have hfB := hB f (List.mem_of_getElem? hf)
      have hB1 := comm_lt (m := m) (fs := fs.take i) fun g hg => hB g (List.mem_of_mem_take hg)
      have hi : i < fs.length := (List.getElem?_eq_some_iff.mp hf).1
      have hle : m * (fs.take i).length ≤ m * k := Nat.mul_le_mul_left m (by rw [List.length_take]; omega)
      walk_at "z"
      refine Z.ixT hx (fr1 f) ?_
      walk_at "z"
      refine ⟨_, _, rfl, ?_, ?_, ?_⟩
      · rw [Int.natAbs_natCast]
        exact Nat.lt_of_le_of_lt hB1.2 (Nat.pow_lt_pow_right (by decide) (by omega))
      · exact Nat.lt_of_lt_of_le hfB.2 (Nat.pow_le_pow_right (by decide) (by omega))
      · walk_at "z"
        exact ⟨_, by rw [comm_take hf, Int.natAbs_natCast], rfl⟩
    · rintro σ' H' ⟨y, rfl, rfl⟩
      rw [List.length_map, hF.len, List.take_length]
      walk_at "z"
      exact q
/-- the fractions times c, a multiple of all denominators -/
def scl1 (c : Int) (f : Fr) : Int := f.1 * (c.fdiv f.2)
def spScaled (K : PySem.W.Frag) (n : Nat) : Sp := fun vs H Q _ => ∃ (a : Addr) (as : List Addr) (fs : List Fr) (c : Int), vs = [.ref a, .int c] ∧ SqL K H a (as.map V.ref) ∧ FrsAt K H as fs ∧ (∀ f ∈ fs, 1 ≤ f.2 ∧ FrB n f) ∧ fs.length ≤ 1000 ∧ c.natAbs < 2 ^ n ∧ ∀ H' p, H p = none → Kp [] H H' → H' p = some (.lst ((fs.map (scl1 c)).map V.int)) → Q (.ref p) H'
theorem fdiv_abs {a b : Int} (h : 1 ≤ b) : (a.fdiv b).natAbs ≤ a.natAbs := by
  rw [Int.fdiv_eq_ediv_of_nonneg _ (by omega)]
  exact Int.natAbs_ediv_le_natAbs a b
theorem ok_scaled_any {P : Program} {w : World} {K : PySem.W.Frag} {mg : Str → Option Value} {base : Heap} (T : T P K mg base) (n : Nat) (h0 : 0 < n) (hn : n ≤ 8000) : FnOk P w K mg base CX0 1 T.a_scaled T.fd_scaled ["fractions", "factor"] (spScaled K n) := by
  refine T.F_scaled.ok sc_scaled (fun vs H Q E h => ?_) (fun cdv A outer s H vs Q E hr h => ?_)
  · obtain ⟨a, as, fs, c, rfl, _⟩ := h
    rfl
  · obtain ⟨a, as, fs, c, rfl, hS, hF, hB, hl, hc, q⟩ := h
    refine ⟨_, (pss_one (ps_ret (pe_lc (own := [("p", 2), ("q", 3)]) (g := gTup K 2 (gCons (gName 2) (gCons (gName 3) gNil))) rfl sc_scaled.nd (pi_list (pv 0)) (blkOk_by (own := [("p", 2), ("q", 3)]) (N := N_scaled) (sc := defScope s_scaled) (by decide +kernel)) (fun _ _ _ _ _ => (pg_tup rfl (pgs_cons (pg_name (i := 2) sc_scaled.nd rfl (by first | exact Or.inl rfl | exact Or.inr rfl)) (pgs_cons (pg_name (i := 3) sc_scaled.nd rfl (by first | exact Or.inl rfl | exact Or.inr rfl)) pgs_nil)))) (fun _ _ _ _ _ => pts_nil) (fun _ _ _ _ _ => (pe_op op_mulW (pv 2) (pe_op Z.op_fdivA (pv 1) (pv 3))))))), ?_⟩
    walk_at "z0"
    walk_at "z"
    refine Z.lcl (as.map V.ref) hS (fun D i H' => Kp [] H H' ∧ H' D = some (.lst (((fs.take i).map (scl1 c)).map V.int))) ?_ ?_ ?_ ?_
    · intro D H1 nD k1 e1
      exact ⟨k1, e1⟩
    · rintro D i H1 nD hi ⟨k1, e1⟩
      exact k1.seq nin0 hS
    · rintro D i v H1 nD hv ⟨k1, e1⟩
      obtain ⟨x, f, rfl, hf, hx⟩ := (hF.kp0 k1).get hv
      have hfB := hB f (List.mem_of_getElem? hf)
      have hi : i < fs.length := (List.getElem?_eq_some_iff.mp hf).1
      dsimp only [wipe, List.set]
      refine Z.gtup hx rfl ?_
      unfold frV
      walk_at "z"
      refine ⟨rfl, ?_⟩
      walk_at "z"
      refine Z.iC (Z.divA (b := n) (by omega) hfB.2.2 h0 (by omega)) ?_
      walk_at "z"
      refine Z.iC (mul_ok (n := n) hfB.2.1 (Nat.lt_of_le_of_lt (fdiv_abs hfB.1) hc)) ?_
      refine ⟨_, e1, Z.szl (m := 1000) (by rw [List.length_map, List.length_map, List.length_take]; omega), k1.mut nD rfl, ?_⟩
      rw [upd_same, List.take_add_one, hf, List.map_append, List.map_append]; rfl
    · rintro D H1 nD ⟨k1, e1⟩
      rw [List.length_map, hF.len, List.take_length] at e1
      exact q H1 D nD k1 e1

theorem cap_low {t : Rat} : ∀ {ws : List Rat}, (∀ w ∈ ws, w ≤ t) → cap t ws = ws.sum
  | [], _ => rfl
  | w :: r, h => by
    have h1 := h w (by simp)
    show (if w < t then w else t) + cap t r = _
    rw [cap_low (ws := r) fun z hz => h z (by simp [hz]), List.sum_cons]
    split <;> grind
theorem sum_div (c : Rat) : ∀ ys : List Int, (ys.map fun x : Int => (x : Rat) / c).sum = ((ys.sum : Int) : Rat) / c
  | [] => by show (0 : Rat) = ((0 : Int) : Rat) / c; grind
  | y :: r => by
    rw [List.map_cons, List.sum_cons, List.sum_cons, sum_div c r]
    have e : (((y + r.sum : Int)) : Rat) = (y : Rat) + ((r.sum : Int) : Rat) := by exact_mod_cast rfl
    rw [e]
    grind
theorem ratMono {a b : Int} : (a : Rat) ≤ (b : Rat) ↔ a ≤ b := by
  constructor
  · intro h; exact_mod_cast h
  · intro h; exact_mod_cast h
theorem div_mono {a b c : Rat} (h : a ≤ b) (hc : 0 < c) : a / c ≤ b / c := by
  have h1 : 0 < c⁻¹ := Rat.inv_pos.mpr hc
  rw [Rat.div_def, Rat.div_def]
  exact Rat.mul_le_mul_of_nonneg_right h (by grind)
theorem thr_of {xs0 ys zs : List Int} {C pl size : Nat} (hC : 1 ≤ C) (hpl : 1 ≤ pl) (perm : (ys ++ zs).Perm xs0) (hpos : 0 < ys.sum) (hz : ∀ z ∈ zs, ys.sum < z * (pl : Int)) (hy : ∀ y ∈ ys, y * (pl : Int) ≤ ys.sum) (hs : pl + zs.length = size) (hn : size < xs0.length) :
    Thr (xs0.map fun x : Int => (x : Rat) / (C : Rat)) size (((ys.sum : Int) : Rat) / ((pl : Rat) * (C : Rat))) := by
  have c0 : (0 : Rat) < (C : Rat) := by exact_mod_cast hC
  have p0 : (0 : Rat) < (pl : Rat) := by exact_mod_cast hpl
  have s0 : (0 : Rat) < ((ys.sum : Int) : Rat) := by exact_mod_cast hpos
  have pc := Rat.mul_pos p0 c0
  have key : ∀ x : Int, (x : Rat) / (C : Rat) = ((x : Rat) * (pl : Rat)) / ((pl : Rat) * (C : Rat)) := fun x => by grind
  refine ⟨fun h => by rw [List.length_map] at h; omega, fun _ => ⟨?_, ?_⟩⟩
  · rw [Rat.div_def]
    exact Rat.mul_pos s0 (Rat.inv_pos.mpr pc)
  · have hp2 := (perm.map fun x : Int => (x : Rat) / (C : Rat))
    rw [← cap_perm hp2, List.map_append, cap_app, cap_low, cap_all, sum_div, List.length_map]
    · have e : (size : Rat) = (pl : Rat) + (zs.length : Rat) := by rw [← hs]; exact_mod_cast rfl
      rw [e]
      grind
    · intro w hw
      obtain ⟨z, hz1, rfl⟩ := List.mem_map.mp hw
      rw [key z]
      refine div_mono ?_ pc
      have := hz z hz1
      have h2 : ys.sum ≤ z * (pl : Int) := by omega
      exact_mod_cast h2
    · intro w hw
      obtain ⟨y, hy1, rfl⟩ := List.mem_map.mp hw
      rw [key y]
      refine div_mono ?_ pc
      have h2 := hy y hy1
      exact_mod_cast h2
theorem rv_scl {f : Fr} {C : Nat} (hC : 1 ≤ C) (hq : 1 ≤ f.2) (h : f.2.natAbs ∣ C) : rv f = ((scl1 (C : Int) f : Int) : Rat) / (C : Rat) := by
  have c0 : (C : Rat) ≠ 0 := by
    have : (0 : Rat) < (C : Rat) := by exact_mod_cast hC
    grind
  obtain ⟨d, hd⟩ := h
  have hq2 : f.2 ≠ 0 := by omega
  have e1 : (C : Int) = f.2 * (d : Int) := by
    have : (f.2.natAbs : Int) = f.2 := by omega
    rw [hd, Int.natCast_mul, this]
  have e2 : (C : Int).fdiv f.2 = (d : Int) := by rw [e1]; exact Int.mul_fdiv_cancel_left _ hq2
  have e3 : (C : Rat) = (f.2 : Rat) * (d : Rat) := by exact_mod_cast e1
  unfold rv scl1
  rw [e2]
  have e4 : ((f.1 * (d : Int) : Int) : Rat) = (f.1 : Rat) * (d : Rat) := by exact_mod_cast rfl
  have q0 : (f.2 : Rat) ≠ 0 := ratNe hq2
  rw [e4, e3]
  have d0 : (d : Rat) ≠ 0 := by
    intro z
    rw [e3, z] at c0
    grind
  grind
def spThr (K : PySem.W.Frag) (m k : Nat) : Sp := fun vs H Q _ => ∃ (a : Addr) (as : List Addr) (fs : List Fr) (size : Nat), vs = [.ref a, .int (size : Int)] ∧ SqL K H a (as.map V.ref) ∧ FrsAt K H as fs ∧ (∀ f ∈ fs, PosB m f) ∧ fs.length ≤ k ∧ 1 ≤ size ∧
  ∀ H' b g, Kp [] H H' → FrAt K H' b g → Low g → FrB (m * (k + 1) + 7) g → Thr (fs.map rv) size (rv g) → Q (.ref b) H'
theorem low_zero : Low (0, 1) := ⟨by decide, by decide⟩
theorem rv_zero : rv (0, 1) = 0 := by unfold rv; grind
theorem scl1_pos {f : Fr} {C : Nat} (hC : 1 ≤ C) (hq : 1 ≤ f.2) (hp : 0 < f.1) (h : f.2.natAbs ∣ C) : 0 < scl1 (C : Int) f := by
  obtain ⟨d, hd⟩ := h
  have e1 : (C : Int) = f.2 * (d : Int) := by
    have : (f.2.natAbs : Int) = f.2 := by omega
    rw [hd, Int.natCast_mul, this]
  have e2 : (C : Int).fdiv f.2 = (d : Int) := by rw [e1]; exact Int.mul_fdiv_cancel_left _ (by omega)
  unfold scl1
  rw [e2]
  refine Int.mul_pos hp ?_
  have : d ≠ 0 := fun z => by rw [z, Nat.mul_zero] at hd; omega
  omega
theorem sum_abs_lt {n : Nat} : ∀ {l : List Int}, (∀ x ∈ l, x.natAbs < 2 ^ n) → l.sum.natAbs ≤ l.length * 2 ^ n
  | [], _ => by simp
  | a :: r, h => by
    have h1 := h a (by simp)
    have h2 := sum_abs_lt (n := n) (l := r) fun z hz => h z (by simp [hz])
    rw [List.sum_cons, List.length_cons, Nat.add_mul]
    omega
theorem ok_threshold_any {P : Program} {w : World} {K : PySem.W.Frag} {mg : Str → Option Value} {base : Heap} (T : T P K mg base) (m k : Nat) (h0 : 0 < m) (hk : k < 64) (hmk : m * (k + 1) + 7 ≤ 5900) : FnOk P w K mg base CX0 4 T.a_threshold T.fd_threshold ["weights", "size"] (spThr K m k) := by
  have hmk2 : m * (k + 1) = m * k + m := by rw [Nat.mul_add, Nat.mul_one]
  have ok_common_denominator := fun T => ok_common_any (P := P) (w := w) (K := K) (mg := mg) (base := base) T m k (by omega) (by omega)
  have ok_scaled := fun T => ok_scaled_any (P := P) (w := w) (K := K) (mg := mg) (base := base) T (m * k + m + 1) (by omega) (by omega)
  refine T.F_threshold.ok sc_threshold (fun vs H Q E h => ?_) (fun cdv A outer s H vs Q E hr h => ?_)
  · obtain ⟨a, as, fs, size, rfl, _⟩ := h
    rfl
  · obtain ⟨a, as, fs, size, rfl, hS, hF, hB, hl, hs1, q⟩ := h
    refine ⟨_, (pss_cons (ps_if (pt_cmpR op_le (pe_callB c_len (by rfl) T.z_len (by decide +kernel) (pa_cons (pv 0) pa_nil)) (pv 1) (nomark _)) (pss_one (ps_ret (pe_glob (v := .ref T.k_ZERO) (by rfl) T.g_ZERO rfl))) pss_nil)
      (pss_cons (ps_set (i := 2) sc_threshold.nd rfl (by first | exact Or.inl rfl | exact Or.inr rfl) (pe_call (ok_common_denominator T) (hr.mono (by decide)) (by rfl) T.g_common_denominator T.F_common_denominator.kp T.b_common_denominator .nil pass0 (pa_cons (pv 0) pa_nil)))
      (pss_cons (ps_set (i := 3) sc_threshold.nd rfl (by first | exact Or.inl rfl | exact Or.inr rfl) (pe_callB cr_sorted (by rfl) T.z_sorted (by decide +kernel) (pa_cons (pe_call (ok_scaled T) (hr.mono (by decide)) (by rfl) T.g_scaled T.F_scaled.kp T.b_scaled .nil pass0 (pa_cons (pv 0) (pa_cons (pv 2) pa_nil))) pa_nil)))
      (pss_cons (ps_set (i := 4) sc_threshold.nd rfl (by first | exact Or.inl rfl | exact Or.inr rfl) (pe_callB (cr_sum rfl) (by rfl) T.z_sum (by decide +kernel) (pa_cons (pv 3) pa_nil)))
      (pss_cons (ps_set (i := 5) sc_threshold.nd rfl (by first | exact Or.inl rfl | exact Or.inr rfl) (pv 1))
      (pss_cons (ps_while PassesOwn.never (pt_cmpR op_gt (pe_op op_mulW (pe_ix ix_list (pv 3) (pe_un un_neg pe_int) (fun _ _ => rfl)) (pv 5)) (pv 4) (nomark _)) (pss_cons (ps_aug (i := 5) sc_threshold.nd rfl (by first | exact Or.inl rfl | exact Or.inr rfl) pe_int ip_sub)
      (pss_one (ps_aug (i := 4) sc_threshold.nd rfl (by first | exact Or.inl rfl | exact Or.inr rfl) (pe_bm0 PySem.F.plainAttrs_list PySem.F.slot_list_pop PySem.F.type_list_pop mt_pop (pv 3)) ip_sub))))
      (pss_one (ps_ret (pe_call (ok_lowest T) (hr.mono (by decide)) (by rfl) T.g_lowest T.F_lowest.kp T.b_lowest .nil passL (pa_cons (pv 4) (pa_cons (pe_op op_mulW (pv 5) (pv 2)) pa_nil))))))))))), ?_⟩
    walk_at "z0"
    walk_at "z"
    refine Z.lenL hS ?_
    rw [List.length_map, hF.len]
    walk_at "z"
    refine Z.ite (fun h1 => ?_) (fun h1 => ?_)
    · walk_at "z"
      refine q H T.k_ZERO (0, 1) (Kp.refl _) (T.q_ZERO H) low_zero ⟨Nat.pos_of_ne_zero (by simp), Nat.one_lt_two_pow (by omega)⟩ ⟨fun _ => rv_zero, fun h2 => ?_⟩
      rw [List.length_map] at h2
      omega
    · have hn : size < fs.length := by omega
      have hden : ∀ f ∈ fs, 1 ≤ f.2.natAbs ∧ f.2.natAbs < 2 ^ m := fun f hf => (hB f hf).den
      obtain ⟨hC1, hC2⟩ := comm_lt hden
      have hC3 : comm fs ≤ 2 ^ (m * k) := Nat.le_trans hC2 (Nat.pow_le_pow_right (by decide) (Nat.mul_le_mul_left m hl))
      walk_at "z"
      refine ⟨a, as, fs, rfl, hS, hF, hden, hl, ?_⟩
      walk_at "z"
      refine ⟨a, as, fs, (comm fs : Int), rfl, hS, hF, fun f hf => ⟨(hB f hf).1, (hB f hf).2.2.mono (by omega)⟩, by omega, by rw [Int.natAbs_natCast]; exact Nat.lt_of_le_of_lt hC3 (Nat.pow_lt_pow_right (by decide) (by omega)), fun H1 p np k1 e1 => ?_⟩
      walk_at "z"
      refine ⟨p, _, rfl, lstL e1, by rw [List.length_map]; omega, fun xs sp hperm hsort nsp => ?_⟩
      have k2 : Kp [] H1 (upd H1 sp (.lst (xs.map V.int))) := Kp.new nsp
      have e2 : upd H1 sp (.lst (xs.map V.int)) sp = some (.lst (xs.map V.int)) := upd_same
      generalize upd H1 sp (.lst (xs.map V.int)) = H2 at k2 e2 ⊢
      have hxl : xs.length = fs.length := by rw [hperm.length_eq, List.length_map]
      have hnsp : H sp = none := k1.none nin0 nsp
      have hxp : ∀ x ∈ xs, 0 < x ∧ x.natAbs < 2 ^ (m * k + m) := by
        intro x hx
        obtain ⟨f, hf, rfl⟩ := List.mem_map.mp ((hperm.mem_iff).mp hx)
        refine ⟨scl1_pos hC1 (hB f hf).1 (hB f hf).2.1 (comm_dvd hf), ?_⟩
        unfold scl1
        rw [Int.natAbs_mul, Nat.pow_add, Nat.mul_comm]
        have h2 := fdiv_abs (a := (comm fs : Int)) (hB f hf).1
        rw [Int.natAbs_natCast] at h2
        have h3 := (hB f hf).2.2.1
        exact Nat.lt_of_le_of_lt (Nat.mul_le_mul_right _ (Nat.le_trans h2 hC3)) (Nat.mul_lt_mul_of_pos_left h3 (Nat.two_pow_pos _))
      walk_at "z"
      refine Z.sumL (lstL e2) ?_
      walk_at "z"
      refine Z.wh (fun mm σ' H' => ∃ (ys zs : List Int) (pl : Nat), mm = ys.length ∧ σ' = [some (.ref a), some (.int (size : Int)), some (.int (comm fs : Int)), some (.ref sp), some (.int ys.sum), some (.int (pl : Int))] ∧ Kp [] H H' ∧ H' sp = some (.lst (ys.map V.int)) ∧ ys ++ zs = xs ∧ 1 ≤ pl ∧ pl + zs.length = size ∧ ∀ z ∈ zs, ys.sum < z * (pl : Int)) xs.length ⟨xs, [], size, rfl, rfl, k1.trans k2, e2, by simp, hs1, by simp, by simp⟩ ?_
      rintro mm σ' H3 ⟨ys, zs, pl, rfl, rfl, k3, e3, hxy, hpl, hps, hz⟩
      have hlen : ys.length + zs.length = xs.length := by rw [← hxy, List.length_append]
      obtain ⟨ys', y, rfl⟩ : ∃ ys' y, ys = ys' ++ [y] := by
        have hne : ys ≠ [] := fun z => by rw [z] at hlen; simp at hlen; omega
        exact ⟨ys.dropLast, ys.getLast hne, (List.dropLast_concat_getLast hne).symm⟩
      have hyx : ∀ z ∈ ys' ++ [y], z ∈ xs := fun z h => by rw [← hxy]; exact List.mem_append_left _ h
      have hy := hxp y (hyx y (by simp))
      have hys : 0 ≤ ys'.sum := sum_nonneg fun z h => by have := (hxp z (hyx z (by simp [h]))).1; omega
      have esum : (ys' ++ [y]).sum = ys'.sum + y := by rw [List.sum_append]; simp
      have e3' : H3 sp = some (.lst (ys'.map V.int ++ [V.int y])) := by rw [e3, List.map_append]; rfl
      have hsort2 : (ys' ++ [y]).Pairwise (· ≤ ·) := by
        have := hsort
        rw [← hxy] at this
        exact (List.pairwise_append.mp this).1
      have hle : ∀ z ∈ ys', z ≤ y := fun z h => (List.pairwise_append.mp hsort2).2.2 z h y (by simp)
      have hplB : ((pl : Int)).natAbs < 2 ^ (m * k + m + 7) := by
        rw [Int.natAbs_natCast]
        refine Nat.lt_of_lt_of_le (show pl < 2 ^ 7 by omega) (Nat.pow_le_pow_right (by decide) (by omega))
      walk_at "z"
      refine Z.ixL (lstL e3') (atI_last _ _) ?_
      walk_at "z"
      refine Z.iC (mul_ok (n := m * k + m + 7) (up_B hy.2 (by omega)) hplB) ?_
      walk_at "z"
      refine Z.ite (fun h2 => ?_) (fun h2 => ?_)
      · refine Z.whb ?_
        have hpl2 : 2 ≤ pl := by
          refine Decidable.byContradiction fun z => ?_
          have : pl = 1 := by omega
          subst this
          rw [esum] at h2
          omega
        walk_at "z"
        refine ⟨Z.tyL e3', ?_⟩
        refine Z.popS e3' ?_
        walk_at "z"
        have ecast : ((pl - 1 : Nat) : Int) = (pl : Int) - 1 := by omega
        refine ⟨ys'.length, by simp, ys', y :: zs, pl - 1, rfl, ?_, k3.mut hnsp rfl, upd_same, by rw [← hxy]; simp, by omega, by simp; omega, ?_⟩
        · have e9 : (ys' ++ [y]).sum - y = ys'.sum := by rw [esum]; omega
          rw [← ecast]
          exact congrArg (fun z : Int => [some (V.ref a), some (V.int (size : Int)), some (V.int (comm fs : Int)), some (V.ref sp), some (V.int z), some (V.int ((pl - 1 : Nat) : Int))]) e9
        · have hyy : ys'.sum < y * ((pl - 1 : Nat) : Int) := by
            rw [esum] at h2
            rw [ecast, Int.mul_sub, Int.mul_one]
            omega
          intro z hz2
          rcases List.mem_cons.mp hz2 with rfl | hz2
          · exact hyy
          · have hyz : y ≤ z := by
              have := hsort
              rw [← hxy] at this
              exact (List.pairwise_append.mp this).2.2 y (by simp) z hz2
            exact Int.lt_of_lt_of_le hyy (Int.mul_le_mul_of_nonneg_right hyz (by omega))
      · walk_at "z"
        have hC4 : ((comm fs : Int)).natAbs < 2 ^ (m * k + m + 7) := by
          rw [Int.natAbs_natCast]
          exact Nat.lt_of_le_of_lt hC3 (Nat.pow_lt_pow_right (by decide) (by omega))
        have hq0 : (pl : Int) * (comm fs : Int) ≠ 0 := Int.mul_ne_zero (by omega) (by omega)
        refine Z.iC (mul_ok (n := m * k + m + 7) hplB hC4) ?_
        have hq1 : ((pl : Int) * (comm fs : Int)).natAbs < 2 ^ (m * k + 7) := by
          rw [Int.natAbs_mul, Int.natAbs_natCast, Int.natAbs_natCast, Nat.add_comm (m * k) 7, Nat.pow_add]
          exact Nat.lt_of_lt_of_le (Nat.mul_lt_mul_of_pos_right (show pl < 2 ^ 7 by omega) (by omega)) (Nat.mul_le_mul_left _ hC3)
        have hsumB : (ys' ++ [y]).sum.natAbs < 2 ^ (m * (k + 1) + 7) := by
          have h3 := sum_abs_lt (n := m * k + m) (l := ys' ++ [y]) fun z h => (hxp z (hyx z h)).2
          rw [hmk2, Nat.add_comm _ 7, Nat.pow_add]
          exact Nat.lt_of_le_of_lt h3 (Nat.mul_lt_mul_of_pos_right (show _ < 2 ^ 7 by omega) (Nat.two_pow_pos _))
        refine ⟨_, _, rfl, up_B hq1 (by omega), fun z => absurd z hq0, fun _ H4 b nb k4 e4 => ?_⟩
        refine q H4 b _ (k3.trans k4) e4 (lo_low hq0) (lo_B hq0 hsumB (up_B hq1 (by omega))) ?_
        have ht := thr_of (xs0 := fs.map (scl1 (comm fs : Int))) (ys := ys' ++ [y]) (zs := zs) (C := comm fs) (pl := pl) (size := size) hC1 hpl (by rw [hxy]; exact hperm) (by rw [esum]; omega) hz (fun z h => ?_) hps (by rw [List.length_map]; exact hn)
        · rw [rv_lo hq0]
          have e5 : (((pl : Int) * (comm fs : Int) : Int) : Rat) = (pl : Rat) * (comm fs : Rat) := by exact_mod_cast rfl
          rw [e5]
          rw [List.map_map] at ht
          have e6 : fs.map rv = fs.map ((fun x : Int => (x : Rat) / (comm fs : Rat)) ∘ scl1 (comm fs : Int)) := List.map_congr_left fun f hf => rv_scl hC1 (hB f hf).1 (comm_dvd hf)
          rw [e6]
          exact ht
        · have hzy : z ≤ y := by
            rcases List.mem_append.mp h with h | h
            · exact hle z h
            · rw [List.mem_singleton.mp h]; exact Int.le_refl _
          exact Int.le_trans (Int.mul_le_mul_of_nonneg_right hzy (by omega)) (by omega)

def spLawSum (K : PySem.W.Frag) (m k : Nat) : Sp := fun vs H Q _ => ∃ (a : Addr) (as : List Addr) (fs : List Fr), vs = [.ref a] ∧ SqL K H a (as.map V.ref) ∧ FrsAt K H as fs ∧ (∀ f ∈ fs, 1 ≤ f.2 ∧ FrB m f) ∧ fs.length ≤ k ∧ ∀ H' c, Kp [] H H' → FrAt K H' c (fsum (0, 1) fs) → Q (.ref c) H'
theorem ok__law_sum_any {P : Program} {w : World} {K : PySem.W.Frag} {mg : Str → Option Value} {base : Heap} (T : T P K mg base) (m k : Nat) (hk : k * (m + 1) ≤ 1900) : FnOk P w K mg base CX0 3 T.a__law_sum T.fd__law_sum ["rows"] (spLawSum K m k) := by
  refine T.F__law_sum.ok sc__law_sum (fun vs H Q E h => ?_) (fun cdv A outer s H vs Q E hr h => ?_)
  · obtain ⟨a, as, fs, rfl, _⟩ := h
    rfl
  · obtain ⟨a, as, fs, rfl, hS, hF, hB, hl, q⟩ := h
    refine ⟨_, (pss_cons (ps_set (i := 1) sc__law_sum.nd rfl (by first | exact Or.inl rfl | exact Or.inr rfl) (pe_tup (pa_cons pe_int (pa_cons pe_int pa_nil))))
      (pss_cons (ps_for PassesOwn.never rfl (pi_list (pv 0)) (pg_name (i := 2) sc__law_sum.nd rfl (by first | exact Or.inl rfl | exact Or.inr rfl)) (pss_one (ps_set (i := 1) sc__law_sum.nd rfl (by first | exact Or.inl rfl | exact Or.inr rfl) (pe_call (ok__law_plus T) (hr.mono (by decide)) (by rfl) T.g__law_plus T.F__law_plus.kp T.b__law_plus .nil pass0 (pa_cons (pv 1) (pa_cons (pv 2) pa_nil))))))
      (pss_one (ps_ret (pv 1))))), ?_⟩
    walk_at "z0"
    walk_at "z"
    refine Z.tupK (fun b H1 nb k1 e1 => ?_)
    walk_at "z"
    refine Z.forl (as.map V.ref) (k1.seq nin0 hS) (fun i σ' H' => ∃ c y, σ' = [some (.ref a), some (.ref c), y] ∧ Kp [] H H' ∧ FrAt K H' c (fsum (0, 1) (fs.take i))) ?_ ?_ ?_ ?_
    · exact ⟨b, none, rfl, k1, tupT e1⟩
    · rintro i σ' H' _ ⟨c, y, rfl, k2, _⟩
      exact k2.seq nin0 hS
    · rintro i v σ' H' hv ⟨c, y, rfl, k2, e2⟩
      obtain ⟨x, f, rfl, hf, hx⟩ := (hF.kp0 k2).get hv
      have hfB := hB f (List.mem_of_getElem? hf)
      have hB1 := fsum_B (fs := fs.take i) (t := (0, 1)) (n := 1) (m := m) ⟨by decide, by decide⟩ (by decide) fun g hg => ⟨(hB g (List.mem_of_mem_take hg)).2, by have := (hB g (List.mem_of_mem_take hg)).1; omega⟩
      have hlow := rv_fsum (fs := fs.take i) low_zero fun g hg => by have := (hB g (List.mem_of_mem_take hg)).1; omega
      have hi : i < fs.length := (List.getElem?_eq_some_iff.mp hf).1
      have hle : 1 + (fs.take i).length * (m + 1) + m ≤ 1900 := by
        have h1 : (fs.take i).length + 1 ≤ k := by rw [List.length_take]; omega
        have h2 := Nat.mul_le_mul_right (m + 1) h1
        rw [Nat.add_mul, Nat.one_mul] at h2
        omega
      walk_at "z"
      refine ⟨c, x, _, f, rfl, e2, hx, hlow.2.1, hfB.1, ⟨_, _, hB1.1, hfB.2, hle⟩, fun H3 d nd k3 e3 => ?_⟩
      walk_at "z"
      exact ⟨d, _, rfl, k2.trans k3, by rw [fsum_take hf]; exact e3⟩
    · rintro σ' H' ⟨c, y, rfl, k2, e2⟩
      walk_at "z"
      rw [List.length_map, hF.len, List.take_length] at e2
      exact q _ _ k2 e2

/-! sums with told bounds -/
def spLawSumG (K : PySem.W.Frag) : Sp := fun vs H Q _ => ∃ (a : Addr) (as : List Addr) (fs : List Fr), vs = [.ref a] ∧ SqL K H a (as.map V.ref) ∧ FrsAt K H as fs ∧ (∀ f ∈ fs, 1 ≤ f.2 ∧ FrB 900 f) ∧ (∀ i, FrB 900 (fsum (0, 1) (fs.take i))) ∧ ∀ H' c, Kp [] H H' → FrAt K H' c (fsum (0, 1) fs) → Q (.ref c) H'
theorem ok__law_sum {P : Program} {w : World} {K : PySem.W.Frag} {mg : Str → Option Value} {base : Heap} (T : T P K mg base) : FnOk P w K mg base CX0 3 T.a__law_sum T.fd__law_sum ["rows"] (spLawSumG K) := by
  refine T.F__law_sum.ok sc__law_sum (fun vs H Q E h => ?_) (fun cdv A outer s H vs Q E hr h => ?_)
  · obtain ⟨a, as, fs, rfl, _⟩ := h
    rfl
  · obtain ⟨a, as, fs, rfl, hS, hF, hB, hP, q⟩ := h
    refine ⟨_, (pss_cons (ps_set (i := 1) sc__law_sum.nd rfl (by first | exact Or.inl rfl | exact Or.inr rfl) (pe_tup (pa_cons pe_int (pa_cons pe_int pa_nil))))
      (pss_cons (ps_for PassesOwn.never rfl (pi_list (pv 0)) (pg_name (i := 2) sc__law_sum.nd rfl (by first | exact Or.inl rfl | exact Or.inr rfl)) (pss_one (ps_set (i := 1) sc__law_sum.nd rfl (by first | exact Or.inl rfl | exact Or.inr rfl) (pe_call (ok__law_plus T) (hr.mono (by decide)) (by rfl) T.g__law_plus T.F__law_plus.kp T.b__law_plus .nil pass0 (pa_cons (pv 1) (pa_cons (pv 2) pa_nil))))))
      (pss_one (ps_ret (pv 1))))), ?_⟩
    walk_at "z0"
    walk_at "z"
    refine Z.tupK (fun b H1 nb k1 e1 => ?_)
    walk_at "z"
    refine Z.forl (as.map V.ref) (k1.seq nin0 hS) (fun i σ' H' => ∃ c y, σ' = [some (.ref a), some (.ref c), y] ∧ Kp [] H H' ∧ FrAt K H' c (fsum (0, 1) (fs.take i))) ?_ ?_ ?_ ?_
    · exact ⟨b, none, rfl, k1, tupT e1⟩
    · rintro i σ' H' _ ⟨c, y, rfl, k2, _⟩
      exact k2.seq nin0 hS
    · rintro i v σ' H' hv ⟨c, y, rfl, k2, e2⟩
      obtain ⟨x, f, rfl, hf, hx⟩ := (hF.kp0 k2).get hv
      have hfB := hB f (List.mem_of_getElem? hf)
      have hlow := rv_fsum (fs := fs.take i) low_zero fun g hg => by have := (hB g (List.mem_of_mem_take hg)).1; omega
      walk_at "z"
      refine ⟨c, x, _, f, rfl, e2, hx, hlow.2.1, hfB.1, ⟨900, 900, hP i, hfB.2, by decide⟩, fun H3 d nd k3 e3 => ?_⟩
      walk_at "z"
      exact ⟨d, _, rfl, k2.trans k3, by rw [fsum_take hf]; exact e3⟩
    · rintro σ' H' ⟨c, y, rfl, k2, e2⟩
      walk_at "z"
      rw [List.length_map, hF.len, List.take_length] at e2
      exact q _ _ k2 e2

theorem castNe {n : Nat} (h : 1 ≤ n) : (n : Rat) ≠ 0 := by
  have : (0 : Rat) < (n : Rat) := by exact_mod_cast h
  grind
/-! ### common denominators -/
def DenB (D n : Nat) (x : Rat) : Prop := ∃ z : Int, x * (D : Rat) = (z : Rat) ∧ z.natAbs ≤ 2 ^ n
theorem DenB.mono {D n m : Nat} {x : Rat} (h : DenB D n x) (l : n ≤ m) : DenB D m x := let ⟨z, h1, h2⟩ := h; ⟨z, h1, Nat.le_trans h2 (Nat.pow_le_pow_right (by decide) l)⟩
theorem DenB.add {D n : Nat} {x y : Rat} (h : DenB D n x) (g : DenB D n y) : DenB D (n + 1) (x + y) := by
  obtain ⟨z, h1, h2⟩ := h
  obtain ⟨t, g1, g2⟩ := g
  refine ⟨z + t, ?_, ?_⟩
  · have e : ((z + t : Int) : Rat) = (z : Rat) + (t : Rat) := by exact_mod_cast rfl
    rw [e, ← h1, ← g1]; grind
  · rw [Nat.pow_succ]; omega
theorem DenB.neg {D n : Nat} {x : Rat} (h : DenB D n x) : DenB D n (-x) := by
  obtain ⟨z, h1, h2⟩ := h
  refine ⟨-z, ?_, by omega⟩
  have e : ((-z : Int) : Rat) = -(z : Rat) := by exact_mod_cast rfl
  rw [e, ← h1]; grind
theorem DenB.sub {D n : Nat} {x y : Rat} (h : DenB D n x) (g : DenB D n y) : DenB D (n + 1) (x - y) := by
  have := h.add g.neg
  rw [show x - y = x + -y by grind]
  exact this
theorem DenB.mul {D E n m : Nat} {x y : Rat} (h : DenB D n x) (g : DenB E m y) : DenB (D * E) (n + m) (x * y) := by
  obtain ⟨z, h1, h2⟩ := h
  obtain ⟨t, g1, g2⟩ := g
  refine ⟨z * t, ?_, ?_⟩
  · have e : ((z * t : Int) : Rat) = (z : Rat) * (t : Rat) := by exact_mod_cast rfl
    have e2 : ((D * E : Nat) : Rat) = (D : Rat) * (E : Rat) := by exact_mod_cast rfl
    rw [e, e2, ← h1, ← g1]; grind
  · rw [Int.natAbs_mul, Nat.pow_add]
    exact Nat.mul_le_mul h2 g2
theorem DenB.int {D d n : Nat} {z : Int} (hD : D ≤ 2 ^ d) (h : z.natAbs ≤ 2 ^ n) : DenB D (n + d) (z : Rat) := by
  refine ⟨z * (D : Int), by exact_mod_cast rfl, ?_⟩
  rw [Int.natAbs_mul, Int.natAbs_natCast, Nat.pow_add]
  exact Nat.mul_le_mul h hD
theorem DenB.up {D E n e : Nat} {x : Rat} (h : DenB D n x) (hE : E ≤ 2 ^ e) : DenB (D * E) (n + e) x := by
  obtain ⟨z, h1, h2⟩ := h
  refine ⟨z * (E : Int), ?_, ?_⟩
  · have e : ((z * (E : Int) : Int) : Rat) = (z : Rat) * (E : Rat) := by exact_mod_cast rfl
    have e2 : ((D * E : Nat) : Rat) = (D : Rat) * (E : Rat) := by exact_mod_cast rfl
    rw [e, e2, ← h1]; grind
  · rw [Int.natAbs_mul, Int.natAbs_natCast, Nat.pow_add]
    exact Nat.mul_le_mul h2 hE
theorem DenB.div6 {D n k : Nat} {x : Rat} (h : DenB D n x) (hk : k = 1 ∨ k = 2 ∨ k = 3 ∨ k = 6) : DenB (D * 6) (n + 3) (x / (k : Rat)) := by
  obtain ⟨z, h1, h2⟩ := h
  obtain ⟨q, hq, hq6⟩ : ∃ q : Nat, k * q = 6 ∧ q ≤ 6 := by
    rcases hk with rfl | rfl | rfl | rfl
    · exact ⟨6, rfl, by decide⟩
    · exact ⟨3, rfl, by decide⟩
    · exact ⟨2, rfl, by decide⟩
    · exact ⟨1, rfl, by decide⟩
  refine ⟨z * (q : Int), ?_, ?_⟩
  · have e : ((z * (q : Int) : Int) : Rat) = (z : Rat) * (q : Rat) := by exact_mod_cast rfl
    have e2 : ((D * 6 : Nat) : Rat) = (D : Rat) * ((k : Rat) * (q : Rat)) := by rw [← hq]; exact_mod_cast rfl
    have hk0 := castNe (n := k) (by omega)
    rw [e, e2, ← h1]; grind
  · rw [Int.natAbs_mul, Int.natAbs_natCast, Nat.pow_add]
    exact Nat.mul_le_mul h2 (Nat.le_trans hq6 (by decide))
theorem DenB.sum3 {D n : Nat} : ∀ {l : List Rat}, l.length ≤ 3 → (∀ x ∈ l, DenB D n x) → DenB D (n + 2) l.sum
  | [], _, _ => ⟨0, by show (0 : Rat) * _ = ((0 : Int) : Rat); grind, by simp⟩
  | [a], _, h => by
    rw [show [a].sum = a by show a + 0 = a; grind]
    exact (h a (by simp)).mono (by omega)
  | [a, b], _, h => by
    rw [show [a, b].sum = a + b by show a + (b + 0) = a + b; grind]
    exact ((h a (by simp)).add (h b (by simp))).mono (by omega)
  | [a, b, c], _, h => by
    rw [show [a, b, c].sum = (a + b) + c by show a + (b + (c + 0)) = _; grind]
    exact ((h a (by simp)).add (h b (by simp))).add ((h c (by simp)).mono (by omega))
  | _ :: _ :: _ :: _ :: r, h, _ => by simp at h
theorem DenB.sumN {D n : Nat} : ∀ {l : List Rat}, (∀ x ∈ l, DenB D n x) → ∃ z : Int, l.sum * (D : Rat) = (z : Rat) ∧ z.natAbs ≤ l.length * 2 ^ n
  | [], _ => ⟨0, by show (0 : Rat) * _ = ((0 : Int) : Rat); grind, by simp⟩
  | a :: r, h => by
    obtain ⟨z, h1, h2⟩ := h a (by simp)
    obtain ⟨t, g1, g2⟩ := DenB.sumN (l := r) fun x hx => h x (by simp [hx])
    refine ⟨z + t, ?_, ?_⟩
    · have e : ((z + t : Int) : Rat) = (z : Rat) + (t : Rat) := by exact_mod_cast rfl
      rw [List.sum_cons, e, ← h1, ← g1]; grind
    · rw [List.length_cons, Nat.add_mul]; omega
theorem DenB.sum64 {D n : Nat} {l : List Rat} (hl : l.length ≤ 64) (h : ∀ x ∈ l, DenB D n x) : DenB D (n + 6) l.sum := by
  obtain ⟨z, h1, h2⟩ := DenB.sumN h
  refine ⟨z, h1, Nat.le_trans h2 ?_⟩
  rw [Nat.pow_add, Nat.mul_comm]
  exact Nat.mul_le_mul (Nat.le_refl _) (Nat.le_trans hl (by decide))
/-- what a common denominator says of a fraction in lowest terms -/
theorem den_B {D n d k : Nat} {f : Fr} (hL : Low f) (h : DenB D n (rv f)) (hD1 : 1 ≤ D) (hD : D ≤ 2 ^ d) (hd : d < k) (hn : n < k) : FrB k f := by
  obtain ⟨z, h1, h2⟩ := h
  obtain ⟨p, q⟩ := f
  have hq1 : 1 ≤ q := hL.1
  have hco : Nat.gcd p.natAbs q.natAbs = 1 := hL.2
  have hq0 : (q : Rat) ≠ 0 := ratNe (by omega)
  have e : p * (D : Int) = z * q := by
    have : (p : Rat) * (D : Rat) = (z : Rat) * (q : Rat) := by
      rw [← h1]; unfold rv; grind
    exact_mod_cast this
  have e2 : p.natAbs * D = z.natAbs * q.natAbs := by
    have := congrArg Int.natAbs e
    rwa [Int.natAbs_mul, Int.natAbs_mul, Int.natAbs_natCast] at this
  have hdv : q.natAbs ∣ D := by
    have h3 : q.natAbs ∣ p.natAbs * D := ⟨z.natAbs, by rw [e2, Nat.mul_comm]⟩
    exact Nat.Coprime.dvd_of_dvd_mul_left (show Nat.Coprime q.natAbs p.natAbs from (Nat.gcd_comm _ _).trans hco) h3
  obtain ⟨c, hc⟩ := hdv
  have hc1 : 1 ≤ c := by
    rcases Nat.eq_zero_or_pos c with z | z
    · rw [z] at hc; omega
    · exact z
  have hp : p.natAbs ≤ z.natAbs := by
    rw [hc, ← Nat.mul_assoc, Nat.mul_right_comm] at e2
    have h5 : p.natAbs * c = z.natAbs := Nat.eq_of_mul_eq_mul_right (show 0 < q.natAbs by omega) e2
    rw [← h5]
    exact Nat.le_mul_of_pos_right _ hc1
  have hq : q.natAbs ≤ D := Nat.le_of_dvd hD1 ⟨c, hc⟩
  exact ⟨Nat.lt_of_le_of_lt hp (Nat.lt_of_le_of_lt h2 (Nat.pow_lt_pow_right (by decide) hn)), Nat.lt_of_le_of_lt hq (Nat.lt_of_le_of_lt hD (Nat.pow_lt_pow_right (by decide) hd))⟩
/-! products of a list -/
def prodN : List Nat → Nat
  | [] => 1
  | x :: r => x * prodN r
theorem prodN_le {b : Nat} : ∀ {l : List Nat}, (∀ x ∈ l, 1 ≤ x ∧ x ≤ 2 ^ b) → 1 ≤ prodN l ∧ prodN l ≤ 2 ^ (b * l.length)
  | [], _ => by simp [prodN]
  | x :: r, h => by
    have h1 := h x (by simp)
    have h2 := prodN_le (l := r) fun z hz => h z (by simp [hz])
    refine ⟨Nat.mul_le_mul h1.1 h2.1, ?_⟩
    show x * prodN r ≤ _
    rw [List.length_cons, Nat.mul_add, Nat.mul_one, Nat.add_comm, Nat.pow_add]
    exact Nat.mul_le_mul h1.2 h2.2
theorem prodN_mem : ∀ {l : List Nat} {x : Nat}, x ∈ l → ∃ c, prodN l = x * c
  | [], _, h => by cases h
  | y :: r, x, h => by
    rcases List.mem_cons.mp h with rfl | h
    · exact ⟨prodN r, rfl⟩
    · obtain ⟨c, hc⟩ := prodN_mem h
      exact ⟨y * c, by show y * prodN r = _; rw [hc]; exact Nat.mul_left_comm _ _ _⟩
/-- p / x, where x divides D -/
theorem den_frac {D d n : Nat} {p x : Int} {c : Nat} (hx : 1 ≤ x) (hD : D = x.natAbs * c) (hD1 : 1 ≤ D) (hDd : D ≤ 2 ^ d) (hp : p.natAbs ≤ 2 ^ n) : DenB D (n + d) ((p : Rat) / (x : Rat)) := by
  refine ⟨p * (c : Int), ?_, ?_⟩
  · have e : ((p * (c : Int) : Int) : Rat) = (p : Rat) * (c : Rat) := by exact_mod_cast rfl
    have hx0 : (x : Rat) ≠ 0 := ratNe (by omega)
    have e2 : (D : Rat) = (x : Rat) * (c : Rat) := by
      have : (D : Int) = x * (c : Int) := by
        rw [hD, Int.natCast_mul]
        congr 1
        omega
      exact_mod_cast this
    rw [e, e2]; grind
  · rw [Int.natAbs_mul, Int.natAbs_natCast, Nat.pow_add]
    refine Nat.mul_le_mul hp (Nat.le_trans ?_ hDd)
    rw [hD]
    exact Nat.le_mul_of_pos_left _ (by omega)

/-! ### the law's own threshold, for fractions -/
section thr36
variable {K : PySem.W.Frag}
open LamX LamK LamQ
structure OkF (f : Fr) : Prop where
  low : Low f
  pos : 0 < f.1
  B : FrB 40 f
theorem key_lt {p1 q1 p2 q2 : Int} (h1 : 1 ≤ q1) (h2 : 1 ≤ q2) (b1 : q1 < 2 ^ 40) (b2 : q2 < 2 ^ 40) (h : p1 * q2 < p2 * q1) : qKey p1 q1 < qKey p2 q2 := by
  unfold qKey
  rw [show max 1 q1 = q1 by omega, show max 1 q2 = q2 by omega]
  have hN : (10 : Int) ^ 30 = 1000000000000000000000000000000 := by decide
  rw [hN]
  have ha : p1 * 1000000000000000000000000000000 / q1 * q1 ≤ p1 * 1000000000000000000000000000000 := Int.ediv_mul_le _ (by omega)
  generalize p1 * 1000000000000000000000000000000 / q1 = a at ha ⊢
  rw [Int.lt_iff_add_one_le]
  rw [Int.le_ediv_iff_mul_le (by omega)]
  have hq : q1 * q2 ≤ 1099511627776 * 1099511627776 := Int.mul_le_mul (by omega) (by omega) (by omega) (by decide)
  have e1 : a * q1 * q2 ≤ p1 * 1000000000000000000000000000000 * q2 := Int.mul_le_mul_of_nonneg_right ha (by omega)
  have e2 : (p1 * q2 + 1) * 1000000000000000000000000000000 ≤ p2 * q1 * 1000000000000000000000000000000 := Int.mul_le_mul_of_nonneg_right (by omega) (by decide)
  refine Int.le_of_mul_le_mul_left (a := q1) ?_ (by omega)
  have e3 : q1 * ((a + 1) * q2) = a * q1 * q2 + q1 * q2 := by grind
  have e4 : q1 * (p2 * 1000000000000000000000000000000) = p2 * q1 * 1000000000000000000000000000000 := by grind
  have e5 : p1 * 1000000000000000000000000000000 * q2 = p1 * q2 * 1000000000000000000000000000000 := by grind
  rw [e3, e4]
  rw [e5] at e1
  generalize a * q1 * q2 = A at *
  generalize p1 * q2 = B at *
  generalize p2 * q1 = C at *
  generalize q1 * q2 = D at *
  omega
theorem key_rv {f g : Fr} (hf : OkF f) (hg : OkF g) (h : qKey f.1 f.2 ≤ qKey g.1 g.2) : rv f ≤ rv g := by
  by_cases z : rv f ≤ rv g
  · exact z
  · have h1 := (rv_lt hg.low.1 hf.low.1).mpr (by grind)
    have f1 := hf.low.1
    have g1 := hg.low.1
    have fB := hf.B.2
    have gB := hg.B.2
    have := key_lt (p1 := g.1) (q1 := g.2) (p2 := f.1) (q2 := f.2) g1 f1 (by omega) (by omega) h1
    omega
def leF (x y : Addr × Fr) : Bool := PySem.W.dataLe false (fun t : Addr × Fr => PyData.int (qKey t.2.1 t.2.2)) x y
theorem leF_iff (x y : Addr × Fr) : leF x y = true ↔ qKey x.2.1 x.2.2 ≤ qKey y.2.1 y.2.2 := by
  show (!PyProof.Rows.lexLt PyProof.Rows.itemOrd (PySem.W.keyToks (.int (qKey y.2.1 y.2.2))) (PySem.W.keyToks (.int (qKey x.2.1 x.2.2)))) = true ↔ _
  simp [PySem.W.keyToks, PyProof.Rows.lexLt, PyProof.Rows.itemLt]
def srtF (ts : List (Addr × Fr)) : List (Addr × Fr) := ts.mergeSort leF
theorem srtF_perm (ts : List (Addr × Fr)) : (srtF ts).Perm ts := List.mergeSort_perm _ _
theorem srtF_sorted {ts : List (Addr × Fr)} (hok : ∀ t ∈ ts, OkF t.2) : (srtF ts).Pairwise fun x y => rv x.2 ≤ rv y.2 := by
  have h := List.pairwise_mergeSort (le := leF) (fun a b c h1 h2 => (leF_iff _ _).mpr (Int.le_trans ((leF_iff _ _).mp h1) ((leF_iff _ _).mp h2))) (fun a b => by
    rw [Bool.or_eq_true, leF_iff, leF_iff]
    omega) ts
  refine List.Pairwise.imp_of_mem (fun {a b} ha hb h => ?_) h
  exact key_rv (hok a ((srtF_perm ts).mem_iff.mp ha)) (hok b ((srtF_perm ts).mem_iff.mp hb)) ((leF_iff _ _).mp h)
theorem srtF_refs (ts : List (Addr × Fr)) : ((ts.map fun t => (t.1, PyData.int (qKey t.2.1 t.2.2))).mergeSort (PySem.W.dataLe false Prod.snd)).map (fun b => V.ref b.1) = (srtF ts).map fun t => V.ref t.1 := by
  unfold srtF
  have e := List.map_mergeSort (r := leF) (s := PySem.W.dataLe false Prod.snd) (f := fun t : Addr × Fr => (t.1, PyData.int (qKey t.2.1 t.2.2))) (l := ts) (fun _ _ _ _ => rfl)
  rw [← e, List.map_map]
  rfl
def FsAt (K : PySem.W.Frag) (H : Hp) (ts : List (Addr × Fr)) : Prop := ∀ t ∈ ts, FrAt K H t.1 t.2
def frefs (ts : List (Addr × Fr)) : List V := ts.map fun t => V.ref t.1
theorem frefs_len (ts : List (Addr × Fr)) : (frefs ts).length = ts.length := by unfold frefs; rw [List.length_map]
theorem frefs_eq (ts : List (Addr × Fr)) : frefs ts = (ts.map Prod.fst).map V.ref := by unfold frefs; rw [List.map_map]; rfl
theorem FsAt.ext {H H' : Hp} {ts : List (Addr × Fr)} (h : FsAt K H ts) (e : ExtN H H') : FsAt K H' ts := fun t ht => ext_tup e (h t ht)
theorem FsAt.kp0 {H H' : Hp} {ts : List (Addr × Fr)} (h : FsAt K H ts) (k : Kp [] H H') : FsAt K H' ts := fun t ht => (h t ht).kp0 k
theorem FsAt.frs {H : Hp} : ∀ {ts : List (Addr × Fr)}, FsAt K H ts → FrsAt K H (ts.map Prod.fst) (ts.map Prod.snd)
  | [], _ => .nil
  | t :: r, h => .cons (h t (by simp)) (FsAt.frs (ts := r) fun x hx => h x (by simp [hx]))
theorem FsAt.keys {H : Hp} {ts : List (Addr × Fr)} (h : FsAt K H ts) (hb : ∀ t ∈ ts, OkF t.2) : KeyRowsQ K H (ts.map fun t => (t.1, PyData.int (qKey t.2.1 t.2.2))) := fun b hb' => by
  obtain ⟨t, ht, rfl⟩ := List.mem_map.mp hb'
  have hB := (hb t ht).B
  have h1 := (hb t ht).low.1
  refine ⟨t.2.1, t.2.2, rfl, IntMulOk.of_left (intBits_le_64 (by have := hB.1; omega) (by have := hB.1; omega)), ?_, h t ht⟩
  rw [show max 1 t.2.2 = t.2.2 by omega]
  have h2 : t.2.2.natAbs.log2 < 40 := (Nat.log2_lt (by omega)).mpr hB.2
  omega
theorem keysOkF (ts : List (Addr × Fr)) : KeyOk ((ts.map fun t => (t.1, PyData.int (qKey t.2.1 t.2.2))).map Prod.snd) := by
  rw [List.map_map]
  refine ⟨PySem.W.AllAlike.of fun _ _ => by simp [PySem.W.alike], .inr fun d hd => ?_⟩
  obtain ⟨t, _, rfl⟩ := List.mem_map.mp hd
  exact ⟨by simp, by simp⟩
/-- the greatest ones stand above -/
def AbvR (S : List Rat) (size i : Nat) : Prop := ∀ z ∈ S.drop (S.length - i), (S.take (S.length - i)).sum < z * ((size - i : Nat) : Rat)
theorem abvR_zero (S : List Rat) (size : Nat) : AbvR S size 0 := fun z hz => by
  rw [Nat.sub_zero, List.drop_length] at hz
  cases hz
theorem takeR_one {S : List Rat} {m : Nat} (h : m < S.length) : S.take (m + 1) = S.take m ++ [S[m]] := by
  rw [List.take_add_one, List.getElem?_eq_getElem h]; rfl
theorem dropR_one {S : List Rat} {m : Nat} (h : m < S.length) : S.drop m = S[m] :: S.drop (m + 1) := List.drop_eq_getElem_cons h
theorem natR_nonneg (n : Nat) : (0 : Rat) ≤ (n : Rat) := by exact_mod_cast Nat.zero_le n
theorem natR_pos {n : Nat} (h : 0 < n) : (0 : Rat) < (n : Rat) := by exact_mod_cast h
theorem abvR_step {S : List Rat} (hs : S.Pairwise (· ≤ ·)) {size i : Nat} (hi : i < size) (hn : size < S.length) (hm : S.length - i - 1 < S.length) (hlt : (S.take (S.length - i)).sum < S[S.length - i - 1] * ((size - i : Nat) : Rat)) : AbvR S size (i + 1) := by
  unfold AbvR
  rw [show S.length - (i + 1) = S.length - i - 1 by omega]
  have et : S.take (S.length - i) = S.take (S.length - i - 1) ++ [S[S.length - i - 1]] := by
    have e := takeR_one hm
    rwa [show S.length - i - 1 + 1 = S.length - i by omega] at e
  rw [et, List.sum_append] at hlt
  generalize S.length - i - 1 = m at hm hlt ⊢
  have e1 : [S[m]].sum = S[m] := by show S[m] + 0 = S[m]; grind
  rw [e1] at hlt
  have e2 : ((size - i : Nat) : Rat) = ((size - (i + 1) : Nat) : Rat) + 1 := by
    rw [show size - i = (size - (i + 1)) + 1 by omega]
    exact_mod_cast rfl
  rw [e2] at hlt
  intro z hz
  have hle : S[m] ≤ z := by
    rw [dropR_one hm] at hz
    rcases List.mem_cons.mp hz with rfl | hz
    · exact Rat.le_refl
    · obtain ⟨j, hj, rfl⟩ := List.mem_iff_getElem.mp hz
      rw [List.getElem_drop]
      exact List.pairwise_iff_getElem.mp hs m (m + 1 + j) hm (by rw [List.length_drop] at hj; omega) (by omega)
  have := Rat.mul_le_mul_of_nonneg_right hle (natR_nonneg (size - (i + 1)))
  grind
theorem sumR_pos : ∀ {l : List Rat}, (∀ w ∈ l, 0 < w) → 0 ≤ l.sum ∧ (l ≠ [] → 0 < l.sum)
  | [], _ => ⟨by show (0 : Rat) ≤ 0; grind, fun h => absurd rfl h⟩
  | a :: r, h => by
    have h1 := h a (by simp)
    have h2 := (sumR_pos (l := r) fun w hw => h w (by simp [hw])).1
    rw [List.sum_cons]
    exact ⟨by grind, fun _ => by grind⟩
theorem abvR_end {S : List Rat} (hp : ∀ w ∈ S, 0 < w) {size : Nat} (h1 : 1 ≤ size) (hn : size < S.length) (h : AbvR S size size) : False := by
  have hm : S.length - size < S.length := by omega
  have := h S[S.length - size] (by rw [dropR_one hm]; exact List.mem_cons_self)
  have h2 := (sumR_pos (l := S.take (S.length - size)) fun w hw => hp w (List.mem_of_mem_take hw)).1
  rw [Nat.sub_self] at this
  have e : ((0 : Nat) : Rat) = 0 := rfl
  rw [e] at this
  grind
theorem thrR_done {ws S : List Rat} (hperm : S.Perm ws) (hs : S.Pairwise (· ≤ ·)) (hp : ∀ w ∈ S, 0 < w) {size i : Nat} (hi : i < size) (hn : size < S.length) (ha : AbvR S size i) (hm : S.length - i - 1 < S.length) (hge : ¬ (S.take (S.length - i)).sum / ((size - i : Nat) : Rat) < S[S.length - i - 1]) :
    Thr ws size ((S.take (S.length - i)).sum / ((size - i : Nat) : Rat)) := by
  have hk : (0 : Rat) < ((size - i : Nat) : Rat) := natR_pos (by omega)
  have hk0 : ((size - i : Nat) : Rat) ≠ 0 := by grind
  refine Thr.perm ⟨fun h => by omega, fun _ => ?_⟩ hperm
  have hpos := (sumR_pos (l := S.take (S.length - i)) fun w hw => hp w (List.mem_of_mem_take hw)).2 fun z => by
    have := congrArg List.length z
    rw [List.length_take, List.length_nil] at this
    omega
  unfold AbvR at ha
  generalize hT : (S.take (S.length - i)).sum / ((size - i : Nat) : Rat) = t at hge ⊢
  have hts : (S.take (S.length - i)).sum = t * ((size - i : Nat) : Rat) := by rw [← hT]; grind
  have ht0 : 0 < t := by
    rw [← hT, Rat.div_def]
    exact Rat.mul_pos hpos (Rat.inv_pos.mpr hk)
  refine ⟨ht0, ?_⟩
  have hlo : cap t (S.take (S.length - i)) = (S.take (S.length - i)).sum := cap_low fun y hy => by
    have hle : y ≤ S[S.length - i - 1] := by
      obtain ⟨j, hj, rfl⟩ := List.mem_iff_getElem.mp hy
      rw [List.getElem_take]
      rw [List.length_take] at hj
      by_cases e : j = S.length - i - 1
      · subst e
        exact Rat.le_refl
      · exact List.pairwise_iff_getElem.mp hs j (S.length - i - 1) (by omega) hm (by omega)
    grind
  have hhi : cap t (S.drop (S.length - i)) = ((S.drop (S.length - i)).length : Rat) * t := cap_all fun z hz => by
    have h1 := ha z hz
    rw [hts] at h1
    by_cases h2 : t ≤ z
    · exact h2
    · have := Rat.mul_lt_mul_of_pos_right (show z < t by grind) hk
      grind
  have e : cap t S = cap t (S.take (S.length - i)) + cap t (S.drop (S.length - i)) := by rw [← cap_app, List.take_append_drop]
  rw [e, hlo, hhi, hts, List.length_drop]
  have e2 : (size : Rat) = ((size - i : Nat) : Rat) + ((S.length - (S.length - i) : Nat) : Rat) := by
    have : size = (size - i) + (S.length - (S.length - i)) := by omega
    exact_mod_cast this
  rw [e2]
  grind
end thr36

/-! ### optimal samples as objects -/
structure Pt where
  t : Addr
  x : Addr × Row
  a : Addr
  f : Fr
structure PtAt (K : PySem.W.Frag) (H : Hp) (p : Pt) : Prop where
  at_ : H p.t = some (.tup [.ref p.x.1, .ref p.a])
  row : RowAt H p.x.1 p.x.2
  fr : FrAt K H p.a p.f
def PtsAt (K : PySem.W.Frag) (H : Hp) (ps : List Pt) : Prop := ∀ p ∈ ps, PtAt K H p
def prefs (ps : List Pt) : List V := ps.map fun p => V.ref p.t
theorem prefs_len (ps : List Pt) : (prefs ps).length = ps.length := by unfold prefs; rw [List.length_map]
theorem prefs_of {ps : List Pt} {i : Nat} {v : V} (h : (prefs ps)[i]? = some v) : ∃ p, ps[i]? = some p ∧ v = .ref p.t := by
  unfold prefs at h
  rw [List.getElem?_map] at h
  cases e : ps[i]? with
  | none => rw [e] at h; cases h
  | some x => rw [e] at h; exact ⟨x, rfl, (Option.some.inj h).symm⟩
theorem PtAt.kp0 {K : PySem.W.Frag} {H H' : Hp} {p : Pt} (h : PtAt K H p) (k : Kp [] H H') : PtAt K H' p := ⟨k.get nin0 h.at_, h.row.kp0 k, h.fr.kp0 k⟩
theorem PtsAt.kp0 {K : PySem.W.Frag} {H H' : Hp} {ps : List Pt} (h : PtsAt K H ps) (k : Kp [] H H') : PtsAt K H' ps := fun p hp => (h p hp).kp0 k
theorem PtAt.kpx {K : PySem.W.Frag} {H H' : Hp} {p : Pt} {x : Addr} {o : HO} (h : PtAt K H p) (k : Kp [x] H H') (e : H x = some o) (n : ∀ xs, o ≠ .tup xs ∧ ∀ u, o ≠ .frz u (.tup xs)) : PtAt K H' p :=
  ⟨k.get (nin1 fun z => by rw [← z] at e; exact (n _).1 (Option.some.inj (e.symm.trans h.at_))) h.at_, k.get (nin1 fun z => by rw [← z] at e; exact (n _).1 (Option.some.inj (e.symm.trans h.row))) h.row, h.fr.kp k fun y hy => by rw [List.mem_singleton.mp hy]; exact NoTup.of e n⟩
def psx (ps : List Pt) : List (Addr × Row) := ps.map Pt.x
def of (size : Int) (a k : Addr) : List (Str × V) := [("size", .int size), ("parts", .ref a), ("kept", .ref k)]
theorem of_mk (size : Int) (a k : Addr) : putF "kept" (.ref k) (putF "parts" (.ref a) (putF "size" (.int size) [])) = of size a k := by
  have n1 : ¬ (("size" : Str) = "parts") := by decide +kernel
  have n2 : ¬ (("size" : Str) = "kept") := by decide +kernel
  have n3 : ¬ (("parts" : Str) = "kept") := by decide +kernel
  have e1 : putF "parts" (.ref a) (putF "size" (.int size) []) = [(("size" : Str), V.int size), (("parts" : Str), V.ref a)] := by
    show (if ("size" : Str) = "parts" then _ else (("size" : Str), V.int size) :: [(("parts" : Str), V.ref a)]) = _
    rw [if_neg n1]
  rw [e1]
  show (if ("size" : Str) = "kept" then _ else (("size" : Str), V.int size) :: (if ("parts" : Str) = "kept" then _ else (("parts" : Str), V.ref a) :: [(("kept" : Str), V.ref k)])) = _
  rw [if_neg n2, if_neg n3]; rfl
theorem of_parts (size : Int) (a k : Addr) : (of size a k).lookup ("parts" : Str) = some (.ref a) := rfl
theorem of_parts1 (size : Int) (a : Addr) : (putF "parts" (.ref a) (putF "size" (.int size) [])).lookup ("parts" : Str) = some (.ref a) := by
  have n1 : ¬ (("size" : Str) = "parts") := by decide +kernel
  have e1 : putF "parts" (.ref a) (putF "size" (.int size) []) = [(("size" : Str), V.int size), (("parts" : Str), V.ref a)] := by
    show (if ("size" : Str) = "parts" then _ else (("size" : Str), V.int size) :: [(("parts" : Str), V.ref a)]) = _
    rw [if_neg n1]
  rw [e1]; rfl
theorem of_kept (size : Int) (a k : Addr) : (of size a k).lookup ("kept" : Str) = some (.ref k) := rfl
structure OptAt (C : Addr) (H : Hp) (x a k : Addr) (size : Int) (ps : List Pt) : Prop where
  ins : ∃ dx, H x = some (.ins C dx (of size a k))
  parts : H a = some (.lst (prefs ps))
  kept : H k = some (.lst (refs (psx ps)))
theorem OptAt.kp0 {C : Addr} {H H' : Hp} {x a k : Addr} {size : Int} {ps : List Pt} (h : OptAt C H x a k size ps) (kk : Kp [] H H') : OptAt C H' x a k size ps := let ⟨⟨dx, h1⟩, h2, h3⟩ := h; ⟨⟨dx, kk.get nin0 h1⟩, kk.get nin0 h2, kk.get nin0 h3⟩
def spOInit (K : PySem.W.Frag) (C : Addr) : Sp := fun vs H Q _ => ∃ (x b dx : Addr) (size : Int) (ps : List Pt), vs = [.ref x, .int size, .ref b] ∧ H x = some (.ins C dx []) ∧ H b = some (.lst (prefs ps)) ∧ PtsAt K H ps ∧ ps.length ≤ 1000 ∧ ∀ H' a k, H a = none → H k = none → Kp [x] H H' → OptAt C H' x a k size ps → Q .non H'
theorem ok_Optimal_init {P : Program} {w : World} {K : PySem.W.Frag} {mg : Str → Option Value} {base : Heap} (T : T P K mg base) : FnOk P w K mg base CX0 1 T.a_Optimal_init T.fd_Optimal_init ["self", "size", "parts"] (spOInit K T.C_Optimal) := by
  refine T.F_Optimal_init.ok sc_Optimal_init (fun vs H Q E h => ?_) (fun cdv A outer s H vs Q E hr h => ?_)
  · obtain ⟨x, b, dx, size, ps, rfl, _⟩ := h
    rfl
  · obtain ⟨x, b, dx, size, ps, rfl, hx, hb, hps, hn, q⟩ := h
    refine ⟨_, (pss_cons (ps_fld (pv 0) (pv 1) rfl)
      (pss_cons (ps_fld (pv 0) (pe_callTy c_list (by rfl) T.z_list (by decide +kernel) (pa_cons (pv 2) pa_nil)) rfl)
      (pss_one (ps_fld (pv 0) (pe_lc (own := [("item", 3), ("adjusted", 4)]) (g := gTup K 2 (gCons (gName 3) (gCons (gName 4) gNil))) rfl sc_Optimal_init.nd (pi_list (pe_fld (pv 0) rfl)) (blkOk_by (own := [("item", 3), ("adjusted", 4)]) (N := N_Optimal_init) (sc := defScope s_Optimal_init) (by decide +kernel)) (fun _ _ _ _ _ => (pg_tup rfl (pgs_cons (pg_name (i := 3) sc_Optimal_init.nd rfl (by first | exact Or.inl rfl | exact Or.inr rfl)) (pgs_cons (pg_name (i := 4) sc_Optimal_init.nd rfl (by first | exact Or.inl rfl | exact Or.inr rfl)) pgs_nil)))) (fun _ _ _ _ _ => pts_nil) (fun _ _ _ _ _ => (pv 3))) rfl)))), ?_⟩
    have nbx : b ≠ x := fun z => by rw [z, hx] at hb; cases hb
    walk_at "z0"
    walk_at "z"
    refine ⟨x, _, dx, [], rfl, hx, T.cl_Optimal, T.na_Optimal_size, by decide, ?_⟩
    walk_at "z"
    have k0 : Kp [x] H (upd H x (.ins T.C_Optimal dx (putF "size" (.int size) []))) := Kp.put (by simp)
    have hps0 : PtsAt K (upd H x (.ins T.C_Optimal dx (putF "size" (.int size) []))) ps := fun p hp => (hps p hp).kpx k0 hx fun xs => ⟨by simp, by simp⟩
    refine Z.listL (lstL ((upd_ne nbx).trans hb)) fun a H1 na k1 e1 => ?_
    have hx1 := k1.get nin0 (show upd H x _ x = some _ from upd_same)
    have nxa : x ≠ a := ne_of_none (show upd H x _ x = some _ from upd_same) na
    have na0 : H a = none := by rwa [upd_ne nxa.symm] at na
    have hps1 := hps0.kp0 k1
    walk_at "z"
    refine ⟨x, _, dx, _, rfl, hx1, T.cl_Optimal, T.na_Optimal_parts, by show 1 < 1000; decide, ?_⟩
    have hx2 : upd H1 x (.ins T.C_Optimal dx (putF "parts" (.ref a) (putF "size" (.int size) []))) x = some (.ins T.C_Optimal dx (putF "parts" (.ref a) (putF "size" (.int size) []))) := upd_same
    have k2 : Kp [x] H1 (upd H1 x (.ins T.C_Optimal dx (putF "parts" (.ref a) (putF "size" (.int size) [])))) := Kp.put (by simp)
    have hps2 : PtsAt K (upd H1 x (.ins T.C_Optimal dx (putF "parts" (.ref a) (putF "size" (.int size) [])))) ps := fun p hp => (hps1 p hp).kpx k2 hx1 fun xs => ⟨by simp, by simp⟩
    have e2 : upd H1 x (.ins T.C_Optimal dx (putF "parts" (.ref a) (putF "size" (.int size) []))) a = some (.lst (prefs ps)) := (upd_ne nxa.symm).trans e1
    generalize upd H1 x (.ins T.C_Optimal dx (putF "parts" (.ref a) (putF "size" (.int size) []))) = H2 at hx2 k2 hps2 e2 ⊢
    walk_at "z"
    refine ⟨x, _, dx, _, _, rfl, hx2, T.cl_Optimal, T.na_Optimal_parts, of_parts1 size a, ?_⟩
    walk_at "z"
    refine Z.lcl (prefs ps) (lstL e2) (fun D i H' => Kp [] H2 H' ∧ H' D = some (.lst (refs (psx (ps.take i))))) ?_ ?_ ?_ ?_
    · intro D H3 nD k3 e3
      exact ⟨k3, e3⟩
    · rintro D i H3 nD hi ⟨k3, e3⟩
      exact lstL (k3.get nin0 e2)
    · rintro D i v H3 nD hv ⟨k3, e3⟩
      obtain ⟨p, hp, rfl⟩ := prefs_of hv
      have hi : i < ps.length := (List.getElem?_eq_some_iff.mp hp).1
      have hpa := (hps2.kp0 k3) p (List.mem_of_getElem? hp)
      dsimp only [wipe, List.set]
      refine Z.gtup (tupT hpa.at_) rfl ?_
      walk_at "z"
      refine ⟨rfl, ?_⟩
      walk_at "z"
      refine ⟨_, e3, Z.szl (m := 1000) (by rw [refs_len]; unfold psx; rw [List.length_map, List.length_take]; omega), k3.mut nD rfl, ?_⟩
      rw [upd_same, List.take_add_one, hp]
      unfold psx refs
      rw [List.map_append, List.map_append]; rfl
    · rintro D H3 nD ⟨k3, e3⟩
      rw [prefs_len, List.take_length] at e3
      have hx3 := k3.get nin0 hx2
      have nxD : x ≠ D := ne_of_none hx2 nD
      have naD : a ≠ D := ne_of_none e2 nD
      walk_at "z"
      refine ⟨x, _, dx, _, rfl, hx3, T.cl_Optimal, T.na_Optimal_kept, by show 2 < 1000; decide, ?_⟩
      walk_at "z"
      rw [of_mk]
      exact q _ a D na0 (((k0.trans (k1.sub (by simp))).trans k2).none (by simpa using nxD.symm) nD) ((((k0.trans (k1.sub (by simp))).trans k2).trans (k3.sub (by simp))).trans (Kp.put (by simp))) ⟨⟨dx, upd_same⟩, (upd_ne nxa.symm).trans (k3.get nin0 e2), (upd_ne nxD.symm).trans e3⟩
theorem tyO {P : Program} {K : PySem.W.Frag} {mg : Str → Option Value} (T : T P K mg base) {H : Hp} {x a k : Addr} {size : Int} {ps : List Pt} (h : OptAt T.C_Optimal H x a k size ps) : TyX K H (.ref x) (.ref T.C_Optimal) :=
  let ⟨⟨_, h1⟩, _, _⟩ := h
  .base (.ins h1 T.cl_Optimal T.isa_Optimal T.isg_Optimal T.ist_Optimal T.ism_Optimal)

section thr36b
variable {K : PySem.W.Frag}
open LamX LamK LamQ
abbrev LT : Str := "_law_threshold.<locals>.<lambda>"
theorem FrsAt.ext {H H' : Hp} (e : ExtN H H') {as : List Addr} {fs : List Fr} (h : FrsAt K H as fs) : FrsAt K H' as fs := by
  induction h with
  | nil => exact .nil
  | cons r t ih => exact .cons (ext_tup e r) ih
def spThrF (K : PySem.W.Frag) (TB : List (Addr × Str)) : Sp := fun vs H Q _ => ∃ (l : Addr) (ts : List (Addr × Fr)) (size : Nat), vs = [.ref l, .int (size : Int)] ∧ Tabs TB H ∧ H l = some (.lst (frefs ts)) ∧ FsAt K H ts ∧ (∀ t ∈ ts, OkF t.2) ∧ ts.length ≤ 6 ∧ 1 ≤ size ∧ size ≤ 1000 ∧
  ∀ H' c g, ExtN H H' → Tabs TB H' → FrAt K H' c g → Low g → Thr (ts.map fun t => rv t.2) size (rv g) → Q (.ref c) H'
theorem ok__law_threshold {P : Program} {w : World} {K : PySem.W.Frag} {mg : Str → Option Value} {base : Heap} (T : T P K mg base) : FnOk P w K mg base (L2.CX P w) 4 T.a__law_threshold T.fd__law_threshold ["weights", "size"] (spThrF K (TBS T)) := by
  obtain ⟨oc, od, kV, doc, pm, an, ct, osl, efd, lk, hcd⟩ := T.L__law_threshold
  have lk' := lk
  rw [efd] at lk' ⊢
  refine fn_of lk' hcd sc__law_threshold (fun vs H Q E h => ?_) (fun A outer s H vs Q E hr h => ?_)
  · obtain ⟨l, ts, size, rfl, _⟩ := h
    rfl
  · obtain ⟨l, ts, size, rfl, hT, hl, hts, hW, h6, s1, s2, q⟩ := h
    refine ⟨_, (pss_cons (ps_if (pt_cmpR op_le (pe_callB c_len (by rfl) T.z_len (by decide +kernel) (pa_cons (pv 0) pa_nil)) (pv 1) (nomark _)) (pss_one (ps_ret (pe_tup (pa_cons pe_int (pa_cons pe_int pa_nil))))) pss_nil)
      (pss_cons (ps_for (passes_of rfl) rfl (pi_range1 (by rfl) T.z_range (pa_cons (pv 1) pa_nil)) (pg_name (i := 2) sc__law_threshold.nd rfl (by first | exact Or.inl rfl | exact Or.inr rfl)) (pss_cons (ps_set (i := 3) sc__law_threshold.nd rfl (by first | exact Or.inl rfl | exact Or.inr rfl) (LamQ.pe_sortQ (e2 := ⟨0, 0, 0, 0⟩) (T := TBS T) (by rfl) T.z_sorted (pa_cons (pv 0) pa_nil) T.TB__law_threshold (by rfl) (List.mem_cons_of_mem _ (List.mem_singleton.mpr (by rfl))) (by intro q hq hP; rcases List.mem_cons.mp hq with z | z; (rw [z] at hP; exact absurd hP T.neP); (rw [List.mem_singleton.mp z]; rfl)) hr (LamQ.keyQ_by (by decide +kernel)) (by rfl) (fun _ _ _ _ _ _ => by rfl) T.z_max rfl))
      (pss_cons (ps_set (i := 4) sc__law_threshold.nd rfl (by first | exact Or.inl rfl | exact Or.inr rfl) (pe_call (ok__law_sum T) (hr.mono (by decide)) (by rfl) T.g__law_sum T.F__law_sum.kp T.b__law_sum .nil pass0 (pa_cons (pe_slice sl_list (pv 3) po_none (po_some (pe_op op_sub (pe_callB c_len (by rfl) T.z_len (by decide +kernel) (pa_cons (pv 3) pa_nil)) (pv 2)))) pa_nil)))
      (pss_cons (ps_set (i := 5) sc__law_threshold.nd rfl (by first | exact Or.inl rfl | exact Or.inr rfl) (pe_call (ok__law_low T) (hr.mono (by decide)) (by rfl) T.g__law_low T.F__law_low.kp T.b__law_low .nil pass0 (pa_cons (pe_ix ix_tup (pv 4) pe_int (fun _ _ => rfl)) (pa_cons (pe_op op_mulW (pe_ix ix_tup (pv 4) pe_int (fun _ _ => rfl)) (pe_op op_sub (pv 1) (pv 2))) pa_nil))))
      (pss_one (ps_if (pt_not (pt_val (pe_call (ok__law_less T) (hr.mono (by decide)) (by rfl) T.g__law_less T.F__law_less.kp T.b__law_less .nil pass0 (pa_cons (pv 5) (pa_cons (pe_ix ix_list (pv 3) (pe_op op_sub (pe_op op_sub (pe_callB c_len (by rfl) T.z_len (by decide +kernel) (pa_cons (pv 3) pa_nil)) (pv 2)) pe_int) (fun _ _ => rfl)) pa_nil))))) (pss_one (ps_ret (pv 5))) pss_nil))))))
      (pss_one (ps_ret (pe_tup (pa_cons pe_int (pa_cons pe_int pa_nil))))))), ?_⟩
    have hperm := srtF_perm ts
    have hsort := srtF_sorted hW
    have hlen : (srtF ts).length = ts.length := hperm.length_eq
    have hWs : ∀ t ∈ srtF ts, OkF t.2 := fun t ht => hW t (hperm.mem_iff.mp ht)
    have hSl : ((srtF ts).map fun t => rv t.2).length = ts.length := by rw [List.length_map, hlen]
    have hS1 : ∀ w ∈ (srtF ts).map fun t => rv t.2, 0 < w := fun w hw => by
      obtain ⟨t, ht, rfl⟩ := List.mem_map.mp hw
      exact (rv_pos (hWs t ht).low.1).mp (hWs t ht).pos
    have hSs : ((srtF ts).map fun t => rv t.2).Pairwise (· ≤ ·) := List.pairwise_map.mpr hsort
    have hSp : ((srtF ts).map fun t => rv t.2).Perm (ts.map fun t => rv t.2) := hperm.map _
    walk_at "z0"
    walk_at "z"
    refine Z.lenL (lstL hl) ?_
    rw [frefs_len]
    walk_at "z"
    refine Z.ite (fun h1 => ?_) (fun h1 => ?_)
    · walk_at "z"
      refine Z.tupK (fun z H1 nz k1 e1 => ?_)
      exact q H1 z (0, 1) (ext_kp k1) (tabs_kp hT k1) (tupT e1) low_zero ⟨fun _ => rv_zero, fun h2 => by rw [List.length_map] at h2; omega⟩
    · have hn : size < ts.length := by omega
      walk_at "z"
      refine Z.forr size rfl (by omega) (fun i σ' H' => ∃ (y2 y3 y4 y5 : Option V), σ' = [some (.ref l), some (.int (size : Int)), y2, y3, y4, y5] ∧ ExtN H H' ∧ Tabs (TBS T) H' ∧ AbvR ((srtF ts).map fun t => rv t.2) size i) ?_ ?_ ?_
      · exact ⟨_, _, _, _, rfl, ExtN.refl H, hT, abvR_zero _ _⟩
      · rintro i σ' H1 hi ⟨y2, y3, y4, y5, rfl, e1, T1, ha⟩
        have hm : ((srtF ts).map fun t => rv t.2).length - i - 1 < ((srtF ts).map fun t => rv t.2).length := by omega
        walk_at "z"
        refine srtQK (bs := ts.map fun t => (t.1, PyData.int (qKey t.2.1 t.2.2))) T1 (lstL (by rw [List.map_map]; exact ext_get e1 hl)) ((hts.ext e1).keys hW) (keysOkF ts) fun H2 r e2 T2 nr er => ?_
        rw [srtF_refs] at er
        have er' : H2 r = some (.lst (frefs (srtF ts))) := er
        have hA : FsAt K H2 (srtF ts) := fun t ht => (hts.ext (e1.trans e2)) t (hperm.mem_iff.mp ht)
        walk_at "z"
        refine Z.lenL (lstL er') ?_
        rw [frefs_len, hlen]
        walk_at "z"
        have ecut : ((ts.length : Nat) : Int) - (i : Int) = ((ts.length - i : Nat) : Int) := by omega
        rw [ecut]
        refine Z.slL (lstL er') (fun c H3 nc k3 e3 => ?_)
        rw [Z.cut_take (by rw [frefs_len]; omega)] at e3
        have e3' : H3 c = some (.lst ((((srtF ts).take (ts.length - i)).map Prod.fst).map V.ref)) := by
          rw [e3, frefs_eq, List.map_take, List.map_take]
        have hA3 : FsAt K H3 ((srtF ts).take (ts.length - i)) := fun t ht => (hA.kp0 k3) t (List.mem_of_mem_take ht)
        have hok3 : ∀ f ∈ ((srtF ts).take (ts.length - i)).map Prod.snd, OkF f := fun f hf => by
          obtain ⟨t, ht, rfl⟩ := List.mem_map.mp hf
          exact hWs t (List.mem_of_mem_take ht)
        have hcnt : (((srtF ts).take (ts.length - i)).map Prod.snd).length ≤ 6 := by rw [List.length_map, List.length_take]; omega
        have hsumB : ∀ j, FrB 300 (fsum (0, 1) ((((srtF ts).take (ts.length - i)).map Prod.snd).take j)) := fun j => by
          have hB1 := fsum_B (fs := (((srtF ts).take (ts.length - i)).map Prod.snd).take j) (t := (0, 1)) (n := 1) (m := 40) ⟨by decide, by decide⟩ (by decide) fun g hg => ⟨(hok3 g (List.mem_of_mem_take hg)).B, (hok3 g (List.mem_of_mem_take hg)).low.ne⟩
          refine hB1.1.mono ?_
          rw [List.length_take]
          omega
        walk_at "z"
        refine ⟨c, _, _, rfl, lstL e3', hA3.frs, fun f hf => ⟨(hok3 f hf).low.1, (hok3 f hf).B.mono (by decide)⟩, fun j => (hsumB j).mono (by decide), fun H4 rest k4 e4 => ?_⟩
        have hs := rv_fsum (fs := ((srtF ts).take (ts.length - i)).map Prod.snd) low_zero fun f hf => (hok3 f hf).low.ne
        have hsB := hsumB 6
        rw [List.take_of_length_le hcnt] at hsB
        have hsv : rv (fsum (0, 1) (((srtF ts).take (ts.length - i)).map Prod.snd)) = (((srtF ts).map fun t => rv t.2).take (((srtF ts).map fun t => rv t.2).length - i)).sum := by
          rw [hs.1, rv_zero, hSl, List.map_map, ← List.map_take]
          show 0 + (((srtF ts).take (ts.length - i)).map fun t => rv t.2).sum = _
          grind
        generalize fsum (0, 1) (((srtF ts).take (ts.length - i)).map Prod.snd) = s at e4 hs hsB hsv
        have sL := hs.2
        have s2 := sL.1
        walk_at "z"
        refine Z.ixT e4 (fr0 _) ?_
        walk_at "z"
        refine Z.ixT e4 (fr1 _) ?_
        walk_at "z"
        have hp0 : ((size - i : Nat) : Int) ≠ 0 := by omega
        have ep : (size : Int) - (i : Int) = ((size - i : Nat) : Int) := by omega
        rw [ep]
        have hplB : ((size - i : Nat) : Int).natAbs < 2 ^ 10 := by rw [Int.natAbs_natCast]; omega
        refine Z.iC (mul_ok (n := 300) hsB.2 (up_B hplB (by decide))) ?_
        walk_at "z"
        have hq1 : 1 ≤ s.2 * ((size - i : Nat) : Int) := Int.mul_pos (by omega) (by omega)
        have hqB : (s.2 * ((size - i : Nat) : Int)).natAbs < 2 ^ 310 := mul_B hsB.2 hplB
        refine ⟨_, _, rfl, hq1, up_B hqB (by decide), fun H5 f nf k5 e5 => ?_⟩
        have lf := lo_low (p := s.1) (q := s.2 * ((size - i : Nat) : Int)) (by omega)
        have fB : FrB 310 (lo s.1 (s.2 * ((size - i : Nat) : Int))) := lo_B (by omega) (up_B hsB.1 (by decide)) hqB
        have fv : rv (lo s.1 (s.2 * ((size - i : Nat) : Int))) = (((srtF ts).map fun t => rv t.2).take (((srtF ts).map fun t => rv t.2).length - i)).sum / ((size - i : Nat) : Rat) := by
          rw [rv_lo (by omega), ← hsv]
          have e1 : ((s.2 * ((size - i : Nat) : Int) : Int) : Rat) = (s.2 : Rat) * ((size - i : Nat) : Rat) := by exact_mod_cast rfl
          have n1 : (s.2 : Rat) ≠ 0 := ratNe (by omega)
          have n2 : ((size - i : Nat) : Rat) ≠ 0 := castNe (by omega)
          rw [e1]
          unfold rv
          grind
        have k35 := (k3.trans k4).trans k5
        have er5 := k35.get nin0 er'
        walk_at "z"
        refine Z.lenL (lstL er5) ?_
        rw [frefs_len, hlen]
        walk_at "z"
        have eix : ((ts.length : Nat) : Int) - (i : Int) - 1 = ((ts.length - i - 1 : Nat) : Int) := by omega
        rw [eix]
        have hx : (srtF ts)[ts.length - i - 1]? = some (srtF ts)[ts.length - i - 1] := List.getElem?_eq_getElem (by omega)
        have hxS : ((srtF ts).map fun t => rv t.2)[((srtF ts).map fun t => rv t.2).length - i - 1] = rv ((srtF ts)[ts.length - i - 1]).2 := by
          rw [List.getElem_map]
          congr 3
          rw [hSl]
        have hdone := fun hge => thrR_done (i := i) hSp hSs hS1 hi (by omega) ha hm hge
        have hstep := fun hlt => abvR_step (i := i) hSs hi (by omega) hm hlt
        rw [hxS] at hdone hstep
        generalize (srtF ts)[ts.length - i - 1] = x at hx hdone hstep hxS
        have hxm := List.mem_of_getElem? hx
        have hxW := hWs x hxm
        have hxf := (hA.kp0 k35) x hxm
        refine Z.ixL (lstL er5) (atI_nat (by unfold frefs; rw [List.getElem?_map, hx]; rfl)) ?_
        walk_at "z"
        refine ⟨f, x.1, _, x.2, rfl, e5, hxf, fB.mono (by decide), hxW.B.mono (by decide), ?_⟩
        have hcmp := fless_iff (f := lo s.1 (s.2 * ((size - i : Nat) : Int))) (g := x.2) lf.1 hxW.low.1
        rw [hcmp, fv]
        have e25 : ExtN H H5 := (e1.trans e2).trans (ext_kp k35)
        have T5 := tabs_kp T2 k35
        walk_at "z"
        refine Z.iteN (fun h2 => ?_) (fun h2 => ?_)
        · walk_at "z"
          refine q H5 f _ e25 T5 e5 lf ?_
          rw [fv]
          exact hdone (by simpa using h2)
        · walk_at "z"
          refine ⟨_, _, _, _, rfl, e25, T5, hstep ?_⟩
          have h3 : (((srtF ts).map fun t => rv t.2).take (((srtF ts).map fun t => rv t.2).length - i)).sum / ((size - i : Nat) : Rat) < rv x.2 := by simpa using h2
          have n2 : (0 : Rat) < ((size - i : Nat) : Rat) := natR_pos (by omega)
          have h4 := Rat.mul_lt_mul_of_pos_right h3 n2
          rw [Rat.div_mul_cancel (fun z => by rw [z] at n2; exact absurd n2 (by decide))] at h4
          exact h4
      · rintro σ' H1 ⟨y2, y3, y4, y5, rfl, e1, T1, ha⟩
        exact (abvR_end hS1 s1 (by omega) ha).elim
end thr36b

def spThrX (K : PySem.W.Frag) : Sp := spEx (fun i : Nat × Nat => 0 < i.1 ∧ i.2 < 64 ∧ i.1 * (i.2 + 1) + 7 ≤ 5900) fun i => spThr K i.1 i.2
theorem ok_threshold {P : Program} {w : World} {K : PySem.W.Frag} {mg : Str → Option Value} {base : Heap} (T : T P K mg base) : FnOk P w K mg base CX0 4 T.a_threshold T.fd_threshold ["weights", "size"] (spThrX K) := fnEx fun i h => ok_threshold_any T i.1 i.2 h.1 h.2.1 h.2.2
def spSumX (K : PySem.W.Frag) : Sp := spEx (fun i : Nat × Nat => i.2 * (i.1 + 1) ≤ 1900) fun i => spLawSum K i.1 i.2
theorem lo_fst_pos {p q : Int} (hp : 0 < p) (hq : 1 ≤ q) : 0 < (lo p q).1 := by
  obtain ⟨a, b, e, _, _, h3, _⟩ := lo_spec (p := p) (q := q) (by omega)
  rw [e]
  rw [gI_pos hq] at h3
  have := gN_pos (p := p) (q := q) (by omega)
  refine Decidable.byContradiction fun z => ?_
  have h4 : (gN p q : Int) * a ≤ 0 := Int.mul_nonpos_of_nonneg_of_nonpos (by omega) (show a ≤ 0 by omega)
  omega

/-! ### samphire.laws: check_chances, law_from -/
section lawfrom
variable {K : PySem.W.Frag}
open LamX LamK
/-- the partial sums are small -/
def SumOk (fs : List Fr) : Prop := (∀ f ∈ fs, FrB 3900 f ∧ f.2 ≠ 0) ∧ ∀ i, FrB 3900 (fsum (0, 1) (fs.take i)) ∧ (fsum (0, 1) (fs.take i)).2 ≠ 0
def spSumG (K : PySem.W.Frag) : Sp := fun vs H Q _ => ∃ (a : Addr) (as : List Addr) (fs : List Fr), vs = [.ref a] ∧ SqL K H a (as.map V.ref) ∧ FrsAt K H as fs ∧ SumOk fs ∧ ∀ H' c, Kp [] H H' → FrAt K H' c (fsum (0, 1) fs) → Q (.ref c) H'
theorem ok_sum_of {P : Program} {w : World} {K : PySem.W.Frag} {mg : Str → Option Value} {base : Heap} (T : T P K mg base) : FnOk P w K mg base CX0 5 T.a_sum_of T.fd_sum_of ["fractions"] (spSumG K) := by
  refine T.F_sum_of.ok sc_sum_of (fun vs H Q E h => ?_) (fun cdv A outer s H vs Q E hr h => ?_)
  · obtain ⟨a, as, fs, rfl, _⟩ := h
    rfl
  · obtain ⟨a, as, fs, rfl, hS, hF, hB, q⟩ := h
    refine ⟨_, (pss_cons (ps_set (i := 1) sc_sum_of.nd rfl (by first | exact Or.inl rfl | exact Or.inr rfl) (pe_glob (v := .ref T.k_ZERO) (by rfl) T.g_ZERO rfl))
      (pss_cons (ps_for PassesOwn.never rfl (pi_list (pv 0)) (pg_name (i := 2) sc_sum_of.nd rfl (by first | exact Or.inl rfl | exact Or.inr rfl)) (pss_one (ps_set (i := 1) sc_sum_of.nd rfl (by first | exact Or.inl rfl | exact Or.inr rfl) (pe_call (ok_plus T) (hr.mono (by decide)) (by rfl) T.g_plus T.F_plus.kp T.b_plus .nil pass0 (pa_cons (pv 1) (pa_cons (pv 2) pa_nil))))))
      (pss_one (ps_ret (pv 1))))), ?_⟩
    walk_at "z0"
    walk_at "z"
    refine Z.forl (as.map V.ref) hS (fun i σ' H' => ∃ c y, σ' = [some (.ref a), some (.ref c), y] ∧ Kp [] H H' ∧ FrAt K H' c (fsum (0, 1) (fs.take i))) ?_ ?_ ?_ ?_
    · exact ⟨T.k_ZERO, none, rfl, Kp.refl _, T.q_ZERO H⟩
    · rintro i σ' H' _ ⟨c, y, rfl, k2, _⟩
      exact k2.seq nin0 hS
    · rintro i v σ' H' hv ⟨c, y, rfl, k2, e2⟩
      obtain ⟨x, f, rfl, hf, hx⟩ := (hF.kp0 k2).get hv
      have hfB := hB.1 f (List.mem_of_getElem? hf)
      have hB1 := hB.2 i
      walk_at "z"
      refine ⟨c, x, _, f, rfl, e2, hx, hB1.2, hfB.2, hB1.1, hfB.1, fun H3 d nd k3 e3 => ?_⟩
      walk_at "z"
      exact ⟨d, _, rfl, k2.trans k3, by rw [fsum_take hf]; exact e3⟩
    · rintro σ' H' ⟨c, y, rfl, k2, e2⟩
      walk_at "z"
      rw [List.length_map, hF.len, List.take_length] at e2
      exact q _ _ k2 e2
def chOkB (fs : List Fr) : Bool := (fs.all fun f => !fless f (0, 1)) && decide (fsum (0, 1) fs = (1, 1))
theorem ok_InvalidLaw_init {P : Program} {w : World} {K : PySem.W.Frag} {mg : Str → Option Value} {base : Heap} (T : T P K mg base) : FnOk P w K mg base CX0 1 T.a_InvalidLaw_init ((NF_InvalidLaw T.cc_InvalidLaw T.c_InvalidLaw).fd T.doc_InvalidLaw T.pm_InvalidLaw T.ctv_InvalidLaw) ["self"] (spZD T.C_InvalidLaw) := by
  refine Sup.fn_super (F := NF_InvalidLaw T.cc_InvalidLaw T.c_InvalidLaw) (p := "self") (ps' := []) T.x_InvalidLaw.S T.lk_InvalidLaw rfl T.hc_InvalidLaw sc_InvalidLaw_init rfl ⟨_, rfl, rfl⟩ rfl rfl (fun _ => rfl) (fun _ => ⟨_, rfl⟩) (fun _ => rfl) (fun vs H Q E h => ?_) (fun A outer s H vs Q E hr h => ?_)
  · obtain ⟨a, rfl, _⟩ := h
    rfl
  · obtain ⟨a, rfl, ha, q⟩ := h
    exact ⟨a, [], _, _, rfl, ha, pa_cons pe_str pa_nil, pss_nil, by decide, ha, q⟩
def spCheck (K : PySem.W.Frag) (C : Addr) : Sp := fun vs H Q E => ∃ (a : Addr) (as : List Addr) (fs : List Fr), vs = [.ref a] ∧ SqL K H a (as.map V.ref) ∧ FrsAt K H as fs ∧ SumOk fs ∧ (chOkB fs = true → ∀ H', Kp [] H H' → Q .non H') ∧ (chOkB fs = false → ∀ H', Kp [] H H' → E (.ref C) none H')
theorem ok_check_chances {P : Program} {w : World} {K : PySem.W.Frag} {mg : Str → Option Value} {base : Heap} (T : T P K mg base) : FnOk P w K mg base (L2.CX P w) 6 T.a_check_chances T.fd_check_chances ["chances"] (spCheck K T.C_InvalidLaw) := by
  refine T.F_check_chances.okX sc_check_chances (fun vs H Q E h => ?_) (fun cdv A outer s H vs Q E hr h => ?_)
  · obtain ⟨a, as, fs, rfl, _⟩ := h
    rfl
  · obtain ⟨a, as, fs, rfl, hS, hF, hB, q, qE⟩ := h
    refine ⟨_, (pss_cons (ps_for (passes_of rfl) rfl (pi_list (pv 0)) (pg_name (i := 1) sc_check_chances.nd rfl (by first | exact Or.inl rfl | exact Or.inr rfl)) (pss_one (ps_if (pt_val (pe_call (ok_less T) (hr.mono (by decide)) (by rfl) T.g_less T.F_less.kp T.b_less .nil pass0 (pa_cons (pv 1) (pa_cons (pe_glob (v := .ref T.k_ZERO) (by rfl) T.g_ZERO rfl) pa_nil)))) (pss_one (ps_raise rfl (takes_of rfl rfl rfl rfl) (Sup.pmk_oexN T.x_InvalidLaw.S.T T.x_InvalidLaw.iC T.x_InvalidLaw.tI (ok_InvalidLaw_init T) (hr.mono (by decide)) (T.bx_InvalidLaw) pass0 (by rfl) T.x_InvalidLaw.g))) pss_nil)))
      (pss_one (ps_if (pt_cmpR (op_neD hr.units) (pe_call (ok_sum_of T) (hr.mono (by decide)) (by rfl) T.g_sum_of T.F_sum_of.kp T.b_sum_of .nil pass0 (pa_cons (pv 0) pa_nil)) (pe_glob (v := .ref T.k_ONE) (by rfl) T.g_ONE rfl) (nomark _)) (pss_one (ps_raise rfl (takes_of rfl rfl rfl rfl) (Sup.pmk_oexN T.x_InvalidLaw.S.T T.x_InvalidLaw.iC T.x_InvalidLaw.tI (ok_InvalidLaw_init T) (hr.mono (by decide)) (T.bx_InvalidLaw) pass0 (by rfl) T.x_InvalidLaw.g))) pss_nil))), ?_⟩
    walk_at "z0"
    walk_at "z"
    refine Z.forl (as.map V.ref) hS (fun i σ' H' => ∃ y, σ' = [some (.ref a), y] ∧ H' = H ∧ ∀ f ∈ fs.take i, fless f (0, 1) = false) ?_ ?_ ?_ ?_
    · exact ⟨_, rfl, rfl, by simp⟩
    · rintro i σ' H' _ ⟨y, rfl, rfl, _⟩
      exact hS
    · rintro i v σ' H' hv ⟨y, rfl, rfl, hl⟩
      obtain ⟨x, f, rfl, hf, hx⟩ := hF.get hv
      have hfB := hB.1 f (List.mem_of_getElem? hf)
      walk_at "z"
      refine ⟨x, T.k_ZERO, f, (0, 1), rfl, hx, T.q_ZERO _, hfB.1, ⟨by decide, by decide⟩, ?_⟩
      cases hfl : fless f (0, 1) with
      | true =>
        walk_at "z"
        refine Z.mkN fun a na => ⟨a, rfl, upd_same, rfl, upd_same, ?_⟩
        rw [del_upd na]
        refine qE ?_ _ (Kp.refl _)
        unfold chOkB
        rw [show (fs.all fun f => !fless f (0, 1)) = false from by
          refine Bool.eq_false_iff.mpr fun z => ?_
          have := List.all_eq_true.mp z f (List.mem_of_getElem? hf)
          rw [hfl] at this
          cases this]
        rfl
      | false =>
        walk_at "z"
        refine ⟨_, rfl, rfl, fun g hg => ?_⟩
        rw [List.take_add_one, hf] at hg
        rcases List.mem_append.mp hg with hg | hg
        · exact hl g hg
        · obtain rfl : g = f := by simpa using hg
          exact hfl
    · rintro σ' H' ⟨y, rfl, rfl, hl⟩
      rw [List.length_map, hF.len, List.take_length] at hl
      have hall : (fs.all fun f => !fless f (0, 1)) = true := List.all_eq_true.mpr fun f hf => by rw [hl f hf]; rfl
      walk_at "z"
      refine ⟨a, as, fs, rfl, hS, hF, hB, fun H2 c k2 e2 => ?_⟩
      walk_at "z"
      refine neF (g := (1, 1)) e2 (T.q_ONE _) ?_
      unfold chOkB at q qE
      rw [hall, Bool.true_and] at q qE
      walk_at "z"
      refine Z.iteN (fun h1 => ?_) (fun h1 => ?_)
      · walk_at "z"
        refine Z.mkN fun a na => ⟨a, rfl, upd_same, rfl, upd_same, ?_⟩
        rw [del_upd na]
        exact qE (decide_eq_false h1) _ k2
      · walk_at "z"
        exact q (decide_eq_true h1) _ k2
end lawfrom

section lawfrom2
variable {K : PySem.W.Frag}
open LamX LamK
/-- a row of a law: the tuple at a, the outcome v, d as data, the chance at c -/
structure LRow where
  a : Addr
  v : V
  d : PyData
  c : Addr
  f : Fr
def LRow.dat (r : LRow) : PyData × Fr := (r.d, r.f)
def LRow.r (r : LRow) : V := .ref r.a
structure DOk (d : PyData) : Prop where
  flat : noLst d = true
  deep : d.depth ≤ 60
  sh : SeqAt.shaped d = true
structure LRowAt (K : PySem.W.Frag) (H : Hp) (r : LRow) : Prop where
  tup : SqT K H r.a [r.v, .ref r.c]
  dp : Dp K H r.v r.d
  fr : FrAt K H r.c r.f
  ok : DOk r.d
mutual
theorem dp_kp {M : List Addr} {H H' : Hp} (k : Kp M H H') (n : ∀ x ∈ M, NoTup H x) : ∀ (d : PyData) {v : V}, noLst d = true → Dp K H v d → Dp K H' v d
  | .none, _, _, .non => .non
  | .bool _, _, _, .bl b => .bl b
  | .int _, _, _, .int i => .int i
  | .str _, _, _, .str x => .str x
  | .list _, _, z, _ => by simp [noLst] at z
  | .dict _, _, z, _ => by simp [noLst] at z
  | .tuple ds, _, z, .tup h r => .tup (kpTup h k n) (dp_kpAll k n ds (by simpa [noLst] using z) r)
theorem dp_kpAll {M : List Addr} {H H' : Hp} (k : Kp M H H') (n : ∀ x ∈ M, NoTup H x) : ∀ (ds : List PyData) {vs : List V}, noLstAll ds = true → DpAll K H vs ds → DpAll K H' vs ds
  | [], _, _, .nil => .nil
  | d :: ds, _, z, .cons h r => by
    have z' : noLst d = true ∧ noLstAll ds = true := by simpa [noLstAll] using z
    exact .cons (dp_kp k n d z'.1 h) (dp_kpAll k n ds z'.2 r)
end
theorem LRowAt.ext {H H' : Hp} {r : LRow} (h : LRowAt K H r) (e : ExtN H H') : LRowAt K H' r := ⟨ext_tup e h.tup, ext_dp e _ h.dp, ext_tup e h.fr, h.ok⟩
theorem LRowAt.kpM {M : List Addr} {H H' : Hp} {r : LRow} (h : LRowAt K H r) (k : Kp M H H') (n : ∀ x ∈ M, NoTup H x) : LRowAt K H' r := ⟨kpTup h.tup k n, dp_kp k n _ h.ok.flat h.dp, FrAt.kp h.fr k n, h.ok⟩
theorem LRowAt.kp0 {H H' : Hp} {r : LRow} (h : LRowAt K H r) (k : Kp [] H H') : LRowAt K H' r := h.kpM k (by simp)
theorem LRowAt.kpl {H H' : Hp} {r : LRow} {l : Addr} {xs : List V} (h : LRowAt K H r) (k : Kp [l] H H') (e : H l = some (.lst xs)) : LRowAt K H' r := h.kpM k fun x hx => by
  rw [List.mem_singleton.mp hx]
  exact NoTup.lst e
/-- rows gathered: equal neighbours are added -/
def stp (acc : List (PyData × Fr)) (x : PyData × Fr) : List (PyData × Fr) := match acc.getLast? with
  | some y => if PyData.eqv y.1 x.1 = true then acc.dropLast ++ [(x.1, fplus y.2 x.2)] else acc ++ [x]
  | none => [x]
theorem stp_nil (x : PyData × Fr) : stp [] x = [x] := rfl
theorem stp_last (o : List (PyData × Fr)) (y x : PyData × Fr) : stp (o ++ [y]) x = if PyData.eqv y.1 x.1 = true then o ++ [(x.1, fplus y.2 x.2)] else o ++ [y] ++ [x] := by
  unfold stp
  rw [List.getLast?_concat, List.dropLast_concat]
def srtd (rs : List LRow) : List LRow := rs.mergeSort (PySem.W.dataLe false LRow.d)
def lawOf (rs : List LRow) : List (PyData × Fr) := (((srtd rs).map LRow.dat).foldl stp []).filter fun x => !decide (x.2 = (0, 1))
/-- all that is added on the way is small -/
def StpOk (rs : List LRow) : Prop := ∀ i, ∀ y ∈ (((srtd rs).map LRow.dat).take i).foldl stp [], FrB 3900 y.2 ∧ y.2.2 ≠ 0
theorem srtd_refs (rs : List LRow) : ((rs.map fun r => (r.a, r.d)).mergeSort (PySem.W.dataLe false Prod.snd)).map (fun b => V.ref b.1) = (srtd rs).map LRow.r := by
  unfold srtd
  have e := List.map_mergeSort (r := PySem.W.dataLe false LRow.d) (s := PySem.W.dataLe false Prod.snd) (f := fun r : LRow => (r.a, r.d)) (l := rs) (fun _ _ _ _ => rfl)
  rw [← e, List.map_map]
  rfl
theorem mem_srtd {rs : List LRow} {r : LRow} : r ∈ srtd rs ↔ r ∈ rs := (List.mergeSort_perm rs _).mem_iff
structure LawIn (K : PySem.W.Frag) (H : Hp) (rs : List LRow) : Prop where
  at_ : ∀ r ∈ rs, LRowAt K H r
  key : KeyOk (rs.map LRow.d)
  sum : SumOk (rs.map LRow.f)
  stp : StpOk rs
  len : rs.length ≤ 100000
abbrev LQ : Str := "law_from.<locals>.<lambda>"
def spLawFrom (K : PySem.W.Frag) (C : Addr) (TB : List (Addr × Str)) : Sp := fun vs H Q E => ∃ (a : Addr) (rs : List LRow), vs = [.ref a] ∧ Tabs TB H ∧ SqL K H a (rs.map LRow.r) ∧ LawIn K H rs ∧ (chOkB (rs.map LRow.f) = false → ∀ H', Kp [] H H' → E (.ref C) none H') ∧
  (chOkB (rs.map LRow.f) = true → ∀ (H' : Hp) (b : Addr) (out : List LRow), Nw H b → ExtN H H' → Tabs TB H' → H' b = some (.lst (out.map LRow.r)) → (∀ r ∈ out, LRowAt K H' r) → out.map LRow.dat = lawOf rs → Q (.ref b) H')
theorem frs_of {H : Hp} : ∀ {rs : List LRow}, (∀ r ∈ rs, LRowAt K H r) → FrsAt K H (rs.map LRow.c) (rs.map LRow.f)
  | [], _ => .nil
  | r :: rs, h => .cons (h r (by simp)).fr (frs_of fun x hx => h x (by simp [hx]))
theorem keyrows_of {H : Hp} {rs : List LRow} (h : ∀ r ∈ rs, LRowAt K H r) : KeyRows K H (rs.map fun r => (r.a, r.d)) := fun b hb => by
  obtain ⟨r, hr, rfl⟩ := List.mem_map.mp hb
  have hA := h r hr
  exact ⟨hA.ok.flat, hA.ok.deep, _, _, hA.tup, rfl, hA.dp⟩
theorem seq_kpl {H H' : Hp} {a l : Addr} {xs ys : List V} (h : SqL K H a xs) (k : Kp [l] H H') (n : a ≠ l) : SqL K H' a xs := k.seq (nin1 n) h
/-- found, as it stands -/
structure Fnd (K : PySem.W.Frag) (H : Hp) (F : Addr) (D : List (PyData × Fr)) (out : List LRow) : Prop where
  here : H F = some (.lst (out.map LRow.r))
  rows : ∀ r ∈ out, LRowAt K H r
  dat : out.map LRow.dat = D
theorem Fnd.ext {H H' : Hp} {F : Addr} {D : List (PyData × Fr)} {out : List LRow} (f : Fnd K H F D out) (e : ExtN H H') : Fnd K H' F D out := ⟨ext_get e f.here, fun r hr => (f.rows r hr).ext e, f.dat⟩
theorem Fnd.kp0 {H H' : Hp} {F : Addr} {D : List (PyData × Fr)} {out : List LRow} (f : Fnd K H F D out) (k : Kp [] H H') : Fnd K H' F D out := f.ext (ext_kp k)
theorem Fnd.put {H H' : Hp} {F : Addr} {D D' : List (PyData × Fr)} {out out' : List LRow} (f : Fnd K H F D out) (k : Kp [F] H H') (e : H' F = some (.lst (out'.map LRow.r))) (h : ∀ r ∈ out', LRowAt K H r) (d : out'.map LRow.dat = D') : Fnd K H' F D' out' := ⟨e, fun r hr => (h r hr).kpl k f.here, d⟩
theorem ixN_last {n : Nat} : ixN (n + 1) (-1) = some n := by
  unfold ixN
  rw [if_neg (by decide), if_pos (by omega)]
  congr 1
  omega
theorem rmap_snoc (o : List LRow) (y : LRow) : (o ++ [y]).map LRow.r = o.map LRow.r ++ [.ref y.a] := by rw [List.map_append]; rfl
theorem dat_len {out : List LRow} {D : List (PyData × Fr)} (h : out.map LRow.dat = D) : out.length = D.length := by rw [← h, List.length_map]
theorem stp_len {acc : List (PyData × Fr)} {x : PyData × Fr} : (stp acc x).length ≤ acc.length + 1 := by
  unfold stp
  cases h : acc.getLast? with
  | none =>
    rw [List.getLast?_eq_none_iff.mp h]
    simp
  | some y =>
    dsimp only
    split <;> simp
theorem fold_len : ∀ {xs acc : List (PyData × Fr)}, (xs.foldl stp acc).length ≤ acc.length + xs.length
  | [], acc => by simp
  | x :: xs, acc => by
    have h1 := stp_len (acc := acc) (x := x)
    have h2 := fold_len (xs := xs) (acc := stp acc x)
    rw [List.foldl_cons, List.length_cons]
    omega
theorem fold_snoc {xs : List (PyData × Fr)} {i : Nat} {x : PyData × Fr} (h : xs[i]? = some x) : (xs.take (i + 1)).foldl stp [] = stp ((xs.take i).foldl stp []) x := by
  rw [List.take_add_one, h, List.foldl_append]
  rfl
theorem ok_law_from {P : Program} {w : World} {K : PySem.W.Frag} {mg : Str → Option Value} {base : Heap} (T : T P K mg base) : FnOk P w K mg base (L2.CX P w) 7 T.a_law_from T.fd_law_from ["rows"] (spLawFrom K T.C_InvalidLaw (TBS T)) := by
  obtain ⟨oc, od, kV, doc, pm, an, ct, osl, efd, lk, hcd⟩ := T.L_law_from
  have lk' := lk
  rw [efd] at lk' ⊢
  refine fn_of lk' hcd sc_law_from (fun vs H Q E h => ?_) (fun A outer s H vs Q E hr h => ?_)
  · obtain ⟨a, rs, rfl, _⟩ := h
    rfl
  · obtain ⟨a, rs, rfl, hT, hS, hL, qE, q⟩ := h
    refine ⟨_, (pss_cons (ps_expr (pe_call (ok_check_chances T) (hr.mono (by decide)) (by rfl) T.g_check_chances T.F_check_chances.kp T.b_check_chances .nil (passes_call (takes_of rfl rfl rfl rfl) (fun _ _ _ _ h => h)) (pa_cons (pe_lc (own := [("outcome", 2), ("chance", 3)]) (g := gTup K 2 (gCons (gName 2) (gCons (gName 3) gNil))) rfl sc_law_from.nd (pi_list (pv 0)) (blkOk_by (own := [("outcome", 2), ("chance", 3)]) (N := N_law_from) (sc := defScope s_law_from) (by decide +kernel)) (fun _ _ _ _ _ => (pg_tup rfl (pgs_cons (pg_name (i := 2) sc_law_from.nd rfl (by first | exact Or.inl rfl | exact Or.inr rfl)) (pgs_cons (pg_name (i := 3) sc_law_from.nd rfl (by first | exact Or.inl rfl | exact Or.inr rfl)) pgs_nil)))) (fun _ _ _ _ _ => pts_nil) (fun _ _ _ _ _ => (pv 3))) pa_nil)))
      (pss_cons (ps_set (i := 1) sc_law_from.nd rfl (by first | exact Or.inl rfl | exact Or.inr rfl) (pe_lst pa_nil))
      (pss_cons (ps_for (passes_of rfl) rfl (pi_list (LamK.pe_sortLam (T := TBS T) (by rfl) T.z_sorted (pa_cons (pv 0) pa_nil) T.TB_law_from (by rfl) (List.mem_cons.mpr (.inl (by rfl))) (by intro q hq hP; rcases List.mem_cons.mp hq with z | z; (rw [z]; rfl); (rw [List.mem_singleton.mp z] at hP; exact absurd hP.symm T.neP)) hr (LamK.keyS_by (by decide +kernel)) (by rfl) (fun _ _ _ _ _ _ => by rfl))) (pg_tup rfl (pgs_cons (pg_name (i := 2) sc_law_from.nd rfl (by first | exact Or.inl rfl | exact Or.inr rfl)) (pgs_cons (pg_name (i := 3) sc_law_from.nd rfl (by first | exact Or.inl rfl | exact Or.inr rfl)) pgs_nil))) (pss_one (ps_if (PW.pt (pw_and (pt_truth (pv 1) (by intro _; rfl)) (pw_and1 (pt_cmpR (op_eqD hr.units) (pe_ix ix_tup (pe_ix ix_list (pv 1) (pe_un un_neg pe_int) (fun _ _ => rfl)) pe_int (fun _ _ => rfl)) (pv 2) (nomark _))))) (pss_one (ps_asg (pe_tup (pa_cons (pv 2) (pa_cons (pe_call (ok_plus T) (hr.mono (by decide)) (by rfl) T.g_plus T.F_plus.kp T.b_plus .nil pass0 (pa_cons (pe_ix ix_tup (pe_ix ix_list (pv 1) (pe_un un_neg pe_int) (fun _ _ => rfl)) pe_int (fun _ _ => rfl)) (pa_cons (pv 3) pa_nil))) pa_nil))) (pg_sub (pv 1) (pe_un un_neg pe_int) set_list))) (pss_one (ps_expr (pe_bm PySem.F.plainAttrs_list PySem.F.slot_list_append PySem.F.type_list_append mt_append (pv 1) (pa_cons (pe_tup (pa_cons (pv 2) (pa_cons (pv 3) pa_nil))) pa_nil)))))))
      (pss_one (ps_ret (pe_lc (own := [("outcome", 2), ("chance", 3)]) (g := gTup K 2 (gCons (gName 2) (gCons (gName 3) gNil))) rfl sc_law_from.nd (pi_list (pv 1)) (blkOk_by (own := [("outcome", 2), ("chance", 3)]) (N := N_law_from) (sc := defScope s_law_from) (by decide +kernel)) (fun _ _ _ _ _ => (pg_tup rfl (pgs_cons (pg_name (i := 2) sc_law_from.nd rfl (by first | exact Or.inl rfl | exact Or.inr rfl)) (pgs_cons (pg_name (i := 3) sc_law_from.nd rfl (by first | exact Or.inl rfl | exact Or.inr rfl)) pgs_nil)))) (fun _ _ _ _ _ => (pts_one (pt_cmpR (op_neD hr.units : OpR _ _ (rNeD K)) (pv 3) (pe_glob (v := .ref T.k_ZERO) (by rfl) T.g_ZERO rfl) (nomark _)))) (fun _ _ _ _ _ => (pe_tup (pa_cons (pv 2) (pa_cons (pv 3) pa_nil)))))))))), ?_⟩
    walk_at "z0"
    walk_at "z"
    refine Z.lcl (rs.map LRow.r) hS (fun D i H1 => Kp [] H H1 ∧ H1 D = some (.lst ((rs.take i).map fun r => V.ref r.c))) ?_ ?_ ?_ ?_
    · intro D H1 nD k1 e1
      exact ⟨k1, e1⟩
    · rintro D i H1 nD hi ⟨k1, e1⟩
      exact k1.seq nin0 hS
    · rintro D i x H1 nD hx ⟨k1, e1⟩
      rw [List.getElem?_map] at hx
      obtain ⟨r, hr2, rfl⟩ := Option.map_eq_some_iff.mp hx
      have hA := (hL.at_ r (List.mem_of_getElem? hr2)).kp0 k1
      have hlen := hL.len
      dsimp only [wipe, List.set]
      refine Z.gtup hA.tup rfl ?_
      walk_at "z"
      refine ⟨rfl, ?_⟩
      walk_at "z"
      refine ⟨_, e1, Z.szl (m := 100000) (by rw [List.length_map, List.length_take]; omega), k1.mut nD rfl, ?_⟩
      rw [upd_same, List.take_add_one, hr2, List.map_append]
      rfl
    · rintro D H1 nD ⟨k1, e1⟩
      rw [List.length_map, List.take_length] at e1
      have hF1 := (frs_of hL.at_).kp0 k1
      refine ⟨D, rs.map LRow.c, rs.map LRow.f, rfl, lstL (by rw [e1, List.map_map]; rfl), hF1, hL.sum, fun ok H2 k2 => ?_, fun bad H2 k2 => qE bad _ (k1.trans k2)⟩
      have q := q ok
      walk_at "z"
      refine Z.lstK (fun F H3 nF k3 e3 => ?_)
      walk_at "z"
      have k03 := (k1.trans k2).trans k3
      have nF0 : H F = none := (k1.trans k2).none nin0 nF
      have hA3 : ∀ r ∈ rs, LRowAt K H3 r := fun r hr => (hL.at_ r hr).kp0 k03
      refine srtK (bs := rs.map fun r => (r.a, r.d)) (tabs_kp hT k03) (by rw [List.map_map]; exact k03.seq nin0 hS) (keyrows_of hA3) (by rw [List.map_map]; exact hL.key) fun H4 l e4 T4 nl el => ?_
      rw [srtd_refs] at el
      have hA4 : ∀ r ∈ srtd rs, LRowAt K H4 r := fun r hr => (hA3 r (mem_srtd.mp hr)).ext e4
      have hlF : F ≠ l := nl.ne e3 (by simp)
      have hlen : (srtd rs).length = rs.length := (List.mergeSort_perm rs _).length_eq
      have e04 : ExtN H H4 := (ext_kp k03).trans e4
      have hnF : Nw H F := Nw.of nF0
      have hsl : SqL K H4 l ((srtd rs).map LRow.r) := lstL el
      have hlenR := hL.len
      refine Z.forl ((srtd rs).map LRow.r) hsl (fun i σ' H' => ∃ y2 y3 out, σ' = [some (.ref a), some (.ref F), y2, y3] ∧ ExtN H H' ∧ Tabs (TBS T) H' ∧ H' l = some (.lst ((srtd rs).map LRow.r)) ∧ (∀ r ∈ srtd rs, LRowAt K H' r) ∧ Fnd K H' F ((((srtd rs).map LRow.dat).take i).foldl stp []) out) ?_ ?_ ?_ ?_
      · exact ⟨_, _, [], rfl, e04, T4, el, hA4, ext_get e4 e3, by simp, rfl⟩
      · rintro i σ' H' hi ⟨y2, y3, out, rfl, e5, T5, l5, A5, F5⟩
        exact lstL l5
      · rintro i v σ' H' hv ⟨y2, y3, out, rfl, e5, T5, l5, A5, F5⟩
        rw [List.getElem?_map] at hv
        obtain ⟨r, hr2, rfl⟩ := Option.map_eq_some_iff.mp hv
        have hrm := List.mem_of_getElem? hr2
        have hA := A5 r hrm
        have hi : i < (srtd rs).length := (List.getElem?_eq_some_iff.mp hr2).1
        have hxd : ((srtd rs).map LRow.dat)[i]? = some r.dat := by rw [List.getElem?_map, hr2]; rfl
        have hfs := fold_snoc hxd
        have hol : out.length ≤ i := by
          have h1 := dat_len F5.dat
          have h2 := fold_len (xs := ((srtd rs).map LRow.dat).take i) (acc := [])
          rw [List.length_take] at h2
          simp only [List.length_nil] at h2
          omega
        have hfB := hL.sum.1 r.f (List.mem_map_of_mem (mem_srtd.mp hrm))
        have hpost : ∀ {H6 : Hp} (out' : List LRow), ExtN H H6 → Tabs (TBS T) H6 → H6 l = some (.lst ((srtd rs).map LRow.r)) → (∀ r ∈ srtd rs, LRowAt K H6 r) → ∀ {out6 : List LRow} {D6 : List (PyData × Fr)}, Fnd K H6 F D6 out6 → (∀ r ∈ out', LRowAt K H6 r) → out'.map LRow.dat = stp ((((srtd rs).map LRow.dat).take i).foldl stp []) r.dat →
            ∃ y2 y3 out, [some (V.ref a), some (.ref F), some r.v, some (.ref r.c)] = [some (.ref a), some (.ref F), y2, y3] ∧ ExtN H (upd H6 F (.lst (out'.map LRow.r))) ∧ Tabs (TBS T) (upd H6 F (.lst (out'.map LRow.r))) ∧ (upd H6 F (.lst (out'.map LRow.r))) l = some (.lst ((srtd rs).map LRow.r)) ∧ (∀ r ∈ srtd rs, LRowAt K (upd H6 F (.lst (out'.map LRow.r))) r) ∧ Fnd K (upd H6 F (.lst (out'.map LRow.r))) F ((((srtd rs).map LRow.dat).take (i + 1)).foldl stp []) out := fun {H6} out' e6 T6 l6 A6 {out6 D6} F6 ho hd => by
          have kF : Kp [F] H6 (upd H6 F (.lst (out'.map LRow.r))) := Kp.put (by simp)
          exact ⟨_, _, out', rfl, ext_put e6 kF hnF, tabs_put T6 kF F6.here, (upd_ne hlF.symm).trans l6, fun r hr => (A6 r hr).kpl kF F6.here, F6.put kF upd_same ho (by rw [hd, hfs])⟩
        refine Z.gtup hA.tup rfl ?_
        walk_at "z"
        refine Z.truL F5.here ?_
        rcases List.eq_nil_or_concat out with rfl | ⟨o, y, hoy⟩
        · rw [show (!(List.map LRow.r []).isEmpty) = false from rfl]
          walk_at "z"
          refine ⟨Z.tyL F5.here, ?_⟩
          walk_at "z"
          refine Z.tupK (fun t H6 nt k6 e6 => ?_)
          have F6 := F5.kp0 k6
          walk_at "z"
          refine Z.app F6.here (Z.szl (m := 100000) (by simp)) ?_
          walk_at "z"
          refine hpost [⟨t, r.v, r.d, r.c, r.f⟩] (e5.trans (ext_kp k6)) (tabs_kp T5 k6) (k6.get nin0 l5) (fun r hr => (A5 r hr).kp0 k6) F6 (fun x hx => ?_) ?_
          · rw [List.mem_singleton.mp hx]
            have hA6 := hA.kp0 k6
            exact ⟨tupT e6, hA6.dp, hA6.fr, hA6.ok⟩
          · rw [← F5.dat]
            rfl
        · rw [List.concat_eq_append] at hoy
          subst hoy
          have hD := F5.dat
          rw [List.map_append, List.map_cons, List.map_nil] at hD
          have hy := F5.rows y (by simp)
          have hyB := hL.stp i (y.d, y.f) (by rw [← hD]; simp [LRow.dat])
          have F5h := F5.here
          rw [rmap_snoc] at F5h ⊢
          rw [show (!(List.map LRow.r o ++ [V.ref y.a]).isEmpty) = true by simp]
          walk_at "z"
          refine Z.ixL (lstL F5h) (atI_last _ _) ?_
          walk_at "z"
          refine Z.ixT hy.tup (v := y.v) rfl ?_
          walk_at "z"
          refine ⟨y.d, r.d, hy.dp, hA.dp, hy.ok.sh, hA.ok.sh, ?_⟩
          cases hev : PyData.eqv y.d r.d with
          | true =>
            walk_at "z"
            refine Z.ixL (lstL F5h) (atI_last _ _) ?_
            walk_at "z"
            refine Z.ixT hy.tup (v := .ref y.c) rfl ?_
            walk_at "z"
            refine ⟨y.c, r.c, y.f, r.f, rfl, hy.fr, hA.fr, hyB.2, hfB.2, hyB.1, hfB.1, fun H6 s ns k6 e6 => ?_⟩
            walk_at "z"
            refine Z.tupK (fun t H7 nt k7 e7 => ?_)
            have k57 := k6.trans k7
            have F7 := F5.kp0 k57
            have F7h := F7.here
            rw [rmap_snoc] at F7h
            walk_at "z"
            refine Z.setL F7h (by rw [List.length_append]; exact ixN_last) ?_
            rw [show (List.map LRow.r o ++ [V.ref y.a]).set (List.map LRow.r o).length (.ref t) = (o ++ [(⟨t, r.v, r.d, s, fplus y.f r.f⟩ : LRow)]).map LRow.r by rw [rmap_snoc, List.set_append_right _ _ (Nat.le_refl _), Nat.sub_self]; rfl]
            refine hpost (o ++ [⟨t, r.v, r.d, s, fplus y.f r.f⟩]) (e5.trans (ext_kp k57)) (tabs_kp T5 k57) (k57.get nin0 l5) (fun r hr => (A5 r hr).kp0 k57) F7 (fun x hx => ?_) ?_
            · rcases List.mem_append.mp hx with hx | hx
              · exact F7.rows x (by simp [hx])
              · rw [List.mem_singleton.mp hx]
                have hA7 := hA.kp0 k57
                exact ⟨tupT e7, hA7.dp, e6.kp0 k7, hA7.ok⟩
            · rw [← hD, stp_last, if_pos (show PyData.eqv y.dat.1 r.dat.1 = true from hev), List.map_append]
              rfl
          | false =>
            walk_at "z"
            refine ⟨Z.tyL F5h, ?_⟩
            walk_at "z"
            refine Z.tupK (fun t H6 nt k6 e6 => ?_)
            have F6 := F5.kp0 k6
            walk_at "z"
            refine Z.app F6.here (Z.szl (m := 100000) (by rw [List.length_map]; omega)) ?_
            walk_at "z"
            rw [show (o ++ [y]).map LRow.r ++ [V.ref t] = (o ++ [y] ++ [(⟨t, r.v, r.d, r.c, r.f⟩ : LRow)]).map LRow.r by rw [List.map_append (l₁ := o ++ [y])]; rfl]
            refine hpost (o ++ [y] ++ [⟨t, r.v, r.d, r.c, r.f⟩]) (e5.trans (ext_kp k6)) (tabs_kp T5 k6) (k6.get nin0 l5) (fun r hr => (A5 r hr).kp0 k6) F6 (fun x hx => ?_) ?_
            · rcases List.mem_append.mp hx with hx | hx
              · exact F6.rows x hx
              · rw [List.mem_singleton.mp hx]
                have hA6 := hA.kp0 k6
                exact ⟨tupT e6, hA6.dp, hA6.fr, hA6.ok⟩
            · rw [← hD, stp_last, if_neg (show ¬ PyData.eqv y.dat.1 r.dat.1 = true by show ¬ PyData.eqv y.d r.d = true; rw [hev]; exact Bool.false_ne_true), List.map_append (l₁ := o ++ [y]), List.map_append]
              rfl
      · rintro σ' H' ⟨y2, y3, out, rfl, e5, T5, l5, A5, F5⟩
        rw [List.length_map, ← List.length_map (f := LRow.dat), List.take_length] at F5
        have hol : out.length ≤ rs.length := by
          have h1 := dat_len F5.dat
          have h2 := fold_len (xs := (srtd rs).map LRow.dat) (acc := [])
          rw [List.length_map] at h2
          simp only [List.length_nil] at h2
          omega
        walk_at "z"
        refine Z.lcl (out.map LRow.r) (lstL F5.here) (fun D2 i H6 => ∃ res : List LRow, Kp [] H' H6 ∧ H6 D2 = some (.lst (res.map LRow.r)) ∧ (∀ r ∈ res, LRowAt K H6 r) ∧ res.map LRow.dat = ((out.take i).map LRow.dat).filter fun x => !decide (x.2 = (0, 1))) ?_ ?_ ?_ ?_
        · intro D2 H6 nD2 k6 e6
          exact ⟨[], k6, e6, by simp, by simp⟩
        · rintro D2 i H6 nD2 hi ⟨res, k6, e6, A6, hd6⟩
          exact lstL (k6.get nin0 F5.here)
        · rintro D2 i x H6 nD2 hx ⟨res, k6, e6, A6, hd6⟩
          rw [List.getElem?_map] at hx
          obtain ⟨r, hr2, rfl⟩ := Option.map_eq_some_iff.mp hx
          have hA := (F5.rows r (List.mem_of_getElem? hr2)).kp0 k6
          have hrl : res.length ≤ i := by
            have h1 := dat_len hd6
            have h2 := List.length_filter_le (fun x : PyData × Fr => !decide (x.2 = (0, 1))) ((out.take i).map LRow.dat)
            rw [List.length_map, List.length_take] at h2
            omega
          have hi : i < out.length := (List.getElem?_eq_some_iff.mp hr2).1
          dsimp only [wipe, List.set]
          refine Z.gtup hA.tup rfl ?_
          walk_at "z"
          refine ⟨rfl, ?_⟩
          walk_at "z"
          refine neF (g := (0, 1)) hA.fr (T.q_ZERO _) ?_
          walk_at "z"
          refine Z.iteN (fun h1 => ?_) (fun h1 => ?_)
          · walk_at "z"
            refine Z.tupK (fun t H7 nt k7 e7 => ?_)
            have e7D := k7.get nin0 e6
            refine ⟨_, e7D, Z.szl (m := 100000) (by rw [List.length_map]; omega), res ++ [⟨t, r.v, r.d, r.c, r.f⟩], (k6.trans k7).mut nD2 rfl, by rw [upd_same, rmap_snoc], fun x hx => ?_, ?_⟩
            · have kD : Kp [D2] H7 (upd H7 D2 (.lst (res.map LRow.r ++ [.ref t]))) := Kp.put (by simp)
              rcases List.mem_append.mp hx with hx | hx
              · exact ((A6 x hx).kp0 k7).kpl kD e7D
              · rw [List.mem_singleton.mp hx]
                have hA7 := hA.kp0 k7
                exact LRowAt.kpl (r := ⟨t, r.v, r.d, r.c, r.f⟩) ⟨tupT e7, hA7.dp, hA7.fr, hA7.ok⟩ kD e7D
            · rw [List.map_append, hd6, List.take_add_one, hr2, List.map_append, List.filter_append]
              congr 1
              show [r.dat] = [r.dat].filter _
              rw [List.filter_cons_of_pos (by simp [LRow.dat, h1]), List.filter_nil]
          · walk_at "z"
            refine ⟨res, k6, e6, A6, ?_⟩
            rw [hd6, List.take_add_one, hr2, List.map_append, List.filter_append]
            show _ = _ ++ [r.dat].filter _
            rw [List.filter_cons_of_neg (by simp [LRow.dat, h1]), List.filter_nil, List.append_nil]
        · rintro D2 H6 nD2 ⟨res, k6, e6, A6, hd6⟩
          rw [List.length_map, List.take_length, F5.dat] at hd6
          walk_at "z"
          exact q H6 D2 res (Nw.back (Nw.of nD2) e5) (e5.trans (ext_kp k6)) (tabs_kp T5 k6) e6 A6 hd6
end lawfrom2

/-! ### errors of samphire.errors with fields -/
open PySem in
theorem app_len (a b : Str) : (a ++ b).length = a.length + b.length := by
  show (a.cps ++ b.cps).size = _
  rw [Array.size_append]; rfl
/-- what an own __init__ with fields does: ok says what it is called with, fl which fields it keeps -/
def spErr (C : Addr) (ok : List V → Prop) (fl : List V → List (Str × V)) : Sp := fun vs H Q _ => ∃ (a : Addr) (ws : List V), vs = .ref a :: ws ∧ ok ws ∧ H a = some (exo a C none) ∧
  ∀ d H', H d = none → d ≠ a → H' a = some (exo a C (some d)) → H' d = some (exd d (fl ws)) → (∀ b, b ≠ a → b ≠ d → H' b = H b) → Q .non H'
theorem err_heap {H H' : Hp} {a d : Addr} {o : HO} (ha : H a = none) (h : ∀ b, b ≠ a → b ≠ d → H' b = H b) : upd (del H' a) d o = upd H d o := by
  funext b
  by_cases hd : b = d
  · rw [hd, upd_same, upd_same]
  · rw [upd_ne hd, upd_ne hd]
    by_cases hb : b = a
    · rw [hb, del_same, ha]
    · rw [del_ne hb, h b hb hd]
/-- raise C(..) -/
theorem mkErr {C : Addr} {ok : List V → Prop} {fl : List V → List (Str × V)} {ta : TA} {σ : L2.St} {H : Hp} {Q : XK} (h : ta σ H fun vs H1 => vs.length ≤ 1000 ∧ ok vs ∧ ∀ d, H1 d = none → Q (.ref C) (some d) (upd H1 d (.xd (fl vs)))) (mono : ∀ {R S : List V → Hp → Prop}, (∀ v u, R v u → S v u) → ta σ H R → ta σ H S) : tMkO C (spErr C ok fl) [] ta σ H Q := by
  refine mono ?_ h
  rintro vs H1 ⟨hz, hok, q⟩
  refine ⟨hz, fun a ha => ⟨a, vs, by rw [List.append_nil], hok, upd_same, fun d H' hd hda h1 h2 h3 => ⟨rfl, d, fl vs, h1, h2, ?_, ?_⟩⟩⟩
  · rwa [upd_ne hda] at hd
  · rw [err_heap ha fun b hb hd => by rw [h3 b hb hd, upd_ne hb]]
    refine q d ?_
    rwa [upd_ne hda] at hd
def okWord (ws : List V) : Prop := ∃ s : Str, ws = [.str s] ∧ s.length ≤ 1000
def flOne (f : Str) : List V → List (Str × V)
  | [v] => [(f, v)]
  | _ => []
theorem ok_TooLarge_init {P : Program} {w : World} {K : PySem.W.Frag} {mg : Str → Option Value} {base : Heap} (T : T P K mg base) : FnOk P w K mg base CX0 1 T.a_TooLarge_init ((NF_TooLarge T.cc_TooLarge T.c_TooLarge).fd T.doc_TooLarge T.pm_TooLarge T.ctv_TooLarge) ["self", "limit"] (spErr T.C_TooLarge okWord (flOne "limit")) := by
  refine Sup.fn_super (F := NF_TooLarge T.cc_TooLarge T.c_TooLarge) (p := "self") (ps' := ["limit"]) T.x_TooLarge.S T.lk_TooLarge rfl T.hc_TooLarge sc_TooLarge_init rfl ⟨_, rfl, rfl⟩ rfl rfl (fun _ => rfl) (fun _ => ⟨_, rfl⟩) (fun _ => rfl) (fun vs H Q E h => ?_) (fun A outer s H vs Q E hr h => ?_)
  · obtain ⟨a, ws, rfl, ⟨s, rfl, _⟩, _⟩ := h
    rfl
  · obtain ⟨a, ws, rfl, ⟨s, rfl, hz⟩, ha, q⟩ := h
    refine ⟨a, [.str s], _, _, rfl, ha, pa_cons (pe_joined (.cons pe_str (.cons (pe_fmt (pv 1)) .nil))) pa_nil, pss_one (ps_ost (pv 0) (pv 1)), ?_⟩
    refine ⟨_, rfl, ?_, V.str s, rfl, .inl ⟨s, rfl, Nat.le_trans hz (by decide), s, rfl, ?_, ?_⟩⟩
    · decide +kernel
    · rw [app_len]
      refine Nat.le_trans (Nat.add_le_add (Nat.le_of_eq (show _ = 11 by decide +kernel)) hz) (by decide)
    refine ⟨by show 1 ≤ 1000; decide, ha, V.str s, rfl, V.ref a, rfl, a, T.C_TooLarge, rfl, T.x_TooLarge.S.T, T.nf_TooLarge_limit, .inl ⟨ha, fun d hd hda => ?_⟩⟩
    exact q d _ hd hda upd_same (by rw [upd_ne hda]; exact upd_same) (fun b hb hb2 => by rw [upd_ne hb, upd_ne hb2])

/-! ### samphire.explore, for any weights -/
theorem ok_NotEnded_init {P : Program} {w : World} {K : PySem.W.Frag} {mg : Str → Option Value} {base : Heap} (T : T P K mg base) : FnOk P w K mg base CX0 1 T.a_NotEnded_init ((NF_NotEnded T.cc_NotEnded T.c_NotEnded).fd T.doc_NotEnded T.pm_NotEnded T.ctv_NotEnded) ["self"] (spZD T.C_NotEnded) := by
  refine Sup.fn_super (F := NF_NotEnded T.cc_NotEnded T.c_NotEnded) (p := "self") (ps' := []) T.x_NotEnded.S T.lk_NotEnded rfl T.hc_NotEnded sc_NotEnded_init rfl ⟨_, rfl, rfl⟩ rfl rfl (fun _ => rfl) (fun _ => ⟨_, rfl⟩) (fun _ => rfl) (fun vs H Q E h => ?_) (fun A outer s H vs Q E hr h => ?_)
  · obtain ⟨a, rfl, _⟩ := h
    rfl
  · obtain ⟨a, rfl, ha, q⟩ := h
    exact ⟨a, [], _, _, rfl, ha, pa_cons pe_str pa_nil, pss_nil, by decide, ha, q⟩
section explore
variable {K : PySem.W.Frag}
open LamX LamK
def nextG (ws : List Int) : Nat → Nat → Option Nat
  | 0, _ => none
  | n + 1, s => if 0 < ws.getD s 0 then some s else nextG ws n (s + 1)
def nextN (ws : List Int) (s : Nat) : Option Nat := nextG ws (ws.length - s) s
theorem nextG_spec {ws : List Int} : ∀ {n s k : Nat}, nextG ws n s = some k → s ≤ k ∧ k < s + n ∧ 0 < ws.getD k 0 ∧ ∀ j, s ≤ j → j < k → ¬ 0 < ws.getD j 0
  | 0, _, _, h => by cases h
  | n + 1, s, k, h => by
    unfold nextG at h
    split at h
    · obtain rfl := Option.some.inj h
      exact ⟨Nat.le_refl _, by omega, by assumption, fun j h1 h2 => by omega⟩
    · rename_i hz
      obtain ⟨h1, h2, h3, h4⟩ := nextG_spec h
      refine ⟨by omega, by omega, h3, fun j j1 j2 => ?_⟩
      by_cases e : j = s
      · rw [e]; exact hz
      · exact h4 j (by omega) j2
theorem nextG_none {ws : List Int} : ∀ {n s : Nat}, nextG ws n s = none → ∀ j, s ≤ j → j < s + n → ¬ 0 < ws.getD j 0
  | 0, _, _, j, h1, h2 => by omega
  | n + 1, s, h, j, h1, h2 => by
    unfold nextG at h
    split at h
    · cases h
    · rename_i hz
      by_cases e : j = s
      · rw [e]; exact hz
      · exact nextG_none h j (by omega) (by omega)
theorem nextN_spec {ws : List Int} {s k : Nat} (h : nextN ws s = some k) : s ≤ k ∧ k < ws.length ∧ 0 < ws.getD k 0 ∧ ∀ j, s ≤ j → j < k → ¬ 0 < ws.getD j 0 := by
  obtain ⟨h1, h2, h3, h4⟩ := nextG_spec h
  exact ⟨h1, by omega, h3, h4⟩
theorem nextN_none {ws : List Int} {s : Nat} (h : nextN ws s = none) : ∀ j, s ≤ j → j < ws.length → ¬ 0 < ws.getD j 0 := fun j h1 h2 => nextG_none h j h1 (by omega)
def nextV (ws : List Int) (s : Nat) : V := match nextN ws s with
  | some i => .int (i : Int)
  | none => .non
theorem atInts {ws : List Int} {i : Nat} (h : i < ws.length) : (ws.map V.int)[i]? = some (.int (ws.getD i 0)) := by
  rw [List.getElem?_map, List.getD_eq_getElem?_getD, List.getElem?_eq_getElem h]; rfl
def spNext (K : PySem.W.Frag) : Sp := fun vs H Q _ => ∃ (a : Addr) (ws : List Int) (s : Nat), vs = [.ref a, .int (s : Int)] ∧ SqL K H a (ws.map V.int) ∧ ws.length ≤ 1000 ∧ s ≤ 1000 ∧ Q (nextV ws s) H
theorem ok_next_number {P : Program} {w : World} {K : PySem.W.Frag} {mg : Str → Option Value} {base : Heap} (T : T P K mg base) : FnOk P w K mg base CX0 1 T.a_next_number T.fd_next_number ["weights", "start"] (spNext K) := by
  refine T.F_next_number.ok sc_next_number (fun vs H Q E h => ?_) (fun cdv A outer s H vs Q E hr h => ?_)
  · obtain ⟨a, n, s, rfl, _⟩ := h
    rfl
  · obtain ⟨a, ws, z, rfl, hS, hn, hz, q⟩ := h
    refine ⟨_, (pss_cons (ps_for PassesOwn.never rfl (pi_range2 (by rfl) T.z_range (pa_cons (pv 1) (pa_cons (pe_callB c_len (by rfl) T.z_len (by decide +kernel) (pa_cons (pv 0) pa_nil)) pa_nil))) (pg_name (i := 2) sc_next_number.nd rfl (by first | exact Or.inl rfl | exact Or.inr rfl)) (pss_one (ps_if (pt_cmpR op_gt (pe_ix ix_list (pv 0) (pv 2) (fun _ _ => rfl)) pe_int (nomark _)) (pss_one (ps_ret (pv 2))) pss_nil)))
      (pss_one (ps_ret pe_non))), ?_⟩
    unfold nextV nextN at q
    walk_at "z0"
    walk_at "z"
    refine Z.lenL hS ?_
    rw [List.length_map]
    walk_at "z"
    refine Z.forr2 (ws.length - z) (by omega) (by omega) (fun i σ' H' => ∃ y, H' = H ∧ nextG ws (ws.length - z) z = nextG ws (ws.length - z - i) (z + i) ∧ σ' = [some (.ref a), some (.int (z : Int)), y]) ?_ ?_ ?_
    · exact ⟨_, rfl, rfl, rfl⟩
    · rintro i σ' H' hi ⟨y, rfl, e, rfl⟩
      have hzn : z + i < ws.length := by omega
      walk_at "z"
      rw [show (z : Int) + (i : Int) = ((z + i : Nat) : Int) by omega]
      refine Z.ixL hS (atI_nat (atInts hzn)) ?_
      walk_at "z"
      have e2 : ws.length - z - i = (ws.length - z - (i + 1)) + 1 := by omega
      rw [e2, show nextG ws (ws.length - z - (i + 1) + 1) (z + i) = (if 0 < ws.getD (z + i) 0 then some (z + i) else nextG ws (ws.length - z - (i + 1)) (z + i + 1)) from rfl] at e
      refine Z.ite (fun h1 => ?_) (fun h1 => ?_)
      · walk_at "z"
        rw [if_pos h1] at e
        rw [e] at q
        exact q
      · walk_at "z"
        rw [if_neg h1] at e
        exact ⟨_, rfl, e, rfl⟩
    · rintro σ' H' ⟨y, rfl, h0, rfl⟩
      walk_at "z"
      rw [show ws.length - z - (ws.length - z) = 0 by omega] at h0
      rw [h0] at q
      exact q
/-- weights that are picked by -/
structure WOk (ws : List Int) : Prop where
  each : ∀ z ∈ ws, 0 ≤ z ∧ z ≤ 2 ^ 700
  len : ws.length ≤ 500
  pos : 0 < ws.sum
theorem sum_ge0 : ∀ {l : List Int}, (∀ z ∈ l, 0 ≤ z ∧ z ≤ 2 ^ 700) → 0 ≤ l.sum ∧ l.sum ≤ 2 ^ 700 * (l.length : Int)
  | [], _ => by simp
  | a :: r, h => by
    have h1 := h a (by simp)
    have h2 := sum_ge0 (l := r) fun z hz => h z (by simp [hz])
    rw [List.sum_cons, List.length_cons]
    omega
theorem WOk.sumB {ws : List Int} (h : WOk ws) : ws.sum.natAbs < 2 ^ 710 := by
  have := sum_ge0 h.each
  have := h.len
  omega
theorem WOk.at {ws : List Int} (h : WOk ws) (k : Nat) : 0 ≤ ws.getD k 0 ∧ ws.getD k 0 ≤ 2 ^ 700 := by
  rw [List.getD_eq_getElem?_getD]
  cases e : ws[k]? with
  | none => exact ⟨by decide, by decide⟩
  | some z => exact h.each z (List.mem_of_getElem? e)
theorem sum_zero : ∀ {l : List Int}, (∀ j, j < l.length → ¬ 0 < l.getD j 0) → l.sum ≤ 0
  | [], _ => by simp
  | a :: r, h => by
    have h1 := h 0 (by simp)
    have h2 := sum_zero (l := r) fun j hj => h (j + 1) (by simp; omega)
    rw [List.sum_cons]
    have : (a :: r).getD 0 0 = a := rfl
    omega
theorem WOk.first {ws : List Int} (h : WOk ws) : ∃ k, nextN ws 0 = some k := by
  cases e : nextN ws 0 with
  | some k => exact ⟨k, rfl⟩
  | none =>
    have := sum_zero fun j hj => nextN_none e j (by omega) hj
    have := h.pos
    omega
/-- a place of a path: the tuple at t, the copied weights at w, the number k, the chance before at b -/
structure PI where
  t : Addr
  w : Addr
  k : Nat
  b : Addr
  f : Fr
  ws : List Int
abbrev Dt := List Int × Nat × Fr
def PI.r (x : PI) : V := .ref x.t
def PI.dat (x : PI) : Dt := (x.ws, x.k, x.f)
structure PIAt (K : PySem.W.Frag) (H : Hp) (x : PI) : Prop where
  tup : SqT K H x.t [.ref x.w, .int x.ws.sum, .int (x.k : Int), .ref x.b]
  wat : H x.w = some (.lst (x.ws.map V.int))
  fr : FrAt K H x.b x.f
  lt : x.k < x.ws.length
  wok : WOk x.ws
  small : FrB 1000 x.f ∧ x.f.2 ≠ 0
def isInts (o : Option HO) : Prop := ∃ ws : List Int, ws ≠ [] ∧ o = some (.lst (ws.map V.int))
theorem PIAt.ne {H : Hp} {x : PI} (h : PIAt K H x) : x.ws ≠ [] := fun z => by
  have := h.lt
  rw [z] at this
  exact absurd this (by simp)
theorem PIAt.kpM {M : List Addr} {H H' : Hp} {x : PI} (h : PIAt K H x) (k : Kp M H H') (nt : ∀ y ∈ M, NoTup H y) (nw : ∀ y ∈ M, ¬ isInts (H y)) : PIAt K H' x :=
  ⟨kpTup h.tup k nt, k.get (fun z => nw _ z ⟨x.ws, h.ne, h.wat⟩) h.wat, FrAt.kp h.fr k nt, h.lt, h.wok, h.small⟩
theorem PIAt.kp0 {H H' : Hp} {x : PI} (h : PIAt K H x) (k : Kp [] H H') : PIAt K H' x := h.kpM k (by simp) (by simp)
theorem PIAt.ext {H H' : Hp} {x : PI} (h : PIAt K H x) (e : ExtN H H') : PIAt K H' x := ⟨ext_tup e h.tup, ext_get e h.wat, ext_tup e h.fr, h.lt, h.wok, h.small⟩
def stepF (ws : List Int) (k : Nat) (f : Fr) : Fr := ftimes f (lo (ws.getD k 0) ws.sum)
def chD (ds : List Dt) : Fr := match ds.getLast? with
  | some x => stepF x.1 x.2.1 x.2.2
  | none => (1, 1)
theorem chD_last {o : List Dt} {x : Dt} : chD (o ++ [x]) = stepF x.1 x.2.1 x.2.2 := by unfold chD; rw [List.getLast?_concat]
def spBehind (K : PySem.W.Frag) : Sp := fun vs H Q _ => ∃ (p : Addr) (ps : List PI), vs = [.ref p] ∧ H p = some (.lst (ps.map PI.r)) ∧ (∀ x ∈ ps, PIAt K H x) ∧ ∀ H' c, Kp [] H H' → FrAt K H' c (chD (ps.map PI.dat)) → Q (.ref c) H'
theorem ok_chance_behind {P : Program} {w : World} {K : PySem.W.Frag} {mg : Str → Option Value} {base : Heap} (T : T P K mg base) : FnOk P w K mg base CX0 5 T.a_chance_behind T.fd_chance_behind ["path"] (spBehind K) := by
  refine T.F_chance_behind.ok sc_chance_behind (fun vs H Q E h => ?_) (fun cdv A outer s H vs Q E hr h => ?_)
  · obtain ⟨p, ps, rfl, _⟩ := h
    rfl
  · obtain ⟨p, ps, rfl, hp, hA, q⟩ := h
    refine ⟨_, (pss_cons (ps_if (pt_not (pt_truth (pv 0) (by intro _; rfl))) (pss_one (ps_ret (pe_glob (v := .ref T.k_ONE) (by rfl) T.g_ONE rfl))) pss_nil)
      (pss_cons (ps_asg (pe_ix ix_list (pv 0) (pe_un un_neg pe_int) (fun _ _ => rfl)) (pg_tup rfl (pgs_cons (pg_name (i := 1) sc_chance_behind.nd rfl (by first | exact Or.inl rfl | exact Or.inr rfl)) (pgs_cons (pg_name (i := 2) sc_chance_behind.nd rfl (by first | exact Or.inl rfl | exact Or.inr rfl)) (pgs_cons (pg_name (i := 3) sc_chance_behind.nd rfl (by first | exact Or.inl rfl | exact Or.inr rfl)) (pgs_cons (pg_name (i := 4) sc_chance_behind.nd rfl (by first | exact Or.inl rfl | exact Or.inr rfl)) pgs_nil))))))
      (pss_one (ps_ret (pe_call (ok_times T) (hr.mono (by decide)) (by rfl) T.g_times T.F_times.kp T.b_times .nil pass0 (pa_cons (pv 4) (pa_cons (pe_call (ok_lowest T) (hr.mono (by decide)) (by rfl) T.g_lowest T.F_lowest.kp T.b_lowest .nil passL (pa_cons (pe_ix ix_list (pv 1) (pv 3) (fun _ _ => rfl)) (pa_cons (pv 2) pa_nil))) pa_nil))))))), ?_⟩
    walk_at "z0"
    walk_at "z"
    refine Z.truL hp ?_
    rcases List.eq_nil_or_concat ps with rfl | ⟨o, x, hox⟩
    · rw [show (!(List.map PI.r []).isEmpty) = false from rfl]
      walk_at "z"
      exact q _ _ (Kp.refl _) (T.q_ONE _)
    · rw [List.concat_eq_append] at hox
      subst hox
      rw [show (!(List.map PI.r (o ++ [x])).isEmpty) = true by simp]
      rw [List.map_append] at hp
      have hx := hA x (by simp)
      walk_at "z"
      refine Z.ixL (lstL hp) (atI_last _ _) ?_
      refine Z.gtup hx.tup rfl ?_
      walk_at "z"
      refine Z.ixL (lstL hx.wat) (atI_nat (atInts hx.lt)) ?_
      walk_at "z"
      have hn0 : x.ws.sum ≠ 0 := by have := hx.wok.pos; omega
      have hnb : x.ws.sum.natAbs < 2 ^ 1000 := up_B hx.wok.sumB (by decide)
      have hw := hx.wok.at x.k
      refine ⟨_, _, rfl, up_B hnb (by decide), fun z => absurd z hn0, fun _ H2 c nc k2 e2 => ?_⟩
      walk_at "z"
      refine ⟨x.b, c, x.f, lo (x.ws.getD x.k 0) x.ws.sum, rfl, hx.fr.kp0 k2, e2, hx.small.2, (lo_low hn0).ne, hx.small.1.mono (by decide), (lo_B hn0 (up_B (n := 710) (by omega) (by decide)) hnb).mono (by decide), fun H3 d nd k3 e3 => ?_⟩
      walk_at "z"
      refine q H3 d (k2.trans k3) ?_
      rw [List.map_append, List.map_singleton, chD_last]
      exact e3
/-- what follows -/
def folL : List Dt → Option (List Dt)
  | [] => none
  | x :: r => match folL r with
    | some q => some (x :: q)
    | none => match nextN x.1 (x.2.1 + 1) with
      | some k => some [(x.1, k, x.2.2)]
      | none => none
theorem folL_app {x : Dt} {suf : List Dt} {k : Nat} (h : folL suf = none) (hk : nextN x.1 (x.2.1 + 1) = some k) : ∀ pre : List Dt, folL (pre ++ x :: suf) = some (pre ++ [(x.1, k, x.2.2)])
  | [] => by
    show folL (x :: suf) = _
    unfold folL
    rw [h, hk]
    rfl
  | y :: pre => by
    have ih := folL_app h hk pre
    show folL (y :: (pre ++ x :: suf)) = _
    unfold folL
    rw [ih]
    rfl
theorem folL_none {x : Dt} {suf : List Dt} (h : folL suf = none) (hk : nextN x.1 (x.2.1 + 1) = none) : folL (x :: suf) = none := by
  unfold folL
  rw [h, hk]
def spFol (K : PySem.W.Frag) : Sp := fun vs H Q _ => ∃ (p : Addr) (ps : List PI), vs = [.ref p] ∧ H p = some (.lst (ps.map PI.r)) ∧ (∀ x ∈ ps, PIAt K H x) ∧ ps.length ≤ 1000 ∧ (folL (ps.map PI.dat) = none → ∀ H', Kp [] H H' → Q .non H') ∧
  ∀ (H' : Hp) (p' : Addr) (ps' : List PI), H p' = none → Kp [] H H' → H' p' = some (.lst (ps'.map PI.r)) → (∀ z ∈ ps', PIAt K H' z) → folL (ps.map PI.dat) = some (ps'.map PI.dat) → Q (.ref p') H'
theorem PIAt.up {H : Hp} {x : PI} {t : Addr} {k : Nat} (h : PIAt K H x) (l : k < x.ws.length) (e : H t = some (.tup [.ref x.w, .int x.ws.sum, .int (k : Int), .ref x.b])) : PIAt K H ⟨t, x.w, k, x.b, x.f, x.ws⟩ := ⟨tupT e, h.wat, h.fr, l, h.wok, h.small⟩
theorem ok_following {P : Program} {w : World} {K : PySem.W.Frag} {mg : Str → Option Value} {base : Heap} (T : T P K mg base) : FnOk P w K mg base CX0 2 T.a_following T.fd_following ["path"] (spFol K) := by
  refine T.F_following.ok sc_following (fun vs H Q E h => ?_) (fun cdv A outer s H vs Q E hr h => ?_)
  · obtain ⟨p, ps, rfl, _⟩ := h
    rfl
  · obtain ⟨p, ps, rfl, hp, hA, hpl, q0, q⟩ := h
    refine ⟨_, (pss_cons (ps_for PassesOwn.never rfl (pi_revR (by rfl) T.z_reversed (prg_1 (by rfl) T.z_range (pe_callB c_len (by rfl) T.z_len (by decide +kernel) (pa_cons (pv 0) pa_nil)))) (pg_name (i := 1) sc_following.nd rfl (by first | exact Or.inl rfl | exact Or.inr rfl)) (pss_cons (ps_asg (pe_ix ix_list (pv 0) (pv 1) (fun _ _ => rfl)) (pg_tup rfl (pgs_cons (pg_name (i := 2) sc_following.nd rfl (by first | exact Or.inl rfl | exact Or.inr rfl)) (pgs_cons (pg_name (i := 3) sc_following.nd rfl (by first | exact Or.inl rfl | exact Or.inr rfl)) (pgs_cons (pg_name (i := 4) sc_following.nd rfl (by first | exact Or.inl rfl | exact Or.inr rfl)) (pgs_cons (pg_name (i := 5) sc_following.nd rfl (by first | exact Or.inl rfl | exact Or.inr rfl)) pgs_nil))))))
      (pss_cons (ps_set (i := 6) sc_following.nd rfl (by first | exact Or.inl rfl | exact Or.inr rfl) (pe_call (ok_next_number T) (hr.mono (by decide)) (by rfl) T.g_next_number T.F_next_number.kp T.b_next_number .nil pass0 (pa_cons (pv 2) (pa_cons (pe_op op_add (pv 4) pe_int) pa_nil))))
      (pss_one (ps_if (pt_cmpR o_notN (pv 6) pe_non (nomark _)) (pss_one (ps_ret (pe_op op_cat (pe_slice sl_list (pv 0) po_none (po_some (pv 1))) (pe_lst (pa_cons (pe_tup (pa_cons (pv 2) (pa_cons (pv 3) (pa_cons (pv 6) (pa_cons (pv 5) pa_nil))))) pa_nil))))) pss_nil)))))
      (pss_one (ps_ret pe_non))), ?_⟩
    walk_at "z0"
    walk_at "z"
    refine Z.lenL (lstL hp) ?_
    rw [List.length_map]
    walk_at "z"
    refine Z.forrv ps.length rfl (by omega) (fun i σ' H' => H' = H ∧ folL ((ps.drop (ps.length - i)).map PI.dat) = none ∧ ∃ y1 y2 y3 y4 y5 y6, σ' = [some (.ref p), y1, y2, y3, y4, y5, y6]) ?_ ?_ ?_
    · exact ⟨rfl, by rw [Nat.sub_zero, List.drop_length]; rfl, _, _, _, _, _, _, rfl⟩
    · rintro i σ' H' hi ⟨rfl, hno, y1, y2, y3, y4, y5, y6, rfl⟩
      obtain ⟨j, hj⟩ : ∃ j, ps.length - 1 - i = j := ⟨_, rfl⟩
      have hjl : j < ps.length := by omega
      have hx : ps[j]? = some ps[j] := List.getElem?_eq_getElem hjl
      have hdrop : ps.drop j = ps[j] :: ps.drop (j + 1) := List.drop_eq_getElem_cons hjl
      rw [show ps.length - i = j + 1 by omega] at hno
      generalize ps[j] = x at hx hdrop
      have hxA := hA x (List.mem_of_getElem? hx)
      rw [hj]
      walk_at "z"
      refine Z.ixL (lstL hp) (atI_nat (by rw [List.getElem?_map, hx]; rfl)) ?_
      refine Z.gtup hxA.tup rfl ?_
      walk_at "z"
      have hxl := hxA.lt
      have hwl := hxA.wok.len
      refine ⟨x.w, x.ws, x.k + 1, rfl, lstL hxA.wat, by omega, by omega, ?_⟩
      unfold nextV
      cases hk : nextN x.ws (x.k + 1) with
      | some k =>
        have hks := nextN_spec hk
        walk_at "z"
        refine Z.yesN (by simp) ?_
        walk_at "z"
        refine Z.slL (lstL hp) (fun d H1 nd k1 e1 => ?_)
        rw [Z.cut_take (by rw [List.length_map]; omega), ← List.map_take] at e1
        walk_at "z"
        refine Z.tupK (fun t H2 nt k2 e2 => ?_)
        walk_at "z"
        refine Z.lstK (fun c H3 nc k3 e3 => ?_)
        refine Z.cat ((k2.trans k3).get nin0 e1) e3 (by rw [List.length_map, List.length_take]; show min j ps.length + 1 ≤ 100000; omega) (fun g H4 ng k4 e4 => ?_)
        walk_at "z"
        have k14 := k1.trans (k2.trans (k3.trans k4))
        have ng0 : H' g = none := (k1.trans (k2.trans k3)).none nin0 ng
        refine q H4 g (ps.take j ++ [⟨t, x.w, k, x.b, x.f, x.ws⟩]) ng0 k14 (by rw [e4, List.map_append]; rfl) (fun u hu => ?_) ?_
        · rcases List.mem_append.mp hu with hu | hu
          · exact (hA u (List.mem_of_mem_take hu)).kp0 k14
          · rw [List.mem_singleton.mp hu]
            exact (hxA.kp0 k14).up hks.2.1 ((k3.trans k4).get nin0 e2)
        · have e5 : ps.map PI.dat = (ps.take j).map PI.dat ++ x.dat :: (ps.drop (j + 1)).map PI.dat := by
            rw [← List.map_cons, ← hdrop, ← List.map_append, List.take_append_drop]
          rw [e5, folL_app hno hk, List.map_append]
          rfl
      | none =>
        walk_at "z"
        refine Z.noN rfl ?_
        walk_at "z"
        refine ⟨rfl, ?_, _, _, _, _, _, _, rfl⟩
        rw [show ps.length - (i + 1) = j by omega, hdrop, List.map_cons]
        exact folL_none hno hk
    · rintro σ' H' ⟨rfl, hno, y1, y2, y3, y4, y5, y6, rfl⟩
      walk_at "z"
      rw [Nat.sub_self, List.drop_zero] at hno
      exact q0 hno _ (Kp.refl _)
end explore

section explore2
variable {K : PySem.W.Frag}
open LamX LamK
/-- the fields of an explorer -/
def ef (p : Addr) (m : Nat) (run fin : Bool) (w : Addr) : List (Str × V) := [("_path", .ref p), ("_made", .int (m : Int)), ("_running", .bl run), ("_finished", .bl fin), ("_rows", .ref w)]
section
variable {p p' w w' : Addr} {m m' : Nat} {run fin b : Bool}
theorem ef_p : (ef p m run fin w).lookup ("_path" : Str) = some (.ref p) := by rfl
theorem ef_m : (ef p m run fin w).lookup ("_made" : Str) = some (.int (m : Int)) := by rfl
theorem ef_r : (ef p m run fin w).lookup ("_running" : Str) = some (.bl run) := by rfl
theorem ef_f : (ef p m run fin w).lookup ("_finished" : Str) = some (.bl fin) := by rfl
theorem ef_w : (ef p m run fin w).lookup ("_rows" : Str) = some (.ref w) := by rfl
theorem ef_pp : putF "_path" (.ref p') (ef p m run fin w) = ef p' m run fin w := by kernel_rfl
theorem ef_pm : putF "_made" (.int (m' : Int)) (ef p m run fin w) = ef p m' run fin w := by kernel_rfl
theorem ef_pr : putF "_running" (.bl b) (ef p m run fin w) = ef p m b fin w := by kernel_rfl
theorem ef_pf : putF "_finished" (.bl b) (ef p m run fin w) = ef p m run b w := by kernel_rfl
theorem ef_mk : putF "_rows" (.ref w) (putF "_finished" (.bl false) (putF "_running" (.bl false) (putF "_made" (.int 0) (putF "_path" (.ref p) [])))) = ef p 0 false false w := by kernel_rfl
theorem ef_pm0 : putF "_made" (.int 0) (ef p m run fin w) = ef p 0 run fin w := by kernel_rfl
theorem ef_mup : putF "_made" (.int ((m : Int) + 1)) (ef p m run fin w) = ef p (m + 1) run fin w := by kernel_rfl
end
/-- an explorer -/
structure Ex (K : PySem.W.Frag) (C : Addr) (H : Hp) (e p w : Addr) (ps : List PI) (rs : List LRow) (m : Nat) (run fin : Bool) : Prop where
  ob : ∃ dx, H e = some (.ins C dx (ef p m run fin w))
  path : H p = some (.lst (ps.map PI.r))
  items : ∀ x ∈ ps, PIAt K H x
  rows : H w = some (.lst (rs.map LRow.r))
  rat : ∀ r ∈ rs, LRowAt K H r
  pw : p ≠ w
theorem Ex.kp0 {C : Addr} {H H' : Hp} {e p w : Addr} {ps : List PI} {rs : List LRow} {m : Nat} {run fin : Bool} (h : Ex K C H e p w ps rs m run fin) (k : Kp [] H H') : Ex K C H' e p w ps rs m run fin :=
  ⟨let ⟨dx, o⟩ := h.ob; ⟨dx, k.get nin0 o⟩, k.get nin0 h.path, fun x hx => (h.items x hx).kp0 k, k.get nin0 h.rows, fun r hr => (h.rat r hr).kp0 k, h.pw⟩
theorem refs_noInts {rs : List V} (h : ∀ v ∈ rs, ∃ a, v = .ref a) : ¬ isInts (some (.lst rs)) := fun ⟨ws, hne, e⟩ => by
  have e2 := HO.lst.inj (Option.some.inj e)
  obtain ⟨z, r, rfl⟩ := List.exists_cons_of_ne_nil hne
  obtain ⟨a, ha⟩ := h (.int z) (by rw [e2]; simp)
  cases ha
theorem Ex.nt {C : Addr} {H : Hp} {e p w : Addr} {ps : List PI} {rs : List LRow} {m : Nat} {run fin : Bool} (h : Ex K C H e p w ps rs m run fin) : ∀ y ∈ [e, p, w], NoTup H y := fun y hy => by
  obtain ⟨dx, o⟩ := h.ob
  rcases List.mem_cons.mp hy with rfl | hy
  · exact NoTup.of o fun xs => ⟨by simp, by simp⟩
  rcases List.mem_cons.mp hy with rfl | hy
  · exact NoTup.lst h.path
  · rw [List.mem_singleton.mp hy]
    exact NoTup.lst h.rows
theorem Ex.nw {C : Addr} {H : Hp} {e p w : Addr} {ps : List PI} {rs : List LRow} {m : Nat} {run fin : Bool} (h : Ex K C H e p w ps rs m run fin) : ∀ y ∈ [e, p, w], ¬ isInts (H y) := fun y hy => by
  obtain ⟨dx, o⟩ := h.ob
  rcases List.mem_cons.mp hy with rfl | hy
  · rw [o]
    rintro ⟨ws, _, e⟩
    cases e
  rcases List.mem_cons.mp hy with rfl | hy
  · rw [h.path]
    exact refs_noInts fun v hv => by
      obtain ⟨x, _, rfl⟩ := List.mem_map.mp hv
      exact ⟨_, rfl⟩
  · rw [List.mem_singleton.mp hy, h.rows]
    exact refs_noInts fun v hv => by
      obtain ⟨x, _, rfl⟩ := List.mem_map.mp hv
      exact ⟨_, rfl⟩
theorem Ex.ep {C : Addr} {H : Hp} {e p w : Addr} {ps : List PI} {rs : List LRow} {m : Nat} {run fin : Bool} (h : Ex K C H e p w ps rs m run fin) : p ≠ e := let ⟨_, o⟩ := h.ob; ne_of h.path o (by intro z; cases z)
theorem Ex.ew {C : Addr} {H : Hp} {e p w : Addr} {ps : List PI} {rs : List LRow} {m : Nat} {run fin : Bool} (h : Ex K C H e p w ps rs m run fin) : w ≠ e := let ⟨_, o⟩ := h.ob; ne_of h.rows o (by intro z; cases z)
/-- written at e, p or w: the items and the rows' contents stay -/
theorem Ex.items' {C : Addr} {H H' : Hp} {e p w : Addr} {ps : List PI} {rs : List LRow} {m : Nat} {run fin : Bool} (h : Ex K C H e p w ps rs m run fin) (k : Kp [e, p, w] H H') {x : PI} (hx : PIAt K H x) : PIAt K H' x := hx.kpM k h.nt h.nw
theorem Ex.rat' {C : Addr} {H H' : Hp} {e p w : Addr} {ps : List PI} {rs : List LRow} {m : Nat} {run fin : Bool} (h : Ex K C H e p w ps rs m run fin) (k : Kp [e, p, w] H H') {r : LRow} (hx : LRowAt K H r) : LRowAt K H' r := hx.kpM k h.nt
theorem Ex.ext {C : Addr} {H H' : Hp} {e p w : Addr} {ps : List PI} {rs : List LRow} {m : Nat} {run fin : Bool} (h : Ex K C H e p w ps rs m run fin) (k : ExtN H H') : Ex K C H' e p w ps rs m run fin :=
  ⟨let ⟨dx, o⟩ := h.ob; ⟨dx, ext_get k o⟩, ext_get k h.path, fun x hx => (h.items x hx).ext k, ext_get k h.rows, fun r hr => (h.rat r hr).ext k, h.pw⟩
def spExInit (K : PySem.W.Frag) (C : Addr) : Sp := fun vs H Q _ => ∃ (e dx : Addr), vs = [.ref e] ∧ H e = some (.ins C dx []) ∧ ∀ H' p w, H p = none → H w = none → p ≠ w → Kp [e] H H' → Ex K C H' e p w [] [] 0 false false → Q .non H'
theorem ok_Explorer_init {P : Program} {w : World} {K : PySem.W.Frag} {mg : Str → Option Value} {base : Heap} (T : T P K mg base) : FnOk P w K mg base CX0 1 T.a_Explorer_init T.fd_Explorer_init ["self"] (spExInit K T.C_Explorer) := by
  refine T.F_Explorer_init.ok sc_Explorer_init (fun vs H Q E h => ?_) (fun cdv A outer s H vs Q E hr h => ?_)
  · obtain ⟨e, dx, rfl, _⟩ := h
    rfl
  · obtain ⟨e, dx, rfl, he, q⟩ := h
    refine ⟨_, (pss_cons (ps_fld (pv 0) (pe_lst pa_nil) rfl)
      (pss_cons (ps_fld (pv 0) pe_int rfl)
      (pss_cons (ps_fld (pv 0) pe_bl rfl)
      (pss_cons (ps_fld (pv 0) pe_bl rfl)
      (pss_one (ps_fld (pv 0) (pe_lst pa_nil) rfl)))))), ?_⟩
    walk_at "z0"
    walk_at "z"
    refine Z.lstK (fun p H1 np k1 e1 => ?_)
    have he1 := k1.get nin0 he
    have npe : p ≠ e := ne_of e1 he1 (by intro z; cases z)
    walk_at "z"
    refine ⟨e, _, dx, [], rfl, he1, T.cl_Explorer, T.na_Explorer__path, by decide, ?_⟩
    walk_at "z"
    refine ⟨e, _, dx, _, rfl, upd_same, T.cl_Explorer, T.na_Explorer__made, by show 1 < 1000; decide, ?_⟩
    walk_at "z"
    rw [upd_upd]
    refine ⟨e, _, dx, _, rfl, upd_same, T.cl_Explorer, T.na_Explorer__running, by show 2 < 1000; decide, ?_⟩
    walk_at "z"
    rw [upd_upd]
    refine ⟨e, _, dx, _, rfl, upd_same, T.cl_Explorer, T.na_Explorer__finished, by show 3 < 1000; decide, ?_⟩
    walk_at "z"
    rw [upd_upd]
    refine Z.lstK (fun w H2 nw k2 e2 => ?_)
    walk_at "z"
    refine ⟨e, _, dx, _, rfl, k2.get nin0 upd_same, T.cl_Explorer, T.na_Explorer__rows, by show 4 < 1000; decide, ?_⟩
    walk_at "z"
    rw [ef_mk]
    have hwe : w ≠ e := by
      rintro rfl
      rw [upd_same] at nw
      cases nw
    have nw1 : H1 w = none := by rwa [upd_ne hwe] at nw
    have npw : p ≠ w := ne_of_none e1 nw1
    refine q _ p w np (k1.none nin0 nw1) npw ((((k1.sub (by simp)).trans (Kp.put (by simp))).trans (k2.sub (by simp))).trans (Kp.put (by simp))) ⟨⟨dx, upd_same⟩, ?_, by simp, ?_, by simp, npw⟩
    · rw [upd_ne npe]
      exact k2.get nin0 ((upd_ne npe).trans e1)
    · rw [upd_ne hwe]
      exact e2
end explore2
section explore3
variable {K : PySem.W.Frag}
open LamX LamK
def beginD (ds : List Dt) (rs : List LRow) : Option (List Dt) := match rs with
  | [] => some []
  | _ :: _ => folL ds
/-- the state behind: written at e alone -/
theorem Ex.setE {C : Addr} {H H' : Hp} {e p w : Addr} {ps : List PI} {rs : List LRow} {m m' : Nat} {run fin run' fin' : Bool} (h : Ex K C H e p w ps rs m run fin) (k : Kp [e] H H') (o : ∃ dx, H' e = some (.ins C dx (ef p m' run' fin' w))) : Ex K C H' e p w ps rs m' run' fin' :=
  have k3 : Kp [e, p, w] H H' := k.sub (by simp)
  ⟨o, k.get (nin1 h.ep) h.path, fun x hx => h.items' k3 (h.items x hx), k.get (nin1 h.ew) h.rows, fun r hr => h.rat' k3 (h.rat r hr), h.pw⟩
theorem Ex.setP {C : Addr} {H H' : Hp} {e p w p' : Addr} {ps ps' : List PI} {rs : List LRow} {m m' : Nat} {run fin run' fin' : Bool} (h : Ex K C H e p w ps rs m run fin) (k : Kp [e] H H') (o : ∃ dx, H' e = some (.ins C dx (ef p' m' run' fin' w))) (hp : H p' = some (.lst (ps'.map PI.r))) (ne : p' ≠ e) (nw : p' ≠ w) (hA : ∀ x ∈ ps', PIAt K H x) : Ex K C H' e p' w ps' rs m' run' fin' :=
  have k3 : Kp [e, p, w] H H' := k.sub (by simp)
  ⟨o, k.get (nin1 ne) hp, fun x hx => h.items' k3 (hA x hx), k.get (nin1 h.ew) h.rows, fun r hr => h.rat' k3 (h.rat r hr), nw⟩
def spBegin (K : PySem.W.Frag) (C CT CN : Addr) : Sp := fun vs H Q E => ∃ (e p w : Addr) (ps : List PI) (rs : List LRow) (m : Nat) (run fin : Bool), vs = [.ref e] ∧ Ex K C H e p w ps rs m run fin ∧ ps.length ≤ 1000 ∧
  (run = true → ∀ H', Kp [] H H' → E (.ref CN) none H') ∧
  (run = false → beginD (ps.map PI.dat) rs = none → ∀ H', Kp [e] H H' → Ex K C H' e p w ps rs m false true → Q (.bl false) H') ∧
  (run = false → ∀ D, beginD (ps.map PI.dat) rs = some D → rs.length = 20000 → ∀ (H' : Hp) (d : Addr), Kp [] H H' → H' d = none → E (.ref CT) (some d) (upd H' d (.xd (flOne "limit" [.str "runs"])))) ∧
  (run = false → ∀ D, beginD (ps.map PI.dat) rs = some D → rs.length ≠ 20000 → ∀ (H' : Hp) (p' : Addr) (ps' : List PI), Kp [e] H H' → Ex K C H' e p' w ps' rs 0 true fin → H p' = none → ps'.map PI.dat = D → Q (.bl true) H')
theorem ok_Explorer_begin {P : Program} {w : World} {K : PySem.W.Frag} {mg : Str → Option Value} {base : Heap} (T : T P K mg base) : FnOk P w K mg base (L2.CX P w) 3 T.a_Explorer_begin T.fd_Explorer_begin ["self"] (spBegin K T.C_Explorer T.C_TooLarge T.C_NotEnded) := by
  refine T.F_Explorer_begin.okX sc_Explorer_begin (fun vs H Q E h => ?_) (fun cdv A outer s H vs Q E hr h => ?_)
  · obtain ⟨e, p, w, ps, rs, m, run, fin, rfl, _⟩ := h
    rfl
  · obtain ⟨e, p, w, ps, rs, m, run, fin, rfl, hX, hpl, qN, q0, qE, q1⟩ := h
    obtain ⟨dx, he⟩ := hX.ob
    refine ⟨_, (pss_cons (ps_if (pt_val (pe_fld (pv 0) rfl)) (pss_one (ps_raise rfl (takes_of rfl rfl rfl rfl) (Sup.pmk_oexN T.x_NotEnded.S.T T.x_NotEnded.iC T.x_NotEnded.tI (ok_NotEnded_init T) (hr.mono (by decide)) (T.bx_NotEnded) pass0 (by rfl) T.x_NotEnded.g))) pss_nil)
      (pss_cons (ps_set (i := 1) sc_Explorer_begin.nd rfl (by first | exact Or.inl rfl | exact Or.inr rfl) (pe_lst pa_nil))
      (Z.pss_consJ (ps_if (pt_truth (pe_fld (pv 0) rfl) (by intro _; rfl)) (pss_one (ps_set (i := 1) sc_Explorer_begin.nd rfl (by first | exact Or.inl rfl | exact Or.inr rfl) (pe_call (ok_following T) (hr.mono (by decide)) (by rfl) T.g_following T.F_following.kp T.b_following .nil pass0 (pa_cons (pe_fld (pv 0) rfl) pa_nil)))) pss_nil)
      (pss_cons (ps_if (pt_cmpR o_isN (pv 1) pe_non (nomark _)) (pss_cons (ps_fld (pv 0) pe_bl rfl)
      (pss_one (ps_ret pe_bl))) pss_nil)
      (pss_cons (ps_if (pt_cmpR op_eq (pe_callB c_len (by rfl) T.z_len (by decide +kernel) (pa_cons (pe_fld (pv 0) rfl) pa_nil)) (pe_glob (by rfl) T.g_MOST_RUNS T.r_MOST_RUNS) (nomark _)) (pss_one (ps_raise rfl (takes_of rfl rfl rfl rfl) (pmk_oex T.x_TooLarge.S.T T.x_TooLarge.iC T.x_TooLarge.tI (ok_TooLarge_init T) (hr.mono (by decide)) (T.bx_TooLarge) .nil pass0 (by rfl) T.x_TooLarge.g (pa_cons pe_str pa_nil)))) pss_nil)
      (pss_cons (ps_fld (pv 0) (pv 1) rfl)
      (pss_cons (ps_fld (pv 0) pe_int rfl)
      (pss_cons (ps_fld (pv 0) pe_bl rfl)
      (pss_one (ps_ret pe_bl)))))))))), ?_⟩
    walk_at "z0"
    walk_at "z"
    refine ⟨e, _, dx, _, _, rfl, he, T.cl_Explorer, T.na_Explorer__running, ef_r, ?_⟩
    cases run with
    | true =>
      walk_at "z"
      refine Z.mkN fun a na => ⟨a, rfl, upd_same, rfl, upd_same, ?_⟩
      rw [del_upd na]
      exact qN rfl _ (Kp.refl _)
    | false =>
    have q0 := q0 rfl
    have qE := qE rfl
    have q1 := q1 rfl
    walk_at "z"
    refine Z.lstK (fun p0 H1 np0 k1 e1 => ?_)
    have hX1 := hX.kp0 k1
    obtain ⟨dx1, he1⟩ := hX1.ob
    walk_at "z"
    refine Z.seqJ (fun σ' H' => ∃ pv, σ' = [some (.ref e), some pv] ∧ Kp [] H H' ∧ ((pv = .non ∧ beginD (ps.map PI.dat) rs = none) ∨ ∃ (p' : Addr) (ps' : List PI), pv = .ref p' ∧ H p' = none ∧ H' p' = some (.lst (ps'.map PI.r)) ∧ (∀ z ∈ ps', PIAt K H' z) ∧ beginD (ps.map PI.dat) rs = some (ps'.map PI.dat))) ?_ ?_
    · rintro σ' H2 ⟨pv, rfl, k2, hpv⟩
      have hX2 := hX.kp0 k2
      obtain ⟨dx2, he2⟩ := hX2.ob
      walk_at "z"
      rcases hpv with ⟨rfl, hno⟩ | ⟨p', ps', rfl, np', ep', hA', hD⟩
      · refine Z.yes rfl ?_
        walk_at "z"
        refine ⟨e, _, dx2, _, rfl, he2, T.cl_Explorer, T.na_Explorer__finished, by show 5 < 1000; decide, ?_⟩
        walk_at "z"
        rw [ef_pf]
        have k3 : Kp [e] H2 (upd H2 e (.ins T.C_Explorer dx2 (ef p m false true w))) := Kp.put (by simp)
        exact q0 hno _ ((k2.sub (by simp)).trans k3) (hX2.setE k3 ⟨_, upd_same⟩)
      · refine Z.no (by simp) ?_
        walk_at "z"
        refine ⟨e, _, dx2, _, _, rfl, he2, T.cl_Explorer, T.na_Explorer__rows, ef_w, ?_⟩
        walk_at "z"
        refine Z.lenL (lstL hX2.rows) ?_
        walk_at "z"
        rw [List.length_map]
        refine Z.ite (fun h1 => ?_) (fun h1 => ?_)
        · walk_at "z"
          refine mkErr ?_ (fun hRS h => ?_)
          · exact ⟨by simp, ⟨"runs", rfl, by decide +kernel⟩, fun d hd => qE _ hD (by omega) H2 d k2 hd⟩
          · exact hRS _ _ h
        · walk_at "z"
          refine ⟨e, _, dx2, _, rfl, he2, T.cl_Explorer, T.na_Explorer__path, by show 5 < 1000; decide, ?_⟩
          walk_at "z"
          rw [ef_pp]
          refine ⟨e, _, dx2, _, rfl, upd_same, T.cl_Explorer, T.na_Explorer__made, by show 5 < 1000; decide, ?_⟩
          walk_at "z"
          rw [upd_upd, ef_pm0]
          refine ⟨e, _, dx2, _, rfl, upd_same, T.cl_Explorer, T.na_Explorer__running, by show 5 < 1000; decide, ?_⟩
          walk_at "z"
          rw [upd_upd, ef_pr]
          have k3 : Kp [e] H2 (upd H2 e (.ins T.C_Explorer dx2 (ef p' 0 true fin w))) := Kp.put (by simp)
          exact q1 _ hD (by omega) _ p' ps' ((k2.sub (by simp)).trans k3) (hX2.setP k3 ⟨_, upd_same⟩ ep' (fun z => by rw [z, he] at np'; cases np') (fun z => by rw [z, hX.rows] at np'; cases np') hA') np' rfl
    · intro N jn
      walk_at "z"
      refine ⟨e, _, dx1, _, _, rfl, he1, T.cl_Explorer, T.na_Explorer__rows, ef_w, ?_⟩
      walk_at "z"
      refine Z.truL hX1.rows ?_
      cases hrs : rs with
      | nil =>
        rw [show (!(List.map LRow.r []).isEmpty) = false from rfl]
        walk_at "z"
        exact jn _ _ ⟨_, rfl, k1, .inr ⟨p0, [], rfl, np0, e1, by simp, by rw [hrs]; rfl⟩⟩
      | cons r rr =>
        rw [show (!(List.map LRow.r (r :: rr)).isEmpty) = true from rfl]
        walk_at "z"
        refine ⟨e, _, dx1, _, _, rfl, he1, T.cl_Explorer, T.na_Explorer__path, ef_p, ?_⟩
        walk_at "z"
        have hbd : beginD (ps.map PI.dat) rs = folL (ps.map PI.dat) := by rw [hrs]; rfl
        refine ⟨p, ps, rfl, hX1.path, hX1.items, hpl, fun hno H2 k2 => ?_, fun H2 p' ps' np' k2 ep' hA' hD => ?_⟩
        · walk_at "z"
          exact jn _ _ ⟨_, rfl, k1.trans k2, .inl ⟨rfl, by rw [hbd]; exact hno⟩⟩
        · walk_at "z"
          exact jn _ _ ⟨_, rfl, k1.trans k2, .inr ⟨p', ps', rfl, k1.none nin0 np', ep', hA', by rw [hbd]; exact hD⟩⟩
end explore3

section explore4
variable {K : PySem.W.Frag}
open LamX LamK
def spPick (K : PySem.W.Frag) (C : Addr) : Sp := fun vs H Q _ => ∃ (e p w b : Addr) (ws : List Int) (ps : List PI) (rs : List LRow) (m : Nat) (run fin : Bool), vs = [.ref e, .ref b] ∧ WOk ws ∧ Ex K C H e p w ps rs m run fin ∧ H b = some (.lst (ws.map V.int)) ∧ ps.length ≤ 100 ∧ m ≤ ps.length ∧ FrB 1000 (chD (ps.map PI.dat)) ∧ (chD (ps.map PI.dat)).2 ≠ 0 ∧
  ∀ (H' : Hp) (ps' : List PI) (x : PI), Kp [e, p] H H' → Ex K C H' e p w ps' rs (m + 1) run fin → ps'[m]? = some x → ((m < ps.length ∧ ps' = ps) ∨ (m = ps.length ∧ ps' = ps ++ [x] ∧ x.ws = ws ∧ nextN ws 0 = some x.k ∧ x.f = chD (ps.map PI.dat) ∧ H x.w = none)) → Q (.int (x.k : Int)) H'
theorem ok_Explorer_pick {P : Program} {w : World} {K : PySem.W.Frag} {mg : Str → Option Value} {base : Heap} (T : T P K mg base) : FnOk P w K mg base CX0 6 T.a_Explorer_pick T.fd_Explorer_pick ["self", "weights"] (spPick K T.C_Explorer) := by
  refine T.F_Explorer_pick.ok sc_Explorer_pick (fun vs H Q E h => ?_) (fun cdv A outer s H vs Q E hr h => ?_)
  · obtain ⟨e, p, w, b, ws, ps, rs, m, run, fin, rfl, _⟩ := h
    rfl
  · obtain ⟨e, p, w, b, ws, ps, rs, m, run, fin, rfl, hW, hX, hb, hpl, hm, hB, hB0, q⟩ := h
    obtain ⟨dx, he⟩ := hX.ob
    refine ⟨_, (Z.pss_consJ (ps_if (pt_cmpR op_eq (pe_fld (pv 0) rfl) (pe_callB c_len (by rfl) T.z_len (by decide +kernel) (pa_cons (pe_fld (pv 0) rfl) pa_nil)) (nomark _)) (pss_one (ps_expr (pe_bm PySem.F.plainAttrs_list PySem.F.slot_list_append PySem.F.type_list_append mt_append (pe_fld (pv 0) rfl) (pa_cons (pe_tup (pa_cons (pe_callTy c_list (by rfl) T.z_list (by decide +kernel) (pa_cons (pv 1) pa_nil)) (pa_cons (pe_callB (cr_sum rfl) (by rfl) T.z_sum (by decide +kernel) (pa_cons (pv 1) pa_nil)) (pa_cons (pe_call (ok_next_number T) (hr.mono (by decide)) (by rfl) T.g_next_number T.F_next_number.kp T.b_next_number .nil pass0 (pa_cons (pv 1) (pa_cons pe_int pa_nil))) (pa_cons (pe_call (ok_chance_behind T) (hr.mono (by decide)) (by rfl) T.g_chance_behind T.F_chance_behind.kp T.b_chance_behind .nil pass0 (pa_cons (pe_fld (pv 0) rfl) pa_nil)) pa_nil))))) pa_nil)))) pss_nil)
      (pss_cons (ps_set (i := 2) sc_Explorer_pick.nd rfl (by first | exact Or.inl rfl | exact Or.inr rfl) (pe_ix ix_tup (pe_ix ix_list (pe_fld (pv 0) rfl) (pe_fld (pv 0) rfl) (fun _ _ => rfl)) pe_int (fun _ _ => rfl)))
      (pss_cons (ps_fldaug (pv 0) pe_int in_add)
      (pss_one (ps_ret (pv 2)))))), ?_⟩
    walk_at "z0"
    walk_at "z"
    refine Z.seqJ (fun σ' H' => ∃ (ps' : List PI) (x : PI), σ' = [some (.ref e), some (.ref b), none] ∧ Kp [e, p] H H' ∧ Ex K T.C_Explorer H' e p w ps' rs m run fin ∧ ps'[m]? = some x ∧ ((m < ps.length ∧ ps' = ps) ∨ (m = ps.length ∧ ps' = ps ++ [x] ∧ x.ws = ws ∧ nextN ws 0 = some x.k ∧ x.f = chD (ps.map PI.dat) ∧ H x.w = none))) ?_ ?_
    · rintro σ' H2 ⟨ps', x, rfl, k2, hX2, hx, hor⟩
      obtain ⟨dx2, he2⟩ := hX2.ob
      walk_at "z"
      refine ⟨e, _, dx2, _, _, rfl, he2, T.cl_Explorer, T.na_Explorer__path, ef_p, ?_⟩
      walk_at "z"
      refine ⟨e, _, dx2, _, _, rfl, he2, T.cl_Explorer, T.na_Explorer__made, ef_m, ?_⟩
      walk_at "z"
      refine Z.ixL (v := .ref x.t) (lstL hX2.path) (atI_nat (by rw [List.getElem?_map, hx]; rfl)) ?_
      walk_at "z"
      have hxA := hX2.items x (List.mem_of_getElem? hx)
      refine Z.ixT hxA.tup (v := .int (x.k : Int)) rfl ?_
      walk_at "z"
      refine ⟨e, _, dx2, _, _, rfl, he2, T.cl_Explorer, T.na_Explorer__made, ef_m, ?_⟩
      walk_at "z"
      refine ⟨dx2, _, he2, by show 5 < 1000; decide, ?_⟩
      walk_at "z"
      rw [ef_mup]
      have k3 : Kp [e] H2 (upd H2 e (.ins T.C_Explorer dx2 (ef p (m + 1) run fin w))) := Kp.put (by simp)
      exact q _ ps' x (k2.trans (k3.sub (by simp))) (hX2.setE k3 ⟨_, upd_same⟩) hx hor
    · intro N jn
      walk_at "z"
      refine ⟨e, _, dx, _, _, rfl, he, T.cl_Explorer, T.na_Explorer__made, ef_m, ?_⟩
      walk_at "z"
      refine ⟨e, _, dx, _, _, rfl, he, T.cl_Explorer, T.na_Explorer__path, ef_p, ?_⟩
      walk_at "z"
      refine Z.lenL (lstL hX.path) ?_
      walk_at "z"
      rw [List.length_map]
      refine Z.ite (fun h1 => ?_) (fun h1 => ?_)
      · obtain ⟨k0, hk0⟩ := hW.first
        have hks := nextN_spec hk0
        have hwl := hW.len
        walk_at "z"
        refine ⟨e, _, dx, _, _, rfl, he, T.cl_Explorer, T.na_Explorer__path, ef_p, ?_⟩
        walk_at "z"
        refine ⟨Z.tyL hX.path, ?_⟩
        walk_at "z"
        refine Z.listL (lstL hb) (fun c H1 nc k1 e1 => ?_)
        have hb1 := k1.get nin0 hb
        walk_at "z"
        refine Z.sumL (ns := ws) (lstL hb1) ?_
        walk_at "z"
        refine ⟨b, ws, 0, rfl, lstL hb1, by omega, by decide, ?_⟩
        unfold nextV
        rw [hk0]
        walk_at "z"
        have hX1 := hX.kp0 k1
        obtain ⟨dx1, he1⟩ := hX1.ob
        refine ⟨e, _, dx1, _, _, rfl, he1, T.cl_Explorer, T.na_Explorer__path, ef_p, ?_⟩
        walk_at "z"
        refine ⟨p, ps, rfl, hX1.path, hX1.items, fun H2 f k2 ec => ?_⟩
        walk_at "z"
        refine Z.tupK (fun t H3 nt k3 e3 => ?_)
        have hX3 := (hX1.kp0 k2).kp0 k3
        walk_at "z"
        refine Z.app hX3.path (Z.szl (m := 100000) (by rw [List.length_map]; omega)) ?_
        walk_at "z"
        have k03 := k1.trans (k2.trans k3)
        have x0 : PIAt K H3 ⟨t, c, k0, f, chD (ps.map PI.dat), ws⟩ := ⟨tupT e3, (k2.trans k3).get nin0 e1, ec.kp0 k3, hks.2.1, hW, hB, hB0⟩
        have k4 : Kp [p] H3 (upd H3 p (.lst (ps.map PI.r ++ [.ref t]))) := Kp.put (by simp)
        have k4' : Kp [e, p, w] H3 (upd H3 p (.lst (ps.map PI.r ++ [.ref t]))) := k4.sub (by simp)
        obtain ⟨dx3, he3⟩ := hX3.ob
        refine jn _ _ ⟨ps ++ [⟨t, c, k0, f, chD (ps.map PI.dat), ws⟩], ⟨t, c, k0, f, chD (ps.map PI.dat), ws⟩, rfl, (k03.sub (by simp)).trans (k4.sub (by simp)), ⟨⟨dx3, k4.get (nin1 hX3.ep.symm) he3⟩, by rw [upd_same, List.map_append]; rfl, fun z hz => ?_, k4.get (nin1 hX3.pw.symm) hX3.rows, fun r hr => hX3.rat' k4' (hX3.rat r hr), hX3.pw⟩, ?_, .inr ⟨by omega, rfl, rfl, hk0, rfl, nc⟩⟩
        · rcases List.mem_append.mp hz with hz | hz
          · exact hX3.items' k4' (hX3.items z hz)
          · rw [List.mem_singleton.mp hz]
            exact hX3.items' k4' x0
        · rw [show m = ps.length by omega, List.getElem?_append_right (Nat.le_refl _), Nat.sub_self]
          rfl
      · walk_at "z"
        have hlt : m < ps.length := by omega
        exact jn _ _ ⟨ps, ps[m], rfl, Kp.refl _, hX, List.getElem?_eq_getElem hlt, .inl ⟨hlt, rfl⟩⟩
def spEnd (K : PySem.W.Frag) (C : Addr) : Sp := fun vs H Q _ => ∃ (e p w : Addr) (ps : List PI) (rs : List LRow) (m : Nat) (run fin : Bool) (v : V) (d : PyData), vs = [.ref e, v] ∧ Ex K C H e p w ps rs m run fin ∧ rs.length < 50000 ∧ Dp K H v d ∧ DOk d ∧
  ∀ (H' : Hp) (r : LRow), Kp [e, w] H H' → Ex K C H' e p w ps (rs ++ [r]) m false fin → r.dat = (d, chD (ps.map PI.dat)) → Q .non H'
theorem ok_Explorer_end {P : Program} {w : World} {K : PySem.W.Frag} {mg : Str → Option Value} {base : Heap} (T : T P K mg base) : FnOk P w K mg base CX0 6 T.a_Explorer_end T.fd_Explorer_end ["self", "outcome"] (spEnd K T.C_Explorer) := by
  refine T.F_Explorer_end.ok sc_Explorer_end (fun vs H Q E h => ?_) (fun cdv A outer s H vs Q E hr h => ?_)
  · obtain ⟨e, p, w, ps, rs, m, run, fin, v, d, rfl, _⟩ := h
    rfl
  · obtain ⟨e, p, w, ps, rs, m, run, fin, v, d, rfl, hX, hl, hdp, hdok, q⟩ := h
    obtain ⟨dx, he⟩ := hX.ob
    refine ⟨_, (pss_cons (ps_expr (pe_bm PySem.F.plainAttrs_list PySem.F.slot_list_append PySem.F.type_list_append mt_append (pe_fld (pv 0) rfl) (pa_cons (pe_tup (pa_cons (pv 1) (pa_cons (pe_call (ok_chance_behind T) (hr.mono (by decide)) (by rfl) T.g_chance_behind T.F_chance_behind.kp T.b_chance_behind .nil pass0 (pa_cons (pe_fld (pv 0) rfl) pa_nil)) pa_nil))) pa_nil)))
      (pss_one (ps_fld (pv 0) pe_bl rfl))), ?_⟩
    walk_at "z0"
    walk_at "z"
    refine ⟨e, _, dx, _, _, rfl, he, T.cl_Explorer, T.na_Explorer__rows, ef_w, ?_⟩
    walk_at "z"
    refine ⟨Z.tyL hX.rows, ?_⟩
    walk_at "z"
    refine ⟨e, _, dx, _, _, rfl, he, T.cl_Explorer, T.na_Explorer__path, ef_p, ?_⟩
    walk_at "z"
    refine ⟨p, ps, rfl, hX.path, hX.items, fun H1 f k1 ec => ?_⟩
    walk_at "z"
    refine Z.tupK (fun t H2 nt k2 e2 => ?_)
    have hX2 := (hX.kp0 k1).kp0 k2
    walk_at "z"
    refine Z.app hX2.rows (Z.szl (m := 100000) (by rw [List.length_map]; omega)) ?_
    have k3 : Kp [w] H2 (upd H2 w (.lst (rs.map LRow.r ++ [.ref t]))) := Kp.put (by simp)
    have k3' : Kp [e, p, w] H2 (upd H2 w (.lst (rs.map LRow.r ++ [.ref t]))) := k3.sub (by simp)
    obtain ⟨dx2, he2⟩ := hX2.ob
    have hr0 : LRowAt K H2 ⟨t, v, d, f, chD (ps.map PI.dat)⟩ := ⟨tupT e2, dp_kp (k1.trans k2) (by simp) d hdok.flat hdp, ec.kp0 k2, hdok⟩
    have hX3 : Ex K T.C_Explorer (upd H2 w (.lst (rs.map LRow.r ++ [.ref t]))) e p w ps (rs ++ [⟨t, v, d, f, chD (ps.map PI.dat)⟩]) m run fin := ⟨⟨dx2, k3.get (nin1 hX2.ew.symm) he2⟩, k3.get (nin1 hX2.pw) hX2.path, fun z hz => hX2.items' k3' (hX2.items z hz), by rw [upd_same, List.map_append]; rfl, fun r hr => by
      rcases List.mem_append.mp hr with hr | hr
      · exact hX2.rat' k3' (hX2.rat r hr)
      · rw [List.mem_singleton.mp hr]
        exact hX2.rat' k3' hr0, hX2.pw⟩
    generalize upd H2 w (.lst (rs.map LRow.r ++ [.ref t])) = H3 at k3 hX3 ⊢
    obtain ⟨dx3, he3⟩ := hX3.ob
    walk_at "z"
    refine ⟨e, _, dx3, _, rfl, he3, T.cl_Explorer, T.na_Explorer__running, by show 5 < 1000; decide, ?_⟩
    walk_at "z"
    rw [ef_pr]
    have k4 : Kp [e] H3 (upd H3 e (.ins T.C_Explorer dx3 (ef p m false fin w))) := Kp.put (by simp)
    exact q _ _ ((((k1.trans k2).sub (by simp)).trans (k3.sub (by simp))).trans (k4.sub (by simp))) (hX3.setE k4 ⟨_, upd_same⟩) rfl
def spRuns (K : PySem.W.Frag) (C : Addr) : Sp := fun vs H Q _ => ∃ (e p w : Addr) (ps : List PI) (rs : List LRow) (m : Nat) (run fin : Bool), vs = [.ref e] ∧ Ex K C H e p w ps rs m run fin ∧ Q (.int (rs.length : Int)) H
theorem ok_Explorer_runs {P : Program} {w : World} {K : PySem.W.Frag} {mg : Str → Option Value} {base : Heap} (T : T P K mg base) : FnOk P w K mg base CX0 1 T.a_Explorer_runs T.fd_Explorer_runs ["self"] (spRuns K T.C_Explorer) := by
  refine T.F_Explorer_runs.ok sc_Explorer_runs (fun vs H Q E h => ?_) (fun cdv A outer s H vs Q E hr h => ?_)
  · obtain ⟨e, p, w, ps, rs, m, run, fin, rfl, _⟩ := h
    rfl
  · obtain ⟨e, p, w, ps, rs, m, run, fin, rfl, hX, q⟩ := h
    obtain ⟨dx, he⟩ := hX.ob
    refine ⟨_, (pss_one (ps_ret (pe_callB c_len (by rfl) T.z_len (by decide +kernel) (pa_cons (pe_fld (pv 0) rfl) pa_nil)))), ?_⟩
    walk_at "z0"
    walk_at "z"
    refine ⟨e, _, dx, _, _, rfl, he, T.cl_Explorer, T.na_Explorer__rows, ef_w, ?_⟩
    walk_at "z"
    refine Z.lenL (lstL hX.rows) ?_
    rw [List.length_map]
    exact q
def spGath (K : PySem.W.Frag) (C : Addr) (TB : List (Addr × Str)) (CN : Addr) : Sp := fun vs H Q E => ∃ (e p w : Addr) (ps : List PI) (rs : List LRow) (m : Nat) (run fin : Bool), vs = [.ref e] ∧ Ex K C H e p w ps rs m run fin ∧
  (fin = false → ∀ H', Kp [] H H' → E (.ref CN) none H') ∧
  (fin = true → Tabs TB H ∧ LawIn K H rs ∧ chOkB (rs.map LRow.f) = true ∧
  ∀ (H' : Hp) (b : Addr) (out : List LRow), Nw H b → ExtN H H' → Tabs TB H' → H' b = some (.lst (out.map LRow.r)) → (∀ r ∈ out, LRowAt K H' r) → out.map LRow.dat = lawOf rs → Q (.ref b) H')
theorem ok_Explorer_gathered {P : Program} {w : World} {K : PySem.W.Frag} {mg : Str → Option Value} {base : Heap} (T : T P K mg base) : FnOk P w K mg base (L2.CX P w) 8 T.a_Explorer_gathered T.fd_Explorer_gathered ["self"] (spGath K T.C_Explorer (TBS T) T.C_NotEnded) := by
  refine T.F_Explorer_gathered.okX sc_Explorer_gathered (fun vs H Q E h => ?_) (fun cdv A outer s H vs Q E hr h => ?_)
  · obtain ⟨e, p, w, ps, rs, m, run, fin, rfl, _⟩ := h
    rfl
  · obtain ⟨e, p, w, ps, rs, m, run, fin, rfl, hX, qN, q⟩ := h
    obtain ⟨dx, he⟩ := hX.ob
    refine ⟨_, (pss_cons (ps_if (pt_not (pt_val (pe_fld (pv 0) rfl))) (pss_one (ps_raise rfl (takes_of rfl rfl rfl rfl) (Sup.pmk_oexN T.x_NotEnded.S.T T.x_NotEnded.iC T.x_NotEnded.tI (ok_NotEnded_init T) (hr.mono (by decide)) (T.bx_NotEnded) pass0 (by rfl) T.x_NotEnded.g))) pss_nil)
      (pss_one (ps_ret (pe_call (ok_law_from T) (hr.mono (by decide)) (by rfl) T.g_law_from T.F_law_from.kp T.b_law_from .nil (passes_call (takes_of rfl rfl rfl rfl) (fun _ _ _ _ h => h)) (pa_cons (pe_fld (pv 0) rfl) pa_nil))))), ?_⟩
    walk_at "z0"
    walk_at "z"
    refine ⟨e, _, dx, _, _, rfl, he, T.cl_Explorer, T.na_Explorer__finished, ef_f, ?_⟩
    cases fin with
    | false =>
      walk_at "z"
      refine Z.mkN fun a na => ⟨a, rfl, upd_same, rfl, upd_same, ?_⟩
      rw [del_upd na]
      exact qN rfl _ (Kp.refl _)
    | true =>
      obtain ⟨hT, hL, hch, q⟩ := q rfl
      walk_at "z"
      refine ⟨e, _, dx, _, _, rfl, he, T.cl_Explorer, T.na_Explorer__rows, ef_w, ?_⟩
      walk_at "z"
      refine ⟨w, rs, rfl, hT, lstL hX.rows, hL, fun z => ?_, fun _ H' b out nb e1 T1 h1 h2 h3 => ?_⟩
      · rw [hch] at z
        cases z
      · walk_at "z"
        exact q H' b out nb e1 T1 h1 h2 h3
end explore4

/-! ### leaves of drops, and their means -/
section math36
open Classical
variable {α : Type}
def mxR (a t : Rat) : Rat := if a < t then t else a
def shr (a t : Rat) : Rat := if a < t then a / t else 1
noncomputable def ind (S : List α) (x : α) : Rat := if x ∈ S then 1 else 0
def ex (L : List (Rat × List α)) (f : List α → Rat) : Rat := (L.map fun l => l.1 * f l.2).sum
theorem ex_nil (f : List α → Rat) : ex [] f = 0 := rfl
theorem ex_cons (l : Rat × List α) (L : List (Rat × List α)) (f : List α → Rat) : ex (l :: L) f = l.1 * f l.2 + ex L f := by unfold ex; rw [List.map_cons, List.sum_cons]
theorem ex_app (L M : List (Rat × List α)) (f : List α → Rat) : ex (L ++ M) f = ex L f + ex M f := by unfold ex; rw [List.map_append, List.sum_append]
theorem ex_rev : ∀ (L : List (Rat × List α)) (f : List α → Rat), ex L.reverse f = ex L f
  | [], _ => rfl
  | l :: L, f => by
    rw [List.reverse_cons, ex_app, ex_rev L f, ex_cons, ex_cons, ex_nil]
    grind
theorem ex_congr {L : List (Rat × List α)} {f g : List α → Rat} (h : ∀ l ∈ L, f l.2 = g l.2) : ex L f = ex L g := by
  unfold ex
  rw [List.map_congr_left fun l hl => by rw [h l hl]]
theorem ex_mulr (c : Rat) (f : List α → Rat) : ∀ L : List (Rat × List α), ex L (fun S => f S * c) = ex L f * c
  | [] => by rw [ex_nil, ex_nil]; grind
  | l :: L => by rw [ex_cons, ex_cons, ex_mulr c f L]; grind
theorem ex_add (f g : List α → Rat) : ∀ L : List (Rat × List α), ex L (fun S => f S + g S) = ex L f + ex L g
  | [] => by rw [ex_nil, ex_nil, ex_nil]; grind
  | l :: L => by rw [ex_cons, ex_cons, ex_cons, ex_add f g L]; grind
theorem ex_zero : ∀ L : List (Rat × List α), ex L (fun _ => 0) = 0
  | [] => ex_nil _
  | l :: L => by rw [ex_cons, ex_zero L]; grind
theorem ex_le {f g : List α → Rat} : ∀ {L : List (Rat × List α)}, (∀ l ∈ L, 0 ≤ l.1) → (∀ l ∈ L, f l.2 ≤ g l.2) → ex L f ≤ ex L g
  | [], _, _ => by rw [ex_nil, ex_nil]; grind
  | l :: L, h0, h => by
    have ih := ex_le (L := L) (fun l hl => h0 l (by simp [hl])) (fun l hl => h l (by simp [hl]))
    have := Rat.mul_le_mul_of_nonneg_left (h l (by simp)) (h0 l (by simp))
    rw [ex_cons, ex_cons]
    grind
theorem ex_sum {β : Type} (F : β → List α → Rat) (L : List (Rat × List α)) : ∀ X : List β, ex L (fun S => (X.map fun x => F x S).sum) = (X.map fun x => ex L (F x)).sum
  | [] => ex_zero L
  | x :: X => by
    rw [List.map_cons, List.sum_cons, ← ex_sum F L X, ← ex_add]
    refine ex_congr fun l _ => ?_
    rw [List.map_cons, List.sum_cons]
/-! one dropped -/
def gone (a : α → Rat) (t : Rat) (x : α) : Rat := 1 - shr (a x) t
noncomputable def dropsR (a : α → Rat) (t c : Rat) : List α → List α → List (Rat × List α)
  | _, [] => []
  | pre, x :: r => (if gone a t x = 0 then [] else [(c * gone a t x, pre ++ r)]) ++ dropsR a t c (pre ++ [x]) r
noncomputable def nextR (size : Nat) (a : α → Rat) (t c : Rat) (S : List α) : List (Rat × List α) := if S.length ≤ size then [(c, S)] else (dropsR a t c [] S).reverse
theorem dropsR_ex {a : α → Rat} {t c : Rat} {f : List α → Rat} {g : α → Rat} : ∀ {post pre : List α}, (∀ p y r, pre ++ post = p ++ y :: r → f (p ++ r) = g y) → ex (dropsR a t c pre post) f = c * (post.map fun y => gone a t y * g y).sum
  | [], pre, _ => by
    show (0 : Rat) = c * 0
    grind
  | x :: r, pre, h => by
    have ih := dropsR_ex (a := a) (t := t) (c := c) (f := f) (g := g) (post := r) (pre := pre ++ [x]) fun p y r' e => h p y r' (by rw [← e]; simp)
    have h1 := h pre x r rfl
    unfold dropsR
    rw [ex_app, ih, List.map_cons, List.sum_cons]
    split
    · rename_i z
      rw [z, ex_nil]
      grind
    · rw [ex_cons, ex_nil]
      dsimp only
      rw [h1]
      grind
theorem dropsR_mem {a : α → Rat} {t c : Rat} : ∀ {post pre : List α} {l : Rat × List α}, l ∈ dropsR a t c pre post → ∃ p y r, pre ++ post = p ++ y :: r ∧ gone a t y ≠ 0 ∧ l = (c * gone a t y, p ++ r)
  | [], pre, l, h => by cases h
  | x :: r, pre, l, h => by
    unfold dropsR at h
    rcases List.mem_append.mp h with h | h
    · split at h
      · cases h
      · rename_i z
        rw [List.mem_singleton.mp h]
        exact ⟨pre, x, r, rfl, z, rfl⟩
    · obtain ⟨p, y, r', e, z, e2⟩ := dropsR_mem h
      exact ⟨p, y, r', by rw [← e]; simp, z, e2⟩
theorem ind_cut {S p r : List α} {x y : α} (hn : S.Nodup) (e : S = p ++ y :: r) : ind (p ++ r) x = if x = y then 0 else ind S x := by
  subst e
  have h1 := List.nodup_append.mp hn
  have h2 := List.nodup_cons.mp h1.2.1
  have hy : y ∉ p := fun z => h1.2.2 y z y (by simp) rfl
  unfold ind
  by_cases hx : x = y
  · subst hx
    rw [if_neg (by simp [hy, h2.1]), if_pos rfl]
  · rw [if_neg hx]
    have : x ∈ p ++ r ↔ x ∈ p ++ y :: r := by simp [hx]
    rw [show (if x ∈ p ++ r then (1 : Rat) else 0) = if x ∈ p ++ y :: r then 1 else 0 by simp only [this]]
theorem sum_skip (g : α → Rat) (c : Rat) (x : α) : ∀ {S : List α}, S.Nodup → (S.map fun y => g y * (if x = y then 0 else c)).sum = c * (S.map g).sum - c * ind S x * g x
  | [], _ => by
    unfold ind
    rw [if_neg (by simp)]
    show (0 : Rat) = c * 0 - _
    grind
  | y :: S, h => by
    obtain ⟨h1, h2⟩ := List.nodup_cons.mp h
    have ih := sum_skip g c x h2
    rw [List.map_cons, List.sum_cons, List.map_cons, List.sum_cons, ih]
    unfold ind
    by_cases hx : x = y
    · subst hx
      rw [if_pos rfl, if_neg h1, if_pos (by simp)]
      grind
    · rw [if_neg hx]
      have : x ∈ y :: S ↔ x ∈ S := by simp [hx]
      simp only [this]
      grind
theorem sum_skip2 (g : α → Rat) (c : Rat) {x z : α} (hxz : x ≠ z) : ∀ {S : List α}, S.Nodup → (S.map fun y => g y * ((if x = y then 0 else 1) * (if z = y then 0 else 1) * c)).sum = c * (S.map g).sum - c * ind S x * g x - c * ind S z * g z
  | [], _ => by
    unfold ind
    rw [if_neg (by simp), if_neg (by simp)]
    show (0 : Rat) = c * 0 - _ - _
    grind
  | y :: S, h => by
    obtain ⟨h1, h2⟩ := List.nodup_cons.mp h
    have ih := sum_skip2 g c hxz h2
    rw [List.map_cons, List.sum_cons, List.map_cons, List.sum_cons, ih]
    unfold ind
    by_cases hx : x = y
    · subst hx
      have hz : z ∈ x :: S ↔ z ∈ S := by simp [Ne.symm hxz]
      rw [if_pos rfl, if_neg h1, if_pos (show x ∈ x :: S by simp)]
      simp only [hz]
      grind
    · rw [if_neg hx]
      have e1 : x ∈ y :: S ↔ x ∈ S := by simp [hx]
      by_cases hz : z = y
      · subst hz
        rw [if_pos rfl, if_neg h1, if_pos (show z ∈ z :: S by simp)]
        simp only [e1]
        grind
      · rw [if_neg hz]
        have e2 : z ∈ y :: S ↔ z ∈ S := by simp [hz]
        simp only [e1, e2]
        grind
/-! thresholds of leaves -/
def dSum (W : α → Rat) (T : Rat) (S : List α) : Rat := (S.map fun y => mxR (W y) T - W y).sum
theorem cap_d (W : α → Rat) (T : Rat) : ∀ S : List α, cap T (S.map W) + dSum W T S = (S.length : Rat) * T
  | [] => by show (0 : Rat) + 0 = ((0 : Nat) : Rat) * T; grind
  | y :: S => by
    have ih := cap_d W T S
    show ((if W y < T then W y else T) + cap T (S.map W)) + ((mxR (W y) T - W y) + dSum W T S) = _
    have e : ((S.length + 1 : Nat) : Rat) = (S.length : Rat) + 1 := by exact_mod_cast rfl
    rw [List.length_cons, e]
    unfold mxR
    split <;> grind
theorem cap_mx (W : α → Rat) {T t : Rat} (h : T ≤ t) : ∀ S : List α, cap t (S.map fun y => mxR (W y) T) = cap t (S.map W) + dSum W T S
  | [] => by show (0 : Rat) = 0 + 0; grind
  | y :: S => by
    have ih := cap_mx W h S
    show (if mxR (W y) T < t then mxR (W y) T else t) + cap t (S.map fun y => mxR (W y) T) = ((if W y < t then W y else t) + cap t (S.map W)) + ((mxR (W y) T - W y) + dSum W T S)
    rw [ih]
    unfold mxR
    (repeat' split) <;> grind
theorem d_ge (W : α → Rat) (T : Rat) : ∀ S : List α, 0 ≤ dSum W T S
  | [] => by show (0 : Rat) ≤ 0; grind
  | y :: S => by
    have ih := d_ge W T S
    show 0 ≤ (mxR (W y) T - W y) + dSum W T S
    unfold mxR
    split <;> grind
structure LeafR (W : α → Rat) (X : List α) (size : Nat) (T : Rat) (S : List α) : Prop where
  nd : S.Nodup
  sub : ∀ x ∈ S, x ∈ X
  len : S.length = min size X.length
  big : ∀ x ∈ X, T ≤ W x → x ∈ S
theorem mem_split {X S : List α} (hX : X.Nodup) (hS : S.Nodup) (sub : ∀ x ∈ S, x ∈ X) : ∃ R, X.Perm (S ++ R) := by
  induction S generalizing X with
  | nil => exact ⟨X, List.Perm.refl _⟩
  | cons y S ih =>
    obtain ⟨h1, h2⟩ := List.nodup_cons.mp hS
    obtain ⟨p, r, e⟩ := List.append_of_mem (sub y (by simp))
    have pm : X.Perm (y :: (p ++ r)) := by rw [e]; exact List.perm_middle
    have hpr : (p ++ r).Nodup := (List.nodup_cons.mp (pm.nodup_iff.mp hX)).2
    obtain ⟨R, hR⟩ := ih hpr h2 fun x hx => by
      have := pm.mem_iff.mp (sub x (by simp [hx]))
      rcases List.mem_cons.mp this with rfl | h
      · exact absurd hx h1
      · exact h
    exact ⟨R, pm.trans (hR.cons y)⟩
theorem mx_zero {W : α → Rat} : ∀ {S : List α}, (∀ x ∈ S, 0 < W x) → (S.map fun y => mxR (W y) 0) = S.map W := fun {S} h => List.map_congr_left fun x hx => by
  have := h x hx
  unfold mxR
  rw [if_neg (by grind)]
/-- the leaf's adjusted weights have the caps of all weights -/
theorem LeafR.capE {W : α → Rat} {X S : List α} {size : Nat} {T t : Rat} (hp : ∀ x ∈ X, 0 < W x) (hX : X.Nodup) (L : LeafR W X size T S) (hT : Thr (X.map W) size T) (h : T ≤ t) : cap t (S.map fun y => mxR (W y) T) = cap t (X.map W) := by
  obtain ⟨R, pm⟩ := mem_split hX L.nd L.sub
  have hl := pm.length_eq
  rw [List.length_append] at hl
  have hlen := L.len
  by_cases hb : size < X.length
  · have hlow : ∀ y ∈ R, W y < T := fun y hy => by
      by_cases z : W y < T
      · exact z
      · have h1 := L.big y (pm.mem_iff.mpr (by simp [hy])) (by grind)
        have h2 := (List.nodup_append.mp (pm.nodup_iff.mp hX)).2.2 y h1 y hy
        exact absurd rfl h2
    have e1 : ∀ s, cap s (X.map W) = cap s (S.map W) + cap s (R.map W) := fun s => by rw [cap_perm (pm.map W), List.map_append, cap_app]
    have e2 : ∀ s, T ≤ s → cap s (R.map W) = (R.map W).sum := fun s hs => cap_low fun w hw => by
      obtain ⟨y, hy, rfl⟩ := List.mem_map.mp hw
      have := hlow y hy
      grind
    rw [cap_mx W h, e1, e2 t h]
    have h3 := cap_d W T S
    have hc := (hT.big (by rw [List.length_map]; exact hb)).2
    rw [e1, e2 T (by grind)] at hc
    have : S.length = size := by omega
    rw [this] at h3
    grind
  · have hR : R = [] := List.length_eq_zero_iff.mp (by omega)
    have hT0 := hT.small (by rw [List.length_map]; omega)
    rw [hT0, mx_zero fun x hx => hp x (L.sub x hx)]
    rw [hR, List.append_nil] at pm
    exact (cap_perm (pm.map W)).symm
/-- thresholds grow -/
theorem thr_grow {W : α → Rat} {X : List α} {x : α} {size : Nat} {T T' : Rat} (hp : ∀ y ∈ X ++ [x], 0 < W y) (hT : Thr (X.map W) size T) (hT' : Thr ((X ++ [x]).map W) size T') : T ≤ T' := by
  by_cases hb : size < X.length
  · have h := hT.big (by rw [List.length_map]; exact hb)
    refine thr_ge (fun w hw => ?_) hT' (by rw [List.length_map, List.length_append]; omega) h.1 ?_
    · obtain ⟨y, hy, rfl⟩ := List.mem_map.mp hw
      exact hp y hy
    · rw [List.map_append, cap_app, h.2]
      have := cap_ge (t := T) (by grind) (ws := [x].map W) fun w hw => by
        obtain ⟨y, hy, rfl⟩ := List.mem_map.mp hw
        exact hp y (by simp_all)
      grind
  · rw [hT.small (by rw [List.length_map]; omega)]
    exact thr_nonneg hT'
/-- what a leaf and one more weigh -/
noncomputable def aw (W : α → Rat) (T : Rat) (x : α) (y : α) : Rat := if y = x then W x else mxR (W y) T
theorem aw_new (W : α → Rat) (T : Rat) (x : α) : aw W T x x = W x := if_pos rfl
theorem aw_old {W : α → Rat} {T : Rat} {x y : α} (h : y ≠ x) : aw W T x y = mxR (W y) T := if_neg h
structure Grow (W : α → Rat) (X : List α) (x : α) (size : Nat) (T T' : Rat) (S S' : List α) : Prop where
  pos : ∀ y ∈ X ++ [x], 0 < W y
  nd : (X ++ [x]).Nodup
  thr : Thr (X.map W) size T
  thr' : Thr ((X ++ [x]).map W) size T'
  leaf : LeafR W X size T S
  pm : S'.Perm (S ++ [x])
section grow
variable {W : α → Rat} {X : List α} {x : α} {size : Nat} {T T' : Rat} {S S' : List α}
theorem Grow.notX (G : Grow W X x size T T' S S') : x ∉ X := fun h => (List.nodup_append.mp G.nd).2.2 x h x (by simp) rfl
theorem Grow.notS (G : Grow W X x size T T' S S') : x ∉ S := fun h => G.notX (G.leaf.sub x h)
theorem Grow.ndS (G : Grow W X x size T T' S S') : S'.Nodup := G.pm.nodup_iff.mpr (List.nodup_append.mpr ⟨G.leaf.nd, by simp, fun a ha b hb => by
  rw [List.mem_singleton.mp hb]
  rintro rfl
  exact G.notS ha⟩)
theorem Grow.ndX (G : Grow W X x size T T' S S') : X.Nodup := (List.nodup_append.mp G.nd).1
theorem Grow.posX (G : Grow W X x size T T' S S') : ∀ y ∈ X, 0 < W y := fun y hy => G.pos y (by simp [hy])
theorem Grow.sub (G : Grow W X x size T T' S S') : ∀ y ∈ S', y ∈ X ++ [x] := fun y hy => by
  have := G.pm.mem_iff.mp hy
  rcases List.mem_append.mp this with h | h
  · simp [G.leaf.sub y h]
  · simp_all
theorem Grow.len (G : Grow W X x size T T' S S') : S'.length = min size X.length + 1 := by
  rw [G.pm.length_eq, List.length_append, G.leaf.len]; rfl
theorem Grow.le (G : Grow W X x size T T' S S') : T ≤ T' := thr_grow G.pos G.thr G.thr'
theorem Grow.maps (G : Grow W X x size T T' S S') : (S'.map (aw W T x)).Perm ((S.map fun y => mxR (W y) T) ++ [W x]) := by
  have h := G.pm.map (aw W T x)
  rw [List.map_append] at h
  have e1 : S.map (aw W T x) = S.map fun y => mxR (W y) T := List.map_congr_left fun y hy => aw_old fun z => G.notS (z ▸ hy)
  have e2 : [x].map (aw W T x) = [W x] := by rw [List.map_singleton, aw_new]
  rwa [e1, e2] at h
theorem Grow.awpos (G : Grow W X x size T T' S S') : ∀ y ∈ S', 0 < aw W T x y := fun y hy => by
  have h0 := G.pos y (G.sub y hy)
  unfold aw
  split
  · rename_i z
    rw [← z]; exact h0
  · unfold mxR
    split <;> grind
/-- the threshold of a leaf and one more is that of all weights -/
theorem Grow.thrS (G : Grow W X x size T T' S S') (hb : size ≤ X.length) : Thr (S'.map (aw W T x)) size T' := by
  refine ⟨fun h => ?_, fun _ => ?_⟩
  · rw [List.length_map, G.len] at h
    omega
  · have h := G.thr'.big (by rw [List.length_map, List.length_append]; show size < X.length + 1; omega)
    refine ⟨h.1, ?_⟩
    rw [cap_perm G.maps, cap_app, G.leaf.capE G.posX G.ndX G.thr G.le, ← h.2, List.map_append, cap_app]
    rfl
theorem shr_sum {a : α → Rat} {t : Rat} (ht : 0 < t) : ∀ S : List α, (S.map fun y => gone a t y).sum * t = (S.length : Rat) * t - cap t (S.map a)
  | [] => by show (0 : Rat) * t = ((0 : Nat) : Rat) * t - 0; grind
  | y :: S => by
    have ih := shr_sum (a := a) ht S
    have e : ((S.length + 1 : Nat) : Rat) = (S.length : Rat) + 1 := by exact_mod_cast rfl
    have t0 : t ≠ 0 := by grind
    rw [List.map_cons, List.sum_cons, List.length_cons, e]
    show (gone a t y + _) * t = _ - ((if a y < t then a y else t) + cap t (S.map a))
    unfold gone shr at *
    split <;> grind
theorem Grow.sum (G : Grow W X x size T T' S S') (hb : size ≤ X.length) : (S'.map fun y => gone (aw W T x) T' y).sum = 1 := by
  have h := G.thrS hb
  have hl := G.len
  have hb2 := h.big (by rw [List.length_map]; omega)
  have h1 := shr_sum (a := aw W T x) hb2.1 S'
  rw [hb2.2, show S'.length = size + 1 by omega] at h1
  have e : ((size + 1 : Nat) : Rat) = (size : Rat) + 1 := by exact_mod_cast rfl
  rw [e] at h1
  have := hb2.1
  have t0 : T' ≠ 0 := by grind
  have h2 : ((S'.map fun y => gone (aw W T x) T' y).sum - 1) * T' = 0 := by grind
  rcases Rat.mul_eq_zero.mp h2 with h3 | h3
  · grind
  · exact absurd h3 t0
theorem Grow.shr_adj (G : Grow W X x size T T' S S') {y : α} (hy : y ∈ X ++ [x]) : shr (aw W T x y) T' * mxR (W y) T' = aw W T x y := by
  have h0 := G.pos y hy
  have hle := G.le
  have hT0 := thr_nonneg G.thr
  unfold aw shr mxR
  by_cases hx : y = x
  · subst hx
    rw [if_pos rfl]
    split
    · have t0 : T' ≠ 0 := by grind
      grind
    · grind
  · rw [if_neg hx]
    by_cases h1 : W y < T
    · rw [if_pos h1]
      by_cases h2 : T < T'
      · rw [if_pos h2, if_pos (by grind)]
        have t0 : T' ≠ 0 := by grind
        grind
      · rw [if_neg h2]
        split <;> grind
    · rw [if_neg h1]
      split
      · have t0 : T' ≠ 0 := by grind
        grind
      · grind
theorem Grow.gone01 (G : Grow W X x size T T' S S') {y : α} (hy : y ∈ X ++ [x]) : 0 ≤ gone (aw W T x) T' y ∧ gone (aw W T x) T' y ≤ 1 := by
  have h0 : 0 < aw W T x y := by
    have h0 := G.pos y hy
    unfold aw
    split
    · rename_i z
      rw [← z]; exact h0
    · unfold mxR
      split <;> grind
  unfold gone shr
  split
  · rename_i h1
    have t0 : 0 < T' := by grind
    have h2 : aw W T x y / T' * T' = aw W T x y := by
      have : T' ≠ 0 := by grind
      grind
    constructor
    · have : aw W T x y / T' ≤ 1 := by
        by_cases z : aw W T x y / T' ≤ 1
        · exact z
        · have := Rat.mul_lt_mul_of_pos_right (show 1 < aw W T x y / T' by grind) t0
          grind
      grind
    · have : 0 ≤ aw W T x y / T' := by
        rw [Rat.div_def]
        have := Rat.mul_pos h0 (Rat.inv_pos.mpr t0)
        grind
      grind
  · constructor <;> grind
end grow
end math36

/-! ### leaves -/
abbrev Pa := (Addr × Row) × Fr
abbrev Lf := Fr × List Pa
def Pt.pa (p : Pt) : Pa := (p.x, p.f)
def lesF (a g : Fr) : Fr := if rv a < rv g then lo (a.1 * g.2) (a.2 * g.1) else (1, 1)
def gnF (g a : Fr) : Fr := fminus (1, 1) (lesF a g)
def raP (g : Fr) (p : Pa) : Pa := (p.1, if rv p.2 < rv g then g else p.2)
def dropsF (g c : Fr) : List Pa → List Pa → List Lf
  | _, [] => []
  | pre, p :: r => (if gnF g p.2 = (0, 1) then [] else [(ftimes c (gnF g p.2), (pre ++ r).map (raP g))]) ++ dropsF g c (pre ++ [p]) r
def nextF (size : Nat) (g c : Fr) (qs : List Pa) : List Lf := if qs.length ≤ size then [(c, qs)] else (dropsF g c [] qs).reverse
def LfAt (K : PySem.W.Frag) (M : List Addr) (H : Hp) (t : Addr) (m : Lf) : Prop := ∃ (a l : Addr) (ps : List Pt), H t = some (.tup [.ref a, .ref l]) ∧ FrAt K H a m.1 ∧ H l = some (.lst (prefs ps)) ∧ PtsAt K H ps ∧ ps.map Pt.pa = m.2 ∧ l ∉ M
section leaf36
variable {K : PySem.W.Frag} {M : List Addr}
open LamX LamK LamQ
theorem PtAt.ext {H H' : Hp} {p : Pt} (h : PtAt K H p) (e : ExtN H H') : PtAt K H' p := ⟨ext_get e h.at_, ext_get e h.row, ext_tup e h.fr⟩
theorem PtsAt.ext {H H' : Hp} {ps : List Pt} (h : PtsAt K H ps) (e : ExtN H H') : PtsAt K H' ps := fun p hp => (h p hp).ext e
theorem LfAt.ext {H H' : Hp} {t : Addr} {m : Lf} (h : LfAt K M H t m) (e : ExtN H H') : LfAt K M H' t m :=
  let ⟨a, l, ps, h1, h2, h3, h4, h5, h6⟩ := h
  ⟨a, l, ps, ext_get e h1, ext_tup e h2, ext_get e h3, h4.ext e, h5, h6⟩
theorem LfAt.kp0 {H H' : Hp} {t : Addr} {m : Lf} (h : LfAt K M H t m) (k : Kp [] H H') : LfAt K M H' t m := h.ext (ext_kp k)
theorem LfAt.kpx {H H' : Hp} {t : Addr} {m : Lf} {x : Addr} {xs : List V} (h : LfAt K M H t m) (hx : x ∈ M) (k : Kp [x] H H') (e : H x = some (.lst xs)) : LfAt K M H' t m :=
  let ⟨a, l, ps, h1, h2, h3, h4, h5, h6⟩ := h
  ⟨a, l, ps, k.get (nin1 fun z => by rw [z, e] at h1; cases h1) h1, h2.kpl k e, k.get (nin1 fun z => h6 (z ▸ hx)) h3, fun p hp => (h4 p hp).kpx k e fun xs => ⟨by simp, by simp⟩, h5, h6⟩
theorem LfAt.less {H : Hp} {t : Addr} {m : Lf} (h : LfAt K M H t m) : LfAt K [] H t m :=
  let ⟨a, l, ps, h1, h2, h3, h4, h5, h6⟩ := h
  ⟨a, l, ps, h1, h2, h3, h4, h5, by simp⟩
def LfsAt (K : PySem.W.Frag) (M : List Addr) (H : Hp) (ts : List Addr) (ms : List Lf) : Prop := Paired (fun t m => LfAt K M H t m) ts ms
theorem LfsAt.map {M' : List Addr} {H H' : Hp} {ts : List Addr} {ms : List Lf} (h : LfsAt K M H ts ms) (f : ∀ t m, LfAt K M H t m → LfAt K M' H' t m) : LfsAt K M' H' ts ms := by
  induction h with
  | nil => exact .nil
  | cons r t ih => exact .cons (f _ _ r) ih
theorem LfsAt.ext {H H' : Hp} {ts : List Addr} {ms : List Lf} (h : LfsAt K M H ts ms) (e : ExtN H H') : LfsAt K M H' ts ms := h.map fun _ _ r => r.ext e
theorem LfsAt.kp0 {H H' : Hp} {ts : List Addr} {ms : List Lf} (h : LfsAt K M H ts ms) (k : Kp [] H H') : LfsAt K M H' ts ms := h.ext (ext_kp k)
theorem LfsAt.kpx {H H' : Hp} {ts : List Addr} {ms : List Lf} {x : Addr} {xs : List V} (h : LfsAt K M H ts ms) (hx : x ∈ M) (k : Kp [x] H H') (e : H x = some (.lst xs)) : LfsAt K M H' ts ms := h.map fun _ _ r => r.kpx hx k e
theorem LfsAt.less {H : Hp} {ts : List Addr} {ms : List Lf} (h : LfsAt K M H ts ms) : LfsAt K [] H ts ms := h.map fun _ _ r => r.less
theorem LfsAt.len {H : Hp} {ts : List Addr} {ms : List Lf} (h : LfsAt K M H ts ms) : ts.length = ms.length := Paired.length h
theorem LfsAt.snoc {H : Hp} {ts : List Addr} {ms : List Lf} {t : Addr} {m : Lf} (h : LfsAt K M H ts ms) (r : LfAt K M H t m) : LfsAt K M H (ts ++ [t]) (ms ++ [m]) := by
  induction h with
  | nil => exact .cons r .nil
  | cons r t ih => exact .cons r ih
theorem LfsAt.app {H : Hp} {ts us : List Addr} {ms ns : List Lf} (h : LfsAt K M H ts ms) (g : LfsAt K M H us ns) : LfsAt K M H (ts ++ us) (ms ++ ns) := by
  induction h with
  | nil => exact g
  | cons r t ih => exact .cons r ih
theorem LfsAt.get {H : Hp} : ∀ {ts : List Addr} {ms : List Lf} {i : Nat} {v : V}, LfsAt K M H ts ms → (ts.map V.ref)[i]? = some v → ∃ t m, v = .ref t ∧ ms[i]? = some m ∧ LfAt K M H t m
  | _, _, i, v, .nil, h => by simp at h
  | _, _, 0, v, .cons r t, h => by
    simp at h
    exact ⟨_, _, h.symm, rfl, r⟩
  | _, _, i + 1, v, .cons r t, h => by
    obtain ⟨a, f, e1, e2, e3⟩ := LfsAt.get (i := i) t (by simpa using h)
    exact ⟨a, f, e1, by simpa using e2, e3⟩
theorem LfsAt.last {H : Hp} {ms : List Lf} {m : Lf} : ∀ {ts : List Addr}, LfsAt K M H ts (ms ++ [m]) → ∃ us t, ts = us ++ [t] ∧ LfsAt K M H us ms ∧ LfAt K M H t m := by
  induction ms with
  | nil =>
    intro ts h
    cases h with
    | cons r t =>
      cases t
      exact ⟨[], _, rfl, .nil, r⟩
  | cons x ms ih =>
    intro ts h
    cases h with
    | cons r t =>
      obtain ⟨us, u, rfl, h1, h2⟩ := ih t
      exact ⟨_ :: us, u, rfl, .cons r h1, h2⟩
theorem one_low : Low (1, 1) := ⟨by decide, by decide⟩
theorem lesF_ok {a g : Fr} (ha : OkF a) (hg : Low g ∧ 0 < g.1 ∧ FrB 40 g) : Low (lesF a g) ∧ FrB 80 (lesF a g) ∧ rv (lesF a g) = shr (rv a) (rv g) := by
  obtain ⟨g1, g2, g3⟩ := hg
  have a1 := ha.low.1
  have a2 := ha.pos
  have g4 := g1.1
  unfold lesF shr
  split
  · rename_i h
    have hne : a.2 * g.1 ≠ 0 := Int.mul_ne_zero (by omega) (by omega)
    refine ⟨lo_low hne, lo_B hne (mul_B (n := 40) (m := 40) ha.B.1 g3.2) (mul_B (n := 40) (m := 40) ha.B.2 g3.1), ?_⟩
    rw [rv_lo hne]
    have e1 : ((a.1 * g.2 : Int) : Rat) = (a.1 : Rat) * (g.2 : Rat) := by exact_mod_cast rfl
    have e2 : ((a.2 * g.1 : Int) : Rat) = (a.2 : Rat) * (g.1 : Rat) := by exact_mod_cast rfl
    have n1 : (a.2 : Rat) ≠ 0 := ratNe (by omega)
    have n2 : (g.2 : Rat) ≠ 0 := ratNe (by omega)
    have n3 : (g.1 : Rat) ≠ 0 := ratNe (by omega)
    rw [e1, e2]
    unfold rv
    grind
  · exact ⟨one_low, ⟨by decide, by decide⟩, by rw [rv_int]; rfl⟩
theorem gnF_ok {a g : Fr} (ha : OkF a) (hg : Low g ∧ 0 < g.1 ∧ FrB 40 g) : Low (gnF g a) ∧ FrB 100 (gnF g a) ∧ rv (gnF g a) = 1 - shr (rv a) (rv g) := by
  obtain ⟨h1, h2, h3⟩ := lesF_ok ha hg
  have o1 : ((1, 1) : Fr).2 ≠ 0 := by decide
  refine ⟨lo_low (Int.mul_ne_zero o1 h1.ne), (fminus_B (n := 1) (m := 80) ⟨by decide, by decide⟩ h2 o1 h1.ne).mono (by decide), ?_⟩
  unfold gnF
  rw [rv_fminus o1 h1.ne, h3, rv_int]
  rfl
def spLesser (K : PySem.W.Frag) : Sp := fun vs H Q _ => ∃ (a b : Addr) (f g : Fr), vs = [.ref a, .ref b] ∧ FrAt K H a f ∧ FrAt K H b g ∧ OkF f ∧ (Low g ∧ 0 < g.1 ∧ FrB 40 g) ∧ ∀ H' c, Kp [] H H' → FrAt K H' c (lesF f g) → Q (.ref c) H'
theorem ok__law_lesser {P : Program} {w : World} {K : PySem.W.Frag} {mg : Str → Option Value} {base : Heap} (T : T P K mg base) : FnOk P w K mg base CX0 2 T.a__law_lesser T.fd__law_lesser ["weight", "limit"] (spLesser K) := by
  refine T.F__law_lesser.ok sc__law_lesser (fun vs H Q E h => ?_) (fun cdv A outer s H vs Q E hr h => ?_)
  · obtain ⟨a, b, f, g, rfl, _⟩ := h
    rfl
  · obtain ⟨a, b, f, g, rfl, ha, hb, hf, hg, q⟩ := h
    refine ⟨_, (pss_cons (ps_if (PW.pt (pw_or (pt_cmpR op_eq (pe_ix ix_tup (pv 1) pe_int (fun _ _ => rfl)) pe_int (nomark _)) (pw_or (pt_val (pe_call (ok__law_less T) (hr.mono (by decide)) (by rfl) T.g__law_less T.F__law_less.kp T.b__law_less .nil pass0 (pa_cons (pv 1) (pa_cons (pv 0) pa_nil)))) (pw_or1 (pt_cmpR (op_eqD hr.units) (pv 0) (pv 1) (nomark _)))))) (pss_one (ps_ret (pe_tup (pa_cons pe_int (pa_cons pe_int pa_nil))))) pss_nil)
      (pss_one (ps_ret (pe_call (ok__law_low T) (hr.mono (by decide)) (by rfl) T.g__law_low T.F__law_low.kp T.b__law_low .nil pass0 (pa_cons (pe_op op_mulW (pe_ix ix_tup (pv 0) pe_int (fun _ _ => rfl)) (pe_ix ix_tup (pv 1) pe_int (fun _ _ => rfl))) (pa_cons (pe_op op_mulW (pe_ix ix_tup (pv 0) pe_int (fun _ _ => rfl)) (pe_ix ix_tup (pv 1) pe_int (fun _ _ => rfl))) pa_nil)))))), ?_⟩
    walk_at "z0"
    walk_at "z"
    have ff := hf.low.1
    have fp := hf.pos
    obtain ⟨gL, gp, gB⟩ := hg
    have g1 := gL.1
    have fB := hf.B
    refine Z.ixT hb (fr0 g) ?_
    walk_at "z"
    refine Z.no (by omega) ?_
    walk_at "z"
    refine ⟨b, a, g, f, rfl, hb, ha, gB.mono (by decide), fB.mono (by decide), ?_⟩
    rw [fless_iff g1 ff]
    by_cases h1 : rv g < rv f
    · have hle : lesF f g = (1, 1) := by unfold lesF; rw [if_neg (by grind)]
      rw [hle] at q
      refine ⟨_, rfl, Z.yes h1 ?_⟩
      walk_at "z"
      exact Z.tupK (fun c H1 nc k1 e1 => q H1 c k1 (tupT e1))
    · refine ⟨_, rfl, Z.no h1 ?_⟩
      walk_at "z"
      refine eqF ha hb ?_
      by_cases h2 : f = g
      · have hle : lesF f g = (1, 1) := by unfold lesF; rw [h2, if_neg (by grind)]
        rw [hle] at q
        refine ⟨_, rfl, Z.yes h2 ?_⟩
        walk_at "z"
        exact Z.tupK (fun c H1 nc k1 e1 => q H1 c k1 (tupT e1))
      · have hlt : rv f < rv g := by
          have : rv f ≠ rv g := fun z => h2 (low_eq hf.low gL z)
          grind
        have hle : lesF f g = lo (f.1 * g.2) (f.2 * g.1) := by unfold lesF; rw [if_pos hlt]
        rw [hle] at q
        refine ⟨_, rfl, Z.no h2 ?_⟩
        walk_at "z"
        refine Z.ixT ha (fr0 f) ?_
        walk_at "z"
        refine Z.ixT hb (fr1 g) ?_
        walk_at "z"
        refine Z.iC (mul_ok fB.1 gB.2) ?_
        walk_at "z"
        refine Z.ixT ha (fr1 f) ?_
        walk_at "z"
        refine Z.ixT hb (fr0 g) ?_
        walk_at "z"
        refine Z.iC (mul_ok fB.2 gB.1) ?_
        walk_at "z"
        have h0 := Int.mul_pos (show 0 < f.2 by omega) gp
        exact ⟨_, _, rfl, by omega, up_B (mul_B fB.2 gB.1) (by decide), fun H' c nc k e => q _ _ k e⟩
def raL (g : Fr) (ps : List Pa) : List Pa := ps.map (raP g)
def spRaised (K : PySem.W.Frag) : Sp := fun vs H Q _ => ∃ (l b : Addr) (ps : List Pt) (g : Fr), vs = [.ref l, .ref b] ∧ H l = some (.lst (prefs ps)) ∧ PtsAt K H ps ∧ ps.length ≤ 10 ∧ (∀ p ∈ ps, OkF p.f) ∧ FrAt K H b g ∧ Low g ∧ FrB 40 g ∧ ∀ H' D qs, H D = none → Kp [] H H' → H' D = some (.lst (prefs qs)) → PtsAt K H' qs → qs.map Pt.pa = (ps.map Pt.pa).map (raP g) → Q (.ref D) H'
theorem ok__law_raised {P : Program} {w : World} {K : PySem.W.Frag} {mg : Str → Option Value} {base : Heap} (T : T P K mg base) : FnOk P w K mg base CX0 2 T.a__law_raised T.fd__law_raised ["parts", "limit"] (spRaised K) := by
  refine T.F__law_raised.ok sc__law_raised (fun vs H Q E h => ?_) (fun cdv A outer s H vs Q E hr h => ?_)
  · obtain ⟨l, b, ps, g, rfl, _⟩ := h
    rfl
  · obtain ⟨l, b, ps, g, rfl, hl, hps, hn, hok, hb, hgL, hgB, q⟩ := h
    refine ⟨_, (pss_one (ps_ret (pe_lc (own := [("item", 2), ("adjusted", 3)]) (g := gTup K 2 (gCons (gName 2) (gCons (gName 3) gNil))) rfl sc__law_raised.nd (pi_list (pv 0)) (blkOk_by (own := [("item", 2), ("adjusted", 3)]) (N := N__law_raised) (sc := defScope s__law_raised) (by decide +kernel)) (fun _ _ _ _ _ => (pg_tup rfl (pgs_cons (pg_name (i := 2) sc__law_raised.nd rfl (by first | exact Or.inl rfl | exact Or.inr rfl)) (pgs_cons (pg_name (i := 3) sc__law_raised.nd rfl (by first | exact Or.inl rfl | exact Or.inr rfl)) pgs_nil)))) (fun _ _ _ _ _ => pts_nil) (fun _ _ _ _ _ => (pe_tup (pa_cons (pv 2) (pa_cons (pe_ix (ix_list : IxR _ (rIxL K)) (pe_lst (pa_cons (pv 3) (pa_cons (pv 1) pa_nil))) (pe_callTy c_int (by rfl) T.z_int (by decide +kernel) (pa_cons (pe_call (ok__law_less T) (hr.mono (by decide)) (by rfl) T.g__law_less T.F__law_less.kp T.b__law_less .nil pass0 (pa_cons (pv 3) (pa_cons (pv 1) pa_nil))) pa_nil)) (fun _ _ => rfl)) pa_nil))))))), ?_⟩
    walk_at "z0"
    walk_at "z"
    refine Z.lcl (prefs ps) (lstL hl) (fun D i H' => ∃ qs : List Pt, Kp [] H H' ∧ H' D = some (.lst (prefs qs)) ∧ PtsAt K H' qs ∧ qs.map Pt.pa = ((ps.take i).map Pt.pa).map (raP g)) ?_ ?_ ?_ ?_
    · intro D H1 nD k1 e1
      exact ⟨[], k1, e1, (fun p hp => by cases hp), rfl⟩
    · rintro D i H1 nD hi ⟨qs, k1, e1, P1, hq⟩
      exact lstL (k1.get nin0 hl)
    · rintro D i v H1 nD hv ⟨qs, k1, e1, P1, hq⟩
      obtain ⟨p, hp, rfl⟩ := prefs_of hv
      have hpm := List.mem_of_getElem? hp
      have hi : i < ps.length := (List.getElem?_eq_some_iff.mp hp).1
      have hpa := (hps.kp0 k1) p hpm
      have hpo := hok p hpm
      dsimp only [wipe, List.set]
      refine Z.gtup (tupT hpa.at_) rfl ?_
      walk_at "z"
      refine ⟨rfl, ?_⟩
      walk_at "z"
      refine Z.lstK (fun L H2 nL k2 e2 => ?_)
      walk_at "z"
      refine ⟨p.a, b, p.f, g, rfl, hpa.fr.kp0 k2, (hb.kp0 k1).kp0 k2, hpo.B.mono (by decide), hgB.mono (by decide), ?_⟩
      rw [fless_iff hpo.low.1 hgL.1]
      walk_at "z"
      refine Z.ixL (lstL e2) (v := if rv p.f < rv g then .ref b else .ref p.a) ?_ ?_
      · by_cases z : rv p.f < rv g
        · rw [if_pos z, if_pos (by simpa using z)]; rfl
        · rw [if_neg z, if_neg (by simpa using z)]; rfl
      walk_at "z"
      refine Z.tupK (fun t H3 nt k3 e3 => ?_)
      have k23 := k2.trans k3
      have e3D := k23.get nin0 e1
      have hnew : PtAt K H3 ⟨t, p.x, if rv p.f < rv g then b else p.a, if rv p.f < rv g then g else p.f⟩ := by
        by_cases z : rv p.f < rv g
        · simp only [if_pos z] at e3 ⊢
          exact ⟨e3, (hpa.row.kp0 k23), (hb.kp0 k1).kp0 k23⟩
        · simp only [if_neg z] at e3 ⊢
          exact ⟨e3, (hpa.row.kp0 k23), hpa.fr.kp0 k23⟩
      have hlen : qs.length = i := by
        have := congrArg List.length hq
        simp only [List.length_map, List.length_take] at this
        omega
      refine ⟨_, e3D, Z.szl (m := 1000) (by rw [prefs_len]; omega), qs ++ [⟨t, p.x, if rv p.f < rv g then b else p.a, if rv p.f < rv g then g else p.f⟩], (k1.trans k23).mut nD rfl, by rw [upd_same]; unfold prefs; rw [List.map_append]; rfl, ?_, ?_⟩
      · exact fun x hx => (mem_append_one (P1.kp0 k23) hnew x hx).kpx (Kp.put (by simp)) e3D fun xs => ⟨by simp, by simp⟩
      · rw [List.map_append, hq, List.take_add_one, hp, List.map_append, List.map_append]
        rfl
    · rintro D H1 nD ⟨qs, k1, e1, P1, hq⟩
      rw [prefs_len, List.take_length] at hq
      exact q H1 D qs nD k1 e1 P1 hq
end leaf36

def ptD (p : Pt) : PyData := .tuple [rowD p.x.2, frD p.f]
theorem dpPts {K : PySem.W.Frag} {H : Hp} : ∀ {ps : List Pt}, PtsAt K H ps → DpAll K H (prefs ps) (ps.map ptD)
  | [], _ => .nil
  | p :: r, h => .cons (.tup (tupT (h p (by simp)).at_) (.cons (dpRow (h p (by simp)).row) (.cons (dpF (h p (by simp)).fr) .nil))) (dpPts (ps := r) fun x hx => h x (by simp [hx]))
theorem layPts : ∀ {ps : List Pt}, (∀ p ∈ ps, RowS p.x.2) → PyData.canLayAll0 (ps.map ptD) = true
  | [], _ => by simp [PyData.canLayAll0]
  | p :: r, h => by
    have ih := layPts (ps := r) fun y hy => h y (by simp [hy])
    show PyData.canLayAll0 (ptD p :: r.map ptD) = true
    have e : PyData.canLay0 (ptD p) = true := by simp [ptD, frD, PyData.canLay0, PyData.canLayAll0, rowD_lay (h p (by simp))]
    rw [PyData.canLayAll0, e, ih]; rfl
theorem depthPts : ∀ ps : List Pt, PyData.depthAll (ps.map ptD) ≤ 2
  | [] => by simp [PyData.depthAll]
  | p :: r => by
    have ih := depthPts r
    show PyData.depthAll (ptD p :: r.map ptD) ≤ 2
    have e : (ptD p).depth ≤ 2 := by simp [ptD, frD, rowD, PyData.depth, PyData.depthAll]
    rw [PyData.depthAll]
    omega
theorem shPts {ps : List Pt} (h : ∀ p ∈ ps, RowS p.x.2) : SeqAt.shaped (.list (ps.map ptD)) = true := by
  have := depthPts ps
  simp [SeqAt.shaped, PyData.canLay0, PyData.depth, layPts h]
  omega
theorem nePts {K : PySem.W.Frag} {H : Hp} {Q : VK} {a b : Addr} {ps : List Pt} (h1 : H a = some (.lst (prefs ps))) (h2 : H b = some (.lst (prefs ps))) (r : PtsAt K H ps) (s : ∀ p ∈ ps, RowS p.x.2) (q : Q (.bl false) H) : rNeD K (.ref a) (.ref b) H Q :=
  ⟨_, _, .lst (lstL h1) (dpPts r), .lst (lstL h2) (dpPts r), shPts s, shPts s, by rw [SeqAt.eqv_refl _ (by rw [PyData.canLay0]; exact layPts s)]; exact q⟩
section drop27
variable {K : PySem.W.Frag}
open LamX LamK LamQ
def leP (x y : Pt) : Bool := PySem.W.dataLe false (fun z : Pt => ptD z) x y
def sortP (ps : List Pt) : List Pt := ps.mergeSort leP
theorem sortP_perm (ps : List Pt) : (sortP ps).Perm ps := List.mergeSort_perm _ _
theorem sortP_refs (ps : List Pt) : ((ps.map fun x => (V.ref x.t, ptD x)).mergeSort (PySem.W.dataLe false Prod.snd)).map Prod.fst = prefs (sortP ps) := by
  unfold sortP
  rw [← List.map_mergeSort (r := leP) (s := PySem.W.dataLe false Prod.snd) (f := fun x : Pt => (V.ref x.t, ptD x)) (fun _ _ _ _ => rfl), List.map_map]
  rfl
theorem PtsAt.perm {H : Hp} {ps qs : List Pt} (h : qs.Perm ps) (r : PtsAt K H ps) : PtsAt K H qs := fun x hx => r x (h.mem_iff.mp hx)
theorem dpPt {H : Hp} {p : Pt} (h : PtAt K H p) : Dp K H (.ref p.t) (ptD p) := .tup (tupT h.at_) (.cons (dpRow h.row) (.cons (dpF h.fr) .nil))
theorem ptD_depth (p : Pt) : (ptD p).depth ≤ 2 := by simp [ptD, frD, rowD, PyData.depth, PyData.depthAll]
theorem sortedPts {H : Hp} {Q : VK} {a : Addr} {ps : List Pt} (h : SqL K H a (prefs ps)) (r : PtsAt K H ps) (q : ∀ p H1, H p = none → Kp [] H H1 → H1 p = some (.lst (prefs (sortP ps))) → Q (.ref p) H1) : RL.rSortedD K [.ref a] H Q := by
  refine ⟨a, ps.map fun x => (V.ref x.t, ptD x), rfl, by rw [List.map_map]; exact h, ?_, ?_, ?_, ?_, fun p np => ?_⟩
  · intro b hb
    obtain ⟨x, hx, rfl⟩ := List.mem_map.mp hb
    exact dpPt (r x hx)
  · rw [List.map_map]
    exact PySem.W.AllAlike.of fun _ _ => by simp [PySem.W.alike, PySem.W.alikeAll, ptD, rowD, frD]
  · rw [List.map_map]
    exact PySem.W.Sortable.tuples fun _ => ⟨_, _, rfl⟩
  · intro b hb
    obtain ⟨x, hx, rfl⟩ := List.mem_map.mp hb
    have := ptD_depth x
    show (ptD x).depth ≤ 60
    omega
  · rw [sortP_refs]
    exact q p _ np (Kp.new np) upd_same
def paD (p : Pa) : PyData := .tuple [rowD p.1.2, frD p.2]
def lfD (m : Lf) : PyData := .tuple [frD m.1, .list (m.2.map paD)]
theorem dpLf {M : List Addr} {H : Hp} {t : Addr} {m : Lf} (h : LfAt K M H t m) : Dp K H (.ref t) (lfD m) := by
  obtain ⟨a, l, ps, h1, h2, h3, h4, h5, _⟩ := h
  have e : m.2.map paD = ps.map ptD := by rw [← h5, List.map_map]; rfl
  refine .tup (tupT h1) (.cons (dpF h2) (.cons ?_ .nil))
  rw [e]
  exact .lst (lstL h3) (dpPts h4)
theorem dpLfs {M : List Addr} {H : Hp} {ts : List Addr} {ms : List Lf} (h : LfsAt K M H ts ms) : DpAll K H (ts.map V.ref) (ms.map lfD) := by
  induction h with
  | nil => exact .nil
  | cons r t ih => exact .cons (dpLf r) ih
theorem layPas : ∀ {ps : List Pa}, (∀ p ∈ ps, RowS p.1.2) → PyData.canLayAll0 (ps.map paD) = true
  | [], _ => by simp [PyData.canLayAll0]
  | p :: r, h => by
    have ih := layPas (ps := r) fun y hy => h y (by simp [hy])
    show PyData.canLayAll0 (paD p :: r.map paD) = true
    have e : PyData.canLay0 (paD p) = true := by simp [paD, frD, PyData.canLay0, PyData.canLayAll0, rowD_lay (h p (by simp))]
    rw [PyData.canLayAll0, e, ih]; rfl
theorem depthPas : ∀ ps : List Pa, PyData.depthAll (ps.map paD) ≤ 2
  | [] => by simp [PyData.depthAll]
  | p :: r => by
    have ih := depthPas r
    show PyData.depthAll (paD p :: r.map paD) ≤ 2
    have e : (paD p).depth ≤ 2 := by simp [paD, frD, rowD, PyData.depth, PyData.depthAll]
    rw [PyData.depthAll]
    omega
theorem layLfs : ∀ {ms : List Lf}, (∀ m ∈ ms, ∀ p ∈ m.2, RowS p.1.2) → PyData.canLayAll0 (ms.map lfD) = true
  | [], _ => by simp [PyData.canLayAll0]
  | m :: r, h => by
    have ih := layLfs (ms := r) fun y hy => h y (by simp [hy])
    show PyData.canLayAll0 (lfD m :: r.map lfD) = true
    have e : PyData.canLay0 (lfD m) = true := by simp [lfD, frD, PyData.canLay0, PyData.canLayAll0, layPas (h m (by simp))]
    rw [PyData.canLayAll0, e, ih]; rfl
theorem depthLfs : ∀ ms : List Lf, PyData.depthAll (ms.map lfD) ≤ 4
  | [] => by simp [PyData.depthAll]
  | m :: r => by
    have ih := depthLfs r
    show PyData.depthAll (lfD m :: r.map lfD) ≤ 4
    have h := depthPas m.2
    have e : (lfD m).depth ≤ 4 := by
      simp [lfD, frD, PyData.depth, PyData.depthAll]
      omega
    rw [PyData.depthAll]
    omega
theorem shLfs {ms : List Lf} (h : ∀ m ∈ ms, ∀ p ∈ m.2, RowS p.1.2) : SeqAt.shaped (.list (ms.map lfD)) = true := by
  have := depthLfs ms
  simp [SeqAt.shaped, PyData.canLay0, PyData.depth, layLfs h]
  omega
theorem eqNilL {M : List Addr} {H : Hp} {Q : VK} {a b : Addr} {ws : List Addr} {wm : List Lf} (h1 : H a = some (.lst (ws.map V.ref))) (F : LfsAt K M H ws wm) (r : ∀ m ∈ wm, ∀ p ∈ m.2, RowS p.1.2) (h2 : H b = some (.lst [])) (q : Q (.bl (decide (wm = []))) H) : rEqD K (.ref a) (.ref b) H Q := by
  refine ⟨.list (wm.map lfD), .list [], .lst (lstL h1) (dpLfs F), .lst (lstL h2) .nil, shLfs r, by decide, ?_⟩
  have e : PyData.eqv (.list (wm.map lfD)) (.list []) = decide (wm = []) := by
    cases wm <;> simp [PyData.eqv, PyData.eqvAll]
  rw [e]
  exact q
theorem dropsF_len {g c : Fr} : ∀ {post pre : List Pa}, (dropsF g c pre post).length ≤ post.length
  | [], _ => by simp [dropsF]
  | p :: r, pre => by
    have ih := dropsF_len (g := g) (c := c) (post := r) (pre := pre ++ [p])
    unfold dropsF
    rw [List.length_append, List.length_cons]
    split <;> simp <;> omega
theorem dropsF_mem {g c : Fr} : ∀ {post pre : List Pa}, ∀ m ∈ dropsF g c pre post, m.2.length + 1 = pre.length + post.length ∧ ∀ p ∈ m.2, ∃ p' ∈ pre ++ post, p.1 = p'.1
  | [], _, m, h => by cases h
  | p :: r, pre, m, h => by
    unfold dropsF at h
    rcases List.mem_append.mp h with h | h
    · split at h
      · cases h
      · rw [List.mem_singleton.mp h]
        refine ⟨by simp; omega, fun x hx => ?_⟩
        obtain ⟨y, hy, rfl⟩ := List.mem_map.mp hx
        refine ⟨y, ?_, rfl⟩
        rcases List.mem_append.mp hy with h | h <;> simp [h]
    · obtain ⟨h1, h2⟩ := dropsF_mem m h
      refine ⟨by rw [h1]; simp; omega, fun x hx => ?_⟩
      obtain ⟨y, hy, e⟩ := h2 x hx
      exact ⟨y, by simpa using hy, e⟩
theorem dropsF_step {g c : Fr} {q0 : List Pa} {j : Nat} {p : Pa} (h : q0[j]? = some p) : dropsF g c (q0.take j) (q0.drop j) = (if gnF g p.2 = (0, 1) then [] else [(ftimes c (gnF g p.2), (q0.take j ++ q0.drop (j + 1)).map (raP g))]) ++ dropsF g c (q0.take (j + 1)) (q0.drop (j + 1)) := by
  obtain ⟨hj, e⟩ := List.getElem?_eq_some_iff.mp h
  rw [List.drop_eq_getElem_cons hj, e, List.take_add_one, h]
  rfl

/-- the levels of drops: tau m is the threshold for m places -/
def Nd (tau : Nat → Fr) (size : Nat) : Nat → List Pa → Prop
  | 0, Q => Q.length ≤ size ∧ Q.length ≤ 6 ∧ ∀ p ∈ Q, OkF p.2 ∧ RowS p.1.2
  | d + 1, Q => Q.length = size + d + 1 ∧ Q.length ≤ 6 ∧ (∀ p ∈ Q, OkF p.2 ∧ RowS p.1.2) ∧ (Low (tau (size + d)) ∧ 0 < (tau (size + d)).1 ∧ FrB 40 (tau (size + d)) ∧ Thr (Q.map fun p => rv p.2) (size + d) (rv (tau (size + d)))) ∧
      ∀ c, ∀ m ∈ dropsF (tau (size + d)) c [] Q, Nd tau size d m.2
def lvs (tau : Nat → Fr) (size : Nat) : Nat → List Pa → Fr → List Lf
  | 0, Q, c => [(c, Q)]
  | d + 1, Q, c => (dropsF (tau (size + d)) c [] Q).reverse.flatMap fun m => lvs tau size d m.2 m.1
/-- how many turns this takes -/
def cnt (tau : Nat → Fr) (size : Nat) : Nat → List Pa → Fr → Nat
  | 0, _, _ => 1
  | d + 1, Q, c => 1 + ((dropsF (tau (size + d)) c [] Q).map fun m => cnt tau size d m.2 m.1).sum
theorem Nd.ok {tau : Nat → Fr} {size : Nat} {d : Nat} {Q : List Pa} (h : Nd tau size d Q) : Q.length ≤ 6 ∧ ∀ p ∈ Q, OkF p.2 ∧ RowS p.1.2 := by
  cases d with
  | zero => exact h.2
  | succ d => exact ⟨h.2.1, h.2.2.1⟩
theorem natsum_le {l : List Nat} {b : Nat} (h : ∀ x ∈ l, x ≤ b) : l.sum ≤ l.length * b := by
  induction l with
  | nil => simp
  | cons a r ih =>
    have h1 := h a (by simp)
    have h2 := ih fun x hx => h x (by simp [hx])
    rw [List.sum_cons, List.length_cons, Nat.add_mul]
    omega
def cB : Nat → Nat
  | 0 => 1
  | d + 1 => 1 + 6 * cB d
theorem cnt_B {tau : Nat → Fr} {size : Nat} : ∀ {d : Nat} {Q : List Pa} {c : Fr}, Nd tau size d Q → 1 ≤ cnt tau size d Q c ∧ cnt tau size d Q c ≤ cB d
  | 0, _, _, _ => ⟨Nat.le_refl _, Nat.le_refl _⟩
  | d + 1, Q, c, h => by
    obtain ⟨h1, h6, h2, h3, h4⟩ := h
    refine ⟨by unfold cnt; omega, ?_⟩
    have h5 := natsum_le (l := (dropsF (tau (size + d)) c [] Q).map fun m => cnt tau size d m.2 m.1) (b := cB d) fun x hx => by
      obtain ⟨m, hm, rfl⟩ := List.mem_map.mp hx
      exact (cnt_B (h4 c m hm)).2
    rw [List.length_map] at h5
    have h7 := dropsF_len (g := tau (size + d)) (c := c) (post := Q) (pre := [])
    have h8 : (dropsF (tau (size + d)) c [] Q).length * cB d ≤ 6 * cB d := Nat.mul_le_mul_right _ (by omega)
    show 1 + _ ≤ 1 + 6 * cB d
    omega
/-- a waiting leaf with its level -/
abbrev Wl := Nat × Lf
def wLv (tau : Nat → Fr) (size : Nat) (x : Wl) : List Lf := lvs tau size x.1 x.2.2 x.2.1
def wCnt (tau : Nat → Fr) (size : Nat) (x : Wl) : Nat := cnt tau size x.1 x.2.2 x.2.1
structure WlOk (tau : Nat → Fr) (size : Nat) (x : Wl) : Prop where
  nd : Nd tau size x.1 x.2.2
  d3 : x.1 ≤ 3
  low : Low x.2.1
  B : FrB (100 * (4 - x.1)) x.2.1
structure DropI (tau : Nat → Fr) (size : Nat) (all : List Lf) (N i : Nat) (wm fm : List Lf) (wl : List Wl) : Prop where
  map : wl.map Prod.snd = wm
  ok : ∀ x ∈ wl, WlOk tau size x
  all_ : fm ++ wl.reverse.flatMap (wLv tau size) = all
  cnt_ : i + (wl.map (wCnt tau size)).sum = N
  fl : fm.length ≤ i
theorem cnt_len {tau : Nat → Fr} {size : Nat} : ∀ {wl : List Wl}, (∀ x ∈ wl, WlOk tau size x) → wl.length ≤ (wl.map (wCnt tau size)).sum
  | [], _ => by simp
  | x :: r, h => by
    have h1 := (cnt_B (c := x.2.1) (h x (by simp)).nd).1
    have h2 := cnt_len (wl := r) fun y hy => h y (by simp [hy])
    rw [List.map_cons, List.sum_cons, List.length_cons]
    unfold wCnt at *
    omega
def spDropped (K : PySem.W.Frag) (TB : List (Addr × Str)) : Sp := fun vs H Q _ => ∃ (a l : Addr) (tau : Nat → Fr) (ps : List Pt) (size d : Nat), vs = [.ref a, .ref l, .int (size : Int)] ∧ Tabs TB H ∧ FrAt K H a (1, 1) ∧ H l = some (.lst (prefs ps)) ∧ PtsAt K H ps ∧ (∀ p ∈ ps, OkF p.f ∧ RowS p.x.2) ∧ ps.length ≤ 6 ∧ 1 ≤ size ∧ size ≤ 3 ∧ d ≤ 3 ∧ Nd tau size d ((sortP ps).map Pt.pa) ∧
  ∀ H' D ts ms, Nw H D → ExtN H H' → Tabs TB H' → H' D = some (.lst (ts.map V.ref)) → LfsAt K [] H' ts ms → ms = lvs tau size d ((sortP ps).map Pt.pa) (1, 1) → Q (.ref D) H'
theorem dropsF_c {g c : Fr} : ∀ {post pre : List Pa} {m : Lf}, m ∈ dropsF g c pre post → ∃ p ∈ pre ++ post, m.1 = ftimes c (gnF g p.2)
  | [], _, m, h => by cases h
  | p :: r, pre, m, h => by
    unfold dropsF at h
    rcases List.mem_append.mp h with h | h
    · split at h
      · cases h
      · rw [List.mem_singleton.mp h]
        exact ⟨p, by simp, rfl⟩
    · obtain ⟨x, hx, e⟩ := dropsF_c h
      exact ⟨x, by simpa using hx, e⟩
theorem ok__law_dropped {P : Program} {w : World} {K : PySem.W.Frag} {mg : Str → Option Value} {base : Heap} (T : T P K mg base) : FnOk P w K mg base CX0 5 T.a__law_dropped T.fd__law_dropped ["chance", "parts", "size"] (spDropped K (TBS T)) := by
  refine T.F__law_dropped.ok sc__law_dropped (fun vs H Q E h => ?_) (fun cdv A outer s H vs Q E hr h => ?_)
  · obtain ⟨a, l, tau, ps, size, d0, rfl, _⟩ := h
    rfl
  · obtain ⟨a, l, tau, ps, size, d0, rfl, hT, ha, hl, hps, hok, h6, s1, s3, hd3, hnd, q⟩ := h
    refine ⟨_, (pss_cons (ps_set (i := 3) sc__law_dropped.nd rfl (by first | exact Or.inl rfl | exact Or.inr rfl) (pe_lst (pa_cons (pe_tup (pa_cons (pv 0) (pa_cons (pe_callB ((RL.cr_sortedD hr.units) : CallR _ _ (RL.rSortedD K)) (by rfl) T.z_sorted (by decide +kernel) (pa_cons (pv 1) pa_nil)) pa_nil))) pa_nil)))
      (pss_cons (ps_set (i := 4) sc__law_dropped.nd rfl (by first | exact Or.inl rfl | exact Or.inr rfl) (pe_lst pa_nil))
      (Z.pss_consJ (ps_for PassesOwn.never rfl (pi_range1 (by rfl) T.z_range (pa_cons pe_int pa_nil)) (pg_name (i := 5) sc__law_dropped.nd rfl (by first | exact Or.inl rfl | exact Or.inr rfl)) (pss_cons (ps_if (pt_cmpR (op_eqD hr.units) (pv 3) (pe_lst pa_nil) (nomark _)) (pss_one ps_break) pss_nil)
      (pss_cons (ps_asg (pe_bm0 PySem.F.plainAttrs_list PySem.F.slot_list_pop PySem.F.type_list_pop mt_pop (pv 3)) (pg_tup rfl (pgs_cons (pg_name (i := 0) sc__law_dropped.nd rfl (by first | exact Or.inl rfl | exact Or.inr rfl)) (pgs_cons (pg_name (i := 1) sc__law_dropped.nd rfl (by first | exact Or.inl rfl | exact Or.inr rfl)) pgs_nil))))
      (pss_cons (ps_if (pt_cmpR op_le (pe_callB c_len (by rfl) T.z_len (by decide +kernel) (pa_cons (pv 1) pa_nil)) (pv 2) (nomark _)) (pss_cons (ps_expr (pe_bm PySem.F.plainAttrs_list PySem.F.slot_list_append PySem.F.type_list_append mt_append (pv 4) (pa_cons (pe_tup (pa_cons (pv 0) (pa_cons (pv 1) pa_nil))) pa_nil)))
      (pss_one ps_continue)) pss_nil)
      (pss_cons (ps_set (i := 6) sc__law_dropped.nd rfl (by first | exact Or.inl rfl | exact Or.inr rfl) (pe_call (ok__law_threshold T) (hr.mono (by decide)) (by rfl) T.g__law_threshold T.F__law_threshold.kp T.b__law_threshold .nil passL (pa_cons (pe_lc (own := [("one", 9)]) (g := gName 9) rfl sc__law_dropped.nd (pi_list (pv 1)) (blkOk_by (own := [("one", 9)]) (N := N__law_dropped) (sc := defScope s__law_dropped) (by decide +kernel)) (fun _ _ _ _ _ => (pg_name (i := 9) sc__law_dropped.nd rfl (by first | exact Or.inl rfl | exact Or.inr rfl))) (fun _ _ _ _ _ => pts_nil) (fun _ _ _ _ _ => (pe_ix (ix_tup : IxR _ (rIxT K)) (pv 9) pe_int (fun _ _ => rfl)))) (pa_cons (pe_op op_sub (pe_callB c_len (by rfl) T.z_len (by decide +kernel) (pa_cons (pv 1) pa_nil)) pe_int) pa_nil))))
      (pss_one (ps_for PassesOwn.never rfl (pi_range1 (by rfl) T.z_range (pa_cons (pe_callB c_len (by rfl) T.z_len (by decide +kernel) (pa_cons (pv 1) pa_nil)) pa_nil)) (pg_name (i := 7) sc__law_dropped.nd rfl (by first | exact Or.inl rfl | exact Or.inr rfl)) (pss_cons (ps_set (i := 8) sc__law_dropped.nd rfl (by first | exact Or.inl rfl | exact Or.inr rfl) (pe_call (ok__law_minus T) (hr.mono (by decide)) (by rfl) T.g__law_minus T.F__law_minus.kp T.b__law_minus .nil pass0 (pa_cons (pe_tup (pa_cons pe_int (pa_cons pe_int pa_nil))) (pa_cons (pe_call (ok__law_lesser T) (hr.mono (by decide)) (by rfl) T.g__law_lesser T.F__law_lesser.kp T.b__law_lesser .nil pass0 (pa_cons (pe_ix ix_tup (pe_ix ix_list (pv 1) (pv 7) (fun _ _ => rfl)) pe_int (fun _ _ => rfl)) (pa_cons (pv 6) pa_nil))) pa_nil))))
      (pss_one (ps_if (pt_cmpR (op_neD hr.units) (pv 8) (pe_tup (pa_cons pe_int (pa_cons pe_int pa_nil))) (nomark _)) (pss_one (ps_expr (pe_bm PySem.F.plainAttrs_list PySem.F.slot_list_append PySem.F.type_list_append mt_append (pv 3) (pa_cons (pe_tup (pa_cons (pe_call (ok__law_times T) (hr.mono (by decide)) (by rfl) T.g__law_times T.F__law_times.kp T.b__law_times .nil pass0 (pa_cons (pv 0) (pa_cons (pv 8) pa_nil))) (pa_cons (pe_call (ok__law_raised T) (hr.mono (by decide)) (by rfl) T.g__law_raised T.F__law_raised.kp T.b__law_raised .nil pass0 (pa_cons (pe_op op_cat (pe_slice sl_list (pv 1) po_none (po_some (pv 7))) (pe_slice sl_list (pv 1) (po_some (pe_op op_add (pv 7) pe_int)) po_none)) (pa_cons (pv 6) pa_nil))) pa_nil))) pa_nil)))) pss_nil))))))))))
      (pss_one (ps_ret (pv 4)))))), ?_⟩
    walk_at "z0"
    walk_at "z"
    refine sortedPts (lstL hl) hps fun so H1 nso k1 e1 => ?_
    have hsp := sortP_perm ps
    have P1 : PtsAt K H1 (sortP ps) := (hps.kp0 k1).perm hsp
    have hsl : (sortP ps).length = ps.length := hsp.length_eq
    have hso : ∀ p ∈ sortP ps, OkF p.f ∧ RowS p.x.2 := fun p hp => hok p (hsp.mem_iff.mp hp)
    walk_at "z"
    refine Z.tupK (fun t H2 nt k2 e2 => ?_)
    walk_at "z"
    refine Z.lstK (fun W H3 nW k3 e3 => ?_)
    walk_at "z"
    refine Z.lstK (fun F H4 nF k4 e4 => ?_)
    have k12 := k1.trans k2
    have k14 := (k12.trans k3).trans k4
    have nWH : Nw H W := Nw.of (k12.none nin0 nW)
    have nFH : Nw H F := Nw.of ((k12.trans k3).none nin0 nF)
    have nWF : W ≠ F := ne_of_none e3 nF
    have nsW : so ≠ W := ne_of_none (k2.get nin0 e1) nW
    have nsF : so ≠ F := ne_of_none ((k2.trans k3).get nin0 e1) nF
    have L0 : LfAt K [W, F] H4 t ((1, 1), (sortP ps).map Pt.pa) := ⟨a, so, sortP ps, (k3.trans k4).get nin0 e2, (ha.kp0 k14), ((k2.trans k3).trans k4).get nin0 e1, (P1.kp0 ((k2.trans k3).trans k4)), rfl, by simp [nsW, nsF]⟩
    generalize hq0 : (sortP ps).map Pt.pa = q0 at L0 hnd q
    have hq0l : q0.length = ps.length := by rw [← hq0, List.length_map, hsl]
    have hq0r : ∀ p ∈ q0, OkF p.2 ∧ RowS p.1.2 := fun p hp => by
      rw [← hq0] at hp
      obtain ⟨x, hx, rfl⟩ := List.mem_map.mp hp
      exact hso x hx
    have hqp : q0.Perm (ps.map Pt.pa) := by rw [← hq0]; exact hsp.map _
    walk_at "z"
    refine Z.seqJ (fun σ' H' => ∃ (y0 y1 y5 y6 y7 y8 y9 : Option V) (fs : List Addr) (fm : List Lf), σ' = [y0, y1, some (.int (size : Int)), some (.ref W), some (.ref F), y5, y6, y7, y8, y9] ∧ ExtN H H' ∧ Tabs (TBS T) H' ∧ H' F = some (.lst (fs.map V.ref)) ∧ LfsAt K [W, F] H' fs fm ∧ fm = lvs tau size d0 q0 (1, 1)) ?_ ?_
    · rintro σ' H' ⟨y0, y1, y5, y6, y7, y8, y9, fs, fm, rfl, e5, T5, eF, FF, hfm⟩
      walk_at "z"
      exact q H' F fs fm nFH e5 T5 eF FF.less hfm
    · intro N jn
      walk_at "z"
      refine Z.forr 4000 rfl (by decide) (fun i σ' H' => ∃ (y0 y1 y5 y6 y7 y8 y9 : Option V) (ws fs : List Addr) (wm fm : List Lf) (wl : List Wl), σ' = [y0, y1, some (.int (size : Int)), some (.ref W), some (.ref F), y5, y6, y7, y8, y9] ∧ ExtN H H' ∧ Tabs (TBS T) H' ∧ H' W = some (.lst (ws.map V.ref)) ∧ LfsAt K [W, F] H' ws wm ∧ H' F = some (.lst (fs.map V.ref)) ∧ LfsAt K [W, F] H' fs fm ∧ DropI tau size (lvs tau size d0 q0 (1, 1)) (cnt tau size d0 q0 (1, 1)) i wm fm wl) ?_ ?_ ?_
      · exact ⟨_, _, _, _, _, _, _, [t], [], _, [], [(d0, ((1, 1), q0))], rfl, ext_kp k14, tabs_kp hT k14, k4.get nin0 e3, .cons L0 .nil, e4, .nil, ⟨rfl, fun x hx => by rw [List.mem_singleton.mp hx]; exact ⟨hnd, hd3, one_low, ⟨Nat.one_lt_two_pow (by show 100 * (4 - d0) ≠ 0; omega), Nat.one_lt_two_pow (by show 100 * (4 - d0) ≠ 0; omega)⟩⟩, by simp [wLv], by simp [wCnt], by simp⟩⟩
      · rintro i σ' H5 hi ⟨y0, y1, y5, y6, y7, y8, y9, ws, fs, wm, fm, wl, rfl, e5, T5, eW, FW, eF, FF, hc⟩
        have hr5 : ∀ m ∈ wm, ∀ p ∈ m.2, RowS p.1.2 := fun m hm p hp => by
          rw [← hc.map] at hm
          obtain ⟨x, hx, rfl⟩ := List.mem_map.mp hm
          exact ((hc.ok x hx).nd.ok.2 p hp).2
        have hN := (cnt_B (c := (1, 1)) hnd).2
        have hN2 : cB d0 ≤ 259 := by
          rcases (show d0 = 0 ∨ d0 = 1 ∨ d0 = 2 ∨ d0 = 3 by omega) with h | h | h | h <;> subst h <;> decide
        have hcl := cnt_len hc.ok
        have hcc := hc.cnt_
        walk_at "z"
        refine Z.lstK (fun E H6 nE k6 e6 => ?_)
        have e6x := e5.trans (ext_kp k6)
        have T6 := tabs_kp T5 k6
        have eW6 := k6.get nin0 eW
        have eF6 := k6.get nin0 eF
        have FW6 := FW.kp0 k6
        have FF6 := FF.kp0 k6
        walk_at "z"
        refine eqNilL eW6 FW6 hr5 e6 ?_
        clear e6 nE
        walk_at "z"
        refine Z.ite (fun h1 => ?_) (fun h1 => ?_)
        · walk_at "z"
          refine jn _ _ ⟨_, _, _, _, _, _, _, fs, fm, rfl, e6x, T6, eF6, FF6, ?_⟩
          have h2 := hc.all_
          have h3 : wl = [] := by
            have := hc.map
            rw [h1] at this
            exact List.map_eq_nil_iff.mp this
          rw [h3] at h2
          simpa using h2
        · obtain ⟨wm', m, rfl⟩ : ∃ wm' m, wm = wm' ++ [m] := ⟨wm.dropLast, wm.getLast h1, (List.dropLast_concat_getLast h1).symm⟩
          obtain ⟨us, t', rfl, FU6, L6⟩ := FW6.last
          rw [List.map_append] at eW6
          walk_at "z"
          refine ⟨Z.tyL eW6, Z.popS eW6 ?_⟩
          have k7 : Kp [W] H6 (upd H6 W (.lst (us.map V.ref))) := Kp.put (by simp)
          have eW7 : upd H6 W (.lst (us.map V.ref)) W = some (.lst (us.map V.ref)) := upd_same
          generalize upd H6 W (.lst (us.map V.ref)) = H7 at k7 eW7 ⊢
          have L7 := L6.kpx (by simp) k7 eW6
          have FU7 := FU6.kpx (by simp) k7 eW6
          have FF7 := FF6.kpx (by simp) k7 eW6
          have eF7 := k7.get (nin1 nWF.symm) eF6
          have e7 := ext_put e6x k7 nWH
          have T7 := tabs_put T6 k7 eW6
          clear e5 T5 eW FW eF FF k6 e6x T6 eW6 eF6 FW6 FF6 FU6 L6 k7
          obtain ⟨cA, l', qs, ht', hcA, hl', hP', hqm, hnl⟩ := id L7
          obtain ⟨wl', d, rfl, hmap'⟩ : ∃ wl' d, wl = wl' ++ [(d, m)] ∧ wl'.map Prod.snd = wm' := by
            have h3 := hc.map
            rcases List.eq_nil_or_concat wl with rfl | ⟨wl', x, e⟩
            · simp at h3
            · rw [List.concat_eq_append] at e
              subst e
              rw [List.map_append, List.map_singleton] at h3
              obtain ⟨h4, h5⟩ := List.append_inj' h3 rfl
              obtain ⟨d, m2⟩ := x
              have : m2 = m := by simpa using h5
              subst this
              exact ⟨wl', d, rfl, h4⟩
          have hxo := hc.ok (d, m) (by simp)
          have hxn : Nd tau size d m.2 := hxo.nd
          have hok' : ∀ x ∈ wl', WlOk tau size x := fun x hx => hc.ok x (by simp [hx])
          have hall := hc.all_
          rw [List.reverse_append, List.reverse_singleton, List.singleton_append, List.flatMap_cons] at hall
          rw [List.map_append, List.sum_append, List.map_singleton, List.sum_singleton] at hcc
          rw [List.length_append, List.map_append, List.sum_append, List.map_singleton, List.sum_singleton] at hcl
          have hfl0 := hc.fl
          have husl : us.length = wl'.length := by rw [FU7.len, ← hmap', List.length_map]
          have hqml : qs.length = m.2.length := by rw [← hqm, List.length_map]
          refine Z.gtup (tupT ht') rfl ?_
          walk_at "z"
          refine Z.lenL (lstL hl') ?_
          rw [prefs_len]
          walk_at "z"
          refine Z.ite (fun h2 => ?_) (fun h2 => ?_)
          · walk_at "z"
            refine ⟨Z.tyL eF7, ?_⟩
            walk_at "z"
            refine Z.tupK (fun t2 H8 nt2 k8 e8 => ?_)
            have eF8 := k8.get nin0 eF7
            have FF8 := FF7.kp0 k8
            have L8 : LfAt K [W, F] H8 t2 m := ⟨cA, l', qs, e8, hcA.kp0 k8, k8.get nin0 hl', hP'.kp0 k8, hqm, hnl⟩
            walk_at "z"
            obtain rfl : d = 0 := by
              cases d with
              | zero => rfl
              | succ d =>
                have := hxn.1
                omega
            have hfl : fm.length ≤ 4000 := by omega
            refine Z.app eF8 (Z.szl (m := 10000) (by rw [List.length_map, FF8.len]; omega)) ?_
            have k9 : Kp [F] H8 (upd H8 F (.lst (fs.map V.ref ++ [V.ref t2]))) := Kp.put (by simp)
            have eF9 : upd H8 F (.lst (fs.map V.ref ++ [V.ref t2])) F = some (.lst ((fs ++ [t2]).map V.ref)) := by rw [upd_same, List.map_append]; rfl
            generalize upd H8 F (.lst (fs.map V.ref ++ [V.ref t2])) = H9 at k9 eF9 ⊢
            walk_at "z"
            refine ⟨_, _, _, _, _, _, _, us, fs ++ [t2], wm', fm ++ [m], wl', rfl, ext_put (e7.trans (ext_kp k8)) k9 nFH, tabs_put (tabs_kp T7 k8) k9 eF8, k9.get (nin1 nWF) (k8.get nin0 eW7), (FU7.kp0 k8).kpx (by simp) k9 eF8, eF9, (FF8.snoc L8).kpx (by simp) k9 eF8, ⟨hmap', hok', ?_, ?_, by rw [List.length_append]; simp; omega⟩⟩
            · rw [List.append_assoc]
              exact hall
            · have : wCnt tau size (0, m) = 1 := rfl
              omega
          · obtain ⟨d, rfl⟩ : ∃ d', d = d' + 1 := by
              cases d with
              | zero =>
                have := hxn.1
                omega
              | succ d => exact ⟨d, rfl⟩
            obtain ⟨hnl2, hn6, hnO, ⟨hgL, hg0, hgB, hgT⟩, hnext⟩ := hxn
            have hcL := hxo.low
            have hcB := hxo.B
            have hd4 := hxo.d3
            obtain ⟨c, q1⟩ := m
            have hqm : qs.map Pt.pa = q1 := hqm
            have hcL : Low c := hcL
            have hcB : FrB (100 * (4 - (d + 1))) c := hcB
            have hd4 : d + 1 ≤ 3 := hd4
            have hcA : FrAt K H7 cA c := hcA
            have hnl2 : q1.length = size + d + 1 := hnl2
            have hn6 : q1.length ≤ 6 := hn6
            have hqml : qs.length = q1.length := hqml
            have hql : qs.length = size + d + 1 := by omega
            have hnext : ∀ c, ∀ m ∈ dropsF (tau (size + d)) c [] q1, Nd tau size d m.2 := hnext
            have hgT : Thr (q1.map fun p => rv p.2) (size + d) (rv (tau (size + d))) := hgT
            have hnO : ∀ p ∈ q1, OkF p.2 ∧ RowS p.1.2 := hnO
            generalize hgv : tau (size + d) = g at *
            have hqf : ∀ p ∈ qs, OkF p.f ∧ RowS p.x.2 := fun p hp => hnO (Pt.pa p) (by
              rw [← hqm]
              exact List.mem_map.mpr ⟨p, hp, rfl⟩)
            walk_at "z"
            refine Z.lcl (prefs qs) (lstL hl') (fun D i H' => Kp [] H7 H' ∧ H' D = some (.lst (frefs ((qs.take i).map fun p => (p.a, p.f))))) ?_ ?_ ?_ ?_
            · intro D H8 nD k8 e8
              exact ⟨k8, e8⟩
            · rintro D i H8 nD hi ⟨k8, e8⟩
              exact lstL (k8.get nin0 hl')
            · rintro D i v H8 nD hv ⟨k8, e8⟩
              obtain ⟨p, hp, rfl⟩ := prefs_of hv
              have hi : i < qs.length := (List.getElem?_eq_some_iff.mp hp).1
              have hpa := (hP'.kp0 k8) p (List.mem_of_getElem? hp)
              dsimp only [wipe, List.set]
              walk_at "z"
              refine ⟨rfl, ?_⟩
              walk_at "z"
              refine Z.ixT (tupT hpa.at_) rfl ?_
              refine ⟨_, e8, Z.szl (m := 1000) (by rw [frefs_len, List.length_map, List.length_take]; omega), k8.mut nD rfl, ?_⟩
              rw [upd_same, List.take_add_one, hp]
              unfold frefs
              rw [List.map_append, List.map_append]; rfl
            rintro L H8 nL ⟨k8, e8⟩
            rw [prefs_len, List.take_length] at e8
            walk_at "z"
            refine Z.lenL (lstL (k8.get nin0 hl')) ?_
            rw [prefs_len, hql]
            walk_at "z"
            have esz : ((size + d + 1 : Nat) : Int) - 1 = ((size + d : Nat) : Int) := by omega
            rw [esz]
            refine ⟨L, _, size + d, rfl, tabs_kp T7 k8, e8, ?_, ?_, by rw [List.length_map]; omega, by omega, by omega, fun H9 b g' e9 T9 eb hgL' hgT' => ?_⟩
            · intro t ht
              obtain ⟨p, hp, rfl⟩ := List.mem_map.mp ht
              exact ((hP'.kp0 k8) p hp).fr
            · intro t ht
              obtain ⟨p, hp, rfl⟩ := List.mem_map.mp ht
              exact (hqf p hp).1
            have hgg : g' = g := by
              refine low_eq hgL' hgL ?_
              have h9 : (q1.map fun p => rv p.2) = qs.map fun p => rv p.f := by
                rw [← hqm, List.map_map]
                rfl
              rw [h9] at hgT
              refine thr_uniq (ws := qs.map fun p => rv p.f) (k := size + d) (fun w hw => ?_) ?_ hgT
              · obtain ⟨p, hp, rfl⟩ := List.mem_map.mp hw
                exact (rv_pos (hqf p hp).1.low.1).mp (hqf p hp).1.pos
              · rw [List.map_map] at hgT'
                exact hgT'
            subst hgg
            clear hgT hgL' hgT'
            have e79 := (ext_kp k8).trans e9
            have eW9 := ext_get e79 eW7
            have eF9 := ext_get e79 eF7
            have ht9 := ext_get e79 ht'
            have hl9 := ext_get e79 hl'
            have hc9 : FrAt K H9 cA c := ext_tup e79 hcA
            have hP9 := hP'.ext e79
            have e09 := e7.trans e79
            have FU9 := FU7.ext e79
            have FF9 := FF7.ext e79
            clear k8 e8 nL e9 e79 ht' hcA hl' hP' L7 FU7 FF7 e7 T7 eW7 eF7
            walk_at "z"
            refine Z.lenL (lstL hl9) ?_
            rw [prefs_len, hql]
            walk_at "z"
            refine Z.forr (size + d + 1) rfl (by omega) (fun j σ' H' => ∃ (y5 y7 y8 y9 : Option V) (us2 : List Addr) (acc : List Lf), σ' = [some (.ref cA), some (.ref l'), some (.int (size : Int)), some (.ref W), some (.ref F), y5, some (.ref b), y7, y8, y9] ∧ Kp [W] H9 H' ∧ H' W = some (.lst (us2.map V.ref)) ∧ LfsAt K [W, F] H' us2 (wm' ++ acc) ∧ acc.length ≤ j ∧ acc ++ dropsF g' c (q1.take j) (q1.drop j) = dropsF g' c [] q1) ?_ ?_ ?_
            · exact ⟨_, _, _, _, us, [], rfl, Kp.refl _, eW9, by rw [List.append_nil]; exact FU9, by simp, rfl⟩
            · rintro j σ' H10 hj ⟨y5, y7, y8, y9, us2, acc, rfl, k10, eW10, FU10, hal, hacc⟩
              have nt1 : ∀ {x : Addr} {xs : List V}, H9 x = some (.tup xs) → x ∉ [W] := fun h => nin1 fun z => by rw [z, eW9] at h; cases h
              have hl10 := k10.get (nin1 fun z => hnl (by simp [z])) hl9
              have hc10 : FrAt K H10 cA c := hc9.kpl k10 eW9
              have hb10 : FrAt K H10 b g' := eb.kpl k10 eW9
              have hP10 : PtsAt K H10 qs := fun p hp => (hP9 p hp).kpx k10 eW9 fun xs => ⟨by simp, by simp⟩
              obtain ⟨p, hp⟩ : ∃ p, qs[j]? = some p := ⟨qs[j]'(by omega), List.getElem?_eq_getElem (by omega)⟩
              have hpm := List.mem_of_getElem? hp
              have hqp' : q1[j]? = some (Pt.pa p) := by
                have h9 : qs.map Pt.pa = q1 := hqm
                rw [← h9, List.getElem?_map, hp]; rfl
              have hst := dropsF_step (g := g') (c := c) hqp'
              rw [hst] at hacc
              walk_at "z"
              refine Z.tupK (fun o H11 no k11 e11 => ?_)
              walk_at "z"
              refine Z.ixL (lstL (k11.get nin0 hl10)) (atI_nat (by unfold prefs; rw [List.getElem?_map, hp]; rfl)) ?_
              walk_at "z"
              have hpa11 := (hP10.kp0 k11) p hpm
              refine Z.ixT (tupT hpa11.at_) rfl ?_
              walk_at "z"
              refine ⟨p.a, b, p.f, g', rfl, hpa11.fr, hb10.kp0 k11, (hqf p hpm).1, ⟨hgL, hg0, hgB⟩, fun H12 cc k12 e12 => ?_⟩
              obtain ⟨l1, l2, _⟩ := lesF_ok (hqf p hpm).1 ⟨hgL, hg0, hgB⟩
              obtain ⟨n1, n2, _⟩ := gnF_ok (hqf p hpm).1 ⟨hgL, hg0, hgB⟩
              walk_at "z"
              refine ⟨o, cc, (1, 1), lesF p.f g', rfl, (show FrAt K H11 o (1, 1) from tupT e11).kp0 k12, e12, by decide, l1.1, ⟨1, 80, ⟨by decide, by decide⟩, l2, by decide⟩, fun H13 gn ngn k13 e13 => ?_⟩
              have e13' : FrAt K H13 gn (gnF g' p.f) := e13
              have k1113 := (k11.trans k12).trans k13
              walk_at "z"
              refine Z.tupK (fun z H14 nz k14 e14 => ?_)
              walk_at "z"
              refine neF (e13'.kp0 k14) (show FrAt K H14 z (0, 1) from tupT e14) ?_
              have k1014 := k1113.trans k14
              walk_at "z"
              refine Z.iteN (fun h3 => ?_) (fun h3 => ?_)
              · have hacc' : acc ++ ([(ftimes c (gnF g' p.f), (q1.take j ++ q1.drop (j + 1)).map (raP g'))] ++ dropsF g' c (q1.take (j + 1)) (q1.drop (j + 1))) = dropsF g' c [] q1 := by
                  rw [← hacc, if_neg (show ¬ gnF g' (Pt.pa p).2 = (0, 1) from h3)]
                  rfl
                walk_at "z"
                refine ⟨Z.tyL (k1014.get nin0 eW10), ?_⟩
                walk_at "z"
                refine ⟨cA, gn, c, gnF g' p.f, rfl, hc10.kp0 k1014, e13'.kp0 k14, hcL.1, n1.1, ⟨100 * (4 - (d + 1)), 100, hcB, n2, by omega⟩, fun H15 ch nch k15 e15 => ?_⟩
                have hl15 := (k1014.trans k15).get nin0 hl10
                walk_at "z"
                refine Z.slL (lstL hl15) (fun s1' H16 ns1 k16 e16 => ?_)
                rw [Z.cut_take (by rw [prefs_len]; omega)] at e16
                walk_at "z"
                have ej : (j : Int) + 1 = ((j + 1 : Nat) : Int) := by omega
                rw [ej]
                refine Z.slL (lstL (k16.get nin0 hl15)) (fun s2' H17 ns2 k17 e17 => ?_)
                rw [Z.cut_drop (by rw [prefs_len]; omega)] at e17
                walk_at "z"
                refine Z.cat (k17.get nin0 e16) e17 (by rw [List.length_take, List.length_drop, prefs_len]; omega) (fun ca H18 nca k18 e18 => ?_)
                have e18' : H18 ca = some (.lst (prefs (qs.take j ++ qs.drop (j + 1)))) := by
                  rw [e18]
                  unfold prefs
                  rw [List.map_append, List.map_take, List.map_drop]
                have k1018 := (((k1014.trans k15).trans k16).trans k17).trans k18
                have hsub : ∀ x ∈ qs.take j ++ qs.drop (j + 1), x ∈ qs := fun x hx => by
                  rcases List.mem_append.mp hx with h | h
                  · exact List.mem_of_mem_take h
                  · exact List.mem_of_mem_drop h
                walk_at "z"
                refine ⟨ca, b, _, g', rfl, e18', fun x hx => (hP10.kp0 k1018) x (hsub x hx), by rw [List.length_append, List.length_take, List.length_drop]; omega, fun x hx => (hqf x (hsub x hx)).1, hb10.kp0 k1018, hgL, hgB, fun H19 rl rs nrl k19 e19 P19 hrs => ?_⟩
                have k1019 := k1018.trans k19
                have eW19 := k1019.get nin0 eW10
                have nrlW : rl ≠ W := (ne_of_none (k1018.get nin0 eW10) nrl).symm
                have nrlF : rl ≠ F := (ne_of_none (k1018.get nin0 (k10.get (nin1 nWF.symm) eF9)) nrl).symm
                walk_at "z"
                refine Z.tupK (fun nt H20 nnt k20 e20 => ?_)
                have k1020 := k1019.trans k20
                have eW20 := k20.get nin0 eW19
                have hmm : rs.map Pt.pa = (q1.take j ++ q1.drop (j + 1)).map (raP g') := by
                  rw [hrs]
                  have h9 : qs.map Pt.pa = q1 := hqm
                  rw [← h9, ← List.map_take, ← List.map_drop, ← List.map_append]
                have L20 : LfAt K [W, F] H20 nt (ftimes c (gnF g' p.f), (q1.take j ++ q1.drop (j + 1)).map (raP g')) := ⟨ch, rl, rs, e20, ((((e15.kp0 k16).kp0 k17).kp0 k18).kp0 k19).kp0 k20, k20.get nin0 e19, P19.kp0 k20, hmm, by simp [nrlW, nrlF]⟩
                walk_at "z"
                refine Z.app eW20 (Z.szl (m := 1000) (by rw [List.length_map, FU10.len, List.length_append, ← hmap', List.length_map]; omega)) ?_
                have k21 : Kp [W] H20 (upd H20 W (.lst (us2.map V.ref ++ [V.ref nt]))) := Kp.put (by simp)
                have eW21 : upd H20 W (.lst (us2.map V.ref ++ [V.ref nt])) W = some (.lst ((us2 ++ [nt]).map V.ref)) := by rw [upd_same, List.map_append]; rfl
                generalize upd H20 W (.lst (us2.map V.ref ++ [V.ref nt])) = H21 at k21 eW21 ⊢
                walk_at "z"
                refine ⟨_, _, _, _, us2 ++ [nt], acc ++ [_], rfl, k10.trans ((k1020.sub (by simp)).trans k21), eW21, by rw [← List.append_assoc]; exact ((FU10.kp0 k1020).snoc L20).kpx (by simp) k21 eW20, by simp; omega, ?_⟩
                rw [List.append_assoc]
                exact hacc'
              · walk_at "z"
                refine ⟨_, _, _, _, us2, acc, rfl, k10.trans (k1014.sub (by simp)), k1014.get nin0 eW10, FU10.kp0 k1014, by omega, ?_⟩
                rw [if_pos (show gnF g' (Pt.pa p).2 = (0, 1) from h3)] at hacc
                exact hacc
            · rintro σ' H10 ⟨y5, y7, y8, y9, us2, acc, rfl, k10, eW10, FU10, hal, hacc⟩
              have hd : q1.drop (size + d + 1) = [] := List.drop_eq_nil_of_le (by omega)
              rw [hd] at hacc
              have hacc' : acc = dropsF g' c [] q1 := by
                rw [← hacc]
                unfold dropsF
                rw [List.append_nil]
              walk_at "z"
              refine ⟨_, _, _, _, _, _, _, us2, fs, wm' ++ acc, fm, wl' ++ acc.map fun m => (d, m), rfl, ext_put e09 k10 nWH, tabs_put T9 k10 eW9, eW10, FU10, k10.get (nin1 nWF.symm) eF9, FF9.kpx (by simp) k10 eW9, ⟨?_, ?_, ?_, ?_, by omega⟩⟩
              · rw [List.map_append, hmap', List.map_map]
                congr 1
                exact List.map_id' acc
              · intro x hx
                rcases List.mem_append.mp hx with hx | hx
                · exact hok' x hx
                · obtain ⟨m, hm, rfl⟩ := List.mem_map.mp hx
                  rw [hacc'] at hm
                  obtain ⟨p, hp, hm2⟩ := dropsF_c hm
                  obtain ⟨n1, n2, _⟩ := gnF_ok (hnO p (by simpa using hp)).1 ⟨hgL, hg0, hgB⟩
                  refine ⟨hnext c m hm, by show d ≤ 3; omega, ?_, ?_⟩
                  · show Low m.1
                    rw [hm2]
                    exact lo_low (Int.mul_ne_zero hcL.ne n1.ne)
                  · show FrB (100 * (4 - d)) m.1
                    rw [hm2]
                    exact (ftimes_B hcB n2 hcL.ne n1.ne).mono (by omega)
              · rw [List.reverse_append, List.flatMap_append, ← hall]
                congr 1
                congr 1
                show _ = (dropsF (tau (size + d)) c [] q1).reverse.flatMap fun m => lvs tau size d m.2 m.1
                rw [hgv, ← hacc', ← List.map_reverse, List.flatMap_map]
                rfl
              · have h8 : wCnt tau size (d + 1, (c, q1)) = 1 + ((dropsF (tau (size + d)) c [] q1).map fun m => cnt tau size d m.2 m.1).sum := rfl
                rw [hgv, ← hacc'] at h8
                rw [List.map_append, List.sum_append, List.map_map]
                have h9 : (acc.map (wCnt tau size ∘ fun m => (d, m))) = acc.map fun m => cnt tau size d m.2 m.1 := rfl
                rw [h9]
                omega
      · rintro σ' H5 ⟨y0, y1, y5, y6, y7, y8, y9, ws, fs, wm, fm, wl, rfl, e5, T5, eW, FW, eF, FF, hc⟩
        have hN := (cnt_B (c := (1, 1)) hnd).2
        have hN2 : cB d0 ≤ 259 := by
          rcases (show d0 = 0 ∨ d0 = 1 ∨ d0 = 2 ∨ d0 = 3 by omega) with h | h | h | h <;> subst h <;> decide
        have hcc := hc.cnt_
        omega
end drop27

/-! ### runs of an explorer over states -/
section runs27
/-- states by levels: their weights, and what is behind a pick -/
structure Md (σ : Type) where
  ws : Nat → σ → List Int
  nx : Nat → σ → Nat → σ
def chO (c : Fr) (p : List Dt) : Fr := match p.getLast? with
  | some x => stepF x.1 x.2.1 x.2.2
  | none => c
theorem chO_cons (c : Fr) (ws : List Int) (i : Nat) (c0 : Fr) (p : List Dt) : chO c ((ws, i, c0) :: p) = chO (stepF ws i c0) p := by
  unfold chO
  cases p with
  | nil => rfl
  | cons x r => rw [List.getLast?_cons_cons]; cases e : (x :: r).getLast? with
    | none => simp at e
    | some y => rfl
theorem chO_one (p : List Dt) : chO (1, 1) p = chD p := rfl
variable {σ : Type} (M : Md σ)
def OkM : Nat → σ → Prop
  | 0, _ => True
  | d + 1, s => WOk (M.ws d s) ∧ ∀ i, 0 < (M.ws d s).getD i 0 → OkM d (M.nx d s i)
def runsM : Nat → σ → Fr → List (List Dt × σ)
  | 0, s, _ => [([], s)]
  | d + 1, s, c => (List.range (M.ws d s).length).flatMap fun i => if 0 < (M.ws d s).getD i 0 then (runsM d (M.nx d s i) (stepF (M.ws d s) i c)).map (fun r => ((M.ws d s, i, c) :: r.1, r.2)) else []
def blkM (d : Nat) (s : σ) (c : Fr) (i : Nat) : List (List Dt × σ) := if 0 < (M.ws d s).getD i 0 then (runsM M d (M.nx d s i) (stepF (M.ws d s) i c)).map (fun r => ((M.ws d s, i, c) :: r.1, r.2)) else []
theorem runsM_s {d : Nat} {s : σ} {c : Fr} : runsM M (d + 1) s c = (List.range (M.ws d s).length).flatMap (blkM M d s c) := rfl
def fdM : Nat → σ → Fr → List Dt → List Dt × Option σ
  | 0, s, _, [] => ([], some s)
  | 0, _, _, _ :: _ => ([], none)
  | d + 1, s, _, x :: q => let r := fdM d (M.nx d s x.2.1) (stepF x.1 x.2.1 x.2.2) q; (x :: r.1, r.2)
  | d + 1, s, c, [] => match nextN (M.ws d s) 0 with
    | some i => let r := fdM d (M.nx d s i) (stepF (M.ws d s) i c) []; ((M.ws d s, i, c) :: r.1, r.2)
    | none => ([], none)
/-- the runs follow one another -/
inductive ChnM (d : Nat) (s : σ) (c : Fr) : List (List Dt × σ) → Prop where
  | last {r : List Dt × σ} : folL r.1 = none → ChnM d s c [r]
  | more {r r' : List Dt × σ} {l : List (List Dt × σ)} {q : List Dt} : folL r.1 = some q → fdM M d s c q = (r'.1, some r'.2) → ChnM d s c (r' :: l) → ChnM d s c (r :: r' :: l)
variable {M}
theorem chnM_app {d : Nat} {s : σ} {c : Fr} {i : Nat} {rest : List (List Dt × σ)} : ∀ {R : List (List Dt × σ)}, ChnM M d (M.nx d s i) (stepF (M.ws d s) i c) R →
    ((rest = [] ∧ nextN (M.ws d s) (i + 1) = none) ∨ ∃ r' l k, rest = r' :: l ∧ nextN (M.ws d s) (i + 1) = some k ∧ fdM M (d + 1) s c [(M.ws d s, k, c)] = (r'.1, some r'.2) ∧ ChnM M (d + 1) s c rest) →
    ChnM M (d + 1) s c (R.map (fun r => ((M.ws d s, i, c) :: r.1, r.2)) ++ rest) := by
  intro R h hr
  induction h with
  | @last r h0 =>
    rcases hr with ⟨rfl, hn⟩ | ⟨r', l, k, rfl, hk, hf, hc⟩
    · refine .last ?_
      show folL ((M.ws d s, i, c) :: r.1) = none
      exact folL_none h0 hn
    · refine .more (q := [(M.ws d s, k, c)]) ?_ hf hc
      show folL ((M.ws d s, i, c) :: r.1) = _
      exact folL_app (pre := []) h0 hk
  | @more r r' l q h0 h1 h2 ih =>
    refine .more (q := (M.ws d s, i, c) :: q) ?_ ?_ ih
    · show folL ((M.ws d s, i, c) :: r.1) = _
      unfold folL
      rw [h0]
    · show (let r := fdM M d (M.nx d s i) (stepF (M.ws d s) i c) q; ((M.ws d s, i, c) :: r.1, r.2)) = _
      rw [h1]
theorem runsM_chn : ∀ {d : Nat} {s : σ} {c : Fr}, OkM M d s → ChnM M d s c (runsM M d s c) ∧ ∃ r l, runsM M d s c = r :: l ∧ fdM M d s c [] = (r.1, some r.2) := by
  intro d
  induction d with
  | zero =>
    intro s c h
    exact ⟨.last rfl, _, _, rfl, rfl⟩
  | succ d ih =>
    intro s c h
    obtain ⟨hS, hc⟩ := h
    have key : ∀ m z, z + m = (M.ws d s).length → (nextN (M.ws d s) z = none ∧ (List.range' z m).flatMap (blkM M d s c) = []) ∨ ∃ r' l k, (List.range' z m).flatMap (blkM M d s c) = r' :: l ∧ nextN (M.ws d s) z = some k ∧ fdM M (d + 1) s c [(M.ws d s, k, c)] = (r'.1, some r'.2) ∧ ChnM M (d + 1) s c ((List.range' z m).flatMap (blkM M d s c)) := by
      intro m
      induction m with
      | zero =>
        intro z hs
        left
        refine ⟨?_, by simp⟩
        unfold nextN
        rw [show (M.ws d s).length - z = 0 by omega]
        rfl
      | succ m ihm =>
        intro z hs
        have hnx : nextN (M.ws d s) z = if 0 < (M.ws d s).getD z 0 then some z else nextN (M.ws d s) (z + 1) := by
          unfold nextN
          rw [show (M.ws d s).length - z = ((M.ws d s).length - (z + 1)) + 1 by omega]
          rfl
        rw [List.range'_succ, List.flatMap_cons]
        have ih2 := ihm (z + 1) (by omega)
        by_cases hp : 0 < (M.ws d s).getD z 0
        · right
          obtain ⟨h1, r, l, h2, h3⟩ := ih (c := stepF (M.ws d s) z c) (hc z hp)
          have hb : blkM M d s c z = (runsM M d (M.nx d s z) (stepF (M.ws d s) z c)).map (fun r => ((M.ws d s, z, c) :: r.1, r.2)) := by unfold blkM; rw [if_pos hp]
          rw [hnx, if_pos hp]
          refine ⟨((M.ws d s, z, c) :: r.1, r.2), l.map (fun r => ((M.ws d s, z, c) :: r.1, r.2)) ++ (List.range' (z + 1) m).flatMap (blkM M d s c), z, ?_, rfl, ?_, ?_⟩
          · rw [hb, h2]
            rfl
          · show (let r := fdM M d (M.nx d s z) (stepF (M.ws d s) z c) []; ((M.ws d s, z, c) :: r.1, r.2)) = _
            rw [h3]
          · rw [hb]
            refine chnM_app h1 ?_
            rcases ih2 with ⟨e1, e2⟩ | ⟨r', l', k, e1, e2, e3, e4⟩
            · exact .inl ⟨e2, e1⟩
            · exact .inr ⟨r', l', k, e1, e2, e3, e4⟩
        · have hb : blkM M d s c z = [] := by unfold blkM; rw [if_neg hp]
          rw [hnx, if_neg hp, hb, List.nil_append]
          exact ih2
    have h0 := key (M.ws d s).length 0 (by omega)
    rw [← List.range_eq_range', ← runsM_s] at h0
    obtain ⟨k0, hk0⟩ := hS.first
    rcases h0 with ⟨e1, _⟩ | ⟨r', l, k, e1, e2, e3, e4⟩
    · rw [hk0] at e1
      cases e1
    · refine ⟨e4, r', l, e1, ?_⟩
      rw [show fdM M (d + 1) s c [] = fdM M (d + 1) s c [(M.ws d s, k, c)] by
        show (match nextN (M.ws d s) 0 with
          | some i => let r := fdM M d (M.nx d s i) (stepF (M.ws d s) i c) []; ((M.ws d s, i, c) :: r.1, r.2)
          | none => ([], none)) = _
        rw [e2]
        rfl]
      exact e3
theorem ChnM.step {d : Nat} {s : σ} {c : Fr} {R : List (List Dt × σ)} (h : ChnM M d s c R) : ∀ (i : Nat) (r r' : List Dt × σ), R[i]? = some r → R[i + 1]? = some r' → ∃ q, folL r.1 = some q ∧ fdM M d s c q = (r'.1, some r'.2) := by
  induction h with
  | last h0 => intro i r r' h1 h2; simp at h2
  | @more r0 r1 l q h0 h1 h2 ih =>
    intro i r r' e1 e2
    cases i with
    | zero =>
      obtain rfl : r0 = r := Option.some.inj e1
      obtain rfl : r1 = r' := Option.some.inj e2
      exact ⟨q, h0, h1⟩
    | succ i => exact ih i r r' e1 e2
theorem ChnM.fin {d : Nat} {s : σ} {c : Fr} {R : List (List Dt × σ)} (h : ChnM M d s c R) : ∀ (i : Nat) (r : List Dt × σ), i + 1 = R.length → R[i]? = some r → folL r.1 = none := by
  induction h with
  | @last r0 h0 =>
    intro i r h1 h2
    have : i = 0 := by simp at h1; omega
    subst this
    obtain rfl : r0 = r := Option.some.inj h2
    exact h0
  | @more r0 r1 l q h0 h1 h2 ih =>
    intro i r e1 e2
    cases i with
    | zero => simp at e1
    | succ i => exact ih i r (by simpa using e1) e2
theorem mem_blkM {d : Nat} {s : σ} {c : Fr} {i : Nat} {r : List Dt × σ} (h : r ∈ blkM M d s c i) : 0 < (M.ws d s).getD i 0 ∧ ∃ r' ∈ runsM M d (M.nx d s i) (stepF (M.ws d s) i c), r = ((M.ws d s, i, c) :: r'.1, r'.2) := by
  unfold blkM at h
  split at h
  · rename_i hp
    obtain ⟨r', hr, rfl⟩ := List.mem_map.mp h
    exact ⟨hp, r', hr, rfl⟩
  · cases h
theorem runsM_cons {d : Nat} {s : σ} {c : Fr} {R : List Dt} {k : σ} (h : (R, k) ∈ runsM M (d + 1) s c) : ∃ i R', i < (M.ws d s).length ∧ 0 < (M.ws d s).getD i 0 ∧ R = (M.ws d s, i, c) :: R' ∧ (R', k) ∈ runsM M d (M.nx d s i) (stepF (M.ws d s) i c) := by
  rw [runsM_s] at h
  obtain ⟨i, hi, hb⟩ := List.mem_flatMap.mp h
  obtain ⟨hw, r', hr', e⟩ := mem_blkM hb
  obtain ⟨R', k'⟩ := r'
  obtain ⟨rfl, rfl⟩ := Prod.mk.inj e
  exact ⟨i, R', List.mem_range.mp hi, hw, rfl, hr'⟩
theorem runsM_len : ∀ {d : Nat} {s : σ} {c : Fr}, ∀ r ∈ runsM M d s c, r.1.length = d := by
  intro d
  induction d with
  | zero =>
    intro s c r hr
    rw [List.mem_singleton.mp hr]; rfl
  | succ d ih =>
    intro s c r hr
    obtain ⟨R, k⟩ := r
    obtain ⟨i, R', _, _, rfl, hr'⟩ := runsM_cons hr
    have := ih _ hr'
    show R'.length + 1 = d + 1
    have h2 : R'.length = d := this
    omega
theorem fdM_pre : ∀ {d : Nat} {s : σ} {c : Fr} {q R : List Dt} {k : σ}, fdM M d s c q = (R, some k) → ∃ suf, R = q ++ suf := by
  intro d
  induction d with
  | zero =>
    intro s c q R k h
    cases q with
    | nil => exact ⟨R, rfl⟩
    | cons x r => cases (Prod.mk.inj h).2
  | succ d ih =>
    intro s c q R k h
    cases q with
    | nil => exact ⟨R, rfl⟩
    | cons x r =>
      have h2 : (let y := fdM M d (M.nx d s x.2.1) (stepF x.1 x.2.1 x.2.2) r; (x :: y.1, y.2)) = (R, some k) := h
      obtain ⟨h3, h4⟩ := Prod.mk.inj h2
      obtain ⟨suf, e⟩ := ih (Prod.ext (x := fdM M d (M.nx d s x.2.1) (stepF x.1 x.2.1 x.2.2) r) (y := (_, some k)) rfl h4)
      exact ⟨suf, by rw [← h3]; exact congrArg (x :: ·) e⟩
end runs27

/-! ### drops by an explorer -/
section math27
theorem flat_perm {α β : Type} {f g : α → List β} : ∀ {l : List α}, (∀ x ∈ l, (f x).Perm (g x)) → (l.flatMap f).Perm (l.flatMap g)
  | [], _ => List.Perm.refl _
  | a :: r, h => by
    rw [List.flatMap_cons, List.flatMap_cons]
    exact (h a (by simp)).append (flat_perm fun x hx => h x (by simp [hx]))
theorem sum_flat27 {α β : Type} (f : α → List β) (g : β → Rat) : ∀ l : List α, ((l.flatMap f).map g).sum = (l.map fun x => ((f x).map g).sum).sum
  | [] => rfl
  | a :: r => by rw [List.flatMap_cons, List.map_append, List.sum_append, sum_flat27 f g r, List.map_cons, List.sum_cons]
theorem sum_perm27 {a b : List Rat} (h : a.Perm b) : a.sum = b.sum := by
  induction h with
  | nil => rfl
  | cons x _ ih => rw [List.sum_cons, List.sum_cons, ih]
  | swap x y l =>
    rw [List.sum_cons, List.sum_cons, List.sum_cons, List.sum_cons]
    grind
  | trans _ _ h1 h2 => exact h1.trans h2
def dAt (g c : Fr) (Q : List Pa) (i : Nat) : List Lf := match Q[i]? with
  | some p => if gnF g p.2 = (0, 1) then [] else [(ftimes c (gnF g p.2), (Q.take i ++ Q.drop (i + 1)).map (raP g))]
  | none => []
theorem dropsF_range {g c : Fr} {Q : List Pa} : ∀ {m j : Nat}, j + m = Q.length → dropsF g c (Q.take j) (Q.drop j) = (List.range' j m).flatMap (dAt g c Q)
  | 0, j, h => by
    rw [List.drop_eq_nil_of_le (by omega)]
    rfl
  | m + 1, j, h => by
    have hp : Q[j]? = some (Q[j]'(by omega)) := List.getElem?_eq_getElem (by omega)
    rw [dropsF_step hp, dropsF_range (m := m) (j := j + 1) (by omega), List.range'_succ, List.flatMap_cons]
    congr 1
    unfold dAt
    rw [hp]
theorem dropsF_all {g c : Fr} {Q : List Pa} : dropsF g c [] Q = (List.range Q.length).flatMap (dAt g c Q) := by
  have h := dropsF_range (g := g) (c := c) (Q := Q) (m := Q.length) (j := 0) (by omega)
  rwa [List.range_eq_range']
theorem dropsF_at {g c : Fr} {Q : List Pa} {i : Nat} {p : Pa} (h : Q[i]? = some p) (hn : gnF g p.2 ≠ (0, 1)) : (ftimes c (gnF g p.2), (Q.take i ++ Q.drop (i + 1)).map (raP g)) ∈ dropsF g c [] Q := by
  rw [dropsF_all]
  refine List.mem_flatMap.mpr ⟨i, List.mem_range.mpr (List.getElem?_eq_some_iff.mp h).1, ?_⟩
  unfold dAt
  rw [h]
  dsimp only
  rw [if_neg hn]
  exact List.mem_singleton_self _
theorem dropsF_of {g c : Fr} {Q : List Pa} {m : Lf} (h : m ∈ dropsF g c [] Q) : ∃ i p, Q[i]? = some p ∧ gnF g p.2 ≠ (0, 1) ∧ m = (ftimes c (gnF g p.2), (Q.take i ++ Q.drop (i + 1)).map (raP g)) := by
  rw [dropsF_all] at h
  obtain ⟨i, hi, hm⟩ := List.mem_flatMap.mp h
  have hp : Q[i]? = some (Q[i]'(List.mem_range.mp hi)) := List.getElem?_eq_getElem _
  unfold dAt at hm
  rw [hp] at hm
  dsimp only at hm
  split at hm
  · cases hm
  · rename_i z
    exact ⟨i, _, hp, z, List.mem_singleton.mp hm⟩
theorem shr01 {a t : Rat} (ha : 0 < a) (ht : 0 < t) : 0 ≤ 1 - shr a t ∧ 1 - shr a t ≤ 1 := by
  unfold shr
  split
  · rename_i h
    have h2 : a / t * t = a := by
      have : t ≠ 0 := by grind
      grind
    have h3 : 0 ≤ a / t := by
      rw [Rat.div_def]
      have := Rat.mul_pos ha (Rat.inv_pos.mpr ht)
      grind
    refine ⟨?_, by grind⟩
    by_cases z : a / t ≤ 1
    · grind
    · have := Rat.mul_lt_mul_of_pos_right (show 1 < a / t by grind) ht
      grind
  · exact ⟨by grind, by grind⟩
variable (tau : Nat → Fr) (size : Nat)
def gnL (d : Nat) (Q : List Pa) : List Fr := Q.map fun p => gnF (tau (size + d)) p.2
def wsF (d : Nat) (Q : List Pa) : List Int := (gnL tau size d Q).map (scl1 (comm (gnL tau size d Q) : Int))
def nxF (d : Nat) (Q : List Pa) (i : Nat) : List Pa := (Q.take i ++ Q.drop (i + 1)).map (raP (tau (size + d)))
def MD : Md (List Pa) := ⟨wsF tau size, nxF tau size⟩
variable {tau size}
structure Gn (tau : Nat → Fr) (size d : Nat) (Q : List Pa) : Prop where
  each : ∀ p ∈ Q, Low (gnF (tau (size + d)) p.2) ∧ FrB 100 (gnF (tau (size + d)) p.2) ∧ 0 ≤ rv (gnF (tau (size + d)) p.2) ∧ rv (gnF (tau (size + d)) p.2) ≤ 1 ∧ rv (gnF (tau (size + d)) p.2) = 1 - shr (rv p.2) (rv (tau (size + d)))
  one : ((gnL tau size d Q).map rv).sum = 1
theorem Nd.gn {d : Nat} {Q : List Pa} (h : Nd tau size (d + 1) Q) : Gn tau size d Q := by
  obtain ⟨hl, h6, hO, ⟨gL, g0, gB, gT⟩, _⟩ := h
  have gp : 0 < rv (tau (size + d)) := (rv_pos gL.1).mp g0
  have he : ∀ p ∈ Q, Low (gnF (tau (size + d)) p.2) ∧ FrB 100 (gnF (tau (size + d)) p.2) ∧ 0 ≤ rv (gnF (tau (size + d)) p.2) ∧ rv (gnF (tau (size + d)) p.2) ≤ 1 ∧ rv (gnF (tau (size + d)) p.2) = 1 - shr (rv p.2) (rv (tau (size + d))) := fun p hp => by
    obtain ⟨n1, n2, n3⟩ := gnF_ok (hO p hp).1 ⟨gL, g0, gB⟩
    have hpp : 0 < rv p.2 := (rv_pos (hO p hp).1.low.1).mp (hO p hp).1.pos
    have := shr01 hpp gp
    rw [← n3] at this
    exact ⟨n1, n2, this.1, this.2, n3⟩
  refine ⟨he, ?_⟩
  have h1 := shr_sum (a := fun p : Pa => rv p.2) gp Q
  have h2 := (gT.big (by rw [List.length_map]; omega)).2
  rw [h2, hl] at h1
  have e : ((size + d + 1 : Nat) : Rat) = ((size + d : Nat) : Rat) + 1 := by exact_mod_cast rfl
  rw [e] at h1
  have e2 : (gnL tau size d Q).map rv = Q.map fun y => gone (fun p : Pa => rv p.2) (rv (tau (size + d))) y := by
    unfold gnL
    rw [List.map_map]
    exact List.map_congr_left fun p hp => (he p hp).2.2.2.2
  rw [e2]
  generalize (Q.map fun y => gone (fun p : Pa => rv p.2) (rv (tau (size + d))) y).sum = S at *
  generalize rv (tau (size + d)) = t at *
  have h3 : (S - 1) * t = 0 := by grind
  rcases Rat.mul_eq_zero.mp h3 with h4 | h4
  · grind
  · grind
theorem sum_rat : ∀ l : List Int, ((l.sum : Int) : Rat) = (l.map fun z : Int => (z : Rat)).sum
  | [] => rfl
  | a :: r => by
    rw [List.sum_cons, List.map_cons, List.sum_cons, ← sum_rat r]
    exact_mod_cast rfl
theorem sum_mulr (c : Rat) : ∀ l : List Rat, (l.map fun x => x * c).sum = l.sum * c
  | [] => by show (0 : Rat) = 0 * c; grind
  | a :: r => by rw [List.map_cons, List.sum_cons, List.sum_cons, sum_mulr c r]; grind
theorem le_sumI : ∀ {l : List Int}, (∀ z ∈ l, 0 ≤ z) → ∀ x ∈ l, x ≤ l.sum
  | [], _, x, h => by cases h
  | a :: r, h0, x, h => by
    have hs : ∀ {l : List Int}, (∀ z ∈ l, 0 ≤ z) → 0 ≤ l.sum := fun {l} h => by
      induction l with
      | nil => simp
      | cons a r ih =>
        have h1 := h a (by simp)
        have h2 := ih fun z hz => h z (by simp [hz])
        rw [List.sum_cons]; omega
    rw [List.sum_cons]
    have h1 := h0 a (by simp)
    rcases List.mem_cons.mp h with rfl | h
    · have := hs fun z hz => h0 z (List.mem_cons_of_mem x hz)
      omega
    · have := le_sumI (fun z hz => h0 z (by simp [hz])) x h
      omega
structure WsG (tau : Nat → Fr) (size d : Nat) (Q : List Pa) : Prop where
  ok : WOk (wsF tau size d Q)
  len : (wsF tau size d Q).length = Q.length
  pos : ∀ i p, Q[i]? = some p → (0 < (wsF tau size d Q).getD i 0 ↔ gnF (tau (size + d)) p.2 ≠ (0, 1))
  step : ∀ i p c, Q[i]? = some p → stepF (wsF tau size d Q) i c = ftimes c (gnF (tau (size + d)) p.2)
theorem Nd.ws {d : Nat} {Q : List Pa} (h : Nd tau size (d + 1) Q) : WsG tau size d Q := by
  have G := h.gn
  obtain ⟨hl, h6, hO, _, _⟩ := h
  have hlen : (wsF tau size d Q).length = Q.length := by unfold wsF gnL; rw [List.length_map, List.length_map]
  have hg1 : ∀ f ∈ gnL tau size d Q, Low f ∧ FrB 100 f ∧ 0 ≤ rv f ∧ rv f ≤ 1 := fun f hf => by
    obtain ⟨p, hp, rfl⟩ := List.mem_map.mp hf
    have := G.each p hp
    exact ⟨this.1, this.2.1, this.2.2.1, this.2.2.2.1⟩
  have hden : ∀ f ∈ gnL tau size d Q, 1 ≤ f.2.natAbs ∧ f.2.natAbs < 2 ^ 100 := fun f hf => by
    have h1 := (hg1 f hf).1.1
    exact ⟨by omega, (hg1 f hf).2.1.2⟩
  obtain ⟨hC1, hC2⟩ := comm_lt hden
  have hgl : (gnL tau size d Q).length ≤ 6 := by unfold gnL; rw [List.length_map]; omega
  have hC3 : comm (gnL tau size d Q) ≤ 2 ^ 600 := Nat.le_trans hC2 (Nat.pow_le_pow_right (by decide) (by omega))
  have c0 : (0 : Rat) < (comm (gnL tau size d Q) : Rat) := by exact_mod_cast hC1
  have hv : ∀ f ∈ gnL tau size d Q, ((scl1 (comm (gnL tau size d Q) : Int) f : Int) : Rat) = rv f * (comm (gnL tau size d Q) : Rat) := fun f hf => by
    have := rv_scl hC1 (hg1 f hf).1.1 (comm_dvd hf)
    rw [this]
    have : (comm (gnL tau size d Q) : Rat) ≠ 0 := by grind
    grind
  have hsum : ((wsF tau size d Q).sum : Int) = (comm (gnL tau size d Q) : Int) := by
    have : (((wsF tau size d Q).sum : Int) : Rat) = (((comm (gnL tau size d Q) : Nat) : Int) : Rat) := by
      rw [sum_rat]
      unfold wsF
      rw [List.map_map]
      rw [List.map_congr_left (f := (fun z : Int => (z : Rat)) ∘ scl1 (comm (gnL tau size d Q) : Int)) (g := fun f => rv f * (comm (gnL tau size d Q) : Rat)) fun f hf => hv f hf]
      have := sum_mulr (comm (gnL tau size d Q) : Rat) ((gnL tau size d Q).map rv)
      rw [List.map_map] at this
      rw [show ((fun f => rv f * (comm (gnL tau size d Q) : Rat)) : Fr → Rat) = (fun x => x * (comm (gnL tau size d Q) : Rat)) ∘ rv from rfl, this, G.one]
      have e : (((comm (gnL tau size d Q) : Nat) : Int) : Rat) = (comm (gnL tau size d Q) : Rat) := by exact_mod_cast rfl
      rw [e]
      grind
    exact_mod_cast this
  have hnn : ∀ z ∈ wsF tau size d Q, 0 ≤ z := fun z hz => by
    obtain ⟨f, hf, rfl⟩ := List.mem_map.mp hz
    have h1 := hv f hf
    have h2 := Rat.mul_nonneg (hg1 f hf).2.2.1 (show (0 : Rat) ≤ (comm (gnL tau size d Q) : Rat) by grind)
    rw [← h1] at h2
    exact_mod_cast h2
  have hat : ∀ i p, Q[i]? = some p → (wsF tau size d Q).getD i 0 = scl1 (comm (gnL tau size d Q) : Int) (gnF (tau (size + d)) p.2) ∧ gnF (tau (size + d)) p.2 ∈ gnL tau size d Q := fun i p hp => by
    refine ⟨?_, List.mem_map.mpr ⟨p, List.mem_of_getElem? hp, rfl⟩⟩
    rw [List.getD_eq_getElem?_getD]
    unfold wsF
    rw [List.getElem?_map]
    conv => lhs; unfold gnL
    rw [List.getElem?_map, hp]
    rfl
  refine ⟨⟨fun z hz => ⟨hnn z hz, ?_⟩, by omega, by omega⟩, hlen, fun i p hp => ?_, fun i p c hp => ?_⟩
  · have h1 := le_sumI hnn z hz
    rw [hsum] at h1
    have h2 : ((comm (gnL tau size d Q) : Nat) : Int) ≤ ((2 ^ 600 : Nat) : Int) := by exact_mod_cast hC3
    have h3 : ((2 ^ 600 : Nat) : Int) ≤ 2 ^ 700 := by decide +kernel
    exact Int.le_trans h1 (Int.le_trans h2 h3)
  · obtain ⟨e, hf⟩ := hat i p hp
    have h1 := hv _ hf
    obtain ⟨f1, f2, f3, f4⟩ := hg1 _ hf
    rw [e]
    generalize gnF (tau (size + d)) p.2 = f at *
    constructor
    · rintro h2 rfl
      rw [rv_zero] at h1
      have : ((scl1 (comm (gnL tau size d Q) : Int) (0, 1) : Int) : Rat) = ((0 : Int) : Rat) := by rw [h1]; show 0 * _ = (0 : Rat); grind
      have : scl1 (comm (gnL tau size d Q) : Int) (0, 1) = 0 := by exact_mod_cast this
      omega
    · intro h2
      have h3 : rv f ≠ 0 := fun z => h2 (low_eq f1 low_zero (by rw [z, rv_zero]))
      have h4 : 0 < rv f := by grind
      have h5 := Rat.mul_pos h4 c0
      rw [← h1] at h5
      exact_mod_cast h5
  · obtain ⟨e, hf⟩ := hat i p hp
    have h1 := hv _ hf
    obtain ⟨f1, f2, f3, f4⟩ := hg1 _ hf
    unfold stepF
    rw [e, hsum]
    congr 1
    have hn0 : ((comm (gnL tau size d Q) : Nat) : Int) ≠ 0 := by omega
    refine low_eq (lo_low hn0) f1 ?_
    rw [rv_lo hn0, h1]
    have e3 : (((comm (gnL tau size d Q) : Nat) : Int) : Rat) = (comm (gnL tau size d Q) : Rat) := by exact_mod_cast rfl
    rw [e3]
    have : (comm (gnL tau size d Q) : Rat) ≠ 0 := by grind
    grind
theorem Nd.next {d : Nat} {Q : List Pa} (h : Nd tau size (d + 1) Q) {i : Nat} {p : Pa} (hp : Q[i]? = some p) (hn : gnF (tau (size + d)) p.2 ≠ (0, 1)) : Nd tau size d (nxF tau size d Q i) :=
  h.2.2.2.2 (1, 1) _ (dropsF_at hp hn)
theorem Nd.okM : ∀ {d : Nat} {Q : List Pa}, Nd tau size d Q → OkM (MD tau size) d Q
  | 0, _, _ => trivial
  | d + 1, Q, h => by
    have W := h.ws
    refine ⟨W.ok, fun i hi => ?_⟩
    have hil : i < Q.length := by
      refine Decidable.byContradiction fun z => ?_
      have : (wsF tau size d Q).getD i 0 = 0 := by
        rw [List.getD_eq_getElem?_getD, List.getElem?_eq_none (by rw [W.len]; omega)]; rfl
      have hi' : 0 < (wsF tau size d Q).getD i 0 := hi
      omega
    have hp : Q[i]? = some Q[i] := List.getElem?_eq_getElem hil
    exact (h.next hp ((W.pos i _ hp).mp hi)).okM
/-- the law's leaves are the runs, in another order -/
theorem lvs_perm : ∀ {d : Nat} {Q : List Pa} {c : Fr}, Nd tau size d Q → (lvs tau size d Q c).Perm ((runsM (MD tau size) d Q c).map fun r => (chO c r.1, r.2))
  | 0, Q, c, _ => List.Perm.refl _
  | d + 1, Q, c, h => by
    have W := h.ws
    have e1 : lvs tau size (d + 1) Q c = (dropsF (tau (size + d)) c [] Q).reverse.flatMap fun m => lvs tau size d m.2 m.1 := rfl
    have p1 := (List.reverse_perm (dropsF (tau (size + d)) c [] Q)).flatMap_right fun m => lvs tau size d m.2 m.1
    rw [e1]
    refine p1.trans ?_
    rw [dropsF_all, List.flatMap_assoc, runsM_s, List.map_flatMap]
    rw [show ((MD tau size).ws d Q).length = Q.length from W.len]
    refine flat_perm fun i hi => ?_
    have hp : Q[i]? = some (Q[i]'(List.mem_range.mp hi)) := List.getElem?_eq_getElem _
    have hpos : 0 < ((MD tau size).ws d Q).getD i 0 ↔ gnF (tau (size + d)) (Q[i]'(List.mem_range.mp hi)).2 ≠ (0, 1) := W.pos i _ hp
    have hst := W.step i _ c hp
    unfold dAt blkM
    rw [hp]
    dsimp only
    by_cases hz : gnF (tau (size + d)) (Q[i]'(List.mem_range.mp hi)).2 = (0, 1)
    · rw [if_pos hz, if_neg (fun z => (hpos.mp z) hz)]
      exact List.Perm.refl _
    · rw [if_neg hz, if_pos (hpos.mpr hz), List.flatMap_singleton, List.map_map]
      have ih := lvs_perm (c := ftimes c (gnF (tau (size + d)) (Q[i]'(List.mem_range.mp hi)).2)) (h.next hp hz)
      refine ih.trans ?_
      have hst' : stepF ((MD tau size).ws d Q) i c = ftimes c (gnF (tau (size + d)) (Q[i]'(List.mem_range.mp hi)).2) := hst
      rw [hst']
      refine List.Perm.of_eq ?_
      show ((runsM (MD tau size) d (nxF tau size d Q i) _).map _) = (runsM (MD tau size) d (nxF tau size d Q i) _).map _
      refine List.map_congr_left fun r _ => ?_
      simp only [Function.comp_apply]
      rw [chO_cons, hst']
/-- what is said of the chance of a leaf -/
structure ChG (E : Nat) (f : Fr) : Prop where
  low : Low f
  pos : 0 < rv f
  den : ∃ z : Int, rv f * (E : Rat) = (z : Rat)
def NdD (tau : Nat → Fr) (size L : Nat) : Nat → List Pa → Prop
  | 0, _ => True
  | d + 1, Q => (∀ p ∈ Q, ∃ z : Int, rv (gnF (tau (size + d)) p.2) * (L : Rat) = (z : Rat)) ∧ ∀ c, ∀ m ∈ dropsF (tau (size + d)) c [] Q, NdD tau size L d m.2
theorem lvs_ch {L : Nat} : ∀ {d : Nat} {Q : List Pa} {c : Fr} {E : Nat}, Nd tau size d Q → NdD tau size L d Q → ChG E c → ∀ m ∈ lvs tau size d Q c, ChG (E * L ^ d) m.1
  | 0, Q, c, E, _, _, hc, m, hm => by
    rw [List.mem_singleton.mp hm, Nat.pow_zero, Nat.mul_one]
    exact hc
  | d + 1, Q, c, E, h, hD, hc, m, hm => by
    obtain ⟨k, hk, hm2⟩ := List.mem_flatMap.mp hm
    have hk := List.mem_reverse.mp hk
    obtain ⟨i, p, hp, hn, rfl⟩ := dropsF_of hk
    have hpm := List.mem_of_getElem? hp
    obtain ⟨g1, g2, g3, g4, _⟩ := h.gn.each p hpm
    have hr : rv (gnF (tau (size + d)) p.2) ≠ 0 := fun z => hn (low_eq g1 low_zero (by rw [z, rv_zero]))
    have hr0 : 0 < rv (gnF (tau (size + d)) p.2) := by grind
    obtain ⟨z, hz⟩ := hc.den
    obtain ⟨u, hu⟩ := hD.1 p hpm
    have hc2 : ChG (E * L) (ftimes c (gnF (tau (size + d)) p.2)) := by
      refine ⟨lo_low (Int.mul_ne_zero hc.low.ne g1.ne), ?_, z * u, ?_⟩
      · rw [rv_ftimes hc.low.ne g1.ne]
        exact Rat.mul_pos hc.pos hr0
      · have e1 : ((z * u : Int) : Rat) = (z : Rat) * (u : Rat) := by exact_mod_cast rfl
        have e2 : ((E * L : Nat) : Rat) = (E : Rat) * (L : Rat) := by exact_mod_cast rfl
        rw [rv_ftimes hc.low.ne g1.ne, e1, e2, ← hz, ← hu]
        grind
    have := lvs_ch (h.2.2.2.2 c _ hk) (hD.2 c _ hk) hc2 m hm2
    rwa [show E * L ^ (d + 1) = E * L * L ^ d by rw [Nat.pow_succ, Nat.mul_assoc, Nat.mul_comm L]]
theorem dropsF_sum {g c : Fr} (hc : Low c) : ∀ {post pre : List Pa}, (∀ p ∈ post, Low (gnF g p.2)) → ((dropsF g c pre post).map fun m => rv m.1).sum = rv c * (post.map fun p => rv (gnF g p.2)).sum
  | [], pre, _ => by show (0 : Rat) = rv c * 0; grind
  | p :: r, pre, h => by
    have ih := dropsF_sum hc (post := r) (pre := pre ++ [p]) fun x hx => h x (by simp [hx])
    unfold dropsF
    rw [List.map_append, List.sum_append, ih, List.map_cons, List.sum_cons]
    split
    · rename_i z
      rw [z, rv_zero]
      show (0 : Rat) + _ = _
      grind
    · show (rv (ftimes c (gnF g p.2)) + 0) + _ = _
      rw [rv_ftimes hc.ne (h p (by simp)).ne]
      grind
theorem lvs_sum : ∀ {d : Nat} {Q : List Pa} {c : Fr}, Nd tau size d Q → Low c → ((lvs tau size d Q c).map fun m => rv m.1).sum = rv c
  | 0, Q, c, _, _ => by show rv c + 0 = rv c; grind
  | d + 1, Q, c, h, hc => by
    have e1 : lvs tau size (d + 1) Q c = (dropsF (tau (size + d)) c [] Q).reverse.flatMap fun m => lvs tau size d m.2 m.1 := rfl
    rw [e1, sum_flat27]
    have e2 : ((dropsF (tau (size + d)) c [] Q).reverse.map fun x => ((lvs tau size d x.2 x.1).map fun m => rv m.1).sum) = (dropsF (tau (size + d)) c [] Q).reverse.map fun m => rv m.1 := List.map_congr_left fun m hm => by
      have hk := List.mem_reverse.mp hm
      obtain ⟨i, p, hp, hn, rfl⟩ := dropsF_of hk
      have g1 := (h.gn.each p (List.mem_of_getElem? hp)).1
      exact lvs_sum (h.2.2.2.2 c _ hk) (lo_low (Int.mul_ne_zero hc.ne g1.ne))
    rw [e2, sum_perm27 ((List.reverse_perm _).map _), dropsF_sum hc fun p hp => (h.gn.each p hp).1]
    have h3 := h.gn.one
    unfold gnL at h3
    rw [List.map_map] at h3
    rw [show (Q.map fun p => rv (gnF (tau (size + d)) p.2)) = Q.map (rv ∘ fun p => gnF (tau (size + d)) p.2) from rfl, h3]
    grind
theorem lvs_len : ∀ {d : Nat} {Q : List Pa} {c : Fr}, Nd tau size d Q → (lvs tau size d Q c).length ≤ 6 ^ d
  | 0, _, _, _ => Nat.le_refl _
  | d + 1, Q, c, h => by
    have e1 : lvs tau size (d + 1) Q c = (dropsF (tau (size + d)) c [] Q).reverse.flatMap fun m => lvs tau size d m.2 m.1 := rfl
    have h1 : ∀ {l : List Lf}, (∀ m ∈ l, (lvs tau size d m.2 m.1).length ≤ 6 ^ d) → (l.flatMap fun m => lvs tau size d m.2 m.1).length ≤ l.length * 6 ^ d := fun {l} hh => by
      induction l with
      | nil => simp
      | cons a r ih =>
        have i1 := hh a (by simp)
        have i2 := ih fun m hm => hh m (by simp [hm])
        rw [List.flatMap_cons, List.length_append, List.length_cons, Nat.add_mul]
        omega
    have h2 := h1 (l := (dropsF (tau (size + d)) c [] Q).reverse) fun m hm => lvs_len (h.2.2.2.2 c _ (List.mem_reverse.mp hm))
    have h3 := dropsF_len (g := tau (size + d)) (c := c) (post := Q) (pre := [])
    have h6 := h.2.1
    rw [List.length_reverse] at h2
    rw [e1, Nat.pow_succ, Nat.mul_comm (6 ^ d)]
    exact Nat.le_trans h2 (Nat.mul_le_mul_right _ (by omega))
/-- what is said of the items of a leaf -/
theorem lvs_rows : ∀ {d : Nat} {Q : List Pa} {c : Fr}, Nd tau size d Q → ∀ m ∈ lvs tau size d Q c, (∀ p ∈ m.2, OkF p.2 ∧ RowS p.1.2) ∧ m.2.length ≤ 6
  | 0, Q, c, h, m, hm => by
    rw [List.mem_singleton.mp hm]
    exact ⟨h.2.2, h.2.1⟩
  | d + 1, Q, c, h, m, hm => by
    obtain ⟨k, hk, hm2⟩ := List.mem_flatMap.mp hm
    exact lvs_rows (h.2.2.2.2 c _ (List.mem_reverse.mp hk)) m hm2
end math27

/-! ### the levels of drops are there -/
section math27b
def wP (p : Pa) : Rat := rv p.2
structure XG (X : List Pa) : Prop where
  nd : X.Nodup
  l6 : X.length ≤ 6
  ok : ∀ p ∈ X, Low p.2 ∧ 0 < p.2.1 ∧ DenB 12 14 (rv p.2) ∧ RowS p.1.2
structure TauG (X : List Pa) (tau : Nat → Fr) : Prop where
  ok : ∀ m, Low (tau m) ∧ 0 < (tau m).1 ∧ FrB 20 (tau m)
  thr : ∀ m, 1 ≤ m → m < X.length → Thr (X.map wP) m (rv (tau m))
theorem thr_exR {X : List Pa} (G : XG X) {m : Nat} (s1 : 1 ≤ m) (hn : m < X.length) : ∃ g : Fr, Low g ∧ 0 < g.1 ∧ FrB 20 g ∧ Thr (X.map wP) m (rv g) := by
  have hperm : ((X.map wP).mergeSort fun a b => decide (a ≤ b)).Perm (X.map wP) := List.mergeSort_perm _ _
  have hs : ((X.map wP).mergeSort fun a b => decide (a ≤ b)).Pairwise (· ≤ ·) := by
    have h := List.pairwise_mergeSort (le := fun a b : Rat => decide (a ≤ b)) (fun a b c h1 h2 => by simp at *; exact Rat.le_trans h1 h2) (fun a b => by simp; exact Rat.le_total) (X.map wP)
    exact h.imp fun h => by simpa using h
  have l6 := G.l6
  generalize (X.map wP).mergeSort (fun a b => decide (a ≤ b)) = S at hperm hs
  have hw : ∀ w ∈ S, 0 < w ∧ DenB 12 14 w := fun w hw => by
    obtain ⟨p, hp, rfl⟩ := List.mem_map.mp (hperm.mem_iff.mp hw)
    obtain ⟨h1, h2, h3, _⟩ := G.ok p hp
    exact ⟨(rv_pos h1.1).mp h2, h3⟩
  have hl : S.length = X.length := by rw [hperm.length_eq, List.length_map]
  have key : ∀ j, j ≤ m → AbvR S m j ∨ ∃ i, i < m ∧ ∃ hm : S.length - i - 1 < S.length, AbvR S m i ∧ ¬ (S.take (S.length - i)).sum < S[S.length - i - 1] * ((m - i : Nat) : Rat) := by
    intro j
    induction j with
    | zero => exact fun _ => .inl (abvR_zero _ _)
    | succ j ih =>
      intro hj
      rcases ih (by omega) with h | h
      · have hm : S.length - j - 1 < S.length := by omega
        by_cases hlt : (S.take (S.length - j)).sum < S[S.length - j - 1] * ((m - j : Nat) : Rat)
        · exact .inl (abvR_step hs (by omega) (by omega) hm hlt)
        · exact .inr ⟨j, by omega, hm, h, hlt⟩
      · exact .inr h
  rcases key m (Nat.le_refl _) with h | ⟨i, hi, hm, ha, hge⟩
  · exact (abvR_end (fun w h => (hw w h).1) s1 (by omega) h).elim
  · have hk : (0 : Rat) < ((m - i : Nat) : Rat) := natR_pos (by omega)
    have hk0 : ((m - i : Nat) : Rat) ≠ 0 := by grind
    have hd := thrR_done (i := i) hperm hs (fun w h => (hw w h).1) hi (by omega) ha hm (fun z => hge (by
      have := Rat.mul_lt_mul_of_pos_right z hk
      rwa [Rat.div_mul_cancel hk0] at this))
    obtain ⟨z, hz, hzB⟩ := DenB.sumN (l := S.take (S.length - i)) fun x hx => (hw x (List.mem_of_mem_take hx)).2
    rw [List.length_take] at hzB
    generalize (S.take (S.length - i)).sum = s at hd hz
    have hq : ((12 * (m - i) : Nat) : Int) ≠ 0 := by omega
    have hv : rv (lo z ((12 * (m - i) : Nat) : Int)) = s / ((m - i : Nat) : Rat) := by
      rw [rv_lo hq, ← hz]
      have e : (((12 * (m - i) : Nat) : Int) : Rat) = 12 * ((m - i : Nat) : Rat) := by exact_mod_cast rfl
      have e2 : ((12 : Nat) : Rat) = 12 := by rfl
      rw [e, e2]
      grind
    have hlow := lo_low (p := z) hq
    have hpos := (hd.big (by rw [List.length_map]; exact hn)).1
    have hzB2 : z.natAbs ≤ 6 * 2 ^ 14 := Nat.le_trans hzB (Nat.mul_le_mul_right _ (by omega))
    refine ⟨lo z ((12 * (m - i) : Nat) : Int), hlow, (rv_pos hlow.1).mpr (by rw [hv]; exact hpos), lo_B hq (by omega) (by rw [Int.natAbs_natCast]; omega), ?_⟩
    rw [hv]
    exact hd
theorem tau_ex {X : List Pa} (G : XG X) : ∃ tau, TauG X tau := by
  have h : ∀ m, ∃ g : Fr, (Low g ∧ 0 < g.1 ∧ FrB 20 g) ∧ (1 ≤ m → m < X.length → Thr (X.map wP) m (rv g)) := fun m => by
    by_cases h1 : 1 ≤ m
    · by_cases h2 : m < X.length
      · obtain ⟨g, a, b, c, d⟩ := thr_exR G h1 h2
        exact ⟨g, ⟨a, b, c⟩, fun _ _ => d⟩
      · exact ⟨(1, 1), ⟨⟨by decide, by decide⟩, by decide, ⟨by decide, by decide⟩⟩, fun _ h => absurd h h2⟩
    · exact ⟨(1, 1), ⟨⟨by decide, by decide⟩, by decide, ⟨by decide, by decide⟩⟩, fun h => absurd h h1⟩
  exact ⟨fun m => Classical.choose (h m), fun m => (Classical.choose_spec (h m)).1, fun m => (Classical.choose_spec (h m)).2⟩
/-- the threshold at so many kept -/
def tauT (tau : Nat → Fr) (n m : Nat) : Fr := if m < n then tau m else (0, 1)
def bigB (X : List Pa) (tau : Nat → Fr) : Nat := prodN (X.map fun p => p.2.2.natAbs) * prodN ((List.range 6).map fun j => (tau j).2.natAbs)
def bigL (X : List Pa) (tau : Nat → Fr) : Nat := bigB X tau * prodN ((List.range 6).map fun j => (tau j).1.natAbs)
theorem XG.okF {X : List Pa} (G : XG X) {p : Pa} (hp : p ∈ X) : OkF p.2 := by
  obtain ⟨h1, h2, h3, _⟩ := G.ok p hp
  exact ⟨h1, h2, den_B (d := 4) (k := 40) h1 h3 (by decide) (by decide) (by decide) (by decide)⟩
theorem XG.den {X : List Pa} (G : XG X) {p : Pa} (hp : p ∈ X) : 1 ≤ p.2.2.natAbs ∧ p.2.2.natAbs ≤ 2 ^ 15 := by
  obtain ⟨h1, h2, h3, _⟩ := G.ok p hp
  have hB := den_B (d := 4) (k := 15) h1 h3 (by decide) (by decide) (by decide) (by decide)
  have h4 := h1.1
  exact ⟨by omega, Nat.le_of_lt hB.2⟩
theorem bigL_B {X : List Pa} {tau : Nat → Fr} (G : XG X) (TG : TauG X tau) : 1 ≤ bigL X tau ∧ bigL X tau ≤ 2 ^ 270 := by
  have h1 := prodN_le (b := 4) (l := X.map fun p => p.2.2.natAbs) fun x hx => by
    obtain ⟨p, hp, rfl⟩ := List.mem_map.mp hx
    obtain ⟨h1, h2, h3, _⟩ := G.ok p hp
    have hB := den_B (d := 4) (k := 5) (n := 14) h1 h3 (by decide) (by decide) (by decide)
    have h4 := h1.1
    obtain ⟨z, hz, _⟩ := h3
    refine ⟨by omega, ?_⟩
    have e : p.2.1 * 12 = z * p.2.2 := by
      have : (p.2.1 : Rat) * 12 = (z : Rat) * (p.2.2 : Rat) := by
        have hq0 : (p.2.2 : Rat) ≠ 0 := ratNe (by omega)
        rw [← hz]; unfold rv
        have e2 : ((12 : Nat) : Rat) = 12 := by rfl
        rw [e2]
        grind
      exact_mod_cast this
    have e2 : p.2.1.natAbs * 12 = z.natAbs * p.2.2.natAbs := by
      have := congrArg Int.natAbs e
      rwa [Int.natAbs_mul, Int.natAbs_mul] at this
    have hdv : p.2.2.natAbs ∣ 12 := by
      have h3 : p.2.2.natAbs ∣ p.2.1.natAbs * 12 := ⟨z.natAbs, by rw [e2, Nat.mul_comm]⟩
      exact Nat.Coprime.dvd_of_dvd_mul_left (show Nat.Coprime p.2.2.natAbs p.2.1.natAbs from (Nat.gcd_comm _ _).trans h1.2) h3
    have := Nat.le_of_dvd (by decide) hdv
    omega
  have h2 := prodN_le (b := 20) (l := (List.range 6).map fun j => (tau j).2.natAbs) fun x hx => by
    obtain ⟨j, _, rfl⟩ := List.mem_map.mp hx
    obtain ⟨a, b, c⟩ := TG.ok j
    have := a.1
    exact ⟨by omega, Nat.le_of_lt c.2⟩
  have h3 := prodN_le (b := 20) (l := (List.range 6).map fun j => (tau j).1.natAbs) fun x hx => by
    obtain ⟨j, _, rfl⟩ := List.mem_map.mp hx
    obtain ⟨a, b, c⟩ := TG.ok j
    exact ⟨by omega, Nat.le_of_lt c.1⟩
  rw [List.length_map, List.length_range] at h2 h3
  rw [List.length_map] at h1
  have h4 : prodN (X.map fun p => p.2.2.natAbs) ≤ 2 ^ 24 := Nat.le_trans h1.2 (Nat.pow_le_pow_right (by decide) (by have := G.l6; omega))
  unfold bigL bigB
  refine ⟨Nat.mul_le_mul (Nat.mul_le_mul h1.1 h2.1) h3.1, Nat.le_trans (Nat.mul_le_mul (Nat.mul_le_mul h4 h2.2) h3.2) ?_⟩
  rw [← Nat.pow_add, ← Nat.pow_add]
  exact Nat.pow_le_pow_right (by decide) (by decide)
structure St (X : List Pa) (tau : Nat → Fr) (m : Nat) (S Q : List Pa) : Prop where
  leaf : LeafR wP X m (rv (tauT tau X.length m)) S
  le : m ≤ X.length
  eq : Q = S.map (raP (tauT tau X.length m))
theorem TauG.T {X : List Pa} {tau : Nat → Fr} (TG : TauG X tau) {m : Nat} (h1 : 1 ≤ m) : Thr (X.map wP) m (rv (tauT tau X.length m)) := by
  unfold tauT
  split
  · rename_i h
    exact TG.thr m h1 h
  · rename_i h
    exact ⟨fun _ => rv_zero, fun h2 => by rw [List.length_map] at h2; omega⟩
theorem tauT_low {X : List Pa} {tau : Nat → Fr} (TG : TauG X tau) (m : Nat) : Low (tauT tau X.length m) ∧ FrB 20 (tauT tau X.length m) := by
  unfold tauT
  split
  · exact ⟨(TG.ok m).1, (TG.ok m).2.2⟩
  · exact ⟨low_zero, ⟨by decide, by decide⟩⟩
theorem XG.pos {X : List Pa} (G : XG X) : ∀ x ∈ X, 0 < wP x := fun x hx => (rv_pos (G.ok x hx).1.1).mp (G.ok x hx).2.1
theorem TauG.mono {X : List Pa} {tau : Nat → Fr} (G : XG X) (TG : TauG X tau) {m : Nat} (h1 : 1 ≤ m) (h2 : m + 1 ≤ X.length) : rv (tauT tau X.length (m + 1)) ≤ rv (tau m) := by
  have hT := TG.T (m := m + 1) (by omega)
  have ht := TG.thr m h1 (by omega)
  have hg : 0 < rv (tau m) := (rv_pos (TG.ok m).1.1).mp (TG.ok m).2.1
  by_cases hb : m + 1 < X.length
  · obtain ⟨a, b⟩ := hT.big (by rw [List.length_map]; exact hb)
    refine thr_ge (fun w hw => ?_) ht (by rw [List.length_map]; omega) a ?_
    · obtain ⟨p, hp, rfl⟩ := List.mem_map.mp hw
      exact G.pos p hp
    · rw [b]
      have e : ((m + 1 : Nat) : Rat) = (m : Rat) + 1 := by exact_mod_cast rfl
      rw [e]
      grind
  · rw [hT.small (by rw [List.length_map]; omega)]
    grind
theorem rv_raP {g : Fr} (p : Pa) : rv (raP g p).2 = mxR (wP p) (rv g) := by
  unfold raP mxR wP
  dsimp only
  split <;> rfl
theorem raP_raP {T g : Fr} (lT : Low T) (lg : Low g) (h : rv T ≤ rv g) (p : Pa) : raP g (raP T p) = raP g p := by
  unfold raP
  dsimp only
  by_cases h1 : rv p.2 < rv T
  · rw [if_pos h1]
    by_cases h2 : rv T < rv g
    · rw [if_pos h2, if_pos (by grind)]
    · have e : T = g := low_eq lT lg (by grind)
      rw [if_neg h2, if_pos (by grind), e]
  · rw [if_neg h1]
theorem raP_zero {X : List Pa} (G : XG X) {p : Pa} (hp : p ∈ X) : raP (0, 1) p = p := by
  have := G.pos p hp
  unfold raP
  rw [if_neg (by rw [rv_zero]; unfold wP at this; grind)]
theorem cut_mem {S : List Pa} {i : Nat} {y : Pa} (h : S[i]? = some y) : S = S.take i ++ y :: S.drop (i + 1) := by
  obtain ⟨hi, e⟩ := List.getElem?_eq_some_iff.mp h
  rw [← e, ← List.drop_eq_getElem_cons hi, List.take_append_drop]
theorem St.next {X : List Pa} {tau : Nat → Fr} (G : XG X) (TG : TauG X tau) {m : Nat} (h1 : 1 ≤ m) {S Q : List Pa} (h : St X tau (m + 1) S Q) {i : Nat} {q : Pa} (hq : Q[i]? = some q) (hn : gnF (tau m) q.2 ≠ (0, 1)) : St X tau m (S.take i ++ S.drop (i + 1)) ((Q.take i ++ Q.drop (i + 1)).map (raP (tau m))) := by
  obtain ⟨L, le, rfl⟩ := h
  have hmono := TG.mono G h1 le
  have hT := tauT_low TG (m + 1)
  have ht := TG.ok m
  have e0 : tauT tau X.length m = tau m := if_pos (by omega)
  rw [List.getElem?_map] at hq
  obtain ⟨y, hy, rfl⟩ := Option.map_eq_some_iff.mp hq
  have hym := List.mem_of_getElem? hy
  have hcut := cut_mem hy
  have hnd := L.nd
  rw [hcut] at hnd
  have hlen := congrArg List.length hcut
  rw [List.length_append, List.length_cons] at hlen
  refine ⟨⟨?_, ?_, ?_, ?_⟩, by omega, ?_⟩
  · exact (List.nodup_cons.mp (List.perm_middle.nodup_iff.mp hnd)).2
  · intro x hx
    refine L.sub x ?_
    rcases List.mem_append.mp hx with h | h
    · exact List.mem_of_mem_take h
    · exact List.mem_of_mem_drop h
  · rw [List.length_append]
    have := L.len
    omega
  · intro x hx hb
    rw [e0] at hb
    have hxS := L.big x hx (by grind)
    rw [hcut] at hxS
    have hxy : x ≠ y := by
      rintro rfl
      refine hn ?_
      obtain ⟨h3, h4, h5, _⟩ := G.ok x hx
      have hv := rv_raP (g := tauT tau X.length (m + 1)) x
      have hge : ¬ rv (raP (tauT tau X.length (m + 1)) x).2 < rv (tau m) := by
        rw [hv]
        unfold mxR
        split <;> grind
      have e : lesF (raP (tauT tau X.length (m + 1)) x).2 (tau m) = (1, 1) := by
        unfold lesF
        rw [if_neg hge]
      unfold gnF
      rw [e]
      refine low_eq (lo_low (by decide)) low_zero ?_
      rw [rv_fminus (by decide) (by decide), rv_zero]
      grind
    rcases List.mem_append.mp hxS with h | h
    · exact List.mem_append.mpr (.inl h)
    · rcases List.mem_cons.mp h with h | h
      · exact absurd h hxy
      · exact List.mem_append.mpr (.inr h)
  · rw [e0, ← List.map_take, ← List.map_drop, ← List.map_append, List.map_map]
    exact List.map_congr_left fun p _ => raP_raP hT.1 ht.1 hmono p
theorem St.okQ {X : List Pa} {tau : Nat → Fr} (G : XG X) (TG : TauG X tau) {m : Nat} {S Q : List Pa} (h : St X tau m S Q) (hm : 1 ≤ m) : ∀ p ∈ Q, OkF p.2 ∧ RowS p.1.2 := by
  obtain ⟨L, le, rfl⟩ := h
  intro p hp
  obtain ⟨x, hx, rfl⟩ := List.mem_map.mp hp
  have hxX := L.sub x hx
  refine ⟨?_, (G.ok x hxX).2.2.2⟩
  unfold raP
  dsimp only
  split
  · rename_i hlt
    have hpos := G.pos x hxX
    have hT := tauT_low TG m
    unfold wP at hpos
    exact ⟨hT.1, (rv_pos hT.1.1).mpr (by grind), hT.2.mono (by decide)⟩
  · exact G.okF hxX
theorem den_dvd {X : List Pa} {tau : Nat → Fr} {f : Fr} (hf : 1 ≤ f.2) (h : (∃ p ∈ X, f = p.2) ∨ ∃ j, j < 6 ∧ f = tau j) : ∃ b : Int, ((bigB X tau : Nat) : Int) = f.2 * b := by
  have key : ∃ c, bigB X tau = f.2.natAbs * c := by
    rcases h with ⟨p, hp, rfl⟩ | ⟨j, hj, rfl⟩
    · obtain ⟨c, hc⟩ := prodN_mem (l := X.map fun p => p.2.2.natAbs) (x := p.2.2.natAbs) (List.mem_map.mpr ⟨p, hp, rfl⟩)
      exact ⟨c * prodN ((List.range 6).map fun j => (tau j).2.natAbs), by unfold bigB; rw [hc, Nat.mul_assoc]⟩
    · obtain ⟨c, hc⟩ := prodN_mem (l := (List.range 6).map fun j => (tau j).2.natAbs) (x := (tau j).2.natAbs) (List.mem_map.mpr ⟨j, List.mem_range.mpr hj, rfl⟩)
      exact ⟨prodN (X.map fun p => p.2.2.natAbs) * c, by unfold bigB; rw [hc, Nat.mul_left_comm]⟩
  obtain ⟨c, hc⟩ := key
  refine ⟨(c : Int), ?_⟩
  rw [hc, Int.natCast_mul]
  congr 1
  omega
theorem St.gnL {X : List Pa} {tau : Nat → Fr} (G : XG X) (TG : TauG X tau) {m : Nat} (h1 : 1 ≤ m) {S Q : List Pa} (h : St X tau (m + 1) S Q) {p : Pa} (hp : p ∈ Q) : ∃ z : Int, rv (gnF (tau m) p.2) * (bigL X tau : Rat) = (z : Rat) := by
  have hO := h.okQ G TG (by omega) p hp
  obtain ⟨t1, t2, t3⟩ := TG.ok m
  have l6 := G.l6
  obtain ⟨n1, n2, n3⟩ := gnF_ok hO.1 ⟨t1, t2, t3.mono (by decide)⟩
  obtain ⟨L, le, rfl⟩ := h
  obtain ⟨x, hx, rfl⟩ := List.mem_map.mp hp
  have hd : (∃ q ∈ X, (raP (tauT tau X.length (m + 1)) x).2 = q.2) ∨ ∃ j, j < 6 ∧ (raP (tauT tau X.length (m + 1)) x).2 = tau j := by
    unfold raP
    dsimp only
    by_cases hlt : rv x.2 < rv (tauT tau X.length (m + 1))
    · rw [if_pos hlt]
      unfold tauT at hlt ⊢
      by_cases hb : m + 1 < X.length
      · rw [if_pos hb]
        exact .inr ⟨m + 1, by omega, rfl⟩
      · rw [if_neg hb, rv_zero] at hlt
        have := G.pos x (L.sub x hx)
        unfold wP at this
        grind
    · rw [if_neg hlt]
      exact .inl ⟨x, L.sub x hx, rfl⟩
  have hf1 := hO.1.low.1
  generalize (raP (tauT tau X.length (m + 1)) x).2 = f at *
  obtain ⟨b, hb⟩ := den_dvd (tau := tau) hf1 hd
  obtain ⟨c, hc⟩ := prodN_mem (l := (List.range 6).map fun j => (tau j).1.natAbs) (x := (tau m).1.natAbs) (List.mem_map.mpr ⟨m, List.mem_range.mpr (by omega), rfl⟩)
  have hN : ((prodN ((List.range 6).map fun j => (tau j).1.natAbs) : Nat) : Int) = (tau m).1 * (c : Int) := by
    rw [hc, Int.natCast_mul]
    congr 1
    omega
  have eL : (bigL X tau : Rat) = ((f.2 * b : Int) : Rat) * (((tau m).1 * (c : Int) : Int) : Rat) := by
    rw [← hb, ← hN]
    unfold bigL
    exact_mod_cast rfl
  rw [n3, eL]
  unfold shr
  have f20 : (f.2 : Rat) ≠ 0 := ratNe (by omega)
  have t10 : ((tau m).1 : Rat) ≠ 0 := ratNe (by omega)
  have t20 : ((tau m).2 : Rat) ≠ 0 := ratNe (by have := t1.1; omega)
  have e1 : ((f.2 * b : Int) : Rat) = (f.2 : Rat) * (b : Rat) := by exact_mod_cast rfl
  have e2 : (((tau m).1 * (c : Int) : Int) : Rat) = ((tau m).1 : Rat) * (c : Rat) := by exact_mod_cast rfl
  split
  · refine ⟨f.2 * b * ((tau m).1 * (c : Int)) - f.1 * b * ((tau m).2 * (c : Int)), ?_⟩
    have e3 : ((f.2 * b * ((tau m).1 * (c : Int)) - f.1 * b * ((tau m).2 * (c : Int)) : Int) : Rat) = (f.2 : Rat) * (b : Rat) * (((tau m).1 : Rat) * (c : Rat)) - (f.1 : Rat) * (b : Rat) * (((tau m).2 : Rat) * (c : Rat)) := by exact_mod_cast rfl
    rw [e1, e2, e3]
    unfold rv
    grind
  · exact ⟨0, by rw [show ((0 : Int) : Rat) = 0 from rfl]; grind⟩
theorem St.nd {X : List Pa} {tau : Nat → Fr} (G : XG X) (TG : TauG X tau) {size : Nat} (s1 : 1 ≤ size) : ∀ {d : Nat} {S Q : List Pa}, St X tau (size + d) S Q → Nd tau size d Q ∧ NdD tau size (bigL X tau) d Q := by
  have l6 := G.l6
  intro d
  induction d with
  | zero =>
    intro S Q h
    have hO := h.okQ G TG (by omega)
    obtain ⟨L, le, rfl⟩ := h
    have := L.len
    exact ⟨⟨by rw [List.length_map]; omega, by rw [List.length_map]; omega, hO⟩, trivial⟩
  | succ d ih =>
    intro S Q h
    have h : St X tau (size + d + 1) S Q := h
    have hO := h.okQ G TG (by omega)
    have hgL : ∀ p ∈ Q, ∃ z : Int, rv (gnF (tau (size + d)) p.2) * (bigL X tau : Rat) = (z : Rat) := fun p hp => h.gnL G TG (by omega) hp
    obtain ⟨t1, t2, t3⟩ := TG.ok (size + d)
    have hnx : ∀ c, ∀ m ∈ dropsF (tau (size + d)) c [] Q, Nd tau size d m.2 ∧ NdD tau size (bigL X tau) d m.2 := fun c m hm => by
      obtain ⟨i, p, hp, hn, rfl⟩ := dropsF_of hm
      exact ih (h.next G TG (by omega) hp hn)
    obtain ⟨L, le, rfl⟩ := id h
    have hl := L.len
    have hmono := TG.mono G (m := size + d) (by omega) le
    have hcap := L.capE G.pos G.nd (TG.T (by omega)) hmono
    have hthr := (TG.thr (size + d) (by omega) (by omega)).big (by rw [List.length_map]; omega)
    have e : (S.map (raP (tauT tau X.length (size + d + 1)))).map (fun p => rv p.2) = S.map fun y => mxR (wP y) (rv (tauT tau X.length (size + d + 1))) := by
      rw [List.map_map]
      exact List.map_congr_left fun p _ => rv_raP p
    refine ⟨⟨by rw [List.length_map]; omega, by rw [List.length_map]; omega, hO, ⟨t1, t2, t3.mono (by decide), ⟨fun z => ?_, fun _ => ⟨hthr.1, ?_⟩⟩⟩, fun c m hm => (hnx c m hm).1⟩, hgL, fun c m hm => (hnx c m hm).2⟩
    · rw [List.length_map, List.length_map] at z
      omega
    · rw [e, hcap]
      exact hthr.2
/-- the levels stand, from the items as they come -/
theorem nd_ex {X : List Pa} (G : XG X) {size d : Nat} (s1 : 1 ≤ size) (hd : d = X.length - size) : ∃ tau L, Nd tau size d X ∧ NdD tau size L d X ∧ 1 ≤ L ∧ L ≤ 2 ^ 270 := by
  obtain ⟨tau, TG⟩ := tau_ex G
  have hB := bigL_B G TG
  by_cases hs : X.length ≤ size
  · obtain rfl : d = 0 := by omega
    exact ⟨tau, bigL X tau, ⟨hs, G.l6, fun p hp => ⟨G.okF hp, (G.ok p hp).2.2.2⟩⟩, trivial, hB⟩
  · have h0 : St X tau (size + d) X X := by
      have e : size + d = X.length := by omega
      rw [e]
      have e2 : tauT tau X.length X.length = (0, 1) := if_neg (by omega)
      refine ⟨⟨G.nd, fun _ h => h, by omega, fun _ h _ => h⟩, Nat.le_refl _, ?_⟩
      rw [e2]
      exact ((show X.map (raP (0, 1)) = X.map id from List.map_congr_left fun p hp => raP_zero G hp).trans (List.map_id X)).symm
    obtain ⟨h1, h2⟩ := h0.nd G TG s1
    exact ⟨tau, bigL X tau, h1, h2, hB⟩
end math27b

/-! ### gathering for any keys -/
section gen27b
def gval {κ : Type} [DecidableEq κ] (acc : List (κ × Fr)) (k : κ) : Option Fr := (acc.find? fun x => decide (x.1 = k)).map (·.2)
def gput {κ : Type} [DecidableEq κ] (acc : List (κ × Fr)) (k : κ) (g : Fr) : List (κ × Fr) := if (acc.any fun x => decide (x.1 = k)) = true then acc.map (fun x => if x.1 = k then (x.1, g) else x) else acc ++ [(k, g)]
def gstp {κ : Type} [DecidableEq κ] (acc : List (κ × Fr)) (x : κ × Fr) : List (κ × Fr) := gput acc x.1 (fplus ((gval acc x.1).getD (0, 1)) x.2)
def gsum {κ : Type} [DecidableEq κ] (xs : List (κ × Fr)) : List (κ × Fr) := xs.foldl gstp []
variable {κ : Type} [DecidableEq κ]
theorem gsum_snoc {xs : List (κ × Fr)} {i : Nat} {x : κ × Fr} (h : xs[i]? = some x) : gsum (xs.take (i + 1)) = gstp (gsum (xs.take i)) x := by
  unfold gsum
  rw [List.take_add_one, h, List.foldl_append]
  rfl
theorem gval_mem {acc : List (κ × Fr)} {k : κ} {g : Fr} (h : gval acc k = some g) : (k, g) ∈ acc := by
  unfold gval at h
  obtain ⟨x, hx, rfl⟩ := Option.map_eq_some_iff.mp h
  have h1 := List.find?_some hx
  have h2 := List.mem_of_find?_eq_some hx
  obtain rfl : x.1 = k := by simpa using h1
  exact h2
theorem gval_none {acc : List (κ × Fr)} {k : κ} (h : ¬ (acc.any fun x => decide (x.1 = k)) = true) : ∀ x ∈ acc, x.1 ≠ k := fun x hx e => h (List.any_eq_true.mpr ⟨x, hx, by simpa using e⟩)
theorem gput_nodup {acc : List (κ × Fr)} {k : κ} {g : Fr} (h : (acc.map Prod.fst).Nodup) : ((gput acc k g).map Prod.fst).Nodup := by
  unfold gput
  split
  · rw [List.map_map]
    rw [show (Prod.fst ∘ fun x : κ × Fr => if x.1 = k then (x.1, g) else x) = Prod.fst from by funext x; dsimp only [Function.comp]; split <;> rfl]
    exact h
  · rename_i ha
    rw [List.map_append, List.map_cons, List.map_nil]
    refine List.nodup_append.mpr ⟨h, by simp, fun a ha2 b hb => ?_⟩
    obtain ⟨x, hx, rfl⟩ := List.mem_map.mp ha2
    rw [List.mem_singleton.mp hb]
    exact gval_none ha x hx
theorem gsum_nodup : ∀ {xs acc : List (κ × Fr)}, (acc.map Prod.fst).Nodup → ((xs.foldl gstp acc).map Prod.fst).Nodup
  | [], _, h => h
  | x :: xs, acc, h => gsum_nodup (xs := xs) (gput_nodup h)
theorem gput_len {acc : List (κ × Fr)} {k : κ} {g : Fr} : (gput acc k g).length ≤ acc.length + 1 := by
  unfold gput
  split
  · rw [List.length_map]; omega
  · simp
theorem gsum_len : ∀ {xs acc : List (κ × Fr)}, (xs.foldl gstp acc).length ≤ acc.length + xs.length
  | [], _ => by simp
  | x :: xs, acc => by
    have h1 := gput_len (acc := acc) (k := x.1) (g := fplus ((gval acc x.1).getD (0, 1)) x.2)
    have h2 := gsum_len (xs := xs) (acc := gstp acc x)
    unfold gstp at h2
    rw [List.foldl_cons, List.length_cons]
    unfold gstp
    omega
theorem gval_of : ∀ {acc : List (κ × Fr)} {x : κ × Fr}, (acc.map Prod.fst).Nodup → x ∈ acc → gval acc x.1 = some x.2
  | y :: acc, x, h, hx => by
    rw [List.map_cons, List.nodup_cons] at h
    unfold gval
    rcases List.mem_cons.mp hx with rfl | hx
    · rw [List.find?_cons_of_pos (by simp)]
      rfl
    · have hne : y.1 ≠ x.1 := fun e => h.1 (by rw [e]; exact List.mem_map_of_mem hx)
      rw [List.find?_cons_of_neg (by simpa using hne)]
      exact gval_of h.2 hx
end gen27b
section gath3
variable {κ : Type} [DecidableEq κ]
/-- the sum of the chances of a key -/
def sK (xs : List (κ × Fr)) (k : κ) : Rat := ((xs.filter fun x => decide (x.1 = k)).map fun x => rv x.2).sum
theorem ratsum_app : ∀ a b : List Rat, (a ++ b).sum = a.sum + b.sum
  | [], b => by show b.sum = 0 + b.sum; grind
  | x :: a, b => by
    rw [List.cons_append, List.sum_cons, List.sum_cons, ratsum_app a b]
    grind
theorem ratsum_perm {a b : List Rat} (h : a.Perm b) : a.sum = b.sum := by
  induction h with
  | nil => rfl
  | cons x _ ih => rw [List.sum_cons, List.sum_cons, ih]
  | swap x y l =>
    rw [List.sum_cons, List.sum_cons, List.sum_cons, List.sum_cons]
    grind
  | trans _ _ h1 h2 => exact h1.trans h2
theorem sK_perm {xs ys : List (κ × Fr)} (h : xs.Perm ys) (k : κ) : sK xs k = sK ys k := ratsum_perm ((h.filter _).map _)
theorem sK_nil (k : κ) : sK ([] : List (κ × Fr)) k = 0 := rfl
theorem sK_snoc (xs : List (κ × Fr)) (x : κ × Fr) (k : κ) : sK (xs ++ [x]) k = sK xs k + if x.1 = k then rv x.2 else 0 := by
  unfold sK
  rw [List.filter_append, List.map_append, ratsum_app]
  by_cases h : x.1 = k
  · rw [if_pos h, List.filter_cons_of_pos (by simpa using h)]
    show _ + (rv x.2 + 0) = _
    grind
  · rw [if_neg h, List.filter_cons_of_neg (by simpa using h)]
    rfl
theorem sK_none {xs : List (κ × Fr)} {k : κ} (h : k ∉ xs.map Prod.fst) : sK xs k = 0 := by
  unfold sK
  rw [List.filter_eq_nil_iff.mpr]
  · rfl
  · intro x hx e
    exact h (by rw [← of_decide_eq_true e]; exact List.mem_map_of_mem hx)
/-- each key once, with the sum of its chances -/
structure Norm (xs R : List (κ × Fr)) : Prop where
  a : ∀ x ∈ R, x.1 ∈ xs.map Prod.fst ∧ Low x.2 ∧ rv x.2 = sK xs x.1
  b : ∀ k ∈ xs.map Prod.fst, ∃ x ∈ R, x.1 = k
theorem Norm.mem {xs R : List (κ × Fr)} (h : Norm xs R) {x : κ × Fr} : x ∈ R ↔ x.1 ∈ xs.map Prod.fst ∧ Low x.2 ∧ rv x.2 = sK xs x.1 := by
  refine ⟨h.a x, fun ⟨h1, h2, h3⟩ => ?_⟩
  obtain ⟨y, hy, e⟩ := h.b _ h1
  obtain ⟨_, l2, l3⟩ := h.a y hy
  have e2 : y.2 = x.2 := low_eq l2 h2 (by rw [l3, h3, e])
  have e3 : y = x := Prod.ext e e2
  rwa [← e3]
theorem Norm.perm {xs ys R : List (κ × Fr)} (h : Norm xs R) (p : xs.Perm ys) : Norm ys R :=
  ⟨fun x hx => ⟨(p.map Prod.fst).mem_iff.mp (h.a x hx).1, (h.a x hx).2.1, by rw [(h.a x hx).2.2, sK_perm p]⟩, fun k hk => h.b k ((p.map Prod.fst).mem_iff.mpr hk)⟩
theorem Norm.permR {xs R R' : List (κ × Fr)} (h : Norm xs R) (p : R.Perm R') : Norm xs R' := ⟨fun x hx => h.a x (p.mem_iff.mpr hx), fun k hk => let ⟨x, hx, e⟩ := h.b k hk; ⟨x, p.mem_iff.mp hx, e⟩⟩
theorem norm_nil : Norm ([] : List (κ × Fr)) [] := ⟨by simp, by simp⟩
theorem gval_some {acc : List (κ × Fr)} {k : κ} (h : (acc.any fun x => decide (x.1 = k)) = true) : ∃ g, gval acc k = some g ∧ (k, g) ∈ acc := by
  obtain ⟨x, hx, e⟩ := List.any_eq_true.mp h
  unfold gval
  cases hf : acc.find? fun x => decide (x.1 = k) with
  | none =>
    have := List.find?_eq_none.mp hf x hx
    exact absurd e this
  | some y =>
    have h1 := List.find?_some hf
    have h2 := List.mem_of_find?_eq_some hf
    have h3 : y.1 = k := of_decide_eq_true h1
    exact ⟨y.2, rfl, by rw [← h3]; exact h2⟩
theorem gval_nil {acc : List (κ × Fr)} {k : κ} (h : ¬ (acc.any fun x => decide (x.1 = k)) = true) : gval acc k = none := by
  unfold gval
  rw [List.find?_eq_none.mpr fun x hx e => gval_none h x hx (of_decide_eq_true e)]
  rfl
theorem fplus_zero {f : Fr} (h : f.2 ≠ 0) : rv (fplus (0, 1) f) = rv f := by
  rw [rv_fplus (by decide) h]
  have e0 : rv (0, 1) = 0 := by unfold rv; grind
  rw [e0]
  grind
theorem norm_step {ps acc : List (κ × Fr)} {x : κ × Fr} (h : Norm ps acc) (hn : (acc.map Prod.fst).Nodup) (hx : x.2.2 ≠ 0) : Norm (ps ++ [x]) (gstp acc x) := by
  have hk : ∀ k, k ∈ (ps ++ [x]).map Prod.fst ↔ k ∈ ps.map Prod.fst ∨ k = x.1 := fun k => by
    rw [List.map_append, List.mem_append]
    simp
  unfold gstp gput
  by_cases ha : (acc.any fun y => decide (y.1 = x.1)) = true
  · rw [if_pos ha]
    obtain ⟨g, hg, hm⟩ := gval_some ha
    obtain ⟨g1, g2, g3⟩ := h.a _ hm
    rw [hg]
    refine ⟨fun y hy => ?_, fun k hkm => ?_⟩
    · obtain ⟨z, hz, rfl⟩ := List.mem_map.mp hy
      obtain ⟨z1, z2, z3⟩ := h.a z hz
      by_cases e : z.1 = x.1
      · rw [if_pos e]
        refine ⟨(hk _).mpr (.inl z1), fplus_low g2.ne hx, ?_⟩
        show rv (fplus g x.2) = _
        rw [rv_fplus g2.ne hx, sK_snoc, if_pos e.symm, g3, e]
      · rw [if_neg e]
        refine ⟨(hk _).mpr (.inl z1), z2, ?_⟩
        rw [sK_snoc, if_neg (fun q => e q.symm), z3]
        grind
    · rcases (hk k).mp hkm with h1 | rfl
      · obtain ⟨z, hz, e⟩ := h.b k h1
        refine ⟨_, List.mem_map_of_mem hz, ?_⟩
        split
        · exact e
        · exact e
      · refine ⟨_, List.mem_map_of_mem hm, ?_⟩
        rw [if_pos rfl]
  · rw [if_neg ha, gval_nil ha]
    have hno : x.1 ∉ ps.map Prod.fst := fun z => by
      obtain ⟨y, hy, e⟩ := h.b _ z
      exact gval_none ha y hy e
    refine ⟨fun y hy => ?_, fun k hkm => ?_⟩
    · rcases List.mem_append.mp hy with hy | hy
      · obtain ⟨y1, y2, y3⟩ := h.a y hy
        refine ⟨(hk _).mpr (.inl y1), y2, ?_⟩
        rw [sK_snoc, if_neg (fun e => hno (by rw [e]; exact y1)), y3]
        grind
      · rw [List.mem_singleton.mp hy]
        refine ⟨(hk _).mpr (.inr rfl), fplus_low (by decide) hx, ?_⟩
        show rv (fplus (0, 1) x.2) = sK (ps ++ [x]) x.1
        rw [fplus_zero hx, sK_snoc, if_pos rfl, sK_none hno]
        grind
    · rcases (hk k).mp hkm with h1 | rfl
      · obtain ⟨z, hz, e⟩ := h.b k h1
        exact ⟨z, List.mem_append_left _ hz, e⟩
      · exact ⟨(x.1, fplus (0, 1) x.2), List.mem_append_right _ (by simp), rfl⟩
theorem norm_fold : ∀ {xs ps acc : List (κ × Fr)}, Norm ps acc → (acc.map Prod.fst).Nodup → (∀ x ∈ xs, x.2.2 ≠ 0) → Norm (ps ++ xs) (xs.foldl gstp acc)
  | [], ps, acc, h, _, _ => by rw [List.append_nil]; exact h
  | x :: xs, ps, acc, h, hn, hx => by
    rw [List.foldl_cons, show ps ++ x :: xs = (ps ++ [x]) ++ xs by simp]
    exact norm_fold (norm_step h hn (hx x (by simp))) (gput_nodup hn) fun y hy => hx y (by simp [hy])
theorem norm_gsum {xs : List (κ × Fr)} (hx : ∀ x ∈ xs, x.2.2 ≠ 0) : Norm xs (gsum xs) := by
  have := norm_fold (xs := xs) (ps := []) (acc := []) norm_nil (by simp) hx
  rwa [List.nil_append] at this
/-- an order of the keys -/
structure KOrd (le : κ → κ → Bool) : Prop where
  trans : ∀ a b c, le a b = true → le b c = true → le a c = true
  total : ∀ a b, le a b = true ∨ le b a = true
  anti : ∀ a b, le a b = true → le b a = true → a = b
def Asc (le : κ → κ → Bool) (R : List (κ × Fr)) : Prop := R.Pairwise fun a b => le a.1 b.1 = true ∧ a.1 ≠ b.1
theorem Asc.nodup {le : κ → κ → Bool} {R : List (κ × Fr)} (h : Asc le R) : R.Nodup := List.Pairwise.imp (fun {a b} h e => h.2 (by rw [e])) h
theorem norm_eq {le : κ → κ → Bool} (O : KOrd le) {xs R R' : List (κ × Fr)} (h : Norm xs R) (h' : Norm xs R') (s : Asc le R) (s' : Asc le R') : R = R' := by
  have hm : ∀ x, x ∈ R ↔ x ∈ R' := fun x => h.mem.trans h'.mem.symm
  refine List.Perm.eq_of_pairwise (le := fun a b : κ × Fr => le a.1 b.1 = true) (fun a b ha hb h1 h2 => ?_) (List.Pairwise.imp (fun {a b} h => h.1) s) (List.Pairwise.imp (fun {a b} h => h.1) s') ((List.perm_ext_iff_of_nodup s.nodup s'.nodup).mpr hm)
  have e := O.anti _ _ h1 h2
  obtain ⟨_, a2, a3⟩ := h.a a ha
  obtain ⟨_, b2, b3⟩ := h'.a b hb
  exact Prod.ext e (low_eq a2 b2 (by rw [a3, b3, e]))
/-- equal neighbours added -/
def stpG (acc : List (κ × Fr)) (x : κ × Fr) : List (κ × Fr) := match acc.getLast? with
  | some y => if y.1 = x.1 then acc.dropLast ++ [(x.1, fplus y.2 x.2)] else acc ++ [x]
  | none => [x]
theorem stpG_last (o : List (κ × Fr)) (y x : κ × Fr) : stpG (o ++ [y]) x = if y.1 = x.1 then o ++ [(x.1, fplus y.2 x.2)] else o ++ [y] ++ [x] := by
  unfold stpG
  rw [List.getLast?_concat, List.dropLast_concat]
theorem stpG_step {le : κ → κ → Bool} (O : KOrd le) {ps acc : List (κ × Fr)} {x : κ × Fr} (h : Norm ps acc) (s : Asc le acc) (hx : Low x.2) (hle : ∀ y ∈ ps, le y.1 x.1 = true) : Norm (ps ++ [x]) (stpG acc x) ∧ Asc le (stpG acc x) := by
  have hk : ∀ k, k ∈ (ps ++ [x]).map Prod.fst ↔ k ∈ ps.map Prod.fst ∨ k = x.1 := fun k => by
    rw [List.map_append, List.mem_append]
    simp
  have hle' : ∀ k ∈ ps.map Prod.fst, le k x.1 = true := fun k hk => by
    obtain ⟨y, hy, rfl⟩ := List.mem_map.mp hk
    exact hle y hy
  have hnew : x.1 ∉ ps.map Prod.fst → Norm (ps ++ [x]) (acc ++ [x]) ∧ Asc le (acc ++ [x]) := fun hno => by
    refine ⟨⟨fun y hy => ?_, fun k hkm => ?_⟩, List.pairwise_append.mpr ⟨s, by simp, fun a ha b hb => ?_⟩⟩
    · rcases List.mem_append.mp hy with hy | hy
      · obtain ⟨y1, y2, y3⟩ := h.a y hy
        refine ⟨(hk _).mpr (.inl y1), y2, ?_⟩
        rw [sK_snoc, if_neg (fun e => hno (by rw [e]; exact y1)), y3]
        grind
      · rw [List.mem_singleton.mp hy]
        refine ⟨(hk _).mpr (.inr rfl), hx, ?_⟩
        rw [sK_snoc, if_pos rfl, sK_none hno]
        grind
    · rcases (hk k).mp hkm with h1 | rfl
      · obtain ⟨z, hz, e⟩ := h.b k h1
        exact ⟨z, List.mem_append_left _ hz, e⟩
      · exact ⟨x, List.mem_append_right _ (by simp), rfl⟩
    · rw [List.mem_singleton.mp hb]
      have ha1 := (h.a a ha).1
      exact ⟨hle' _ ha1, fun e => hno (by rw [← e]; exact ha1)⟩
  rcases List.eq_nil_or_concat acc with rfl | ⟨o, y, hoy⟩
  · refine hnew fun z => ?_
    obtain ⟨y, hy, _⟩ := h.b _ z
    cases hy
  · rw [List.concat_eq_append] at hoy
    subst hoy
    rw [stpG_last]
    obtain ⟨s1, _, s3⟩ := List.pairwise_append.mp s
    obtain ⟨y1, y2, y3⟩ := h.a y (by simp)
    by_cases e : y.1 = x.1
    · rw [if_pos e]
      refine ⟨⟨fun z hz => ?_, fun k hkm => ?_⟩, List.pairwise_append.mpr ⟨s1, by simp, fun a ha b hb => ?_⟩⟩
      · rcases List.mem_append.mp hz with hz | hz
        · obtain ⟨z1, z2, z3⟩ := h.a z (by simp [hz])
          refine ⟨(hk _).mpr (.inl z1), z2, ?_⟩
          rw [sK_snoc, if_neg (fun q => (s3 z hz y (by simp)).2 (by rw [e, q])), z3]
          grind
        · rw [List.mem_singleton.mp hz]
          refine ⟨(hk _).mpr (.inr rfl), fplus_low y2.ne hx.ne, ?_⟩
          show rv (fplus y.2 x.2) = sK (ps ++ [x]) x.1
          rw [rv_fplus y2.ne hx.ne, sK_snoc, if_pos rfl, y3, e]
      · rcases (hk k).mp hkm with h1 | rfl
        · obtain ⟨z, hz, e2⟩ := h.b k h1
          rcases List.mem_append.mp hz with hz | hz
          · exact ⟨z, List.mem_append_left _ hz, e2⟩
          · refine ⟨(x.1, fplus y.2 x.2), List.mem_append_right _ (by simp), ?_⟩
            rw [List.mem_singleton.mp hz] at e2
            show x.1 = k
            rw [← e, e2]
        · exact ⟨(x.1, fplus y.2 x.2), List.mem_append_right _ (by simp), rfl⟩
      · rw [List.mem_singleton.mp hb]
        have := s3 a ha y (by simp)
        rw [e] at this
        exact this
    · rw [if_neg e]
      refine hnew fun z => ?_
      obtain ⟨u, hu, e2⟩ := h.b _ z
      rcases List.mem_append.mp hu with hu | hu
      · have h1 := s3 u hu y (by simp)
        have h2 := hle' _ y1
        rw [e2] at h1
        exact e (O.anti _ _ h2 h1.1)
      · rw [List.mem_singleton.mp hu] at e2
        exact e e2
theorem stpG_fold {le : κ → κ → Bool} (O : KOrd le) : ∀ {xs ps acc : List (κ × Fr)}, Norm ps acc → Asc le acc → (∀ x ∈ xs, Low x.2) → (ps ++ xs).Pairwise (fun a b => le a.1 b.1 = true) → Norm (ps ++ xs) (xs.foldl stpG acc) ∧ Asc le (xs.foldl stpG acc)
  | [], ps, acc, h, s, _, _ => by rw [List.append_nil]; exact ⟨h, s⟩
  | x :: xs, ps, acc, h, s, hx, hp => by
    have hle : ∀ y ∈ ps, le y.1 x.1 = true := fun y hy => (List.pairwise_append.mp hp).2.2 y hy x (by simp)
    obtain ⟨h1, h2⟩ := stpG_step O h s (hx x (by simp)) hle
    rw [show ps ++ x :: xs = (ps ++ [x]) ++ xs by simp] at hp ⊢
    rw [List.foldl_cons]
    exact stpG_fold O h1 h2 (fun y hy => hx y (by simp [hy])) hp
/-- sums in a dict, sorted, are the sorted rows with equal neighbours added -/
theorem gath_both {le : κ → κ → Bool} (O : KOrd le) {xs : List (κ × Fr)} (hx : ∀ x ∈ xs, Low x.2) : (xs.mergeSort fun a b => le a.1 b.1).foldl stpG [] = (gsum xs).mergeSort fun a b => le a.1 b.1 := by
  have T : ∀ a b c : κ × Fr, le a.1 b.1 = true → le b.1 c.1 = true → le a.1 c.1 = true := fun a b c => O.trans a.1 b.1 c.1
  have U : ∀ a b : κ × Fr, (le a.1 b.1 || le b.1 a.1) = true := fun a b => Bool.or_eq_true_iff.mpr (O.total a.1 b.1)
  have p1 := List.mergeSort_perm xs fun a b : κ × Fr => le a.1 b.1
  have p2 := List.mergeSort_perm (gsum xs) fun a b : κ × Fr => le a.1 b.1
  have q1 := List.pairwise_mergeSort (le := fun a b : κ × Fr => le a.1 b.1) T U xs
  have q2 := List.pairwise_mergeSort (le := fun a b : κ × Fr => le a.1 b.1) T U (gsum xs)
  obtain ⟨n1, s1⟩ := stpG_fold O (xs := xs.mergeSort fun a b => le a.1 b.1) (ps := []) (acc := []) norm_nil .nil (fun x h => hx x (p1.mem_iff.mp h)) (by rw [List.nil_append]; exact q1)
  rw [List.nil_append] at n1
  have n2 := (norm_gsum fun x h => (hx x h).ne).permR p2.symm
  refine norm_eq O (n1.perm p1) n2 s1 ?_
  have hn : (gsum xs).Pairwise fun a b => a.1 ≠ b.1 := List.pairwise_map.mp (gsum_nodup (xs := xs) (acc := []) (by simp))
  have hn2 : ((gsum xs).mergeSort fun a b : κ × Fr => le a.1 b.1).Pairwise fun a b => a.1 ≠ b.1 := (p2.pairwise_iff (fun {a b} h => h.symm)).mpr hn
  exact List.Pairwise.and q2 hn2
end gath3
section gen27c
variable {κ : Type} [DecidableEq κ]
theorem gput_mem27 {acc : List (κ × Fr)} {k : κ} {g : Fr} {x : κ × Fr} (h : x ∈ gput acc k g) : x.1 = k ∨ x ∈ acc := by
  unfold gput at h
  split at h
  · obtain ⟨y, hy, e⟩ := List.mem_map.mp h
    by_cases hk : y.1 = k
    · rw [if_pos hk] at e
      rw [← e]
      exact .inl hk
    · rw [if_neg hk] at e
      rw [← e]
      exact .inr hy
  · rcases List.mem_append.mp h with h | h
    · exact .inr h
    · rw [List.mem_singleton.mp h]
      exact .inl rfl
theorem gsum_keys27 : ∀ {xs acc : List (κ × Fr)} {x : κ × Fr}, x ∈ xs.foldl gstp acc → x.1 ∈ xs.map Prod.fst ∨ x ∈ acc
  | [], _, _, h => .inr h
  | y :: xs, acc, x, h => by
    rcases gsum_keys27 (xs := xs) (acc := gstp acc y) h with h | h
    · exact .inl (by rw [List.map_cons]; exact List.mem_cons_of_mem _ h)
    · rcases gput_mem27 h with h | h
      · exact .inl (by rw [List.map_cons, h]; exact List.mem_cons_self)
      · exact .inr h
theorem gsum_key27 {xs : List (κ × Fr)} {x : κ × Fr} (h : x ∈ gsum xs) : ∃ y ∈ xs, y.1 = x.1 := by
  rcases gsum_keys27 (acc := []) h with h | h
  · obtain ⟨y, hy, e⟩ := List.mem_map.mp h
    exact ⟨y, hy, e⟩
  · cases h
/-- sums of rows that are the same in another order, sorted -/
theorem gsum_perm {le : κ → κ → Bool} (O : KOrd le) {xs ys : List (κ × Fr)} (p : xs.Perm ys) (hx : ∀ x ∈ xs, Low x.2) : (gsum xs).mergeSort (fun a b => le a.1 b.1) = (gsum ys).mergeSort (fun a b => le a.1 b.1) := by
  have T : ∀ a b c : κ × Fr, le a.1 b.1 = true → le b.1 c.1 = true → le a.1 c.1 = true := fun a b c => O.trans a.1 b.1 c.1
  have U : ∀ a b : κ × Fr, (le a.1 b.1 || le b.1 a.1) = true := fun a b => Bool.or_eq_true_iff.mpr (O.total a.1 b.1)
  have asc : ∀ zs : List (κ × Fr), Asc le ((gsum zs).mergeSort fun a b => le a.1 b.1) := fun zs => by
    have p2 := List.mergeSort_perm (gsum zs) fun a b : κ × Fr => le a.1 b.1
    have q2 := List.pairwise_mergeSort (le := fun a b : κ × Fr => le a.1 b.1) T U (gsum zs)
    have hn : (gsum zs).Pairwise fun a b => a.1 ≠ b.1 := List.pairwise_map.mp (gsum_nodup (xs := zs) (acc := []) (by simp))
    have hn2 : ((gsum zs).mergeSort fun a b : κ × Fr => le a.1 b.1).Pairwise fun a b => a.1 ≠ b.1 := (p2.pairwise_iff (fun {a b} h => h.symm)).mpr hn
    exact List.Pairwise.and q2 hn2
  have n1 := (norm_gsum fun x h => (hx x h).ne).permR (List.mergeSort_perm (gsum xs) fun a b : κ × Fr => le a.1 b.1).symm
  have n2 := (norm_gsum fun x h => (hx x (p.mem_iff.mpr h)).ne).permR (List.mergeSort_perm (gsum ys) fun a b : κ × Fr => le a.1 b.1).symm
  exact norm_eq O (n1.perm p) n2 (asc xs) (asc ys)

variable {dk : κ → PyData}
def embG (dk : κ → PyData) (x : κ × Fr) : PyData × Fr := (dk x.1, x.2)
def leG (dk : κ → PyData) (a b : κ) : Bool := PySem.W.dataLe false dk a b
theorem stp_embG (he : ∀ a b : κ, PyData.eqv (dk a) (dk b) = decide (a = b)) (acc : List (κ × Fr)) (x : κ × Fr) : stp (acc.map (embG dk)) (embG dk x) = (stpG acc x).map (embG dk) := by
  rcases List.eq_nil_or_concat acc with rfl | ⟨o, y, hoy⟩
  · rfl
  · rw [List.concat_eq_append] at hoy
    subst hoy
    rw [stpG_last, List.map_append, List.map_cons, List.map_nil, stp_last]
    by_cases h : y.1 = x.1
    · rw [if_pos h, if_pos (show PyData.eqv (embG dk y).1 (embG dk x).1 = true from (he y.1 x.1).trans (decide_eq_true h)), List.map_append]
      rfl
    · rw [if_neg h, if_neg (show ¬ PyData.eqv (embG dk y).1 (embG dk x).1 = true from fun z => h (of_decide_eq_true ((he y.1 x.1).symm.trans z))), List.map_append, List.map_append]
      rfl
theorem fold_embG (he : ∀ a b : κ, PyData.eqv (dk a) (dk b) = decide (a = b)) : ∀ (xs acc : List (κ × Fr)), (xs.map (embG dk)).foldl stp (acc.map (embG dk)) = (xs.foldl stpG acc).map (embG dk)
  | [], _ => rfl
  | x :: xs, acc => by rw [List.map_cons, List.foldl_cons, List.foldl_cons, stp_embG he, fold_embG he xs]
theorem srtd_embG {rs : List LRow} {xs : List (κ × Fr)} (h : rs.map LRow.dat = xs.map (embG dk)) : (srtd rs).map LRow.dat = (xs.mergeSort fun a b => leG dk a.1 b.1).map (embG dk) := by
  unfold srtd
  rw [List.map_mergeSort (r := PySem.W.dataLe false LRow.d) (s := PySem.W.dataLe false Prod.fst) (f := LRow.dat) (fun _ _ _ _ => rfl), h]
  rw [← List.map_mergeSort (r := fun a b : κ × Fr => leG dk a.1 b.1) (s := PySem.W.dataLe false Prod.fst) (f := embG dk) (fun _ _ _ _ => rfl)]
/-- law_from of rows, by sums of the same rows in another order -/
theorem law_gathG (O : KOrd (leG dk)) (he : ∀ a b : κ, PyData.eqv (dk a) (dk b) = decide (a = b)) {rs : List LRow} {xs ys : List (κ × Fr)} (h : rs.map LRow.dat = ys.map (embG dk)) (p : xs.Perm ys) (hx : ∀ x ∈ xs, Low x.2 ∧ 0 < rv x.2) : lawOf rs = ((gsum xs).mergeSort fun a b => leG dk a.1 b.1).map (embG dk) := by
  have hy : ∀ y ∈ ys, Low y.2 ∧ 0 < rv y.2 := fun y h => hx y (p.mem_iff.mpr h)
  unfold lawOf
  rw [srtd_embG h]
  have e := fold_embG he (ys.mergeSort fun a b => leG dk a.1 b.1) []
  rw [List.map_nil] at e
  rw [e, gath_both O fun y h => (hy y h).1, gsum_perm O p fun x h => (hx x h).1]
  rw [List.filter_eq_self.mpr]
  intro z hz
  obtain ⟨x, hxm, rfl⟩ := List.mem_map.mp hz
  have hxg := (List.mergeSort_perm _ _).mem_iff.mp hxm
  have N := norm_gsum (xs := ys) fun y h => (hy y h).1.ne
  obtain ⟨n1, n2, n3⟩ := N.a x hxg
  have hpos : 0 < rv x.2 := by
    rw [n3]
    obtain ⟨y, hy1, hy2⟩ := List.mem_map.mp n1
    unfold sK
    have hm : rv y.2 ∈ ((ys.filter fun z => decide (z.1 = x.1)).map fun z => rv z.2) := List.mem_map.mpr ⟨y, List.mem_filter.mpr ⟨hy1, by simpa using hy2⟩, rfl⟩
    have hall : ∀ w ∈ ((ys.filter fun z => decide (z.1 = x.1)).map fun z => rv z.2), 0 < w := fun w hw => by
      obtain ⟨u, hu, rfl⟩ := List.mem_map.mp hw
      exact (hy u (List.mem_filter.mp hu).1).2
    exact (sumR_pos hall).2 (List.ne_nil_of_mem hm)
  simp only [Bool.not_eq_true', decide_eq_false_iff_not]
  intro z
  have z : x.2 = (0, 1) := z
  rw [z, rv_zero] at hpos
  exact absurd hpos (by decide)
end gen27c

/-! ### outcomes as keys and as data -/
section dat27
open ND LamK
abbrev RF := Row × Fr
def rf (p : Pa) : RF := (p.1.2, p.2)
def rfD (x : RF) : PyData := .tuple [rowD x.1, frD x.2]
def rfK (x : RF) : NestedKey := .tup [.tup [.text x.1.k, .text x.1.g, .num x.1.w, .num x.1.m], .tup [.num x.2.1, .num x.2.2]]
def vwD (size : Nat) (l : List RF) : PyData := .tuple [.int size, .tuple (l.map rfD)]
def vwK (size : Nat) (l : List RF) : NestedKey := .tup [.num size, .tup (l.map rfK)]
theorem rfK_datas : ∀ l : List RF, NestedKey.datas (l.map rfK) = l.map rfD
  | [] => rfl
  | x :: r => by
    rw [List.map_cons, List.map_cons]
    show NestedKey.data (rfK x) :: NestedKey.datas (r.map rfK) = _
    rw [rfK_datas r]
    rfl
theorem vwK_data (size : Nat) (l : List RF) : (vwK size l).data = vwD size l := by
  show PyData.tuple [.int (size : Int), .tuple (NestedKey.datas (l.map rfK))] = _
  rw [rfK_datas]
  rfl
theorem rfK_depths : ∀ l : List RF, NestedKey.depthAll (l.map rfK) ≤ 2
  | [] => by simp [NestedKey.depthAll]
  | x :: r => by
    have ih := rfK_depths r
    rw [List.map_cons]
    show max (NestedKey.depth (rfK x)) (NestedKey.depthAll (r.map rfK)) ≤ 2
    have e : NestedKey.depth (rfK x) ≤ 2 := by simp [rfK, NestedKey.depth, NestedKey.depthAll]
    omega
theorem vwK_depth (size : Nat) (l : List RF) : (vwK size l).depth ≤ 8 := by
  have := rfK_depths l
  simp [vwK, NestedKey.depth, NestedKey.depthAll]
  omega
theorem row_ext {a b : Row} (h1 : a.k = b.k) (h2 : a.g = b.g) (h3 : a.w = b.w) (h4 : a.m = b.m) : a = b := by
  cases a; cases b; simp_all
theorem rfK_inj {x y : RF} (h : rfK x = rfK y) : x = y := by
  obtain ⟨⟨k, g, w, m⟩, p, q⟩ := x
  obtain ⟨⟨k', g', w', m'⟩, p', q'⟩ := y
  simp [rfK] at h
  obtain ⟨⟨h1, h2, h3, h4⟩, h5, h6⟩ := h
  subst h1 h2 h3 h4 h5 h6
  rfl
theorem map_inj27 {α β : Type} {f : α → β} (hf : ∀ {x y}, f x = f y → x = y) : ∀ {a b : List α}, a.map f = b.map f → a = b
  | [], [], _ => rfl
  | [], _ :: _, h => by simp at h
  | _ :: _, [], h => by simp at h
  | x :: a, y :: b, h => by
    rw [List.map_cons, List.map_cons] at h
    obtain ⟨h1, h2⟩ := List.cons.inj h
    rw [hf h1, map_inj27 hf h2]
theorem vwK_inj {size : Nat} {a b : List RF} (h : vwK size a = vwK size b) : a = b := by
  simp only [vwK, NestedKey.tup.injEq, List.cons.injEq, and_true, true_and] at h
  exact map_inj27 rfK_inj h
def rfT (x : RF) : List (Int ⊕ List Nat) := [.inl 1, .inl 1, .inl 1, .inr x.1.k.cps.toList, .inl 1, .inr x.1.g.cps.toList, .inl 1, .inl x.1.w, .inl 1, .inl x.1.m, .inl 0, .inl 1, .inl 1, .inl x.2.1, .inl 1, .inl x.2.2, .inl 0, .inl 0]
theorem rf_toks (x : RF) (r : List RF) : PySem.W.keyToksAll ((x :: r).map rfD) = rfT x ++ PySem.W.keyToksAll (r.map rfD) := by
  simp [PySem.W.keyToksAll, PySem.W.keyToks, rfD, rowD, frD, rfT]
theorem rfT_inj {x y : RF} {r s : List (Int ⊕ List Nat)} (h : rfT x ++ r = rfT y ++ s) : x = y ∧ r = s := by
  obtain ⟨⟨k, g, w, m⟩, p, q⟩ := x
  obtain ⟨⟨k', g', w', m'⟩, p', q'⟩ := y
  simp only [rfT, List.cons_append, List.nil_append, List.cons.injEq, Sum.inl.injEq, Sum.inr.injEq, true_and] at h
  obtain ⟨h1, h2, h3, h4, h5, h6, h7⟩ := h
  rw [PySem.W.str_of_cps h1, PySem.W.str_of_cps h2, h3, h4, h5, h6]
  exact ⟨rfl, h7⟩
theorem rfs_inj : ∀ {a b : List RF}, PySem.W.keyToksAll (a.map rfD) = PySem.W.keyToksAll (b.map rfD) → a = b
  | [], [], _ => rfl
  | [], y :: b, h => by
    rw [rf_toks] at h
    simp [PySem.W.keyToksAll, rfT] at h
  | x :: a, [], h => by
    rw [rf_toks] at h
    simp [PySem.W.keyToksAll, rfT] at h
  | x :: a, y :: b, h => by
    rw [rf_toks, rf_toks] at h
    obtain ⟨h1, h2⟩ := rfT_inj h
    rw [h1, rfs_inj h2]
theorem vw_toks {size : Nat} {a b : List RF} (h : PySem.W.keyToks (vwD size a) = PySem.W.keyToks (vwD size b)) : a = b := by
  simp only [vwD, PySem.W.keyToks, PySem.W.keyToksAll, List.cons_append, List.nil_append, List.cons.injEq, true_and] at h
  exact rfs_inj (List.append_cancel_right h)
theorem vw_ord (size : Nat) : KOrd (leG (vwD size)) := by
  have T := PySem.W.sortLe_total (PyProof.Rows.listOrd PyProof.Rows.itemOrd) false fun k : List RF => PySem.W.keyToks (vwD size k)
  refine ⟨T.trans, T.total, fun a b h1 h2 => ?_⟩
  have e1 : (!PyProof.Rows.lexLt PyProof.Rows.itemOrd (PySem.W.keyToks (vwD size b)) (PySem.W.keyToks (vwD size a))) = true := h1
  have e2 : (!PyProof.Rows.lexLt PyProof.Rows.itemOrd (PySem.W.keyToks (vwD size a)) (PySem.W.keyToks (vwD size b))) = true := h2
  rw [Bool.not_eq_true'] at e1 e2
  exact vw_toks (PyProof.Rows.lex_total (O := PyProof.Rows.itemOrd) _ _ e2 e1)
open Classical in
theorem rf_eqv (x y : RF) : PyData.eqv (rfD x) (rfD y) = decide (x = y) := by
  obtain ⟨⟨k, g, w, m⟩, p, q⟩ := x
  obtain ⟨⟨k', g', w', m'⟩, p', q'⟩ := y
  rw [Bool.eq_iff_iff]
  simp [rfD, rowD, frD, PyData.eqv, PyData.eqvAll, and_assoc]
open Classical in
theorem rfs_eqv : ∀ a b : List RF, PyData.eqvAll (a.map rfD) (b.map rfD) = decide (a = b)
  | [], [] => by simp [PyData.eqvAll]
  | [], y :: b => by simp [PyData.eqvAll]
  | x :: a, [] => by simp [PyData.eqvAll]
  | x :: a, y :: b => by
    rw [List.map_cons, List.map_cons, PyData.eqvAll, rf_eqv, rfs_eqv a b]
    by_cases h1 : x = y
    · by_cases h2 : a = b
      · simp [h1, h2]
      · simp [h1, h2]
    · simp [h1]
noncomputable instance : DecidableEq (List RF) := fun a b => Classical.propDecidable (a = b)
theorem vw_eqv {size : Nat} (a b : List RF) : PyData.eqv (vwD size a) (vwD size b) = decide (a = b) := by
  unfold vwD
  rw [PyData.eqv, PyData.eqvAll, PyData.eqvAll, PyData.eqvAll, PyData.eqv, PyData.eqv, rfs_eqv]
  by_cases h : a = b
  · simp [h]
  · simp [h]
theorem rfs_lay : ∀ {l : List RF}, (∀ x ∈ l, RowS x.1) → PyData.canLayAll0 (l.map rfD) = true
  | [], _ => by simp [PyData.canLayAll0]
  | x :: r, h => by
    have ih := rfs_lay (l := r) fun y hy => h y (by simp [hy])
    rw [List.map_cons, PyData.canLayAll0, ih]
    simp [rfD, frD, PyData.canLay0, PyData.canLayAll0, rowD_lay (h x (by simp))]
theorem rfs_depth : ∀ l : List RF, PyData.depthAll (l.map rfD) ≤ 2
  | [] => by simp [PyData.depthAll]
  | x :: r => by
    have ih := rfs_depth r
    rw [List.map_cons, PyData.depthAll]
    have e : (rfD x).depth ≤ 2 := by simp [rfD, frD, rowD, PyData.depth, PyData.depthAll]
    omega
theorem rfs_flat : ∀ l : List RF, LamK.noLstAll (l.map rfD) = true
  | [] => by simp [LamK.noLstAll]
  | x :: r => by
    rw [List.map_cons]
    simp [LamK.noLstAll, LamK.noLst, rfs_flat r, rfD, rowD, frD]
theorem vw_ok {size : Nat} {l : List RF} (h : ∀ x ∈ l, RowS x.1) : DOk (vwD size l) := by
  have h1 := rfs_lay h
  have h2 := rfs_depth l
  have h3 := rfs_flat l
  refine ⟨by simp [vwD, LamK.noLst, LamK.noLstAll, h3], by simp [vwD, PyData.depth, PyData.depthAll]; omega, ?_⟩
  simp [vwD, SeqAt.shaped, PyData.canLay0, PyData.canLayAll0, PyData.depth, PyData.depthAll, h1]
  omega
theorem rfs_alike : ∀ a b : List RF, PySem.W.alikeAll (a.map rfD) (b.map rfD) = true
  | [], b => by simp [PySem.W.alikeAll]
  | x :: a, [] => by simp [PySem.W.alikeAll]
  | x :: a, y :: b => by
    rw [List.map_cons, List.map_cons, PySem.W.alikeAll, rfs_alike a b]
    simp [rfD, rowD, frD, PySem.W.alike, PySem.W.alikeAll]
theorem vw_alike {size : Nat} (a b : List RF) : PySem.W.alike (vwD size a) (vwD size b) = true := by
  simp [vwD, PySem.W.alike, PySem.W.alikeAll, rfs_alike]
theorem vw_keys {size : Nat} (ks : List (List RF)) : KeyOk (ks.map (vwD size)) := by
  refine ⟨fun d hd d' hd' => ?_, .inl fun d hd => ?_⟩
  · obtain ⟨a, _, rfl⟩ := List.mem_map.mp hd
    obtain ⟨b, _, rfl⟩ := List.mem_map.mp hd'
    exact vw_alike a b
  · obtain ⟨a, _, rfl⟩ := List.mem_map.mp hd
    exact ⟨_, _, rfl⟩
end dat27

section bnd27
variable {K : PySem.W.Frag}
open LamK
def DW (D n : Nat) (y : Fr) : Prop := Low y ∧ ∃ z : Int, rv y * (D : Rat) = (z : Rat) ∧ z.natAbs ≤ n * D
theorem DW.mono {D n m : Nat} {y : Fr} (h : DW D n y) (l : n ≤ m) : DW D m y := let ⟨a, z, h1, h2⟩ := h; ⟨a, z, h1, Nat.le_trans h2 (Nat.mul_le_mul_right _ l)⟩
theorem DW.add {D n m : Nat} {y x : Fr} (h : DW D n y) (g : DW D m x) : DW D (n + m) (fplus y x) := by
  obtain ⟨a, z, h1, h2⟩ := h
  obtain ⟨b, u, g1, g2⟩ := g
  refine ⟨fplus_low a.ne b.ne, z + u, ?_, ?_⟩
  · have e : ((z + u : Int) : Rat) = (z : Rat) + (u : Rat) := by exact_mod_cast rfl
    rw [rv_fplus a.ne b.ne, e, ← h1, ← g1]
    grind
  · rw [Nat.add_mul]; omega
theorem DW.zero (D : Nat) : DW D 0 (0, 1) := ⟨low_zero, 0, by rw [rv_zero, show ((0 : Int) : Rat) = 0 by rfl]; grind, by simp⟩
theorem DW.B {D n : Nat} {y : Fr} (h : DW D n y) (hn : n ≤ 1000) (hD1 : 1 ≤ D) (hD : D ≤ 2 ^ 810) : FrB 850 y := by
  obtain ⟨a, z, h1, h2⟩ := h
  refine den_B (D := D) (n := 820) (d := 810) a ⟨z, h1, ?_⟩ hD1 hD (by decide) (by decide)
  refine Nat.le_trans h2 (Nat.le_trans (Nat.mul_le_mul hn hD) ?_)
  rw [show (2 : Nat) ^ 820 = 2 ^ 10 * 2 ^ 810 by rw [← Nat.pow_add]]
  exact Nat.mul_le_mul_right _ (by decide)
theorem stp_dw {D n : Nat} {acc : List (PyData × Fr)} {x : PyData × Fr} (ha : ∀ y ∈ acc, DW D n y.2) (hx : DW D 1 x.2) : ∀ y ∈ stp acc x, DW D (n + 1) y.2 := fun y hy => by
  rcases List.eq_nil_or_concat acc with rfl | ⟨o, z, e⟩
  · rw [stp_nil, List.mem_singleton] at hy
    rw [hy]
    exact hx.mono (by omega)
  · rw [List.concat_eq_append] at e
    subst e
    rw [stp_last] at hy
    split at hy
    · rcases List.mem_append.mp hy with h | h
      · exact (ha y (by simp [h])).mono (by omega)
      · rw [List.mem_singleton.mp h]
        exact (ha z (by simp)).add hx
    · rcases List.mem_append.mp hy with h | h
      · exact (ha y h).mono (by omega)
      · rw [List.mem_singleton.mp h]
        exact hx.mono (by omega)
theorem fold_dw {D : Nat} : ∀ {l acc : List (PyData × Fr)} {n : Nat}, (∀ y ∈ acc, DW D n y.2) → (∀ x ∈ l, DW D 1 x.2) → ∀ y ∈ l.foldl stp acc, DW D (n + l.length) y.2
  | [], acc, n, ha, _ => ha
  | x :: l, acc, n, ha, hl => fun y hy => by
    have := fold_dw (l := l) (acc := stp acc x) (n := n + 1) (stp_dw ha (hl x (by simp))) (fun z hz => hl z (by simp [hz])) y hy
    exact this.mono (by rw [List.length_cons]; omega)
theorem gstp_dw {κ : Type} [DecidableEq κ] {D n : Nat} {acc : List (κ × Fr)} {x : κ × Fr} (ha : ∀ y ∈ acc, DW D n y.2) (hx : DW D 1 x.2) : ∀ y ∈ gstp acc x, DW D (n + 1) y.2 := fun y hy => by
  have hg : DW D n ((gval acc x.1).getD (0, 1)) := by
    cases e : gval acc x.1 with
    | none => exact (DW.zero D).mono (Nat.zero_le _)
    | some g => exact ha _ (gval_mem e)
  unfold gstp gput at hy
  split at hy
  · obtain ⟨z, hz, rfl⟩ := List.mem_map.mp hy
    split
    · exact hg.add hx
    · exact (ha z hz).mono (by omega)
  · rcases List.mem_append.mp hy with hy | hy
    · exact (ha y hy).mono (by omega)
    · rw [List.mem_singleton.mp hy]
      exact hg.add hx
theorem gfold_dw {κ : Type} [DecidableEq κ] {D : Nat} : ∀ {l acc : List (κ × Fr)} {n : Nat}, (∀ y ∈ acc, DW D n y.2) → (∀ x ∈ l, DW D 1 x.2) → ∀ y ∈ l.foldl gstp acc, DW D (n + l.length) y.2
  | [], acc, n, ha, _ => ha
  | x :: l, acc, n, ha, hl => fun y hy => by
    have := gfold_dw (l := l) (acc := gstp acc x) (n := n + 1) (gstp_dw ha (hl x (by simp))) (fun z hz => hl z (by simp [hz])) y hy
    exact this.mono (by rw [List.length_cons]; omega)
theorem fsum_dw {D : Nat} : ∀ {l : List Fr} {t : Fr} {n : Nat}, DW D n t → (∀ x ∈ l, DW D 1 x) → DW D (n + l.length) (fsum t l)
  | [], t, n, ha, _ => ha
  | x :: l, t, n, ha, hl => by
    have := fsum_dw (l := l) (t := fplus t x) (ha.add (hl x (by simp))) fun z hz => hl z (by simp [hz])
    exact this.mono (by rw [List.length_cons]; omega)
theorem le_sum {x : Rat} : ∀ {l : List Rat}, (∀ y ∈ l, 0 ≤ y) → x ∈ l → x ≤ l.sum
  | [], _, h => by cases h
  | y :: l, h0, h => by
    have hs : ∀ {l : List Rat}, (∀ y ∈ l, 0 ≤ y) → 0 ≤ l.sum := fun {l} h => by
      induction l with
      | nil => show (0 : Rat) ≤ 0; grind
      | cons a r ih =>
        have h1 := h a (by simp)
        have h2 := ih fun z hz => h z (by simp [hz])
        rw [List.sum_cons]; grind
    rw [List.sum_cons]
    have hy := h0 y (by simp)
    rcases List.mem_cons.mp h with rfl | h
    · have := hs (l := l) fun z hz => h0 z (by simp [hz])
      grind
    · have := le_sum (l := l) (fun z hz => h0 z (by simp [hz])) h
      grind
/-- all that is asked of the rows -/
structure XsG {κ : Type} (D : Nat) (xs : List (κ × Fr)) : Prop where
  dw : ∀ x ∈ xs, DW D 1 x.2
  pos : ∀ x ∈ xs, 0 < rv x.2
  one : (xs.map fun x => rv x.2).sum = 1
  len : xs.length ≤ 300
  D1 : 1 ≤ D
  D2 : D ≤ 2 ^ 810
theorem XsG.perm {κ : Type} {D : Nat} {xs ys : List (κ × Fr)} (h : XsG D xs) (p : xs.Perm ys) : XsG D ys :=
  ⟨fun x hx => h.dw x (p.mem_iff.mpr hx), fun x hx => h.pos x (p.mem_iff.mpr hx), by rw [← sum_perm27 (p.map fun x => rv x.2)]; exact h.one, by rw [← p.length_eq]; exact h.len, h.D1, h.D2⟩
theorem law_in27 {κ : Type} {dk : κ → PyData} (hk : ∀ ks : List κ, KeyOk (ks.map dk)) {D : Nat} {ys : List (κ × Fr)} (G : XsG D ys) {rs : List LRow} {H : Hp} (h : rs.map LRow.dat = ys.map (fun y => (dk y.1, y.2))) (hA : ∀ r ∈ rs, LRowAt K H r) : LawIn K H rs ∧ chOkB (rs.map LRow.f) = true := by
  have hlen : rs.length = ys.length := by
    have := congrArg List.length h
    rwa [List.length_map, List.length_map] at this
  have h300 := G.len
  have hf : rs.map LRow.f = ys.map fun y => y.2 := by
    have e : rs.map LRow.f = (rs.map LRow.dat).map Prod.snd := by rw [List.map_map]; rfl
    rw [e, h, List.map_map]
    rfl
  have hd : rs.map LRow.d = (ys.map Prod.fst).map dk := by
    have e : rs.map LRow.d = (rs.map LRow.dat).map Prod.fst := by rw [List.map_map]; rfl
    rw [e, h, List.map_map, List.map_map]
    rfl
  have hfd : ∀ f ∈ rs.map LRow.f, DW D 1 f ∧ 0 < rv f := fun f hff => by
    rw [hf] at hff
    obtain ⟨r, hr, rfl⟩ := List.mem_map.mp hff
    exact ⟨G.dw r hr, G.pos r hr⟩
  have hrd : ∀ r ∈ rs, DW D 1 r.f := fun r hr => (hfd r.f (List.mem_map.mpr ⟨r, hr, rfl⟩)).1
  refine ⟨⟨hA, ?_, ⟨fun f hff => ?_, fun i => ?_⟩, fun i y hy => ?_, by omega⟩, ?_⟩
  · rw [hd]
    exact hk _
  · have g := (hfd f hff).1
    exact ⟨(g.B (by decide) G.D1 G.D2).mono (by decide), g.1.ne⟩
  · have g := fsum_dw (l := (rs.map LRow.f).take i) (DW.zero D) fun x hx => (hfd x (List.mem_of_mem_take hx)).1
    exact ⟨(g.B (by rw [List.length_take, List.length_map]; omega) G.D1 G.D2).mono (by decide), g.1.ne⟩
  · have g := fold_dw (D := D) (l := ((srtd rs).map LRow.dat).take i) (acc := []) (n := 0) (by simp) (fun x hx => by
      obtain ⟨r, hr, rfl⟩ := List.mem_map.mp (List.mem_of_mem_take hx)
      exact hrd r (mem_srtd.mp hr)) y hy
    have hsl : (srtd rs).length = rs.length := (List.mergeSort_perm rs _).length_eq
    exact ⟨(g.B (by rw [List.length_take, List.length_map, hsl]; omega) G.D1 G.D2).mono (by decide), g.1.ne⟩
  · unfold chOkB
    have hall : ((rs.map LRow.f).all fun f => !fless f (0, 1)) = true := List.all_eq_true.mpr fun f hff => by
      have g := hfd f hff
      rw [fless_iff g.1.1.1 (by decide), rv_zero, decide_eq_false (by have := g.2; grind)]
      rfl
    rw [hall, Bool.true_and, decide_eq_true_eq]
    have hs := rv_fsum (fs := rs.map LRow.f) low_zero fun f hff => (hfd f hff).1.1.ne
    refine low_eq hs.2 ⟨by decide, by decide⟩ ?_
    rw [hs.1, rv_zero, hf, List.map_map]
    have e : ys.map (rv ∘ fun y => y.2) = ys.map fun y => rv y.2 := rfl
    rw [e, G.one, rv_int]
    show (0 : Rat) + 1 = ((1 : Int) : Rat)
    rw [show ((1 : Int) : Rat) = 1 from rfl]
    grind
/-- the law's leaves are such rows -/
def lfX (m : Lf) : List RF × Fr := (m.2.map rf, m.1)
theorem lvs_xs {tau : Nat → Fr} {size L d : Nat} {Q : List Pa} (h : Nd tau size d Q) (hD : NdD tau size L d Q) (d3 : d ≤ 3) (L1 : 1 ≤ L) (L2 : L ≤ 2 ^ 270) : XsG (L ^ d) ((lvs tau size d Q (1, 1)).map lfX) := by
  have hr1 : rv (1, 1) = 1 := by rw [rv_int]; rfl
  have hc : ChG 1 (1, 1) := ⟨one_low, by rw [hr1]; decide, 1, by rw [hr1, show ((1 : Nat) : Rat) = 1 by rfl, show ((1 : Int) : Rat) = 1 by rfl]; grind⟩
  have hch := fun m hm => lvs_ch h hD hc m hm
  have hsum := lvs_sum h one_low
  rw [hr1] at hsum
  have hlen := lvs_len (c := (1, 1)) h
  have h6 : 6 ^ d ≤ 216 := by
    rcases (show d = 0 ∨ d = 1 ∨ d = 2 ∨ d = 3 by omega) with h | h | h | h <;> subst h <;> decide
  have hLd : L ^ d ≤ 2 ^ 810 := by
    have h1 := Nat.pow_le_pow_left L2 d
    rw [← Nat.pow_mul] at h1
    exact Nat.le_trans h1 (Nat.pow_le_pow_right (by decide) (by omega))
  refine ⟨fun x hx => ?_, fun x hx => ?_, ?_, by rw [List.length_map]; omega, Nat.one_le_pow _ _ L1, hLd⟩
  · obtain ⟨m, hm, rfl⟩ := List.mem_map.mp hx
    obtain ⟨c1, c2, z, hz⟩ := hch m hm
    rw [Nat.one_mul] at hz
    refine ⟨c1, z, hz, ?_⟩
    have hle : rv m.1 ≤ 1 := by
      rw [← hsum]
      refine le_sum (fun y hy => ?_) (List.mem_map.mpr ⟨m, hm, rfl⟩)
      obtain ⟨m', hm', rfl⟩ := List.mem_map.mp hy
      have := (hch m' hm').pos
      grind
    generalize L ^ d = N at hz ⊢
    have hN : (0 : Rat) ≤ (N : Rat) := natR_nonneg N
    have a1 := Rat.mul_nonneg (show 0 ≤ rv m.1 by grind) hN
    have a2 := Rat.mul_le_mul_of_nonneg_right hle hN
    rw [hz] at a1 a2
    have b1 : 0 ≤ z := by exact_mod_cast a1
    have b2 : z ≤ (N : Int) := by
      have : (z : Rat) ≤ ((N : Int) : Rat) := by
        have e : ((N : Int) : Rat) = (N : Rat) := by exact_mod_cast rfl
        rw [e]; grind
      exact_mod_cast this
    omega
  · obtain ⟨m, hm, rfl⟩ := List.mem_map.mp hx
    exact (hch m hm).pos
  · rw [List.map_map]
    exact hsum
end bnd27

/-! ### names kept twice -/
/-- the first of two equal neighbours -/
def twice : List Str → Option Str
  | a :: b :: r => if b = a then some b else twice (b :: r)
  | _ => none
theorem twice_at : ∀ {l : List Str} {j : Nat} {a b : Str}, l[j]? = some a → l[j + 1]? = some b → b = a → (∀ i c d, i < j → l[i]? = some c → l[i + 1]? = some d → d ≠ c) → twice l = some b
  | [], _, _, _, h, _, _, _ => by simp at h
  | [x], j, a, b, _, h, _, _ => by simp at h
  | x :: y :: r, 0, a, b, h1, h2, h3, _ => by
    simp at h1 h2
    subst h1 h2 h3
    unfold twice
    rw [if_pos rfl]
  | x :: y :: r, j + 1, a, b, h1, h2, h3, h4 => by
    have ih := twice_at (l := y :: r) (j := j) (a := a) (b := b) (by simpa using h1) (by simpa using h2) h3 fun i c d hi hc hd => h4 (i + 1) c d (by omega) (by simpa using hc) (by simpa using hd)
    unfold twice
    rw [if_neg (h4 0 x y (by omega) rfl rfl), ih]
theorem twice_none : ∀ {l : List Str}, (∀ i c d, l[i]? = some c → l[i + 1]? = some d → d ≠ c) → twice l = none
  | [], _ => rfl
  | [x], _ => rfl
  | x :: y :: r, h => by
    have ih := twice_none (l := y :: r) fun i c d hc hd => h (i + 1) c d (by simpa using hc) (by simpa using hd)
    unfold twice
    rw [if_neg (h 0 x y rfl rfl), ih]
def strP (l : List Str) : List (V × PyData) := l.map fun s => (V.str s, PyData.str s)
def unV : V → Str
  | .str s => s
  | _ => Str.empty
def sortS (l : List Str) : List Str := ((strP l).mergeSort (PySem.W.dataLe false Prod.snd)).map fun p => unV p.1
theorem sortS_eq (l : List Str) : ((strP l).mergeSort (PySem.W.dataLe false Prod.snd)).map Prod.fst = (sortS l).map V.str := by
  unfold sortS
  rw [List.map_map]
  refine List.map_congr_left fun p hp => ?_
  obtain ⟨s, _, rfl⟩ := List.mem_map.mp (List.mem_mergeSort.mp hp)
  rfl
theorem sortS_len (l : List Str) : (sortS l).length = l.length := by
  unfold sortS strP
  rw [List.length_map, List.length_mergeSort, List.length_map]
def optV : Option Str → V
  | some s => .str s
  | none => .non
def spTwice (K : PySem.W.Frag) : Sp := fun vs H Q _ => ∃ (a : Addr) (ks : List Str), vs = [.ref a] ∧ SqL K H a (ks.map V.str) ∧ ks.length ≤ 1000 ∧ (∀ s ∈ ks, PyData.strOk s = true) ∧ ∀ H', Kp [] H H' → Q (optV (twice (sortS ks))) H'
theorem ok_least_twice {P : Program} {w : World} {K : PySem.W.Frag} {mg : Str → Option Value} {base : Heap} (T : T P K mg base) : FnOk P w K mg base CX0 1 T.a_least_twice T.fd_least_twice ["names"] (spTwice K) := by
  refine T.F_least_twice.ok sc_least_twice (fun vs H Q E h => ?_) (fun cdv A outer s H vs Q E hr h => ?_)
  · obtain ⟨a, ks, rfl, _⟩ := h
    rfl
  · obtain ⟨a, ks, rfl, hS, hn, hok, q⟩ := h
    refine ⟨_, (pss_cons (ps_set (i := 1) sc_least_twice.nd rfl (by first | exact Or.inl rfl | exact Or.inr rfl) (pe_callB ((RL.cr_sortedD hr.units) : CallR _ _ (RL.rSortedD K)) (by rfl) T.z_sorted (by decide +kernel) (pa_cons (pv 0) pa_nil)))
      (pss_cons (ps_for PassesOwn.never rfl (pi_range2 (by rfl) T.z_range (pa_cons pe_int (pa_cons (pe_callB c_len (by rfl) T.z_len (by decide +kernel) (pa_cons (pv 1) pa_nil)) pa_nil))) (pg_name (i := 2) sc_least_twice.nd rfl (by first | exact Or.inl rfl | exact Or.inr rfl)) (pss_one (ps_if (pt_cmpR op_eq (pe_ix ix_list (pv 1) (pv 2) (fun _ _ => rfl)) (pe_ix ix_list (pv 1) (pe_op op_sub (pv 2) pe_int) (fun _ _ => rfl)) (nomark _)) (pss_one (ps_ret (pe_ix ix_list (pv 1) (pv 2) (fun _ _ => rfl)))) pss_nil)))
      (pss_one (ps_ret pe_non)))), ?_⟩
    walk_at "z0"
    walk_at "z"
    refine ⟨a, strP ks, rfl, by unfold strP; rw [List.map_map]; exact hS, ?_, ?_, ?_, ?_, fun p np => ?_⟩
    · intro b hb
      obtain ⟨s, hs, rfl⟩ := List.mem_map.mp hb
      exact .str s
    · intro d hd d' hd'
      obtain ⟨b, hb, rfl⟩ := List.mem_map.mp hd
      obtain ⟨s, hs, rfl⟩ := List.mem_map.mp hb
      obtain ⟨b', hb', rfl⟩ := List.mem_map.mp hd'
      obtain ⟨s', hs', rfl⟩ := List.mem_map.mp hb'
      rfl
    · refine .inr fun d hd => ?_
      obtain ⟨b, hb, rfl⟩ := List.mem_map.mp hd
      obtain ⟨s, hs, rfl⟩ := List.mem_map.mp hb
      exact ⟨fun z => (by cases z), fun xs z => (by cases z)⟩
    · intro b hb
      obtain ⟨s, hs, rfl⟩ := List.mem_map.mp hb
      show (PyData.str s).depth ≤ 60
      simp [PyData.depth]
    · rw [sortS_eq]
      have k1 : Kp [] H (upd H p (.lst ((sortS ks).map V.str))) := Kp.new np
      have e1 : upd H p (.lst ((sortS ks).map V.str)) p = some (.lst ((sortS ks).map V.str)) := upd_same
      generalize upd H p (.lst ((sortS ks).map V.str)) = H1 at k1 e1 ⊢
      have hl := sortS_len ks
      walk_at "z"
      refine Z.lenL (lstL e1) ?_
      rw [List.length_map]
      walk_at "z"
      refine Z.forr2 ((sortS ks).length - 1) (by omega) (by omega) (fun i σ' H' => ∃ y, σ' = [some (.ref a), some (.ref p), y] ∧ H' = H1 ∧ ∀ j c d, j < i → (sortS ks)[j]? = some c → (sortS ks)[j + 1]? = some d → d ≠ c) ⟨none, rfl, rfl, fun j c d hj => absurd hj (by omega)⟩ ?_ ?_
      · rintro i σ' H' hi ⟨y, rfl, rfl, hno⟩
        obtain ⟨c, hc⟩ : ∃ c, (sortS ks)[i]? = some c := ⟨_, List.getElem?_eq_getElem (by omega)⟩
        obtain ⟨d, hd⟩ : ∃ d, (sortS ks)[i + 1]? = some d := ⟨_, List.getElem?_eq_getElem (by omega)⟩
        have a1 : atI ((sortS ks).map V.str) (1 + (i : Int)) = some (.str d) := by
          rw [show (1 + (i : Int)) = ((i + 1 : Nat) : Int) by omega]
          exact atI_nat (by rw [List.getElem?_map, hd]; rfl)
        have a0 : atI ((sortS ks).map V.str) (1 + (i : Int) - 1) = some (.str c) := by
          rw [show (1 + (i : Int) - 1) = (i : Int) by omega]
          exact atI_nat (by rw [List.getElem?_map, hc]; rfl)
        walk_at "z"
        refine Z.ixL (lstL e1) a1 ?_
        walk_at "z"
        refine Z.ixL (lstL e1) a0 ?_
        walk_at "z"
        refine Z.ite (fun h1 => ?_) (fun h1 => ?_)
        · walk_at "z"
          refine Z.ixL (lstL e1) a1 ?_
          have := q _ k1
          rw [twice_at hc hd h1 hno] at this
          exact this
        · walk_at "z"
          refine ⟨_, rfl, rfl, fun j c' d' hj hc' hd' => ?_⟩
          rcases Nat.lt_or_ge j i with z | z
          · exact hno j c' d' z hc' hd'
          · obtain rfl : j = i := by omega
            rw [hc] at hc'
            rw [hd] at hd'
            rw [← Option.some.inj hc', ← Option.some.inj hd']
            exact h1
      · rintro σ' H' ⟨y, rfl, rfl, hno⟩
        walk_at "z"
        have := q _ k1
        rw [twice_none (fun i c d hc hd => hno i c d (by have := (List.getElem?_eq_some_iff.mp hd).1; omega) hc hd)] at this
        exact this
open PyProof.Rows in
def leS (a b : Str) : Bool := !lexLt PyProof.Rows.itemOrd [.inr b.cps.toList] [.inr a.cps.toList]
theorem sortS_is (l : List Str) : sortS l = l.mergeSort leS := by
  have e := List.map_mergeSort (r := leS) (s := PySem.W.dataLe false Prod.snd) (f := fun s : Str => (V.str s, PyData.str s)) (l := l) (fun _ _ _ _ => rfl)
  unfold sortS strP
  rw [← e, List.map_map]
  exact List.map_id' _
theorem leS_ord : (∀ a b c, leS a b = true → leS b c = true → leS a c = true) ∧ (∀ a b, leS a b = true ∨ leS b a = true) := by
  have T := PySem.W.sortLe_total (PyProof.Rows.listOrd PyProof.Rows.itemOrd) false fun k : Str => PySem.W.keyToks (.str k)
  exact ⟨T.trans, T.total⟩
theorem leS_anti {a b : Str} (h1 : leS a b = true) (h2 : leS b a = true) : a = b := by
  unfold leS at h1 h2
  rw [Bool.not_eq_true'] at h1 h2
  have e := PyProof.Rows.lex_total (O := PyProof.Rows.itemOrd) _ _ h2 h1
  have e2 : a.cps.toList = b.cps.toList := Sum.inr.inj (List.cons.inj e).1
  have e3 : a.cps = b.cps := Array.toList_inj.mp e2
  obtain ⟨c⟩ := a
  obtain ⟨d⟩ := b
  cases e3
  rfl
theorem sortS_perm (l : List Str) : (sortS l).Perm l := by rw [sortS_is]; exact List.mergeSort_perm _ _
theorem sortS_pw (l : List Str) : (sortS l).Pairwise fun a b => leS a b = true := by
  rw [sortS_is]
  exact List.pairwise_mergeSort (le := leS) leS_ord.1 (fun a b => Bool.or_eq_true_iff.mpr (leS_ord.2 a b)) l
theorem twice_nodup {l : List Str} (h : l.Nodup) : twice (sortS l) = none := twice_none fun i c d hc hd e => by
  have nd := (sortS_perm l).nodup_iff.mpr h
  obtain ⟨h1, e1⟩ := List.getElem?_eq_some_iff.mp hc
  obtain ⟨h2, e2⟩ := List.getElem?_eq_some_iff.mp hd
  have := (List.getElem_inj nd).mp (e2.trans (e.trans e1.symm))
  omega
theorem made_new {H H7 H8 : Hp} {C z dz kk : Addr} (k7 : Kp [] H H7) (nz : H7 z = none) (ndz : H7 dz = none) (hdz : dz ≠ z) (nkk : (upd (upd H7 dz (.own z)) z (.ins C dz [])) kk = none) (k8 : Kp [z] (upd (upd H7 dz (.own z)) z (.ins C dz [])) H8) : H z = none ∧ H kk = none ∧ Kp [] H7 H8 := by
  have kz : Kp [] H7 (upd (upd H7 dz (.own z)) z (.ins C dz [])) := Kp.made nz ndz
  refine ⟨k7.none nin0 nz, k7.none nin0 ?_, fun b o _ e => k8 b o (by
    intro q
    rw [List.mem_singleton.mp q, nz] at e
    cases e) (kz b o (by simp) e)⟩
  rw [upd_ne (fun e => by rw [e, upd_same] at nkk; cases nkk), upd_ne (fun e => by rw [e, upd_same] at nkk; cases nkk)] at nkk
  exact nkk

def keysOf (rs : List (List (Addr × Row))) : List Str := rs.flatMap fun ps => ps.map fun x => x.2.k
def spKeys (K : PySem.W.Frag) (C : Addr) : Sp := fun vs H Q _ => ∃ (l x a k y b m : Addr) (size size2 : Int) (ps qs : List Pt), vs = [.ref l] ∧ SqL K H l [.ref x, .ref y] ∧ OptAt C H x a k size ps ∧ OptAt C H y b m size2 qs ∧ RowsAt H (psx ps) ∧ RowsAt H (psx qs) ∧ (∀ z ∈ psx ps, RowS z.2) ∧ (∀ z ∈ psx qs, RowS z.2) ∧ ps.length ≤ 100 ∧ qs.length ≤ 100 ∧
  twice (sortS (keysOf [psx ps, psx qs])) = none ∧ ∀ H', Kp [] H H' → Q .non H'
theorem ok_check_keys {P : Program} {w : World} {K : PySem.W.Frag} {mg : Str → Option Value} {base : Heap} (T : T P K mg base) : FnOk P w K mg base CX0 2 T.a_check_keys T.fd_check_keys ["samples"] (spKeys K T.C_Optimal) := by
  refine T.F_check_keys.ok sc_check_keys (fun vs H Q E h => ?_) (fun cdv A outer s H vs Q E hr h => ?_)
  · obtain ⟨_, _, _, _, _, _, _, _, _, _, _, rfl, _⟩ := h
    rfl
  · obtain ⟨l, x, ax, k, y, ay, m, size, size2, ps0, qs0, rfl, hS, hU0, hV0, hps, hqs, hpS, hqS, hpn0, hqn0, ht, q⟩ := h
    obtain ⟨ps, hpe⟩ : ∃ ps, psx ps0 = ps := ⟨_, rfl⟩
    obtain ⟨qs, hqe⟩ : ∃ qs, psx qs0 = qs := ⟨_, rfl⟩
    have hU : (∃ dx, H x = some (.ins T.C_Optimal dx (of size ax k))) ∧ H k = some (.lst (refs ps)) := ⟨hU0.ins, by rw [← hpe]; exact hU0.kept⟩
    have hV : (∃ dx, H y = some (.ins T.C_Optimal dx (of size2 ay m))) ∧ H m = some (.lst (refs qs)) := ⟨hV0.ins, by rw [← hqe]; exact hV0.kept⟩
    have hpn : ps.length ≤ 100 := by rw [← hpe]; unfold psx; rw [List.length_map]; exact hpn0
    have hqn : qs.length ≤ 100 := by rw [← hqe]; unfold psx; rw [List.length_map]; exact hqn0
    rw [hpe] at hps hpS ht
    rw [hqe] at hqs hqS ht
    clear hpe hqe hU0 hV0 hpn0 hqn0
    refine ⟨_, (pss_cons (ps_set (i := 1) sc_check_keys.nd rfl (by first | exact Or.inl rfl | exact Or.inr rfl) (pe_call (ok_least_twice T) (hr.mono (by decide)) (by rfl) T.g_least_twice T.F_least_twice.kp T.b_least_twice .nil pass0 (pa_cons (pe_lc2 (own := [("sample", 2), ("item", 3)]) (vs1 := [3]) (g := gName 2) (g1 := gName 3) rfl sc_check_keys.nd (pi_list (pv 0)) (blkOk_by (own := [("sample", 2), ("item", 3)]) (N := N_check_keys) (sc := defScope s_check_keys) (by decide +kernel)) (by decide) (fun _ _ _ _ _ => (pg_name (i := 2) sc_check_keys.nd rfl (by first | exact Or.inl rfl | exact Or.inr rfl))) (fun _ _ _ _ _ => pts_nil) (fun _ _ _ _ _ => ((pi_list ((pe_fld (pv 2) rfl) : PE _ _ (tFld K _ _))) : L2.PI _ _ _ (iList K _))) (fun _ _ _ _ _ => (pg_name (i := 3) sc_check_keys.nd rfl (by first | exact Or.inl rfl | exact Or.inr rfl))) (fun _ _ _ _ _ => pts_nil) (fun _ _ _ _ _ => (pe_ix (ix_tup : IxR _ (rIxT K)) (pv 3) pe_int (fun _ _ => rfl)))) pa_nil)))
      (pss_one (ps_if (pt_cmpR o_notN (pv 1) pe_non (nomark _)) (pss_one Z.ps_dead) pss_nil))), ?_⟩
    walk_at "z0"
    walk_at "z"
    refine Z.lc2 ?_
    walk_at "z"
    refine Z.lc2l [.ref x, .ref y] hS (fun D i H' => H D = none ∧ Kp [] H H' ∧ H' D = some (.lst ((keysOf ([ps, qs].take i)).map V.str))) ?_ ?_ ?_ ?_
    · intro D H1 nD k1 e1
      exact ⟨nD, k1, e1⟩
    · rintro D i H1 nD hi ⟨_, k1, e1⟩
      exact k1.seq nin0 hS
    · rintro D i v H1 nD hv ⟨_, k1, e1⟩
      obtain ⟨x0, a0, k0, size0, rs, rfl, hU0, hr0, hn0, hget⟩ : ∃ (x0 a0 k0 : Addr) (size0 : Int) (rs : List (Addr × Row)), v = .ref x0 ∧ ((∃ dx, H x0 = some (.ins T.C_Optimal dx (of size0 a0 k0))) ∧ H k0 = some (.lst (refs rs))) ∧ RowsAt H rs ∧ rs.length ≤ 100 ∧ [ps, qs][i]? = some rs := by
        match i, hv with
        | 0, hv => exact ⟨x, ax, k, size, ps, (Option.some.inj hv).symm, hU, hps, hpn, rfl⟩
        | 1, hv => exact ⟨y, ay, m, size2, qs, (Option.some.inj hv).symm, hV, hqs, hqn, rfl⟩
        | i + 2, hv => simp at hv
      have hlen : (keysOf ([ps, qs].take i)).length ≤ 100 := by
        match i, hv with
        | 0, _ => simp [keysOf]
        | 1, _ => simp [keysOf]; omega
        | i + 2, hv => simp at hv
      obtain ⟨⟨dx, hx⟩, hk⟩ := hU0
      dsimp only [wipe, List.set]
      walk_at "z"
      refine ⟨rfl, ?_⟩
      walk_at "z"
      refine ⟨x0, _, dx, _, _, rfl, k1.get nin0 hx, T.cl_Optimal, T.na_Optimal_kept, of_kept size0 a0 k0, ?_⟩
      refine Z.in2l (refs rs) (lstL (k1.get nin0 hk)) (fun j H' => Kp [] H H' ∧ H' D = some (.lst ((keysOf ([ps, qs].take i) ++ (rs.take j).map fun z => z.2.k).map V.str))) ?_ ?_ ?_ ?_
      · exact ⟨k1, by rw [List.take_zero, List.map_nil, List.append_nil]; exact e1⟩
      · rintro j H2 hj ⟨k2, e2⟩
        exact lstL (k2.get nin0 hk)
      · rintro j v H2 hv2 ⟨k2, e2⟩
        obtain ⟨z, hz, rfl⟩ := refs_of hv2
        have hj : j < rs.length := (List.getElem?_eq_some_iff.mp hz).1
        dsimp only [wipe, List.set]
        walk_at "z"
        refine ⟨rfl, ?_⟩
        walk_at "z"
        refine RowAt.k0 ((hr0.kp0 k2) z (List.mem_of_getElem? hz)) ?_
        refine ⟨_, e2, Z.szl (m := 1000) (by rw [List.length_map, List.length_append, List.length_map, List.length_take]; omega), k2.mut nD rfl, ?_⟩
        rw [upd_same, List.take_add_one, hz]
        simp
      · rintro H2 ⟨k2, e2⟩
        rw [refs_len, List.take_length] at e2
        refine ⟨nD, k2, ?_⟩
        rw [e2, List.take_add_one, hget]
        unfold keysOf
        rw [List.flatMap_append]
        simp
    · rintro D H1 nD ⟨_, k1, e1⟩
      have hlen : (keysOf [ps, qs]).length ≤ 200 := by simp [keysOf]; omega
      have hkz : ∀ s ∈ keysOf [ps, qs], PyData.strOk s = true ∧ s.cps.size ≤ 20 := fun s hs => by
        obtain ⟨rs, hrs, hs2⟩ := List.mem_flatMap.mp hs
        obtain ⟨z, hz, rfl⟩ := List.mem_map.mp hs2
        rcases List.mem_cons.mp hrs with h | h
        · rw [h] at hz; exact ⟨(hpS z hz).k, (hpS z hz).kz⟩
        · rw [List.mem_singleton.mp h] at hz; exact ⟨(hqS z hz).k, (hqS z hz).kz⟩
      have hsz : ∀ s ∈ keysOf [ps, qs], s.cps.size ≤ 20 := fun s hs => (hkz s hs).2
      walk_at "z"
      refine ⟨D, keysOf [ps, qs], rfl, lstL e1, by omega, fun s hs => (hkz s hs).1, fun H2 k2 => ?_⟩
      walk_at "z"
      rw [ht]
      walk_at "z"
      refine Z.noN rfl ?_
      walk_at "z"
      exact q H2 (k1.trans k2)

/-! ### chances by a threshold -/
def chF (w t : Fr) : Fr := if fless w t = true then fover w t else (1, 1)
def spChance (K : PySem.W.Frag) : Sp := fun vs H Q _ => ∃ (a b : Addr) (f g : Fr), vs = [.ref a, .ref b] ∧ FrAt K H a f ∧ FrAt K H b g ∧ 1 ≤ f.2 ∧ 0 < f.1 ∧ 1 ≤ g.2 ∧ FrB 3900 f ∧ FrB 3900 g ∧ ∀ H' c, Kp [] H H' → FrAt K H' c (chF f g) → Q (.ref c) H'
theorem fless_pos {f g : Fr} (h1 : 1 ≤ f.2) (hp : 0 < f.1) (h2 : 1 ≤ g.2) (h : fless f g = true) : 0 < g.1 := by
  unfold fless at h
  rw [decide_eq_true_eq] at h
  refine Decidable.byContradiction fun z => ?_
  have h3 : g.1 * f.2 ≤ 0 := Int.mul_nonpos_of_nonpos_of_nonneg (by omega) (by omega)
  have h4 : 0 < f.1 * g.2 := Int.mul_pos hp (by omega)
  omega
theorem ok_chance_at {P : Program} {w : World} {K : PySem.W.Frag} {mg : Str → Option Value} {base : Heap} (T : T P K mg base) : FnOk P w K mg base CX0 5 T.a_chance_at T.fd_chance_at ["weight", "bar"] (spChance K) := by
  refine T.F_chance_at.ok sc_chance_at (fun vs H Q E h => ?_) (fun cdv A outer s H vs Q E hr h => ?_)
  · obtain ⟨a, b, f, g, rfl, _⟩ := h
    rfl
  · obtain ⟨a, b, f, g, rfl, ha, hb, hf, hp, hg, Bf, Bg, q⟩ := h
    refine ⟨_, (pss_cons (ps_if (pt_val (pe_call (ok_less T) (hr.mono (by decide)) (by rfl) T.g_less T.F_less.kp T.b_less .nil pass0 (pa_cons (pv 0) (pa_cons (pv 1) pa_nil)))) (pss_one (ps_ret (pe_call (ok_over T) (hr.mono (by decide)) (by rfl) T.g_over T.F_over.kp T.b_over .nil passL (pa_cons (pv 0) (pa_cons (pv 1) pa_nil))))) pss_nil)
      (pss_one (ps_ret (pe_glob (v := .ref T.k_ONE) (by rfl) T.g_ONE rfl)))), ?_⟩
    unfold chF at q
    walk_at "z0"
    walk_at "z"
    refine ⟨a, b, f, g, rfl, ha, hb, Bf, Bg, ?_⟩
    cases hl : fless f g with
    | true =>
      rw [hl, if_pos rfl] at q
      have h0 := fless_pos hf hp hg hl
      walk_at "z"
      exact ⟨a, b, f, g, rfl, ha, hb, by omega, Bf, Bg, fun z => absurd z (by omega), fun _ H' c nc k e => q H' c k e⟩
    | false =>
      rw [hl, if_neg Bool.false_ne_true] at q
      walk_at "z"
      exact q H T.k_ONE (Kp.refl _) (T.q_ONE H)
/-! chances as rational numbers -/
theorem chF_low {f g : Fr} (hf : 1 ≤ f.2) (hp : 0 < f.1) (hg : 1 ≤ g.2) : Low (chF f g) := by
  unfold chF
  split
  · rename_i h
    have h0 := fless_pos hf hp hg h
    have h1 := Int.mul_pos (show 0 < f.2 by omega) h0
    exact lo_low (by omega)
  · exact ⟨by decide, by decide⟩
theorem chF_B {n m : Nat} {f g : Fr} (hf : 1 ≤ f.2) (hp : 0 < f.1) (hg : 1 ≤ g.2) (Bf : FrB n f) (Bg : FrB m g) (h : 1 ≤ n + m) : FrB (n + m) (chF f g) := by
  unfold chF
  split
  · rename_i hl
    have h0 := fless_pos hf hp hg hl
    have h1 := Int.mul_pos (show 0 < f.2 by omega) h0
    exact lo_B (by omega) (mul_B Bf.1 Bg.2) (mul_B Bf.2 Bg.1)
  · have : (1 : Nat) < 2 ^ (n + m) := Nat.one_lt_two_pow (by omega)
    exact ⟨this, this⟩
theorem rv_one : rv (1, 1) = 1 := by unfold rv; grind
theorem rv_chF {f g : Fr} (hf : 1 ≤ f.2) (hp : 0 < f.1) (hg : 1 ≤ g.2) : rv (chF f g) = if rv f < rv g then rv f / rv g else 1 := by
  unfold chF
  rw [fless_iff hf hg]
  by_cases h : rv f < rv g
  · rw [if_pos (by simp [h]), if_pos h]
    have h0 := fless_pos hf hp hg (by rw [fless_iff hf hg]; simp [h])
    have h1 := Int.mul_pos (show 0 < f.2 by omega) h0
    unfold fover
    rw [rv_lo (by omega)]
    have e1 : ((f.1 * g.2 : Int) : Rat) = (f.1 : Rat) * (g.2 : Rat) := by exact_mod_cast rfl
    have e2 : ((f.2 * g.1 : Int) : Rat) = (f.2 : Rat) * (g.1 : Rat) := by exact_mod_cast rfl
    rw [e1, e2]
    unfold rv
    have a1 := ratNe (q := f.2) (by omega)
    have a2 := ratNe (q := g.2) (by omega)
    have a3 := ratNe (q := g.1) (by omega)
    grind
  · rw [if_neg (by simp [h]), if_neg h]
    exact rv_one
theorem chF_sum {g : Fr} (hg : 1 ≤ g.2) (ht : 0 < rv g) : ∀ {fs : List Fr}, (∀ f ∈ fs, 1 ≤ f.2 ∧ 0 < f.1) → ((fs.map fun f => chF f g).map rv).sum * rv g = cap (rv g) (fs.map rv)
  | [], _ => by show (0 : Rat) * rv g = 0; grind
  | f :: r, h => by
    have h1 := h f (by simp)
    have ih := chF_sum hg ht (fs := r) fun z hz => h z (by simp [hz])
    rw [List.map_cons, List.map_cons, List.map_cons, List.sum_cons, Rat.add_mul, ih, rv_chF h1.1 h1.2 hg]
    show _ = (if rv f < rv g then rv f else rv g) + cap (rv g) (r.map rv)
    split <;> grind
theorem neFs {K : PySem.W.Frag} {H : Hp} {Q : VK} {a b : Addr} {as bs : List Addr} {fs : List Fr} (h1 : H a = some (.lst (as.map V.ref))) (h2 : H b = some (.lst (bs.map V.ref))) (h : FrsAt K H as fs) (h' : FrsAt K H bs fs) (q : Q (.bl false) H) : rNeD K (.ref a) (.ref b) H Q :=
  ⟨_, _, .lst (lstL h1) (dpFs h), .lst (lstL h2) (dpFs h'), shFs _, shFs _, by rw [SeqAt.eqv_refl (.list (fs.map frD)) (by simp [PyData.canLay0, layFs])]; exact q⟩

section merge27
variable {K : PySem.W.Frag}
open LamK
theorem chF_les {f g : Fr} (hf : 1 ≤ f.2) (hg : 1 ≤ g.2) : chF f g = lesF f g := by
  unfold chF lesF
  rw [fless_iff hf hg]
  by_cases h : rv f < rv g
  · rw [if_pos (by simp [h]), if_pos h]
    rfl
  · rw [if_neg (by simp [h]), if_neg h]
theorem PtAt.kpM {M : List Addr} {H H' : Hp} {p : Pt} (h : PtAt K H p) (k : Kp M H H') (n : ∀ y ∈ M, NoTup H y) : PtAt K H' p :=
  ⟨k.get (fun z => n _ z _ (.inl h.at_)) h.at_, k.get (fun z => n _ z _ (.inl h.row)) h.row, h.fr.kp k n⟩
theorem PtsAt.kpM {M : List Addr} {H H' : Hp} {ps : List Pt} (h : PtsAt K H ps) (k : Kp M H H') (n : ∀ y ∈ M, NoTup H y) : PtsAt K H' ps := fun p hp => (h p hp).kpM k n
def spRaiseP (K : PySem.W.Frag) : Sp := fun vs H Q _ => ∃ (p : Pt) (b : Addr) (g : Fr), vs = [.ref p.t, .ref b] ∧ PtAt K H p ∧ FrAt K H b g ∧ 1 ≤ p.f.2 ∧ FrB 40 p.f ∧ 1 ≤ g.2 ∧ FrB 40 g ∧ ∀ H' q, Kp [] H H' → PtAt K H' q → q.pa = raP g p.pa → Q (.ref q.t) H'
theorem ok_raised {P : Program} {w : World} {K : PySem.W.Frag} {mg : Str → Option Value} {base : Heap} (T : T P K mg base) : FnOk P w K mg base CX0 2 T.a_raised T.fd_raised ["pair", "bar"] (spRaiseP K) := by
  refine T.F_raised.ok sc_raised (fun vs H Q E h => ?_) (fun cdv A outer s H vs Q E hr h => ?_)
  · obtain ⟨p, b, g, rfl, _⟩ := h
    rfl
  · obtain ⟨p, b, g, rfl, hp, hb, f1, fB, g1, gB, q⟩ := h
    refine ⟨_, (pss_cons (ps_asg (pv 0) (pg_tup rfl (pgs_cons (pg_name (i := 2) sc_raised.nd rfl (by first | exact Or.inl rfl | exact Or.inr rfl)) (pgs_cons (pg_name (i := 3) sc_raised.nd rfl (by first | exact Or.inl rfl | exact Or.inr rfl)) pgs_nil))))
      (pss_cons (ps_if (pt_val (pe_call (ok_less T) (hr.mono (by decide)) (by rfl) T.g_less T.F_less.kp T.b_less .nil pass0 (pa_cons (pv 3) (pa_cons (pv 1) pa_nil)))) (pss_one (ps_ret (pe_tup (pa_cons (pv 2) (pa_cons (pv 1) pa_nil))))) pss_nil)
      (pss_one (ps_ret (pv 0))))), ?_⟩
    walk_at "z0"
    walk_at "z"
    refine Z.gtup (tupT hp.at_) rfl ?_
    walk_at "z"
    refine ⟨p.a, b, p.f, g, rfl, hp.fr, hb, fB.mono (by decide), gB.mono (by decide), ?_⟩
    rw [fless_iff f1 g1]
    by_cases h : rv p.f < rv g
    · rw [decide_eq_true h]
      walk_at "z"
      refine Z.tupK (fun t H1 nt k1 e1 => ?_)
      refine q H1 ⟨t, p.x, b, g⟩ k1 ⟨e1, hp.row.kp0 k1, hb.kp0 k1⟩ ?_
      unfold raP
      rw [if_pos (show rv p.pa.2 < rv g from h)]
      rfl
    · rw [decide_eq_false h]
      walk_at "z"
      refine q H p (Kp.refl _) hp ?_
      unfold raP
      rw [if_neg (show ¬ rv p.pa.2 < rv g from h)]
def spDropOne (K : PySem.W.Frag) (C : Addr) : Sp := fun vs H Q _ => ∃ (l e p w : Addr) (qs : List Pt) (tau : Nat → Fr) (size d : Nat) (ps : List PI) (rs : List LRow) (m : Nat) (fin : Bool), vs = [.ref l, .ref e] ∧ l ≠ p ∧ H l = some (.lst (prefs qs)) ∧ PtsAt K H qs ∧ Nd tau size (d + 1) (qs.map Pt.pa) ∧ 1 ≤ size ∧ Ex K C H e p w ps rs m true fin ∧ ps.length ≤ 100 ∧ m ≤ ps.length ∧ FrB 1000 (chD (ps.map PI.dat)) ∧ (chD (ps.map PI.dat)).2 ≠ 0 ∧
  (∀ x, ps[m]? = some x → x.k < qs.length) ∧
  ∀ (H' : Hp) (l' : Addr) (qs' : List Pt) (ps' : List PI) (x : PI), Kp [e, p] H H' → Ex K C H' e p w ps' rs (m + 1) true fin → ps'[m]? = some x → ((m < ps.length ∧ ps' = ps) ∨ (m = ps.length ∧ ps' = ps ++ [x] ∧ x.ws = wsF tau size d (qs.map Pt.pa) ∧ nextN (wsF tau size d (qs.map Pt.pa)) 0 = some x.k ∧ x.f = chD (ps.map PI.dat))) → l' ≠ p → H' l' = some (.lst (prefs qs')) → PtsAt K H' qs' → qs'.map Pt.pa = nxF tau size d (qs.map Pt.pa) x.k → Q (.ref l') H'
def spThrX2 (K : PySem.W.Frag) : Sp := spThrX K
theorem ok_one_dropped {P : Program} {w : World} {K : PySem.W.Frag} {mg : Str → Option Value} {base : Heap} (T : T P K mg base) : FnOk P w K mg base CX0 7 T.a_one_dropped T.fd_one_dropped ["pairs", "dice"] (spDropOne K T.C_Explorer) := by
  have ok_common_denominator := fun T => ok_common_any (P := P) (w := w) (K := K) (mg := mg) (base := base) T 100 6 (by decide) (by decide)
  have ok_scaled := fun T => ok_scaled_any (P := P) (w := w) (K := K) (mg := mg) (base := base) T 700 (by decide) (by decide)
  refine T.F_one_dropped.ok sc_one_dropped (fun vs H Q E h => ?_) (fun cdv A outer s H vs Q E hr h => ?_)
  · obtain ⟨l, e, p, w, qs, tau, size, d, ps, rs, m, fin, rfl, _⟩ := h
    rfl
  · obtain ⟨l, e, p, w, qs, tau, size, d, ps, rs, m, fin, rfl, hlp, hl, hqs, hN, s1, hX, hpl, hm, hcB, hc0, hk, q⟩ := h
    have G := hN.gn
    have W := hN.ws
    obtain ⟨hlen, h6, hO, ⟨gL, g0, gB, gT⟩, _⟩ := id hN
    rw [List.length_map] at hlen h6
    have hOq : ∀ x ∈ qs, OkF x.f ∧ RowS x.x.2 := fun x hx => hO x.pa (List.mem_map.mpr ⟨x, hx, rfl⟩)
    have hGq : ∀ x ∈ qs, Low (gnF (tau (size + d)) x.f) ∧ FrB 100 (gnF (tau (size + d)) x.f) := fun x hx => by
      have := G.each x.pa (List.mem_map.mpr ⟨x, hx, rfl⟩)
      exact ⟨this.1, this.2.1⟩
    refine ⟨_, (pss_cons (ps_set (i := 2) sc_one_dropped.nd rfl (by first | exact Or.inl rfl | exact Or.inr rfl) (pe_call (ok_threshold T) (hr.mono (by decide)) (by rfl) T.g_threshold T.F_threshold.kp T.b_threshold .nil pass0 (pa_cons (pe_lc (own := [("item", 5), ("adjusted", 6)]) (g := gTup K 2 (gCons (gName 5) (gCons (gName 6) gNil))) rfl sc_one_dropped.nd (pi_list (pv 0)) (blkOk_by (own := [("item", 5), ("adjusted", 6)]) (N := N_one_dropped) (sc := defScope s_one_dropped) (by decide +kernel)) (fun _ _ _ _ _ => (pg_tup rfl (pgs_cons (pg_name (i := 5) sc_one_dropped.nd rfl (by first | exact Or.inl rfl | exact Or.inr rfl)) (pgs_cons (pg_name (i := 6) sc_one_dropped.nd rfl (by first | exact Or.inl rfl | exact Or.inr rfl)) pgs_nil)))) (fun _ _ _ _ _ => pts_nil) (fun _ _ _ _ _ => (pv 6))) (pa_cons (pe_op op_sub (pe_callB c_len (by rfl) T.z_len (by decide +kernel) (pa_cons (pv 0) pa_nil)) pe_int) pa_nil))))
      (pss_cons (ps_setLc (i := 3) (own := [("item", 5), ("adjusted", 6)]) (g := gTup K 2 (gCons (gName 5) (gCons (gName 6) gNil))) rfl sc_one_dropped.nd rfl rfl (sw_true rfl rfl rfl (by decide +kernel)) (pi_list (pv 0)) (blkOk_by (own := [("item", 5), ("adjusted", 6)]) (N := N_one_dropped) (sc := defScope s_one_dropped) (by decide +kernel)) (fun _ _ _ _ _ => (pg_tup rfl (pgs_cons (pg_name (i := 5) sc_one_dropped.nd rfl (by first | exact Or.inl rfl | exact Or.inr rfl)) (pgs_cons (pg_name (i := 6) sc_one_dropped.nd rfl (by first | exact Or.inl rfl | exact Or.inr rfl)) pgs_nil)))) (fun _ _ _ _ _ => pts_nil) (fun _ _ _ _ _ => (pe_call (ok_minus T) (hr.mono (by decide)) (by rfl) T.g_minus T.F_minus.kp T.b_minus .nil pass0 (pa_cons (pe_glob (v := .ref T.k_ONE) (by rfl) T.g_ONE rfl) (pa_cons (pe_call (ok_chance_at T) (hr.mono (by decide)) (by rfl) T.g_chance_at T.F_chance_at.kp T.b_chance_at .nil pass0 (pa_cons (pv 6) (pa_cons (pv 2) pa_nil))) pa_nil)))))
      (pss_cons (ps_set (i := 4) sc_one_dropped.nd rfl (by first | exact Or.inl rfl | exact Or.inr rfl) (pe_meth (pv 1) T.cl_Explorer T.me_Explorer_pick (ok_Explorer_pick T) (hr.mono (by decide)) T.b_Explorer_pick .nil pass0 (pa_cons (pe_call (ok_scaled T) (hr.mono (by decide)) (by rfl) T.g_scaled T.F_scaled.kp T.b_scaled .nil pass0 (pa_cons (pv 3) (pa_cons (pe_call (ok_common_denominator T) (hr.mono (by decide)) (by rfl) T.g_common_denominator T.F_common_denominator.kp T.b_common_denominator .nil pass0 (pa_cons (pv 3) pa_nil)) pa_nil))) pa_nil)))
      (pss_one (ps_ret (pe_lc (own := [("pair", 7)]) (g := gName 7) rfl sc_one_dropped.nd (pi_list (pe_op op_cat (pe_slice sl_list (pv 0) po_none (po_some (pv 4))) (pe_slice sl_list (pv 0) (po_some (pe_op op_add (pv 4) pe_int)) po_none))) (blkOk_by (own := [("pair", 7)]) (N := N_one_dropped) (sc := defScope s_one_dropped) (by decide +kernel)) (fun _ _ _ _ _ => (pg_name (i := 7) sc_one_dropped.nd rfl (by first | exact Or.inl rfl | exact Or.inr rfl))) (fun _ _ _ _ _ => pts_nil) (fun _ _ _ _ _ => (pe_call (ok_raised T) (hr.mono (by decide)) (by rfl) T.g_raised T.F_raised.kp T.b_raised .nil pass0 (pa_cons (pv 7) (pa_cons (pv 2) pa_nil)))))))))), ?_⟩
    walk_at "z0"
    walk_at "z"
    refine Z.lcl (prefs qs) (lstL hl) (fun D i H' => Kp [] H H' ∧ H' D = some (.lst (((qs.take i).map fun x => x.a).map V.ref))) ?_ ?_ ?_ ?_
    · intro D H1 nD k1 e1
      exact ⟨k1, e1⟩
    · rintro D i H1 nD hi ⟨k1, e1⟩
      exact lstL (k1.get nin0 hl)
    · rintro D i v H1 nD hv ⟨k1, e1⟩
      obtain ⟨x, hx, rfl⟩ := prefs_of hv
      have hxa := (hqs.kp0 k1) x (List.mem_of_getElem? hx)
      dsimp only [wipe, List.set]
      refine Z.gtup (tupT hxa.at_) rfl ?_
      walk_at "z"
      refine ⟨rfl, ?_⟩
      walk_at "z"
      refine ⟨_, e1, Z.szl (m := 1000) (by rw [List.length_map, List.length_map, List.length_take]; omega), k1.mut nD rfl, ?_⟩
      rw [upd_same, List.take_add_one, hx, List.map_append, List.map_append]; rfl
    rintro D H1 nD ⟨k1, e1⟩
    rw [prefs_len, List.take_length] at e1
    have hfrs : ∀ {H : Hp} {xs : List Pt}, PtsAt K H xs → FrsAt K H (xs.map fun x => x.a) (xs.map fun x => x.f) := fun {H xs} h => by
      induction xs with
      | nil => exact .nil
      | cons x r ih => exact .cons (h x (by simp)).fr (ih fun y hy => h y (by simp [hy]))
    walk_at "z"
    refine Z.lenL (lstL (k1.get nin0 hl)) ?_
    rw [prefs_len, hlen]
    walk_at "z"
    have esz : ((size + d + 1 : Nat) : Int) - 1 = ((size + d : Nat) : Int) := by omega
    rw [esz]
    refine ⟨(40, 6), ⟨by decide, by decide, by decide⟩, D, qs.map (fun x => x.a), qs.map (fun x => x.f), size + d, rfl, lstL e1, hfrs (hqs.kp0 k1), fun f hf => ?_, by rw [List.length_map]; exact h6, by omega, fun H2 b g k2 eb gL' gB' gT' => ?_⟩
    · obtain ⟨x, hx, rfl⟩ := List.mem_map.mp hf
      have := (hOq x hx).1
      exact ⟨this.low.1, this.pos, this.B⟩
    have hgg : g = tau (size + d) := by
      refine low_eq gL' gL ?_
      have e9 : (qs.map Pt.pa).map (fun p => rv p.2) = (qs.map fun x => x.f).map rv := by
        rw [List.map_map, List.map_map]
        rfl
      rw [e9] at gT
      refine thr_uniq (ws := (qs.map fun x => x.f).map rv) (k := size + d) (fun z hz => ?_) gT' gT
      rw [List.map_map] at hz
      obtain ⟨x, hx, rfl⟩ := List.mem_map.mp hz
      exact (rv_pos (hOq x hx).1.low.1).mp (hOq x hx).1.pos
    rw [hgg] at eb
    clear hgg gL' gB' gT'
    have k12 := k1.trans k2
    walk_at "z"
    refine Z.lcl (prefs qs) (lstL (k12.get nin0 hl)) (fun D i H' => ∃ as : List Addr, Kp [] H2 H' ∧ H' D = some (.lst (as.map V.ref)) ∧ FrsAt K H' as ((qs.take i).map fun x => gnF (tau (size + d)) x.f)) ?_ ?_ ?_ ?_
    · intro E H3 nE k3 e3
      exact ⟨[], k3, e3, .nil⟩
    · rintro E i H3 nE hi ⟨as, k3, e3, f3⟩
      exact lstL (k3.get nin0 (k12.get nin0 hl))
    · rintro E i v H3 nE hv ⟨as, k3, e3, f3⟩
      obtain ⟨x, hx, rfl⟩ := prefs_of hv
      have hxm := List.mem_of_getElem? hx
      have hil := (List.getElem?_eq_some_iff.mp hx).1
      have hxa := ((hqs.kp0 k12).kp0 k3) x hxm
      have hxo := (hOq x hxm).1
      have hles := lesF_ok hxo ⟨gL, g0, gB⟩
      dsimp only [wipe, List.set]
      refine Z.gtup (tupT hxa.at_) rfl ?_
      walk_at "z"
      refine ⟨rfl, ?_⟩
      walk_at "z"
      refine ⟨x.a, b, x.f, tau (size + d), rfl, hxa.fr, eb.kp0 k3, hxo.low.1, hxo.pos, gL.1, hxo.B.mono (by decide), gB.mono (by decide), fun H4 c k4 e4 => ?_⟩
      rw [chF_les hxo.low.1 gL.1] at e4
      walk_at "z"
      refine ⟨T.k_ONE, c, (1, 1), lesF x.f (tau (size + d)), rfl, T.q_ONE _, e4, by decide, hles.1.ne, ⟨by decide, by decide⟩, hles.2.1.mono (by decide), fun H5 c2 nc2 k5 e5 => ?_⟩
      have k35 := k3.trans (k4.trans k5)
      have e35 := (k4.trans k5).get nin0 e3
      have hal := f3.len
      rw [List.length_map, List.length_take] at hal
      refine ⟨_, e35, Z.szl (m := 1000) (by rw [List.length_map]; omega), as ++ [c2], k35.mut nE rfl, by rw [upd_same, List.map_append]; rfl, ?_⟩
      rw [List.take_add_one, hx, List.map_append]
      have kE : Kp [E] H5 (upd H5 E (.lst (as.map V.ref ++ [V.ref c2]))) := Kp.put (by simp)
      have ntE : ∀ y ∈ [E], NoTup H5 y := fun y hy => by
        rw [List.mem_singleton.mp hy]
        exact NoTup.lst e35
      exact ((f3.kp0 (k4.trans k5)).kp kE ntE).snoc (FrAt.kp (show FrAt K H5 c2 (gnF (tau (size + d)) x.f) from e5) kE ntE)
    rintro E H3 nE ⟨as, k3, e3, f3⟩
    rw [prefs_len, List.take_length] at f3
    have hgl : (qs.map fun x => gnF (tau (size + d)) x.f) = gnL tau size d (qs.map Pt.pa) := by
      unfold gnL
      rw [List.map_map]
      rfl
    rw [hgl] at f3
    have hgB : ∀ f ∈ gnL tau size d (qs.map Pt.pa), Low f ∧ FrB 100 f := fun f hf => by
      rw [← hgl] at hf
      obtain ⟨x, hx, rfl⟩ := List.mem_map.mp hf
      exact hGq x hx
    have hgll : (gnL tau size d (qs.map Pt.pa)).length = qs.length := by rw [← hgl, List.length_map]
    have hden : ∀ f ∈ gnL tau size d (qs.map Pt.pa), 1 ≤ f.2.natAbs ∧ f.2.natAbs < 2 ^ 100 := fun f hf => by
      have h1 := (hgB f hf).1.1
      exact ⟨by omega, (hgB f hf).2.2⟩
    have hcm := (comm_lt hden).2
    have k13 := k12.trans k3
    obtain ⟨dx3, he3⟩ := (hX.kp0 k13).ob
    walk_at "z"
    refine ⟨e, dx3, _, rfl, he3, rfl, ?_⟩
    walk_at "z"
    refine ⟨E, as, gnL tau size d (qs.map Pt.pa), rfl, lstL e3, f3, hden, by omega, ?_⟩
    walk_at "z"
    refine ⟨E, as, gnL tau size d (qs.map Pt.pa), _, rfl, lstL e3, f3, fun f hf => ⟨(hgB f hf).1.1, (hgB f hf).2.mono (by decide)⟩, by omega, ?_, fun H4 sc nsc k4 e4 => ?_⟩
    · rw [Int.natAbs_natCast]
      exact Nat.lt_of_le_of_lt hcm (Nat.pow_lt_pow_right (by decide) (by omega))
    have k14 := k13.trans k4
    have hX4 := hX.kp0 k14
    walk_at "z"
    refine ⟨e, p, w, sc, wsF tau size d (qs.map Pt.pa), ps, rs, m, true, fin, rfl, W.ok, hX4, e4, hpl, hm, hcB, hc0, fun H5 ps' x k5 hX5 hx hor => ?_⟩
    have nt4 : ∀ y ∈ [e, p], NoTup H4 y := fun y hy => hX4.nt y (by
      rcases List.mem_cons.mp hy with rfl | hy
      · simp
      · rw [List.mem_singleton.mp hy]; simp)
    have hel : l ∉ [e, p] := fun z => by
      rcases List.mem_cons.mp z with rfl | z
      · obtain ⟨dx, he⟩ := hX.ob
        rw [he] at hl
        cases hl
      · exact hlp (List.mem_singleton.mp z)
    have hl5 := k5.get hel (k14.get nin0 hl)
    have hq5 := (hqs.kp0 k14).kpM k5 nt4
    have eb5 := FrAt.kp (eb.kp0 (k3.trans k4)) k5 nt4
    have hxk : x.k < qs.length := by
      rcases hor with ⟨hlt, rfl⟩ | ⟨_, _, hxw, _⟩
      · exact hk x hx
      · have hxi := (hX5.items x (List.mem_of_getElem? hx)).lt
        rw [hxw] at hxi
        have h9 := W.len
        rw [List.length_map] at h9
        rw [h9] at hxi
        exact hxi
    walk_at "z"
    refine Z.slL (lstL hl5) (fun s1' H6 ns1 k6 e6 => ?_)
    rw [Z.cut_take (by rw [prefs_len]; omega)] at e6
    walk_at "z"
    have ej : (x.k : Int) + 1 = ((x.k + 1 : Nat) : Int) := by omega
    rw [ej]
    refine Z.slL (lstL (k6.get nin0 hl5)) (fun s2' H7 ns2 k7 e7 => ?_)
    rw [Z.cut_drop (by rw [prefs_len]; omega)] at e7
    walk_at "z"
    refine Z.cat (k7.get nin0 e6) e7 (by rw [List.length_take, List.length_drop, prefs_len]; omega) (fun ca H8 nca k8 e8 => ?_)
    have e8' : H8 ca = some (.lst (prefs (qs.take x.k ++ qs.drop (x.k + 1)))) := by
      rw [e8]
      unfold prefs
      rw [List.map_append, List.map_take, List.map_drop]
    have k58 := (k6.trans k7).trans k8
    have hsub : ∀ y ∈ qs.take x.k ++ qs.drop (x.k + 1), y ∈ qs := fun y hy => by
      rcases List.mem_append.mp hy with h | h
      · exact List.mem_of_mem_take h
      · exact List.mem_of_mem_drop h
    have hcl : (qs.take x.k ++ qs.drop (x.k + 1)).length ≤ 6 := by rw [List.length_append, List.length_take, List.length_drop]; omega
    have hq8 : PtsAt K H8 (qs.take x.k ++ qs.drop (x.k + 1)) := fun y hy => (hq5.kp0 k58) y (hsub y hy)
    have hpa : (qs.take x.k ++ qs.drop (x.k + 1)).map Pt.pa = (qs.map Pt.pa).take x.k ++ (qs.map Pt.pa).drop (x.k + 1) := by
      rw [List.map_append, List.map_take, List.map_drop]
    have eb8 := eb5.kp0 k58
    have hX8 := hX5.kp0 k58
    generalize hcs : qs.take x.k ++ qs.drop (x.k + 1) = cs at *
    walk_at "z"
    refine Z.lcl (prefs cs) (lstL e8') (fun D i H' => ∃ zs : List Pt, Kp [] H8 H' ∧ H' D = some (.lst (prefs zs)) ∧ PtsAt K H' zs ∧ zs.map Pt.pa = ((cs.take i).map Pt.pa).map (raP (tau (size + d)))) ?_ ?_ ?_ ?_
    · intro D2 H9 nD2 k9 e9
      exact ⟨[], k9, e9, (fun p hp => by cases hp), rfl⟩
    · rintro D2 i H9 nD2 hi ⟨zs, k9, e9, P9, h9⟩
      exact lstL (k9.get nin0 e8')
    · rintro D2 i v H9 nD2 hv ⟨zs, k9, e9, P9, h9⟩
      obtain ⟨y, hy, rfl⟩ := prefs_of hv
      have hym := List.mem_of_getElem? hy
      have hil := (List.getElem?_eq_some_iff.mp hy).1
      have hyo := (hOq y (hsub y (hcs ▸ hym))).1
      dsimp only [wipe, List.set]
      walk_at "z"
      refine ⟨rfl, ?_⟩
      walk_at "z"
      refine ⟨y, b, tau (size + d), rfl, (hq8.kp0 k9) y hym, eb8.kp0 k9, hyo.low.1, hyo.B, gL.1, gB, fun H10 z k10 hz hzp => ?_⟩
      have e10 := k10.get nin0 e9
      have hzl : zs.length = i := by
        have := congrArg List.length h9
        simp only [List.length_map, List.length_take] at this
        omega
      refine ⟨_, e10, Z.szl (m := 1000) (by rw [prefs_len]; omega), zs ++ [z], (k9.trans k10).mut nD2 rfl, by rw [upd_same]; unfold prefs; rw [List.map_append]; rfl, ?_, ?_⟩
      · exact fun u hu => (mem_append_one (P9.kp0 k10) hz u hu).kpx (Kp.put (by simp)) e10 fun xs => ⟨by simp, by simp⟩
      · rw [List.map_append, h9, List.take_add_one, hy, List.map_append, List.map_append]
        show _ ++ [z.pa] = _ ++ [raP (tau (size + d)) y.pa]
        rw [hzp]
    rintro D2 H9 nD2 ⟨zs, k9, e9, P9, h9⟩
    rw [prefs_len, List.take_length] at h9
    refine q H9 D2 zs ps' x ((k14.sub (by simp)).trans (k5.trans ((k58.trans k9).sub (by simp)))) (hX8.kp0 k9) hx ?_ (ne_of_none hX8.path nD2).symm e9 P9 ?_
    · rcases hor with h | ⟨h1, h2, h3, h4, h5, _⟩
      · exact .inl h
      · exact .inr ⟨h1, h2, h3, h4, h5⟩
    · rw [h9, hpa]
      rfl
end merge27

section merge27b
variable {K : PySem.W.Frag}
open LamK
theorem runsM_pre {tau : Nat → Fr} {size : Nat} : ∀ {d : Nat} {Q : List Pa} {c : Fr} {m : Nat}, Nd tau size d Q → Low c → FrB m c → ∀ r ∈ runsM (MD tau size) d Q c, ∀ pre suf, r.1 = pre ++ suf → Low (chO c pre) ∧ FrB (m + 100 * d) (chO c pre) := by
  intro d
  induction d with
  | zero =>
    intro Q c m h hc hB r hr pre suf e
    rw [List.mem_singleton.mp hr] at e
    have : pre = [] := (List.append_eq_nil_iff.mp e.symm).1
    subst this
    exact ⟨hc, hB.mono (by omega)⟩
  | succ d ih =>
    intro Q c m h hc hB r hr pre suf e
    obtain ⟨R, k⟩ := r
    obtain ⟨i, R', hi, hw, rfl, hr'⟩ := runsM_cons hr
    have W := h.ws
    have hil : i < Q.length := by rw [← W.len]; exact hi
    have hp : Q[i]? = some Q[i] := List.getElem?_eq_getElem hil
    have hn := (W.pos i _ hp).mp hw
    obtain ⟨g1, g2, _⟩ := h.gn.each _ (List.mem_of_getElem? hp)
    have hst : stepF ((MD tau size).ws d Q) i c = ftimes c (gnF (tau (size + d)) Q[i].2) := W.step i _ c hp
    cases pre with
    | nil => exact ⟨hc, hB.mono (by omega)⟩
    | cons x pre =>
      obtain ⟨rfl, e2⟩ := List.cons.inj e
      rw [chO_cons]
      rw [hst] at hr' ⊢
      have := ih (h.next hp hn) (lo_low (Int.mul_ne_zero hc.ne g1.ne)) (ftimes_B hB g2 hc.ne g1.ne) _ hr' pre suf e2
      exact ⟨this.1, this.2.mono (by omega)⟩
theorem prefs_app (ps qs : List Pt) : prefs (ps ++ qs) = prefs ps ++ prefs qs := by unfold prefs; rw [List.map_append]
theorem psx_at {H : Hp} {ps : List Pt} (h : PtsAt K H ps) : RowsAt H (psx ps) := fun y hy => by
  obtain ⟨x, hx, rfl⟩ := List.mem_map.mp hy
  exact (h x hx).row
theorem isO {P : Program} {K : PySem.W.Frag} {mg : Str → Option Value} {base : Heap} (T : T P K mg base) {H : Hp} {Q : VK} {x a k : Addr} {size : Int} {ps : List Pt} (h : OptAt T.C_Optimal H x a k size ps) (q : Q (.bl true) H) : rIsi K [.ref x, .ref T.C_Optimal] H Q :=
  ⟨_, _, _, _, true, rfl, .own _, tyO T h, T.kit_Optimal_Optimal, q⟩
theorem of_size (size : Int) (a k : Addr) : (of size a k).lookup ("size" : Str) = some (.int size) := rfl
def spMerge (K : PySem.W.Frag) (C CE : Addr) : Sp := fun vs H Q _ => ∃ (x a k y b j e p w : Addr) (size d : Nat) (As Bs : List Pt) (tau : Nat → Fr) (ps : List PI) (rs : List LRow) (fin : Bool) (R : List Dt) (kf : List Pa), vs = [.ref x, .ref y, .ref e] ∧ OptAt C H x a k size As ∧ OptAt C H y b j size Bs ∧ PtsAt K H As ∧ PtsAt K H Bs ∧ (∀ z ∈ psx As, RowS z.2) ∧ (∀ z ∈ psx Bs, RowS z.2) ∧ (As ++ Bs).length ≤ 6 ∧ 1 ≤ size ∧ size ≤ 3 ∧ twice (sortS (keysOf [psx As, psx Bs])) = none ∧ d ≤ 3 ∧ Nd tau size d ((sortP (As ++ Bs)).map Pt.pa) ∧ Ex K CE H e p w ps rs 0 true fin ∧ ps.length ≤ 10 ∧
  fdM (MD tau size) d ((sortP (As ++ Bs)).map Pt.pa) (1, 1) (ps.map PI.dat) = (R, some kf) ∧ (R, kf) ∈ runsM (MD tau size) d ((sortP (As ++ Bs)).map Pt.pa) (1, 1) ∧
  ∀ H' z a' k' fs ps' m', Kp [e, p] H H' → Ex K CE H' e p w ps' rs m' true fin → ps'.map PI.dat = R → H z = none → OptAt C H' z a' k' size fs → PtsAt K H' fs → fs.map Pt.pa = kf → Q (.ref z) H'
theorem ok_Optimal_merge {P : Program} {w : World} {K : PySem.W.Frag} {mg : Str → Option Value} {base : Heap} (T : T P K mg base) : FnOk P w K mg base CX0 8 T.a_Optimal_merge T.fd_Optimal_merge ["self", "other", "dice"] (spMerge K T.C_Optimal T.C_Explorer) := by
  refine T.F_Optimal_merge.ok sc_Optimal_merge (fun vs H Q E h => ?_) (fun cdv A outer s H vs Q E hr h => ?_)
  · obtain ⟨x, a, k, y, b, j, e, p, w, size, d, As, Bs, tau, ps, rs, fin, R, kf, rfl, _⟩ := h
    rfl
  · obtain ⟨x, a, k, y, b, j, e, p, w, size, d, As, Bs, tau, ps, rs, fin, R, kf, rfl, hA, hB, hAs, hBs, sA, sB, h6, s1, s3, htw, hd3, hN, hX, hpl, hfd, hR, q⟩ := h
    have hpre := fun pre suf (e : R = pre ++ suf) => runsM_pre (m := 1) hN (c := (1, 1)) ⟨by decide, by decide⟩ ⟨by decide, by decide⟩ _ hR pre suf e
    obtain ⟨dx, hx⟩ := hA.ins
    obtain ⟨dy, hy⟩ := hB.ins
    obtain ⟨dxe, he⟩ := hX.ob
    rw [List.length_append] at h6
    have nxe : x ≠ e := fun z => by
      rw [z, he] at hx
      have h1 := HO.ins.inj (Option.some.inj hx)
      have h2 := h1.2.2
      have h3 := congrArg (fun l : List (Str × V) => l.length) h2
      simp [ef, of] at h3
    have nxp : x ≠ p := fun z => by
      rw [z, hX.path] at hx
      cases hx
    refine ⟨_, (pss_cons (ps_if (PW.pt (pw_or (pt_not (pt_val (pe_callB call_isi (by rfl) T.z_isinstance (by decide +kernel) (pa_cons (pv 1) (pa_cons (pe_glob (v := .ref T.C_Optimal) (by rfl) T.mg_Optimal rfl) pa_nil))))) (pw_or1 (pt_cmpR op_ne (pe_fld (pv 1) rfl) (pe_fld (pv 0) rfl) (nomark _))))) (pss_one Z.ps_dead) pss_nil)
      (pss_cons (ps_expr (pe_call (ok_check_keys T) (hr.mono (by decide)) (by rfl) T.g_check_keys T.F_check_keys.kp T.b_check_keys .nil pass0 (pa_cons (pe_lst (pa_cons (pv 0) (pa_cons (pv 1) pa_nil))) pa_nil)))
      (pss_cons (ps_set (i := 3) sc_Optimal_merge.nd rfl (by first | exact Or.inl rfl | exact Or.inr rfl) (pe_callB ((RL.cr_sortedD hr.units) : CallR _ _ (RL.rSortedD K)) (by rfl) T.z_sorted (by decide +kernel) (pa_cons (pe_op op_cat (pe_fld (pv 0) rfl) (pe_fld (pv 1) rfl)) pa_nil)))
      (pss_cons (ps_while PassesOwn.never (pt_cmpR op_gt (pe_callB c_len (by rfl) T.z_len (by decide +kernel) (pa_cons (pv 3) pa_nil)) (pe_fld (pv 0) rfl) (nomark _)) (pss_one (ps_set (i := 3) sc_Optimal_merge.nd rfl (by first | exact Or.inl rfl | exact Or.inr rfl) (pe_call (ok_one_dropped T) (hr.mono (by decide)) (by rfl) T.g_one_dropped T.F_one_dropped.kp T.b_one_dropped .nil pass0 (pa_cons (pv 3) (pa_cons (pv 2) pa_nil))))))
      (pss_one (ps_ret (pe_make T.mk_Optimal (ok_Optimal_init T) (hr.mono (by decide)) (by rfl) T.mg_Optimal T.b_Optimal_init .nil pass0 (pa_cons (pe_fld (pv 0) rfl) (pa_cons (pv 3) pa_nil))))))))), ?_⟩
    walk_at "z0"
    walk_at "z"
    refine isO T hB ?_
    walk_at "z"
    refine ⟨y, _, dy, _, _, rfl, hy, T.cl_Optimal, T.na_Optimal_size, of_size size b j, ?_⟩
    walk_at "z"
    refine ⟨x, _, dx, _, _, rfl, hx, T.cl_Optimal, T.na_Optimal_size, of_size size a k, ?_⟩
    walk_at "z"
    refine Z.noN rfl ?_
    walk_at "z"
    refine Z.lstK (fun l H1 nl k1 e1 => ?_)
    walk_at "z"
    refine ⟨l, x, a, k, y, b, j, size, size, As, Bs, rfl, lstL e1, hA.kp0 k1, hB.kp0 k1, psx_at (hAs.kp0 k1), psx_at (hBs.kp0 k1), sA, sB, by omega, by omega, htw, fun H2 k2 => ?_⟩
    have k12 := k1.trans k2
    walk_at "z"
    refine ⟨x, _, dx, _, _, rfl, k12.get nin0 hx, T.cl_Optimal, T.na_Optimal_parts, of_parts size a k, ?_⟩
    walk_at "z"
    refine ⟨y, _, dy, _, _, rfl, k12.get nin0 hy, T.cl_Optimal, T.na_Optimal_parts, of_parts size b j, ?_⟩
    refine Z.cat (xs := prefs As) (zs := prefs Bs) (k12.get nin0 hA.parts) (k12.get nin0 hB.parts) (by rw [prefs_len, prefs_len]; omega) (fun c H3 nc k3 e3 => ?_)
    rw [← prefs_app] at e3
    have k13 := k12.trans k3
    have hAB : PtsAt K H3 (As ++ Bs) := fun z hz => by
      rcases List.mem_append.mp hz with h | h
      · exact (hAs.kp0 k13) z h
      · exact (hBs.kp0 k13) z h
    walk_at "z"
    refine sortedPts (ps := As ++ Bs) (lstL e3) hAB (fun S H4 nS k4 e4 => ?_)
    have k14 := k13.trans k4
    have hS4 : PtsAt K H4 (sortP (As ++ Bs)) := (hAB.kp0 k4).perm (sortP_perm _)
    have hX4 := hX.kp0 k14
    walk_at "z"
    refine Z.wh (fun mm σ' H' => ∃ (S : Addr) (cs : List Pt) (i : Nat) (ps' : List PI) (Ri : List Dt), σ' = [some (.ref x), some (.ref y), some (.ref e), some (.ref S)] ∧ Kp [e, p] H H' ∧ S ≠ p ∧ H' S = some (.lst (prefs cs)) ∧ PtsAt K H' cs ∧ Nd tau size mm (cs.map Pt.pa) ∧ mm + i = d ∧ Ex K T.C_Explorer H' e p w ps' rs i true fin ∧ i ≤ ps'.length ∧ ps'.length ≤ 10 + i ∧ R = (ps'.take i).map PI.dat ++ Ri ∧ fdM (MD tau size) mm (cs.map Pt.pa) (chD ((ps'.take i).map PI.dat)) ((ps'.drop i).map PI.dat) = (Ri, some kf) ∧ (Ri, kf) ∈ runsM (MD tau size) mm (cs.map Pt.pa) (chD ((ps'.take i).map PI.dat))) d
      ⟨S, sortP (As ++ Bs), 0, ps, R, rfl, k14.sub (by simp), (ne_of_none (k13.get nin0 hX.path) nS).symm, e4, hS4, hN, by omega, hX4, Nat.zero_le _, by omega, rfl, hfd, hR⟩ ?_
    clear hX4 hS4 e4 nS
    rintro mm σ' H5 ⟨S, cs, i, ps', Ri, rfl, k5, nSp, eS, hcs, hN5, hdi, hX5, hip, hpl5, hRe, hf5, hR5⟩
    have hx5 := k5.get (show x ∉ [e, p] by simp [nxe, nxp]) hx
    walk_at "z"
    refine Z.lenL (lstL eS) ?_
    rw [prefs_len]
    walk_at "z"
    refine ⟨x, _, dx, _, _, rfl, hx5, T.cl_Optimal, T.na_Optimal_size, of_size size a k, ?_⟩
    walk_at "z"
    cases mm with
    | zero =>
      have hle := hN5.1
      rw [List.length_map] at hle
      have hq : ps'.drop i = [] := by
        cases hq : ps'.drop i with
        | nil => rfl
        | cons z r =>
          rw [hq, List.map_cons] at hf5
          cases (Prod.mk.inj hf5).2
      rw [hq, List.map_nil] at hf5
      obtain ⟨h1, h2⟩ := Prod.mk.inj (show (([] : List Dt), some (cs.map Pt.pa)) = (Ri, some kf) from hf5)
      have htk : ps'.take i = ps' := List.take_of_length_le (by have := congrArg List.length hq; rw [List.length_drop, List.length_nil] at this; omega)
      rw [htk, ← h1, List.append_nil] at hRe
      refine Z.no (by omega) ?_
      walk_at "z"
      refine ⟨x, _, dx, _, _, rfl, hx5, T.cl_Optimal, T.na_Optimal_size, of_size size a k, ?_⟩
      walk_at "z"
      intro z dz nz ndz hdz
      have kz := Kp.made (M := []) (o := .ins T.C_Optimal dz []) (u := .own z) nz ndz
      refine ⟨z, S, dz, size, cs, rfl, upd_same, kz.get nin0 eS, hcs.kp0 kz, by omega, fun H8 a' k' na' nk' k8 hO8 => ⟨rfl, ?_⟩⟩
      obtain ⟨hz1, _, kzz⟩ := made_new (Kp.refl _) nz ndz hdz nk' k8
      have nze : H z = none := k5.none (fun zz => by
        rcases List.mem_cons.mp zz with rfl | zz
        · obtain ⟨dx5, o5⟩ := hX5.ob
          rw [o5] at nz
          cases nz
        · rw [List.mem_singleton.mp zz, hX5.path] at nz
          cases nz) nz
      exact q H8 z a' k' cs ps' i (k5.trans (kzz.sub (by simp))) (hX5.kp0 kzz) hRe.symm nze hO8 (hcs.kp0 kzz) (Option.some.inj h2)
    | succ r =>
      have hlen := hN5.1
      rw [List.length_map] at hlen
      refine Z.yes (by omega) ?_
      refine Z.whb ?_
      have W := hN5.ws
      obtain ⟨i0, R', hi0, hw0, rfl, hR'⟩ := runsM_cons hR5
      have hi0' : i0 < cs.length := by
        have h9 : ((MD tau size).ws r (cs.map Pt.pa)).length = (cs.map Pt.pa).length := W.len
        rw [h9, List.length_map] at hi0
        exact hi0
      obtain ⟨suf, hsuf⟩ := fdM_pre hf5
      have hall : R = ps'.map PI.dat ++ suf := by
        rw [hRe, hsuf, ← List.append_assoc, ← List.map_append, List.take_append_drop]
      obtain ⟨l1, l2⟩ := hpre _ _ hall
      rw [chO_one] at l1 l2
      walk_at "z"
      refine ⟨S, e, p, w, cs, tau, size, r, ps', rs, i, fin, rfl, nSp, eS, hcs, hN5, s1, hX5, by omega, hip, l2.mono (by omega), l1.ne, fun z hz => ?_, fun H6 S' cs' ps3 z k6 hX6 hz hor nS' eS' hcs' hpa' => ?_⟩
      · have hlt : i < ps'.length := (List.getElem?_eq_some_iff.mp hz).1
        have hdr : ps'.drop i = z :: ps'.drop (i + 1) := by
          have h1 : ps'.drop i = ps'[i] :: ps'.drop (i + 1) := List.drop_eq_getElem_cons hlt
          rw [List.getElem?_eq_getElem hlt] at hz
          rw [h1, Option.some.inj hz]
        rw [hdr, List.map_cons] at hf5
        have hf2 : (let y := fdM (MD tau size) r ((MD tau size).nx r (cs.map Pt.pa) z.dat.2.1) (stepF z.dat.1 z.dat.2.1 z.dat.2.2) ((ps'.drop (i + 1)).map PI.dat); (z.dat :: y.1, y.2)) = (((MD tau size).ws r (cs.map Pt.pa), i0, chD ((ps'.take i).map PI.dat)) :: R', some kf) := hf5
        obtain ⟨h3, _⟩ := Prod.mk.inj hf2
        obtain ⟨h5, _⟩ := List.cons.inj h3
        have h6' : z.k = i0 := (Prod.mk.inj (Prod.mk.inj h5).2).1
        omega
      have hkey : z.dat = ((MD tau size).ws r (cs.map Pt.pa), i0, chD ((ps'.take i).map PI.dat)) ∧ fdM (MD tau size) r ((MD tau size).nx r (cs.map Pt.pa) i0) (stepF ((MD tau size).ws r (cs.map Pt.pa)) i0 (chD ((ps'.take i).map PI.dat))) ((ps3.drop (i + 1)).map PI.dat) = (R', some kf) ∧ ps3.take (i + 1) = ps'.take i ++ [z] ∧ ps3.length ≤ 10 + (i + 1) ∧ i + 1 ≤ ps3.length := by
        rcases hor with ⟨hlt, rfl⟩ | ⟨hlt, rfl, hxw, hxk, hxf⟩
        · have hdr : ps3.drop i = z :: ps3.drop (i + 1) := by
            have h1 : ps3.drop i = ps3[i] :: ps3.drop (i + 1) := List.drop_eq_getElem_cons hlt
            rw [List.getElem?_eq_getElem hlt] at hz
            rw [h1, Option.some.inj hz]
          rw [hdr, List.map_cons] at hf5
          have hf2 : (let y := fdM (MD tau size) r ((MD tau size).nx r (cs.map Pt.pa) z.dat.2.1) (stepF z.dat.1 z.dat.2.1 z.dat.2.2) ((ps3.drop (i + 1)).map PI.dat); (z.dat :: y.1, y.2)) = (((MD tau size).ws r (cs.map Pt.pa), i0, chD ((ps3.take i).map PI.dat)) :: R', some kf) := hf5
          obtain ⟨h3, h4⟩ := Prod.mk.inj hf2
          obtain ⟨h5, h6⟩ := List.cons.inj h3
          rw [h5] at h6 h4
          refine ⟨h5, Prod.ext h6 h4, ?_, by omega, hlt⟩
          rw [List.take_add_one, hz]
          rfl
        · have hdr : ps'.drop i = [] := List.drop_eq_nil_of_le (by omega)
          have htk : ps'.take i = ps' := List.take_of_length_le (by omega)
          rw [hdr, List.map_nil, htk] at hf5
          rw [htk]
          have hf2 : (match nextN ((MD tau size).ws r (cs.map Pt.pa)) 0 with
            | some i => let y := fdM (MD tau size) r ((MD tau size).nx r (cs.map Pt.pa) i) (stepF ((MD tau size).ws r (cs.map Pt.pa)) i (chD (ps'.map PI.dat))) []; (((MD tau size).ws r (cs.map Pt.pa), i, chD (ps'.map PI.dat)) :: y.1, y.2)
            | none => ([], none)) = (((MD tau size).ws r (cs.map Pt.pa), i0, chD (ps'.map PI.dat)) :: R', some kf) := hf5
          rw [show nextN ((MD tau size).ws r (cs.map Pt.pa)) 0 = some z.k from hxk] at hf2
          obtain ⟨h3, h4⟩ := Prod.mk.inj hf2
          obtain ⟨h5, h6⟩ := List.cons.inj h3
          have h7 : z.k = i0 := (Prod.mk.inj (Prod.mk.inj h5).2).1
          have hdr3 : (ps' ++ [z]).drop (i + 1) = [] := List.drop_eq_nil_of_le (by rw [List.length_append]; show ps'.length + 1 ≤ i + 1; omega)
          refine ⟨?_, ?_, ?_, by rw [List.length_append]; show ps'.length + 1 ≤ _; omega, by rw [List.length_append]; show i + 1 ≤ ps'.length + 1; omega⟩
          · show (z.ws, z.k, z.f) = _
            rw [hxw, h7, hxf]
            rfl
          · rw [hdr3, List.map_nil, ← h7]
            exact Prod.ext h6 h4
          · rw [hlt, List.take_of_length_le (by rw [List.length_append]; exact Nat.le_refl _)]
      obtain ⟨hxd, hf3, htk3, hl3, hi3⟩ := hkey
      have hxk : z.k = i0 := (Prod.mk.inj (Prod.mk.inj hxd).2).1
      rw [hxk] at hpa'
      have hp0 : (cs.map Pt.pa)[i0]? = some ((cs.map Pt.pa)[i0]'(by rw [List.length_map]; exact hi0')) := List.getElem?_eq_getElem _
      have hNx := hN5.next hp0 ((W.pos i0 _ hp0).mp hw0)
      have hpa2 : cs'.map Pt.pa = (MD tau size).nx r (cs.map Pt.pa) i0 := hpa'
      walk_at "z"
      refine ⟨r, by omega, S', cs', i + 1, ps3, R', rfl, k5.trans k6, nS', eS', hcs', by rw [hpa']; exact hNx, by omega, hX6, hi3, hl3, ?_, ?_, ?_⟩
      · rw [htk3, List.map_append, List.append_assoc, hRe]
        show _ = _ ++ ([z.dat] ++ R')
        rw [hxd]
        rfl
      · rw [htk3, List.map_append]
        show fdM (MD tau size) r _ (chD (_ ++ [z.dat])) _ = _
        rw [hxd, chD_last, hpa2]
        exact hf3
      · rw [htk3, List.map_append]
        show _ ∈ runsM (MD tau size) r _ (chD (_ ++ [z.dat]))
        rw [hxd, chD_last, hpa2]
        exact hR'
def spView (K : PySem.W.Frag) (C : Addr) : Sp := fun vs H Q _ => ∃ (x a k : Addr) (size : Int) (ps : List Pt), vs = [.ref x] ∧ OptAt C H x a k size ps ∧ ps.length ≤ 1000 ∧ ∀ H' t u, Kp [] H H' → H' t = some (.tup [.int size, .ref u]) → H' u = some (.tup (prefs ps)) → Q (.ref t) H'
theorem ok_Optimal_view {P : Program} {w : World} {K : PySem.W.Frag} {mg : Str → Option Value} {base : Heap} (T : T P K mg base) : FnOk P w K mg base CX0 1 T.a_Optimal_view T.fd_Optimal_view ["self"] (spView K T.C_Optimal) := by
  refine T.F_Optimal_view.ok sc_Optimal_view (fun vs H Q E h => ?_) (fun cdv A outer s H vs Q E hr h => ?_)
  · obtain ⟨x, a, k, size, ps, rfl, _⟩ := h
    rfl
  · obtain ⟨x, a, k, size, ps, rfl, hO, hn, q⟩ := h
    obtain ⟨dx, hx⟩ := hO.ins
    refine ⟨_, (pss_one (ps_ret (pe_tup (pa_cons (pe_fld (pv 0) rfl) (pa_cons (pe_callTy c_tuple (by rfl) T.z_tuple (by decide +kernel) (pa_cons (pe_fld (pv 0) rfl) pa_nil)) pa_nil))))), ?_⟩
    walk_at "z0"
    walk_at "z"
    refine ⟨x, _, dx, _, _, rfl, hx, T.cl_Optimal, T.na_Optimal_size, of_size size a k, ?_⟩
    walk_at "z"
    refine ⟨x, _, dx, _, _, rfl, hx, T.cl_Optimal, T.na_Optimal_parts, of_parts size a k, ?_⟩
    walk_at "z"
    refine ⟨a, prefs ps, rfl, .inl ⟨lstL hO.parts, fun u nu => ?_⟩⟩
    have k1 : Kp [] H (upd H u (.tup (prefs ps))) := Kp.new nu
    have e1 : upd H u (.tup (prefs ps)) u = some (.tup (prefs ps)) := upd_same
    generalize upd H u (.tup (prefs ps)) = H1 at k1 e1 ⊢
    walk_at "z"
    refine Z.tupK (fun t H2 nt k2 e2 => ?_)
    exact q H2 t u (k1.trans k2) e2 (k2.get nin0 e1)
end merge27b

/-! steps -/
section steps
open ND
variable {w : World} {K : PySem.W.Frag} {td ty tx tv : TE} {σ : L2.St} {H : Hp} {Q : VK}
theorem NDS.dget {Q : VK} (h : td σ H fun x H1 => ty σ H1 fun y H2 => ∃ a kvs k v, x = .ref a ∧ DN w K H2 a kvs ∧ NkAt K H2 k y ∧ valV kvs k = some v ∧ Q v H2) : tDGetN w K td ty σ H Q := h
theorem NDS.din {Q : VK} (h : ty σ H fun y H1 => td σ H1 fun x H2 => ∃ a kvs k, x = .ref a ∧ DN w K H2 a kvs ∧ NkAt K H2 k y ∧ Q (.bl (valV kvs k).isSome) H2) : tDInN w K ty td σ H Q := h
theorem NDS.dnotin {Q : VK} (h : ty σ H fun y H1 => td σ H1 fun x H2 => ∃ a kvs k, x = .ref a ∧ DN w K H2 a kvs ∧ NkAt K H2 k y ∧ Q (.bl (!(valV kvs k).isSome)) H2) : tDNotInN w K ty td σ H Q := h
theorem NDS.dget2 {Q : VK} (h : td σ H fun x H1 => ∃ a, x = .ref a ∧ (∃ kvs, DN w K H1 a kvs) ∧ ty σ H1 fun y H2 => tx σ H2 fun z H3 => ∃ kvs k, DN w K H3 a kvs ∧ NkAt K H3 k y ∧ Q ((valV kvs k).getD z) H3) : tDGet2N w K td ty tx σ H Q := h
theorem NDS.dput {D : Ends} (h : tv σ H fun v H1 => td σ H1 fun x H2 => ty σ H2 fun y H3 => ∃ a, x = .ref a ∧ DPutN w K H3 a y v fun H4 => D.nx σ H4) : sDPutN w K td ty tv D σ H := h
end steps

local macro_rules | `(tactic| walk_at "z1") => `(tactic| first
  | with_reducible refine NDS.dget ?_
  | with_reducible refine NDS.din ?_
  | with_reducible refine NDS.dnotin ?_
  | with_reducible refine NDS.dget2 ?_
  | with_reducible refine NDS.dput ?_)

/-! ### _law_law -/
section ll27
variable {K : PySem.W.Frag}
open LamK ND
abbrev XF := List RF × Fr
/-- what the dict holds -/
def KvN (K : PySem.W.Frag) (H : Hp) (size : Nat) : List (NK × V) → List XF → Prop := Paired fun kv x => kv.1 = vwK size x.1 ∧ ∃ c, kv.2 = .ref c ∧ FrAt K H c x.2
theorem KvN.mono {size : Nat} {H H' : Hp} (f : ∀ c g, FrAt K H c g → FrAt K H' c g) {kvs : List (NK × V)} {acc : List XF} (h : KvN K H size kvs acc) : KvN K H' size kvs acc := by
  unfold KvN at h ⊢
  induction h with
  | nil => exact .nil
  | cons r t ih =>
    obtain ⟨e, c, e2, hc⟩ := r
    exact .cons ⟨e, c, e2, f _ _ hc⟩ ih
theorem KvN.val {size : Nat} {H : Hp} {k : List RF} : ∀ {kvs : List (NK × V)} {acc : List XF}, KvN K H size kvs acc → (valV kvs (vwK size k) = none ∧ gval acc k = none) ∨ ∃ c g, valV kvs (vwK size k) = some (.ref c) ∧ gval acc k = some g ∧ FrAt K H c g
  | [], [], .nil => .inl ⟨rfl, rfl⟩
  | kv :: kvs, x :: acc, .cons ⟨e, c, e2, hc⟩ t => by
    by_cases hk : x.1 = k
    · refine .inr ⟨c, x.2, ?_, ?_, hc⟩
      · rw [valV_pos (by rw [e, hk]), e2]
      · unfold gval
        rw [List.find?_cons_of_pos (by simpa using hk)]
        rfl
    · have ih := KvN.val (k := k) t
      rw [valV_neg (by rw [e]; exact fun z => hk (vwK_inj z))]
      have e3 : gval (x :: acc) k = gval acc k := by
        unfold gval
        rw [List.find?_cons_of_neg (by simpa using hk)]
      rw [e3]
      exact ih
theorem KvN.any {size : Nat} {H : Hp} {k : List RF} : ∀ {kvs : List (NK × V)} {acc : List XF}, KvN K H size kvs acc → (kvs.any fun kv => decide (kv.1 = vwK size k)) = (acc.any fun x => decide (x.1 = k))
  | [], [], .nil => rfl
  | kv :: kvs, x :: acc, .cons ⟨e, _⟩ t => by
    rw [List.any_cons, List.any_cons, KvN.any t, e]
    congr 1
    by_cases h : x.1 = k
    · rw [decide_eq_true h, decide_eq_true (by rw [h])]
    · rw [decide_eq_false h, decide_eq_false fun z => h (vwK_inj z)]
theorem KvN.len {size : Nat} {H : Hp} {kvs : List (NK × V)} {acc : List XF} (h : KvN K H size kvs acc) : kvs.length = acc.length := Paired.length h
theorem KvN.put {size : Nat} {H : Hp} {k : List RF} {d : Addr} {g : Fr} (hd : FrAt K H d g) {kvs : List (NK × V)} {acc : List XF} (h : KvN K H size kvs acc) : KvN K H size (putK kvs (vwK size k) (.ref d)) (gput acc k g) := by
  unfold putK gput
  rw [h.any (k := k)]
  split
  · rename_i ha
    clear ha
    unfold KvN at h ⊢
    induction h with
    | nil => exact .nil
    | cons r t ih =>
      rename_i kv x _ _
      obtain ⟨e, c, e2, hc⟩ := r
      rw [List.map_cons, List.map_cons]
      refine .cons ?_ ih
      by_cases hk : x.1 = k
      · rw [if_pos hk, if_pos (by rw [e, hk])]
        exact ⟨e, d, rfl, hd⟩
      · rw [if_neg hk, if_neg (by rw [e]; exact fun z => hk (vwK_inj z))]
        exact ⟨e, c, e2, hc⟩
  · rename_i ha
    clear ha
    unfold KvN at h ⊢
    induction h with
    | nil => exact .cons ⟨rfl, d, rfl, hd⟩ .nil
    | cons r t ih => exact .cons r ih
/-- keys and sums side by side -/
theorem keys_sideN {size : Nat} {H : Hp} : ∀ {kvs : List (NK × V)} {acc : List XF} {vs : List V}, KvN K H size kvs acc → ∀ {H' : Hp}, DpAll K H' vs ((kvs.map (·.1)).map NestedKey.data) → ∃ L : List (XF × V), L.map Prod.fst = acc ∧ L.map Prod.snd = vs ∧ ∀ x ∈ L, Dp K H' x.2 (vwD size x.1.1)
  | [], [], _, .nil, _, .nil => ⟨[], rfl, rfl, by simp⟩
  | kv :: kvs, x :: acc, _, .cons ⟨e, _⟩ t, H', h => by
    have h' : DpAll K H' _ (kv.1.data :: (kvs.map (·.1)).map NestedKey.data) := h
    cases h' with
    | cons h2 t2 =>
      obtain ⟨L, e1, e2, e3⟩ := keys_sideN (kvs := kvs) (acc := acc) t t2
      refine ⟨(x, _) :: L, by rw [List.map_cons, e1], by rw [List.map_cons, e2], fun y hy => ?_⟩
      rcases List.mem_cons.mp hy with rfl | hy
      · rw [e, vwK_data] at h2
        exact h2
      · exact e3 y hy
theorem nk_of {size : Nat} {H : Hp} {l : List RF} {v : V} (h : Dp K H v (vwD size l)) : NkAt K H (vwK size l) v := by
  refine ⟨by rw [vwK_data]; exact h, vwK_depth size l, ?_⟩
  unfold vwD at h
  cases h with
  | tup _ _ => exact ⟨_, rfl⟩
theorem gsum_dw {D : Nat} {xs : List XF} (G : XsG D xs) (i : Nat) : ∀ y ∈ gsum (xs.take i), 1 ≤ y.2.2 ∧ FrB 850 y.2 := fun y hy => by
  have g := gfold_dw (D := D) (l := xs.take i) (acc := []) (n := 0) (by simp) (fun x h => G.dw x (List.mem_of_mem_take h)) y hy
  have hl := G.len
  exact ⟨g.1.1, g.B (by rw [List.length_take]; omega) G.D1 G.D2⟩
noncomputable def lawN (size : Nat) (xs : List XF) : List XF := (gsum xs).mergeSort fun a b => leG (vwD size) a.1 b.1
def spLL (K : PySem.W.Frag) : Sp := fun vs H Q _ => ∃ (a : Addr) (size : Nat) (rs : List LRow) (xs : List XF) (D : Nat), vs = [.ref a] ∧ SqL K H a (rs.map LRow.r) ∧ (∀ r ∈ rs, LRowAt K H r) ∧ rs.map LRow.dat = xs.map (embG (vwD size)) ∧ XsG D xs ∧ (∀ x ∈ xs, ∀ y ∈ x.1, RowS y.1) ∧
  ∀ (H' : Hp) (d : Addr) (out : List LRow), H d = none → Kp [] H H' → H' d = some (.lst (out.map LRow.r)) → (∀ r ∈ out, LRowAt K H' r) → out.map LRow.dat = (lawN size xs).map (embG (vwD size)) → Q (.ref d) H'
theorem ok__law_law {P : Program} {w : World} {K : PySem.W.Frag} {mg : Str → Option Value} {base : Heap} (T : T P K mg base) : FnOk P w K mg base CX0 3 T.a__law_law T.fd__law_law ["rows"] (spLL K) := by
  refine T.F__law_law.ok sc__law_law (fun vs H Q E h => ?_) (fun cdv A outer s H vs Q E hr h => ?_)
  · obtain ⟨a, size, rs, xs, N, rfl, _⟩ := h
    rfl
  · obtain ⟨a, size, rs, xs, N, rfl, hS, hA, hd, hG, hRS, q⟩ := h
    have hrl : rs.length = xs.length := by
      have := congrArg List.length hd
      rwa [List.length_map, List.length_map] at this
    have hlen := hG.len
    refine ⟨_, (pss_cons (ps_set (i := 1) sc__law_law.nd rfl (by first | exact Or.inl rfl | exact Or.inr rfl) (ND.pe_dnewN : PE _ _ (ND.tDNewN w K)))
      (pss_cons (ps_for PassesOwn.never rfl (pi_list (pv 0)) (pg_tup rfl (pgs_cons (pg_name (i := 2) sc__law_law.nd rfl (by first | exact Or.inl rfl | exact Or.inr rfl)) (pgs_cons (pg_name (i := 3) sc__law_law.nd rfl (by first | exact Or.inl rfl | exact Or.inr rfl)) pgs_nil))) (pss_one ((ND.ps_dputN hr.units (pv 1) (pv 2) (pe_call (ok__law_plus T) (hr.mono (by decide)) (by rfl) T.g__law_plus T.F__law_plus.kp T.b__law_plus .nil pass0 (pa_cons ((ND.pe_dget2N hr.units (pv 1) (pv 2) (pe_tup (pa_cons pe_int (pa_cons pe_int pa_nil))) ⟨by rfl, by rfl, by rfl, by rfl⟩) : PE _ _ (ND.tDGet2N w K _ _ _)) (pa_cons (pv 3) pa_nil))) rfl) : PS _ _ (ND.sDPutN w K _ _ _))))
      (pss_one (ps_ret (pe_lc (own := [("outcome", 2)]) (g := gName 2) rfl sc__law_law.nd (pi_list (pe_callB ((RL.cr_sortedD hr.units) : CallR _ _ (RL.rSortedD K)) (by rfl) T.z_sorted (by decide +kernel) (pa_cons (pe_callTy ((ND.c_listN rfl) : CallR _ _ (ND.rListN w K)) (by rfl) T.z_list (by decide +kernel) (pa_cons (pv 1) pa_nil)) pa_nil))) (blkOk_by (own := [("outcome", 2)]) (N := N__law_law) (sc := defScope s__law_law) (by decide +kernel)) (fun _ _ _ _ _ => (pg_name (i := 2) sc__law_law.nd rfl (by first | exact Or.inl rfl | exact Or.inr rfl))) (fun _ _ _ _ _ => pts_nil) (fun _ _ _ _ _ => (pe_tup (pa_cons (pv 2) (pa_cons ((ND.pe_dgetN hr.units (pv 1) (pv 2) (fun _ _ => rfl)) : PE _ _ (ND.tDGetN w K _ _)) pa_nil))))))))), ?_⟩
    walk_at "z0"
    walk_at "z"
    intro D H1 nD k1 e1 _
    walk_at "z"
    refine Z.forl (rs.map LRow.r) (k1.seq nin0 hS) (fun i σ' H' => ∃ (y2 y3 : Option V) (kvs : List (NK × V)), σ' = [some (.ref a), some (.ref D), y2, y3] ∧ Kp [] H H' ∧ DN w K H' D kvs ∧ KvN K H' size kvs (gsum (xs.take i))) ?_ ?_ ?_ ?_
    · exact ⟨_, _, [], rfl, k1, e1, .nil⟩
    · rintro i σ' H2 hi ⟨y2, y3, kvs, rfl, k2, e2, V2⟩
      exact k2.seq nin0 hS
    · rintro i v σ' H2 hv ⟨y2, y3, kvs, rfl, k2, e2, V2⟩
      rw [List.getElem?_map] at hv
      obtain ⟨g, hg, rfl⟩ := Option.map_eq_some_iff.mp hv
      have hgm := List.mem_of_getElem? hg
      have hA2 := (hA g hgm).kp0 k2
      have hil : i < rs.length := (List.getElem?_eq_some_iff.mp hg).1
      obtain ⟨x, hx, hgx⟩ : ∃ x, xs[i]? = some x ∧ g.dat = embG (vwD size) x := by
        have h1 : (rs.map LRow.dat)[i]? = some g.dat := by rw [List.getElem?_map, hg]; rfl
        rw [hd, List.getElem?_map] at h1
        obtain ⟨x, hx, e⟩ := Option.map_eq_some_iff.mp h1
        exact ⟨x, hx, e.symm⟩
      have hxm := List.mem_of_getElem? hx
      have hgd : g.d = vwD size x.1 := (Prod.mk.inj hgx).1
      have hgf : g.f = x.2 := (Prod.mk.inj hgx).2
      have hxd := hG.dw x hxm
      have hxB := hxd.B (by decide) hG.D1 hG.D2
      have hkl : kvs.length ≤ i := by
        have h1 := V2.len
        have h2 := gsum_len (xs := xs.take i) (acc := [])
        rw [List.length_take] at h2
        unfold gsum at h1
        simp only [List.length_nil] at h2
        omega
      have hdpv : Dp K H2 g.v (vwD size x.1) := by rw [← hgd]; exact hA2.dp
      have hnk := nk_of hdpv
      refine Z.gtup hA2.tup rfl ?_
      walk_at "z"
      refine ⟨D, rfl, ⟨kvs, e2⟩, ?_⟩
      walk_at "z"
      refine Z.tupK (fun z H3 nz k3 e3 => ?_)
      refine ⟨kvs, vwK size x.1, e2.kp0 k3, hnk.kp0 k3, ?_⟩
      obtain ⟨c0, hc0, hF0, hB0⟩ : ∃ c0, (valV kvs (vwK size x.1)).getD (.ref z) = .ref c0 ∧ FrAt K H3 c0 ((gval (gsum (xs.take i)) x.1).getD (0, 1)) ∧ (1 ≤ ((gval (gsum (xs.take i)) x.1).getD (0, 1)).2 ∧ FrB 850 ((gval (gsum (xs.take i)) x.1).getD (0, 1))) := by
        rcases V2.val (k := x.1) with ⟨h1, h2⟩ | ⟨c, f, h1, h2, h3⟩
        · rw [h1, h2]
          exact ⟨z, rfl, tupT e3, by decide, by decide, by decide⟩
        · rw [h1, h2]
          exact ⟨c, rfl, h3.kp0 k3, gsum_dw hG i _ (gval_mem h2)⟩
      rw [hc0]
      walk_at "z"
      refine ⟨c0, g.c, _, g.f, rfl, hF0, (hA2.kp0 k3).fr, hB0.1, by rw [hgf]; exact hxd.1.1, ⟨850, 850, hB0.2, by rw [hgf]; exact hxB, by decide⟩, fun H4 d nd k4 e4 => ?_⟩
      walk_at "z"
      have k34 := k3.trans k4
      have e4D := e2.kp0 k34
      refine ⟨D, rfl, kvs, vwK size x.1, e4D, hnk.kp0 k34, Z.szl (m := 1000) (by omega), fun H5 k5 e5 eo5 => ?_⟩
      obtain ⟨o5, eo5⟩ := eo5
      have nt : ∀ y ∈ [D], NoTup H4 y := fun y hy => by
        rw [List.mem_singleton.mp hy]
        exact e4D.notp
      walk_at "z"
      refine ⟨_, _, _, rfl, (k2.trans k34).mut nD eo5, e5, ?_⟩
      rw [gsum_snoc hx]
      unfold gstp
      rw [hgf] at e4
      exact (KvN.mono (fun c f h => h.kp0 k34) V2 |> KvN.put (k := x.1) e4).mono fun c f h => FrAt.kp h k5 nt
    · rintro σ' H2 ⟨y2, y3, kvs, rfl, k2, e2, V2⟩
      rw [List.length_map, hrl, List.take_length] at V2
      walk_at "z"
      refine ⟨D, kvs, rfl, e2, fun p H3 bs np kp ep hbs _ => ?_⟩
      obtain ⟨L, hL1, hL2, hL4⟩ := keys_sideN V2 hbs
      have hnd : ((gsum xs).map Prod.fst).Nodup := gsum_nodup (acc := []) (by simp)
      have hLl : L.length ≤ 1000 := by
        have h1 := congrArg List.length hL1
        have h2 := gsum_len (xs := xs) (acc := [])
        unfold gsum at h1
        rw [List.length_map] at h1
        simp only [List.length_nil] at h2
        omega
      walk_at "z"
      refine ⟨p, L.map (fun x => (x.2, vwD size x.1.1)), rfl, lstL (by rw [ep, ← hL2, List.map_map]; rfl), fun b hb => ?_, ?_, ?_, fun b hb => ?_, fun l nl => ?_⟩
      · obtain ⟨x, hx, rfl⟩ := List.mem_map.mp hb
        exact hL4 x hx
      · rw [List.map_map]
        have h := (vw_keys (size := size) (L.map fun x => x.1.1)).1
        rw [List.map_map] at h
        exact h
      · rw [List.map_map]
        have h := (vw_keys (size := size) (L.map fun x => x.1.1)).2
        rw [List.map_map] at h
        exact h
      · obtain ⟨x, hx, rfl⟩ := List.mem_map.mp hb
        have := rfs_depth x.1.1
        simp [vwD, PyData.depth, PyData.depthAll]
        omega
      · have es : ((L.map fun x : XF × V => (x.2, vwD size x.1.1)).mergeSort (PySem.W.dataLe false Prod.snd)).map Prod.fst = (L.mergeSort (PySem.W.dataLe false fun x : XF × V => vwD size x.1.1)).map fun x => x.2 := by
          rw [← List.map_mergeSort (r := PySem.W.dataLe false fun x : XF × V => vwD size x.1.1) (s := PySem.W.dataLe false Prod.snd) (f := fun x : XF × V => (x.2, vwD size x.1.1)) (fun _ _ _ _ => rfl), List.map_map]
          rfl
        have es2 : (L.mergeSort (PySem.W.dataLe false fun x : XF × V => vwD size x.1.1)).map Prod.fst = lawN size xs := by
          unfold lawN
          rw [List.map_mergeSort (r := PySem.W.dataLe false fun x : XF × V => vwD size x.1.1) (s := fun a b : XF => leG (vwD size) a.1 b.1) (f := Prod.fst) (fun _ _ _ _ => rfl), hL1]
        rw [es]
        have hmem : ∀ x ∈ L.mergeSort (PySem.W.dataLe false fun x : XF × V => vwD size x.1.1), x ∈ L := fun x hx => (List.mergeSort_perm L _).mem_iff.mp hx
        have hLS : (L.mergeSort (PySem.W.dataLe false fun x : XF × V => vwD size x.1.1)).length = L.length := (List.mergeSort_perm L _).length_eq
        generalize L.mergeSort (PySem.W.dataLe false fun x : XF × V => vwD size x.1.1) = LS at es2 hmem hLS ⊢
        have kl : Kp [] H3 (upd H3 l (.lst (LS.map fun x => x.2))) := Kp.new nl
        have el : upd H3 l (.lst (LS.map fun x => x.2)) l = some (.lst (LS.map fun x => x.2)) := upd_same
        generalize upd H3 l (.lst (LS.map fun x => x.2)) = H4 at kl el ⊢
        have k24 := kp.trans kl
        have e4D := e2.kp0 k24
        have V4 : KvN K H4 size kvs (gsum xs) := KvN.mono (fun c f h => h.kp0 k24) V2
        refine Z.lcl (LS.map fun x => x.2) (lstL el) (fun D2 i H' => ∃ res : List LRow, Kp [] H4 H' ∧ H' D2 = some (.lst (res.map LRow.r)) ∧ (∀ g ∈ res, LRowAt K H' g) ∧ res.map LRow.dat = ((LS.take i).map Prod.fst).map (embG (vwD size))) ?_ ?_ ?_ ?_
        · intro D2 H5 nD2 k5 e5
          exact ⟨[], k5, e5, by simp, by simp⟩
        · rintro D2 i H5 nD2 hi ⟨res, k5, e5, A5, d5⟩
          exact lstL (k5.get nin0 el)
        · rintro D2 i v H5 nD2 hv ⟨res, k5, e5, A5, d5⟩
          rw [List.getElem?_map] at hv
          obtain ⟨x, hx, rfl⟩ := Option.map_eq_some_iff.mp hv
          have hxL := hmem x (List.mem_of_getElem? hx)
          have hxa : x.1 ∈ gsum xs := by rw [← hL1]; exact List.mem_map_of_mem hxL
          have hil : i < LS.length := (List.getElem?_eq_some_iff.mp hx).1
          have hrl2 : res.length ≤ i := by
            have h1 := congrArg List.length d5
            rw [List.length_map, List.length_map, List.length_map, List.length_take] at h1
            omega
          have hok : DOk (vwD size x.1.1) := by
            obtain ⟨y, hy, e⟩ := gsum_key27 hxa
            rw [← e]
            exact vw_ok (hRS y hy)
          have hkey : Dp K H5 x.2 (vwD size x.1.1) := dp_kp (kl.trans k5) (by simp) _ hok.flat (hL4 x hxL)
          have hval := gval_of hnd hxa
          obtain ⟨c, hc, hF⟩ : ∃ c, valV kvs (vwK size x.1.1) = some (.ref c) ∧ FrAt K H5 c x.1.2 := by
            rcases (KvN.mono (fun c f h => h.kp0 k5) V4 : KvN K H5 size kvs _).val (k := x.1.1) with ⟨_, h2⟩ | ⟨c, f, h1, h2, h3⟩
            · rw [hval] at h2
              cases h2
            · rw [hval] at h2
              cases h2
              exact ⟨c, h1, h3⟩
          dsimp only [wipe, List.set]
          walk_at "z"
          refine ⟨rfl, ?_⟩
          walk_at "z"
          refine ⟨D, kvs, vwK size x.1.1, .ref c, rfl, e4D.kp0 k5, nk_of hkey, hc, ?_⟩
          walk_at "z"
          refine Z.tupK (fun t H7 nt k7 e7 => ?_)
          have e7D := k7.get nin0 e5
          have hrow : LRowAt K H7 ⟨t, x.2, vwD size x.1.1, c, x.1.2⟩ := ⟨tupT e7, dp_kp k7 (by simp) _ hok.flat hkey, hF.kp0 k7, hok⟩
          refine ⟨_, e7D, Z.szl (m := 100000) (by rw [List.length_map]; omega), res ++ [⟨t, x.2, vwD size x.1.1, c, x.1.2⟩], (k5.trans k7).mut nD2 rfl, by rw [upd_same, List.map_append]; rfl, fun g hg => ?_, ?_⟩
          · have kD : Kp [D2] H7 (upd H7 D2 (.lst (res.map LRow.r ++ [.ref t]))) := Kp.put (by simp)
            rcases List.mem_append.mp hg with hg | hg
            · exact ((A5 g hg).kp0 k7).kpl kD e7D
            · rw [List.mem_singleton.mp hg]
              exact hrow.kpl kD e7D
          · rw [List.map_append, d5, List.take_add_one, hx, List.map_append, List.map_append]
            rfl
        · rintro D2 H5 nD2 ⟨res, k5, e5, A5, d5⟩
          rw [List.length_map, List.take_length, es2] at d5
          walk_at "z"
          exact q H5 D2 res ((k2.trans k24).none nin0 nD2) (k2.trans (k24.trans k5)) e5 A5 d5
end ll27

/-! ### rows in order -/
def leR (x y : Addr × Row) : Bool := PySem.W.dataLe false (fun z : Addr × Row => rowD z.2) x y
def sortR (ps : List (Addr × Row)) : List (Addr × Row) := ps.mergeSort leR
theorem sortR_perm (ps : List (Addr × Row)) : (sortR ps).Perm ps := List.mergeSort_perm _ _
theorem sortR_len (ps : List (Addr × Row)) : (sortR ps).length = ps.length := (sortR_perm ps).length_eq
theorem sortR_refs (ps : List (Addr × Row)) : ((ps.map fun x => (V.ref x.1, rowD x.2)).mergeSort (PySem.W.dataLe false Prod.snd)).map Prod.fst = refs (sortR ps) := by
  rw [← List.map_mergeSort (r := leR) (s := PySem.W.dataLe false Prod.snd) (f := fun x : Addr × Row => (V.ref x.1, rowD x.2)) (fun _ _ _ _ => rfl), List.map_map]
  rfl
theorem RowsAt.perm {H : Hp} {ps qs : List (Addr × Row)} (h : qs.Perm ps) (r : RowsAt H ps) : RowsAt H qs := fun x hx => r x (h.mem_iff.mp hx)
theorem sortedRows {K : PySem.W.Frag} {H : Hp} {Q : VK} {a : Addr} {ps : List (Addr × Row)} (h : SqL K H a (refs ps)) (r : RowsAt H ps) (q : ∀ p H1, H p = none → Kp [] H H1 → H1 p = some (.lst (refs (sortR ps))) → Q (.ref p) H1) : RL.rSortedD K [.ref a] H Q := by
  refine ⟨a, ps.map fun x => (V.ref x.1, rowD x.2), rfl, by rw [List.map_map]; exact h, ?_, ?_, ?_, ?_, fun p np => ?_⟩
  · intro b hb
    obtain ⟨x, hx, rfl⟩ := List.mem_map.mp hb
    exact dpRow (r x hx)
  · rw [List.map_map]
    exact PySem.W.AllAlike.of fun _ _ => by simp [PySem.W.alike, PySem.W.alikeAll, rowD]
  · rw [List.map_map]
    exact PySem.W.Sortable.tuples fun _ => ⟨_, _, rfl⟩
  · intro b hb
    obtain ⟨x, hx, rfl⟩ := List.mem_map.mp hb
    show (rowD x.2).depth ≤ 60
    rw [rowD_depth]; decide
  · rw [sortR_refs]
    exact q p _ np (Kp.new np) upd_same

section lp27
variable {K : PySem.W.Frag}
structure PartsOk (ps : List (Addr × Row)) (pts : List Pt) : Prop where
  rows : psx pts = sortR ps
  ok : ∀ z ∈ pts, Low z.f ∧ 0 < z.f.1 ∧ DenB 12 14 (rv z.f)
theorem FrAt.kpd {K : PySem.W.Frag} {H H' : Hp} {a c : Addr} {f : Fr} (h : FrAt K H c f) (k : Kp [a] H H') (d : DrawsAt H a) : FrAt K H' c f := let ⟨_, e⟩ := d; h.kpl k e
theorem PtAt.kpl {H H' : Hp} {x : Pt} {l : Addr} {vs : List V} (h : PtAt K H x) (k : Kp [l] H H') (e : H l = some (.lst vs)) : PtAt K H' x := h.kpx k e fun xs => ⟨by simp, by simp⟩
theorem PtsAt.kpl {H H' : Hp} {ps : List Pt} {l : Addr} {vs : List V} (h : PtsAt K H ps) (k : Kp [l] H H') (e : H l = some (.lst vs)) : PtsAt K H' ps := fun x hx => (h x hx).kpl k e
theorem PtsAt.kpd {H H' : Hp} {a : Addr} {ps : List Pt} (r : PtsAt K H ps) (k : Kp [a] H H') (d : DrawsAt H a) : PtsAt K H' ps := let ⟨_, e⟩ := d; r.kpl k e
theorem ok_int {w : Int} (h1 : 1 ≤ w) (h2 : w ≤ 1000) : Low (w, 1) ∧ 0 < (w, (1 : Int)).1 ∧ DenB 12 14 (rv (w, 1)) := by
  refine ⟨⟨by show (1 : Int) ≤ 1; decide, Nat.gcd_one_right _⟩, by show 0 < w; omega, w * 12, ?_, by omega⟩
  rw [rv_int]
  exact_mod_cast rfl
theorem ok_more {w v q : Int} (h1 : 1 ≤ w) (h2 : w ≤ 1000) (v0 : 0 ≤ v) (v1 : v < 30) (q1 : 1 ≤ q) (q4 : q ≤ 4) : Low (fplus (w, 1) (lo v q)) ∧ 0 < (fplus (w, 1) (lo v q)).1 ∧ DenB 12 14 (rv (fplus (w, 1) (lo v q))) := by
  have hq : q ≠ 0 := by omega
  have hl := lo_low (p := v) hq
  have hv : rv (fplus (w, 1) (lo v q)) = (w : Rat) + (v : Rat) / (q : Rat) := by
    rw [rv_fplus (show (1 : Int) ≠ 0 by decide) hl.ne, rv_int, rv_lo hq]
  have hlow : Low (fplus (w, 1) (lo v q)) := fplus_low (show (1 : Int) ≠ 0 by decide) hl.ne
  obtain ⟨c, hc, c12⟩ : ∃ c : Int, q * c = 12 ∧ 1 ≤ c ∧ c ≤ 12 := by
    rcases (show q = 1 ∨ q = 2 ∨ q = 3 ∨ q = 4 by omega) with rfl | rfl | rfl | rfl
    · exact ⟨12, rfl, by decide⟩
    · exact ⟨6, rfl, by decide⟩
    · exact ⟨4, rfl, by decide⟩
    · exact ⟨3, rfl, by decide⟩
  have hz : rv (fplus (w, 1) (lo v q)) * ((12 : Nat) : Rat) = ((w * 12 + v * c : Int) : Rat) := by
    rw [hv]
    have e1 : ((w * 12 + v * c : Int) : Rat) = (w : Rat) * 12 + (v : Rat) * (c : Rat) := by exact_mod_cast rfl
    have e2 : ((12 : Nat) : Rat) = (q : Rat) * (c : Rat) := by
      have : ((12 : Nat) : Int) = q * c := by rw [hc]; rfl
      exact_mod_cast this
    have e3 : (12 : Rat) = (q : Rat) * (c : Rat) := e2
    have q0 : (q : Rat) ≠ 0 := ratNe hq
    rw [e1, e2, e3]
    grind
  have hb : v * c ≤ 29 * 12 := Int.mul_le_mul (by omega) (by omega) (by omega) (by decide)
  have hb0 : 0 ≤ v * c := Int.mul_nonneg v0 (by omega)
  refine ⟨hlow, (rv_pos hlow.1).mpr ?_, w * 12 + v * c, hz, by omega⟩
  have h3 : (0 : Rat) < ((w * 12 + v * c : Int) : Rat) := ratPos (by omega)
  rw [← hz] at h3
  have e12 : ((12 : Nat) : Rat) = 12 := rfl
  rw [e12] at h3
  grind
def spParts (K : PySem.W.Frag) : Sp := fun vs H Q _ => ∃ (a b : Addr) (ps : List (Addr × Row)), vs = [.ref a, .ref b] ∧ DrawsAt H a ∧ H b = some (.lst (refs ps)) ∧ RowsAt H ps ∧ ps.length ≤ 10 ∧ (∀ x ∈ ps, 1 ≤ x.2.w ∧ x.2.w ≤ 1000) ∧ ∀ (H' : Hp) (d : Addr) (pts : List Pt), H d = none → Kp [a] H H' → DrawsAt H' a → H' d = some (.lst (prefs pts)) → PtsAt K H' pts → PartsOk ps pts → Q (.ref d) H'
theorem ok__law_parts {P : Program} {w : World} {K : PySem.W.Frag} {mg : Str → Option Value} {base : Heap} (T : T P K mg base) : FnOk P w K mg base CX0 3 T.a__law_parts T.fd__law_parts ["row", "things"] (spParts K) := by
  refine T.F__law_parts.ok sc__law_parts (fun vs H Q E h => ?_) (fun cdv A outer s H vs Q E hr h => ?_)
  · obtain ⟨a, b, ps, rfl, _⟩ := h
    rfl
  · obtain ⟨a, b, ps, rfl, hd, hb, hR, hn, hw, q⟩ := h
    refine ⟨_, (pss_cons (ps_set (i := 2) sc__law_parts.nd rfl (by first | exact Or.inl rfl | exact Or.inr rfl) (pe_lst pa_nil))
      (pss_cons (ps_for PassesOwn.never rfl (pi_list (pe_callB ((RL.cr_sortedD hr.units) : CallR _ _ (RL.rSortedD K)) (by rfl) T.z_sorted (by decide +kernel) (pa_cons (pv 1) pa_nil))) (pg_name (i := 3) sc__law_parts.nd rfl (by first | exact Or.inl rfl | exact Or.inr rfl)) (pss_cons (ps_set (i := 4) sc__law_parts.nd rfl (by first | exact Or.inl rfl | exact Or.inr rfl) (pe_tup (pa_cons (pe_ix ix_tup (pv 3) pe_int (fun _ _ => rfl)) (pa_cons pe_int pa_nil))))
      (Z.pss_consJ (ps_if (pt_cmpR op_eq (pe_call (ok__law_take T) (hr.mono (by decide)) (by rfl) T.g__law_take T.F__law_take.kp T.b__law_take .nil pass0 (pa_cons (pv 0) (pa_cons pe_int pa_nil))) pe_int (nomark _)) (pss_one (ps_set (i := 4) sc__law_parts.nd rfl (by first | exact Or.inl rfl | exact Or.inr rfl) (pe_call (ok__law_plus T) (hr.mono (by decide)) (by rfl) T.g__law_plus T.F__law_plus.kp T.b__law_plus .nil pass0 (pa_cons (pv 4) (pa_cons (pe_call (ok__law_low T) (hr.mono (by decide)) (by rfl) T.g__law_low T.F__law_low.kp T.b__law_low .nil pass0 (pa_cons (pe_call (ok__law_take T) (hr.mono (by decide)) (by rfl) T.g__law_take T.F__law_take.kp T.b__law_take .nil pass0 (pa_cons (pv 0) (pa_cons pe_int pa_nil))) (pa_cons (pe_op op_add pe_int (pe_call (ok__law_take T) (hr.mono (by decide)) (by rfl) T.g__law_take T.F__law_take.kp T.b__law_take .nil pass0 (pa_cons (pv 0) (pa_cons pe_int pa_nil)))) pa_nil))) pa_nil))))) pss_nil)
      (pss_one (ps_expr (pe_bm PySem.F.plainAttrs_list PySem.F.slot_list_append PySem.F.type_list_append mt_append (pv 2) (pa_cons (pe_tup (pa_cons (pv 3) (pa_cons (pv 4) pa_nil))) pa_nil)))))))
      (pss_one (ps_ret (pv 2))))), ?_⟩
    walk_at "z0"
    walk_at "z"
    refine Z.lstK (fun D H0 nD k0 e0 => ?_)
    have d0 := hd.kp0 k0
    have naD : a ≠ D := hd.ne nD
    walk_at "z"
    refine sortedRows (ps := ps) (lstL (k0.get nin0 hb)) (hR.kp0 k0) (fun S H1 nS k1 e1 => ?_)
    have d1 := d0.kp0 k1
    have naS : a ≠ S := d0.ne nS
    have nDS : D ≠ S := ne_of_none e0 nS
    have hsl := sortR_len ps
    have hsw : ∀ x ∈ sortR ps, 1 ≤ x.2.w ∧ x.2.w ≤ 1000 := fun x hx => hw x ((sortR_perm ps).mem_iff.mp hx)
    have R1 : RowsAt H1 (sortR ps) := ((hR.kp0 k0).kp0 k1).perm (sortR_perm ps)
    walk_at "z"
    refine Z.forl (refs (sortR ps)) (lstL e1) (fun i σ' G => ∃ (y3 y4 : Option V) (pts : List Pt), σ' = [some (.ref a), some (.ref b), some (.ref D), y3, y4] ∧ Kp [a, D] H1 G ∧ DrawsAt G a ∧ G D = some (.lst (prefs pts)) ∧ PtsAt K G pts ∧ psx pts = (sortR ps).take i ∧ ∀ z ∈ pts, Low z.f ∧ 0 < z.f.1 ∧ DenB 12 14 (rv z.f)) ?_ ?_ ?_ ?_
    · exact ⟨_, _, [], rfl, Kp.refl _, d1, k1.get nin0 e0, fun v hv => (by simp at hv), rfl, fun v hv => (by simp at hv)⟩
    · rintro i σ' G hi ⟨y3, y4, pts, rfl, k2, _⟩
      exact lstL (k2.get (by simp [naS.symm, nDS.symm]) e1)
    · rintro i v σ' G hv ⟨y3, y4, pts, rfl, k2, d2, e2, P2, r2, s2⟩
      obtain ⟨z, hz, rfl⟩ := refs_of hv
      have hzm := List.mem_of_getElem? hz
      have hzi := (List.getElem?_eq_some_iff.mp hz).1
      have hzw := hsw z hzm
      have hzR : RowAt G z.1 z.2 := by
        refine k2.get ?_ (R1 z hzm)
        have h9 := R1 z hzm
        unfold RowAt at h9
        intro y
        rcases List.mem_cons.mp y with y | y
        · obtain ⟨ns, ea⟩ := d1
          rw [y, ea] at h9; cases h9
        · rw [List.mem_singleton.mp y, k1.get nin0 e0] at h9; cases h9
      have hpl : pts.length ≤ 10 := by
        have := congrArg List.length r2
        unfold psx at this
        rw [List.length_map, List.length_take] at this
        omega
      walk_at "z"
      refine hzR.w2 ?_
      walk_at "z"
      refine Z.tupK (fun c1 G1 n1 j1 f1 => ?_)
      walk_at "z"
      have hF1 : FrAt K G1 c1 (z.2.w, 1) := tupT f1
      refine Z.seqJ (fun σ' G' => ∃ (c3 : Addr) (f : Fr), σ' = [some (.ref a), some (.ref b), some (.ref D), some (.ref z.1), some (.ref c3)] ∧ Kp [a] G G' ∧ DrawsAt G' a ∧ FrAt K G' c3 f ∧ Low f ∧ 0 < f.1 ∧ DenB 12 14 (rv f)) ?_ ?_
      · rintro σ' G3 ⟨c3, f, rfl, j3, d4, F3, hf⟩
        have eD3 := j3.get (nin1 naD.symm) e2
        walk_at "z"
        refine ⟨Z.tyL eD3, ?_⟩
        walk_at "z"
        refine Z.tupK (fun t G6 nt j6 e6 => ?_)
        have kall : Kp [a] G G6 := j3.trans (j6.sub (by simp))
        have eD6 := j6.get nin0 eD3
        have kD : Kp [D] G6 (upd G6 D (.lst (prefs pts ++ [.ref t]))) := Kp.put (by simp)
        have hza : z.1 ≠ a := fun y => by
          have := hzR
          unfold RowAt at this
          obtain ⟨ns, ea⟩ := d2
          rw [y, ea] at this; cases this
        have hPt : PtAt K G6 ⟨t, z, c3, f⟩ := ⟨e6, kall.get (nin1 hza) hzR, F3.kp0 j6⟩
        walk_at "z"
        refine Z.app eD6 (Z.szl (m := 1000) (by rw [prefs_len]; omega)) ?_
        walk_at "z"
        refine ⟨_, _, pts ++ [⟨t, z, c3, f⟩], rfl, k2.trans ((kall.sub (by simp)).trans (kD.sub (by simp))), (d4.kp0 j6).put naD, by rw [upd_same]; unfold prefs; rw [List.map_append]; rfl, fun y hy => ?_, ?_, fun y hy => ?_⟩
        · rcases List.mem_append.mp hy with h | h
          · exact ((P2.kpd kall d2).kpl kD eD6) y h
          · rw [List.mem_singleton.mp h]
            exact hPt.kpl kD eD6
        · unfold psx at r2 ⊢
          rw [List.map_append, r2, List.take_add_one, hz]; rfl
        · rcases List.mem_append.mp hy with h | h
          · exact s2 y h
          · rw [List.mem_singleton.mp h]
            exact hf
      · intro N jn
        walk_at "z"
        refine ⟨a, 3, rfl, d2.kp0 j1, by decide, by decide, fun G2 v hv0 hv1 j2 d3 => ?_⟩
        have hF2 := hF1.kpd j2 (d2.kp0 j1)
        have j12 : Kp [a] G G2 := (j1.sub (by simp)).trans j2
        walk_at "z"
        refine Z.ite (fun h1 => ?_) (fun h1 => ?_)
        · walk_at "z"
          refine ⟨a, 30, rfl, d3, by decide, by decide, fun G3 v hv0 hv1 j3 d4 => ?_⟩
          walk_at "z"
          refine ⟨a, 4, rfl, d4, by decide, by decide, fun G4 u hu0 hu1 j4 d5 => ?_⟩
          have hF4 := (hF2.kpd j3 d3).kpd j4 d4
          walk_at "z"
          refine ⟨v, 1 + u, rfl, by omega, Nat.lt_of_le_of_lt (show (1 + u).natAbs ≤ 4 by omega) (by decide), fun G5 c2 nc2 j5 F5 => ?_⟩
          have hlo : FrB 5 (lo v (1 + u)) := lo_B (by omega) (Nat.lt_of_le_of_lt (show v.natAbs ≤ 29 by omega) (by decide)) (Nat.lt_of_le_of_lt (show (1 + u).natAbs ≤ 4 by omega) (by decide))
          have hwB : FrB 10 (z.2.w, (1 : Int)) := ⟨Nat.lt_of_le_of_lt (show z.2.w.natAbs ≤ 1000 by omega) (by decide), show (1 : Int).natAbs < 2 ^ 10 by decide⟩
          have hlp : 1 ≤ (lo v (1 + u)).2 := lo_pos (by omega)
          walk_at "z"
          refine ⟨c1, c2, _, _, rfl, hF4.kp0 j5, F5, (show (1 : Int) ≤ 1 by decide), hlp, ⟨10, 5, hwB, hlo, by decide⟩, fun G6 c3 nc3 j6 F6 => ?_⟩
          walk_at "z"
          exact jn _ _ ⟨c3, _, rfl, j12.trans (j3.trans (j4.trans ((j5.trans j6).sub (by simp)))), (d5.kp0 j5).kp0 j6, F6, ok_more (by omega) (by omega) hv0 hv1 (by omega) (by omega)⟩
        · walk_at "z"
          exact jn _ _ ⟨c1, _, rfl, j12, d3, hF2, ok_int (by omega) (by omega)⟩
    · rintro σ' G ⟨y3, y4, pts, rfl, k2, d2, e2, P2, r2, s2⟩
      rw [refs_len, List.take_length] at r2
      walk_at "z"
      refine q G D pts nD ?_ d2 e2 P2 ⟨r2, s2⟩
      exact ((((k0.trans k1).sub (by simp)).trans (k2.sub (by simp)) : Kp [D, a] H G)).drop nD
end lp27

section exd27
variable {K : PySem.W.Frag}
open LamX hiding takes0
open LamK
theorem thenN {M N : List Addr} {H H1 H2 : Hp} (k : Kp M H H1) (k2 : Kp N H1 H2) (h : ∀ y ∈ N, y ∈ M ∨ H y = none) : Kp M H H2 := fun b o nb e => k2 b o (fun hb => by
  rcases h b hb with m | n
  · exact nb m
  · rw [n] at e; cases e) (k b o nb e)
theorem tabs_M {T : List (Addr × Str)} {M : List Addr} {H H' : Hp} (t : Tabs T H) (k : Kp M H H') (hM : ∀ y ∈ M, ∃ o, H y = some o ∧ (∀ ps, o ≠ .tbl ps) ∧ ∀ f, o ≠ .ext f) : Tabs T H' := fun p hp => by
  obtain ⟨ps, h1, h2, h3⟩ := t p hp
  refine ⟨ps, k.get (fun z => ?_) h1, h2, fun pos cv hc => ?_⟩
  · obtain ⟨o, e, n1, _⟩ := hM _ z
    rw [h1] at e
    exact n1 ps (Option.some.inj e).symm
  · obtain ⟨c, e1, e2⟩ := h3 pos cv hc
    refine ⟨c, e1, k.get (fun z => ?_) e2⟩
    obtain ⟨o, e, _, n2⟩ := hM _ z
    rw [e2] at e
    exact n2 _ (Option.some.inj e).symm
theorem Ex.noTab {C : Addr} {H : Hp} {e p w : Addr} {ps : List PI} {rs : List LRow} {m : Nat} {run fin : Bool} (h : Ex K C H e p w ps rs m run fin) : ∀ y ∈ [e, p, w], ∃ o, H y = some o ∧ (∀ ps, o ≠ .tbl ps) ∧ ∀ f, o ≠ .ext f := fun y hy => by
  obtain ⟨dx, o⟩ := h.ob
  rcases List.mem_cons.mp hy with rfl | hy
  · exact ⟨_, o, by simp, by simp⟩
  rcases List.mem_cons.mp hy with rfl | hy
  · exact ⟨_, h.path, by simp, by simp⟩
  · rw [List.mem_singleton.mp hy]
    exact ⟨_, h.rows, by simp, by simp⟩
theorem dpPas {H : Hp} {fs : List Pt} (h : PtsAt K H fs) : DpAll K H (prefs fs) ((fs.map Pt.pa).map rf |>.map rfD) := by
  have e : ((fs.map Pt.pa).map rf).map rfD = fs.map ptD := by
    rw [List.map_map, List.map_map]
    rfl
  rw [e]
  exact dpPts h
structure TwoAt (K : PySem.W.Frag) (C : Addr) (H : Hp) (x a k y b j : Addr) (size : Nat) (As Bs : List Pt) : Prop where
  A : OptAt C H x a k size As
  B : OptAt C H y b j size Bs
  pA : PtsAt K H As
  pB : PtsAt K H Bs
theorem TwoAt.kp0 {C : Addr} {H H' : Hp} {x a k y b j : Addr} {size : Nat} {As Bs : List Pt} (h : TwoAt K C H x a k y b j size As Bs) (kk : Kp [] H H') : TwoAt K C H' x a k y b j size As Bs := ⟨h.A.kp0 kk, h.B.kp0 kk, h.pA.kp0 kk, h.pB.kp0 kk⟩
structure TwoOk (size d L : Nat) (As Bs : List Pt) (tau : Nat → Fr) : Prop where
  sA : ∀ z ∈ psx As, RowS z.2
  sB : ∀ z ∈ psx Bs, RowS z.2
  l6 : (As ++ Bs).length ≤ 6
  s1 : 1 ≤ size
  s3 : size ≤ 3
  tw : twice (sortS (keysOf [psx As, psx Bs])) = none
  d3 : d ≤ 3
  nd : Nd tau size d ((sortP (As ++ Bs)).map Pt.pa)
  ndd : NdD tau size L d ((sortP (As ++ Bs)).map Pt.pa)
  L1 : 1 ≤ L
  L2 : L ≤ 2 ^ 270
def xsOf (tau : Nat → Fr) (size d : Nat) (Q : List Pa) : List XF := (lvs tau size d Q (1, 1)).map lfX
def ysOf (tau : Nat → Fr) (size d : Nat) (Q : List Pa) : List XF := (runsM (MD tau size) d Q (1, 1)).map fun r => (r.2.map rf, chD r.1)
theorem xs_ys {tau : Nat → Fr} {size d : Nat} {Q : List Pa} (h : Nd tau size d Q) : (xsOf tau size d Q).Perm (ysOf tau size d Q) := by
  have := (lvs_perm (c := (1, 1)) h).map lfX
  rw [List.map_map] at this
  exact this
def spExplored (K : PySem.W.Frag) (C : Addr) (TB : List (Addr × Str)) : Sp := fun vs H Q _ => ∃ (x a k y b j : Addr) (size d L : Nat) (As Bs : List Pt) (tau : Nat → Fr), vs = [.ref x, .ref y] ∧ TwoAt K C H x a k y b j size As Bs ∧ TwoOk size d L As Bs tau ∧ Tabs TB H ∧
  ∀ (H' : Hp) (r : Addr) (out : List LRow), ExtN H H' → Tabs TB H' → H' r = some (.lst (out.map LRow.r)) → (∀ r ∈ out, LRowAt K H' r) → out.map LRow.dat = (lawN size (xsOf tau size d ((sortP (As ++ Bs)).map Pt.pa))).map (embG (vwD size)) → Q (.ref r) H'
set_option maxHeartbeats 4000000 in
theorem ok__law_explored {P : Program} {w : World} {K : PySem.W.Frag} {mg : Str → Option Value} {base : Heap} (T : T P K mg base) : FnOk P w K mg base CX0 9 T.a__law_explored T.fd__law_explored ["first", "second"] (spExplored K T.C_Optimal (TBS T)) := by
  refine T.F__law_explored.ok sc__law_explored (fun vs H Q E h => ?_) (fun cdv A outer s H vs Q E hr h => ?_)
  · obtain ⟨x, a, k, y, b, j, size, d, L, As, Bs, tau, rfl, _⟩ := h
    rfl
  · obtain ⟨x, a, k, y, b, j, size, d, L, As, Bs, tau, rfl, hW, hO, hT, q⟩ := h
    have hxs := lvs_xs hO.nd hO.ndd hO.d3 hO.L1 hO.L2
    have hp := xs_ys hO.nd
    have hGx : XsG (L ^ d) (xsOf tau size d ((sortP (As ++ Bs)).map Pt.pa)) := hxs
    have hGy := hGx.perm hp
    obtain ⟨hchn, r0, l0, hr0, hfd0⟩ := runsM_chn (c := (1, 1)) hO.nd.okM
    have hrl := runsM_len (M := MD tau size) (d := d) (s := (sortP (As ++ Bs)).map Pt.pa) (c := (1, 1))
    have hRl : (runsM (MD tau size) d ((sortP (As ++ Bs)).map Pt.pa) (1, 1)).length ≤ 300 := by
      have := hGy.len
      unfold ysOf at this
      rwa [List.length_map] at this
    have hd3 := hO.d3
    have hrows : ∀ r ∈ runsM (MD tau size) d ((sortP (As ++ Bs)).map Pt.pa) (1, 1), (∀ p ∈ r.2, RowS p.1.2) ∧ r.2.length ≤ 6 := fun r hr => by
      have h1 : (chO (1, 1) r.1, r.2) ∈ (runsM (MD tau size) d ((sortP (As ++ Bs)).map Pt.pa) (1, 1)).map fun r => (chO (1, 1) r.1, r.2) := List.mem_map.mpr ⟨r, hr, rfl⟩
      have h2 := (lvs_perm (c := (1, 1)) hO.nd).mem_iff.mpr h1
      have h3 := lvs_rows hO.nd _ h2
      exact ⟨fun p hp => (h3.1 p hp).2, h3.2⟩
    have hys : ysOf tau size d ((sortP (As ++ Bs)).map Pt.pa) = (runsM (MD tau size) d ((sortP (As ++ Bs)).map Pt.pa) (1, 1)).map fun r => (r.2.map rf, chD r.1) := rfl
    generalize hRS : runsM (MD tau size) d ((sortP (As ++ Bs)).map Pt.pa) (1, 1) = RS at *
    refine ⟨_, (pss_cons (ps_set (i := 2) sc__law_explored.nd rfl (by first | exact Or.inl rfl | exact Or.inr rfl) (pe_make0 T.mk_Explorer (ok_Explorer_init T) (hr.mono (by decide)) (by rfl) T.mg_Explorer T.b_Explorer_init .nil pass0))
      (pss_cons (ps_for PassesOwn.never rfl (pi_range1 (by rfl) T.z_range (pa_cons pe_int pa_nil)) (pg_name (i := 3) sc__law_explored.nd rfl (by first | exact Or.inl rfl | exact Or.inr rfl)) (pss_cons (ps_if (pt_not (pt_val (pe_meth0 (pv 2) T.cl_Explorer T.me_Explorer_begin (ok_Explorer_begin T) (hr.mono (by decide)) T.b_Explorer_begin .nil passL))) (pss_one (ps_ret (pe_meth0 (pv 2) T.cl_Explorer T.me_Explorer_gathered (ok_Explorer_gathered T) (hr.mono (by decide)) T.b_Explorer_gathered .nil passL))) pss_nil)
      (pss_one (ps_expr (pe_meth (pv 2) T.cl_Explorer T.me_Explorer_end (ok_Explorer_end T) (hr.mono (by decide)) T.b_Explorer_end .nil pass0 (pa_cons (pe_meth0 (pe_meth (pv 0) T.cl_Optimal T.me_Optimal_merge (ok_Optimal_merge T) (hr.mono (by decide)) T.b_Optimal_merge .nil pass0 (pa_cons (pv 1) (pa_cons (pv 2) pa_nil))) T.cl_Optimal T.me_Optimal_view (ok_Optimal_view T) (hr.mono (by decide)) T.b_Optimal_view .nil pass0) pa_nil))))))
      (pss_one (ps_ret pe_non)))), ?_⟩
    walk_at "z0"
    walk_at "z"
    intro e dx ne nde nedx
    refine ⟨e, dx, rfl, upd_same, fun H7 p w np7 nw7 hpw k7 hX7 => ⟨rfl, ?_⟩⟩
    have kb7 : Kp [] H H7 := (Kp.made (M := []) ne nde).then1 k7 ne
    have nbe : H e = none := ne
    have nbp : H p = none := (Kp.made (M := []) ne nde).none nin0 np7
    have nbw : H w = none := (Kp.made (M := []) ne nde).none nin0 nw7
    have T7 := tabs_kp hT kb7
    walk_at "z"
    refine Z.forr 2000 rfl (by decide) (fun i σ' H' => ∃ (y3 : Option V) (p : Addr) (ps : List PI) (rs : List LRow) (m : Nat), σ' = [some (.ref x), some (.ref y), some (.ref e), y3] ∧ i ≤ RS.length ∧ Kp [] H H' ∧ Tabs (TBS T) H' ∧ Ex K T.C_Explorer H' e p w ps rs m false false ∧ H p = none ∧ ps.length ≤ 10 ∧ rs.map LRow.dat = ((RS.take i).map fun r => (r.2.map rf, chD r.1)).map (embG (vwD size)) ∧ (i = 0 ∨ ∃ j r, j + 1 = i ∧ RS[j]? = some r ∧ ps.map PI.dat = r.1)) ?_ ?_ ?_
    · exact ⟨_, p, [], [], 0, rfl, Nat.zero_le _, kb7, T7, hX7, nbp, by simp, rfl, .inl rfl⟩
    · clear hX7 T7 kb7 k7 np7 nw7 hpw nbp
      clear p
      rintro i σ' H1 hi ⟨y3, p, ps, rs, m, rfl, hile, k1, T1, hX1, nbp, hpl, hrs, hlast⟩
      have hrsl : rs.length = i := by
        have := congrArg List.length hrs
        rw [List.length_map, List.length_map, List.length_map, List.length_take] at this
        omega
      obtain ⟨dx1, o1⟩ := hX1.ob
      walk_at "z"
      refine ⟨e, dx1, _, rfl, o1, rfl, ?_⟩
      walk_at "z"
      by_cases hil : i < RS.length
      · obtain ⟨r, hr⟩ : ∃ r, RS[i]? = some r := ⟨RS[i], List.getElem?_eq_getElem hil⟩
        have hrm : r ∈ RS := List.mem_of_getElem? hr
        obtain ⟨q0, hq0, hfq⟩ : ∃ q0, beginD (ps.map PI.dat) rs = some q0 ∧ fdM (MD tau size) d ((sortP (As ++ Bs)).map Pt.pa) (1, 1) q0 = (r.1, some r.2) := by
          rcases hlast with h0 | ⟨j, r', hj, hr', hp'⟩
          · subst h0
            have : rs = [] := List.length_eq_zero_iff.mp hrsl
            subst this
            refine ⟨[], rfl, ?_⟩
            rw [hr0] at hr
            obtain rfl : r0 = r := Option.some.inj hr
            exact hfd0
          · obtain ⟨q0, e1, e2⟩ := hchn.step j r' r hr' (by rw [hj]; exact hr)
            refine ⟨q0, ?_, e2⟩
            cases rs with
            | nil => simp at hrsl; omega
            | cons a b =>
              show folL _ = _
              rw [hp']
              exact e1
        have hrl1 := hrl r hrm
        have hq4 : q0.length ≤ 3 := by
          obtain ⟨suf, e⟩ := fdM_pre hfq
          have := congrArg List.length e
          rw [List.length_append] at this
          omega
        refine ⟨e, p, w, ps, rs, m, false, false, rfl, hX1, by omega, (fun h => by cases h), (fun _ hno => by rw [hq0] at hno; cases hno), (fun _ D hD hl => by omega), fun _ D' hD' _ H2 p' ps' k2 hX2 np' hpd => ?_⟩
        obtain rfl : q0 = D' := Option.some.inj (hq0.symm.trans hD')
        have nbp' : H p' = none := k1.none nin0 np'
        have T2 := tabs_M T1 k2 fun y hy => hX1.noTab y (by rw [List.mem_singleton.mp hy]; simp)
        have k12 := thenN k1 k2 (by simp [nbe])
        have hpl2 : ps'.length ≤ 3 := by
          have := congrArg List.length hpd
          rw [List.length_map] at this
          omega
        clear hX1 T1 o1 np'
        walk_at "z"
        obtain ⟨dx2, o2⟩ := hX2.ob
        refine ⟨e, dx2, _, rfl, o2, rfl, ?_⟩
        have hW2 := hW.kp0 k12
        obtain ⟨dxA, oA⟩ := hW2.A.ins
        walk_at "z"
        refine ⟨x, dxA, _, rfl, oA, rfl, ?_⟩
        walk_at "z"
        refine ⟨x, a, k, y, b, j, e, p', w, size, d, As, Bs, tau, ps', rs, false, r.1, r.2, rfl, hW2.A, hW2.B, hW2.pA, hW2.pB, hO.sA, hO.sB, hO.l6, hO.s1, hO.s3, hO.tw, hO.d3, hO.nd, hX2, by omega, by rw [hpd]; exact hfq, by rw [hRS]; exact hrm, fun H3 z a' k' fs ps3 m3 k3 hX3 hp3 nz hZ hfs hfk => ?_⟩
        have hr6 := hrows r hrm
        have hfl : fs.length ≤ 6 := by
          have := congrArg List.length hfk
          rw [List.length_map] at this
          omega
        have k13 := thenN k12 k3 (by simp [nbe, nbp'])
        have T3 := tabs_M T2 k3 fun y hy => hX2.noTab y (by
          rcases List.mem_cons.mp hy with rfl | hy
          · simp
          · rw [List.mem_singleton.mp hy]; simp)
        obtain ⟨dz, oz⟩ := hZ.ins
        clear hX2 T2 o2 hW2 oA
        walk_at "z"
        refine ⟨z, dz, _, rfl, oz, rfl, ?_⟩
        walk_at "z"
        refine ⟨z, a', k', size, fs, rfl, hZ, by omega, fun H4 t u k4 et eu => ?_⟩
        have hX4 := hX3.kp0 k4
        have T4 := tabs_kp T3 k4
        have hdp : Dp K H4 (.ref t) (vwD size (r.2.map rf)) := by
          have h9 := dpPas (hfs.kp0 k4)
          rw [hfk] at h9
          exact .tup (tupT et) (.cons (.int _) (.cons (.tup (tupT eu) h9) .nil))
        have hok : DOk (vwD size (r.2.map rf)) := vw_ok fun x hx => by
          obtain ⟨p, hp, rfl⟩ := List.mem_map.mp hx
          exact hr6.1 p hp
        walk_at "z"
        refine ⟨e, p', w, ps3, rs, m3, true, false, .ref t, _, rfl, hX4, by omega, hdp, hok, fun H5 rr k5 hX5 hdat => ?_⟩
        walk_at "z"
        refine ⟨_, p', ps3, rs ++ [rr], m3, rfl, by omega, thenN (k13.trans k4) k5 (by simp [nbe, nbw]), tabs_M T4 k5 fun y hy => hX4.noTab y (by
          rcases List.mem_cons.mp hy with rfl | hy
          · simp
          · rw [List.mem_singleton.mp hy]; simp), hX5, nbp', ?_, ?_, .inr ⟨i, r, rfl, hr, hp3⟩⟩
        · have := congrArg List.length hp3
          rw [List.length_map] at this
          omega
        · rw [List.map_append, hrs, List.take_add_one, hr, List.map_append, List.map_append]
          congr 1
          show [rr.dat] = [embG (vwD size) (r.2.map rf, chD r.1)]
          rw [hdat, hp3]
          rfl
      · have hie : i = RS.length := by omega
        have hRS1 : 1 ≤ RS.length := by rw [hr0]; simp
        have hend : folL (ps.map PI.dat) = none := by
          rcases hlast with h0 | ⟨j, r', hj, hr', hp'⟩
          · omega
          · rw [hp']
            exact hchn.fin j r' (by omega) hr'
        have hbd : beginD (ps.map PI.dat) rs = none := by
          cases rs with
          | nil => simp at hrsl; omega
          | cons a b => exact hend
        refine ⟨e, p, w, ps, rs, m, false, false, rfl, hX1, by omega, (fun h => by cases h), fun _ _ H2 k2 hX2 => ?_, (fun _ D hD => by rw [hbd] at hD; cases hD), (fun _ D hD => by rw [hbd] at hD; cases hD)⟩
        have T2 := tabs_M T1 k2 fun y hy => hX1.noTab y (by rw [List.mem_singleton.mp hy]; simp)
        have k12 := thenN k1 k2 (by simp [nbe])
        obtain ⟨dx2, o2⟩ := hX2.ob
        have hrs' : rs.map LRow.dat = (ysOf tau size d ((sortP (As ++ Bs)).map Pt.pa)).map (embG (vwD size)) := by
          rw [hrs, List.take_of_length_le (by omega), hys]
        have hli := law_in27 (K := K) (dk := vwD size) (fun ks => vw_keys ks) hGy hrs' hX2.rat
        walk_at "z"
        refine ⟨e, dx2, _, rfl, o2, rfl, ?_⟩
        walk_at "z"
        refine ⟨e, p, w, ps, rs, m, false, true, rfl, hX2, (fun h => by cases h), fun _ => ⟨T2, hli.1, hli.2, fun H3 b' out nb e3 T3 hb3 hA3 hd3 => ?_⟩⟩
        walk_at "z"
        exact q H3 b' out ((ext_kp k12).trans e3) T3 hb3 hA3 (hd3.trans (law_gathG (vw_ord size) vw_eqv hrs' hp fun x hx => ⟨(hGx.dw x hx).1, hGx.pos x hx⟩))
    · rintro σ' H1 ⟨y3, p, ps, rs, m, rfl, hile, _⟩
      omega
end exd27

set_option maxHeartbeats 20000000
section law27
variable {K : PySem.W.Frag}
open LamX hiding takes0
open LamK
theorem cut_mid {xs : List V} {a b : Nat} (h1 : a ≤ b) (h2 : b ≤ xs.length) : cutV xs (some (a : Int)) (some (b : Int)) = (xs.drop a).take (b - a) := by
  unfold cutV
  rw [HT.sIx_nat, HT.sIx_nat, Nat.min_eq_left (show a ≤ xs.length by omega), Nat.min_eq_left h2]
theorem OptAt.ext {C : Addr} {H H' : Hp} {x a k : Addr} {size : Int} {ps : List Pt} (h : OptAt C H x a k size ps) (e : ExtN H H') : OptAt C H' x a k size ps := let ⟨⟨dx, h1⟩, h2, h3⟩ := h; ⟨⟨dx, ext_get e h1⟩, ext_get e h2, ext_get e h3⟩
theorem TwoAt.ext {C : Addr} {H H' : Hp} {x a k y b j : Addr} {size : Nat} {As Bs : List Pt} (h : TwoAt K C H x a k y b j size As Bs) (e : ExtN H H') : TwoAt K C H' x a k y b j size As Bs := ⟨h.A.ext e, h.B.ext e, h.pA.ext e, h.pB.ext e⟩
/-! rows as data -/
def rowP (x : PyData × Fr) : PyData := .tuple [x.1, frD x.2]
theorem dpLRow {H : Hp} {r : LRow} (h : LRowAt K H r) : Dp K H r.r (rowP r.dat) := .tup h.tup (.cons h.dp (.cons (dpF h.fr) .nil))
theorem dpLRows {H : Hp} : ∀ {rs : List LRow}, (∀ r ∈ rs, LRowAt K H r) → DpAll K H (rs.map LRow.r) ((rs.map LRow.dat).map rowP)
  | [], _ => .nil
  | r :: rs, h => .cons (dpLRow (h r (by simp))) (dpLRows fun x hx => h x (by simp [hx]))
theorem lay_xs {size : Nat} : ∀ {xs : List XF}, (∀ x ∈ xs, ∀ y ∈ x.1, RowS y.1) → PyData.canLayAll0 ((xs.map (embG (vwD size))).map rowP) = true
  | [], _ => by simp [PyData.canLayAll0]
  | x :: r, h => by
    have ih := lay_xs (size := size) (xs := r) fun y hy => h y (by simp [hy])
    have h1 : PyData.canLay0 (vwD size x.1) = true := SeqAt.canLay_of_shaped (vw_ok (h x (by simp))).sh
    show PyData.canLayAll0 (rowP (embG (vwD size) x) :: (r.map (embG (vwD size))).map rowP) = true
    have e : PyData.canLay0 (rowP (embG (vwD size) x)) = true := by simp [rowP, embG, frD, PyData.canLay0, PyData.canLayAll0, h1]
    rw [PyData.canLayAll0, e, ih]; rfl
theorem depth_xs {size : Nat} : ∀ xs : List XF, PyData.depthAll ((xs.map (embG (vwD size))).map rowP) ≤ 6
  | [] => by simp [PyData.depthAll]
  | x :: r => by
    have ih := depth_xs (size := size) r
    have h1 := rfs_depth x.1
    show PyData.depthAll (rowP (embG (vwD size) x) :: (r.map (embG (vwD size))).map rowP) ≤ 6
    have e : (rowP (embG (vwD size) x)).depth ≤ 6 := by
      simp [rowP, embG, vwD, frD, PyData.depth, PyData.depthAll]
      omega
    rw [PyData.depthAll]
    omega
theorem sh_xs {size : Nat} {xs : List XF} (h : ∀ x ∈ xs, ∀ y ∈ x.1, RowS y.1) : SeqAt.shaped (.list ((xs.map (embG (vwD size))).map rowP)) = true := by
  have := depth_xs (size := size) xs
  simp only [SeqAt.shaped, PyData.canLay0, PyData.depth, lay_xs h, Bool.true_and]
  exact decide_eq_true (by omega)
theorem eqv_xs {size : Nat} {xs : List XF} (h : ∀ x ∈ xs, ∀ y ∈ x.1, RowS y.1) : PyData.eqv (.list ((xs.map (embG (vwD size))).map rowP)) (.list ((xs.map (embG (vwD size))).map rowP)) = true := SeqAt.eqv_refl _ (by rw [PyData.canLay0]; exact lay_xs h)
theorem lawN_rows {size : Nat} {xs : List XF} (h : ∀ x ∈ xs, ∀ y ∈ x.1, RowS y.1) : ∀ x ∈ lawN size xs, ∀ y ∈ x.1, RowS y.1 := fun x hx => by
  unfold lawN at hx
  obtain ⟨y, hy, e⟩ := gsum_key27 ((List.mergeSort_perm _ _).mem_iff.mp hx)
  rw [← e]
  exact h y hy
theorem eqView {H : Hp} {Q : VK} {t u t2 u2 : Addr} {size : Nat} {As Bs : List Pt} (h1 : H t = some (.tup [.int size, .ref u])) (h2 : H u = some (.tup (prefs As))) (g1 : H t2 = some (.tup [.int size, .ref u2])) (g2 : H u2 = some (.tup (prefs Bs))) (hA : PtsAt K H As) (hB : PtsAt K H Bs) (e : As.map Pt.pa = Bs.map Pt.pa) (s : ∀ z ∈ psx As, RowS z.2) (q : Q (.bl true) H) : rEqD K (.ref t) (.ref t2) H Q := by
  have d1 : Dp K H (.ref t) (vwD size ((As.map Pt.pa).map rf)) := .tup (tupT h1) (.cons (.int _) (.cons (.tup (tupT h2) (dpPas hA)) .nil))
  have d2 : Dp K H (.ref t2) (vwD size ((Bs.map Pt.pa).map rf)) := .tup (tupT g1) (.cons (.int _) (.cons (.tup (tupT g2) (dpPas hB)) .nil))
  have ok : DOk (vwD size ((As.map Pt.pa).map rf)) := vw_ok fun x hx => by
    obtain ⟨p, hp, rfl⟩ := List.mem_map.mp hx
    obtain ⟨z, hz, rfl⟩ := List.mem_map.mp hp
    exact s z.x (List.mem_map.mpr ⟨z, hz, rfl⟩)
  rw [← e] at d2
  refine ⟨_, _, d1, d2, ok.sh, ok.sh, ?_⟩
  rw [vw_eqv, decide_eq_true rfl]
  exact q
def kX (ps : List (Addr × Row)) : List Str := ps.map fun x => x.2.k
theorem items_nodup {ps : List (Addr × Row)} (hl : ps.length ≤ 7) (h : ∀ (i : Nat) (x : Addr × Row), ps[i]? = some x → Row7 i x.2) : (kX ps).Nodup := by
  refine List.pairwise_iff_getElem.mpr fun i j hi hj hij => ?_
  unfold kX at hi hj
  rw [List.length_map] at hi hj
  unfold kX
  rw [List.getElem_map, List.getElem_map]
  have h1 := (h i _ (List.getElem?_eq_getElem hi)).k
  have h2 := (h j _ (List.getElem?_eq_getElem hj)).k
  rw [h1, h2]
  intro e
  have := key7_inj (by omega) (by omega) e
  omega
/-- what stands of both samples -/
theorem two_ok {ps : List (Addr × Row)} (hl : ps.length = 6) (h7 : ∀ (i : Nat) (x : Addr × Row), ps[i]? = some x → Row7 i x.2) {size m n : Nat} (s1 : 1 ≤ size) (s3 : size ≤ 3) (hm : m ≤ size) (hn : n ≤ size) {As Bs : List Pt} (hA : PartsOk (ps.take m) As) (hB : PartsOk ((ps.drop 3).take n) Bs) : ∃ L tau, TwoOk size ((As ++ Bs).length - size) L As Bs tau := by
  have hrow : ∀ x ∈ ps, RowS x.2 := fun x hx => by
    obtain ⟨i, hi⟩ := List.mem_iff_getElem?.mp hx
    have hil := (List.getElem?_eq_some_iff.mp hi).1
    exact (h7 i x hi).s (by omega)
  have mA : ∀ z ∈ psx As, z ∈ ps := fun z hz => by
    rw [hA.rows] at hz
    exact List.mem_of_mem_take ((sortR_perm _).mem_iff.mp hz)
  have mB : ∀ z ∈ psx Bs, z ∈ ps := fun z hz => by
    rw [hB.rows] at hz
    exact List.mem_of_mem_drop (List.mem_of_mem_take ((sortR_perm _).mem_iff.mp hz))
  have lA : As.length = m := by
    have := congrArg List.length hA.rows
    rw [sortR_len, List.length_take] at this
    unfold psx at this
    rw [List.length_map] at this
    omega
  have lB : Bs.length = n := by
    have := congrArg List.length hB.rows
    rw [sortR_len, List.length_take, List.length_drop] at this
    unfold psx at this
    rw [List.length_map] at this
    omega
  have hnd0 := items_nodup (by omega) h7
  have hsub : (ps.take m ++ (ps.drop 3).take n).Sublist ps := by
    have h1 : (ps.take m).Sublist (ps.take 3) := by
      rw [show ps.take m = (ps.take 3).take m by rw [List.take_take, Nat.min_eq_left (by omega)]]
      exact List.take_sublist _ _
    have h2 := h1.append (List.take_sublist n (ps.drop 3))
    rwa [List.take_append_drop] at h2
  have hnd1 : (kX (ps.take m ++ (ps.drop 3).take n)).Nodup := hnd0.sublist (hsub.map _)
  have hperm : (psx As ++ psx Bs).Perm (ps.take m ++ (ps.drop 3).take n) := by
    rw [hA.rows, hB.rows]
    exact (sortR_perm _).append (sortR_perm _)
  have hnd : (kX (psx As ++ psx Bs)).Nodup := (hperm.map _).nodup_iff.mpr hnd1
  have hAB : ∀ z ∈ As ++ Bs, Low z.f ∧ 0 < z.f.1 ∧ DenB 12 14 (rv z.f) ∧ RowS z.x.2 := fun z hz => by
    rcases List.mem_append.mp hz with h | h
    · obtain ⟨a, b, c⟩ := hA.ok z h
      exact ⟨a, b, c, hrow _ (mA z.x (List.mem_map.mpr ⟨z, h, rfl⟩))⟩
    · obtain ⟨a, b, c⟩ := hB.ok z h
      exact ⟨a, b, c, hrow _ (mB z.x (List.mem_map.mpr ⟨z, h, rfl⟩))⟩
  have l6 : (As ++ Bs).length ≤ 6 := by rw [List.length_append]; omega
  have hsp := sortP_perm (As ++ Bs)
  have hG : XG ((sortP (As ++ Bs)).map Pt.pa) := by
    refine ⟨?_, by rw [List.length_map, hsp.length_eq]; exact l6, fun p hp => ?_⟩
    · have h1 : (((sortP (As ++ Bs)).map Pt.pa).map fun p : Pa => p.1.2.k).Nodup := by
        rw [List.map_map]
        have h2 := (hsp.map (fun z : Pt => z.x.2.k)).nodup_iff.mpr (by
          have h3 : (As ++ Bs).map (fun z : Pt => z.x.2.k) = kX (psx As ++ psx Bs) := by
            unfold kX psx
            rw [← List.map_append, List.map_map]
            rfl
          rw [h3]
          exact hnd)
        exact h2
      exact (List.pairwise_map.mp h1).imp fun h e => h (by rw [e])
    · obtain ⟨z, hz, rfl⟩ := List.mem_map.mp hp
      exact hAB z (hsp.mem_iff.mp hz)
  obtain ⟨tau, L, h1, h2, h3, h4⟩ := nd_ex hG s1 (d := (As ++ Bs).length - size) (by rw [List.length_map, hsp.length_eq])
  refine ⟨L, tau, fun z hz => hrow z (mA z hz), fun z hz => hrow z (mB z hz), l6, s1, s3, ?_, by rw [List.length_append]; omega, h1, h2, h3, h4⟩
  refine twice_nodup ?_
  have e : keysOf [psx As, psx Bs] = kX (psx As ++ psx Bs) := by
    unfold keysOf kX
    simp
  rw [e]
  exact hnd
def spLaw (K : PySem.W.Frag) (P1 P2 : Addr) : Sp := fun vs H Q _ => ∃ (a : Addr) (ns : List Int), vs = [.ref a] ∧ SqL K H a (ns.map V.int) ∧ ns.length ≤ 63 ∧ (∀ z ∈ ns, Builtin.Int.intBits z ≤ 1048576) ∧ Tabs [(P1, "law_from.<locals>.<lambda>"), (P2, "_law_threshold.<locals>.<lambda>")] H ∧ ∀ H', Q (.bl true) H'
theorem spLaw_in {K : PySem.W.Frag} {P1 P2 : Addr} (H : Hp) (a : Addr) (ns : List Int) (h1 : ns.length ≤ 63) (h2 : ∀ z ∈ ns, Builtin.Int.intBits z ≤ 1048576) (hP1 : H P1 = some (.tbl #[])) (hP2 : H P2 = some (.tbl #[])) (hS : SqL K H a (ns.map V.int)) : spLaw K P1 P2 [.ref a] H (fun v _ => v = .bl true) fun _ _ _ => False :=
  ⟨a, ns, rfl, hS, h1, h2, fun p hp => by
    rcases List.mem_cons.mp hp with rfl | hp
    · exact TabS.nil hP1
    · rw [List.mem_singleton.mp hp]; exact TabS.nil hP2, fun _ => rfl⟩
theorem draws_tabs {TB : List (Addr × Str)} {H H' : Hp} {a : Addr} (t : Tabs TB H) (d : DrawsAt H a) (k : Kp [a] H H') : Tabs TB H' := let ⟨_, e⟩ := d; tabs_put t k e
theorem ok_law {P : Program} {w : World} {K : PySem.W.Frag} {mg : Str → Option Value} {base : Heap} (T : T P K mg base) : FnOk P w K mg base CX0 10 T.a_law T.fd_law ["script"] (spLaw K T.P_law_from T.P__law_threshold) := by
  refine T.F_law.ok sc_law (fun vs H Q E h => ?_) (fun cdv A outer s H vs Q E hr h => ?_)
  · obtain ⟨c, ns, rfl, _⟩ := h
    rfl
  · obtain ⟨c, ns, rfl, hS, hl, hbit, hT, q⟩ := h
    have hT : Tabs (TBS T) H := hT
    refine ⟨_, (pss_cons (ps_set (i := 1) sc_law.nd rfl (by first | exact Or.inl rfl | exact Or.inr rfl) (pe_call (ok__law_numbers T) (hr.mono (by decide)) (by rfl) T.g__law_numbers T.F__law_numbers.kp T.b__law_numbers .nil pass0 (pa_cons (pv 0) (pa_cons pe_int pa_nil))))
      (pss_cons (ps_set (i := 2) sc_law.nd rfl (by first | exact Or.inl rfl | exact Or.inr rfl) (pe_op op_add pe_int (pe_call (ok__law_take T) (hr.mono (by decide)) (by rfl) T.g__law_take T.F__law_take.kp T.b__law_take .nil pass0 (pa_cons (pv 1) (pa_cons pe_int pa_nil)))))
      (pss_cons (ps_set (i := 3) sc_law.nd rfl (by first | exact Or.inl rfl | exact Or.inr rfl) (pe_call (ok__law_items T) (hr.mono (by decide)) (by rfl) T.g__law_items T.F__law_items.kp T.b__law_items .nil pass0 (pa_cons (pv 1) (pa_cons pe_int pa_nil))))
      (pss_cons (ps_set (i := 4) sc_law.nd rfl (by first | exact Or.inl rfl | exact Or.inr rfl) (pe_call (ok__law_take T) (hr.mono (by decide)) (by rfl) T.g__law_take T.F__law_take.kp T.b__law_take .nil pass0 (pa_cons (pv 1) (pa_cons (pe_op op_add (pv 2) pe_int) pa_nil))))
      (pss_cons (ps_set (i := 5) sc_law.nd rfl (by first | exact Or.inl rfl | exact Or.inr rfl) (pe_call (ok__law_parts T) (hr.mono (by decide)) (by rfl) T.g__law_parts T.F__law_parts.kp T.b__law_parts .nil pass0 (pa_cons (pv 1) (pa_cons (pe_slice sl_list (pv 3) po_none (po_some (pv 4))) pa_nil))))
      (pss_cons (ps_set (i := 6) sc_law.nd rfl (by first | exact Or.inl rfl | exact Or.inr rfl) (pe_call (ok__law_parts T) (hr.mono (by decide)) (by rfl) T.g__law_parts T.F__law_parts.kp T.b__law_parts .nil pass0 (pa_cons (pv 1) (pa_cons (pe_slice sl_list (pv 3) (po_some pe_int) (po_some (pe_op op_add pe_int (pe_call (ok__law_take T) (hr.mono (by decide)) (by rfl) T.g__law_take T.F__law_take.kp T.b__law_take .nil pass0 (pa_cons (pv 1) (pa_cons (pe_op op_add (pv 2) pe_int) pa_nil)))))) pa_nil))))
      (pss_cons (ps_set (i := 7) sc_law.nd rfl (by first | exact Or.inl rfl | exact Or.inr rfl) (pe_make T.mk_Optimal (ok_Optimal_init T) (hr.mono (by decide)) (by rfl) T.mg_Optimal T.b_Optimal_init .nil pass0 (pa_cons (pv 2) (pa_cons (pv 5) pa_nil))))
      (pss_cons (ps_set (i := 8) sc_law.nd rfl (by first | exact Or.inl rfl | exact Or.inr rfl) (pe_make T.mk_Optimal (ok_Optimal_init T) (hr.mono (by decide)) (by rfl) T.mg_Optimal T.b_Optimal_init .nil pass0 (pa_cons (pv 2) (pa_cons (pv 6) pa_nil))))
      (pss_cons (ps_set (i := 9) sc_law.nd rfl (by first | exact Or.inl rfl | exact Or.inr rfl) (pe_call (ok__law_law T) (hr.mono (by decide)) (by rfl) T.g__law_law T.F__law_law.kp T.b__law_law .nil pass0 (pa_cons (pe_lc (own := [("chance", 10), ("parts", 11)]) (g := gTup K 2 (gCons (gName 10) (gCons (gName 11) gNil))) rfl sc_law.nd (pi_list (pe_call (ok__law_dropped T) (hr.mono (by decide)) (by rfl) T.g__law_dropped T.F__law_dropped.kp T.b__law_dropped .nil pass0 (pa_cons (pe_tup (pa_cons pe_int (pa_cons pe_int pa_nil))) (pa_cons (pe_op op_cat (pv 5) (pv 6)) (pa_cons (pv 2) pa_nil))))) (blkOk_by (own := [("chance", 10), ("parts", 11)]) (N := N_law) (sc := defScope s_law) (by decide +kernel)) (fun _ _ _ _ _ => (pg_tup rfl (pgs_cons (pg_name (i := 10) sc_law.nd rfl (by first | exact Or.inl rfl | exact Or.inr rfl)) (pgs_cons (pg_name (i := 11) sc_law.nd rfl (by first | exact Or.inl rfl | exact Or.inr rfl)) pgs_nil)))) (fun _ _ _ _ _ => pts_nil) (fun _ _ _ _ _ => (pe_tup (pa_cons (pe_tup (pa_cons (pv 2) (pa_cons (pe_callTy (c_tuple : CallR _ _ (Z.rTupN K)) (by rfl) T.z_tuple (by decide +kernel) (pa_cons (pv 11) pa_nil)) pa_nil))) (pa_cons (pv 10) pa_nil))))) pa_nil)))
      (pss_cons (ps_if (pt_cmpR (op_neD hr.units) (pe_call (ok__law_explored T) (hr.mono (by decide)) (by rfl) T.g__law_explored T.F__law_explored.kp T.b__law_explored .nil pass0 (pa_cons (pv 7) (pa_cons (pv 8) pa_nil))) (pv 9) (nomark _)) (pss_one (ps_ret pe_bl)) pss_nil)
      (pss_one (ps_ret (pe_and (pe_cmpR (op_eqD hr.units) (pe_meth0 (pv 7) T.cl_Optimal T.me_Optimal_view (ok_Optimal_view T) (hr.mono (by decide)) T.b_Optimal_view .nil pass0) (pe_tup (pa_cons (pv 2) (pa_cons (pe_callTy c_tuple (by rfl) T.z_tuple (by decide +kernel) (pa_cons (pv 5) pa_nil)) pa_nil))) (nomark _)) (pe_one (pe_cmpR (op_eqD hr.units) (pe_meth0 (pv 8) T.cl_Optimal T.me_Optimal_view (ok_Optimal_view T) (hr.mono (by decide)) T.b_Optimal_view .nil pass0) (pe_tup (pa_cons (pv 2) (pa_cons (pe_callTy c_tuple (by rfl) T.z_tuple (by decide +kernel) (pa_cons (pv 6) pa_nil)) pa_nil))) (nomark _)))))))))))))))), ?_⟩
    walk_at "z0"
    walk_at "z"
    refine ⟨c, ns, 90, rfl, hS, by decide, hbit, fun a H1 na k1 d1 => ?_⟩
    have T1 := tabs_kp hT k1
    walk_at "z"
    refine ⟨a, 3, rfl, d1, by decide, by decide, fun H2 v hv0 hv1 k2 d2 => ?_⟩
    have T2 := draws_tabs T1 d1 k2
    obtain ⟨size, hsz⟩ : ∃ s : Nat, 1 + v = (s : Int) := ⟨(1 + v).toNat, by omega⟩
    have s1 : 1 ≤ size := by omega
    have s3 : size ≤ 3 := by omega
    walk_at "z"
    rw [hsz]
    refine ⟨a, 6, rfl, d2, by decide, fun H3 p ps np I3 => ?_⟩
    have T3 := draws_tabs T2 d2 I3.kp
    have hpl := I3.len
    walk_at "z"
    refine ⟨a, (size : Int) + 1, rfl, I3.dr, by omega, by omega, fun H4 mv hm0 hm1 k4 d4 => ?_⟩
    have T4 := draws_tabs T3 I3.dr k4
    obtain ⟨m, rfl⟩ : ∃ m : Nat, mv = (m : Int) := ⟨mv.toNat, by omega⟩
    have nap : a ≠ p := fun z => by
      obtain ⟨xs, e⟩ := d2
      rw [z, np] at e
      cases e
    have hp4 := k4.get (nin1 nap.symm) I3.at_
    have R4 := I3.rows.kpd k4 I3.dr
    have hw : ∀ x ∈ ps, 1 ≤ x.2.w ∧ x.2.w ≤ 1000 := fun x hx => by
      obtain ⟨i, hi⟩ := List.mem_iff_getElem?.mp hx
      exact ⟨(I3.ok i x hi).w0, (I3.ok i x hi).w1⟩
    walk_at "z"
    refine Z.slL (lstL hp4) (fun l1 H5 nl1 k5 e5 => ?_)
    rw [Z.cut_take (by rw [refs_len]; omega)] at e5
    have e5 : H5 l1 = some (.lst (refs (ps.take m))) := by rw [e5]; unfold refs; rw [List.map_take]
    walk_at "z"
    refine ⟨a, l1, ps.take m, rfl, d4.kp0 k5, e5, fun x hx => (R4.kp0 k5) x (List.mem_of_mem_take hx), by rw [List.length_take]; omega, fun x hx => hw x (List.mem_of_mem_take hx), fun H6 f1 As nf1 k6 d6 e6 P6 O6 => ?_⟩
    have T6 := draws_tabs (tabs_kp T4 k5) (d4.kp0 k5) k6
    have naf : a ≠ f1 := (d4.kp0 k5).ne nf1
    have hp6 := k6.get (nin1 nap.symm) (k5.get nin0 hp4)
    have R6 := (R4.kp0 k5).kpd k6 (d4.kp0 k5)
    walk_at "z"
    refine ⟨a, (size : Int) + 1, rfl, d6, by omega, by omega, fun H7 nv hn0 hn1 k7 d7 => ?_⟩
    have T7 := draws_tabs T6 d6 k7
    obtain ⟨n, rfl⟩ : ∃ n : Nat, nv = (n : Int) := ⟨nv.toNat, by omega⟩
    have hp7 := k7.get (nin1 nap.symm) hp6
    have R7 := R6.kpd k7 d6
    have P7 := P6.kpd k7 d6
    have e7 := k7.get (nin1 naf.symm) e6
    walk_at "z"
    rw [show (3 : Int) + (n : Int) = ((3 + n : Nat) : Int) by omega]
    refine Z.slL (lstL hp7) (fun l2 H8 nl2 k8 e8 => ?_)
    have e8 : H8 l2 = some (.lst (refs ((ps.drop 3).take n))) := by
      rw [e8]
      have := cut_mid (xs := refs ps) (a := 3) (b := 3 + n) (by omega) (by rw [refs_len]; omega)
      rw [show ((3 : Nat) : Int) = 3 by rfl] at this
      rw [this, show 3 + n - 3 = n by omega]
      unfold refs
      rw [List.map_take, List.map_drop]
    walk_at "z"
    refine ⟨a, l2, (ps.drop 3).take n, rfl, d7.kp0 k8, e8, fun x hx => (R7.kp0 k8) x (List.mem_of_mem_drop (List.mem_of_mem_take hx)), by rw [List.length_take]; omega, fun x hx => hw x (List.mem_of_mem_drop (List.mem_of_mem_take hx)), fun H9 f2 Bs nf2 k9 d9 e9 P9 O9 => ?_⟩
    have T9 := draws_tabs (tabs_kp T7 k8) (d7.kp0 k8) k9
    have PA9 := (P7.kp0 k8).kpd k9 (d7.kp0 k8)
    have eA9 := k9.get (nin1 naf.symm) (k8.get nin0 e7)
    obtain ⟨L, tau, hO⟩ := two_ok hpl I3.ok s1 s3 (by omega) (by omega) O6 O9
    have lAB := hO.l6
    rw [List.length_append] at lAB
    clear k1 k2 k4 k5 k6 k7 k8 k9 d1 d2 d4 d6 d7 d9 T1 T2 T3 T4 T6 T7 hp4 hp6 hp7 R4 R6 R7 I3 e5 e8 P6 P7 e6 e7 O6 O9 na np nl1 nl2 nf1 nf2 hsz hS
    walk_at "z"
    intro x dx nx ndx hdx
    have kx := Kp.made (M := []) (o := .ins T.C_Optimal dx []) (u := .own x) nx ndx
    refine ⟨x, f1, dx, (size : Int), As, rfl, upd_same, kx.get nin0 eA9, PA9.kp0 kx, by omega, fun H10 aA kA naA nkA k10 hA10 => ⟨rfl, ?_⟩⟩
    obtain ⟨_, _, kxx⟩ := made_new (Kp.refl _) nx ndx hdx nkA k10
    have eA10 := kxx.get nin0 eA9
    have eB10 := kxx.get nin0 e9
    have PA10 := PA9.kp0 kxx
    have PB10 := P9.kp0 kxx
    have T10 := tabs_kp T9 kxx
    clear kx k10 kxx eA9 e9 PA9 P9 T9 nx ndx hdx naA nkA
    walk_at "z"
    intro y dy ny ndy hdy
    have ky := Kp.made (M := []) (o := .ins T.C_Optimal dy []) (u := .own y) ny ndy
    refine ⟨y, f2, dy, (size : Int), Bs, rfl, upd_same, ky.get nin0 eB10, PB10.kp0 ky, by omega, fun H11 aB kB naB nkB k11 hB11 => ⟨rfl, ?_⟩⟩
    obtain ⟨_, _, kyy⟩ := made_new (Kp.refl _) ny ndy hdy nkB k11
    have eA11 := kyy.get nin0 eA10
    have eB11 := kyy.get nin0 eB10
    have W11 : TwoAt K T.C_Optimal H11 x aA kA y aB kB size As Bs := ⟨hA10.kp0 kyy, hB11, PA10.kp0 kyy, PB10.kp0 kyy⟩
    have T11 := tabs_kp T10 kyy
    clear ky k11 kyy eA10 eB10 PA10 PB10 T10 hA10 hB11 ny ndy hdy naB nkB
    walk_at "z"
    refine Z.tupK (fun o H12 no k12 e12 => ?_)
    walk_at "z"
    refine Z.cat (xs := prefs As) (zs := prefs Bs) (k12.get nin0 eA11) (k12.get nin0 eB11) (by rw [prefs_len, prefs_len]; omega) (fun l3 H13 nl3 k13 e13 => ?_)
    rw [← prefs_app] at e13
    have k1213 := k12.trans k13
    have W13 := W11.kp0 k1213
    have hAB13 : PtsAt K H13 (As ++ Bs) := fun z hz => by
      rcases List.mem_append.mp hz with h | h
      · exact W13.pA z h
      · exact W13.pB z h
    have hABo : ∀ z ∈ As ++ Bs, OkF z.f ∧ RowS z.x.2 := fun z hz => hO.nd.ok.2 z.pa (List.mem_map.mpr ⟨z, (sortP_perm _).mem_iff.mpr hz, rfl⟩)
    walk_at "z"
    refine ⟨o, l3, tau, As ++ Bs, size, (As ++ Bs).length - size, rfl, tabs_kp T11 k1213, (show FrAt K H12 o (1, 1) from tupT e12).kp0 k13, e13, hAB13, hABo, hO.l6, s1, s3, hO.d3, hO.nd, fun H14 D ts ms nD e14 T14 eD FD hms => ?_⟩
    have W14 := W13.ext e14
    have eA14 := ext_get e14 (k1213.get nin0 eA11)
    have eB14 := ext_get e14 (k1213.get nin0 eB11)
    clear W13 W11 T11 eA11 eB11 k12 k13 k1213 e12 e13 hAB13 e14 nD no nl3
    have hxs := lvs_xs hO.nd hO.ndd hO.d3 hO.L1 hO.L2
    have hlr := fun m hm => lvs_rows (c := (1, 1)) hO.nd m hm
    rw [← hms] at hxs hlr
    have hms300 : ms.length ≤ 300 := by
      have := hxs.len
      rwa [List.length_map] at this
    walk_at "z"
    refine Z.lcl (ts.map V.ref) (lstL eD) (fun E i H' => ∃ rs : List LRow, Kp [] H14 H' ∧ H' E = some (.lst (rs.map LRow.r)) ∧ (∀ r ∈ rs, LRowAt K H' r) ∧ rs.map LRow.dat = ((ms.take i).map lfX).map (embG (vwD size))) ?_ ?_ ?_ ?_
    · intro E H15 nE k15 e15
      exact ⟨[], k15, e15, by simp, rfl⟩
    · rintro E i H15 nE hi ⟨rs, k15, e15, A15, d15⟩
      exact lstL (k15.get nin0 eD)
    · rintro E i v H15 nE hv ⟨rs, k15, e15, A15, d15⟩
      obtain ⟨t, mm, rfl, hm, Lm⟩ := (FD.kp0 k15).get hv
      obtain ⟨cA, l', pts, ht', hcA, hl', hP', hqm, _⟩ := id Lm
      have hmm := List.mem_of_getElem? hm
      have him := (List.getElem?_eq_some_iff.mp hm).1
      obtain ⟨hr1, hr2⟩ := hlr mm hmm
      have hrl : rs.length ≤ i := by
        have := congrArg List.length d15
        rw [List.length_map, List.length_map, List.length_map, List.length_take] at this
        omega
      dsimp only [wipe, List.set]
      refine Z.gtup (tupT ht') rfl ?_
      walk_at "z"
      refine ⟨rfl, ?_⟩
      walk_at "z"
      refine ⟨l', prefs pts, rfl, .inl ⟨lstL hl', fun u nu => ?_⟩⟩
      have k16 : Kp [] H15 (upd H15 u (.tup (prefs pts))) := Kp.new nu
      have e16 : upd H15 u (.tup (prefs pts)) u = some (.tup (prefs pts)) := upd_same
      generalize upd H15 u (.tup (prefs pts)) = H16 at k16 e16 ⊢
      walk_at "z"
      refine Z.tupK (fun ot H17 not k17 e17 => ?_)
      walk_at "z"
      refine Z.tupK (fun rt H18 nrt k18 e18 => ?_)
      have k1518 := (k16.trans k17).trans k18
      have hdp : Dp K H18 (.ref ot) (vwD size (mm.2.map rf)) := by
        have h9 := dpPas (hP'.kp0 k1518)
        rw [hqm] at h9
        exact .tup (tupT (k18.get nin0 e17)) (.cons (.int _) (.cons (.tup (tupT ((k17.trans k18).get nin0 e16)) h9) .nil))
      have hok : DOk (vwD size (mm.2.map rf)) := vw_ok fun z hz => by
        obtain ⟨p, hp, rfl⟩ := List.mem_map.mp hz
        exact (hr1 p hp).2
      have hrow : LRowAt K H18 ⟨rt, .ref ot, vwD size (mm.2.map rf), cA, mm.1⟩ := ⟨tupT e18, hdp, hcA.kp0 k1518, hok⟩
      have e18D := k1518.get nin0 e15
      refine ⟨_, e18D, Z.szl (m := 100000) (by rw [List.length_map]; omega), rs ++ [⟨rt, .ref ot, vwD size (mm.2.map rf), cA, mm.1⟩], (k15.trans k1518).mut nE rfl, by rw [upd_same, List.map_append]; rfl, fun g hg => ?_, ?_⟩
      · have kE : Kp [E] H18 (upd H18 E (.lst (rs.map LRow.r ++ [.ref rt]))) := Kp.put (by simp)
        rcases List.mem_append.mp hg with hg | hg
        · exact ((A15 g hg).kp0 k1518).kpl kE e18D
        · rw [List.mem_singleton.mp hg]
          exact hrow.kpl kE e18D
      · rw [List.map_append, d15, List.take_add_one, hm, List.map_append, List.map_append]
        rfl
    rintro E H15 nE ⟨rs, k15, e15, A15, d15⟩
    rw [List.length_map, FD.len, List.take_length] at d15
    have hrowsX : ∀ x ∈ ms.map lfX, ∀ y ∈ x.1, RowS y.1 := fun x hx y hy => by
      obtain ⟨m, hm, rfl⟩ := List.mem_map.mp hx
      obtain ⟨p, hp, rfl⟩ := List.mem_map.mp hy
      exact ((hlr m hm).1 p hp).2
    walk_at "z"
    refine ⟨E, size, rs, ms.map lfX, _, rfl, lstL e15, A15, d15, hxs, hrowsX, fun H16 due out1 nd1 k16 e16 A16 d16 => ?_⟩
    have k1516 := k15.trans k16
    have W16 := W14.kp0 k1516
    have eA16 := k1516.get nin0 eA14
    have eB16 := k1516.get nin0 eB14
    have T16 := tabs_kp T14 k1516
    clear W14 eA14 eB14 T14 k15 k16 k1516 e15 A15 d15 FD eD
    walk_at "z"
    refine ⟨x, aA, kA, y, aB, kB, size, (As ++ Bs).length - size, L, As, Bs, tau, rfl, W16, hO, T16, fun H17 res out2 e17 T17 er17 A17 d17 => ?_⟩
    have W17 := W16.ext e17
    have eA17 := ext_get e17 eA16
    have eB17 := ext_get e17 eB16
    have e17d := ext_get e17 e16
    have A16' : ∀ r ∈ out1, LRowAt K H17 r := fun r hr => (A16 r hr).ext e17
    have hxeq : xsOf tau size ((As ++ Bs).length - size) ((sortP (As ++ Bs)).map Pt.pa) = ms.map lfX := by
      unfold xsOf
      rw [← hms]
    rw [hxeq] at d17
    clear W16 eA16 eB16 T16 e16 A16 T17
    walk_at "z"
    have D1 := dpLRows A17
    have D2 := dpLRows A16'
    rw [d17] at D1
    rw [d16] at D2
    refine ⟨_, _, .lst (lstL er17) D1, .lst (lstL e17d) D2, sh_xs (lawN_rows hrowsX), sh_xs (lawN_rows hrowsX), ?_⟩
    rw [eqv_xs (lawN_rows hrowsX)]
    walk_at "z"
    have lA6 : As.length ≤ 6 := by omega
    have lB6 : Bs.length ≤ 6 := by omega
    obtain ⟨dxA, oxA⟩ := W17.A.ins
    refine ⟨x, dxA, _, rfl, oxA, rfl, ?_⟩
    walk_at "z"
    refine ⟨x, aA, kA, size, As, rfl, W17.A, by omega, fun H18 t1 u1 k18 et1 eu1 => ?_⟩
    walk_at "z"
    refine ⟨f1, prefs As, rfl, .inl ⟨lstL (k18.get nin0 eA17), fun u2 nu2 => ?_⟩⟩
    have k19 : Kp [] H18 (upd H18 u2 (.tup (prefs As))) := Kp.new nu2
    have e19 : upd H18 u2 (.tup (prefs As)) u2 = some (.tup (prefs As)) := upd_same
    generalize upd H18 u2 (.tup (prefs As)) = H19 at k19 e19 ⊢
    walk_at "z"
    refine Z.tupK (fun t2 H20 nt2 k20 e20 => ?_)
    have k1920 := k19.trans k20
    have W20 := W17.kp0 (k18.trans k1920)
    refine eqView (k1920.get nin0 et1) (k1920.get nin0 eu1) e20 (k20.get nin0 e19) W20.pA W20.pA rfl hO.sA ?_
    refine ⟨true, rfl, ?_⟩
    rw [if_pos rfl]
    have eB20 := (k18.trans k1920).get nin0 eB17
    clear k18 k19 k20 k1920 et1 eu1 e19 e20 W17 eA17 eB17
    obtain ⟨dxB, oxB⟩ := W20.B.ins
    walk_at "z"
    refine ⟨y, dxB, _, rfl, oxB, rfl, ?_⟩
    walk_at "z"
    refine ⟨y, aB, kB, size, Bs, rfl, W20.B, by omega, fun H21 t3 u3 k21 et3 eu3 => ?_⟩
    walk_at "z"
    refine ⟨f2, prefs Bs, rfl, .inl ⟨lstL (k21.get nin0 eB20), fun u4 nu4 => ?_⟩⟩
    have k22 : Kp [] H21 (upd H21 u4 (.tup (prefs Bs))) := Kp.new nu4
    have e22 : upd H21 u4 (.tup (prefs Bs)) u4 = some (.tup (prefs Bs)) := upd_same
    generalize upd H21 u4 (.tup (prefs Bs)) = H22 at k22 e22 ⊢
    walk_at "z"
    refine Z.tupK (fun t4 H23 nt4 k23 e23 => ?_)
    have k2223 := k22.trans k23
    have W23 := W20.kp0 (k21.trans k2223)
    refine eqView (k2223.get nin0 et3) (k2223.get nin0 eu3) e23 (k23.get nin0 e22) W23.pB W23.pB rfl hO.sB ?_
    exact q _
end law27

set_option maxHeartbeats 2000000 in
set_option maxHeartbeats 4000000 in
theorem all_mk {l : PySem.W.OpenLaw} {w : World} {K : PySem.W.Frag} {h : Heap} {mg : Str → Option Value} {fa : Addr} {ts : List Addr} (X : K.In h) (G : h.Ns mainGlobals mg) (hts : ∀ P ∈ ts, h.get? P = some (PySem.W.tabObj #[])) (hfa : mg "law" = some (.ref fa))
    {CSamphireError : Addr}
    {CTooLarge fTooLarge cTooLarge ccTooLarge : Addr}
    {CZeroDenominator fZeroDenominator cZeroDenominator ccZeroDenominator : Addr}
    {CInvalidLaw fInvalidLaw cInvalidLaw ccInvalidLaw : Addr}
    {CNotEnded fNotEnded cNotEnded ccNotEnded : Addr}
    {COptimal : Addr}
    {CExplorer : Addr}
    {od1 an1 : Option Addr} {sl1 : Array (Option Value)} {oc1 kV1 dc1 pm1 cd1 ct1 : Value} {f1 : Addr}
    {od2 an2 : Option Addr} {sl2 : Array (Option Value)} {oc2 kV2 dc2 pm2 cd2 ct2 : Value} {f2 : Addr}
    {od3 an3 : Option Addr} {sl3 : Array (Option Value)} {oc3 kV3 dc3 pm3 cd3 ct3 : Value} {f3 : Addr}
    {od4 an4 : Option Addr} {sl4 : Array (Option Value)} {oc4 kV4 dc4 pm4 cd4 ct4 : Value} {f4 : Addr}
    {od5 an5 : Option Addr} {sl5 : Array (Option Value)} {oc5 kV5 dc5 pm5 cd5 ct5 : Value} {f5 : Addr}
    {od6 an6 : Option Addr} {sl6 : Array (Option Value)} {oc6 kV6 dc6 pm6 cd6 ct6 : Value} {f6 : Addr}
    {od7 an7 : Option Addr} {sl7 : Array (Option Value)} {oc7 kV7 dc7 pm7 cd7 ct7 : Value} {f7 : Addr}
    {od8 an8 : Option Addr} {sl8 : Array (Option Value)} {oc8 kV8 dc8 pm8 cd8 ct8 : Value} {f8 : Addr}
    {od9 an9 : Option Addr} {sl9 : Array (Option Value)} {oc9 kV9 dc9 pm9 cd9 ct9 : Value} {f9 : Addr}
    {od10 an10 : Option Addr} {sl10 : Array (Option Value)} {oc10 kV10 dc10 pm10 cd10 ct10 : Value} {f10 : Addr}
    {od11 an11 : Option Addr} {sl11 : Array (Option Value)} {oc11 kV11 dc11 pm11 cd11 ct11 : Value} {f11 : Addr}
    {od12 an12 : Option Addr} {sl12 : Array (Option Value)} {oc12 kV12 dc12 pm12 cd12 ct12 : Value} {f12 : Addr}
    {od13 an13 : Option Addr} {sl13 : Array (Option Value)} {oc13 kV13 dc13 pm13 cd13 ct13 : Value} {f13 : Addr}
    {od14 an14 : Option Addr} {sl14 : Array (Option Value)} {oc14 kV14 dc14 pm14 cd14 ct14 : Value} {f14 : Addr}
    {od15 an15 : Option Addr} {sl15 : Array (Option Value)} {oc15 kV15 dc15 pm15 cd15 ct15 : Value} {f15 : Addr}
    {od16 an16 : Option Addr} {sl16 : Array (Option Value)} {oc16 kV16 dc16 pm16 cd16 ct16 : Value} {f16 : Addr}
    {od17 an17 : Option Addr} {sl17 : Array (Option Value)} {oc17 kV17 dc17 pm17 cd17 ct17 : Value} {f17 : Addr}
    {od18 an18 : Option Addr} {sl18 : Array (Option Value)} {oc18 kV18 dc18 pm18 cd18 ct18 : Value} {f18 : Addr}
    {od19 an19 : Option Addr} {sl19 : Array (Option Value)} {oc19 kV19 dc19 pm19 cd19 ct19 : Value} {f19 : Addr}
    {od20 an20 : Option Addr} {sl20 : Array (Option Value)} {oc20 kV20 dc20 pm20 ct20 : Value} {f20 : Addr}
    {tc20 tP20 : Addr} {toc20 : Value} {tod20 : Option Addr} {tcv20 : List Value} {tsl20 : Array (Option Value)}
    {od21 an21 : Option Addr} {sl21 : Array (Option Value)} {oc21 kV21 dc21 pm21 cd21 ct21 : Value} {f21 : Addr}
    {od22 an22 : Option Addr} {sl22 : Array (Option Value)} {oc22 kV22 dc22 pm22 cd22 ct22 : Value} {f22 : Addr}
    {od23 an23 : Option Addr} {sl23 : Array (Option Value)} {oc23 kV23 dc23 pm23 cd23 ct23 : Value} {f23 : Addr}
    {od24 an24 : Option Addr} {sl24 : Array (Option Value)} {oc24 kV24 dc24 pm24 cd24 ct24 : Value} {f24 : Addr}
    {od25 an25 : Option Addr} {sl25 : Array (Option Value)} {oc25 kV25 dc25 pm25 cd25 ct25 : Value} {f25 : Addr}
    {od26 an26 : Option Addr} {sl26 : Array (Option Value)} {oc26 kV26 dc26 pm26 cd26 ct26 : Value} {f26 : Addr}
    {od27 an27 : Option Addr} {sl27 : Array (Option Value)} {oc27 kV27 dc27 pm27 cd27 ct27 : Value} {f27 : Addr}
    {od28 an28 : Option Addr} {sl28 : Array (Option Value)} {oc28 kV28 dc28 pm28 cd28 ct28 : Value} {f28 : Addr}
    {od29 an29 : Option Addr} {sl29 : Array (Option Value)} {oc29 kV29 dc29 pm29 cd29 ct29 : Value} {f29 : Addr}
    {od30 an30 : Option Addr} {sl30 : Array (Option Value)} {oc30 kV30 dc30 pm30 cd30 ct30 : Value} {f30 : Addr}
    {od31 an31 : Option Addr} {sl31 : Array (Option Value)} {oc31 kV31 dc31 pm31 cd31 ct31 : Value} {f31 : Addr}
    {od32 an32 : Option Addr} {sl32 : Array (Option Value)} {oc32 kV32 dc32 pm32 cd32 ct32 : Value} {f32 : Addr}
    {od33 an33 : Option Addr} {sl33 : Array (Option Value)} {oc33 kV33 dc33 pm33 cd33 ct33 : Value} {f33 : Addr}
    {od34 an34 : Option Addr} {sl34 : Array (Option Value)} {oc34 kV34 dc34 pm34 cd34 ct34 : Value} {f34 : Addr}
    {od35 an35 : Option Addr} {sl35 : Array (Option Value)} {oc35 kV35 dc35 pm35 cd35 ct35 : Value} {f35 : Addr}
    {od36 an36 : Option Addr} {sl36 : Array (Option Value)} {oc36 kV36 dc36 pm36 cd36 ct36 : Value} {f36 : Addr}
    {od37 an37 : Option Addr} {sl37 : Array (Option Value)} {oc37 kV37 dc37 pm37 cd37 ct37 : Value} {f37 : Addr}
    {od38 an38 : Option Addr} {sl38 : Array (Option Value)} {oc38 kV38 dc38 pm38 cd38 ct38 : Value} {f38 : Addr}
    {od39 an39 : Option Addr} {sl39 : Array (Option Value)} {oc39 kV39 dc39 pm39 cd39 ct39 : Value} {f39 : Addr}
    {od40 an40 : Option Addr} {sl40 : Array (Option Value)} {oc40 kV40 dc40 pm40 cd40 ct40 : Value} {f40 : Addr}
    {od41 an41 : Option Addr} {sl41 : Array (Option Value)} {oc41 kV41 dc41 pm41 ct41 : Value} {f41 : Addr}
    {tc41 tP41 : Addr} {toc41 : Value} {tod41 : Option Addr} {tcv41 : List Value} {tsl41 : Array (Option Value)}
    {od42 an42 : Option Addr} {sl42 : Array (Option Value)} {oc42 kV42 dc42 pm42 cd42 ct42 : Value} {f42 : Addr}
    {od43 an43 : Option Addr} {sl43 : Array (Option Value)} {oc43 kV43 dc43 pm43 cd43 ct43 : Value} {f43 : Addr}
    {od44 an44 : Option Addr} {sl44 : Array (Option Value)} {oc44 kV44 dc44 pm44 cd44 ct44 : Value} {f44 : Addr}
    {od45 an45 : Option Addr} {sl45 : Array (Option Value)} {oc45 kV45 dc45 pm45 cd45 ct45 : Value} {f45 : Addr}
    {od46 an46 : Option Addr} {sl46 : Array (Option Value)} {oc46 kV46 dc46 pm46 cd46 ct46 : Value} {f46 : Addr}
    {od47 an47 : Option Addr} {sl47 : Array (Option Value)} {oc47 kV47 dc47 pm47 cd47 ct47 : Value} {f47 : Addr}
    {nmTooLarge qTooLarge : Str} {NTooLarge : Addr} {bsTooLarge : List Value} {snTooLarge : List Str} {subTooLarge : List Value} {abTooLarge : Bool} {colTooLarge : Option Bool} {ddTooLarge : Option Addr} {m0TooLarge m1TooLarge m2TooLarge m3TooLarge m5TooLarge : Option Value} {occTooLarge : Value} {cddTooLarge : Option Addr} {cvsTooLarge : List Value} {cslTooLarge : Array (Option Value)} {cclTooLarge : Value} {ccdTooLarge : Option Addr} {ccsTooLarge : Array (Option Value)} {ocTooLarge : Value} {odTooLarge : Option Addr} {oslTooLarge : Array (Option Value)} {docTooLarge pmTooLarge ctvTooLarge : Value}
    {nmZeroDenominator qZeroDenominator : Str} {NZeroDenominator : Addr} {bsZeroDenominator : List Value} {snZeroDenominator : List Str} {subZeroDenominator : List Value} {abZeroDenominator : Bool} {colZeroDenominator : Option Bool} {ddZeroDenominator : Option Addr} {m0ZeroDenominator m1ZeroDenominator m2ZeroDenominator m3ZeroDenominator m5ZeroDenominator : Option Value} {occZeroDenominator : Value} {cddZeroDenominator : Option Addr} {cvsZeroDenominator : List Value} {cslZeroDenominator : Array (Option Value)} {cclZeroDenominator : Value} {ccdZeroDenominator : Option Addr} {ccsZeroDenominator : Array (Option Value)} {ocZeroDenominator : Value} {odZeroDenominator : Option Addr} {oslZeroDenominator : Array (Option Value)} {docZeroDenominator pmZeroDenominator ctvZeroDenominator : Value}
    {nmInvalidLaw qInvalidLaw : Str} {NInvalidLaw : Addr} {bsInvalidLaw : List Value} {snInvalidLaw : List Str} {subInvalidLaw : List Value} {abInvalidLaw : Bool} {colInvalidLaw : Option Bool} {ddInvalidLaw : Option Addr} {m0InvalidLaw m1InvalidLaw m2InvalidLaw m3InvalidLaw m5InvalidLaw : Option Value} {occInvalidLaw : Value} {cddInvalidLaw : Option Addr} {cvsInvalidLaw : List Value} {cslInvalidLaw : Array (Option Value)} {cclInvalidLaw : Value} {ccdInvalidLaw : Option Addr} {ccsInvalidLaw : Array (Option Value)} {ocInvalidLaw : Value} {odInvalidLaw : Option Addr} {oslInvalidLaw : Array (Option Value)} {docInvalidLaw pmInvalidLaw ctvInvalidLaw : Value}
    {nmNotEnded qNotEnded : Str} {NNotEnded : Addr} {bsNotEnded : List Value} {snNotEnded : List Str} {subNotEnded : List Value} {abNotEnded : Bool} {colNotEnded : Option Bool} {ddNotEnded : Option Addr} {m0NotEnded m1NotEnded m2NotEnded m3NotEnded m5NotEnded : Option Value} {occNotEnded : Value} {cddNotEnded : Option Addr} {cvsNotEnded : List Value} {cslNotEnded : Array (Option Value)} {cclNotEnded : Value} {ccdNotEnded : Option Addr} {ccsNotEnded : Array (Option Value)} {ocNotEnded : Value} {odNotEnded : Option Addr} {oslNotEnded : Array (Option Value)} {docNotEnded pmNotEnded ctvNotEnded : Value}
    {t_MOST_RUNS : Tok}
    {k_ZERO : Addr} {od_ZERO : Option Addr} {nn_ZERO : Nat} {sl_ZERO : Array (Option Value)} {t0_ZERO t1_ZERO : Tok}
    {k_ONE : Addr} {od_ONE : Option Addr} {nn_ONE : Nat} {sl_ONE : Array (Option Value)} {t0_ONE t1_ONE : Tok}
    (a1 : PySem.W.nsIn K mainGlobals "lowest" = some (some (.ref f1)))
    (l1 : K.lookup f1 = some ⟨oc1, od1, .func (PySem.W.fnOf "lowest" "lowest" (defArgs s_lowest) (defBody s_lowest) (defScope s_lowest) .none kV1 dc1 pm1 an1 cd1 ct1), sl1⟩)
    (c1 : PySem.W.codeIn K cd1 "lowest" = true)
    (k1 : PySem.W.keepIn K (.ref f1) = true)
    (a2 : PySem.W.nsIn K mainGlobals "plus" = some (some (.ref f2)))
    (l2 : K.lookup f2 = some ⟨oc2, od2, .func (PySem.W.fnOf "plus" "plus" (defArgs s_plus) (defBody s_plus) (defScope s_plus) .none kV2 dc2 pm2 an2 cd2 ct2), sl2⟩)
    (c2 : PySem.W.codeIn K cd2 "plus" = true)
    (k2 : PySem.W.keepIn K (.ref f2) = true)
    (a3 : PySem.W.nsIn K mainGlobals "minus" = some (some (.ref f3)))
    (l3 : K.lookup f3 = some ⟨oc3, od3, .func (PySem.W.fnOf "minus" "minus" (defArgs s_minus) (defBody s_minus) (defScope s_minus) .none kV3 dc3 pm3 an3 cd3 ct3), sl3⟩)
    (c3 : PySem.W.codeIn K cd3 "minus" = true)
    (k3 : PySem.W.keepIn K (.ref f3) = true)
    (a4 : PySem.W.nsIn K mainGlobals "times" = some (some (.ref f4)))
    (l4 : K.lookup f4 = some ⟨oc4, od4, .func (PySem.W.fnOf "times" "times" (defArgs s_times) (defBody s_times) (defScope s_times) .none kV4 dc4 pm4 an4 cd4 ct4), sl4⟩)
    (c4 : PySem.W.codeIn K cd4 "times" = true)
    (k4 : PySem.W.keepIn K (.ref f4) = true)
    (a5 : PySem.W.nsIn K mainGlobals "over" = some (some (.ref f5)))
    (l5 : K.lookup f5 = some ⟨oc5, od5, .func (PySem.W.fnOf "over" "over" (defArgs s_over) (defBody s_over) (defScope s_over) .none kV5 dc5 pm5 an5 cd5 ct5), sl5⟩)
    (c5 : PySem.W.codeIn K cd5 "over" = true)
    (k5 : PySem.W.keepIn K (.ref f5) = true)
    (a6 : PySem.W.nsIn K mainGlobals "less" = some (some (.ref f6)))
    (l6 : K.lookup f6 = some ⟨oc6, od6, .func (PySem.W.fnOf "less" "less" (defArgs s_less) (defBody s_less) (defScope s_less) .none kV6 dc6 pm6 an6 cd6 ct6), sl6⟩)
    (c6 : PySem.W.codeIn K cd6 "less" = true)
    (k6 : PySem.W.keepIn K (.ref f6) = true)
    (a7 : PySem.W.nsIn K mainGlobals "sum_of" = some (some (.ref f7)))
    (l7 : K.lookup f7 = some ⟨oc7, od7, .func (PySem.W.fnOf "sum_of" "sum_of" (defArgs s_sum_of) (defBody s_sum_of) (defScope s_sum_of) .none kV7 dc7 pm7 an7 cd7 ct7), sl7⟩)
    (c7 : PySem.W.codeIn K cd7 "sum_of" = true)
    (k7 : PySem.W.keepIn K (.ref f7) = true)
    (a8 : PySem.W.nsIn K mainGlobals "common_denominator" = some (some (.ref f8)))
    (l8 : K.lookup f8 = some ⟨oc8, od8, .func (PySem.W.fnOf "common_denominator" "common_denominator" (defArgs s_common_denominator) (defBody s_common_denominator) (defScope s_common_denominator) .none kV8 dc8 pm8 an8 cd8 ct8), sl8⟩)
    (c8 : PySem.W.codeIn K cd8 "common_denominator" = true)
    (k8 : PySem.W.keepIn K (.ref f8) = true)
    (a9 : PySem.W.nsIn K mainGlobals "scaled" = some (some (.ref f9)))
    (l9 : K.lookup f9 = some ⟨oc9, od9, .func (PySem.W.fnOf "scaled" "scaled" (defArgs s_scaled) (defBody s_scaled) (defScope s_scaled) .none kV9 dc9 pm9 an9 cd9 ct9), sl9⟩)
    (c9 : PySem.W.codeIn K cd9 "scaled" = true)
    (k9 : PySem.W.keepIn K (.ref f9) = true)
    (a10 : PySem.W.nsIn K mainGlobals "least_twice" = some (some (.ref f10)))
    (l10 : K.lookup f10 = some ⟨oc10, od10, .func (PySem.W.fnOf "least_twice" "least_twice" (defArgs s_least_twice) (defBody s_least_twice) (defScope s_least_twice) .none kV10 dc10 pm10 an10 cd10 ct10), sl10⟩)
    (c10 : PySem.W.codeIn K cd10 "least_twice" = true)
    (k10 : PySem.W.keepIn K (.ref f10) = true)
    (a11 : PySem.W.nsIn K mainGlobals "check_keys" = some (some (.ref f11)))
    (l11 : K.lookup f11 = some ⟨oc11, od11, .func (PySem.W.fnOf "check_keys" "check_keys" (defArgs s_check_keys) (defBody s_check_keys) (defScope s_check_keys) .none kV11 dc11 pm11 an11 cd11 ct11), sl11⟩)
    (c11 : PySem.W.codeIn K cd11 "check_keys" = true)
    (k11 : PySem.W.keepIn K (.ref f11) = true)
    (a12 : PySem.W.nsIn K mainGlobals "threshold" = some (some (.ref f12)))
    (l12 : K.lookup f12 = some ⟨oc12, od12, .func (PySem.W.fnOf "threshold" "threshold" (defArgs s_threshold) (defBody s_threshold) (defScope s_threshold) .none kV12 dc12 pm12 an12 cd12 ct12), sl12⟩)
    (c12 : PySem.W.codeIn K cd12 "threshold" = true)
    (k12 : PySem.W.keepIn K (.ref f12) = true)
    (a13 : PySem.W.nsIn K mainGlobals "chance_at" = some (some (.ref f13)))
    (l13 : K.lookup f13 = some ⟨oc13, od13, .func (PySem.W.fnOf "chance_at" "chance_at" (defArgs s_chance_at) (defBody s_chance_at) (defScope s_chance_at) .none kV13 dc13 pm13 an13 cd13 ct13), sl13⟩)
    (c13 : PySem.W.codeIn K cd13 "chance_at" = true)
    (k13 : PySem.W.keepIn K (.ref f13) = true)
    (a14 : PySem.W.nsIn K mainGlobals "raised" = some (some (.ref f14)))
    (l14 : K.lookup f14 = some ⟨oc14, od14, .func (PySem.W.fnOf "raised" "raised" (defArgs s_raised) (defBody s_raised) (defScope s_raised) .none kV14 dc14 pm14 an14 cd14 ct14), sl14⟩)
    (c14 : PySem.W.codeIn K cd14 "raised" = true)
    (k14 : PySem.W.keepIn K (.ref f14) = true)
    (a15 : PySem.W.nsIn K mainGlobals "one_dropped" = some (some (.ref f15)))
    (l15 : K.lookup f15 = some ⟨oc15, od15, .func (PySem.W.fnOf "one_dropped" "one_dropped" (defArgs s_one_dropped) (defBody s_one_dropped) (defScope s_one_dropped) .none kV15 dc15 pm15 an15 cd15 ct15), sl15⟩)
    (c15 : PySem.W.codeIn K cd15 "one_dropped" = true)
    (k15 : PySem.W.keepIn K (.ref f15) = true)
    (a16 : PySem.W.findIn K (.ref COptimal) "__init__" = some (some (.ref f16)))
    (i16 : PySem.W.isFn K (.ref f16) = true)
    (l16 : K.lookup f16 = some ⟨oc16, od16, .func (PySem.W.fnOf "__init__" "Optimal.__init__" (defArgs s_Optimal_init) (defBody s_Optimal_init) (defScope s_Optimal_init) .none kV16 dc16 pm16 an16 cd16 ct16), sl16⟩)
    (c16 : PySem.W.codeIn K cd16 "Optimal.__init__" = true)
    (k16 : PySem.W.keepIn K (.ref f16) = true)
    (a17 : PySem.W.findIn K (.ref COptimal) "merge" = some (some (.ref f17)))
    (i17 : PySem.W.isFn K (.ref f17) = true)
    (l17 : K.lookup f17 = some ⟨oc17, od17, .func (PySem.W.fnOf "merge" "Optimal.merge" (defArgs s_Optimal_merge) (defBody s_Optimal_merge) (defScope s_Optimal_merge) .none kV17 dc17 pm17 an17 cd17 ct17), sl17⟩)
    (c17 : PySem.W.codeIn K cd17 "Optimal.merge" = true)
    (k17 : PySem.W.keepIn K (.ref f17) = true)
    (a18 : PySem.W.findIn K (.ref COptimal) "view" = some (some (.ref f18)))
    (i18 : PySem.W.isFn K (.ref f18) = true)
    (l18 : K.lookup f18 = some ⟨oc18, od18, .func (PySem.W.fnOf "view" "Optimal.view" (defArgs s_Optimal_view) (defBody s_Optimal_view) (defScope s_Optimal_view) .none kV18 dc18 pm18 an18 cd18 ct18), sl18⟩)
    (c18 : PySem.W.codeIn K cd18 "Optimal.view" = true)
    (k18 : PySem.W.keepIn K (.ref f18) = true)
    (a19 : PySem.W.nsIn K mainGlobals "check_chances" = some (some (.ref f19)))
    (l19 : K.lookup f19 = some ⟨oc19, od19, .func (PySem.W.fnOf "check_chances" "check_chances" (defArgs s_check_chances) (defBody s_check_chances) (defScope s_check_chances) .none kV19 dc19 pm19 an19 cd19 ct19), sl19⟩)
    (c19 : PySem.W.codeIn K cd19 "check_chances" = true)
    (k19 : PySem.W.keepIn K (.ref f19) = true)
    (a20 : PySem.W.nsIn K mainGlobals "law_from" = some (some (.ref f20)))
    (l20 : K.lookup f20 = some ⟨oc20, od20, .func (PySem.W.fnOf "law_from" "law_from" (defArgs s_law_from) (defBody s_law_from) (defScope s_law_from) .none kV20 dc20 pm20 an20 (.ref tc20) ct20), sl20⟩)
    (c20 : PySem.W.codeIn K (.ref tc20) "law_from" = true)
    (k20 : PySem.W.keepIn K (.ref f20) = true)
    (tl20 : K.lookup tc20 = some ⟨toc20, tod20, .fields tcv20.toArray, tsl20⟩)
    (tp20 : tcv20[11]? = some (.ref tP20))
    (th20 : PySem.W.codeHdIn K tc20 tP20 = true) (tn20 : K.lookup tP20 = none)
    (tm20 : tP20 ∈ ts)
    (a21 : PySem.W.nsIn K mainGlobals "next_number" = some (some (.ref f21)))
    (l21 : K.lookup f21 = some ⟨oc21, od21, .func (PySem.W.fnOf "next_number" "next_number" (defArgs s_next_number) (defBody s_next_number) (defScope s_next_number) .none kV21 dc21 pm21 an21 cd21 ct21), sl21⟩)
    (c21 : PySem.W.codeIn K cd21 "next_number" = true)
    (k21 : PySem.W.keepIn K (.ref f21) = true)
    (a22 : PySem.W.nsIn K mainGlobals "chance_behind" = some (some (.ref f22)))
    (l22 : K.lookup f22 = some ⟨oc22, od22, .func (PySem.W.fnOf "chance_behind" "chance_behind" (defArgs s_chance_behind) (defBody s_chance_behind) (defScope s_chance_behind) .none kV22 dc22 pm22 an22 cd22 ct22), sl22⟩)
    (c22 : PySem.W.codeIn K cd22 "chance_behind" = true)
    (k22 : PySem.W.keepIn K (.ref f22) = true)
    (a23 : PySem.W.nsIn K mainGlobals "following" = some (some (.ref f23)))
    (l23 : K.lookup f23 = some ⟨oc23, od23, .func (PySem.W.fnOf "following" "following" (defArgs s_following) (defBody s_following) (defScope s_following) .none kV23 dc23 pm23 an23 cd23 ct23), sl23⟩)
    (c23 : PySem.W.codeIn K cd23 "following" = true)
    (k23 : PySem.W.keepIn K (.ref f23) = true)
    (a24 : PySem.W.findIn K (.ref CExplorer) "__init__" = some (some (.ref f24)))
    (i24 : PySem.W.isFn K (.ref f24) = true)
    (l24 : K.lookup f24 = some ⟨oc24, od24, .func (PySem.W.fnOf "__init__" "Explorer.__init__" (defArgs s_Explorer_init) (defBody s_Explorer_init) (defScope s_Explorer_init) .none kV24 dc24 pm24 an24 cd24 ct24), sl24⟩)
    (c24 : PySem.W.codeIn K cd24 "Explorer.__init__" = true)
    (k24 : PySem.W.keepIn K (.ref f24) = true)
    (a25 : PySem.W.findIn K (.ref CExplorer) "begin" = some (some (.ref f25)))
    (i25 : PySem.W.isFn K (.ref f25) = true)
    (l25 : K.lookup f25 = some ⟨oc25, od25, .func (PySem.W.fnOf "begin" "Explorer.begin" (defArgs s_Explorer_begin) (defBody s_Explorer_begin) (defScope s_Explorer_begin) .none kV25 dc25 pm25 an25 cd25 ct25), sl25⟩)
    (c25 : PySem.W.codeIn K cd25 "Explorer.begin" = true)
    (k25 : PySem.W.keepIn K (.ref f25) = true)
    (a26 : PySem.W.findIn K (.ref CExplorer) "pick" = some (some (.ref f26)))
    (i26 : PySem.W.isFn K (.ref f26) = true)
    (l26 : K.lookup f26 = some ⟨oc26, od26, .func (PySem.W.fnOf "pick" "Explorer.pick" (defArgs s_Explorer_pick) (defBody s_Explorer_pick) (defScope s_Explorer_pick) .none kV26 dc26 pm26 an26 cd26 ct26), sl26⟩)
    (c26 : PySem.W.codeIn K cd26 "Explorer.pick" = true)
    (k26 : PySem.W.keepIn K (.ref f26) = true)
    (a27 : PySem.W.findIn K (.ref CExplorer) "end" = some (some (.ref f27)))
    (i27 : PySem.W.isFn K (.ref f27) = true)
    (l27 : K.lookup f27 = some ⟨oc27, od27, .func (PySem.W.fnOf "end" "Explorer.end" (defArgs s_Explorer_end) (defBody s_Explorer_end) (defScope s_Explorer_end) .none kV27 dc27 pm27 an27 cd27 ct27), sl27⟩)
    (c27 : PySem.W.codeIn K cd27 "Explorer.end" = true)
    (k27 : PySem.W.keepIn K (.ref f27) = true)
    (a28 : PySem.W.findIn K (.ref CExplorer) "runs" = some (some (.ref f28)))
    (i28 : PySem.W.isFn K (.ref f28) = true)
    (l28 : K.lookup f28 = some ⟨oc28, od28, .func (PySem.W.fnOf "runs" "Explorer.runs" (defArgs s_Explorer_runs) (defBody s_Explorer_runs) (defScope s_Explorer_runs) .none kV28 dc28 pm28 an28 cd28 ct28), sl28⟩)
    (c28 : PySem.W.codeIn K cd28 "Explorer.runs" = true)
    (k28 : PySem.W.keepIn K (.ref f28) = true)
    (a29 : PySem.W.findIn K (.ref CExplorer) "gathered" = some (some (.ref f29)))
    (i29 : PySem.W.isFn K (.ref f29) = true)
    (l29 : K.lookup f29 = some ⟨oc29, od29, .func (PySem.W.fnOf "gathered" "Explorer.gathered" (defArgs s_Explorer_gathered) (defBody s_Explorer_gathered) (defScope s_Explorer_gathered) .none kV29 dc29 pm29 an29 cd29 ct29), sl29⟩)
    (c29 : PySem.W.codeIn K cd29 "Explorer.gathered" = true)
    (k29 : PySem.W.keepIn K (.ref f29) = true)
    (a30 : PySem.W.nsIn K mainGlobals "_law_mix" = some (some (.ref f30)))
    (l30 : K.lookup f30 = some ⟨oc30, od30, .func (PySem.W.fnOf "_law_mix" "_law_mix" (defArgs s__law_mix) (defBody s__law_mix) (defScope s__law_mix) .none kV30 dc30 pm30 an30 cd30 ct30), sl30⟩)
    (c30 : PySem.W.codeIn K cd30 "_law_mix" = true)
    (k30 : PySem.W.keepIn K (.ref f30) = true)
    (a31 : PySem.W.nsIn K mainGlobals "_law_numbers" = some (some (.ref f31)))
    (l31 : K.lookup f31 = some ⟨oc31, od31, .func (PySem.W.fnOf "_law_numbers" "_law_numbers" (defArgs s__law_numbers) (defBody s__law_numbers) (defScope s__law_numbers) .none kV31 dc31 pm31 an31 cd31 ct31), sl31⟩)
    (c31 : PySem.W.codeIn K cd31 "_law_numbers" = true)
    (k31 : PySem.W.keepIn K (.ref f31) = true)
    (a32 : PySem.W.nsIn K mainGlobals "_law_take" = some (some (.ref f32)))
    (l32 : K.lookup f32 = some ⟨oc32, od32, .func (PySem.W.fnOf "_law_take" "_law_take" (defArgs s__law_take) (defBody s__law_take) (defScope s__law_take) .none kV32 dc32 pm32 an32 cd32 ct32), sl32⟩)
    (c32 : PySem.W.codeIn K cd32 "_law_take" = true)
    (k32 : PySem.W.keepIn K (.ref f32) = true)
    (a33 : PySem.W.nsIn K mainGlobals "_law_low" = some (some (.ref f33)))
    (l33 : K.lookup f33 = some ⟨oc33, od33, .func (PySem.W.fnOf "_law_low" "_law_low" (defArgs s__law_low) (defBody s__law_low) (defScope s__law_low) .none kV33 dc33 pm33 an33 cd33 ct33), sl33⟩)
    (c33 : PySem.W.codeIn K cd33 "_law_low" = true)
    (k33 : PySem.W.keepIn K (.ref f33) = true)
    (a34 : PySem.W.nsIn K mainGlobals "_law_plus" = some (some (.ref f34)))
    (l34 : K.lookup f34 = some ⟨oc34, od34, .func (PySem.W.fnOf "_law_plus" "_law_plus" (defArgs s__law_plus) (defBody s__law_plus) (defScope s__law_plus) .none kV34 dc34 pm34 an34 cd34 ct34), sl34⟩)
    (c34 : PySem.W.codeIn K cd34 "_law_plus" = true)
    (k34 : PySem.W.keepIn K (.ref f34) = true)
    (a35 : PySem.W.nsIn K mainGlobals "_law_minus" = some (some (.ref f35)))
    (l35 : K.lookup f35 = some ⟨oc35, od35, .func (PySem.W.fnOf "_law_minus" "_law_minus" (defArgs s__law_minus) (defBody s__law_minus) (defScope s__law_minus) .none kV35 dc35 pm35 an35 cd35 ct35), sl35⟩)
    (c35 : PySem.W.codeIn K cd35 "_law_minus" = true)
    (k35 : PySem.W.keepIn K (.ref f35) = true)
    (a36 : PySem.W.nsIn K mainGlobals "_law_times" = some (some (.ref f36)))
    (l36 : K.lookup f36 = some ⟨oc36, od36, .func (PySem.W.fnOf "_law_times" "_law_times" (defArgs s__law_times) (defBody s__law_times) (defScope s__law_times) .none kV36 dc36 pm36 an36 cd36 ct36), sl36⟩)
    (c36 : PySem.W.codeIn K cd36 "_law_times" = true)
    (k36 : PySem.W.keepIn K (.ref f36) = true)
    (a37 : PySem.W.nsIn K mainGlobals "_law_less" = some (some (.ref f37)))
    (l37 : K.lookup f37 = some ⟨oc37, od37, .func (PySem.W.fnOf "_law_less" "_law_less" (defArgs s__law_less) (defBody s__law_less) (defScope s__law_less) .none kV37 dc37 pm37 an37 cd37 ct37), sl37⟩)
    (c37 : PySem.W.codeIn K cd37 "_law_less" = true)
    (k37 : PySem.W.keepIn K (.ref f37) = true)
    (a38 : PySem.W.nsIn K mainGlobals "_law_sum" = some (some (.ref f38)))
    (l38 : K.lookup f38 = some ⟨oc38, od38, .func (PySem.W.fnOf "_law_sum" "_law_sum" (defArgs s__law_sum) (defBody s__law_sum) (defScope s__law_sum) .none kV38 dc38 pm38 an38 cd38 ct38), sl38⟩)
    (c38 : PySem.W.codeIn K cd38 "_law_sum" = true)
    (k38 : PySem.W.keepIn K (.ref f38) = true)
    (a39 : PySem.W.nsIn K mainGlobals "_law_items" = some (some (.ref f39)))
    (l39 : K.lookup f39 = some ⟨oc39, od39, .func (PySem.W.fnOf "_law_items" "_law_items" (defArgs s__law_items) (defBody s__law_items) (defScope s__law_items) .none kV39 dc39 pm39 an39 cd39 ct39), sl39⟩)
    (c39 : PySem.W.codeIn K cd39 "_law_items" = true)
    (k39 : PySem.W.keepIn K (.ref f39) = true)
    (a40 : PySem.W.nsIn K mainGlobals "_law_lesser" = some (some (.ref f40)))
    (l40 : K.lookup f40 = some ⟨oc40, od40, .func (PySem.W.fnOf "_law_lesser" "_law_lesser" (defArgs s__law_lesser) (defBody s__law_lesser) (defScope s__law_lesser) .none kV40 dc40 pm40 an40 cd40 ct40), sl40⟩)
    (c40 : PySem.W.codeIn K cd40 "_law_lesser" = true)
    (k40 : PySem.W.keepIn K (.ref f40) = true)
    (a41 : PySem.W.nsIn K mainGlobals "_law_threshold" = some (some (.ref f41)))
    (l41 : K.lookup f41 = some ⟨oc41, od41, .func (PySem.W.fnOf "_law_threshold" "_law_threshold" (defArgs s__law_threshold) (defBody s__law_threshold) (defScope s__law_threshold) .none kV41 dc41 pm41 an41 (.ref tc41) ct41), sl41⟩)
    (c41 : PySem.W.codeIn K (.ref tc41) "_law_threshold" = true)
    (k41 : PySem.W.keepIn K (.ref f41) = true)
    (tl41 : K.lookup tc41 = some ⟨toc41, tod41, .fields tcv41.toArray, tsl41⟩)
    (tp41 : tcv41[11]? = some (.ref tP41))
    (th41 : PySem.W.codeHdIn K tc41 tP41 = true) (tn41 : K.lookup tP41 = none)
    (tm41 : tP41 ∈ ts)
    (a42 : PySem.W.nsIn K mainGlobals "_law_raised" = some (some (.ref f42)))
    (l42 : K.lookup f42 = some ⟨oc42, od42, .func (PySem.W.fnOf "_law_raised" "_law_raised" (defArgs s__law_raised) (defBody s__law_raised) (defScope s__law_raised) .none kV42 dc42 pm42 an42 cd42 ct42), sl42⟩)
    (c42 : PySem.W.codeIn K cd42 "_law_raised" = true)
    (k42 : PySem.W.keepIn K (.ref f42) = true)
    (a43 : PySem.W.nsIn K mainGlobals "_law_dropped" = some (some (.ref f43)))
    (l43 : K.lookup f43 = some ⟨oc43, od43, .func (PySem.W.fnOf "_law_dropped" "_law_dropped" (defArgs s__law_dropped) (defBody s__law_dropped) (defScope s__law_dropped) .none kV43 dc43 pm43 an43 cd43 ct43), sl43⟩)
    (c43 : PySem.W.codeIn K cd43 "_law_dropped" = true)
    (k43 : PySem.W.keepIn K (.ref f43) = true)
    (a44 : PySem.W.nsIn K mainGlobals "_law_law" = some (some (.ref f44)))
    (l44 : K.lookup f44 = some ⟨oc44, od44, .func (PySem.W.fnOf "_law_law" "_law_law" (defArgs s__law_law) (defBody s__law_law) (defScope s__law_law) .none kV44 dc44 pm44 an44 cd44 ct44), sl44⟩)
    (c44 : PySem.W.codeIn K cd44 "_law_law" = true)
    (k44 : PySem.W.keepIn K (.ref f44) = true)
    (a45 : PySem.W.nsIn K mainGlobals "_law_parts" = some (some (.ref f45)))
    (l45 : K.lookup f45 = some ⟨oc45, od45, .func (PySem.W.fnOf "_law_parts" "_law_parts" (defArgs s__law_parts) (defBody s__law_parts) (defScope s__law_parts) .none kV45 dc45 pm45 an45 cd45 ct45), sl45⟩)
    (c45 : PySem.W.codeIn K cd45 "_law_parts" = true)
    (k45 : PySem.W.keepIn K (.ref f45) = true)
    (a46 : PySem.W.nsIn K mainGlobals "_law_explored" = some (some (.ref f46)))
    (l46 : K.lookup f46 = some ⟨oc46, od46, .func (PySem.W.fnOf "_law_explored" "_law_explored" (defArgs s__law_explored) (defBody s__law_explored) (defScope s__law_explored) .none kV46 dc46 pm46 an46 cd46 ct46), sl46⟩)
    (c46 : PySem.W.codeIn K cd46 "_law_explored" = true)
    (k46 : PySem.W.keepIn K (.ref f46) = true)
    (a47 : PySem.W.nsIn K mainGlobals "law" = some (some (.ref f47)))
    (l47 : K.lookup f47 = some ⟨oc47, od47, .func (PySem.W.fnOf "law" "law" (defArgs s_law) (defBody s_law) (defScope s_law) .none kV47 dc47 pm47 an47 cd47 ct47), sl47⟩)
    (c47 : PySem.W.codeIn K cd47 "law" = true)
    (k47 : PySem.W.keepIn K (.ref f47) = true)
    (tne : tP20 ≠ tP41)
    (aCSamphireError : PySem.W.nsIn K mainGlobals "SamphireError" = some (some (.ref CSamphireError)))
    (aCTooLarge : PySem.W.nsIn K mainGlobals "TooLarge" = some (some (.ref CTooLarge)))
    (iCTooLarge : PySem.W.findIn K (.ref CTooLarge) "__init__" = some (some (.ref fTooLarge)))
    (tITooLarge : PySem.W.typeIn K (.ref fTooLarge) = some (.type "function"))
    (lkTooLarge : K.lookup fTooLarge = some ⟨ocTooLarge, odTooLarge, .func ((NF_TooLarge ccTooLarge cTooLarge).fd docTooLarge pmTooLarge ctvTooLarge), oslTooLarge⟩)
    (hcTooLarge : PySem.W.codeIn K (.ref cTooLarge) "TooLarge.__init__" = true)
    (xLTooLarge : K.lookup CTooLarge = some (excClassObj nmTooLarge qTooLarge CTooLarge NTooLarge bsTooLarge [.ref CSamphireError, .type "ValueError", .type "Exception", .type "BaseException", .type "object"] true snTooLarge subTooLarge abTooLarge colTooLarge ddTooLarge m0TooLarge m1TooLarge m2TooLarge m3TooLarge m5TooLarge "ValueError.__new__"))
    (saTooLarge : PySem.W.findIn K (.ref CTooLarge) "__setattr__" = some (some (.builtin "object.__setattr__")))
    (sBTooLarge : PySem.W.subIn K (.ref CTooLarge) (.type "BaseException") = some true)
    (tCTooLarge : PySem.W.typeIn K (.ref CTooLarge) = some (.type "type"))
    (kCTooLarge : PySem.W.keepIn K (.ref CTooLarge) = true)
    (coTooLarge : K.lookup cTooLarge = some ⟨occTooLarge, cddTooLarge, .fields cvsTooLarge.toArray, cslTooLarge⟩)
    (flTooLarge : Sup.flIs cvsTooLarge l.prog.main.file = true)
    (ceTooLarge : K.lookup ccTooLarge = some ⟨cclTooLarge, ccdTooLarge, .cell (some (.ref CTooLarge)), ccsTooLarge⟩)
    (mrTooLarge : PySem.W.mroIn K CTooLarge (.ref CTooLarge) = some true)
    (sVTooLarge : PySem.W.subIn K (.ref CTooLarge) (.type "ValueError") = some true)
    (anTooLarge : PySem.W.nsIn K PySem.cStatics "thirdparty.any" = some none)
    (suTooLarge : PySem.W.ks_superIn K CTooLarge CTooLarge "__init__" = some (some (.builtin "ValueError.__init__")))
    (tpTooLarge : (l.prog.main.scope.names.lookup ("super" : Str)).isSome = false)
    (hgTooLarge : PySem.W.findIn K (.ref CTooLarge) "__getattribute__" = some (some (.builtin "BaseException.__getattribute__")))
    (hkTooLarge : PySem.W.findIn K (.ref CTooLarge) "__getattr__" = some none)
    (hdTooLarge : PySem.W.hasDictIn K CTooLarge = true)
    (haTooLarge : PySem.W.findIn K (.ref CTooLarge) "__class__" = some (some (.builtin "object.__class__")))
    (hnTooLarge : PySem.W.specialIn K (.builtin "object.__class__") "__get__" = some (some (.builtin "getset_descriptor.__get__")))
    (htTooLarge : PySem.W.takesIn K (.builtin "object.__class__") = some true)
    (hmTooLarge : PySem.W.mroIn K CTooLarge (.type "object") = some true)
    (icTooLarge : PySem.W.isClsIn K CTooLarge = true)
    (sCTooLarge : PySem.W.subIn K (.ref CTooLarge) (.ref CTooLarge) = some true)
    (nf_limit_TooLarge : PySem.W.findIn K (.ref CTooLarge) "limit" = some none)
    (aCZeroDenominator : PySem.W.nsIn K mainGlobals "ZeroDenominator" = some (some (.ref CZeroDenominator)))
    (iCZeroDenominator : PySem.W.findIn K (.ref CZeroDenominator) "__init__" = some (some (.ref fZeroDenominator)))
    (tIZeroDenominator : PySem.W.typeIn K (.ref fZeroDenominator) = some (.type "function"))
    (lkZeroDenominator : K.lookup fZeroDenominator = some ⟨ocZeroDenominator, odZeroDenominator, .func ((NF_ZeroDenominator ccZeroDenominator cZeroDenominator).fd docZeroDenominator pmZeroDenominator ctvZeroDenominator), oslZeroDenominator⟩)
    (hcZeroDenominator : PySem.W.codeIn K (.ref cZeroDenominator) "ZeroDenominator.__init__" = true)
    (xLZeroDenominator : K.lookup CZeroDenominator = some (excClassObj nmZeroDenominator qZeroDenominator CZeroDenominator NZeroDenominator bsZeroDenominator [.ref CSamphireError, .type "ValueError", .type "Exception", .type "BaseException", .type "object"] true snZeroDenominator subZeroDenominator abZeroDenominator colZeroDenominator ddZeroDenominator m0ZeroDenominator m1ZeroDenominator m2ZeroDenominator m3ZeroDenominator m5ZeroDenominator "ValueError.__new__"))
    (saZeroDenominator : PySem.W.findIn K (.ref CZeroDenominator) "__setattr__" = some (some (.builtin "object.__setattr__")))
    (sBZeroDenominator : PySem.W.subIn K (.ref CZeroDenominator) (.type "BaseException") = some true)
    (tCZeroDenominator : PySem.W.typeIn K (.ref CZeroDenominator) = some (.type "type"))
    (kCZeroDenominator : PySem.W.keepIn K (.ref CZeroDenominator) = true)
    (coZeroDenominator : K.lookup cZeroDenominator = some ⟨occZeroDenominator, cddZeroDenominator, .fields cvsZeroDenominator.toArray, cslZeroDenominator⟩)
    (flZeroDenominator : Sup.flIs cvsZeroDenominator l.prog.main.file = true)
    (ceZeroDenominator : K.lookup ccZeroDenominator = some ⟨cclZeroDenominator, ccdZeroDenominator, .cell (some (.ref CZeroDenominator)), ccsZeroDenominator⟩)
    (mrZeroDenominator : PySem.W.mroIn K CZeroDenominator (.ref CZeroDenominator) = some true)
    (sVZeroDenominator : PySem.W.subIn K (.ref CZeroDenominator) (.type "ValueError") = some true)
    (anZeroDenominator : PySem.W.nsIn K PySem.cStatics "thirdparty.any" = some none)
    (suZeroDenominator : PySem.W.ks_superIn K CZeroDenominator CZeroDenominator "__init__" = some (some (.builtin "ValueError.__init__")))
    (tpZeroDenominator : (l.prog.main.scope.names.lookup ("super" : Str)).isSome = false)
    (hgZeroDenominator : PySem.W.findIn K (.ref CZeroDenominator) "__getattribute__" = some (some (.builtin "BaseException.__getattribute__")))
    (hkZeroDenominator : PySem.W.findIn K (.ref CZeroDenominator) "__getattr__" = some none)
    (hdZeroDenominator : PySem.W.hasDictIn K CZeroDenominator = true)
    (haZeroDenominator : PySem.W.findIn K (.ref CZeroDenominator) "__class__" = some (some (.builtin "object.__class__")))
    (hnZeroDenominator : PySem.W.specialIn K (.builtin "object.__class__") "__get__" = some (some (.builtin "getset_descriptor.__get__")))
    (htZeroDenominator : PySem.W.takesIn K (.builtin "object.__class__") = some true)
    (hmZeroDenominator : PySem.W.mroIn K CZeroDenominator (.type "object") = some true)
    (icZeroDenominator : PySem.W.isClsIn K CZeroDenominator = true)
    (sCZeroDenominator : PySem.W.subIn K (.ref CZeroDenominator) (.ref CZeroDenominator) = some true)
    (aCInvalidLaw : PySem.W.nsIn K mainGlobals "InvalidLaw" = some (some (.ref CInvalidLaw)))
    (iCInvalidLaw : PySem.W.findIn K (.ref CInvalidLaw) "__init__" = some (some (.ref fInvalidLaw)))
    (tIInvalidLaw : PySem.W.typeIn K (.ref fInvalidLaw) = some (.type "function"))
    (lkInvalidLaw : K.lookup fInvalidLaw = some ⟨ocInvalidLaw, odInvalidLaw, .func ((NF_InvalidLaw ccInvalidLaw cInvalidLaw).fd docInvalidLaw pmInvalidLaw ctvInvalidLaw), oslInvalidLaw⟩)
    (hcInvalidLaw : PySem.W.codeIn K (.ref cInvalidLaw) "InvalidLaw.__init__" = true)
    (xLInvalidLaw : K.lookup CInvalidLaw = some (excClassObj nmInvalidLaw qInvalidLaw CInvalidLaw NInvalidLaw bsInvalidLaw [.ref CSamphireError, .type "ValueError", .type "Exception", .type "BaseException", .type "object"] true snInvalidLaw subInvalidLaw abInvalidLaw colInvalidLaw ddInvalidLaw m0InvalidLaw m1InvalidLaw m2InvalidLaw m3InvalidLaw m5InvalidLaw "ValueError.__new__"))
    (saInvalidLaw : PySem.W.findIn K (.ref CInvalidLaw) "__setattr__" = some (some (.builtin "object.__setattr__")))
    (sBInvalidLaw : PySem.W.subIn K (.ref CInvalidLaw) (.type "BaseException") = some true)
    (tCInvalidLaw : PySem.W.typeIn K (.ref CInvalidLaw) = some (.type "type"))
    (kCInvalidLaw : PySem.W.keepIn K (.ref CInvalidLaw) = true)
    (coInvalidLaw : K.lookup cInvalidLaw = some ⟨occInvalidLaw, cddInvalidLaw, .fields cvsInvalidLaw.toArray, cslInvalidLaw⟩)
    (flInvalidLaw : Sup.flIs cvsInvalidLaw l.prog.main.file = true)
    (ceInvalidLaw : K.lookup ccInvalidLaw = some ⟨cclInvalidLaw, ccdInvalidLaw, .cell (some (.ref CInvalidLaw)), ccsInvalidLaw⟩)
    (mrInvalidLaw : PySem.W.mroIn K CInvalidLaw (.ref CInvalidLaw) = some true)
    (sVInvalidLaw : PySem.W.subIn K (.ref CInvalidLaw) (.type "ValueError") = some true)
    (anInvalidLaw : PySem.W.nsIn K PySem.cStatics "thirdparty.any" = some none)
    (suInvalidLaw : PySem.W.ks_superIn K CInvalidLaw CInvalidLaw "__init__" = some (some (.builtin "ValueError.__init__")))
    (tpInvalidLaw : (l.prog.main.scope.names.lookup ("super" : Str)).isSome = false)
    (hgInvalidLaw : PySem.W.findIn K (.ref CInvalidLaw) "__getattribute__" = some (some (.builtin "BaseException.__getattribute__")))
    (hkInvalidLaw : PySem.W.findIn K (.ref CInvalidLaw) "__getattr__" = some none)
    (hdInvalidLaw : PySem.W.hasDictIn K CInvalidLaw = true)
    (haInvalidLaw : PySem.W.findIn K (.ref CInvalidLaw) "__class__" = some (some (.builtin "object.__class__")))
    (hnInvalidLaw : PySem.W.specialIn K (.builtin "object.__class__") "__get__" = some (some (.builtin "getset_descriptor.__get__")))
    (htInvalidLaw : PySem.W.takesIn K (.builtin "object.__class__") = some true)
    (hmInvalidLaw : PySem.W.mroIn K CInvalidLaw (.type "object") = some true)
    (icInvalidLaw : PySem.W.isClsIn K CInvalidLaw = true)
    (sCInvalidLaw : PySem.W.subIn K (.ref CInvalidLaw) (.ref CInvalidLaw) = some true)
    (aCNotEnded : PySem.W.nsIn K mainGlobals "NotEnded" = some (some (.ref CNotEnded)))
    (iCNotEnded : PySem.W.findIn K (.ref CNotEnded) "__init__" = some (some (.ref fNotEnded)))
    (tINotEnded : PySem.W.typeIn K (.ref fNotEnded) = some (.type "function"))
    (lkNotEnded : K.lookup fNotEnded = some ⟨ocNotEnded, odNotEnded, .func ((NF_NotEnded ccNotEnded cNotEnded).fd docNotEnded pmNotEnded ctvNotEnded), oslNotEnded⟩)
    (hcNotEnded : PySem.W.codeIn K (.ref cNotEnded) "NotEnded.__init__" = true)
    (xLNotEnded : K.lookup CNotEnded = some (excClassObj nmNotEnded qNotEnded CNotEnded NNotEnded bsNotEnded [.ref CSamphireError, .type "ValueError", .type "Exception", .type "BaseException", .type "object"] true snNotEnded subNotEnded abNotEnded colNotEnded ddNotEnded m0NotEnded m1NotEnded m2NotEnded m3NotEnded m5NotEnded "ValueError.__new__"))
    (saNotEnded : PySem.W.findIn K (.ref CNotEnded) "__setattr__" = some (some (.builtin "object.__setattr__")))
    (sBNotEnded : PySem.W.subIn K (.ref CNotEnded) (.type "BaseException") = some true)
    (tCNotEnded : PySem.W.typeIn K (.ref CNotEnded) = some (.type "type"))
    (kCNotEnded : PySem.W.keepIn K (.ref CNotEnded) = true)
    (coNotEnded : K.lookup cNotEnded = some ⟨occNotEnded, cddNotEnded, .fields cvsNotEnded.toArray, cslNotEnded⟩)
    (flNotEnded : Sup.flIs cvsNotEnded l.prog.main.file = true)
    (ceNotEnded : K.lookup ccNotEnded = some ⟨cclNotEnded, ccdNotEnded, .cell (some (.ref CNotEnded)), ccsNotEnded⟩)
    (mrNotEnded : PySem.W.mroIn K CNotEnded (.ref CNotEnded) = some true)
    (sVNotEnded : PySem.W.subIn K (.ref CNotEnded) (.type "ValueError") = some true)
    (anNotEnded : PySem.W.nsIn K PySem.cStatics "thirdparty.any" = some none)
    (suNotEnded : PySem.W.ks_superIn K CNotEnded CNotEnded "__init__" = some (some (.builtin "ValueError.__init__")))
    (tpNotEnded : (l.prog.main.scope.names.lookup ("super" : Str)).isSome = false)
    (hgNotEnded : PySem.W.findIn K (.ref CNotEnded) "__getattribute__" = some (some (.builtin "BaseException.__getattribute__")))
    (hkNotEnded : PySem.W.findIn K (.ref CNotEnded) "__getattr__" = some none)
    (hdNotEnded : PySem.W.hasDictIn K CNotEnded = true)
    (haNotEnded : PySem.W.findIn K (.ref CNotEnded) "__class__" = some (some (.builtin "object.__class__")))
    (hnNotEnded : PySem.W.specialIn K (.builtin "object.__class__") "__get__" = some (some (.builtin "getset_descriptor.__get__")))
    (htNotEnded : PySem.W.takesIn K (.builtin "object.__class__") = some true)
    (hmNotEnded : PySem.W.mroIn K CNotEnded (.type "object") = some true)
    (icNotEnded : PySem.W.isClsIn K CNotEnded = true)
    (sCNotEnded : PySem.W.subIn K (.ref CNotEnded) (.ref CNotEnded) = some true)
    (kitOptimalOptimal : PySem.W.kitOne K (.ref COptimal) (.ref COptimal) = some true)
    (aCOptimal : PySem.W.nsIn K mainGlobals "Optimal" = some (some (.ref COptimal)))
    (pgOptimal : PySem.W.plainGet K COptimal Str.empty = true) (hdOptimal : PySem.W.hasDictIn K COptimal = true) (poOptimal : PySem.W.plainOver K COptimal = true) (saOptimal : PySem.W.findIn K (.ref COptimal) "__setattr__" = some (some (.builtin "object.__setattr__"))) (mkOptimal : PySem.W.makesIn K COptimal = true) (kcOptimal : PySem.W.keepIn K (.ref COptimal) = true)
    (nOptimal_size : PySem.W.findIn K (.ref COptimal) "size" = some none)
    (nOptimal_parts : PySem.W.findIn K (.ref COptimal) "parts" = some none)
    (nOptimal_kept : PySem.W.findIn K (.ref COptimal) "kept" = some none)
    (aCExplorer : PySem.W.nsIn K mainGlobals "Explorer" = some (some (.ref CExplorer)))
    (pgExplorer : PySem.W.plainGet K CExplorer Str.empty = true) (hdExplorer : PySem.W.hasDictIn K CExplorer = true) (poExplorer : PySem.W.plainOver K CExplorer = true) (saExplorer : PySem.W.findIn K (.ref CExplorer) "__setattr__" = some (some (.builtin "object.__setattr__"))) (mkExplorer : PySem.W.makesIn K CExplorer = true) (kcExplorer : PySem.W.keepIn K (.ref CExplorer) = true)
    (nExplorer__path : PySem.W.findIn K (.ref CExplorer) "_path" = some none)
    (nExplorer__made : PySem.W.findIn K (.ref CExplorer) "_made" = some none)
    (nExplorer__running : PySem.W.findIn K (.ref CExplorer) "_running" = some none)
    (nExplorer__finished : PySem.W.findIn K (.ref CExplorer) "_finished" = some none)
    (nExplorer__rows : PySem.W.findIn K (.ref CExplorer) "_rows" = some none)
    (isaOptimal : PySem.W.findIn K (.ref COptimal) "__class__" = some (some (.builtin "object.__class__")))
    (isgOptimal : PySem.W.specialIn K (.builtin "object.__class__") "__get__" = some (some (.builtin "getset_descriptor.__get__")))
    (istOptimal : PySem.W.takesIn K (.builtin "object.__class__") = some true)
    (ismOptimal : PySem.W.mroIn K COptimal (.type "object") = some true)
    (z_abs : PySem.W.nsIn K mainGlobals "abs" = some none)
    (z_int : PySem.W.nsIn K mainGlobals "int" = some none)
    (z_isinstance : PySem.W.nsIn K mainGlobals "isinstance" = some none)
    (z_len : PySem.W.nsIn K mainGlobals "len" = some none)
    (z_list : PySem.W.nsIn K mainGlobals "list" = some none)
    (z_max : PySem.W.nsIn K mainGlobals "max" = some none)
    (z_range : PySem.W.nsIn K mainGlobals "range" = some none)
    (z_reversed : PySem.W.nsIn K mainGlobals "reversed" = some none)
    (z_sorted : PySem.W.nsIn K mainGlobals "sorted" = some none)
    (z_sum : PySem.W.nsIn K mainGlobals "sum" = some none)
    (z_super : PySem.W.nsIn K mainGlobals "super" = some none)
    (z_tuple : PySem.W.nsIn K mainGlobals "tuple" = some none)
    (v_MOST_RUNS : PySem.W.nsIn K mainGlobals "MOST_RUNS" = some (some (.int (20000) t_MOST_RUNS)))
    (v_ZERO : PySem.W.nsIn K mainGlobals "ZERO" = some (some (.ref k_ZERO)))
    (l_ZERO : K.lookup k_ZERO = some ⟨.type "tuple", od_ZERO, .seq #[.int (0) t0_ZERO, .int (1) t1_ZERO] nn_ZERO, sl_ZERO⟩)
    (v_ONE : PySem.W.nsIn K mainGlobals "ONE" = some (some (.ref k_ONE)))
    (l_ONE : K.lookup k_ONE = some ⟨.type "tuple", od_ONE, .seq #[.int (1) t0_ONE, .int (1) t1_ONE] nn_ONE, sl_ONE⟩)
    (g_gcd : PySem.W.nsIn K mainGlobals "gcd" = some (some (.builtin "math.gcd")))
    (g_lcm : PySem.W.nsIn K mainGlobals "lcm" = some (some (.builtin "math.lcm"))) :
    LamX.LawAtS l w K (CX0) 10 63 "script" mg fa h := by
  have e : f47 = fa := by
    have e := hfa.symm.trans (PySem.W.mg_of X G a47)
    cases e
    rfl
  subst e
  have mk : ∀ base : Heap, (∀ p ∈ [(tc20, tP20), (tc41, tP41)], LamX.TabB base mg p.1 p.2) → ∃ t : T l.prog K mg base, t.a_law = f47 ∧ t.fd_law = PySem.W.fnOf "law" "law" (defArgs s_law) (defBody s_law) (defScope s_law) .none kV47 dc47 pm47 an47 cd47 ct47 ∧ t.P_law_from = tP20 ∧ t.P__law_threshold = tP41 := fun base hTB => ⟨{
    a_lowest := f1, fd_lowest := _, F_lowest := fun_mk (st := s_lowest) l1 c1 k1, b_lowest := (fun_mk (st := s_lowest) l1 c1 k1).binds (ps := ["p", "q"]) (fun _ _ _ _ _ _ us hl => match us, hl with | [_, _], _ => rfl),
    g_lowest := PySem.W.mg_of X G a1,
    a_plus := f2, fd_plus := _, F_plus := fun_mk (st := s_plus) l2 c2 k2, b_plus := (fun_mk (st := s_plus) l2 c2 k2).binds (ps := ["a", "b"]) (fun _ _ _ _ _ _ us hl => match us, hl with | [_, _], _ => rfl),
    g_plus := PySem.W.mg_of X G a2,
    a_minus := f3, fd_minus := _, F_minus := fun_mk (st := s_minus) l3 c3 k3, b_minus := (fun_mk (st := s_minus) l3 c3 k3).binds (ps := ["a", "b"]) (fun _ _ _ _ _ _ us hl => match us, hl with | [_, _], _ => rfl),
    g_minus := PySem.W.mg_of X G a3,
    a_times := f4, fd_times := _, F_times := fun_mk (st := s_times) l4 c4 k4, b_times := (fun_mk (st := s_times) l4 c4 k4).binds (ps := ["a", "b"]) (fun _ _ _ _ _ _ us hl => match us, hl with | [_, _], _ => rfl),
    g_times := PySem.W.mg_of X G a4,
    a_over := f5, fd_over := _, F_over := fun_mk (st := s_over) l5 c5 k5, b_over := (fun_mk (st := s_over) l5 c5 k5).binds (ps := ["a", "b"]) (fun _ _ _ _ _ _ us hl => match us, hl with | [_, _], _ => rfl),
    g_over := PySem.W.mg_of X G a5,
    a_less := f6, fd_less := _, F_less := fun_mk (st := s_less) l6 c6 k6, b_less := (fun_mk (st := s_less) l6 c6 k6).binds (ps := ["a", "b"]) (fun _ _ _ _ _ _ us hl => match us, hl with | [_, _], _ => rfl),
    g_less := PySem.W.mg_of X G a6,
    a_sum_of := f7, fd_sum_of := _, F_sum_of := fun_mk (st := s_sum_of) l7 c7 k7, b_sum_of := (fun_mk (st := s_sum_of) l7 c7 k7).binds (ps := ["fractions"]) (fun _ _ _ _ _ _ us hl => match us, hl with | [_], _ => rfl),
    g_sum_of := PySem.W.mg_of X G a7,
    a_common_denominator := f8, fd_common_denominator := _, F_common_denominator := fun_mk (st := s_common_denominator) l8 c8 k8, b_common_denominator := (fun_mk (st := s_common_denominator) l8 c8 k8).binds (ps := ["fractions"]) (fun _ _ _ _ _ _ us hl => match us, hl with | [_], _ => rfl),
    g_common_denominator := PySem.W.mg_of X G a8,
    a_scaled := f9, fd_scaled := _, F_scaled := fun_mk (st := s_scaled) l9 c9 k9, b_scaled := (fun_mk (st := s_scaled) l9 c9 k9).binds (ps := ["fractions", "factor"]) (fun _ _ _ _ _ _ us hl => match us, hl with | [_, _], _ => rfl),
    g_scaled := PySem.W.mg_of X G a9,
    a_least_twice := f10, fd_least_twice := _, F_least_twice := fun_mk (st := s_least_twice) l10 c10 k10, b_least_twice := (fun_mk (st := s_least_twice) l10 c10 k10).binds (ps := ["names"]) (fun _ _ _ _ _ _ us hl => match us, hl with | [_], _ => rfl),
    g_least_twice := PySem.W.mg_of X G a10,
    a_check_keys := f11, fd_check_keys := _, F_check_keys := fun_mk (st := s_check_keys) l11 c11 k11, b_check_keys := (fun_mk (st := s_check_keys) l11 c11 k11).binds (ps := ["samples"]) (fun _ _ _ _ _ _ us hl => match us, hl with | [_], _ => rfl),
    g_check_keys := PySem.W.mg_of X G a11,
    a_threshold := f12, fd_threshold := _, F_threshold := fun_mk (st := s_threshold) l12 c12 k12, b_threshold := (fun_mk (st := s_threshold) l12 c12 k12).binds (ps := ["weights", "size"]) (fun _ _ _ _ _ _ us hl => match us, hl with | [_, _], _ => rfl),
    g_threshold := PySem.W.mg_of X G a12,
    a_chance_at := f13, fd_chance_at := _, F_chance_at := fun_mk (st := s_chance_at) l13 c13 k13, b_chance_at := (fun_mk (st := s_chance_at) l13 c13 k13).binds (ps := ["weight", "bar"]) (fun _ _ _ _ _ _ us hl => match us, hl with | [_, _], _ => rfl),
    g_chance_at := PySem.W.mg_of X G a13,
    a_raised := f14, fd_raised := _, F_raised := fun_mk (st := s_raised) l14 c14 k14, b_raised := (fun_mk (st := s_raised) l14 c14 k14).binds (ps := ["pair", "bar"]) (fun _ _ _ _ _ _ us hl => match us, hl with | [_, _], _ => rfl),
    g_raised := PySem.W.mg_of X G a14,
    a_one_dropped := f15, fd_one_dropped := _, F_one_dropped := fun_mk (st := s_one_dropped) l15 c15 k15, b_one_dropped := (fun_mk (st := s_one_dropped) l15 c15 k15).binds (ps := ["pairs", "dice"]) (fun _ _ _ _ _ _ us hl => match us, hl with | [_, _], _ => rfl),
    g_one_dropped := PySem.W.mg_of X G a15,
    a_Optimal_init := f16, fd_Optimal_init := _, F_Optimal_init := fun_mk (st := s_Optimal_init) l16 c16 k16, b_Optimal_init := (fun_mk (st := s_Optimal_init) l16 c16 k16).binds (ps := ["self", "size", "parts"]) (fun _ _ _ _ _ _ us hl => match us, hl with | [_, _, _], _ => rfl),
    a_Optimal_merge := f17, fd_Optimal_merge := _, F_Optimal_merge := fun_mk (st := s_Optimal_merge) l17 c17 k17, b_Optimal_merge := (fun_mk (st := s_Optimal_merge) l17 c17 k17).binds (ps := ["self", "other", "dice"]) (fun _ _ _ _ _ _ us hl => match us, hl with | [_, _, _], _ => rfl),
    a_Optimal_view := f18, fd_Optimal_view := _, F_Optimal_view := fun_mk (st := s_Optimal_view) l18 c18 k18, b_Optimal_view := (fun_mk (st := s_Optimal_view) l18 c18 k18).binds (ps := ["self"]) (fun _ _ _ _ _ _ us hl => match us, hl with | [_], _ => rfl),
    a_check_chances := f19, fd_check_chances := _, F_check_chances := fun_mk (st := s_check_chances) l19 c19 k19, b_check_chances := (fun_mk (st := s_check_chances) l19 c19 k19).binds (ps := ["chances"]) (fun _ _ _ _ _ _ us hl => match us, hl with | [_], _ => rfl),
    g_check_chances := PySem.W.mg_of X G a19,
    c_law_from := tc20, P_law_from := tP20, TB_law_from := hTB (tc20, tP20) (by simp), L_law_from := ⟨_, _, _, _, _, _, _, _, rfl, l20, c20⟩,
    a_law_from := f20, fd_law_from := _, F_law_from := fun_mk (st := s_law_from) l20 c20 k20, b_law_from := (fun_mk (st := s_law_from) l20 c20 k20).binds (ps := ["rows"]) (fun _ _ _ _ _ _ us hl => match us, hl with | [_], _ => rfl),
    g_law_from := PySem.W.mg_of X G a20,
    a_next_number := f21, fd_next_number := _, F_next_number := fun_mk (st := s_next_number) l21 c21 k21, b_next_number := (fun_mk (st := s_next_number) l21 c21 k21).binds (ps := ["weights", "start"]) (fun _ _ _ _ _ _ us hl => match us, hl with | [_, _], _ => rfl),
    g_next_number := PySem.W.mg_of X G a21,
    a_chance_behind := f22, fd_chance_behind := _, F_chance_behind := fun_mk (st := s_chance_behind) l22 c22 k22, b_chance_behind := (fun_mk (st := s_chance_behind) l22 c22 k22).binds (ps := ["path"]) (fun _ _ _ _ _ _ us hl => match us, hl with | [_], _ => rfl),
    g_chance_behind := PySem.W.mg_of X G a22,
    a_following := f23, fd_following := _, F_following := fun_mk (st := s_following) l23 c23 k23, b_following := (fun_mk (st := s_following) l23 c23 k23).binds (ps := ["path"]) (fun _ _ _ _ _ _ us hl => match us, hl with | [_], _ => rfl),
    g_following := PySem.W.mg_of X G a23,
    a_Explorer_init := f24, fd_Explorer_init := _, F_Explorer_init := fun_mk (st := s_Explorer_init) l24 c24 k24, b_Explorer_init := (fun_mk (st := s_Explorer_init) l24 c24 k24).binds (ps := ["self"]) (fun _ _ _ _ _ _ us hl => match us, hl with | [_], _ => rfl),
    a_Explorer_begin := f25, fd_Explorer_begin := _, F_Explorer_begin := fun_mk (st := s_Explorer_begin) l25 c25 k25, b_Explorer_begin := (fun_mk (st := s_Explorer_begin) l25 c25 k25).binds (ps := ["self"]) (fun _ _ _ _ _ _ us hl => match us, hl with | [_], _ => rfl),
    a_Explorer_pick := f26, fd_Explorer_pick := _, F_Explorer_pick := fun_mk (st := s_Explorer_pick) l26 c26 k26, b_Explorer_pick := (fun_mk (st := s_Explorer_pick) l26 c26 k26).binds (ps := ["self", "weights"]) (fun _ _ _ _ _ _ us hl => match us, hl with | [_, _], _ => rfl),
    a_Explorer_end := f27, fd_Explorer_end := _, F_Explorer_end := fun_mk (st := s_Explorer_end) l27 c27 k27, b_Explorer_end := (fun_mk (st := s_Explorer_end) l27 c27 k27).binds (ps := ["self", "outcome"]) (fun _ _ _ _ _ _ us hl => match us, hl with | [_, _], _ => rfl),
    a_Explorer_runs := f28, fd_Explorer_runs := _, F_Explorer_runs := fun_mk (st := s_Explorer_runs) l28 c28 k28, b_Explorer_runs := (fun_mk (st := s_Explorer_runs) l28 c28 k28).binds (ps := ["self"]) (fun _ _ _ _ _ _ us hl => match us, hl with | [_], _ => rfl),
    a_Explorer_gathered := f29, fd_Explorer_gathered := _, F_Explorer_gathered := fun_mk (st := s_Explorer_gathered) l29 c29 k29, b_Explorer_gathered := (fun_mk (st := s_Explorer_gathered) l29 c29 k29).binds (ps := ["self"]) (fun _ _ _ _ _ _ us hl => match us, hl with | [_], _ => rfl),
    a__law_mix := f30, fd__law_mix := _, F__law_mix := fun_mk (st := s__law_mix) l30 c30 k30, b__law_mix := (fun_mk (st := s__law_mix) l30 c30 k30).binds (ps := ["number", "k"]) (fun _ _ _ _ _ _ us hl => match us, hl with | [_, _], _ => rfl),
    g__law_mix := PySem.W.mg_of X G a30,
    a__law_numbers := f31, fd__law_numbers := _, F__law_numbers := fun_mk (st := s__law_numbers) l31 c31 k31, b__law_numbers := (fun_mk (st := s__law_numbers) l31 c31 k31).binds (ps := ["script", "count"]) (fun _ _ _ _ _ _ us hl => match us, hl with | [_, _], _ => rfl),
    g__law_numbers := PySem.W.mg_of X G a31,
    a__law_take := f32, fd__law_take := _, F__law_take := fun_mk (st := s__law_take) l32 c32 k32, b__law_take := (fun_mk (st := s__law_take) l32 c32 k32).binds (ps := ["row", "bound"]) (fun _ _ _ _ _ _ us hl => match us, hl with | [_, _], _ => rfl),
    g__law_take := PySem.W.mg_of X G a32,
    a__law_low := f33, fd__law_low := _, F__law_low := fun_mk (st := s__law_low) l33 c33 k33, b__law_low := (fun_mk (st := s__law_low) l33 c33 k33).binds (ps := ["p", "q"]) (fun _ _ _ _ _ _ us hl => match us, hl with | [_, _], _ => rfl),
    g__law_low := PySem.W.mg_of X G a33,
    a__law_plus := f34, fd__law_plus := _, F__law_plus := fun_mk (st := s__law_plus) l34 c34 k34, b__law_plus := (fun_mk (st := s__law_plus) l34 c34 k34).binds (ps := ["one", "other"]) (fun _ _ _ _ _ _ us hl => match us, hl with | [_, _], _ => rfl),
    g__law_plus := PySem.W.mg_of X G a34,
    a__law_minus := f35, fd__law_minus := _, F__law_minus := fun_mk (st := s__law_minus) l35 c35 k35, b__law_minus := (fun_mk (st := s__law_minus) l35 c35 k35).binds (ps := ["one", "other"]) (fun _ _ _ _ _ _ us hl => match us, hl with | [_, _], _ => rfl),
    g__law_minus := PySem.W.mg_of X G a35,
    a__law_times := f36, fd__law_times := _, F__law_times := fun_mk (st := s__law_times) l36 c36 k36, b__law_times := (fun_mk (st := s__law_times) l36 c36 k36).binds (ps := ["one", "other"]) (fun _ _ _ _ _ _ us hl => match us, hl with | [_, _], _ => rfl),
    g__law_times := PySem.W.mg_of X G a36,
    a__law_less := f37, fd__law_less := _, F__law_less := fun_mk (st := s__law_less) l37 c37 k37, b__law_less := (fun_mk (st := s__law_less) l37 c37 k37).binds (ps := ["one", "other"]) (fun _ _ _ _ _ _ us hl => match us, hl with | [_, _], _ => rfl),
    g__law_less := PySem.W.mg_of X G a37,
    a__law_sum := f38, fd__law_sum := _, F__law_sum := fun_mk (st := s__law_sum) l38 c38 k38, b__law_sum := (fun_mk (st := s__law_sum) l38 c38 k38).binds (ps := ["rows"]) (fun _ _ _ _ _ _ us hl => match us, hl with | [_], _ => rfl),
    g__law_sum := PySem.W.mg_of X G a38,
    a__law_items := f39, fd__law_items := _, F__law_items := fun_mk (st := s__law_items) l39 c39 k39, b__law_items := (fun_mk (st := s__law_items) l39 c39 k39).binds (ps := ["row", "many"]) (fun _ _ _ _ _ _ us hl => match us, hl with | [_, _], _ => rfl),
    g__law_items := PySem.W.mg_of X G a39,
    a__law_lesser := f40, fd__law_lesser := _, F__law_lesser := fun_mk (st := s__law_lesser) l40 c40 k40, b__law_lesser := (fun_mk (st := s__law_lesser) l40 c40 k40).binds (ps := ["weight", "limit"]) (fun _ _ _ _ _ _ us hl => match us, hl with | [_, _], _ => rfl),
    g__law_lesser := PySem.W.mg_of X G a40,
    c__law_threshold := tc41, P__law_threshold := tP41, TB__law_threshold := hTB (tc41, tP41) (by simp), L__law_threshold := ⟨_, _, _, _, _, _, _, _, rfl, l41, c41⟩,
    a__law_threshold := f41, fd__law_threshold := _, F__law_threshold := fun_mk (st := s__law_threshold) l41 c41 k41, b__law_threshold := (fun_mk (st := s__law_threshold) l41 c41 k41).binds (ps := ["weights", "size"]) (fun _ _ _ _ _ _ us hl => match us, hl with | [_, _], _ => rfl),
    g__law_threshold := PySem.W.mg_of X G a41,
    a__law_raised := f42, fd__law_raised := _, F__law_raised := fun_mk (st := s__law_raised) l42 c42 k42, b__law_raised := (fun_mk (st := s__law_raised) l42 c42 k42).binds (ps := ["parts", "limit"]) (fun _ _ _ _ _ _ us hl => match us, hl with | [_, _], _ => rfl),
    g__law_raised := PySem.W.mg_of X G a42,
    a__law_dropped := f43, fd__law_dropped := _, F__law_dropped := fun_mk (st := s__law_dropped) l43 c43 k43, b__law_dropped := (fun_mk (st := s__law_dropped) l43 c43 k43).binds (ps := ["chance", "parts", "size"]) (fun _ _ _ _ _ _ us hl => match us, hl with | [_, _, _], _ => rfl),
    g__law_dropped := PySem.W.mg_of X G a43,
    a__law_law := f44, fd__law_law := _, F__law_law := fun_mk (st := s__law_law) l44 c44 k44, b__law_law := (fun_mk (st := s__law_law) l44 c44 k44).binds (ps := ["rows"]) (fun _ _ _ _ _ _ us hl => match us, hl with | [_], _ => rfl),
    g__law_law := PySem.W.mg_of X G a44,
    a__law_parts := f45, fd__law_parts := _, F__law_parts := fun_mk (st := s__law_parts) l45 c45 k45, b__law_parts := (fun_mk (st := s__law_parts) l45 c45 k45).binds (ps := ["row", "things"]) (fun _ _ _ _ _ _ us hl => match us, hl with | [_, _], _ => rfl),
    g__law_parts := PySem.W.mg_of X G a45,
    a__law_explored := f46, fd__law_explored := _, F__law_explored := fun_mk (st := s__law_explored) l46 c46 k46, b__law_explored := (fun_mk (st := s__law_explored) l46 c46 k46).binds (ps := ["first", "second"]) (fun _ _ _ _ _ _ us hl => match us, hl with | [_, _], _ => rfl),
    g__law_explored := PySem.W.mg_of X G a46,
    a_law := f47, fd_law := _, F_law := fun_mk (st := s_law) l47 c47 k47, b_law := (fun_mk (st := s_law) l47 c47 k47).binds (ps := ["script"]) (fun _ _ _ _ _ _ us hl => match us, hl with | [_], _ => rfl),
    g_law := PySem.W.mg_of X G a47,
    neP := tne,
    C_SamphireError := CSamphireError, mg_SamphireError := PySem.W.mg_of X G aCSamphireError,
    C_TooLarge := CTooLarge, a_TooLarge_init := fTooLarge, c_TooLarge := cTooLarge, cc_TooLarge := ccTooLarge, doc_TooLarge := docTooLarge, pm_TooLarge := pmTooLarge, ctv_TooLarge := ctvTooLarge, oc_TooLarge := ocTooLarge, od_TooLarge := odTooLarge, osl_TooLarge := oslTooLarge, lk_TooLarge := lkTooLarge, hc_TooLarge := hcTooLarge,
    x_TooLarge := Sup.excT_mk xLTooLarge rfl saTooLarge sBTooLarge tCTooLarge kCTooLarge coTooLarge flTooLarge ceTooLarge mrTooLarge sVTooLarge (PySem.W.mg_none_of X G z_super) anTooLarge suTooLarge tpTooLarge (PySem.W.mg_of X G aCTooLarge) iCTooLarge tITooLarge ⟨hgTooLarge, hkTooLarge, sBTooLarge, hdTooLarge, haTooLarge, hnTooLarge, htTooLarge, hmTooLarge⟩ icTooLarge sCTooLarge,
    bx_TooLarge := .all (fun us hl => match us, hl with | [_, _], _ => rfl),
    nf_TooLarge_limit := nf_limit_TooLarge,
    C_ZeroDenominator := CZeroDenominator, a_ZeroDenominator_init := fZeroDenominator, c_ZeroDenominator := cZeroDenominator, cc_ZeroDenominator := ccZeroDenominator, doc_ZeroDenominator := docZeroDenominator, pm_ZeroDenominator := pmZeroDenominator, ctv_ZeroDenominator := ctvZeroDenominator, oc_ZeroDenominator := ocZeroDenominator, od_ZeroDenominator := odZeroDenominator, osl_ZeroDenominator := oslZeroDenominator, lk_ZeroDenominator := lkZeroDenominator, hc_ZeroDenominator := hcZeroDenominator,
    x_ZeroDenominator := Sup.excT_mk xLZeroDenominator rfl saZeroDenominator sBZeroDenominator tCZeroDenominator kCZeroDenominator coZeroDenominator flZeroDenominator ceZeroDenominator mrZeroDenominator sVZeroDenominator (PySem.W.mg_none_of X G z_super) anZeroDenominator suZeroDenominator tpZeroDenominator (PySem.W.mg_of X G aCZeroDenominator) iCZeroDenominator tIZeroDenominator ⟨hgZeroDenominator, hkZeroDenominator, sBZeroDenominator, hdZeroDenominator, haZeroDenominator, hnZeroDenominator, htZeroDenominator, hmZeroDenominator⟩ icZeroDenominator sCZeroDenominator,
    bx_ZeroDenominator := .all (fun us hl => match us, hl with | [_], _ => rfl),
    C_InvalidLaw := CInvalidLaw, a_InvalidLaw_init := fInvalidLaw, c_InvalidLaw := cInvalidLaw, cc_InvalidLaw := ccInvalidLaw, doc_InvalidLaw := docInvalidLaw, pm_InvalidLaw := pmInvalidLaw, ctv_InvalidLaw := ctvInvalidLaw, oc_InvalidLaw := ocInvalidLaw, od_InvalidLaw := odInvalidLaw, osl_InvalidLaw := oslInvalidLaw, lk_InvalidLaw := lkInvalidLaw, hc_InvalidLaw := hcInvalidLaw,
    x_InvalidLaw := Sup.excT_mk xLInvalidLaw rfl saInvalidLaw sBInvalidLaw tCInvalidLaw kCInvalidLaw coInvalidLaw flInvalidLaw ceInvalidLaw mrInvalidLaw sVInvalidLaw (PySem.W.mg_none_of X G z_super) anInvalidLaw suInvalidLaw tpInvalidLaw (PySem.W.mg_of X G aCInvalidLaw) iCInvalidLaw tIInvalidLaw ⟨hgInvalidLaw, hkInvalidLaw, sBInvalidLaw, hdInvalidLaw, haInvalidLaw, hnInvalidLaw, htInvalidLaw, hmInvalidLaw⟩ icInvalidLaw sCInvalidLaw,
    bx_InvalidLaw := .all (fun us hl => match us, hl with | [_], _ => rfl),
    C_NotEnded := CNotEnded, a_NotEnded_init := fNotEnded, c_NotEnded := cNotEnded, cc_NotEnded := ccNotEnded, doc_NotEnded := docNotEnded, pm_NotEnded := pmNotEnded, ctv_NotEnded := ctvNotEnded, oc_NotEnded := ocNotEnded, od_NotEnded := odNotEnded, osl_NotEnded := oslNotEnded, lk_NotEnded := lkNotEnded, hc_NotEnded := hcNotEnded,
    x_NotEnded := Sup.excT_mk xLNotEnded rfl saNotEnded sBNotEnded tCNotEnded kCNotEnded coNotEnded flNotEnded ceNotEnded mrNotEnded sVNotEnded (PySem.W.mg_none_of X G z_super) anNotEnded suNotEnded tpNotEnded (PySem.W.mg_of X G aCNotEnded) iCNotEnded tINotEnded ⟨hgNotEnded, hkNotEnded, sBNotEnded, hdNotEnded, haNotEnded, hnNotEnded, htNotEnded, hmNotEnded⟩ icNotEnded sCNotEnded,
    bx_NotEnded := .all (fun us hl => match us, hl with | [_], _ => rfl),
    kit_Optimal_Optimal := kitOptimalOptimal,
    C_Optimal := COptimal, cl_Optimal := ⟨pgOptimal, hdOptimal, poOptimal, saOptimal⟩, mg_Optimal := PySem.W.mg_of X G aCOptimal,
    mk_Optimal := ⟨mkOptimal, a16, i16, kcOptimal⟩,
    na_Optimal_size := nOptimal_size,
    na_Optimal_parts := nOptimal_parts,
    na_Optimal_kept := nOptimal_kept,
    me_Optimal_merge := ⟨a17, i17, k17⟩,
    me_Optimal_view := ⟨a18, i18, k18⟩,
    C_Explorer := CExplorer, cl_Explorer := ⟨pgExplorer, hdExplorer, poExplorer, saExplorer⟩, mg_Explorer := PySem.W.mg_of X G aCExplorer,
    mk_Explorer := ⟨mkExplorer, a24, i24, kcExplorer⟩,
    na_Explorer__path := nExplorer__path,
    na_Explorer__made := nExplorer__made,
    na_Explorer__running := nExplorer__running,
    na_Explorer__finished := nExplorer__finished,
    na_Explorer__rows := nExplorer__rows,
    me_Explorer_begin := ⟨a25, i25, k25⟩,
    me_Explorer_pick := ⟨a26, i26, k26⟩,
    me_Explorer_end := ⟨a27, i27, k27⟩,
    me_Explorer_runs := ⟨a28, i28, k28⟩,
    me_Explorer_gathered := ⟨a29, i29, k29⟩,
    isa_Optimal := isaOptimal,
    isg_Optimal := isgOptimal,
    ist_Optimal := istOptimal,
    ism_Optimal := ismOptimal,
    z_abs := PySem.W.mg_none_of X G z_abs,
    z_int := PySem.W.mg_none_of X G z_int,
    z_isinstance := PySem.W.mg_none_of X G z_isinstance,
    z_len := PySem.W.mg_none_of X G z_len,
    z_list := PySem.W.mg_none_of X G z_list,
    z_max := PySem.W.mg_none_of X G z_max,
    z_range := PySem.W.mg_none_of X G z_range,
    z_reversed := PySem.W.mg_none_of X G z_reversed,
    z_sorted := PySem.W.mg_none_of X G z_sorted,
    z_sum := PySem.W.mg_none_of X G z_sum,
    z_super := PySem.W.mg_none_of X G z_super,
    z_tuple := PySem.W.mg_none_of X G z_tuple,
    v_MOST_RUNS := _, g_MOST_RUNS := PySem.W.mg_of X G v_MOST_RUNS, r_MOST_RUNS := ⟨_, rfl⟩,
    k_ZERO := k_ZERO, g_ZERO := PySem.W.mg_of X G v_ZERO, q_ZERO := fun H => .inr ⟨_, _, _, l_ZERO, rfl, rfl, (show 2 ≤ sizeLine by decide), (.cons ⟨_, rfl⟩ (.cons ⟨_, rfl⟩ .nil))⟩,
    k_ONE := k_ONE, g_ONE := PySem.W.mg_of X G v_ONE, q_ONE := fun H => .inr ⟨_, _, _, l_ONE, rfl, rfl, (show 2 ≤ sizeLine by decide), (.cons ⟨_, rfl⟩ (.cons ⟨_, rfl⟩ .nil))⟩,
    g_gcd := PySem.W.mg_of X G g_gcd,
    g_lcm := PySem.W.mg_of X G g_lcm }, rfl, rfl, rfl, rfl⟩
  refine ⟨PySem.W.fnOf "law" "law" (defArgs s_law) (defBody s_law) (defScope s_law) .none kV47 dc47 pm47 an47 cd47 ct47, [(tc20, tP20), (tc41, tP41)], spLaw K tP20 tP41, List.forall_mem_cons.mpr ⟨hts _ tm20, List.forall_mem_cons.mpr ⟨hts _ tm41, fun _ h => nomatch h⟩⟩, List.forall_mem_cons.mpr ⟨tn20, List.forall_mem_cons.mpr ⟨tn41, fun _ h => nomatch h⟩⟩, List.forall_mem_cons.mpr ⟨PySem.W.codeHd_of_K X th20, List.forall_mem_cons.mpr ⟨PySem.W.codeHd_of_K X th41, fun _ h => nomatch h⟩⟩, fun s v => .of_eq rfl, fun H a ns h1 h2 hT hS => spLaw_in H a ns h1 h2 (hT (tc20, tP20) (by simp)) (hT (tc41, tP41) (by simp)) hS, fun base KX G' hTB => ?_⟩
  obtain ⟨t, e1, e2, e3, e4⟩ := mk base hTB
  have z := ok_law (w := w) t
  rw [e1, e2, e3, e4] at z
  exact z

end K27
open PySem PySem.W PyProof.Rows in
set_option maxRecDepth 100000 in
set_option maxHeartbeats 0 in
theorem PySem.Challenge.cw_samphire_k27_merges_of_optimal_samples_holds : PySem.Challenge.rw_samphire_k27_merges_of_optimal_samples.Holds := by
  w_on; o_law; k_head; (case hw => w_witness2)
  k_fill
  refine LamX.walk_ofTs (l := PySem.Challenge.rw_samphire_k27_merges_of_optimal_samples) (n := 63) (k := 10) (x := "script") (CX := fun w => L2.CX0) rfl (by decide) rfl ⟨rfl, by decide, by decide⟩ (fun w h Y => PySem.W.km_in_of Y) ?F (fun _ _ _ _ _ h => h)
  case F =>
    intro w mg fa h Y KX G hmg
    have hts := PySem.W.km_tabs_of Y
    refine' K27.all_mk KX G hts hmg ?a1 ?l1 ?c1 ?k1 ?a2 ?l2 ?c2 ?k2 ?a3 ?l3 ?c3 ?k3 ?a4 ?l4 ?c4 ?k4 ?a5 ?l5 ?c5 ?k5 ?a6 ?l6 ?c6 ?k6 ?a7 ?l7 ?c7 ?k7 ?a8 ?l8 ?c8 ?k8 ?a9 ?l9 ?c9 ?k9 ?a10 ?l10 ?c10 ?k10 ?a11 ?l11 ?c11 ?k11 ?a12 ?l12 ?c12 ?k12 ?a13 ?l13 ?c13 ?k13 ?a14 ?l14 ?c14 ?k14 ?a15 ?l15 ?c15 ?k15 ?a16 ?i16 ?l16 ?c16 ?k16 ?a17 ?i17 ?l17 ?c17 ?k17 ?a18 ?i18 ?l18 ?c18 ?k18 ?a19 ?l19 ?c19 ?k19 ?a20 ?l20 ?c20 ?k20 ?tl20 ?tp20 ?th20 ?tn20 ?tm20 ?a21 ?l21 ?c21 ?k21 ?a22 ?l22 ?c22 ?k22 ?a23 ?l23 ?c23 ?k23 ?a24 ?i24 ?l24 ?c24 ?k24 ?a25 ?i25 ?l25 ?c25 ?k25 ?a26 ?i26 ?l26 ?c26 ?k26 ?a27 ?i27 ?l27 ?c27 ?k27 ?a28 ?i28 ?l28 ?c28 ?k28 ?a29 ?i29 ?l29 ?c29 ?k29 ?a30 ?l30 ?c30 ?k30 ?a31 ?l31 ?c31 ?k31 ?a32 ?l32 ?c32 ?k32 ?a33 ?l33 ?c33 ?k33 ?a34 ?l34 ?c34 ?k34 ?a35 ?l35 ?c35 ?k35 ?a36 ?l36 ?c36 ?k36 ?a37 ?l37 ?c37 ?k37 ?a38 ?l38 ?c38 ?k38 ?a39 ?l39 ?c39 ?k39 ?a40 ?l40 ?c40 ?k40 ?a41 ?l41 ?c41 ?k41 ?tl41 ?tp41 ?th41 ?tn41 ?tm41 ?a42 ?l42 ?c42 ?k42 ?a43 ?l43 ?c43 ?k43 ?a44 ?l44 ?c44 ?k44 ?a45 ?l45 ?c45 ?k45 ?a46 ?l46 ?c46 ?k46 ?a47 ?l47 ?c47 ?k47 ?tne ?aCSamphireError ?aCTooLarge ?iCTooLarge ?tITooLarge ?lkTooLarge ?hcTooLarge ?xLTooLarge ?saTooLarge ?sBTooLarge ?tCTooLarge ?kCTooLarge ?coTooLarge ?flTooLarge ?ceTooLarge ?mrTooLarge ?sVTooLarge ?anTooLarge ?suTooLarge ?tpTooLarge ?hgTooLarge ?hkTooLarge ?hdTooLarge ?haTooLarge ?hnTooLarge ?htTooLarge ?hmTooLarge ?icTooLarge ?sCTooLarge ?nf_limit_TooLarge ?aCZeroDenominator ?iCZeroDenominator ?tIZeroDenominator ?lkZeroDenominator ?hcZeroDenominator ?xLZeroDenominator ?saZeroDenominator ?sBZeroDenominator ?tCZeroDenominator ?kCZeroDenominator ?coZeroDenominator ?flZeroDenominator ?ceZeroDenominator ?mrZeroDenominator ?sVZeroDenominator ?anZeroDenominator ?suZeroDenominator ?tpZeroDenominator ?hgZeroDenominator ?hkZeroDenominator ?hdZeroDenominator ?haZeroDenominator ?hnZeroDenominator ?htZeroDenominator ?hmZeroDenominator ?icZeroDenominator ?sCZeroDenominator ?aCInvalidLaw ?iCInvalidLaw ?tIInvalidLaw ?lkInvalidLaw ?hcInvalidLaw ?xLInvalidLaw ?saInvalidLaw ?sBInvalidLaw ?tCInvalidLaw ?kCInvalidLaw ?coInvalidLaw ?flInvalidLaw ?ceInvalidLaw ?mrInvalidLaw ?sVInvalidLaw ?anInvalidLaw ?suInvalidLaw ?tpInvalidLaw ?hgInvalidLaw ?hkInvalidLaw ?hdInvalidLaw ?haInvalidLaw ?hnInvalidLaw ?htInvalidLaw ?hmInvalidLaw ?icInvalidLaw ?sCInvalidLaw ?aCNotEnded ?iCNotEnded ?tINotEnded ?lkNotEnded ?hcNotEnded ?xLNotEnded ?saNotEnded ?sBNotEnded ?tCNotEnded ?kCNotEnded ?coNotEnded ?flNotEnded ?ceNotEnded ?mrNotEnded ?sVNotEnded ?anNotEnded ?suNotEnded ?tpNotEnded ?hgNotEnded ?hkNotEnded ?hdNotEnded ?haNotEnded ?hnNotEnded ?htNotEnded ?hmNotEnded ?icNotEnded ?sCNotEnded ?kitOptimalOptimal ?aCOptimal ?pgOptimal ?hdOptimal ?poOptimal ?saOptimal ?mkOptimal ?kcOptimal ?nOptimal_size ?nOptimal_parts ?nOptimal_kept ?aCExplorer ?pgExplorer ?hdExplorer ?poExplorer ?saExplorer ?mkExplorer ?kcExplorer ?nExplorer__path ?nExplorer__made ?nExplorer__running ?nExplorer__finished ?nExplorer__rows ?isaOptimal ?isgOptimal ?istOptimal ?ismOptimal ?z_abs ?z_int ?z_isinstance ?z_len ?z_list ?z_max ?z_range ?z_reversed ?z_sorted ?z_sum ?z_super ?z_tuple ?v_MOST_RUNS ?v_ZERO ?l_ZERO ?v_ONE ?l_ONE ?g_gcd ?g_lcm
    (case aCSamphireError => k_is)
    (case aCTooLarge => k_is)
    (case aCZeroDenominator => k_is)
    (case aCInvalidLaw => k_is)
    (case aCNotEnded => k_is)
    (case aCOptimal => k_is)
    (case aCExplorer => k_is)
    (case a1 => k_is)
    (case l1 => k_is)
    (case c1 => k_is)
    (case k1 => k_is)
    (case a2 => k_is)
    (case l2 => k_is)
    (case c2 => k_is)
    (case k2 => k_is)
    (case a3 => k_is)
    (case l3 => k_is)
    (case c3 => k_is)
    (case k3 => k_is)
    (case a4 => k_is)
    (case l4 => k_is)
    (case c4 => k_is)
    (case k4 => k_is)
    (case a5 => k_is)
    (case l5 => k_is)
    (case c5 => k_is)
    (case k5 => k_is)
    (case a6 => k_is)
    (case l6 => k_is)
    (case c6 => k_is)
    (case k6 => k_is)
    (case a7 => k_is)
    (case l7 => k_is)
    (case c7 => k_is)
    (case k7 => k_is)
    (case a8 => k_is)
    (case l8 => k_is)
    (case c8 => k_is)
    (case k8 => k_is)
    (case a9 => k_is)
    (case l9 => k_is)
    (case c9 => k_is)
    (case k9 => k_is)
    (case a10 => k_is)
    (case l10 => k_is)
    (case c10 => k_is)
    (case k10 => k_is)
    (case a11 => k_is)
    (case l11 => k_is)
    (case c11 => k_is)
    (case k11 => k_is)
    (case a12 => k_is)
    (case l12 => k_is)
    (case c12 => k_is)
    (case k12 => k_is)
    (case a13 => k_is)
    (case l13 => k_is)
    (case c13 => k_is)
    (case k13 => k_is)
    (case a14 => k_is)
    (case l14 => k_is)
    (case c14 => k_is)
    (case k14 => k_is)
    (case a15 => k_is)
    (case l15 => k_is)
    (case c15 => k_is)
    (case k15 => k_is)
    (case a16 => k_is)
    (case i16 => k_is)
    (case l16 => k_is)
    (case c16 => k_is)
    (case k16 => k_is)
    (case a17 => k_is)
    (case i17 => k_is)
    (case l17 => k_is)
    (case c17 => k_is)
    (case k17 => k_is)
    (case a18 => k_is)
    (case i18 => k_is)
    (case l18 => k_is)
    (case c18 => k_is)
    (case k18 => k_is)
    (case a19 => k_is)
    (case l19 => k_is)
    (case c19 => k_is)
    (case k19 => k_is)
    (case a20 => k_is)
    (case l20 => k_is)
    (case c20 => k_is)
    (case k20 => k_is)
    (case tl20 => k_is)
    (case tp20 => first | rfl | kernel_rfl)
    (case th20 => first | kernel_rfl | decide +kernel)
    (case tn20 => first | rfl | kernel_rfl)
    (case tm20 => simp)
    (case a21 => k_is)
    (case l21 => k_is)
    (case c21 => k_is)
    (case k21 => k_is)
    (case a22 => k_is)
    (case l22 => k_is)
    (case c22 => k_is)
    (case k22 => k_is)
    (case a23 => k_is)
    (case l23 => k_is)
    (case c23 => k_is)
    (case k23 => k_is)
    (case a24 => k_is)
    (case i24 => k_is)
    (case l24 => k_is)
    (case c24 => k_is)
    (case k24 => k_is)
    (case a25 => k_is)
    (case i25 => k_is)
    (case l25 => k_is)
    (case c25 => k_is)
    (case k25 => k_is)
    (case a26 => k_is)
    (case i26 => k_is)
    (case l26 => k_is)
    (case c26 => k_is)
    (case k26 => k_is)
    (case a27 => k_is)
    (case i27 => k_is)
    (case l27 => k_is)
    (case c27 => k_is)
    (case k27 => k_is)
    (case a28 => k_is)
    (case i28 => k_is)
    (case l28 => k_is)
    (case c28 => k_is)
    (case k28 => k_is)
    (case a29 => k_is)
    (case i29 => k_is)
    (case l29 => k_is)
    (case c29 => k_is)
    (case k29 => k_is)
    (case a30 => k_is)
    (case l30 => k_is)
    (case c30 => k_is)
    (case k30 => k_is)
    (case a31 => k_is)
    (case l31 => k_is)
    (case c31 => k_is)
    (case k31 => k_is)
    (case a32 => k_is)
    (case l32 => k_is)
    (case c32 => k_is)
    (case k32 => k_is)
    (case a33 => k_is)
    (case l33 => k_is)
    (case c33 => k_is)
    (case k33 => k_is)
    (case a34 => k_is)
    (case l34 => k_is)
    (case c34 => k_is)
    (case k34 => k_is)
    (case a35 => k_is)
    (case l35 => k_is)
    (case c35 => k_is)
    (case k35 => k_is)
    (case a36 => k_is)
    (case l36 => k_is)
    (case c36 => k_is)
    (case k36 => k_is)
    (case a37 => k_is)
    (case l37 => k_is)
    (case c37 => k_is)
    (case k37 => k_is)
    (case a38 => k_is)
    (case l38 => k_is)
    (case c38 => k_is)
    (case k38 => k_is)
    (case a39 => k_is)
    (case l39 => k_is)
    (case c39 => k_is)
    (case k39 => k_is)
    (case a40 => k_is)
    (case l40 => k_is)
    (case c40 => k_is)
    (case k40 => k_is)
    (case a41 => k_is)
    (case l41 => k_is)
    (case c41 => k_is)
    (case k41 => k_is)
    (case tl41 => k_is)
    (case tp41 => first | rfl | kernel_rfl)
    (case th41 => first | kernel_rfl | decide +kernel)
    (case tn41 => first | rfl | kernel_rfl)
    (case tm41 => simp)
    (case a42 => k_is)
    (case l42 => k_is)
    (case c42 => k_is)
    (case k42 => k_is)
    (case a43 => k_is)
    (case l43 => k_is)
    (case c43 => k_is)
    (case k43 => k_is)
    (case a44 => k_is)
    (case l44 => k_is)
    (case c44 => k_is)
    (case k44 => k_is)
    (case a45 => k_is)
    (case l45 => k_is)
    (case c45 => k_is)
    (case k45 => k_is)
    (case a46 => k_is)
    (case l46 => k_is)
    (case c46 => k_is)
    (case k46 => k_is)
    (case a47 => k_is)
    (case l47 => k_is)
    (case c47 => k_is)
    (case k47 => k_is)
    (case tne => first | decide | (intro z; cases z))
    (case iCTooLarge => k_is)
    (case tITooLarge => k_is)
    (case lkTooLarge => k_is)
    (case hcTooLarge => k_is)
    (case xLTooLarge => k_is)
    (case saTooLarge => k_is)
    (case sBTooLarge => k_is)
    (case tCTooLarge => k_is)
    (case kCTooLarge => k_is)
    (case coTooLarge => k_is)
    (case flTooLarge => first | rfl | decide +kernel)
    (case ceTooLarge => k_is)
    (case mrTooLarge => first | rfl | k_is)
    (case sVTooLarge => k_is)
    (case anTooLarge => k_is)
    (case suTooLarge => ks_is)
    (case tpTooLarge => first | rfl | decide +kernel)
    (case hgTooLarge => k_is)
    (case hkTooLarge => k_is)
    (case hdTooLarge => k_is)
    (case haTooLarge => k_is)
    (case hnTooLarge => k_is)
    (case htTooLarge => k_is)
    (case hmTooLarge => k_is)
    (case icTooLarge => k_is)
    (case sCTooLarge => first | rfl | k_is)
    (case nf_limit_TooLarge => k_is)
    (case iCZeroDenominator => k_is)
    (case tIZeroDenominator => k_is)
    (case lkZeroDenominator => k_is)
    (case hcZeroDenominator => k_is)
    (case xLZeroDenominator => k_is)
    (case saZeroDenominator => k_is)
    (case sBZeroDenominator => k_is)
    (case tCZeroDenominator => k_is)
    (case kCZeroDenominator => k_is)
    (case coZeroDenominator => k_is)
    (case flZeroDenominator => first | rfl | decide +kernel)
    (case ceZeroDenominator => k_is)
    (case mrZeroDenominator => first | rfl | k_is)
    (case sVZeroDenominator => k_is)
    (case anZeroDenominator => k_is)
    (case suZeroDenominator => ks_is)
    (case tpZeroDenominator => first | rfl | decide +kernel)
    (case hgZeroDenominator => k_is)
    (case hkZeroDenominator => k_is)
    (case hdZeroDenominator => k_is)
    (case haZeroDenominator => k_is)
    (case hnZeroDenominator => k_is)
    (case htZeroDenominator => k_is)
    (case hmZeroDenominator => k_is)
    (case icZeroDenominator => k_is)
    (case sCZeroDenominator => first | rfl | k_is)
    (case iCInvalidLaw => k_is)
    (case tIInvalidLaw => k_is)
    (case lkInvalidLaw => k_is)
    (case hcInvalidLaw => k_is)
    (case xLInvalidLaw => k_is)
    (case saInvalidLaw => k_is)
    (case sBInvalidLaw => k_is)
    (case tCInvalidLaw => k_is)
    (case kCInvalidLaw => k_is)
    (case coInvalidLaw => k_is)
    (case flInvalidLaw => first | rfl | decide +kernel)
    (case ceInvalidLaw => k_is)
    (case mrInvalidLaw => first | rfl | k_is)
    (case sVInvalidLaw => k_is)
    (case anInvalidLaw => k_is)
    (case suInvalidLaw => ks_is)
    (case tpInvalidLaw => first | rfl | decide +kernel)
    (case hgInvalidLaw => k_is)
    (case hkInvalidLaw => k_is)
    (case hdInvalidLaw => k_is)
    (case haInvalidLaw => k_is)
    (case hnInvalidLaw => k_is)
    (case htInvalidLaw => k_is)
    (case hmInvalidLaw => k_is)
    (case icInvalidLaw => k_is)
    (case sCInvalidLaw => first | rfl | k_is)
    (case iCNotEnded => k_is)
    (case tINotEnded => k_is)
    (case lkNotEnded => k_is)
    (case hcNotEnded => k_is)
    (case xLNotEnded => k_is)
    (case saNotEnded => k_is)
    (case sBNotEnded => k_is)
    (case tCNotEnded => k_is)
    (case kCNotEnded => k_is)
    (case coNotEnded => k_is)
    (case flNotEnded => first | rfl | decide +kernel)
    (case ceNotEnded => k_is)
    (case mrNotEnded => first | rfl | k_is)
    (case sVNotEnded => k_is)
    (case anNotEnded => k_is)
    (case suNotEnded => ks_is)
    (case tpNotEnded => first | rfl | decide +kernel)
    (case hgNotEnded => k_is)
    (case hkNotEnded => k_is)
    (case hdNotEnded => k_is)
    (case haNotEnded => k_is)
    (case hnNotEnded => k_is)
    (case htNotEnded => k_is)
    (case hmNotEnded => k_is)
    (case icNotEnded => k_is)
    (case sCNotEnded => first | rfl | k_is)
    (case kitOptimalOptimal => first | rfl | k_is | decide +kernel)
    (case pgOptimal => k_is)
    (case hdOptimal => k_is)
    (case poOptimal => k_is)
    (case saOptimal => k_is)
    (case mkOptimal => k_is)
    (case kcOptimal => k_is)
    (case nOptimal_size => k_is)
    (case nOptimal_parts => k_is)
    (case nOptimal_kept => k_is)
    (case pgExplorer => k_is)
    (case hdExplorer => k_is)
    (case poExplorer => k_is)
    (case saExplorer => k_is)
    (case mkExplorer => k_is)
    (case kcExplorer => k_is)
    (case nExplorer__path => k_is)
    (case nExplorer__made => k_is)
    (case nExplorer__running => k_is)
    (case nExplorer__finished => k_is)
    (case nExplorer__rows => k_is)
    (case isaOptimal => k_is)
    (case isgOptimal => k_is)
    (case istOptimal => k_is)
    (case ismOptimal => k_is)
    (case z_abs => k_is)
    (case z_int => k_is)
    (case z_isinstance => k_is)
    (case z_len => k_is)
    (case z_list => k_is)
    (case z_max => k_is)
    (case z_range => k_is)
    (case z_reversed => k_is)
    (case z_sorted => k_is)
    (case z_sum => k_is)
    (case z_super => k_is)
    (case z_tuple => k_is)
    (case v_MOST_RUNS => k_is)
    (case v_ZERO => k_is)
    (case l_ZERO => k_is)
    (case v_ONE => k_is)
    (case l_ONE => k_is)
    (case g_gcd => k_is)
    (case g_lcm => k_is)
