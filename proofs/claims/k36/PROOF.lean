import PyProof.Rows.All
import Wide.All
import OpenK.AllK
import Wide.FinOn
import HandS.ForMost
import HandS.ForExc
import HandS.EndBits
import HandS.Wide
import HandS.IsInst
import HandS.ExcInit
import HandS.Nested
import KE.KExcSuper
import HandS.ExcIs
import HandS.ExcField
import HandS.Gcd
import HandS.Rev
import HandS.Walk
import HandS.Style
import HandS.FStr
import HandS.TryOnly
import KE.GoesEnumKw
import HandS.Text
import HandS.SortInts
import HandS.More
import HandS.Deep
import HandS.StrMore
import HandS.TryMany
import KE.SortData
import KE.SortKeyHeap
import HandS.RevRange
import HandS.Lambda
import HandS.EndTab
import PyProof.Rows.TupSub
import HandS.SortKw
import KE.KSortKey
import PySem.Challenge.RW_samphire_k36_whole_optimal_estimates
set_option Elab.async false
set_option linter.all false
set_option maxRecDepth 100000

/-! ### an own exception whose __init__ begins with super().__init__(..) -/
namespace Sup
open PySem PySem.Spec PyProof.Rows L2 NdefX
/-- what the written part says of such a class (at C), of its __init__ (at f; its code at c, its cell of the class at cc) -/
structure SupC (P : Program) (K : PySem.W.Frag) (mg : Str → Option Value) (C f c cc : Addr) : Prop where
  T : OexC K C
  cd : ∃ cd, PySem.W.clsIn K C = some cd
  code : ∃ occ cdd vs sl file tf, K.lookup c = some ⟨occ, cdd, .fields vs, sl⟩ ∧ vs[2]? = some (.str file tf) ∧ ((P.main.file : Str) == file) = true
  cell : ∃ cl cld sl, K.lookup cc = some ⟨cl, cld, .cell (some (.ref C)), sl⟩
  sub : PySem.W.mroIn K C (.ref C) = some true
  subV : PySem.W.subIn K (.ref C) (.type "ValueError") = some true
  zs : mg "super" = none
  any : PySem.W.nsIn K PySem.cStatics "thirdparty.any" = some none
  sup : PySem.W.ks_superIn K C C "__init__" = some (some (.builtin "ValueError.__init__"))
  top : (P.main.scope.names.lookup ("super" : Str)).isSome = false
section
variable {CX : CXT} {P : Program} {w : World} {K : PySem.W.Frag} {mg : Str → Option Value} {base : Heap} {N ps : List Str} {F : NF} {f C cc : Addr} {k : Nat} {sp : Sp}
/-- the body's first statement -/
abbrev supSt (arg : Expr) (p0 p1 p2 p3 p4 : Pos) : Stmt := .Expr (.Call (.Attribute (.Call (.Name "super" p0) [] [] p1) "__init__" p2) [arg] [] p3) p4
theorem callW {M : Model} {A : Around} {E : Value → Shared → Prop} {s : Shared} {i : String} {u x : Addr} {pos : Pos} {env : Env} {e : Expr} {Q : Value → Shared → Prop} (he : starEach [e] env = (false, eval e env) :: starEach [] env)
    (h : wpAny M A (spliced (backTo pos (starEach [e] env))) (fun vs s₁ => PySem.W.KxsAt i u x s₁.heap ∧ wpAny M A (call (.ref u) vs) Q E s₁) E s) : wpAny M A (callWith pos (.ref u) [] (backTo pos (starEach [e] env)) []) Q E s := by
  rw [he] at h ⊢
  refine PySem.W.kxs_callWith (i := i) (x := x) rfl ?_
  exact PySem.Calls.evalArgs_plain h
theorem fn_super {oc : Value} {od : Option Addr} {osl : Array (Option Value)} {doc pm ctv : Value} {arg : Expr} {rest : List Stmt} {p0 p1 p2 p3 p4 : Pos} {p : Str} {ps' : List Str}
    (T : SupC P K mg C f F.c cc) (lk : K.lookup f = some ⟨oc, od, .func (F.fd doc pm ctv), osl⟩) (hcl : F.cl = [(("__class__" : Str), cc)]) (hcd : PySem.W.codeIn K (.ref F.c) F.qual = true) (S : NScope N ps ["__class__"] F.scope) (hps : ps = p :: ps')
    (hpar : ∃ ar, (F.params.posonlyargs ++ F.params.args).head? = some ar ∧ ar.arg = p) (hsu : F.scope.names.lookup ("super" : Str) = some .globalImplicit) (hbd : F.body = supSt arg p0 p1 p2 p3 p4 :: rest)
    (hsw : ∀ L : Addr, swapsWith (.Call (.Attribute (.Call (.Name "super" p0) [] [] p1) "__init__" p2) [arg] [] p3) none p4.line (envF F f L) = pure false)
    (hev : ∀ L : Addr, ∃ pl, eval (.Call (.Attribute (.Call (.Name "super" p0) [] [] p1) "__init__" p2) [arg] [] p3) (envF F f L) = (do
        let ov ← attributeBase (.Call (.Name "super" p0) [] [] p1) "__init__" (envF F f L) (eval (.Call (.Name "super" p0) [] [] p1) (envF F f L))
        standAt p2.atName
        let (f', first) ← holding [ov] (getMethod ov "__init__" pl)
        callWith p3 f' first (backTo p3 (starEach [arg] (envF F f L))) []))
    (hst : ∀ L : Addr, starEach [arg] (envF F f L) = (false, eval arg (envF F f L)) :: starEach [] (envF F f L))
    (len : ∀ vs H Q E, sp vs H Q E → vs.length = ps.length)
    (hbody : ∀ (A : Around) (outer : List Env) (s : Shared) (H : Hp) (vs : List V) (Q : VK) (E : XK), Room k (A.deeper (envF F f s.heap.objs.size)) → sp vs H Q E →
      ∃ a vs' ta t, vs = .ref a :: vs' ∧ H a = some (exo a C none) ∧ PA (ncx CX P w K mg base N F f A outer s H E) [arg] ta ∧ PSs (ncx CX P w K mg base N F f A outer s H E) rest t ∧
        ta (startF N vs [none]) H (fun ws H1 => ws.length ≤ 1000 ∧ H1 a = some (exo a C none) ∧ t { nx := fun _ H' => Q .non H', rt := Q } (startF N vs [none]) H1)) :
    FnOk P w K mg base CX (k + 1) f (F.fd doc pm ctv) ps sp := by
  refine ⟨len, fun A outer s H args us vs Q E hr e0 hb r hsp => ?_⟩
  have KX : K.In s.heap := e0.mod.kin.keeps fun b o e => (e0.bs b o e).1
  have hl := len _ _ _ _ hsp
  have lim : s.heap.NoLimit := e0.mod.nolimit.keeps fun b o e => (e0.bs b o e).1
  refine codeAny_call_function hr.depth (KX _ _ lk) rfl S.co S.gen rfl (PySem.W.codeRec_of KX hcd) (hb _ _ _ _ ?_)
  refine wpAny_newFunctionEnv S.nocell (fun ⟨n, _⟩ hy => S.par n (List.of_mem_zip hy).1) (fun h₁ hns hsb => ⟨lim.fresh _ hsb, ?_⟩) S.kind
  show codeAny _ _ (.func F.body (envF F f s.heap.objs.size)) _ _
  refine PySem.ks_codeAny_funcAt ?_
  have kp : ∀ b o, s.heap.get? b = some o → h₁.get? b = some o := fun b o e => hsb.extBut b o (Nat.ne_of_lt (Heap.lt_size e)) (Heap.get?_push_of_some _ e)
  obtain ⟨a, vs', ta, t, hvs, ha, hta, ht, hq⟩ := hbody A outer s H vs Q E (hr.deeper _) hsp
  obtain ⟨cl, cld, csl, hcell⟩ := T.cell
  have hbc : base.get? cc = some ⟨cl, cld, .cell (some (.ref C)), csl⟩ := e0.mod.kin _ _ hcell
  have hlook : ∀ {y : Str} {c : Addr}, F.cl.lookup y = some c → y = "__class__" ∧ c = cc := fun {y c} e => by
    rw [hcl] at e
    by_cases hy : y = "__class__"
    · subst hy
      rw [show List.lookup ("__class__" : Str) [(("__class__" : Str), cc)] = some cc by simp [List.lookup]] at e
      exact ⟨rfl, (Option.some.inj e).symm⟩
    · have hb : (y == ("__class__" : Str)) = false := by simpa using hy
      rw [show List.lookup y [(("__class__" : Str), cc)] = none by simp [List.lookup, hb]] at e
      cases e
  have hlk : F.cl.lookup ("__class__" : Str) = some cc := by rw [hcl]; simp [List.lookup]
  have CA : CellsAt F.cl ["__class__"] [none] s.heap H := {
    len := rfl
    all := fun y c e => by
      obtain ⟨_, rfl⟩ := hlook e
      exact ⟨(e0.bs _ _ hbc).2, _, ⟨_, (e0.bs _ _ hbc).1, rfl⟩⟩
    inj := fun x y c e1 e2 => (hlook e1).1.trans (hlook e2).1.symm
    has := fun i y e => by
      match i, e with
      | 0, e =>
        have ey : ("__class__" : Str) = y := Option.some.inj e
        subst ey
        exact ⟨cc, hlk, fun v hv => by simp at hv⟩ }
  have I : Inv (ncx CX P w K mg base N F f A outer s H E) [] (startF N vs [none]) H { s with heap := h₁, toks := s.toks + (ps.zip us).length } := inv_startN S hr.hd e0 hl r CA hns kp
  have kI : K.In h₁ := KX.keeps kp
  have hN0 : N[0]? = some p := by
    have q := S.pre
    rw [hps] at q
    have z : (N.take ((p :: ps').length + 1))[0]? = some p := by
      have z := congrArg (fun l : List Str => l[0]?) q
      exact z
    rw [List.getElem?_take_of_lt (by simp)] at z
    exact z
  have hs0 : (startF N vs [none])[0]? = some (some (.ref a)) := by rw [hvs]; rfl
  have hploc : F.scope.names.lookup p = some .local := S.par p (by rw [hps]; exact List.mem_cons_self)
  obtain ⟨m, hnm, hlm⟩ := id I.loc
  obtain ⟨u0, ru0, hu0⟩ := hlm 0 p (.ref a) hN0 hs0 (.inl hploc)
  have eu0 : u0 = Value.ref a := ru0
  subst eu0
  have hself : m p = some (.ref a) := by
    rcases hu0 with ⟨_, z⟩ | ⟨z, _⟩
    · exact z
    · have z' : F.scope.names.lookup p = some .cell ∨ F.scope.names.lookup p = some .free := z
      rw [hploc] at z'
      rcases z' with z' | z' <;> cases z'
  obtain ⟨occ, cdd, cvs, csl2, file, tf, hcode, hvs2, hfile⟩ := T.code
  obtain ⟨cdD, hcdD⟩ := T.cd
  have hD : ∃ oD, h₁.get? C = some oD ∧ oD.data = .cls cdD := by
    have hD := hcdD
    unfold PySem.W.clsIn at hD
    split at hD
    · rename_i c d cd' sl ho
      cases hD
      exact ⟨_, kI _ _ ho, rfl⟩
    · cases hD
  obtain ⟨oD, hD1, hD2⟩ := hD
  obtain ⟨nm, q, N', bs, bm, sn, sub, ab, col, dd, k0, k1, k2, k3, k5, hC, hbm⟩ := T.T.cls
  obtain ⟨ar, har1, har2⟩ := hpar
  have hkc : F.scope.names.lookup ("__class__" : Str) = some .free := S.frk _ (by simp)
  obtain ⟨mb, hb1, hb2⟩ := I.mod.blt
  rw [hbd]
  obtain ⟨pl, he⟩ := hev s.heap.objs.size
  refine PySem.ks_wpAt_execs_cons (PySem.ks_wpAt_Expr_any (PySem.ks_wpAt_MethodCall (pl := pl) (PySem.ks_wpAt_super_base (fd := F.fd doc pm ctv) hsu hkc (by decide) rfl (kI _ _ lk) rfl har1 rfl (kI _ _ hcode) rfl hvs2 hfile T.top ?_) he) I.quiet (hsw _))
  -- the names
  refine PySem.W.ks_loadName_global S.kind hsu (Calls.loadGlobal_builtin (by exact I.mod.glob.keeps I.bk) T.zs (by exact hb1.keeps I.bk) ((hb2 _ (by decide)).trans (by decide +kernel)) ⟨rfl, ?_⟩)
  refine wpAny_loadName_free S.kind hkc hlk ⟨_, kI _ _ hcell, rfl⟩ ?_
  refine wpAny_loadName_local S.kind (by rw [har2]; exact hploc) hnm (by rw [har2]; exact hself) ?_
  refine PySem.ks_wpAny_isType_cls hD1 hD2 ⟨rfl, ?_⟩
  obtain ⟨t1, hox⟩ := exo_at I.hok ha
  refine PySem.ks_wpAny_call_super hD1 hD2 hox rfl (fun c e => by cases e) (PySem.W.looks_mroIn kI T.sub) (fun h' hso k' => ?_)
  have I2 : Inv (ncx CX P w K mg base N F f A outer s H E) [] (startF N vs [none]) H { s with heap := h', toks := s.toks + (ps.zip us).length } := I.kept (t' := s.toks + (ps.zip us).length) k'
  have kI2 : K.In h' := kI.keeps k'
  have hox2 : h'.get? a = some ({ cls := .ref C, dict := none, data := .fields #[.ref t1, .none, .none, .none, .bool false, .none] } : Obj) := k' _ _ hox
  have IA : PySem.W.InstAt h' a ({ cls := .ref C, dict := none, data := .fields #[.ref t1, .none, .none, .none, .bool false, .none] } : Obj) C none := ⟨hox2, rfl, rfl, trivial⟩
  have hal : PySem.W.alongIn K "__init__" ((cdD.mro.dropWhile (· != .ref C)).drop 1) = some (some (.builtin "ValueError.__init__")) := by
    have z := T.sup
    unfold PySem.W.ks_superIn at z
    rw [hcdD] at z
    exact z
  refine PySem.W.kxs_getMethod PySem.W.kxs_ValueError hso (PySem.W.looks_opaque kI2 T.any) (l₀ := cdD.mro) (fun A Q E s k q => wpAny_bind ((PySem.W.looks_clsIn kI2 hcdD) A _ E s k (wpAny_pure q))) rfl kI2 hal (IA.type.andThen (PySem.W.looks_subIn kI2 T.subV)) (PySem.W.ks_ne kI2 IA hcdD) (by decide) ?_
  -- the bound __init__ at u
  have ku : ∀ b o, h'.get? b = some o → (h'.push (PySem.W.kxs_mw "ValueError.__init__" a)).get? b = some o := fun b o e => Heap.get?_push_of_some _ e
  have I3 : Inv (ncx CX P w K mg base N F f A outer s H E) [] (startF N vs [none]) H { s with heap := h'.push (PySem.W.kxs_mw "ValueError.__init__" a), toks := s.toks + (ps.zip us).length + 1 } := I2.kept (t' := s.toks + (ps.zip us).length + 1) ku
  have hu : (h'.push (PySem.W.kxs_mw "ValueError.__init__" a)).get? h'.objs.size = some (PySem.W.kxs_mw "ValueError.__init__" a) := Heap.get?_push_at rfl rfl
  have I4 : Inv (ncx CX P w K mg base N F f A outer s H E) [(h'.objs.size, PySem.W.kxs_mw "ValueError.__init__" a)] (startF N vs [none]) H { s with heap := h'.push (PySem.W.kxs_mw "ValueError.__init__" a), toks := s.toks + (ps.zip us).length + 1 } := I3.pins_of fun p hp => by
    have hp1 := List.mem_singleton.mp hp
    subst hp1
    exact ⟨hu, I2.hok.fresh (Nat.le_refl _), fun z => absurd (z ▸ I2.lt) (Nat.lt_irrefl _), I2.nofs (Nat.le_refl _), fun v z => by cases z⟩
  refine callW (i := "ValueError.__init__") (x := a) (hst _) ?_
  refine thn (hta.run p3 _ _ _ H _ I4 hq) fun ws' s5 ⟨ws, H5, I5, r5, hlen, ha5, ht5⟩ => ?_
  have hu5 : s5.heap.get? h'.objs.size = some (PySem.W.kxs_mw "ValueError.__init__" a) := (I5.pin _ (List.mem_append_right _ (List.mem_singleton.mpr rfl))).1
  refine ⟨hu5, ?_⟩
  obtain ⟨t5, hox5⟩ := exo_at I5.hok ha5
  have hws : ws'.length ≤ sizeLine := by
    rw [← Paired.length r5, sizeLine_eq]
    omega
  have I6 : Inv (ncx CX P w K mg base N F f A outer s H E) [] (startF N vs [none]) H5 s5 := I5.pins_of fun p hp => absurd hp (by simp)
  obtain ⟨h5, g5, d5, k5', os5⟩ := s5
  have hC5 := I5.kIn _ _ hC
  show wpAny _ _ (call (.ref h'.objs.size) ws') _ _ _
  refine wpAny_call (codeAny_of_tree ?_)
  show wpAny _ _ (callAny (.ref h'.objs.size) ⟨ws', []⟩) _ _ _
  simp only [callAny]
  refine wpAny_bind (wpAny_load hu5 ?_)
  simp only [PySem.W.kxs_mw, show (Value.type "method-wrapper" == Value.type "method" || Value.type "method-wrapper" == Value.type "builtin_function_or_method" || Value.type "method-wrapper" == Value.type "method-wrapper") = true by decide, if_true]
  refine PySem.W.KFB.if_so (by decide) ?_
  refine wpAny_bind (PySem.W.check_bound_init PySem.F.excBase_ValueError.toExcCallFacts hC5 hox5 rfl ?_)
  refine wpAny_bind (wpAny_pure (wpAny_pure ?_))
  refine ⟨plainId_quiet PySem.F.excBase_ValueError.init.plain _, codeAny_builtin PySem.F.excBase_ValueError.initEntry ?_⟩
  refine PySem.W.exc_init_tree (cls := .ref C) (t0 := t5) (dv := none) (c2 := .none) (c3 := .none) (b4 := .bool false) hox5 hws (fun h6 k6 e6 _ => ?_)
  have J := I6.write (t' := k5') (x := a) (e := a) (o := exo a C none) (by rw [ha5]; exact True.intro) (.inl rfl) k6 ⟨_, e6⟩ (exo_ok e6)
  have eu : upd H5 a (exo a C none) = H5 := by
    funext b
    by_cases hb : b = a
    · rw [hb, upd_same, ha5]
    · rw [upd_ne hb]
  rw [eu] at J
  refine PySem.wpAt_of_wpAny (wpAny_mono (ht.run [] _ (startF N vs [none]) H5 _ J ht5) (fun fl s' hs => ?_) fun e s' hs => hs)
  have fin : ∀ {σ' : L2.St} {H' : Hp} {v : V} {u : Value}, Inv (ncx CX P w K mg base N F f A outer s H E) [] σ' H' s' → L2.RelV v u → Q v H' → CE outer P w H s Q u s' :=
    fun {σ' H' v u} J rv q => ⟨v, H', J.os, J.bare, J.base, J.hok, rv, q⟩
  cases fl with
  | ret u =>
    obtain ⟨v, σ', H', J, rv, q⟩ := hs
    exact fin J rv q
  | next =>
    obtain ⟨σ', H', J, q⟩ := hs
    exact fin (v := V.non) (u := Value.none) J rfl q
  | brk =>
    obtain ⟨_, _, _, q⟩ := hs
    exact False.elim q
  | cont =>
    obtain ⟨_, _, _, q⟩ := hs
    exact False.elim q
end
/-! ### an exception without fields, made -/
section
variable {X : Cx}
theorem mk_endN {pins : List (Addr × Obj)} {σ : L2.St} {H1 H2 : Hp} {Q : XK} {hp hp2 h2 : Heap} {g1 g2 : Array GenState} {d1 d2 : Drawn} {t1 t2 : Nat} {os1 os2 : OsState} {a C : Addr} (T : Raises X (.ref C)) (I1 : Inv X pins σ H1 ⟨hp, g1, d1, t1, os1⟩)
    (ha : hp.objs.size ≤ a) (k : ∀ b o, hp.get? b = some o → hp2.get? b = some o) (un : Un (frs X.stack) [] (upd H1 a (exo a C none)) H2 hp2 h2) (hok : HOk X.prog X.w H2 h2) (ho : os2 = os1) (hb : AllBare g2)
    (ea : H2 a = some (exo a C none)) (q : Q (.ref C) none (del H2 a)) : MkP X pins σ Q (.ref a) ⟨h2, g2, d2, t2, os2⟩ := by
  obtain ⟨t0, hoe⟩ := exo_at hok ea
  have hn : H1 a = none := I1.hok.fresh ha
  obtain ⟨G, g1', g2'⟩ := restrict h2 fun b => decide (b ≠ a)
  have gk : ∀ b, b ≠ a → G.get? b = h2.get? b := fun b hb => g1' b (decide_eq_true hb)
  have ge : G.get? a = none := g2' a (by simp)
  have nha : ∀ {b : Addr} {o : Obj}, hp.get? b = some o → b ≠ a := fun {b o} z => Nat.ne_of_lt (Nat.lt_of_lt_of_le (Heap.lt_size z) ha)
  have up : ∀ {b : Addr}, b ≠ a → H1 b = none → upd H1 a (exo a C none) b = none := fun {b} hb n => by rw [upd_ne hb]; exact n
  have U : Un (frs X.stack) [] H1 (del H2 a) hp G := {
    keep := fun b o z n hf hx => by
      rw [gk b (nha z)]
      exact un.keep b o (k b o z) (up (nha z) n) hf hx
    slot := fun b o z n hf hx => by
      rw [gk b (nha z)]
      exact un.slot b o (k b o z) (up (nha z) n) hf hx
    free := fun b o z n hx => by
      rw [del_ne (nha z)]
      exact un.free b o (k b o z) (up (nha z) n) hx
    there := fun b o z hx => by
      rw [gk b (nha z)]
      exact un.there b o (k b o z) hx
    tups := fun b xs z => by
      rw [del_ne (ne_of_none z hn)]
      exact un.tups b xs (by rw [upd_ne (ne_of_none z hn)]; exact z)
    frzs := fun b o v z => by
      rw [del_ne (ne_of_none z hn)]
      exact un.frzs b o v (by rw [upd_ne (ne_of_none z hn)]; exact z)
    tbls := fun b ps z => by
      rw [del_ne (ne_of_none z hn)]
      exact un.tbls b ps (by rw [upd_ne (ne_of_none z hn)]; exact z) }
  have hok3 : HOk X.prog X.w (del H2 a) G := fun b o z => by
    have hba : b ≠ a := fun e => by
      rw [e, del_same] at z
      cases z
    rw [del_ne hba] at z
    have noa : ∀ {c : Addr}, H2 c = some (.own b) → c ≠ a := fun {c} hc => at_ne ea hc exo_own
    exact (hok b o z).stay (fun c v hc y => by
        have hca : c ≠ a := by
          rcases hc with hc | hc
          · rw [hc]
            exact hba
          · exact noa hc
        rw [gk c hca]
        exact y)
      (fun c hc => by rw [del_ne (noa hc)]; exact hc) (fun c xs hc => by rw [del_ne (at_ne ea hc exo_tup)]; exact hc)
  have J : Inv X pins σ (del H2 a) ⟨G, g2, d2, t2, os2⟩ := I1.call' (ch := []) ho U hok3 hb (fun b z => absurd z (by simp))
  refine ⟨a, _, _, ⟨G, g2, d2, t2, os2⟩, _, .ref C, none, rfl, J, fun b o z => ?_, ge, hoe, ⟨rfl, rfl⟩, rfl, rfl, del_same, rfl, hb, T, q⟩
  by_cases hba : b = a
  · rw [hba, ge] at z
    cases z
  · exact (gk b hba).symm.trans z
/-- C(), C's own __init__ keeping sp and making no field -/
def tMkN (C : Addr) (sp : Sp) : L2.St → Hp → XK → Prop := fun _ H Q => ∀ a, H a = none → sp [.ref a] (upd H a (exo a C none)) (fun v H2 => v = .non ∧ H2 a = some (exo a C none) ∧ Q (.ref C) none (del H2 a)) (fun _ _ _ => False)
theorem pmk_oexN {CX : CXT} {x : Str} {C fI : Addr} {k : Nat} {fd : FuncData} {ps : List Str} {sp : Sp} {p pos : Pos} (T : OexC X.K C) (iC : PySem.W.findIn X.K (.ref C) "__init__" = some (some (.ref fI))) (tI : PySem.W.typeIn X.K (.ref fI) = some (.type "function"))
    (F1 : FnOk X.prog X.w X.K X.mg X.base CX k fI fd ps sp) (hr : Room (k + 1) X.A) (hb : Binds X.K fd ps []) (hx : Passes CX X (fun _ _ _ => False)) (hg : Gl X x) (hm : X.mg x = some (.ref C))
    (hdb : (x == ("__debug__" : Str)) = false := by decide) : PMk X (.Call (.Name x p) [] [] pos) (tMkN C sp) := by
  intro pins s σ H1 Q I1 q1
  obtain ⟨nm, q, N, bs, bm, sn, sub, ab, col, dd, k0, k1, k2, k3, k5, hC, hbm⟩ := T.cls
  refine wpAny_Call_Name_kw (ld_glob I1 hg hm ?_ hdb)
  refine PySem.W.callWith_K0 I1.kIn T.kC ?_
  show wpAny _ _ (call (.ref C) []) _ _ _
  obtain ⟨hp, g, dr, tk, os⟩ := s
  have hsz : hp.objs.size ≤ hp.objs.size + 1 := Nat.le_succ _
  have hn : H1 (hp.objs.size + 1) = none := I1.hok.fresh hsz
  have hq := q1 (hp.objs.size + 1) hn
  have kk : ∀ b o, hp.get? b = some o → ((hp.push (PySem.W.kdv_tup [])).push (PySem.HandSPX.excO C hp.objs.size)).get? b = some o := fun b o e => Heap.get?_push_of_some _ (Heap.get?_push_of_some _ e)
  have hget : ((hp.push (PySem.W.kdv_tup [])).push (PySem.HandSPX.excO C hp.objs.size)).get? (hp.objs.size + 1) = some (PySem.HandSPX.excO C hp.objs.size) := by heap_get
  have I2 : Inv X pins σ (upd H1 (hp.objs.size + 1) (exo (hp.objs.size + 1) C none)) ⟨(hp.push (PySem.W.kdv_tup [])).push (PySem.HandSPX.excO C hp.objs.size), g, dr, tk, os⟩ :=
    I1.laid (t' := tk) (a := hp.objs.size + 1) (o := exo (hp.objs.size + 1) C none) (h' := (hp.push (PySem.W.kdv_tup [])).push (PySem.HandSPX.excO C hp.objs.size)) kk hsz (exo_ok hget)
  have r2 : Vals [V.ref (hp.objs.size + 1)] [Value.ref (hp.objs.size + 1)] := .cons rfl .nil
  have hl : ([Value.ref (hp.objs.size + 1)] ++ []).length = ps.length := by
    have e := r2.length
    rw [F1.len _ _ _ _ hq] at e
    exact e.symm
  refine wpAny_call (PySem.HandSPX.call_own PySem.F.excBase_ValueError (fun Y => PySem.HandSPX.refsVE_contains Y bm hbm) (I1.kIn _ _ hC) (PySem.W.looks_findIn I1.kIn iC) (fun self => PySem.W.bind_fn I1.kIn self tI) (Nat.zero_le _)
    (codeAny_mono (F1.run _ X.stack _ _ ⟨[Value.ref (hp.objs.size + 1)], []⟩ [Value.ref (hp.objs.size + 1)] _ _ (fun _ _ _ => False) (hr.make C [] []) (I2.env0.make C [] []) (hb _ [Value.ref (hp.objs.size + 1)] I2.kIn hl) r2 hq) fun r s' hq' => ?_))
  cases r with
  | error er => exact hx pins σ _ _ er s' I2 hq'
  | ok fl =>
    cases fl with
    | ret u =>
      obtain ⟨v, H2, os2, bare2, un2, hok2, rv, ev, ea, q2⟩ := hq'
      subst ev
      obtain ⟨h2, g2, d2, t2, os'⟩ := s'
      exact ⟨rv, mk_endN (raises_own T.exC T.tyC) I1 hsz kk un2 hok2 os2 bare2 ea q2⟩
    | next => exact False.elim hq'
    | brk => exact False.elim hq'
    | cont => exact False.elim hq'
end
/-! ### a call of a local name that holds a def, which may raise -/
section
variable {X : Cx} {CX : CXT} {k i : Nat} {f : Addr} {fd : FuncData} {ps : List Str} {sp : Sp} {E : L2.St → XK} {x : Str} {p pos : Pos} {e : Expr} {es : List Expr} {t : TA}
def tCallLS (i : Nat) (f : Addr) (sp : Sp) (E : L2.St → XK) (t : TA) : TE := fun σ H Q => σ[i]? = some (some (.ref f)) ∧ t σ H fun vs H1 => sp vs H1 Q (E σ)
theorem pe_callLS (F : FnOk X.prog X.w X.K X.mg X.base CX k f fd ps sp) (hr : Room k X.A) (hN : X.N[i]? = some x) (hv : Vis X.env.scope x) (hk : PySem.W.keepIn X.K (.ref f) = true) (hb : Binds X.K fd ps []) (hx : ∀ σ, PassesAt CX X σ (E σ)) (ha : PA X (e :: es) t)
    (hdb : (x == ("__debug__" : Str)) = false := by decide) (hcd : (x == ("__classdict__" : Str)) = false := by decide)
    (he : starEach (e :: es) X.env = (false, eval e X.env) :: starEach es X.env := by rfl) (hpl : (backTo pos (starEach es X.env)).any (·.1) = false := by rfl) : PE X (.Call (.Name x p) (e :: es) [] pos) (tCallLS i f sp E t) := by
  refine ⟨fun pins s σ H Q I h => ?_⟩
  obtain ⟨hs, ht⟩ := h
  refine wpAny_Call_Name_kw (thn ((pe_var (pos := p) hN hv hdb hcd).run pins s σ H (fun v H1 => v = .ref f ∧ H1 = H) I ⟨.ref f, hs, rfl, rfl⟩) fun u s1 ⟨v, H1, I1, r1, q1⟩ => ?_)
  obtain ⟨rfl, rfl⟩ := q1
  cases r1
  refine PySem.W.callWith_K (h₀ := X.base) I.ok.mod.kin hk (thn (ha.run pos pins s1 σ _ _ I1 ht) fun us s2 ⟨vs, H2, I2, r, q⟩ => ⟨I2.kIn, ?_⟩) he hpl
  exact run_fnS F hr hb (hx σ) I2 r q
end
/-! ### isinstance of a caught error of an own class without fields -/
def rIsX (K : PySem.W.Frag) (a : Addr) (cls : Value) (d : Option Addr) : List V → Hp → VK → Prop := fun xs H Q => ∃ (D : Addr) (c : V) (cv : Value) (b : Bool), cls = .ref D ∧ d = none ∧ ExcC K D ∧ xs = [.ref a, c] ∧ (∀ u, L2.RelV c u → u = cv) ∧ PySem.W.kitOne K (.ref D) cv = some b ∧ Q (.bl b) H
theorem call_isX {X : Cx} {a : Addr} {oe : Obj} {cls : Value} {d : Option Addr} {pn : List (Addr × Obj)} (hz : Zc cls d oe) (hf : ∃ vs, oe.data = .fields vs) : CallR (X.suite a ((a, oe) :: pn)) (.builtin "isinstance") (rIsX X.K a cls d) := by
  intro pins s σ H xs us Q I r h
  obtain ⟨D, c, cv, b, rfl, rfl, C, rfl, hc, e, q⟩ := h
  exact call_isE C hz hf pins s σ H [.ref a, c] us Q I r ⟨c, cv, b, rfl, hc, e, q⟩
/-! ### what a law's text says of an own exception -/
/-- ExcT C f c cc: the class at C over SamphireError .. over ValueError, with its own __init__ at f -/
structure ExcT (P : Program) (K : PySem.W.Frag) (mg : Str → Option Value) (name : Str) (C f c cc : Addr) : Prop where
  S : SupC P K mg C f c cc
  g : mg name = some (.ref C)
  iC : PySem.W.findIn K (.ref C) "__init__" = some (some (.ref f))
  tI : PySem.W.typeIn K (.ref f) = some (.type "function")
  is : ExcC K C
  te : PySem.W.exmOne K (.ref C) (.ref C) = some true
theorem ExcT.xf {P : Program} {K : PySem.W.Frag} {mg : Str → Option Value} {name : Str} {C f c cc : Addr} (T : ExcT P K mg name C f c cc) : XfC K C := ⟨T.is.hg, T.is.hk, T.is.hs, T.is.hd⟩
/-- the file that a code object tells -/
def flIs (cvs : List Value) (f : Str) : Bool := match cvs with | _ :: _ :: .str file _ :: _ => f == file | _ => false
/-- what k_is finds, put together -/
theorem excT_mk {P : Program} {K : PySem.W.Frag} {mg : Str → Option Value} {name : Str} {C f c cc : Addr} {nm q : Str} {N : Addr} {bs bm : List Value} {sn : List Str} {sub : List Value} {ab : Bool} {col : Option Bool} {dd : Option Addr} {m0 m1 m2 m3 m5 : Option Value}
    {occ : Value} {cdd : Option Addr} {cvs : List Value} {csl : Array (Option Value)} {ccl : Value} {ccd : Option Addr} {ccs : Array (Option Value)}
    (xL : K.lookup C = some (excClassObj nm q C N bs bm true sn sub ab col dd m0 m1 m2 m3 m5 "ValueError.__new__")) (rv : PySem.HandSPX.refsVE bm = true)
    (sa : PySem.W.findIn K (.ref C) "__setattr__" = some (some (.builtin "object.__setattr__"))) (sB : PySem.W.subIn K (.ref C) (.type "BaseException") = some true) (tC : PySem.W.typeIn K (.ref C) = some (.type "type")) (kC : PySem.W.keepIn K (.ref C) = true)
    (code : K.lookup c = some ⟨occ, cdd, .fields cvs.toArray, csl⟩) (hfile : flIs cvs P.main.file = true)
    (cell : K.lookup cc = some ⟨ccl, ccd, .cell (some (.ref C)), ccs⟩) (mro : PySem.W.mroIn K C (.ref C) = some true) (sV : PySem.W.subIn K (.ref C) (.type "ValueError") = some true) (zs : mg "super" = none)
    (any : PySem.W.nsIn K PySem.cStatics "thirdparty.any" = some none) (sup : PySem.W.ks_superIn K C C "__init__" = some (some (.builtin "ValueError.__init__"))) (top : (P.main.scope.names.lookup ("super" : Str)).isSome = false)
    (g : mg name = some (.ref C)) (iC : PySem.W.findIn K (.ref C) "__init__" = some (some (.ref f))) (tI : PySem.W.typeIn K (.ref f) = some (.type "function")) (is : ExcC K C) (isc : PySem.W.isClsIn K C = true) (sC : PySem.W.subIn K (.ref C) (.ref C) = some true) : ExcT P K mg name C f c cc where
  S := {
    T := ⟨⟨nm, q, N, bs, bm, sn, sub, ab, col, dd, m0, m1, m2, m3, m5, xL, rv⟩, sa, sB, tC, kC⟩
    cd := ⟨_, by unfold PySem.W.clsIn; rw [xL] <;> rfl⟩
    code := by
      match cvs, code, hfile with
      | a :: b :: .str file tf :: r, code, hfile => exact ⟨_, _, _, _, file, tf, code, rfl, hfile⟩
    cell := ⟨_, _, _, cell⟩
    sub := mro
    subV := sV
    zs := zs
    any := any
    sup := sup
    top := top }
  g := g
  iC := iC
  tI := tI
  is := is
  te := PySem.W.exm_ref sB is.hd tC sC
end Sup

/-! ### list(reversed(a list)) -/
namespace RL
open PySem PySem.Spec PyProof.Rows RT L2
section
variable {prog : Program} {w : World} {A : Around} {E : Value → Shared → Prop} {s : Shared}
theorem extend_rev {R : Result → Shared → Prop} {S it l : Addr} {items : Array Value} {res : Value} {c₀ : Nat} (hh : A.handled = none) (hit : s.heap.IsRevIter it l ((items.size : Int) - 1)) (hl : s.heap.IsList l items) (hne : l ≠ it) (hSi : S ≠ it) (hSl : S ≠ l) (hn : items.size ≤ sizeLine)
    (hS : s.heap.get? S = some { cls := .type "list", data := .seq #[] c₀ })
    (hR : ∀ s' acc' c', Moved (S :: [it]) (fun a b => b = a) s s' → s'.heap.get? S = some { cls := .type "list", dict := none, data := .seq acc' c', slots := #[] } → ItemsOf (fun i v => items[items.size - 1 - i]? = some v) acc' items.size → R (.ok (.ret res)) s') :
    wpAny (model prog w) A.in1 (Builtin.List.listExtendWith (.ref S) (.ref it) res)
      (fun fin s' => match fin with | .done f => R (.ok f) s' | .again c' => c'.quiet = true ∧ codeAny (model prog w) A c' R s') (fun e s' => R (.error e) s') s := by
  have W := (Walks.listRev (prog := prog) (w := w) (A := A.in1) hh it l hne items).toS
  have hSf : S ∉ [it, l] := by simp only [List.mem_cons, List.not_mem_nil, or_false, not_or]; exact ⟨hSi, hSl⟩
  have hT : s.TypeIs (.ref it) "list_reverseiterator" := Heap.IsRevIter.typeIs hit
  have h1 : Builtin.List.listSameRef (.ref S) (.ref it) = false := by simp [Builtin.List.listSameRef, hSi]
  unfold Builtin.List.listExtendWith
  refine wpAny_bind (wpAny_typeOf hT ?_)
  rw [if_neg (by rw [h1]; decide)]
  refine wpAny_bind (wpAny_pyIter_revIter hit ?_)
  refine wpAny_bind (wpAny_holding ?_)
  unfold Builtin.List.listLengthHint
  refine wpAny_bind (wpAny_specialOf hT nolen_lri ?_)
  show wpAny _ A.in1 (specialOf (Value.ref it) (Str.ofString "__length_hint__") >>= _) _ _ _
  refine wpAny_bind (wpAny_specialOf hT hint_lri ?_)
  generalize hid : ("list_reverseiterator.__length_hint__" : String) = id0
  wp_delta
  rw [show splitId id0 = some ("list_reverseiterator", "__length_hint__") from by subst hid; decide +kernel]
  subst hid
  refine wpAny_bind (wpAny_isInstance (b := true) hT (by rw [isSubtype_type]; kernel_rfl) ?_)
  refine wpAny_pure ?_
  rw [if_neg (by decide)]
  have e0 : ((items.size : Nat) : Int) - 1 - ((0 : Nat) : Int) = (items.size : Int) - 1 := by omega
  refine wpAny_pure ⟨plainId_quiet F.plain_extend_loop _, codeAny_extend_loopS W hn _ hSf _ items.size 0 _ _ _ rfl (Nat.zero_le _) ⟨Nat.zero_le _, by rw [e0]; exact hit, hl⟩ hS (ItemsOf.nil _) fun s' acc' c' hm hS' hacc => ?_⟩
  exact hR s' acc' c' hm hS' hacc
theorem init_rev {R : Result → Shared → Prop} {S it l : Addr} {items : Array Value} (hh : A.handled = none) (hit : s.heap.IsRevIter it l ((items.size : Int) - 1)) (hl : s.heap.IsList l items) (hne : l ≠ it) (hSi : S ≠ it) (hSl : S ≠ l) (hn : items.size ≤ sizeLine)
    (hS : s.heap.get? S = some { cls := .type "list", data := .seq #[] })
    (hR : ∀ (h' : Heap) (tk : Nat) (acc : Array Value) (c' : Nat), (∀ b o, b ≠ S → b ≠ it → s.heap.get? b = some o → h'.get? b = some o) → h'.get? S = some { cls := .type "list", dict := none, data := .seq acc c', slots := #[] } → ItemsOf (fun i v => items[items.size - 1 - i]? = some v) acc items.size → R (.ok (.ret .none)) { s with heap := h', toks := tk }) :
    wpAny (model prog w) A.in1 (Builtin.«list.__init__» ⟨[.ref S, .ref it], []⟩)
      (fun fin s' => match fin with | .done f => R (.ok f) s' | .again c' => c'.quiet = true ∧ codeAny (model prog w) A c' R s') (fun e s' => R (.error e) s') s := by
  show wpAny _ A.in1 (do let old ← Builtin.List.listItems (.ref S); Builtin.List.listUpdate (.ref S) (fun _ => #[]); letGo old.toList.reverse; Builtin.List.listExtendWith (.ref S) (.ref it) .none) _ _ s
  refine wpAny_bind ?_
  unfold Builtin.List.listItems
  refine wpAny_bind (wpAny_seqItems hS rfl (wpAny_pure ?_))
  show wpAny _ A.in1 (updateSeq S (fun _ => #[]) >>= fun _ => letGo (#[] : Array Value).toList.reverse >>= fun _ => Builtin.List.listExtendWith (.ref S) (.ref it) .none) _ _ s
  refine wpAny_bind (wpAny_updateSeq hS rfl ?_)
  have hS₂ := Heap.get?_update_self (Obj.mapSeq (fun _ => (#[] : Array Value))) hS rfl
  have oth : ∀ b o, b ≠ S → s.heap.get? b = some o → (s.heap.update S (Obj.mapSeq (fun _ => (#[] : Array Value)))).get? b = some o :=
    fun b o hb e => (Heap.get?_update_other _ _ (Ne.symm hb)).trans e
  refine wpAny_bind (wpAny_letGo ?_)
  refine extend_rev (s := { s with heap := s.heap.update S (Obj.mapSeq (fun _ => (#[] : Array Value))) }) hh (hit.at fun o e => oth it o hSi.symm e) (by obtain ⟨o, ho, x⟩ := hl; exact ⟨o, oth l o hSl.symm ho, x⟩) hne hSi hSl hn hS₂ fun s' acc' c' hm hS' hacc => ?_
  rw [Moved.eq_with hm]
  exact hR s'.heap s'.toks acc' c' (fun b o hb hb2 e => hm.heap b o (by simp [hb, hb2]) (oth b o hb e)) hS' hacc
theorem call_list_rev {it l : Addr} {items : Array Value} {Q : Value → Shared → Prop} (hh : A.handled = none) (hit : s.heap.IsRevIter it l ((items.size : Int) - 1)) (hl : s.heap.IsList l items) (hne : l ≠ it) (hn : items.size ≤ sizeLine)
    (hQ : ∀ (h' : Heap) (tk : Nat) (acc : Array Value) (c' : Nat), (∀ b o, b ≠ it → s.heap.get? b = some o → h'.get? b = some o) → h'.get? s.heap.objs.size = some { cls := .type "list", dict := none, data := .seq acc c', slots := #[] } → ItemsOf (fun i v => items[items.size - 1 - i]? = some v) acc items.size → Q (.ref s.heap.objs.size) { s with heap := h', toks := tk }) :
    wpAny (model prog w) A (call (.type "list") [.ref it]) Q E s := by
  refine callType_codes (Q₁ := fun obj s₁ => obj = .ref s.heap.objs.size ∧ s₁ = { s with heap := s.heap.push { cls := .type "list", data := .seq #[] } }) F.called_list (F.typeCall_list_1 _) F.entry_list_init
    (code_list_new _ ⟨rfl, rfl⟩) fun obj s₁ h₁ => ?_
  obtain ⟨rfl, rfl⟩ := h₁
  have hS : (s.heap.push { cls := .type "list", data := .seq #[] }).get? s.heap.objs.size = some { cls := .type "list", data := .seq #[] } := Heap.get?_push_size _ rfl
  obtain ⟨oi, hoi, _⟩ := id hit
  obtain ⟨ol, hol, _⟩ := id hl
  refine ⟨⟨_, hS, rfl⟩, F.args_list_init_2 _ _, init_rev (A := A.in1) (s := { s with heap := s.heap.push { cls := .type "list", data := .seq #[] } }) hh (hit.at fun o e => Heap.get?_push_of_some _ e) (hl.push _) hne (Nat.ne_of_gt (Heap.lt_size hoi)) (Nat.ne_of_gt (Heap.lt_size hol)) hn hS fun h' tk acc c' hk hS' hacc => ?_⟩
  exact ⟨rfl, hQ h' tk acc c' (fun b o hb e => hk b o (Nat.ne_of_lt (Heap.lt_size e)) hb (Heap.get?_push_of_some _ e)) hS' hacc⟩
end
section
variable {X : Cx}
/-- list(reversed(xs)): a new list -/
def tListRev (K : PySem.W.Frag) (te : TE) : TE := fun σ H Q => te σ H fun x H1 => ∃ a xs, x = .ref a ∧ SqL K H1 a xs ∧ ∀ p, H1 p = none → Q (.ref p) (upd H1 p (.lst xs.reverse))
theorem pe_listRev {e : Expr} {te : TE} {p p2 pos pos2 : Pos} (hc : X.calm = true) (hg : Gl X "list") (hm : X.mg "list" = none) (hg2 : Gl X "reversed") (hm2 : X.mg "reversed" = none) (he : PE X e te)
    (hs : starEach [e] X.env = (false, eval e X.env) :: starEach [] X.env := by rfl)
    (hs2 : starEach [.Call (.Name "reversed" p2) [e] [] pos2] X.env = (false, eval (.Call (.Name "reversed" p2) [e] [] pos2) X.env) :: starEach [] X.env := by rfl) :
    PE X (.Call (.Name "list" p) [.Call (.Name "reversed" p2) [e] [] pos2] [] pos) (tListRev X.K te) := by
  refine ⟨fun pins s σ H Q I h => ?_⟩
  refine Call_ (ld_blt I hg hm boot_list (PyProof.Rows.callWith_type1 (args_cons (Call_ (ld_blt I hg2 hm2 PyProof.Rows.boot_reversed (PyProof.Rows.callWith_type1 (args_cons (thn (he.run pins s σ H _ I h) fun u s1 ⟨v, H1, I1, r1, q1⟩ => args_nil ?_) hs) hs rfl))) hs2) hs2 rfl))
  obtain ⟨a, xs, ev, hq, q⟩ := q1
  subst ev
  obtain rfl : u = Value.ref a := r1
  obtain ⟨its, rv, p', hz⟩ := I1.list hq
  refine call_reversed_list p'.isList (args_nil ?_)
  have k0 : ∀ b o, s1.heap.get? b = some o → (s1.heap.push (revObj a ((its.toArray.size : Int) - 1))).get? b = some o := fun b o e => Heap.get?_push_of_some _ e
  have hl := p'.isList
  obtain ⟨ol, hol, _⟩ := id hl
  have hne : a ≠ s1.heap.objs.size := Nat.ne_of_lt (Heap.lt_size hol)
  have hn : its.toArray.size ≤ sizeLine := by rw [List.size_toArray, ← rv.length]; exact hz
  refine call_list_rev (s := { s1 with heap := s1.heap.push (revObj a ((its.toArray.size : Int) - 1)) }) (I1.ok.hd hc) ⟨_, Heap.get?_push_size _ rfl, rfl, rfl⟩ (hl.push _) hne hn fun h' tk acc c' hk hS' hi => ?_
  have hle : s1.heap.objs.size ≤ (s1.heap.push (revObj a ((its.toArray.size : Int) - 1))).objs.size := by simp [Heap.push]
  have ea : acc.toList.toArray = acc := by simp
  exact ⟨.ref (s1.heap.push (revObj a ((its.toArray.size : Int) - 1))).objs.size, upd H1 (s1.heap.push (revObj a ((its.toArray.size : Int) - 1))).objs.size (.lst xs.reverse), I1.laid (t' := tk) (fun c o e => hk c o (Nat.ne_of_lt (Heap.lt_size e)) (k0 c o e)) hle (show ObjOk X.prog X.w _ _ _ (.lst xs.reverse) from ⟨by rw [List.length_reverse]; exact hz, acc.toList, c', vals_rev rv hi, by rw [ea]; exact hS'⟩), rfl, q _ (I1.hok.fresh hle)⟩
end
end RL
/-! ### xs.extend(a tuple) -/
namespace RL
open PySem PySem.Spec PyProof.Rows RT L2
theorem meets_extend_tup (l : Addr) (items : Array Value) (n : Nat) (b : Addr) (items2 : Array Value) (n2 : Nat) (o : Obj) (hc : o.cls = .type "tuple") (hd : o.data = .seq items2 n2) (hs1 : items.size + items2.size ≤ sizeLine) :
    Meets (Builtin.«list.extend» ⟨[.ref l, .ref b], []⟩) (fun _ R s => s.heap.get? l = some { cls := .type "list", dict := none, data := .seq items n, slots := #[] } ∧ s.heap.get? b = some o ∧ R (.ok (.ret Value.none)) { s with heap := s.heap.update l (Obj.mapSeq fun x => x ++ items2), toks := s.toks }) :=
  .of_wp fun prog w A R s h => by
    obtain ⟨hl, hb, h⟩ := h
    show wpAny _ _ (Builtin.List.listExtendWith (.ref l) (.ref b) .none) _ _ _
    unfold Builtin.List.listExtendWith
    refine wpAny_bind (wpAny_typeOf ⟨o, hb, hc⟩ ?_)
    have h1 : (Builtin.List.listSameRef (.ref l) (.ref b) || Value.type "tuple" == Value.type "list" || Value.type "tuple" == Value.type "tuple") = true := by simp
    simp only [h1, if_true]
    refine wpAny_bind ?_
    unfold Builtin.List.listItems
    refine wpAny_bind (wpAny_seqItems hb hd (wpAny_pure ?_))
    refine wpAny_bind ?_
    refine wpAny_bind (wpAny_seqItems hl rfl (wpAny_pure ?_))
    have hlong : ¬ (!items.isEmpty && Builtin.List.listTooLong (items.size + items2.size)) = true := by
      rw [notLongL hs1, Bool.and_false]
      exact Bool.false_ne_true
    rw [if_neg hlong]
    show wpAny _ _ (updateSeq l (· ++ items2) >>= fun _ => ret .none) _ _ s
    refine wpAny_bind (wpAny_updateSeq hl rfl (hz := by omega) (_hz' := by rw [Array.size_append]; omega) ?_)
    exact wpAny_pure ⟨_, rfl, h⟩
section
variable {X : Cx}
def rExtT : V → List V → Hp → VK → Prop := fun x vs H Q => ∃ l b xs zs, x = .ref l ∧ vs = [.ref b] ∧ H l = some (.lst xs) ∧ H b = some (.tup zs) ∧ xs.length + zs.length ≤ sizeLine ∧ Q .non (upd H l (.lst (xs ++ zs)))
theorem mt_extendT : MtM X "list.extend" rExtT := by
  intro pins s σ H x vs v us Q I rx rv h
  obtain ⟨l, b, xs, zs, rfl, rfl, hH, hB, hz, q⟩ := h
  cases rx
  obtain ⟨u, rfl, ru⟩ := rv.one
  cases ru
  obtain ⟨z, its, n, r, hl, e⟩ := I.lstM hH
  obtain ⟨its2, r2, ⟨o, ho, hc, n2, hd⟩, hz2⟩ := I.tuple (SqT.of hB)
  have hl2 := r2.length
  refine call_meets PySem.F.slot_list_extend ⟨_, e, rfl⟩ PySem.F.entry_list_extend (PySem.F.args_list_extend_2 _ _)
    (meets_extend_tup l its.toArray n b its2.toArray n2 o hc hd (by rw [List.size_toArray, List.size_toArray]; omega)) ⟨e, ho, ?_⟩
  refine ⟨.non, _, I.lset (its' := its ++ its2) hH e (by simp) (r.append r2) ?_, rfl, q⟩
  rw [List.length_append]
  omega
end
end RL
/-! ### enumerate(a list, start=k) -/
namespace RL
open PySem PySem.Spec PyProof.Rows L2
section
variable {M : Model} {A : Around} {E : Value → Shared → Prop} {s : Shared} {env : Env}
theorem callWith_type_kwB {pos : Pos} {T : String} {first : List Value} {args : List (Bool × Sem Value)} {keywords : List (Option Str × Sem Value)} {Q : Value → Shared → Prop}
    (hplain : args.any (·.1) = false) (hkw : keywords.any (·.1.isNone) = false)
    (h : wpAny M A (evalArgs (.type T) true args keywords) (fun a s₁ => wpAny M A (call (.type T) (first ++ a.pos) a.kw) Q E s₁) E s) :
    wpAny M A (callWith pos (.type T) first args keywords) Q E s := by
  unfold callWith
  refine wpAny_bind (wpAny_holding (wpAny_mono h (fun a s₁ h₁ => wpAny_bind (wpAny_standAt ?_)) fun _ _ x => x))
  simp only [hplain, hkw, Bool.or_false]
  refine wpAny_bind (wpAny_pure ?_)
  exact wpAny_bind (wpAny_mono h₁ (fun r s₂ hr => wpAny_bind (wpAny_holding (wpAny_point (wpAny_pure hr)))) fun _ _ x => x)
theorem callWith_type_kw {pos : Pos} {T : String} {e : Expr} {rest : List Expr} {kws : List Keyword} {Q : Value → Shared → Prop}
    (h : wpAny M A (spliced (backTo pos (starEach (e :: rest) env))) (fun vs s₁ => wpAny M A (evalAll ((backToKw pos (keywordEach kws env)).map (·.2)))
      (fun kvs s₂ => wpAny M A (call (.type T) vs (((backToKw pos (keywordEach kws env)).filterMap (·.1)).zip kvs)) Q E s₂) E s₁) E s)
    (he : backTo pos (starEach (e :: rest) env) = (false, eval e env) :: backTo pos (starEach rest env))
    (hplain : (backTo pos (starEach (e :: rest) env)).any (·.1) = false)
    (hall : (backToKw pos (keywordEach kws env)).all (·.1.isSome) = true)
    (hkw : (backToKw pos (keywordEach kws env)).any (·.1.isNone) = false) :
    wpAny M A (callWith pos (.type T) [] (backTo pos (starEach (e :: rest) env)) (backToKw pos (keywordEach kws env))) Q E s := by
  refine callWith_type_kwB hplain hkw ?_
  rw [he] at h ⊢
  exact evalArgs_kwB hall h
end
/-- the list at a as it stands at each turn, each item in a new pair, counted from k -/
def IteS (K : PySem.W.Frag) (a : Addr) (k : Int) : It :=
  ⟨fun i H => ∃ (xs : List V) (x : V), SqL K H a xs ∧ xs[i]? = some x, fun i H v H' => ∃ T x, v = .ref T ∧ H T = none ∧ H' = upd H T (.tup [.int (k + (i : Nat)), x]) ∧ ∀ xs, SqL K H a xs → xs[i]? = some x, fun i H => ∃ xs : List V, SqL K H a xs ∧ xs.length = i⟩
theorem turn_enumS {P : Program} {w : World} {K : PySem.W.Frag} {elts : List Expr} {kk : Nat} {tpos : Pos} (a e it : Addr) (k : Int) :
    Turn P w K (.Tuple elts kk tpos) (IteS K a k) [e, it] e (fun i h => (∃ old, IsEnum h e it (k + ((i : Nat) : Int)) old) ∧ h.IsListIter it a i ∧ e ≠ it ∧ e ≠ a ∧ a ≠ it) where
  mem := by simp
  obj := fun i h st b hb => by
    obtain ⟨⟨old, he⟩, ⟨o, ho, hc, hd⟩, _⟩ := st
    have e' : b = e ∨ b = it := by simpa using hb
    rcases e' with z | z
    · rw [z]; exact ⟨_, he, fun v q => nomatch q⟩
    · rw [z]; exact ⟨o, ho, fun v q => by rw [hd] at q; cases q⟩
  keep := fun i h h' st k => let ⟨⟨old, he⟩, hi, hne⟩ := st; ⟨⟨old, k e (by simp) _ he⟩, hi.at fun o q => k it (by simp) o q, hne⟩
  item := by
    intro X hP hw hK hc i pins s σ H E I hf st hg
    subst hP hw hK
    obtain ⟨⟨old, he⟩, hit, hne, hea, hai⟩ := st
    obtain ⟨xs, x, hq, hx⟩ := hg
    obtain ⟨its, rv, p, hz⟩ := I.list hq
    obtain ⟨u, hu, ru⟩ := rv.get hx
    have hel : e < s.heap.objs.size := Heap.lt_size he
    have hil : it < s.heap.objs.size := by obtain ⟨_, q, _⟩ := hit; exact Heap.lt_size q
    have D := Draws.list (prog := X.prog) (w := X.w) (A := X.A.in1) (I.ok.hd hc) it a hai its.toArray
    have hlt : i < its.toArray.size := by
      have := (List.getElem?_eq_some_iff.mp hu).1
      simpa using this
    refine wpAny_pyNext_enum_itemC D he ⟨hit, p.isList⟩ hlt hne (by simp [hne, hea]) fun u' h' tk hu' ho hst' hT hsz hk => ?_
    have euu : u' = u := by
      have z : its.toArray[i]? = some u := by simpa using hu
      rw [z] at hu'
      exact (Option.some.inj hu').symm
    subst euu
    refine ⟨_, rfl, wpAny_letOwnedTupleGo_enum (s := { s with heap := h', toks := tk + 1 }) ho fun h'' he' sb => ?_⟩
    have hT2 : h''.get? s.heap.objs.size = some { cls := .type "tuple", data := .seq #[.int (k + (i : Nat)) tk, u'] } := (sb.2 _ (Nat.ne_of_gt hel)).trans hT
    have new : ObjOk X.prog X.w (upd H s.heap.objs.size (.tup [.int (k + (i : Nat)), x])) h'' s.heap.objs.size (.tup [.int (k + (i : Nat)), x]) :=
      ⟨by show 2 ≤ sizeLine; decide, [.int (k + (i : Nat)) tk, u'], .cons ⟨_, rfl⟩ (.cons ru .nil), ⟨_, hT2, rfl, _, rfl⟩⟩
    have I1 : Inv X pins σ (upd H s.heap.objs.size (.tup [.int (k + (i : Nat)), x])) { s with heap := h'', toks := tk + 1 } :=
      I.turnedNew (ch := [e, it]) (fun b ob hb q => (sb.2 b (fun z => hb (by simp [z]))).trans (hk b ob (fun z => hb (by simp [z])) (fun z => hb (by simp [z])) q)) hf (Nat.le_refl _) new
    refine ⟨.ref s.heap.objs.size, _, I1, rfl, ⟨_, x, rfl, I.hok.fresh (Nat.le_refl _), rfl, fun ys hy => by rw [I.list_inj hy hq]; exact hx⟩, ⟨⟨u', ?_⟩, hst'.1.at fun o q => (sb.2 it (Ne.symm hne)).trans q, hne, hea, hai⟩, fun b hb => ?_⟩
    · have e1 : k + ((i + 1 : Nat) : Int) = k + (i : Int) + 1 := by omega
      rw [e1]; exact he'
    · have hb' : b < s.heap.objs.size := by
        have e' : b = e ∨ b = it := by simpa using hb
        rcases e' with z | z
        · rw [z]; exact hel
        · rw [z]; exact hil
      rw [upd_ne (Nat.ne_of_lt hb')]
      exact (hf b hb).1
  done := by
    intro X hP hw hK hc i pins s σ H E I hf st hg
    subst hP hw hK
    obtain ⟨⟨old, he⟩, hit, hne, hea, hai⟩ := st
    obtain ⟨xs, hq, hx⟩ := hg
    obtain ⟨its, rv, p, hz⟩ := I.list hq
    obtain ⟨f0, f1, f2, f3, f4, f5⟩ := hf it (by simp)
    have hl := rv.length
    have D := Draws.list (prog := X.prog) (w := X.w) (A := X.A.in1) (I.ok.hd hc) it a hai its.toArray
    have en : i = its.toArray.size := by rw [List.size_toArray]; omega
    subst en
    exact wpAny_pyNext_enum_endD D he ⟨hit, p.isList⟩ fun h' eb => ⟨rfl, I.turned (t' := s.toks) (fun b o hb q => eb b o hb q) f0 f1 f3 f4 f5⟩
  self := fun A i s Q E st h => let ⟨⟨_, he⟩, _⟩ := st; wpAny_pyIter_enum he h
def iEnumS (K : PySem.W.Frag) (ta : TA) (tk : TA) : TI := fun σ H R => ta σ H fun vs H1 => tk σ H1 fun zs H2 => ∃ a xs k, vs = [.ref a] ∧ zs = [.int k] ∧ -(2 ^ 63) ≤ k ∧ k < 2 ^ 63 ∧ SqL K H2 a xs ∧ R (IteS K a k) H2
theorem pi_enumS {X : Cx} {e e2 : Expr} {ta tk : TA} {p pos tpos kp : Pos} {elts : List Expr} {kk : Nat} (hg : Gl X "enumerate") (hm : X.mg "enumerate" = none) (ha : PA X [e] ta) (hkw : PK X [⟨some ("start" : Str), e2, kp⟩] tk)
    (he : backTo pos (starEach [e] X.env) = (false, eval e X.env) :: backTo pos (starEach [] X.env) := by rfl) (hpl : (backTo pos (starEach [e] X.env)).any (·.1) = false := by rfl)
    (hall : (backToKw pos (keywordEach [⟨some ("start" : Str), e2, kp⟩] X.env)).all (·.1.isSome) = true := by rfl) (hnone : (backToKw pos (keywordEach [⟨some ("start" : Str), e2, kp⟩] X.env)).any (·.1.isNone) = false := by rfl)
    (hks : (backToKw pos (keywordEach [⟨some ("start" : Str), e2, kp⟩] X.env)).filterMap (·.1) = [("start" : Str)] := by rfl) :
    PI X (.Tuple elts kk tpos) (.Call (.Name "enumerate" p) [e] [⟨some ("start" : Str), e2, kp⟩] pos) (iEnumS X.K ta tk) := by
  refine ⟨fun pins s σ H R I h => ?_⟩
  refine wpAny_Call_Name_kw (ld_blt I hg hm boot_enumerate (callWith_type_kw (thn (ha.run pos pins s σ H _ I h) fun us s0 ⟨vs, H0, I0, r0, q0⟩ => thn (hkw.run pos pins s0 σ H0 _ I0 q0) fun ws s1 ⟨zs, H1, I1, r2, q1⟩ => ?_) he hpl hall hnone))
  rw [hks]
  obtain ⟨a, xs, k, ex, ez, hk0, hk1, hq, q⟩ := q1
  subst ex ez
  cases r0 with
  | cons r rr =>
    cases rr
    cases r
    cases r2 with
    | cons r3 rr3 =>
      cases rr3
      obtain ⟨t, rfl⟩ := r3
      obtain ⟨its, rv, p', hz⟩ := I1.list hq
      have hal : a < s1.heap.objs.size := by obtain ⟨_, z, _⟩ := p'.isList; exact Heap.lt_size z
      refine enum_begins_start (begins_list a its.toArray) p'.isList hk0 hk1 fun h' he' hit hsz hk => wpAny_pyIter_enum he' ?_
      have I2 : Inv X pins σ H1 { s1 with heap := h' } := I1.kept (t' := s1.toks) hk
      refine ⟨s1.heap.objs.size + 1, [s1.heap.objs.size + 1, s1.heap.objs.size], _, _, H1, rfl, I2, turn_enumS a (s1.heap.objs.size + 1) s1.heap.objs.size k, ⟨⟨.none, ?_⟩, ⟨_, hit, rfl, ?_⟩, Nat.succ_ne_self _, Nat.ne_of_gt (Nat.lt_succ_of_lt hal), Nat.ne_of_lt hal⟩, fun b hb => ?_, q⟩
      · rw [show k + ((0 : Nat) : Int) = k by omega]
        exact he'
      · rfl
      · have e' : b = s1.heap.objs.size + 1 ∨ b = s1.heap.objs.size := by simpa using hb
        have hle : s1.heap.objs.size ≤ b := by
          rcases e' with z | z
          · rw [z]; exact Nat.le_add_right _ _
          · rw [z]; exact Nat.le_refl _
        exact I1.fpOk hle (I1.hok.fresh hle)
end RL
/-! ### a text times an int -/
namespace RL
open PySem PySem.Spec PyProof.Rows L2
def repS (z : Str) (k : Nat) : Str := ⟨(List.replicate k z.cps).foldl (· ++ ·) #[]⟩
theorem foldl_size : ∀ (l : List (Array Nat)) (a : Array Nat), (l.foldl (· ++ ·) a).toList = a.toList ++ (l.map Array.toList).flatten
  | [], a => by simp
  | x :: r, a => by
    rw [List.foldl_cons, foldl_size r (a ++ x), Array.toList_append, List.map_cons, List.flatten_cons, List.append_assoc]
theorem repS_tl (z : Str) (k : Nat) : TL.tl (repS z k) = (List.replicate k z.cps.toList).flatten := by
  show ((List.replicate k z.cps).foldl (· ++ ·) #[]).toList = _
  rw [foldl_size, List.map_replicate]
  rfl
theorem repS_len (z : Str) (k : Nat) : (repS z k).length = k * z.length := by
  show (repS z k).cps.size = _
  rw [← Array.length_toList]
  have h := repS_tl z k
  unfold TL.tl at h
  rw [h]
  simp [List.length_flatten]
  rfl
def rMulS : R2 := fun x y H Q => ∃ (z : Str) (k : Nat), x = .str z ∧ y = .int (k : Int) ∧ 2 ≤ k ∧ k ≤ 100000 ∧ 1 ≤ z.length ∧ z.length ≤ 100 ∧ Q (.str (repS z k)) H
theorem op_mulS {X : Cx} : OpR X (binaryOp .Mult) rMulS := by
  intro pins s σ H x y v u Q I rx ry h
  obtain ⟨z, k, rfl, rfl, hk, hk2, hz, hz2, q⟩ := h
  obtain ⟨t, rfl⟩ := rx
  obtain ⟨t', rfl⟩ := ry
  have hle : z.length * k ≤ 10000000 := by
    have h1 : z.length * k ≤ 100 * k := Nat.mul_le_mul_right k hz2
    omega
  have hno : ((((k : Nat) : Int) == 1) || z.length == 0) = false := by
    have h1 : (((k : Nat) : Int) == 1) = false := by
      apply beq_false_of_ne
      omega
    have h2 : (z.length == 0) = false := by
      apply beq_false_of_ne
      omega
    rw [h1, h2]; rfl
  refine PySem.P.mul_str ?_ ?_ ?_ ?_
  · have h1 : ¬ (k : Int) < -(2 ^ 63 : Int) := by omega
    have h2 : ¬ (k : Int) ≥ 2 ^ 63 := by omega
    rw [decide_eq_false h1, decide_eq_false h2]; rfl
  · intro _ _
    have h3 : (1000 : Int) ≤ (2 ^ 63 - 1) / (k : Int) := by
      rw [Int.le_ediv_iff_mul_le (by omega)]
      omega
    omega
  · intro _ _
    rw [Int.toNat_natCast]
    have hs : 10000000 ≤ sizeLine := by decide
    unfold Builtin.Str.tooLong
    exact decide_eq_false (by omega)
  · rw [if_neg (by omega), if_neg (by rw [hno]; decide)]
    rw [Int.toNat_natCast]
    have hl := repS_len z k
    have hs : 10000000 ≤ sizeLine := by decide
    have hc : k * z.length = z.length * k := Nat.mul_comm _ _
    refine ⟨?_, ⟨.str (repS z k), H, I.tok _, ⟨_, rfl⟩, q⟩⟩
    show (repS z k).length ≤ sizeLine
    omega
end RL

/-! ### Z: single steps of readings, for walking by with_reducible refine -/
namespace Z
open PySem L2
/-- all but what stands at M is as it was -/
def Kp (M : List Addr) (H H' : Hp) : Prop := ∀ b o, b ∉ M → H b = some o → H' b = some o
theorem Kp.refl {M : List Addr} (H : Hp) : Kp M H H := fun _ _ _ h => h
theorem Kp.trans {M : List Addr} {H H1 H2 : Hp} (a : Kp M H H1) (b : Kp M H1 H2) : Kp M H H2 := fun c o n h => b c o n (a c o n h)
theorem Kp.new {M : List Addr} {H : Hp} {p : Addr} {o : HO} (h : H p = none) : Kp M H (upd H p o) := fun b u _ e => by
  rw [upd_ne (ne_of_none e h)]
  exact e
theorem Kp.put {M : List Addr} {H : Hp} {p : Addr} {o : HO} (h : p ∈ M) : Kp M H (upd H p o) := fun b u n e => by
  rw [upd_ne (fun q => n (by rw [q]; exact h))]
  exact e
theorem Kp.sub {M M' : List Addr} {H H' : Hp} (a : Kp M H H') (h : ∀ x, x ∈ M → x ∈ M') : Kp M' H H' := fun b o n e => a b o (fun z => n (h b z)) e
theorem Kp.same {H H' : Hp} (a : Kp [] H H') : Same H H' := fun b o e => a b o (by simp) e
theorem Kp.of_same {M : List Addr} {H H' : Hp} (a : Same H H') : Kp M H H' := fun b o _ e => a b o e
theorem Kp.none {M : List Addr} {H H' : Hp} (a : Kp M H H') {p : Addr} (n : p ∉ M) (h : H' p = Option.none) : H p = Option.none := by
  cases q : H p with
  | none => rfl
  | some o =>
    rw [a p o n q] at h
    cases h
/-- what was not there may be forgotten from M -/
theorem Kp.drop {M : List Addr} {H H' : Hp} {p : Addr} (a : Kp (p :: M) H H') (h : H p = Option.none) : Kp M H H' := fun b o n e => a b o (by
  intro z
  rcases List.mem_cons.mp z with z | z
  · rw [z, h] at e
    cases e
  · exact n z) e
theorem Kp.get {M : List Addr} {H H' : Hp} (a : Kp M H H') {b : Addr} {o : HO} (n : b ∉ M) (e : H b = some o) : H' b = some o := a b o n e
theorem Kp.seq {M : List Addr} {K : PySem.W.Frag} {H H' : Hp} (e : Kp M H H') {a : Addr} {xs : List V} (n : a ∉ M) (h : SqL K H a xs) : SqL K H' a xs := by
  rcases h with (h | ⟨o, h⟩) | h
  · exact .inl (.inl (e _ _ n h))
  · exact .inl (.inr ⟨o, e _ _ n h⟩)
  · exact .inr h
theorem Kp.tup {M : List Addr} {K : PySem.W.Frag} {H H' : Hp} (e : Kp M H H') {a : Addr} {xs : List V} (n : a ∉ M) (h : SqT K H a xs) : SqT K H' a xs := by
  rcases h with (h | ⟨o, h⟩) | h
  · exact .inl (.inl (e _ _ n h))
  · exact .inl (.inr ⟨o, e _ _ n h⟩)
  · exact .inr h
/-- what H0 does not know may change -/
theorem Kp.mut {M : List Addr} {H0 H H' : Hp} {l : Addr} {o : HO} (a : Kp M H0 H) (h : H0 l = Option.none) (e : H' = upd H l o) : Kp M H0 H' := fun b u n z => by
  rw [e, upd_ne (ne_of_none z h)]
  exact a b u n z
theorem Kp.then1 {M : List Addr} {H0 H H' : Hp} {l : Addr} (a : Kp M H0 H) (b : Kp [l] H H') (h : H0 l = Option.none) : Kp M H0 H' := fun c o n e => b c o (by
  intro z
  rw [List.mem_singleton.mp z, h] at e
  cases e) (a c o n e)
/-- a new instance and its dict -/
theorem Kp.made {M : List Addr} {H : Hp} {x dx : Addr} {o u : HO} (nx : H x = Option.none) (nd : H dx = Option.none) : Kp M H (upd (upd H dx u) x o) := fun c o n e => by
  rw [upd_ne (ne_of_none e nx), upd_ne (ne_of_none e nd)]
  exact e
theorem none2 {H : Hp} {x dx l : Addr} {o u : HO} (h : upd (upd H dx u) x o l = Option.none) : H l = Option.none := by
  unfold upd at h
  split at h
  · cases h
  · split at h
    · cases h
    · exact h
theorem nin1 {a b : Addr} (h : b ≠ a) : b ∉ [a] := by simpa using h
theorem nin0 {b : Addr} : b ∉ ([] : List Addr) := by simp
theorem lstL {K : PySem.W.Frag} {H : Hp} {a : Addr} {xs : List V} (h : H a = some (.lst xs)) : SqL K H a xs := .inl (.inl h)
theorem tupT {K : PySem.W.Frag} {H : Hp} {a : Addr} {xs : List V} (h : H a = some (.tup xs)) : SqT K H a xs := .inl (.inl h)

theorem cxK {CX : CXT} {P : Program} {w : World} {K : PySem.W.Frag} {mg : Str → Option Value} {base : Heap} {N : List Str} {qual : Str} {scope : Scope} {f : Addr} {cd : Value} {A : Around} {outer : List Env} {s : Shared} {H : Hp} {E : XK} : (cxOf CX P w K mg base N qual scope f cd A outer s H E).K = K := rfl
/-! named readings of rules -/
def rLenN (K : PySem.W.Frag) : List V → Hp → VK → Prop := fun xs H Q => ∃ p ys, xs = [.ref p] ∧ (SqL K H p ys ∨ SqT K H p ys) ∧ Q (.int ys.length) H
theorem c_len {X : Cx} : CallR X (.builtin "len") (rLenN X.K) := call_len_seq
def rListN (K : PySem.W.Frag) : List V → Hp → VK → Prop := fun xs H Q => ∃ p ys, xs = [.ref p] ∧ (SqL K H p ys ∨ SqT K H p ys) ∧ ∀ l, H l = none → Q (.ref l) (upd H l (.lst ys))
theorem c_list {X : Cx} : CallR X (.type "list") (rListN X.K) := call_list_of
def rTupN (K : PySem.W.Frag) : List V → Hp → VK → Prop := fun xs H Q => ∃ p ys, xs = [.ref p] ∧ ((SqL K H p ys ∧ ∀ l, H l = none → Q (.ref l) (upd H l (.tup ys))) ∨ (SqT K H p ys ∧ Q (.ref p) H))
theorem c_tuple {X : Cx} : CallR X (.type "tuple") (rTupN X.K) := call_tuple_of
def rInt1 : List V → Hp → VK → Prop := fun xs H Q => (∃ i, xs = [.int i] ∧ Q (.int i) H) ∨ ∃ k, xs = [.bl k] ∧ Q (.int (if k then 1 else 0)) H
theorem c_int {X : Cx} : CallR X (.type "int") rInt1 := call_int1
def rAbs : List V → Hp → VK → Prop := fun xs H Q => ∃ i, xs = [.int i] ∧ Q (.int (if i < 0 then -i else i)) H
theorem c_abs {X : Cx} : CallR X (.builtin "abs") rAbs := call_abs
def rIsN : R2 := fun x y H Q => y = .non ∧ Q (.bl (decide (x = .non))) H
theorem o_isN {X : Cx} : OpR X (compareOp .Is) rIsN := op_isN
def rNotN : R2 := fun x y H Q => y = .non ∧ Q (.bl (!decide (x = .non))) H
theorem o_notN {X : Cx} : OpR X (compareOp .IsNot) rNotN := op_notN
def rAddS : R2 := fun x y H Q => ∃ i j, x = .str i ∧ y = .str j ∧ i.length + j.length ≤ sizeLine ∧ Q (.str (i ++ j)) H
theorem o_addS {X : Cx} : OpR X (binaryOp .Add) rAddS := op_add_str
def rInSg : R2 := fun x y H Q => ∃ (c : Nat) (z : Str), x = .str ⟨#[c]⟩ ∧ y = .str z ∧ Q (.bl (decide (c ∈ z.cps.toList))) H
theorem o_inSg {X : Cx} : OpR X (compareOp .In) rInSg := op_in_sign
def rNinSg : R2 := fun x y H Q => ∃ (c : Nat) (z : Str), x = .str ⟨#[c]⟩ ∧ y = .str z ∧ Q (.bl (!decide (c ∈ z.cps.toList))) H
theorem o_ninSg {X : Cx} : OpR X (compareOp .NotIn) rNinSg := op_notIn_sign
/-- // by a divisor of any sign -/
def CDivA (_ j : Int) : Prop := j ≠ 0 ∧ j.natAbs.log2 < 9000
theorem op_fdivA {X : Cx} : OpR X (binaryOp .FloorDiv) (rI CDivA fun i j => .int (i.fdiv j)) := opI fun i j _ _ _ _ _ hc q => PyProof.Rows.floordiv_int hc.1 q (.inl (PyProof.noPylong_of_log2 hc.2))
theorem divA {i j : Int} {b : Nat} (h : j ≠ 0) (hb : j.natAbs < 2 ^ b) (h0 : 0 < b) (h9 : b ≤ 9000) : CDivA i j := ⟨h, Nat.lt_of_lt_of_le (PySem.Flt.log2_lt_of h0 hb) h9⟩
def rLenS : List V → Hp → VK → Prop := fun xs H Q => ∃ x : Str, xs = [.str x] ∧ x.cps.size ≤ 10000000 ∧ Q (.int (x.cps.size : Nat)) H
theorem c_lens {X : Cx} : CallR X (.builtin "len") rLenS := fun pins s σ H xs us Q I r h => call_len pins s σ H xs us Q I r (by obtain ⟨x, rfl, hz, q⟩ := h; exact ⟨.str x, _, rfl, ⟨Nat.le_trans hz (by decide), rfl⟩, q⟩)
def rPopQ : V → List V → Hp → VK → Prop := rPop
section
variable {σ : St} {H : Hp} {Q : VK} {v x y : V} {ta tb tc te : TE} {tA : TT} {D : Ends} {t u ts : TS} {r : R2} {K : PySem.W.Frag} {i : Nat} {A B : Prop}
/-! values -/
theorem var (h : σ[i]? = some (some v)) (q : Q v H) : tVar i σ H Q := ⟨v, h, q⟩
theorem cst (q : Q v H) : tC v σ H Q := q
theorem op (h : ta σ H fun x H1 => tb σ H1 fun y H2 => r x y H2 Q) : tOp r ta tb σ H Q := h
theorem un {r : V → Hp → VK → Prop} (h : ta σ H fun x H1 => r x H1 Q) : tUn r ta σ H Q := h
theorem i0 {g : Int → Int → V} {a b : Int} (q : Q (g a b) H) : rI0 g (.int a) (.int b) H Q := ⟨a, b, rfl, rfl, q⟩
theorem iC {C : Int → Int → Prop} {g : Int → Int → V} {a b : Int} (c : C a b) (q : Q (g a b) H) : rI C g (.int a) (.int b) H Q := ⟨a, b, rfl, rfl, c, q⟩
theorem iU {g : Int → V} {a : Int} (q : Q (g a) H) : rU g (.int a) H Q := ⟨a, rfl, q⟩
theorem eqII {a b : Int} (q : Q (.bl (decide (a = b))) H) : rEq (.int a) (.int b) H Q := ⟨rfl, by
  have e : decide (V.int a = V.int b) = decide (a = b) := by simp
  rw [e]; exact q⟩
theorem neII {a b : Int} (q : Q (.bl (!decide (a = b))) H) : rNe (.int a) (.int b) H Q := ⟨rfl, by
  have e : decide (V.int a = V.int b) = decide (a = b) := by simp
  rw [e]; exact q⟩
theorem eqSS {a b : Str} (q : Q (.bl (decide (a = b))) H) : rEq (.str a) (.str b) H Q := ⟨rfl, by
  have e : decide (V.str a = V.str b) = decide (a = b) := by simp
  rw [e]; exact q⟩
theorem neSS {a b : Str} (q : Q (.bl (!decide (a = b))) H) : rNe (.str a) (.str b) H Q := ⟨rfl, by
  have e : decide (V.str a = V.str b) = decide (a = b) := by simp
  rw [e]; exact q⟩
theorem eqBB {a b : Bool} (q : Q (.bl (decide (a = b))) H) : rEq (.bl a) (.bl b) H Q := ⟨rfl, by
  have e : decide (V.bl a = V.bl b) = decide (a = b) := by simp
  rw [e]; exact q⟩
theorem neBB {a b : Bool} (q : Q (.bl (!decide (a = b))) H) : rNe (.bl a) (.bl b) H Q := ⟨rfl, by
  have e : decide (V.bl a = V.bl b) = decide (a = b) := by simp
  rw [e]; exact q⟩
theorem bl {b : Bool} {q : Bool → Hp → Prop} (h : q b H) : ∃ k, V.bl b = .bl k ∧ q k H := ⟨b, rfl, h⟩
theorem bl' {b : Bool} {q : Bool → Prop} (h : q b) : ∃ k, V.bl b = .bl k ∧ q k := ⟨b, rfl, h⟩
theorem test {Q : Bool → Hp → Prop} (h : te σ H fun x H' => ∃ k, x = .bl k ∧ Q k H') : tTest te σ H Q := h
theorem tbb {Q : Bool → Hp → Prop} (h : te σ H fun x H' => ∃ k, x = .bl k ∧ Q k H') : tB te σ H Q := h
theorem tand {a b : TT} {Q : Bool → Hp → Prop} (h : a σ H fun c H1 => if c = true then b σ H1 Q else Q false H1) : tAnd a b σ H Q := h
theorem tor {a b : TT} {Q : Bool → Hp → Prop} (h : a σ H fun c H1 => if c = true then Q true H1 else b σ H1 Q) : tOr a b σ H Q := h
theorem tnot {a : TT} {Q : Bool → Hp → Prop} (h : a σ H fun c H1 => Q (!c) H1) : tNot a σ H Q := h
theorem tyes {Q : Bool → Hp → Prop} (h : Q true H) : tYes σ H Q := h
theorem andV (h : ta σ H fun x H1 => ∃ c, x = .bl c ∧ if c = true then tb σ H1 Q else Q (.bl false) H1) : tAndV ta tb σ H Q := h
theorem orV (h : ta σ H fun x H1 => ∃ c, x = .bl c ∧ if c = true then Q (.bl true) H1 else tb σ H1 Q) : tOrV ta tb σ H Q := h
theorem notV (h : ta σ H fun x H1 => ∃ c, x = .bl c ∧ Q (.bl (!c)) H1) : tNotV ta σ H Q := h
theorem ifE (h : tA σ H fun c H1 => if c = true then ta σ H1 Q else tb σ H1 Q) : L2.tIf tA ta tb σ H Q := h
theorem chain {r r' : R2} (h : ta σ H fun x H1 => tb σ H1 fun y H2 => r x y H2 fun z H3 => ∃ k, z = .bl k ∧ (if k = true then tc σ H3 fun w' H4 => r' y w' H4 Q else Q (.bl false) H3)) : tChain r r' ta tb tc σ H Q := h
/-! branches -/
theorem ite {p : Prop} [Decidable p] (h1 : p → A) (h2 : ¬p → B) : if decide p = true then A else B := by
  by_cases h : p
  · rw [decide_eq_true h, if_pos rfl]; exact h1 h
  · rw [decide_eq_false h, if_neg Bool.false_ne_true]; exact h2 h
theorem iteN {p : Prop} [Decidable p] (h1 : ¬p → A) (h2 : p → B) : if (!decide p) = true then A else B := by
  by_cases h : p
  · rw [decide_eq_true h]; exact h2 h
  · rw [decide_eq_false h]; exact h1 h
theorem iteB {b : Bool} (h1 : b = true → A) (h2 : b = false → B) : if b = true then A else B := by
  cases b with
  | true => exact h1 rfl
  | false => exact h2 rfl
theorem yes {p : Prop} [Decidable p] (h : p) (q : A) : if decide p = true then A else B := by rw [decide_eq_true h, if_pos rfl]; exact q
theorem no {p : Prop} [Decidable p] (h : ¬p) (q : B) : if decide p = true then A else B := by rw [decide_eq_false h, if_neg Bool.false_ne_true]; exact q
theorem yesN {p : Prop} [Decidable p] (h : ¬p) (q : A) : if (!decide p) = true then A else B := by rw [decide_eq_false h]; exact q
theorem noN {p : Prop} [Decidable p] (h : p) (q : B) : if (!decide p) = true then A else B := by rw [decide_eq_true h]; exact q
theorem yesB (q : A) : if true = true then A else B := q
theorem noNB (q : B) : if (!true) = true then A else B := q
theorem yesNB (q : A) : if (!false) = true then A else B := q
theorem noB (q : B) : if false = true then A else B := q
/-! calls -/
theorem nil {Q : List V → Hp → Prop} (q : Q [] H) : tNil σ H Q := q
theorem cons {Q : List V → Hp → Prop} {tr : TA} (h : ta σ H fun x H1 => tr σ H1 fun xs H2 => Q (x :: xs) H2) : tCons ta tr σ H Q := h
theorem cb {r : List V → Hp → VK → Prop} {a : TA} (h : a σ H fun vs H1 => r vs H1 Q) : tCB r a σ H Q := h
theorem call {sp : Sp} {dvs : List V} {E : XK} {a : TA} (h : a σ H fun vs H1 => sp (vs ++ dvs) H1 Q E) : tCall sp dvs E a σ H Q := h
theorem meth {C : Addr} {m : Str} {sp : Sp} {dvs : List V} {E : XK} {a : TA} (h : ta σ H fun x H1 => ∃ p dx fs, x = .ref p ∧ H1 p = some (.ins C dx fs) ∧ fs.lookup m = none ∧ a σ H1 fun vs H2 => sp (x :: (vs ++ dvs)) H2 Q E) : tMeth C m sp dvs E ta a σ H Q := h
theorem fld {f : Str} (h : ta σ H fun x H1 => ∃ a C dx fs v, x = .ref a ∧ H1 a = some (.ins C dx fs) ∧ Cls K C ∧ NoAttr K C f ∧ fs.lookup f = some v ∧ Q v H1) : tFld K ta f σ H Q := h
theorem int1 {a : Int} (q : Q (.int a) H) : rInt1 [.int a] H Q := .inl ⟨a, rfl, q⟩
theorem intb {b : Bool} (q : Q (.int (if b then 1 else 0)) H) : rInt1 [.bl b] H Q := .inr ⟨b, rfl, q⟩
theorem abs1 {a : Int} (q : Q (.int (if a < 0 then -a else a)) H) : rAbs [.int a] H Q := ⟨a, rfl, q⟩
theorem isN (q : Q (.bl (decide (x = .non))) H) : rIsN x .non H Q := ⟨rfl, q⟩
theorem notN (q : Q (.bl (!decide (x = .non))) H) : rNotN x .non H Q := ⟨rfl, q⟩
theorem addS {a b : Str} (h : a.length + b.length ≤ sizeLine) (q : Q (.str (a ++ b)) H) : rAddS (.str a) (.str b) H Q := ⟨a, b, rfl, rfl, h, q⟩
theorem inSg {c : Nat} {z : Str} (q : Q (.bl (decide (c ∈ z.cps.toList))) H) : rInSg (.str ⟨#[c]⟩) (.str z) H Q := ⟨c, z, rfl, rfl, q⟩
theorem ninSg {c : Nat} {z : Str} (q : Q (.bl (!decide (c ∈ z.cps.toList))) H) : rNinSg (.str ⟨#[c]⟩) (.str z) H Q := ⟨c, z, rfl, rfl, q⟩
/-- a new object -/
theorem new {o : HO} (h : ∀ p, H p = none → Q (.ref p) (upd H p o)) : ∀ p, H p = none → Q (.ref p) (upd H p o) := h
def TupN (Q : VK) (xs : List V) (H1 : Hp) : Prop := xs.length ≤ sizeLine ∧ ∀ p, H1 p = none → Q (.ref p) (upd H1 p (.tup xs))
def LstN (Q : VK) (xs : List V) (H1 : Hp) : Prop := xs.length ≤ sizeLine ∧ ∀ p, H1 p = none → Q (.ref p) (upd H1 p (.lst xs))
theorem tup {a : TA} (h : a σ H (TupN Q)) : tTup a σ H Q := h
theorem lst {a : TA} (h : a σ H (LstN Q)) : tLst a σ H Q := h
/-- a new object, the heap behind it a letter -/
theorem mk {o : HO} {H0 : Hp} {R : Addr → Hp → Prop} (h : ∀ p H1, H0 p = none → Kp [] H0 H1 → H1 p = some o → R p H1) : ∀ p, H0 p = none → R p (upd H0 p o) := fun p n => h p _ n (Kp.new n) upd_same
theorem tupK {xs : List V} (q : ∀ p H1, H p = none → Kp [] H H1 → H1 p = some (.tup xs) → Q (.ref p) H1) (h : xs.length ≤ 100000 := by simp) : TupN Q xs H := ⟨Nat.le_trans h (by decide), mk q⟩
theorem lstK {xs : List V} (q : ∀ p H1, H p = none → Kp [] H H1 → H1 p = some (.lst xs) → Q (.ref p) H1) (h : xs.length ≤ 100000 := by simp) : LstN Q xs H := ⟨Nat.le_trans h (by decide), mk q⟩
theorem sz {n m : Nat} (h : n ≤ m) (hm : m ≤ 10000000 := by decide) : n ≤ sizeLine := Nat.le_trans h (Nat.le_trans hm (by decide))
theorem szl {n m : Nat} (h : n ≤ m) (hm : m ≤ 10000000 := by decide) : n < sizeLine := Nat.lt_of_le_of_lt (Nat.le_trans h hm) (by decide)
/-! subscripts -/
theorem ixL {p : Addr} {xs : List V} {j : Int} (h : SqL K H p xs) (e : atI xs j = some v) (q : Q v H) : rIxL K (.ref p) (.int j) H Q := ⟨p, xs, j, v, rfl, rfl, h, e, q⟩
theorem ixT {p : Addr} {xs : List V} {j : Int} (h : SqT K H p xs) (e : atI xs j = some v) (q : Q v H) : rIxT K (.ref p) (.int j) H Q := ⟨p, xs, j, v, rfl, rfl, h, e, q⟩
theorem setL {p : Addr} {xs : List V} {k : Int} {j : Nat} {v : V} {q : Hp → Prop} (h : H p = some (.lst xs)) (e : ixN xs.length k = some j) (hq : q (upd H p (.lst (xs.set j v)))) : rSetL (.ref p) (.int k) v H q := ⟨p, xs, k, j, rfl, rfl, h, e, hq⟩
theorem gsub {to ti : TE} {t : TSet} {Q : St → Hp → Prop} (h : to σ H fun o H1 => ti σ H1 fun i H2 => t o i v H2 fun H3 => Q σ H3) : gSub to ti t v σ H Q := h
/-! statements -/
/-- a statement whose ways join ahead of the rest -/
def tSeqJ (t u : TS) : TS := tSeq t u
theorem pss_consJ {X : Cx} {st : Stmt} {rest : List Stmt} {t u : TS} (h1 : PS X st t) (h2 : PSs X rest u) : PSs X (st :: rest) (tSeqJ t u) := pss_cons h1 h2
theorem seqJ (J : St → Hp → Prop) (h2 : ∀ σ H, J σ H → u D σ H) (h1 : ∀ N : St → Hp → Prop, (∀ σ H, J σ H → N σ H) → t { D with nx := N } σ H) : tSeqJ t u D σ H := h1 (u D) h2
theorem seqJ' (h : tSeq t u D σ H) : tSeqJ t u D σ H := h
theorem seq (h : t { D with nx := u D } σ H) : tSeq t u D σ H := h
theorem asg {g : TG} (h : te σ H fun x H1 => g x σ H1 D.nx) : tAsg te g D σ H := h
theorem gname {Q : St → Hp → Prop} {σ' : St} (e : σ.set i (some v) = σ') (h : Q σ' H) : gName i v σ H Q := by
  subst e; exact h
def ParK (i j : Nat) (D : Ends) (σ : St) (vs : List V) (H1 : Hp) : Prop := ∃ v w, vs = [v, w] ∧ D.nx ((σ.set i (some v)).set j (some w)) H1
theorem par {i j : Nat} {a : TA} (h : a σ H (ParK i j D σ)) : tPar i j a D σ H := h
theorem par2 {i j : Nat} {v w : V} {σ' : St} (e : (σ.set i (some v)).set j (some w) = σ') (h : D.nx σ' H) : ParK i j D σ [v, w] H := ⟨v, w, rfl, by rw [e]; exact h⟩
theorem aug {ti : TIp} {x : V} (e : σ[i]? = some (some x)) (h : te σ H fun y H1 => ti x y H1 fun z H2 => D.nx (σ.set i (some z)) H2) : tAug i te ti D σ H := ⟨x, e, h⟩
theorem ipI' {f : Int → Int → Int} {a b : Int} (q : Q (.int (f a b)) H) : ipI f (.int a) (.int b) H Q := ⟨a, b, rfl, rfl, q⟩
theorem ifs {c : TT} (h : c σ H fun b H1 => if b = true then t D σ H1 else u D σ H1) : tIfS c t u D σ H := h
theorem ret (h : te σ H D.rt) : tRet te D σ H := h
theorem retN (h : D.rt .non H) : tRetN D σ H := h
theorem next (h : D.nx σ H) : tNext D σ H := h
theorem brk (h : D.bk σ H) : tBreak D σ H := h
theorem drop (h : te σ H fun _ H1 => D.nx σ H1) : tDrop te D σ H := h
theorem bm {T : String} {r : V → List V → Hp → VK → Prop} {to : TE} {a : TA} (h : to σ H fun x H1 => tyV K T x H1 ∧ a σ H1 fun xs H2 => r x xs H2 Q) : tBM K T r to a σ H Q := h
theorem bm0 {T : String} {r : V → List V → Hp → VK → Prop} {to : TE} (h : to σ H fun x H1 => tyV K T x H1 ∧ r x [] H1 Q) : tBM0 K T r to σ H Q := h
theorem app {l : Addr} {xs : List V} {y : V} (h : H l = some (.lst xs)) (z : xs.length < sizeLine) (q : Q .non (upd H l (.lst (xs ++ [y])))) : rAppend (.ref l) [y] H Q := ⟨l, xs, y, rfl, rfl, h, z, q⟩
theorem tyL {p : Addr} {xs : List V} (h : H p = some (.lst xs)) : tyV K "list" (.ref p) H := .inl ⟨rfl, _, SqL.of h⟩
theorem sfld {tv : TE} {f : Str} (h : tv σ H fun y H1 => ta σ H1 fun x H2 => ∃ a C dx fs, x = .ref a ∧ H2 a = some (.ins C dx fs) ∧ Cls K C ∧ NoAttr K C f ∧ fs.length < 1000 ∧ D.nx σ (upd H2 a (.ins C dx (putF f y fs)))) : sFld K ta tv f D σ H := h
theorem sfldaug {tv : TE} {rd : V → V → Hp → VK → Prop} {f : Str} (h : ta σ H fun x H1 => ∃ a C dx fs v, x = .ref a ∧ H1 a = some (.ins C dx fs) ∧ Cls K C ∧ NoAttr K C f ∧ fs.lookup f = some v ∧ tv σ H1 fun y H2 => rd v y H2 fun z H3 => ∃ dx' fs', H3 a = some (.ins C dx' fs') ∧ fs'.length < 1000 ∧ D.nx σ (upd H3 a (.ins C dx' (putF f z fs')))) : sFldAug K ta tv rd f D σ H := h
theorem radd {a b : Int} (q : Q (.int (a + b)) H) : rAdd (.int a) (.int b) H Q := ⟨a, b, rfl, rfl, q⟩
theorem make {C : Addr} {sp : Sp} {dvs : List V} {E : XK} {a : TA} (h : a σ H fun vs H1 => ∀ x dx, H1 x = none → H1 dx = none → dx ≠ x → sp (.ref x :: (vs ++ dvs)) (upd (upd H1 dx (.own x)) x (.ins C dx [])) (fun v H2 => v = .non ∧ Q (.ref x) H2) E) : tMake C sp dvs E a σ H Q := h
/-- while -/
def WhB (W : Nat → St → Hp → Prop) (m : Nat) (tb : TS) (D : Ends) (σ : St) (H1 : Hp) : Prop := ∃ N : St → Hp → Prop, (∀ σ' H', N σ' H' → ∃ m', m' < m ∧ W m' σ' H') ∧ tb { D with nx := N, ct := N, bk := D.nx } σ H1
theorem whb {W : Nat → St → Hp → Prop} {m : Nat} {tb : TS} (h : tb { D with nx := fun σ' H' => ∃ m', m' < m ∧ W m' σ' H', ct := fun σ' H' => ∃ m', m' < m ∧ W m' σ' H', bk := D.nx } σ H) : WhB W m tb D σ H := ⟨_, fun _ _ z => z, h⟩
theorem wh {c : TT} {tb : TS} (W : Nat → St → Hp → Prop) (m : Nat) (h0 : W m σ H) (hs : ∀ m σ H, W m σ H → c σ H fun b H1 => if b = true then WhB W m tb D σ H1 else D.nx σ H1) : tWhile c tb D σ H := ⟨W, ⟨m, h0⟩, hs⟩
/-- calls by values -/
theorem sumL {a : Addr} {ns : List Int} (h : SqL K H a (ns.map V.int)) (q : Q (.int ns.sum) H) : rSum K [.ref a] H Q := ⟨a, ns, rfl, h, q⟩
theorem gcd {a b : Int} (q : Q (.int ((Nat.gcd a.natAbs b.natAbs : Nat) : Int)) H) : rGcd [.int a, .int b] H Q := ⟨a, b, rfl, q⟩
theorem mkN {C : Addr} {sp : Sp} {Q : XK} (h : ∀ a, H a = none → sp [.ref a] (upd H a (exo a C none)) (fun v H2 => v = .non ∧ H2 a = some (exo a C none) ∧ Q (.ref C) none (del H2 a)) (fun _ _ _ => False)) : Sup.tMkN C sp σ H Q := h
theorem gtup {n : Nat} {t : TGs} {a : Addr} {xs : List V} {Q : St → Hp → Prop} (h : SqT K H a xs) (e : xs.length = n) (q : t xs σ H Q) : gTup K n t (.ref a) σ H Q := ⟨a, xs, rfl, h, e, q⟩
theorem gcons {t : TG} {u : TGs} {v : V} {r : List V} {Q : St → Hp → Prop} (q : t v σ H fun σ' H' => u r σ' H' Q) : gCons t u (v :: r) σ H Q := ⟨v, r, rfl, q⟩
theorem gnil {Q : St → Hp → Prop} (q : Q σ H) : gNil [] σ H Q := ⟨rfl, q⟩
theorem lenL {a : Addr} {xs : List V} (h : SqL K H a xs) (q : Q (.int xs.length) H) : rLenN K [.ref a] H Q := ⟨a, xs, rfl, .inl h, q⟩
theorem lenT {a : Addr} {xs : List V} (h : SqT K H a xs) (q : Q (.int xs.length) H) : rLenN K [.ref a] H Q := ⟨a, xs, rfl, .inr h, q⟩
theorem listL {a : Addr} {xs : List V} (h : SqL K H a xs) (q : ∀ p H1, H p = none → Kp [] H H1 → H1 p = some (.lst xs) → Q (.ref p) H1) : rListN K [.ref a] H Q := ⟨a, xs, rfl, .inl h, mk q⟩
theorem isi {A B : String} {x : V} {b : Bool} (ht : TyX K H x (.type A)) (hk : kitB A B = some b) (q : Q (.bl b) H) : rIsi K [x, .ty B] H Q := ⟨x, _, _, _, b, rfl, .ty _, ht, kit_ty hk, q⟩
theorem isiI {B : String} {a : Int} {b : Bool} (hk : kitB "int" B = some b) (q : Q (.bl b) H) : rIsi K [.int a, .ty B] H Q := isi (.base (.int _)) hk q
theorem atM {ns : List Int} {j : Nat} {x : Int} (h : ns[j]? = some x) : atI (ns.map V.int) (j : Int) = some (.int x) := atI_nat (by rw [List.getElem?_map, h]; rfl)
theorem ixN_nat {n j : Nat} (hj : j < n) : ixN n (j : Int) = some j := by
  unfold ixN
  rw [if_pos (by omega), if_pos (by omega)]
  simp
/-- a comprehension, a loop over range(n), over a list -/
def ForK (g : TG) (tb : TS) (D : Ends) (σ : St) (J : It) (H1 : Hp) : Prop := ∃ W : Nat → Nat → St → Hp → Prop, (∃ m, W 0 m σ H1) ∧ ∀ i m σ H, W i m σ H →
  (J.stop i H ∧ D.nx σ H) ∨ (J.go i H ∧ ∃ N : St → Hp → Prop, (∀ σ' H', N σ' H' → ∃ m', m' < m ∧ W (i + 1) m' σ' H') ∧ ∀ x H', J.yld i H x H' → g x σ H' fun σ2 H2 => tb { D with nx := N, ct := N, bk := D.nx } σ2 H2)
def LcK (g : TG) (tt : TT) (te : TE) (vs : List Nat) (σ : St) (Q : VK) (J : It) (H1 : Hp) : Prop := ∀ D, H1 D = none → ∃ W : Nat → Nat → Hp → Prop, (∃ m, W 0 m (upd H1 D (.lst []))) ∧ ∀ i m H, W i m H →
      (J.stop i H ∧ Q (.ref D) H) ∨ (J.go i H ∧ ∃ Nx : Hp → Prop, (∀ H', Nx H' → ∃ m', m' < m ∧ W (i + 1) m' H') ∧ ∀ x H', J.yld i H x H' → g x (wipe σ vs) H' fun σ2 H2 => wipe σ2 vs = wipe σ vs ∧ tt σ2 H2 fun b H3 => if b = true then te σ2 H3 fun y H4 => ∃ acc, H4 D = some (.lst acc) ∧ acc.length < sizeLine ∧ Nx (upd H4 D (.lst (acc ++ [y]))) else Nx H3)
def Rng1K (R : It → Hp → Prop) (vs : List V) (H1 : Hp) : Prop := ∃ j : Int, vs = [.int j] ∧ -(2 ^ 62) ≤ j ∧ j < 2 ^ 62 ∧ R (Itr 0 j.toNat) H1
def ListK (K : PySem.W.Frag) (R : It → Hp → Prop) (x : V) (H1 : Hp) : Prop := ∃ a, x = .ref a ∧ (∃ xs, SqL K H1 a xs) ∧ R (Itl K a) H1
theorem lc {wi : TI} {g : TG} {tt : TT} {vs : List Nat} (h : wi σ H (LcK g tt te vs σ Q)) : tLc wi g tt te vs σ H Q := h
theorem rng1 {a : TA} {R : It → Hp → Prop} (h : a σ H (Rng1K R)) : iRng1 a σ H R := h
theorem ilist {R : It → Hp → Prop} (h : ta σ H (ListK K R)) : iList K ta σ H R := h
theorem for_ {wi : TI} {g : TG} {tb : TS} (h : wi σ H (ForK g tb D σ)) : tFor wi g tb D σ H := h
/-- what one turn of a comprehension asks -/
def LcT (g : TG) (tt : TT) (te : TE) (vs : List Nat) (σ : St) (D : Addr) (P : Hp → Prop) (x : V) (H1 : Hp) : Prop := g x (wipe σ vs) H1 fun σ2 H2 => wipe σ2 vs = wipe σ vs ∧ tt σ2 H2 fun b H3 => if b = true then te σ2 H3 fun y H4 => ∃ acc, H4 D = some (.lst acc) ∧ acc.length < sizeLine ∧ P (upd H4 D (.lst (acc ++ [y]))) else P H3
theorem lcr {g : TG} {tt : TT} {vs : List Nat} {e : Int} (n : Nat) (he : e = (n : Int)) (hb : n < 4611686018427387904) (Pv : Addr → Nat → Hp → Prop) (h0 : ∀ D H1, H D = none → Kp [] H H1 → H1 D = some (.lst []) → Pv D 0 H1)
    (hs : ∀ D i H1, H D = none → i < n → Pv D i H1 → g (.int (i : Int)) (wipe σ vs) H1 fun σ2 H2 => wipe σ2 vs = wipe σ vs ∧ tt σ2 H2 fun b H3 => if b = true then te σ2 H3 fun y H4 => ∃ acc, H4 D = some (.lst acc) ∧ acc.length < sizeLine ∧ Pv D (i + 1) (upd H4 D (.lst (acc ++ [y]))) else Pv D (i + 1) H3)
    (hd : ∀ D H1, H D = none → Pv D n H1 → Q (.ref D) H1) : Rng1K (LcK g tt te vs σ Q) [.int e] H := by
  subst he
  refine ⟨(n : Int), rfl, by omega, by omega, fun D hD => ?_⟩
  rw [show ((n : Int)).toNat = n by simp]
  refine lc_range (lo := 0) (n := n) (Pv D) (h0 D _ hD (Kp.new hD) upd_same) (fun i H1 hi p => ?_) fun H1 p => hd D H1 hD p
  rw [show (0 : Int) + (i : Int) = (i : Int) by omega]
  exact hs D i H1 hD hi p
theorem lcl {g : TG} {tt : TT} {vs : List Nat} {a : Addr} (xs : List V) (hS : SqL K H a xs) (Pv : Addr → Nat → Hp → Prop) (h0 : ∀ D H1, H D = none → Kp [] H H1 → H1 D = some (.lst []) → Pv D 0 H1)
    (hl : ∀ D i H1, H D = none → i ≤ xs.length → Pv D i H1 → SqL K H1 a xs)
    (hs : ∀ D i x H1, H D = none → xs[i]? = some x → Pv D i H1 → g x (wipe σ vs) H1 fun σ2 H2 => wipe σ2 vs = wipe σ vs ∧ tt σ2 H2 fun b H3 => if b = true then te σ2 H3 fun y H4 => ∃ acc, H4 D = some (.lst acc) ∧ acc.length < sizeLine ∧ Pv D (i + 1) (upd H4 D (.lst (acc ++ [y]))) else Pv D (i + 1) H3)
    (hd : ∀ D H1, H D = none → Pv D xs.length H1 → Q (.ref D) H1) : ListK K (LcK g tt te vs σ Q) (.ref a) H :=
  ⟨a, rfl, ⟨xs, hS⟩, fun D hD => lc_list (K := K) (a := a) (xs := xs) (Pv D) (h0 D _ hD (Kp.new hD) upd_same) (fun i H1 hi p => hl D i H1 hD hi p) (fun i x H1 hx p => hs D i x H1 hD hx p) fun H1 p => hd D H1 hD p⟩
/-- over a tuple -/
def TupK (K : PySem.W.Frag) (R : It → Hp → Prop) (x : V) (H1 : Hp) : Prop := ∃ a, x = .ref a ∧ (∃ xs, SqT K H1 a xs) ∧ R (Itt K a) H1
theorem itup {R : It → Hp → Prop} (h : ta σ H (TupK K R)) : iTup K ta σ H R := h
theorem lct {g : TG} {tt : TT} {vs : List Nat} {a : Addr} (xs : List V) (hS : SqT K H a xs) (Pv : Addr → Nat → Hp → Prop) (h0 : ∀ D H1, H D = none → Kp [] H H1 → H1 D = some (.lst []) → Pv D 0 H1)
    (hl : ∀ D i H1, H D = none → i ≤ xs.length → Pv D i H1 → SqT K H1 a xs)
    (hs : ∀ D i x H1, H D = none → xs[i]? = some x → Pv D i H1 → g x (wipe σ vs) H1 fun σ2 H2 => wipe σ2 vs = wipe σ vs ∧ tt σ2 H2 fun b H3 => if b = true then te σ2 H3 fun y H4 => ∃ acc, H4 D = some (.lst acc) ∧ acc.length < sizeLine ∧ Pv D (i + 1) (upd H4 D (.lst (acc ++ [y]))) else Pv D (i + 1) H3)
    (hd : ∀ D H1, H D = none → Pv D xs.length H1 → Q (.ref D) H1) : TupK K (LcK g tt te vs σ Q) (.ref a) H :=
  ⟨a, rfl, ⟨xs, hS⟩, fun D hD => lc_tup (K := K) (a := a) (xs := xs) (Pv D) (h0 D _ hD (Kp.new hD) upd_same) (fun i H1 hi p => hl D i H1 hD hi p) (fun i x H1 hx p => hs D i x H1 hD hx p) fun H1 p => hd D H1 hD p⟩
theorem allL {a : Addr} {bs : List Bool} (h : SqL K H a (bs.map V.bl)) (q : Q (.bl (bs.all id)) H) : rAll K [.ref a] H Q := ⟨a, bs, rfl, h, q⟩
theorem anyL {a : Addr} {bs : List Bool} (h : SqL K H a (bs.map V.bl)) (q : Q (.bl (bs.any id)) H) : rAny K [.ref a] H Q := ⟨a, bs, rfl, h, q⟩
theorem forr {g : TG} {tb : TS} {e : Int} (n : Nat) (he : e = (n : Int)) (hb : n < 4611686018427387904) (Pv : Nat → St → Hp → Prop) (h0 : Pv 0 σ H)
    (hs : ∀ i σ H, i < n → Pv i σ H → g (.int (i : Int)) σ H fun σ2 H2 => tb { D with nx := Pv (i + 1), ct := Pv (i + 1), bk := D.nx } σ2 H2) (hd : ∀ σ H, Pv n σ H → D.nx σ H) : Rng1K (ForK g tb D σ) [.int e] H := by
  subst he
  refine ⟨(n : Int), rfl, by omega, by omega, ?_⟩
  rw [show ((n : Int)).toNat = n by simp]
  refine for_range (lo := 0) (n := n) Pv h0 (fun i σ H1 hi p => ?_) hd
  rw [show (0 : Int) + (i : Int) = (i : Int) by omega]
  exact hs i σ H1 hi p
theorem forl {g : TG} {tb : TS} {a : Addr} (xs : List V) (hS : SqL K H a xs) (Pv : Nat → St → Hp → Prop) (h0 : Pv 0 σ H) (hl : ∀ i σ H, i ≤ xs.length → Pv i σ H → SqL K H a xs)
    (hs : ∀ i x σ H, xs[i]? = some x → Pv i σ H → g x σ H fun σ2 H2 => tb { D with nx := Pv (i + 1), ct := Pv (i + 1), bk := D.nx } σ2 H2) (hd : ∀ σ H, Pv xs.length σ H → D.nx σ H) : ListK K (ForK g tb D σ) (.ref a) H :=
  ⟨a, rfl, ⟨xs, hS⟩, for_list (K := K) (a := a) (xs := xs) Pv h0 hl hs hd⟩
/-! texts -/
def StrK (R : It → Hp → Prop) (v : V) (H1 : Hp) : Prop := ∃ x, v = .str x ∧ R (Its x) H1
theorem istr {R : It → Hp → Prop} (h : ta σ H (StrK R)) : iStr ta σ H R := h
theorem fors {g : TG} {tb : TS} {x : Str} (Pv : Nat → St → Hp → Prop) (h0 : Pv 0 σ H)
    (hs : ∀ i c σ H, x.cps[i]? = some c → Pv i σ H → g (.str ⟨#[c]⟩) σ H fun σ2 H2 => tb { D with nx := Pv (i + 1), ct := Pv (i + 1), bk := D.nx } σ2 H2) (hd : ∀ σ H, Pv x.cps.size σ H → D.nx σ H) : StrK (ForK g tb D σ) (.str x) H :=
  ⟨x, rfl, for_it walk_str Pv h0 (fun _ _ _ _ _ => trivial) (fun i v σ H H' hi p y => by obtain ⟨rfl, c, hc, rfl⟩ := y; exact hs i c σ _ hc p) hd⟩
theorem lcs {g : TG} {tt : TT} {vs : List Nat} {x : Str} (Pv : Addr → Nat → Hp → Prop) (h0 : ∀ D H1, H D = none → Kp [] H H1 → H1 D = some (.lst []) → Pv D 0 H1)
    (hs : ∀ D i c H1, H D = none → x.cps[i]? = some c → Pv D i H1 → g (.str ⟨#[c]⟩) (wipe σ vs) H1 fun σ2 H2 => wipe σ2 vs = wipe σ vs ∧ tt σ2 H2 fun b H3 => if b = true then te σ2 H3 fun y H4 => ∃ acc, H4 D = some (.lst acc) ∧ acc.length < sizeLine ∧ Pv D (i + 1) (upd H4 D (.lst (acc ++ [y]))) else Pv D (i + 1) H3)
    (hd : ∀ D H1, H D = none → Pv D x.cps.size H1 → Q (.ref D) H1) : StrK (LcK g tt te vs σ Q) (.str x) H :=
  ⟨x, rfl, fun D hD => lc_it walk_str (Pv D) (h0 D _ hD (Kp.new hD) upd_same) (fun _ _ _ _ => trivial) (fun i v H H' hi p y => by obtain ⟨rfl, c, hc, rfl⟩ := y; exact hs D i c _ hD hc p) fun H1 p => hd D H1 hD p⟩
theorem lenS {x : Str} (hz : x.cps.size ≤ 10000000) (q : Q (.int (x.cps.size : Nat)) H) : rLenS [.str x] H Q := ⟨x, rfl, hz, q⟩
/-! enumerate -/
def EnumK (K : PySem.W.Frag) (R : It → Hp → Prop) (vs : List V) (H1 : Hp) : Prop := ∃ a xs, vs = [.ref a] ∧ SqL K H1 a xs ∧ R (Ite K a) H1
theorem ienum {a : TA} {R : It → Hp → Prop} (h : a σ H (EnumK K R)) : iEnum K a σ H R := h
theorem fore {g : TG} {tb : TS} {a : Addr} (xs : List V) (hS : SqL K H a xs) (Pv : Nat → St → Hp → Prop) (h0 : Pv 0 σ H) (hl : ∀ i σ H, i ≤ xs.length → Pv i σ H → SqL K H a xs)
    (hs : ∀ i x σ H H' T, xs[i]? = some x → Pv i σ H → H T = none → Kp [] H H' → H' T = some (.tup [.int (i : Nat), x]) → g (.ref T) σ H' fun σ2 H2 => tb { D with nx := Pv (i + 1), ct := Pv (i + 1), bk := D.nx } σ2 H2) (hd : ∀ σ H, Pv xs.length σ H → D.nx σ H) : EnumK K (ForK g tb D σ) [.ref a] H :=
  ⟨a, xs, rfl, hS, for_it (walk_enum (K := K) (a := a) (xs := xs)) Pv h0 hl (fun i v σ H H' hi p y => by
    obtain ⟨T, x, z, rfl, h1, rfl, h2, h3⟩ := y
    cases h2
    exact hs i z σ H _ T h3 p h1 (Kp.new h1) upd_same) hd⟩
/-! dicts -/
theorem dnew (h : ∀ p H1, H p = none → Kp [] H H1 → H1 p = some (.dK []) → Q (.ref p) H1) : tDNewK σ H Q := mk h
theorem din {ty td : TE} (h : ty σ H fun y H1 => td σ H1 fun x H2 => ∃ a o, x = .ref a ∧ DGet H2 a y o ∧ Q (.bl o.isSome) H2) : tDIn ty td σ H Q := h
theorem dput {td ty tv : TE} (h : tv σ H fun v H1 => td σ H1 fun x H2 => ty σ H2 fun y H3 => ∃ a H4, x = .ref a ∧ DPut H3 a y v H4 ∧ D.nx σ H4) : sDPut td ty tv D σ H := h
theorem dget2 {td ty tx : TE} (h : td σ H fun x H1 => ∃ a, x = .ref a ∧ IsD H1 a ∧ ty σ H1 fun y H2 => tx σ H2 fun z H3 => ∃ o, DGet H3 a y o ∧ Q (o.getD z) H3) : tDGet2 td ty tx σ H Q := h
theorem dget {td ty : TE} (h : td σ H fun x H1 => ty σ H1 fun y H2 => ∃ a v, x = .ref a ∧ DGet H2 a y (some v) ∧ Q v H2) : tDGet td ty σ H Q := h
/-! lists and tuples -/
theorem ixA {p : Addr} {xs : List V} {j : Int} (h : SqL K H p xs ∨ SqT K H p xs) (e : atI xs j = some v) (q : Q v H) : rIx K (.ref p) (.int j) H Q := h.elim (fun h => .inl (ixL h e q)) (fun h => .inr (.inl (ixT h e q)))
theorem lenA {a : Addr} {xs : List V} (h : SqL K H a xs ∨ SqT K H a xs) (q : Q (.int xs.length) H) : rLenN K [.ref a] H Q := ⟨a, xs, rfl, h, q⟩
theorem sl {r : V → Option Int → Option Int → Hp → VK → Prop} {tl th : TO} (h : ta σ H fun x H1 => tl σ H1 fun l H2 => th σ H2 fun u H3 => r x l u H3 Q) : tSl r ta tl th σ H Q := h
theorem slno {Q : Option Int → Hp → Prop} (h : Q none H) : tNoPart σ H Q := h
theorem slpart {Q : Option Int → Hp → Prop} (h : ta σ H fun x H1 => ∃ i, x = .int i ∧ Q (some i) H1) : tPart ta σ H Q := h
theorem bint {i : Int} {q : Int → Prop} (h : q i) : ∃ k, V.int i = .int k ∧ q k := ⟨i, rfl, h⟩
theorem slL {p : Addr} {xs : List V} {lo hi : Option Int} (h : SqL K H p xs) (q : ∀ d H1, H d = none → Kp [] H H1 → H1 d = some (.lst (cutV xs lo hi)) → Q (.ref d) H1) : rSlL K (.ref p) lo hi H Q := ⟨p, xs, rfl, h, mk q⟩
theorem cut_take {xs : List V} {k : Nat} (h : k ≤ xs.length) : cutV xs none (some (k : Int)) = xs.take k := by
  unfold cutV
  rw [HT.sIx_none, HT.sIx_nat, List.drop_zero, Nat.sub_zero, Nat.min_eq_left h]
theorem cut_drop {xs : List V} {k : Nat} (h : k ≤ xs.length) : cutV xs (some (k : Int)) none = xs.drop k := by
  unfold cutV
  rw [HT.sIx_none, HT.sIx_nat, Nat.min_eq_left h]
  exact List.take_of_length_le (by rw [List.length_drop] <;> omega)
theorem inq {neg : Bool} {p : Addr} {xs : List V} (h : SqL K H p xs ∨ SqT K H p xs) (fx : flatV x = true) (fs : xs.all flatV = true) (q : Q (.bl (if neg then !inV x xs else inV x xs)) H) : rIn K neg x (.ref p) H Q := ⟨p, xs, rfl, h, fx, fs, q⟩
theorem inV_strs {a : Str} {l : List Str} : inV (.str a) (l.map V.str) = decide (a ∈ l) := by
  unfold inV
  induction l with
  | nil => simp
  | cons b r ih =>
    rw [List.map_cons, List.any_cons, ih]
    show ((b == a) || _) = _
    by_cases e : b = a
    · subst e; simp
    · have e' : ¬ a = b := fun z => e z.symm
      simp [e, e']
theorem strs_flat {l : List Str} : (l.map V.str).all flatV = true := by simp [flatV]
theorem pop {l : Addr} {xs : List V} {y : V} (h : H l = some (.lst xs)) (e : xs[xs.length - 1]? = some y) (q : Q y (upd H l (.lst xs.dropLast))) : rPop (.ref l) [] H Q := ⟨l, xs, y, rfl, rfl, h, e, q⟩
def LRK (K : PySem.W.Frag) (Q : VK) (x : V) (H1 : Hp) : Prop := ∃ a xs, x = .ref a ∧ SqL K H1 a xs ∧ ∀ p, H1 p = none → Q (.ref p) (upd H1 p (.lst xs.reverse))
theorem listrev (h : ta σ H (LRK K Q)) : RL.tListRev K ta σ H Q := h
theorem lrk {a : Addr} {xs : List V} (hS : SqL K H a xs) (q : ∀ p H1, H p = none → Kp [] H H1 → H1 p = some (.lst xs.reverse) → Q (.ref p) H1) : LRK K Q (.ref a) H := ⟨a, xs, rfl, hS, mk q⟩
theorem popS {l : Addr} {xs : List V} {y : V} (h : H l = some (.lst (xs ++ [y]))) (q : Q y (upd H l (.lst xs))) : rPop (.ref l) [] H Q := ⟨l, _, y, rfl, rfl, h, by simp, by rw [List.dropLast_concat]; exact q⟩
theorem extT {l b : Addr} {xs zs : List V} (h : H l = some (.lst xs)) (h2 : H b = some (.tup zs)) (hz : xs.length + zs.length ≤ 10000000) (q : Q .non (upd H l (.lst (xs ++ zs)))) : RL.rExtT (.ref l) [.ref b] H Q := ⟨l, b, xs, zs, rfl, rfl, h, h2, Nat.le_trans hz (by decide), q⟩
theorem slT {p : Addr} {xs : List V} {k : Nat} (h : SqT K H p xs) (h0 : 0 < k) (h1 : k ≤ xs.length) (q : ∀ d H1, H d = none → Kp [] H H1 → H1 d = some (.tup (xs.drop k)) → Q (.ref d) H1) : rSlT K (.ref p) (some (k : Int)) none H Q := ⟨p, xs, rfl, h, fun z => by
  rw [HT.sIx_nat, Nat.min_eq_left h1] at z
  omega, mk (by rw [cut_drop h1]; exact q)⟩
theorem revl (h : ta σ H (LRK K Q)) : tRevL K ta σ H Q := h
theorem idx {a : Addr} {ys : List V} {y : V} (j : Nat) {z : V} (hS : SqL K H a ys) (fy : flatV y = true) (fs : ys.all flatV = true) (hz : ys[j]? = some z) (hy : eqV z y = true) (hn : ∀ (m : Nat) (z' : V), m < j → ys[m]? = some z' → eqV z' y = false) (q : Q (.int (j : Nat)) H) : rIndex K (.ref a) [y] H Q := ⟨a, ys, y, j, z, rfl, rfl, hS, fy, fs, hz, hy, hn, q⟩
theorem truL {p : Addr} {xs : List V} {q : Bool → Prop} (h : H p = some (.lst xs)) (hq : q (!xs.isEmpty)) : ∃ k, TruV K (.ref p) H k ∧ q k := ⟨_, .inl ⟨xs, lstL h, rfl⟩, hq⟩
theorem glst {n : Nat} {t : TGs} {a : Addr} {xs : List V} {Q : St → Hp → Prop} (h : SqL K H a xs) (e : xs.length = n) (q : t xs σ H Q) : gLst K n t (.ref a) σ H Q := ⟨a, xs, rfl, h, e, q⟩
def rSplitQ : V → List V → Hp → VK → Prop := fun x xs H Q => ∃ a b, x = .str a ∧ xs = [.str b] ∧ (b.length == 0) = false ∧ a.length + 2 ≤ sizeLine ∧ rNewStrs (Txt.split a b) H Q
theorem m_split {X : Cx} : MtR X "str.split" rSplitQ := mt_split
theorem split {a b : Str} (hb : (b.length == 0) = false) (hz : a.length ≤ 10000000) (q : ∀ p H1, H p = none → Kp [] H H1 → H1 p = some (.lst ((Txt.split a b).map V.str)) → Q (.ref p) H1) : rSplitQ (.str a) [.str b] H Q := ⟨a, b, rfl, rfl, hb, Nat.le_trans (Nat.add_le_add_right hz 2) (by decide), mk q⟩
def EnSK (K : PySem.W.Frag) (R : It → Hp → Prop) (vs zs : List V) (H2 : Hp) : Prop := ∃ a xs k, vs = [.ref a] ∧ zs = [.int k] ∧ -(2 ^ 63) ≤ k ∧ k < 2 ^ 63 ∧ SqL K H2 a xs ∧ R (RL.IteS K a k) H2
theorem ienumS {a b : TA} {R : It → Hp → Prop} (h : a σ H fun vs H1 => b σ H1 fun zs H2 => EnSK K R vs zs H2) : RL.iEnumS K a b σ H R := h
theorem walk_enumS {a : Addr} {xs : List V} {k : Int} : Walk (RL.IteS K a k) xs.length (fun H => SqL K H a xs) (YPair (fun i => some (.int (k + (i : Nat)))) (fun i => xs[i]?)) := by
  refine ⟨fun i _ hi q => ⟨xs, xs[i], q, by simp [hi]⟩, fun _ q => ⟨xs, q, rfl⟩, fun i H v H' _ q y => ?_⟩
  obtain ⟨T, x, h1, h2, h3, h4⟩ := y
  exact ⟨T, .int (k + (i : Nat)), x, h1, h2, h3, rfl, h4 xs q⟩
theorem fores {g : TG} {tb : TS} {a : Addr} {k : Int} (xs : List V) (hk0 : -(2 ^ 63) ≤ k) (hk1 : k < 2 ^ 63) (hS : SqL K H a xs) (Pv : Nat → St → Hp → Prop) (h0 : Pv 0 σ H) (hl : ∀ i σ H, i ≤ xs.length → Pv i σ H → SqL K H a xs)
    (hs : ∀ i x σ H H' T, xs[i]? = some x → Pv i σ H → H T = none → Kp [] H H' → H' T = some (.tup [.int (k + (i : Nat)), x]) → g (.ref T) σ H' fun σ2 H2 => tb { D with nx := Pv (i + 1), ct := Pv (i + 1), bk := D.nx } σ2 H2) (hd : ∀ σ H, Pv xs.length σ H → D.nx σ H) : EnSK K (ForK g tb D σ) [.ref a] [.int k] H :=
  ⟨a, xs, k, rfl, rfl, hk0, hk1, hS, for_it (walk_enumS (K := K) (a := a) (xs := xs) (k := k)) Pv h0 hl (fun i v σ H H' hi p y => by
    obtain ⟨T, x, z, rfl, h1, rfl, h2, h3⟩ := y
    cases h2
    exact hs i z σ H _ T h3 p h1 (Kp.new h1) upd_same) hd⟩
/-- an f-string of two parts or more -/
def tJoin (ts : List TE) : TE := fun σ H Q => tJs ts Str.empty σ H fun out H1 => Q (.str out) H1
theorem pe_joinedN {X : Cx} {v1 v2 : Expr} {rest : List Expr} {ts : List TE} {pos : Pos} (h : PJ X (v1 :: v2 :: rest) ts) : PE X (.JoinedStr (v1 :: v2 :: rest) pos) (tJoin ts) := pe_joined h
def rJoinQ (K : PySem.W.Frag) : V → List V → Hp → VK → Prop := fun x xs H Q => ∃ a p, ∃ ys : List Str, x = .str a ∧ xs = [.ref p] ∧ (SqL K H p (ys.map V.str) ∨ SqT K H p (ys.map V.str)) ∧ (ys.map (·.length)).sum + ys.length * a.length ≤ 16777216 ∧ Q (.str (Txt.join a ys)) H
theorem m_join {X : Cx} : MtR X "str.join" (rJoinQ X.K) := mt_join
theorem join {a : Str} {p : Addr} {ys : List Str} (h : SqL K H p (ys.map V.str)) (hz : (ys.map (·.length)).sum + ys.length * a.length ≤ 16777216) (q : Q (.str (Txt.join a ys)) H) : rJoinQ K (.str a) [.ref p] H Q := ⟨a, p, ys, rfl, rfl, .inl h, hz, q⟩
theorem lens_le {n : Nat} : ∀ {ys : List Str}, (∀ y ∈ ys, y.length ≤ n) → (ys.map (·.length)).sum ≤ n * ys.length
  | [], _ => by simp
  | y :: r, h => by
    have h1 := h y (by simp)
    have h2 := lens_le (n := n) (ys := r) fun z hz => h z (by simp [hz])
    rw [List.map_cons, List.sum_cons, List.length_cons, Nat.mul_add]
    omega
theorem mulS {x : Str} {k : Nat} (h1 : 2 ≤ k) (h2 : k ≤ 100000) (h3 : 1 ≤ x.length) (h4 : x.length ≤ 100) (q : Q (.str (RL.repS x k)) H) : RL.rMulS (.str x) (.int (k : Int)) H Q := ⟨x, k, rfl, rfl, h1, h2, h3, h4, q⟩
theorem cat {l b : Addr} {xs zs : List V} (h : H l = some (.lst xs)) (h2 : H b = some (.lst zs)) (hz : xs.length + zs.length ≤ 100000) (q : ∀ p H1, H p = none → Kp [] H H1 → H1 p = some (.lst (xs ++ zs)) → Q (.ref p) H1) : rCat (.ref l) (.ref b) H Q := ⟨l, b, xs, zs, rfl, rfl, h, h2, Nat.le_trans hz (by decide), mk q⟩
end
end Z

/-! ### sorted of data that are alike -/
namespace RL
open PySem PySem.Spec PyProof.Rows L2 PySem.W
def DBs := List (V × PyData)
def rSortedD (K : PySem.W.Frag) : List V → Hp → VK → Prop := fun vs H Q => ∃ (a : Addr) (bs : List (V × PyData)), vs = [V.ref a] ∧ SqL K H a (bs.map Prod.fst) ∧ (∀ b ∈ bs, Dp K H b.1 b.2) ∧ AllAlike (bs.map Prod.snd) ∧ Sortable (bs.map Prod.snd) ∧ (∀ b ∈ bs, b.2.depth ≤ 60) ∧
  ∀ p, H p = none → Q (.ref p) (upd H p (.lst ((bs.mergeSort (dataLe false Prod.snd)).map Prod.fst)))
theorem each_vals : ∀ {bs : List (V × PyData)} {us : List Value}, Vals (bs.map Prod.fst) us → EachIs (fun (v : Value) (b : V × PyData) => RelV b.1 v) us bs
  | [], us, h => by cases h; exact .nil
  | b :: r, us, h => by
    cases h with
    | cons h1 h2 => exact .cons h1 (each_vals h2)
theorem vals_each : ∀ {bs : List (V × PyData)} {us : List Value}, EachIs (fun (v : Value) (b : V × PyData) => RelV b.1 v) us bs → Vals (bs.map Prod.fst) us
  | _, _, .nil => .nil
  | _, _, .cons h1 h2 => .cons h1 (vals_each h2)
theorem each_and {α β : Type} {R : α → β → Prop} {P : β → Prop} {S : α → β → Prop} (hS : ∀ a b, R a b → P b → S a b) : ∀ {as : List α} {bs : List β}, EachIs R as bs → (∀ b ∈ bs, P b) → EachIs S as bs
  | _, _, .nil, _ => .nil
  | _, _, .cons h1 h2, hp => .cons (hS _ _ h1 (hp _ (by simp))) (each_and hS h2 fun b hb => hp b (by simp [hb]))
theorem cr_sortedD {X : Cx} (hu : X.A.units + 64 < cLine) : CallR X (.builtin "sorted") (rSortedD X.K) := by
  intro pins s σ H vs us Q I r h
  obtain ⟨a, bs, rfl, hs, hD, hal, hk, hd, q⟩ := h
  obtain ⟨its, rv, hl, hz⟩ := I.list hs
  rw [Vals.ref1 r]
  have e := each_vals rv
  have er : EachIs (fun (v : Value) (b : V × PyData) => ∃ as, Reads s.heap v b.2 as) its bs := each_and (P := fun (b : V × PyData) => Dp X.K H b.1 b.2) (fun v b h1 h2 => Dp.reads I _ _ _ h2 h1) e hD
  have hL : bs.length ≤ sizeLine := by rw [List.length_map] at hz; exact hz
  refine sorted_data (enc := Prod.snd) (R := fun (v : Value) (b : V × PyData) => RelV b.1 v) hl.isList e er hal hk hL (fun b hb => by have := hd b hb; omega) fun out hlen ho => ?_
  obtain ⟨ep, he'⟩ := PyProof.Rows.sortedAll_at s.heap its out.toArray
  have hlen2 : ((bs.mergeSort (dataLe false Prod.snd)).map Prod.fst).length ≤ sizeLine := by rw [List.length_map, List.length_mergeSort]; exact hL
  exact ⟨.ref _, upd H (s.heap.objs.size + 1) (.lst ((bs.mergeSort (dataLe false Prod.snd)).map Prod.fst)), I.laid (t' := s.toks) (fun _ _ => PyProof.Rows.sortedAll_old) (Nat.le_succ _) ⟨hlen2, out, ep, vals_each ho, he'⟩, rfl, q _ (I.hok.fresh (Nat.le_succ _))⟩
end RL

namespace Z
open PySem L2
/-- what is never reached -/
def tDead : TS := fun _ _ _ => False
theorem ps_dead {X : Cx} {s : Stmt} : PS X s tDead := ⟨fun _ _ _ _ _ _ h => h.elim⟩
theorem u65 {k : Nat} {A : Around} (hr : Room k A) : A.units + 65 < cLine := by have := hr.un; omega
end Z

/-! ### math.lcm -/
namespace RL
open PySem PySem.Spec PyProof.Rows L2
def rLcm : List V → Hp → VK → Prop := fun vs H Q => ∃ a b : Int, vs = [.int a, .int b] ∧ a.natAbs < 2 ^ 6000 ∧ b.natAbs < 2 ^ 6000 ∧ Q (.int ((Nat.lcm a.natAbs b.natAbs : Nat) : Int)) H
theorem lcm_le (a b : Nat) : Nat.lcm a b ≤ a * b := by
  by_cases h : a * b = 0
  · rcases Nat.mul_eq_zero.mp h with h | h <;> subst h <;> simp
  · exact Nat.le_of_dvd (Nat.pos_of_ne_zero h) (Nat.lcm_dvd_mul a b)
theorem cr_lcm {X : Cx} : CallR X (.builtin "math.lcm") rLcm := by
  intro pins s σ H vs us Q I r h
  obtain ⟨a, b, rfl, ha, hb, q⟩ := h
  obtain ⟨t, u, rfl⟩ := Vals.int2 r
  have e1 : Nat.lcm 1 a.natAbs = a.natAbs := by simp
  have hp : (1 : Nat) < 2 ^ 6000 := Nat.one_lt_two_pow (by decide)
  have l1 : (max 1 a.natAbs).log2 ≤ 5999 := PySem.W.mg_log (k := 5999) (Nat.max_lt.mpr ⟨hp, ha⟩)
  have l2 : (max a.natAbs b.natAbs).log2 ≤ 5999 := PySem.W.mg_log (k := 5999) (Nat.max_lt.mpr ⟨ha, hb⟩)
  have hm : a.natAbs * b.natAbs < 2 ^ (6000 + 6000) := by
    rw [Nat.pow_add]
    exact Nat.mul_lt_mul'' ha hb
  have l3 : ((((Nat.lcm 1 a.natAbs).lcm b.natAbs : Nat) : Int)).natAbs.log2 < bitsLine := by
    rw [e1, Int.natAbs_natCast]
    have := PySem.W.mg_log (k := 11999) (Nat.lt_of_le_of_lt (lcm_le a.natAbs b.natAbs) hm)
    exact Nat.lt_of_le_of_lt this (by decide)
  have g := PySem.W.mg_run_lcm a t b u (by omega) (by omega) l3
  rw [e1] at g
  exact call_function_meets PySem.W.MGF.kind_lcm PySem.W.MGF.plain_lcm PySem.W.MGF.entry_lcm (PySem.W.MGF.args_lcm _ _) g.meets ⟨.int _, H, I.tok _, ⟨_, rfl⟩, q⟩
end RL

/-! ### sorted(xs, key=lambda x: x[0]) -/
namespace LamK
open PySem PySem.Spec PyProof.Rows L2 LamX PySem.W
/-- a lambda's names: its parameter alone, and globals -/
structure KeyS (scope : Scope) (x : Str) : Prop where
  kind : scope.kind = .function
  co : scope.isCoroutine = false
  gen : scope.isGenerator = false
  own : ∀ y ∈ scope.names, y.2 ≠ .cell ∧ y.2 ≠ .free
  loc : scope.names.lookup x = some .local
def keySB (scope : Scope) (x : Str) : Bool := decide (scope.kind = .function) && !scope.isCoroutine && !scope.isGenerator && (scope.names.all fun y => !decide (y.2 = .cell) && !decide (y.2 = .free)) && decide (scope.names.lookup x = some .local)
theorem keyS_by {scope : Scope} {x : Str} (h : keySB scope x = true) : KeyS scope x := by
  unfold keySB at h
  simp only [Bool.and_eq_true, Bool.not_eq_true', decide_eq_true_eq, decide_eq_false_iff_not, List.all_eq_true] at h
  obtain ⟨⟨⟨⟨h1, h2⟩, h3⟩, h4⟩, h5⟩ := h
  exact ⟨h1, h2, h3, h4, h5⟩
section
variable {prog : Program} {w : World} {A : Around} {s : Shared}
theorem key_call {f c' t : Addr} {name qual : Str} {params : Arguments} {scope : Scope} {cl : List (Str × Addr)} {pm ctv : Value} {x : Str} {j : Nat} {p1 p2 p3 : Pos} {its : Array Value} {u : Value} {k : PyData}
    (ho : s.heap.get? f = some (PySem.W.kla_obj name qual params (.Subscript (.Name x p1) (.Constant (.int 0) j p2) p3) scope cl pm c' ctv)) (hcd : s.heap.CodeRec (.ref c') qual) (hroom : A.depth < recursionLimit) (hl : s.heap.NoLimit)
    (hbind : bindArgs (PySem.W.kla_fn name qual params (.Subscript (.Name x p1) (.Constant (.int 0) j p2) p3) scope cl pm (.ref c') ctv) ⟨[.ref t], []⟩ = pure [(x, .ref t)])
    (S : KeyS scope x) (ht : IsTup s.heap t its) (hu : its[0]? = some u) (hk : Reads s.heap u k []) (hd : (x == ("__debug__" : Str)) = false) :
    wpAny (model prog w) A (call (.ref f) [.ref t]) (PySem.W.KeyPure k s) (fun _ _ => False) s := by
  refine wpAny_call (codeAny_mono (R := fun r s' => ∃ v, r = .ok (.ret v) ∧ PySem.W.KeyPure k s v s') ?_ fun r s' hq => ?_)
  · refine PySem.W.kla_callFunE hroom ho rfl S.co S.gen rfl hcd ?_
    rw [hbind]
    refine wpAny_pure (wpAny_newFunctionEnv (fun y hy => (S.own y hy).1) (fun y hy => ?_) (fun h₁ hns hsb => ⟨hl.fresh _ hsb, ?_⟩) S.kind)
    · rw [List.mem_singleton.mp hy]
      exact S.loc
    · have kp : ∀ b o, s.heap.get? b = some o → h₁.get? b = some o := fun b o e => hsb.extBut b o (Nat.ne_of_lt (Heap.lt_size e)) (Heap.get?_push_of_some _ e)
      have ht1 : IsTup h₁ t its := ht.keeps kp
      refine PySem.W.kla_codeExpr ?_
      refine Subscript_ ?_
      refine wpAny_Name (wpAny_loadName_local (v := .ref t) S.kind S.loc hns (by simp) ?_) hd
      refine wpAny_Constant_int ?_
      refine subscriptTail_builtinR (x := u) ht1.typeIs slot_tuple_getitem.lookup (getItem_tuple (j := 0) ht1 (by decide) (by decide) (seqIndex_of (by decide) (by have := (Array.getElem?_eq_some_iff.mp hu).1; omega)) hu ⟨rfl, ?_⟩)
      refine ⟨u, rfl, h₁, _, rfl, kp, PyProof.Rows.Reads.keeps kp hk⟩
  · obtain ⟨v, rfl, h⟩ := hq
    exact h
end
mutual
/-- data without lists and dicts -/
def noLst : PyData → Bool
  | .list _ => false
  | .dict _ => false
  | .tuple xs => noLstAll xs
  | .none => true
  | .bool _ => true
  | .int _ => true
  | .str _ => true
def noLstAll : List PyData → Bool
  | [] => true
  | d :: ds => noLst d && noLstAll ds
end
mutual
theorem reads_flat {h : Heap} : ∀ (d : PyData) {v : Value} {as : List Addr}, noLst d = true → Reads h v d as → as = []
  | .none, _, _, _, .none => rfl
  | .bool _, _, _, _, .bool _ => rfl
  | .int _, _, _, _, .int _ _ => rfl
  | .str _, _, _, _, .str _ _ => rfl
  | .list _, _, _, z, _ => by simp [noLst] at z
  | .dict _, _, _, z, _ => by simp [noLst] at z
  | .tuple xs, _, _, z, .tuple _ _ _ r => reads_flatAll xs (by simpa [noLst] using z) r
theorem reads_flatAll {h : Heap} : ∀ (ds : List PyData) {vs : List Value} {as : List Addr}, noLstAll ds = true → ReadsAll h vs ds as → as = []
  | [], _, _, _, .nil => rfl
  | d :: ds, _, _, z, .cons r rs => by
    have z' : noLst d = true ∧ noLstAll ds = true := by simpa [noLstAll] using z
    rw [reads_flat d z'.1 r, reads_flatAll ds z'.2 rs]
    rfl
end
/-- the rows at ts are tuples, the first items the keys ds -/
def KeyRows (K : PySem.W.Frag) (H : Hp) (bs : List (Addr × PyData)) : Prop := ∀ b ∈ bs, noLst b.2 = true ∧ b.2.depth ≤ 60 ∧ ∃ xs y, SqT K H b.1 xs ∧ xs[0]? = some y ∧ Dp K H y b.2
def KeyOk (ds : List PyData) : Prop := PySem.W.AllAlike ds ∧ PySem.W.Sortable ds
def tSortLam (K : PySem.W.Frag) (T : List (Addr × Str)) (t : TA) : TE := fun σ H Q => t σ H fun vs H1 => Tabs T H1 ∧ ∃ (a : Addr) (bs : List (Addr × PyData)), vs = [.ref a] ∧ SqL K H1 a (bs.map fun b => V.ref b.1) ∧ KeyRows K H1 bs ∧ KeyOk (bs.map Prod.snd) ∧
  ∀ H2 l, ExtN H1 H2 → Tabs T H2 → H2 l = none → Q (.ref l) (upd H2 l (.lst ((bs.mergeSort (PySem.W.dataLe false Prod.snd)).map fun b => V.ref b.1)))
theorem ext_rd {H H' : Hp} (e : ExtN H H') {a : Addr} {u : HO} (n : ∀ ps, u ≠ .tbl ps) (h : Rd H a u) : Rd H' a u := by
  rcases h with h | ⟨o, h⟩
  · exact .inl (e _ _ h n)
  · exact .inr ⟨o, e _ _ h fun ps z => by cases z⟩
theorem ext_seq {K : PySem.W.Frag} {H H' : Hp} (e : ExtN H H') {a : Addr} {xs : List V} (h : SqL K H a xs) : SqL K H' a xs := h.elim (fun h => .inl (ext_rd e (fun ps z => by cases z) h)) .inr
theorem ext_tup {K : PySem.W.Frag} {H H' : Hp} (e : ExtN H H') {a : Addr} {xs : List V} (h : SqT K H a xs) : SqT K H' a xs := h.elim (fun h => .inl (ext_rd e (fun ps z => by cases z) h)) .inr
mutual
theorem ext_dp {K : PySem.W.Frag} {H H' : Hp} (e : ExtN H H') : ∀ (d : PyData) {v : V}, Dp K H v d → Dp K H' v d
  | .none, _, .non => .non
  | .bool _, _, .bl b => .bl b
  | .int _, _, .int i => .int i
  | .str _, _, .str x => .str x
  | .list ds, _, .lst h r => .lst (ext_seq e h) (ext_dpAll e ds r)
  | .tuple ds, _, .tup h r => .tup (ext_tup e h) (ext_dpAll e ds r)
theorem ext_dpAll {K : PySem.W.Frag} {H H' : Hp} (e : ExtN H H') : ∀ (ds : List PyData) {vs : List V}, DpAll K H vs ds → DpAll K H' vs ds
  | [], _, .nil => .nil
  | d :: ds, _, .cons h r => .cons (ext_dp e d h) (ext_dpAll e ds r)
end
theorem ext_rows {K : PySem.W.Frag} {H H' : Hp} (e : ExtN H H') {bs : List (Addr × PyData)} (h : KeyRows K H bs) : KeyRows K H' bs := fun b hb => by
  obtain ⟨h1, h2, xs, y, h3, h4, h5⟩ := h b hb
  exact ⟨h1, h2, xs, y, ext_tup e h3, h4, ext_dp e _ h5⟩
theorem vals_refs : ∀ {bs : List (Addr × PyData)} {us : List Value}, Vals (bs.map fun b => V.ref b.1) us → us = bs.map fun b => Value.ref b.1
  | [], _, .nil => rfl
  | b :: bs, _, .cons r rs => by
    obtain rfl : _ = Value.ref b.1 := r
    rw [vals_refs rs]
    rfl
theorem refs_vals : ∀ bs : List (Addr × PyData), Vals (bs.map fun b => V.ref b.1) (bs.map fun b => Value.ref b.1)
  | [] => .nil
  | _ :: bs => .cons rfl (refs_vals bs)
def KeyAt (h : Heap) (v : Value) (b : Addr × PyData) : Prop := v = .ref b.1 ∧ ∃ its u, IsTup h b.1 its ∧ its[0]? = some u ∧ Reads h u b.2 []
theorem each_at {h : Heap} : ∀ {bs : List (Addr × PyData)}, (∀ b ∈ bs, KeyAt h (.ref b.1) b) → PySem.W.EachIs (KeyAt h) (bs.map fun b => Value.ref b.1) bs
  | [], _ => .nil
  | b :: bs, z => .cons (z b (by simp)) (each_at (bs := bs) fun x hx => z x (by simp [hx]))
theorem each_refs {h : Heap} : ∀ {us : List Value} {bs : List (Addr × PyData)}, PySem.W.EachIs (KeyAt h) us bs → us = bs.map fun b => Value.ref b.1
  | _, _, .nil => rfl
  | _, _, .cons r rs => by rw [r.1, each_refs rs]; rfl
theorem pe_sortLam {X : Cx} {T : List (Addr × Str)} {c P : Addr} {e : Expr} {t : TA} {x : Str} {j k : Nat} {params : Arguments} {scope : Scope} {lpos p1 p2 p3 kpos p pos : Pos} (hg : Gl X "sorted") (hm : X.mg "sorted" = none) (ha : PA X [e] t)
    (TB : TabB X.base X.mg c P) (hcode : X.env.code = .ref c) (hmT : (P, X.env.qual ++ "<lambda>") ∈ T) (hu : ∀ q ∈ T, q.1 = P → q.2 = X.env.qual ++ "<lambda>") (hr : Room k X.A) (S : KeyS scope x) (hdef : defaultsOf params X.env = ([], []))
    (hbind : ∀ (q : Str) (cl : List (Str × Addr)) (pm cv ctv v : Value), bindArgs (PySem.W.kla_fn "<lambda>" q params (.Subscript (.Name x p1) (.Constant (.int 0) j p2) p3) scope cl pm cv ctv) ⟨[v], []⟩ = pure [(x, v)])
    (hd : (x == ("__debug__" : Str)) = false := by decide) (hst : starEach [e] X.env = (false, eval e X.env) :: starEach [] X.env := by rfl) :
    PE X (.Call (.Name "sorted" p) [e] [⟨some "key", .Lambda params (.Subscript (.Name x p1) (.Constant (.int 0) j p2) p3) scope lpos, kpos⟩] pos) (tSortLam X.K T t) := by
  refine ⟨fun pins s σ H Q I h => ?_⟩
  refine wpAny_Call_Name_kw (ld_blt I hg hm PyProof.Rows.boot_sorted ?_ (by decide) (by decide))
  refine PyProof.Rows.callWith_kw ?_ (by rw [hst]; rfl) (by rw [hst]; rfl) (by rfl) (by rfl)
  refine thn (ha.run pos pins s σ H _ I h) fun us s1 ⟨vs, H1, I1, r1, q1⟩ => ?_
  obtain ⟨hT, a, bs, rfl, hS, hK, hO, q⟩ := q1
  obtain rfl := Vals.ref1 r1
  show wpAny _ _ (evalAll ((do let v ← eval (.Lambda params (.Subscript (.Name x p1) (.Constant (.int 0) j p2) p3) scope lpos) X.env; standAt pos; pure v) :: [])) _ _ s1
  refine wpAny_evalAll_cons (wpAny_bind (lam_make2 I1 TB hcode hmT hu hT hdef (fun y hy z => absurd z (S.own y hy).2) fun f c' pm ctv H2 s2 I2 eN T2 hf hfn hfr hco => ?_))
  refine wpAny_bind (wpAny_standAt (wpAny_pure ?_))
  refine wpAny_evalAll_nil ?_
  obtain ⟨⟨oc, us, t, hoc, hdc, hvc⟩, _, _⟩ := I2.hok c' _ hco
  have kS := ext_seq eN hS
  have kR := ext_rows eN hK
  obtain ⟨its, rv, hl, hz⟩ := I2.list kS
  obtain rfl := vals_refs rv
  rw [List.length_map] at hz
  have room := hr.dp
  have roomU := hr.un
  have dpt : X.A.in1.in1.depth = X.A.depth := rfl
  have lim := I2.nolimit
  refine PySem.W.sorted_key_data (b := false) (R := KeyAt s2.heap) (bs := bs) (f := .ref f) (fun b : Addr × PyData => b.2) hl.isList (each_at fun b hb => ⟨rfl, ?_⟩) hO.1 hO.2 hz (fun b hb => ?_) (ksk_s1 _ _) (fun _ => ksk_l1 _ _) (fun _ => ksk_t1 _ _) (fun v b ⟨ev, its, u, ht, hu, hk⟩ hb h tk kp => ?_) fun out cc h' tk kp fresh hD hlen eo => ?_
  · obtain ⟨h1, h2, xs, y, h3, h4, h5⟩ := kR b hb
    obtain ⟨its, rv, pt, _⟩ := I2.tuple h3
    obtain ⟨u, hu, ru⟩ := rv.get h4
    obtain ⟨as, rd⟩ := Dp.reads I2 _ _ _ h5 ru
    rw [reads_flat _ h1 rd] at rd
    exact ⟨_, u, pt, by simpa using hu, rd⟩
  · have := (kR b hb).2.1
    omega
  · subst ev
    refine key_call (s := { s2 with heap := h, toks := tk }) (kp _ _ hf) ⟨c', oc, us, t, rfl, kp _ _ hoc, hdc, hvc⟩ (by rw [dpt]; omega) (lim.keeps kp) (hbind _ _ _ _ _ _) S (ht.keeps kp) hu (PyProof.Rows.Reads.keeps kp hk) hd
  · obtain rfl := each_refs eo
    refine ⟨.ref (s2.heap.objs.size + 1), _, I2.laid (t' := tk) kp (Nat.le_succ _) (o := .lst ((bs.mergeSort (PySem.W.dataLe false Prod.snd)).map fun b => V.ref b.1)) ⟨?_, _, cc, refs_vals _, hD⟩, rfl, q _ _ eN T2 (I2.hok.fresh (Nat.le_succ _))⟩
    rw [List.length_map, List.length_mergeSort]
    exact hz
end LamK
namespace LamK
open PySem PySem.Spec PyProof.Rows L2 LamX
/-- a def that makes lambdas: its code object stands at c -/
def CodeFn (K : PySem.W.Frag) (f : Addr) (fd : FuncData) (st : Stmt) (x : Str) (c : Addr) : Prop :=
  ∃ (oc : Value) (od : Option Addr) (kV doc pm : Value) (an : Option Addr) (ct : Value) (osl : Array (Option Value)),
    fd = PySem.W.fnOf x x (defArgs st) (defBody st) (defScope st) .none kV doc pm an (.ref c) ct ∧ K.lookup f = some ⟨oc, od, .func fd, osl⟩ ∧ PySem.W.codeIn K (.ref c) x = true
/-- at l nothing is tracked, but for a table -/
def Nw (H : Hp) (l : Addr) : Prop := ∀ o, H l = some o → ∃ ps, o = .tbl ps
theorem Nw.of {H : Hp} {l : Addr} (h : H l = none) : Nw H l := fun o e => by rw [h] at e; cases e
theorem Nw.back {H H1 : Hp} {l : Addr} (h : Nw H1 l) (e : ExtN H H1) : Nw H l := fun o ho => by
  by_cases z : ∀ ps, o ≠ .tbl ps
  · obtain ⟨ps, q⟩ := h o (e l o ho z)
    exact absurd q (z ps)
  · simp only [Classical.not_forall, Classical.not_not, ne_eq] at z
    exact z
theorem Nw.ne {H : Hp} {l b : Addr} {o : HO} (h : Nw H l) (e : H b = some o) (n : ∀ ps, o ≠ .tbl ps) : b ≠ l := fun z => by
  rw [z] at e
  obtain ⟨ps, q⟩ := h o e
  exact n ps q
/-- what srt asks where the rows are read -/
def SrtK (K : PySem.W.Frag) (T : List (Addr × Str)) (Q : VK) : List V → Hp → Prop := fun vs H1 => Tabs T H1 ∧ ∃ (a : Addr) (bs : List (Addr × PyData)), vs = [.ref a] ∧ SqL K H1 a (bs.map fun b => V.ref b.1) ∧ KeyRows K H1 bs ∧ KeyOk (bs.map Prod.snd) ∧
  ∀ H2 l, ExtN H1 H2 → Tabs T H2 → H2 l = none → Q (.ref l) (upd H2 l (.lst ((bs.mergeSort (PySem.W.dataLe false Prod.snd)).map fun b => V.ref b.1)))
theorem srt {K : PySem.W.Frag} {T : List (Addr × Str)} {t : TA} {σ : L2.St} {H : Hp} {Q : VK} (h : t σ H (SrtK K T Q)) : tSortLam K T t σ H Q := h
theorem tabs_none {T : List (Addr × Str)} {H : Hp} {l : Addr} {o : HO} (t : Tabs T H) (h : H l = none) : Tabs T (upd H l o) := t.ext fun b u e => by rw [upd_ne (fun z => by rw [z, h] at e; cases e)]; exact e
theorem srtK {K : PySem.W.Frag} {T : List (Addr × Str)} {H : Hp} {Q : VK} {a : Addr} {bs : List (Addr × PyData)} (hT : Tabs T H) (hS : SqL K H a (bs.map fun b => V.ref b.1)) (hK : KeyRows K H bs) (hO : KeyOk (bs.map Prod.snd))
    (q : ∀ H3 l, ExtN H H3 → Tabs T H3 → Nw H l → H3 l = some (.lst ((bs.mergeSort (PySem.W.dataLe false Prod.snd)).map fun b => V.ref b.1)) → Q (.ref l) H3) : SrtK K T Q [.ref a] H :=
  ⟨hT, a, bs, rfl, hS, hK, hO, fun H2 l e t n => q _ l (fun b o h z => by
      have h2 := e b o h z
      rw [upd_ne (fun z => by rw [z, n] at h2; cases h2)]
      exact h2) (tabs_none t n) (Nw.back (Nw.of n) e) upd_same⟩
theorem ext_kp {H H' : Hp} (k : Z.Kp [] H H') : ExtN H H' := fun b o h _ => k b o (by simp) h
theorem ext_put {H H1 H2 : Hp} {l : Addr} (e : ExtN H H1) (k : Z.Kp [l] H1 H2) (n : Nw H l) : ExtN H H2 := fun b o h z => k b o (by
  intro y
  exact n.ne h z (List.mem_singleton.mp y)) (e b o h z)
theorem tabs_kp {T : List (Addr × Str)} {H H' : Hp} (t : Tabs T H) (k : Z.Kp [] H H') : Tabs T H' := t.ext fun b o h => k b o (by simp) h
/-- a list at l is written: tables stay -/
theorem tabs_put {T : List (Addr × Str)} {H H' : Hp} {l : Addr} {xs : List V} (t : Tabs T H) (k : Z.Kp [l] H H') (h : H l = some (.lst xs)) : Tabs T H' := fun p hp => by
  obtain ⟨ps, h1, h2, h3⟩ := t p hp
  have at' : ∀ {b : Addr} {o : HO}, H b = some o → o ≠ .lst xs → H' b = some o := fun {b o} e n => k b o (by
    intro y
    rw [List.mem_singleton.mp y, h] at e
    exact n (Option.some.inj e).symm) e
  exact ⟨ps, at' h1 (by simp), h2, fun pos cv hc => let ⟨c, e1, e2⟩ := h3 pos cv hc; ⟨c, e1, at' e2 (by unfold CodeO; simp)⟩⟩
theorem ext_get {H H' : Hp} (e : ExtN H H') {b : Addr} {o : HO} (h : H b = some o) (n : ∀ ps, o ≠ .tbl ps := by intro ps; simp) : H' b = some o := e b o h n
/-- o.m() within a try -/
def tMethX (C : Addr) (m : Str) (sp : Sp) (E : L2.St → XK) (ta : TE) : TE := fun σ H Q => ta σ H fun x H1 => ∃ a dx fs, x = .ref a ∧ H1 a = some (.ins C dx fs) ∧ fs.lookup m = none ∧ sp [x] H1 Q (E σ)
theorem pe_meth0X {X : Cx} {CX : CXT} {k : Nat} {f C : Addr} {fd : FuncData} {ps : List Str} {sp : Sp} {E : L2.St → XK} {m : Str} {pos apos : Pos} {o : Expr} {ta : TE} {pl : Sem Bool} (he : PE X o ta) (c : Cls X.K C) (hm : Meth X.K C m f) (F : FnOk X.prog X.w X.K X.mg X.base CX k f fd ps sp) (hr : Room k X.A) (hb : Binds X.K fd ps []) (hx : ∀ σ, PassesAt CX X σ (E σ))
    (ht : eval (.Call (.Attribute o m apos) [] [] pos) X.env = (do
      let ov ← eval o X.env
      standAt apos.atName
      let (f, first) ← holding [ov] (getMethod ov m pl)
      callWith pos f first (backTo pos (starEach [] X.env)) (backToKw pos (keywordEach [] X.env))) := by rfl) : PE X (.Call (.Attribute o m apos) [] [] pos) (tMethX C m sp E ta) := by
  refine ⟨fun pins s σ H Q I h => PySem.W.methodCall_KW (pl := pl) (thn (he.run pins s σ H _ I h) fun u s1 ⟨x, H1, I1, rx, a, dx, fs, ex, ea, l, q⟩ => ?_) ht⟩
  subst ex
  obtain rfl : u = Value.ref a := rx
  exact getmeth_ok I1 ea c hm l (PySem.W.callWith_K0 (first := [.ref a]) I1.kIn hm.kp (run_fnS (us := [.ref a]) (vs := [.ref a]) F hr hb (hx σ) I1 (.cons rfl .nil) q))
theorem methX {C : Addr} {m : Str} {sp : Sp} {E : L2.St → XK} {ta : TE} {σ : L2.St} {H : Hp} {Q : VK} (h : ta σ H fun x H1 => ∃ a dx fs, x = .ref a ∧ H1 a = some (.ins C dx fs) ∧ fs.lookup m = none ∧ sp [x] H1 Q (E σ)) : tMethX C m sp E ta σ H Q := h
end LamK

/-! ### sorted(xs, key=lambda x: x[0] * 10 ** 30 // max(1, x[1])) -/
namespace LamQ
open PySem PySem.Spec PyProof.Rows L2 LamX PySem.W LamK
abbrev qBody (x : Str) (j0 j1 j10 j30 jm : Nat) (a1 a2 a3 b1 b2 b3 c1 c2 c3 d1 d2 d3 d4 e1 e2 : Pos) : Expr :=
  .BinOp (.BinOp (.Subscript (.Name x a1) (.Constant (.int 0) j0 a2) a3) .Mult (.BinOp (.Constant (.int 10) j10 b1) .Pow (.Constant (.int 30) j30 b2) b3) c1) .FloorDiv
    (.Call (.Name "max" c2) [.Constant (.int 1) jm c3, .Subscript (.Name x d1) (.Constant (.int 1) j1 d2) d3] [] d4) e1
structure KeyQ (scope : Scope) (x : Str) : Prop extends KeyS scope x where
  mx : scope.names.lookup ("max" : Str) = some NameKind.globalImplicit
def keyQB (scope : Scope) (x : Str) : Bool := keySB scope x && decide (scope.names.lookup ("max" : Str) = some NameKind.globalImplicit)
theorem keyQ_by {scope : Scope} {x : Str} (h : keyQB scope x = true) : KeyQ scope x := by
  unfold keyQB at h
  simp only [Bool.and_eq_true, decide_eq_true_eq] at h
  exact ⟨keyS_by h.1, h.2⟩
/-- the key of a row (p, q) -/
def qKey (p q : Int) : Int := (p * 10 ^ 30) / (max 1 q)
section
variable {prog : Program} {w : World} {A : Around} {s : Shared} {E : Value → Shared → Prop}
/-- the heap only grows -/
def Grew (s s' : Shared) : Prop := ∃ h' tk, s' = { s with heap := h', toks := tk } ∧ ∀ b o, s.heap.get? b = some o → h'.get? b = some o
theorem Grew.refl (s : Shared) : Grew s s := ⟨_, _, rfl, fun _ _ e => e⟩
theorem Grew.trans {a b c : Shared} (x : Grew a b) (y : Grew b c) : Grew a c := by
  obtain ⟨h1, t1, rfl, k1⟩ := x
  obtain ⟨h2, t2, rfl, k2⟩ := y
  exact ⟨h2, t2, rfl, fun b o e => k2 b o (k1 b o e)⟩
def IntP (i : Int) (s : Shared) : Value → Shared → Prop := fun v s' => Grew s s' ∧ ∃ t, v = .int i t
theorem sub_int {env : Env} {x : Str} {t : Addr} {its : Array Value} {i : Int} {u : Tok} {j : Nat} {k : Nat} {p1 p2 p3 : Pos} {m : Str → Option Value} {s0 : Shared} (g : Grew s0 s) (hk : env.scope.kind = .function) (hl : env.scope.names.lookup x = some .local) (hns : s.heap.Ns env.locals m)
    (hx : m x = some (.ref t)) (ht : IsTup s.heap t its) (hu : its[j]? = some (.int i u)) (hd : (x == ("__debug__" : Str)) = false) (hj : j < 2) :
    wpAny (model prog w) A (eval (.Subscript (.Name x p1) (.Constant (.int (j : Int)) k p2) p3) env) (IntP i s0) E s := by
  refine Subscript_ ?_
  refine wpAny_Name (wpAny_loadName_local (v := .ref t) hk hl hns hx ?_) hd
  refine wpAny_Constant_int ?_
  refine subscriptTail_builtinR (x := .int i u) ht.typeIs slot_tuple_getitem.lookup (getItem_tuple (j := j) ht (by omega) (by omega) (seqIndex_of (by omega) (by have := (Array.getElem?_eq_some_iff.mp hu).1; omega)) hu ⟨rfl, ?_⟩)
  exact ⟨g.trans ⟨s.heap, _, rfl, fun _ _ e => e⟩, u, rfl⟩
theorem pick_max {q : Int} {a b : Tok} : (if q > 1 then Value.int q a else Value.int 1 b) = Value.int (max 1 q) (if q > 1 then a else b) := by
  by_cases z : q > 1
  · rw [if_pos z, if_pos z, show max 1 q = q by omega]
  · rw [if_neg z, if_neg z, show max 1 q = 1 by omega]
theorem max_pos (q : Int) : 0 < max 1 q := by omega
theorem body_int {env : Env} {x : Str} {t : Addr} {its : Array Value} {p q : Int} {u0 u1 : Tok} {m mg mb : Str → Option Value} {j0 j1 j10 j30 jm : Nat} {a1 a2 a3 b1 b2 b3 c1 c2 c3 d1 d2 d3 d4 e1 e2 : Pos} (hk : env.scope.kind = .function) (hl : env.scope.names.lookup x = some .local) (hmx : env.scope.names.lookup ("max" : Str) = some NameKind.globalImplicit)
    (hns : s.heap.Ns env.locals m) (hx : m x = some (.ref t)) (ht : IsTup s.heap t its) (h0 : its[0]? = some (.int p u0)) (h1 : its[1]? = some (.int q u1)) (hd : (x == ("__debug__" : Str)) = false)
    (hg : s.heap.Ns env.globals mg) (hmm : mg "max" = none) (hb : s.heap.Ns env.builtins mb) (hv : mb "max" = some (.builtin "max")) (hh : A.handled = none) (hM : IntMulOk p (10 ^ 30)) (hD : (max 1 q).natAbs.log2 < 9000) :
    wpAny (model prog w) A (eval (qBody x j0 j1 j10 j30 jm a1 a2 a3 b1 b2 b3 c1 c2 c3 d1 d2 d3 d4 e1 e2) env) (IntP (qKey p q) s) E s := by
  refine wpAny_BinOp (wpAny_BinOp ?_)
  refine wpAny_mono (sub_int (j := 0) (Grew.refl s) hk hl hns hx ht h0 hd (by omega)) (fun v s1 ⟨⟨H1, k1, e1, g1⟩, t1, ev⟩ => ?_) (fun _ _ h => h)
  subst ev
  subst e1
  refine wpAny_BinOp (wpAny_Constant_int (wpAny_Constant_int (PyProof.Rows.pow_int_small (by decide) (by decide) (by decide) ?_)))
  refine PyProof.Rows.mul_int ?_ hM
  refine wpAny_Call_Name_kw (Calls.Name_function_global hk hmx (Calls.loadGlobal_builtin (hg.keeps g1) hmm (hb.keeps g1) hv ?_))
  refine PyProof.Rows.callWith_builtin1 ?_
  show wpAny _ _ (spliced ((false, eval (.Constant (.int 1) jm c3) env) :: (false, eval (.Subscript (.Name x d1) (.Constant (.int 1) j1 d2) d3) env) :: [])) _ _ _
  refine Calls.spliced_cons (wpAny_Constant_int ?_)
  refine Calls.spliced_cons ?_
  refine wpAny_mono (sub_int (j := 1) (Grew.refl _) hk hl (hns.keeps g1) hx (ht.keeps g1) h1 hd (by omega)) (fun v s2 ⟨⟨H2, k2, e2, g2⟩, t2, ev⟩ => ?_) (fun _ _ h => h)
  subst ev
  subst e2
  refine Calls.spliced_nil ?_
  refine max_two_ints hh fun h' tk k => ?_
  rw [pick_max]
  refine PyProof.Rows.floordiv_int (by have := max_pos q; omega) ?_ (.inl (PyProof.noPylong_of_log2 hD))
  have eQ : Int.fdiv (p * 10 ^ Int.toNat 30) (max 1 q) = qKey p q := Int.fdiv_eq_ediv_of_nonneg _ (by have := max_pos q; omega)
  rw [eQ]
  exact ⟨⟨_, _, rfl, fun b o e => k b o (g2 b o (g1 b o e))⟩, _, rfl⟩
theorem key_callQ {f c' t : Addr} {name qual : Str} {params : Arguments} {scope : Scope} {cl : List (Str × Addr)} {pm ctv : Value} {x : Str} {mg mb : Str → Option Value} {j0 j1 j10 j30 jm : Nat} {a1 a2 a3 b1 b2 b3 c1 c2 c3 d1 d2 d3 d4 e1 e2 : Pos} {its : Array Value} {p q : Int} {u0 u1 : Tok}
    (ho : s.heap.get? f = some (PySem.W.kla_obj name qual params (qBody x j0 j1 j10 j30 jm a1 a2 a3 b1 b2 b3 c1 c2 c3 d1 d2 d3 d4 e1 e2) scope cl pm c' ctv)) (hcd : s.heap.CodeRec (.ref c') qual) (hroom : A.depth < recursionLimit) (hl : s.heap.NoLimit)
    (hbind : bindArgs (PySem.W.kla_fn name qual params (qBody x j0 j1 j10 j30 jm a1 a2 a3 b1 b2 b3 c1 c2 c3 d1 d2 d3 d4 e1 e2) scope cl pm (.ref c') ctv) ⟨[.ref t], []⟩ = pure [(x, .ref t)])
    (S : KeyQ scope x) (ht : IsTup s.heap t its) (h0 : its[0]? = some (.int p u0)) (h1 : its[1]? = some (.int q u1)) (hd : (x == ("__debug__" : Str)) = false)
    (hg : s.heap.Ns mainGlobals mg) (hmm : mg "max" = none) (hb : s.heap.Ns builtinsNs mb) (hv : mb "max" = some (.builtin "max")) (hh : A.handled = none) (hM : IntMulOk p (10 ^ 30)) (hD : (max 1 q).natAbs.log2 < 9000) :
    wpAny (model prog w) A (call (.ref f) [.ref t]) (PySem.W.KeyPure (.int (qKey p q)) s) (fun _ _ => False) s := by
  refine wpAny_call (codeAny_mono (R := fun r s' => ∃ v, r = .ok (.ret v) ∧ PySem.W.KeyPure (.int (qKey p q)) s v s') ?_ fun r s' hq => ?_)
  · refine PySem.W.kla_callFunE hroom ho rfl S.co S.gen rfl hcd ?_
    rw [hbind]
    refine wpAny_pure (wpAny_newFunctionEnv (fun y hy => (S.own y hy).1) (fun y hy => ?_) (fun h₁ hns hsb => ⟨hl.fresh _ hsb, ?_⟩) S.kind)
    · rw [List.mem_singleton.mp hy]
      exact S.loc
    · have kp : ∀ b o, s.heap.get? b = some o → h₁.get? b = some o := fun b o e => hsb.extBut b o (Nat.ne_of_lt (Heap.lt_size e)) (Heap.get?_push_of_some _ e)
      refine PySem.W.kla_codeExpr ?_
      refine wpAny_mono (body_int (s := { s with heap := h₁, toks := _ }) S.kind S.loc S.mx hns (by simp) (ht.keeps kp) h0 h1 hd (hg.keeps kp) hmm (hb.keeps kp) hv hh hM hD) (fun v s1 ⟨⟨H1, k1, e1, g1⟩, t1, ev⟩ => ?_) (fun _ _ h => h)
      subst ev
      subst e1
      exact ⟨_, rfl, _, _, rfl, fun b o e => g1 b o (kp b o e), .int _ _⟩
  · obtain ⟨v, rfl, h⟩ := hq
    exact h
end
def KeyRowsQ (K : PySem.W.Frag) (H : Hp) (bs : List (Addr × PyData)) : Prop := ∀ b ∈ bs, ∃ p q, b.2 = .int (qKey p q) ∧ IntMulOk p (10 ^ 30) ∧ (max 1 q).natAbs.log2 < 9000 ∧ SqT K H b.1 [.int p, .int q]
def tSortQ (K : PySem.W.Frag) (T : List (Addr × Str)) (t : TA) : TE := fun σ H Q => t σ H fun vs H1 => Tabs T H1 ∧ ∃ (a : Addr) (bs : List (Addr × PyData)), vs = [.ref a] ∧ SqL K H1 a (bs.map fun b => V.ref b.1) ∧ KeyRowsQ K H1 bs ∧ KeyOk (bs.map Prod.snd) ∧
  ∀ H2 l, ExtN H1 H2 → Tabs T H2 → H2 l = none → Q (.ref l) (upd H2 l (.lst ((bs.mergeSort (PySem.W.dataLe false Prod.snd)).map fun b => V.ref b.1)))
theorem ext_rowsQ {K : PySem.W.Frag} {H H' : Hp} (e : ExtN H H') {bs : List (Addr × PyData)} (h : KeyRowsQ K H bs) : KeyRowsQ K H' bs := fun b hb => by
  obtain ⟨p, q, h1, h2, h3, h4⟩ := h b hb
  exact ⟨p, q, h1, h2, h3, ext_tup e h4⟩
def KeyAtQ (h : Heap) (v : Value) (b : Addr × PyData) : Prop := v = .ref b.1 ∧ ∃ its p q u0 u1, IsTup h b.1 its ∧ its[0]? = some (.int p u0) ∧ its[1]? = some (.int q u1) ∧ b.2 = .int (qKey p q) ∧ IntMulOk p (10 ^ 30) ∧ (max 1 q).natAbs.log2 < 9000
theorem each_atQ {h : Heap} : ∀ {bs : List (Addr × PyData)}, (∀ b ∈ bs, KeyAtQ h (.ref b.1) b) → PySem.W.EachIs (KeyAtQ h) (bs.map fun b => Value.ref b.1) bs
  | [], _ => .nil
  | b :: bs, z => .cons (z b (by simp)) (each_atQ (bs := bs) fun x hx => z x (by simp [hx]))
theorem each_refsQ {h : Heap} : ∀ {us : List Value} {bs : List (Addr × PyData)}, PySem.W.EachIs (KeyAtQ h) us bs → us = bs.map fun b => Value.ref b.1
  | _, _, .nil => rfl
  | _, _, .cons r rs => by rw [r.1, each_refsQ rs]; rfl
theorem pe_sortQ {X : Cx} {T : List (Addr × Str)} {c P : Addr} {e : Expr} {t : TA} {x : Str} {j0 j1 j10 j30 jm k : Nat} {params : Arguments} {scope : Scope} {lpos a1 a2 a3 b1 b2 b3 c1 c2 c3 d1 d2 d3 d4 e1 e2 kpos p pos : Pos} (hg : Gl X "sorted") (hm : X.mg "sorted" = none) (ha : PA X [e] t)
    (TB : TabB X.base X.mg c P) (hcode : X.env.code = .ref c) (hmT : (P, X.env.qual ++ "<lambda>") ∈ T) (hu : ∀ q ∈ T, q.1 = P → q.2 = X.env.qual ++ "<lambda>") (hr : Room k X.A) (S : KeyQ scope x) (hdef : defaultsOf params X.env = ([], []))
    (hbind : ∀ (q : Str) (cl : List (Str × Addr)) (pm cv ctv v : Value), bindArgs (PySem.W.kla_fn "<lambda>" q params (qBody x j0 j1 j10 j30 jm a1 a2 a3 b1 b2 b3 c1 c2 c3 d1 d2 d3 d4 e1 e2) scope cl pm cv ctv) ⟨[v], []⟩ = pure [(x, v)])
    (hmax : X.mg "max" = none) (hcalm : X.calm = true) (hd : (x == ("__debug__" : Str)) = false := by decide) (hst : starEach [e] X.env = (false, eval e X.env) :: starEach [] X.env := by rfl) :
    PE X (.Call (.Name "sorted" p) [e] [⟨some "key", .Lambda params (qBody x j0 j1 j10 j30 jm a1 a2 a3 b1 b2 b3 c1 c2 c3 d1 d2 d3 d4 e1 e2) scope lpos, kpos⟩] pos) (tSortQ X.K T t) := by
  refine ⟨fun pins s σ H Q I h => ?_⟩
  refine wpAny_Call_Name_kw (ld_blt I hg hm PyProof.Rows.boot_sorted ?_ (by decide) (by decide))
  refine PyProof.Rows.callWith_kw ?_ (by rw [hst]; rfl) (by rw [hst]; rfl) (by rfl) (by rfl)
  refine thn (ha.run pos pins s σ H _ I h) fun us s1 ⟨vs, H1, I1, r1, q1⟩ => ?_
  obtain ⟨hT, a, bs, rfl, hS, hK, hO, q⟩ := q1
  obtain rfl := Vals.ref1 r1
  show wpAny _ _ (evalAll ((do let v ← eval (.Lambda params (qBody x j0 j1 j10 j30 jm a1 a2 a3 b1 b2 b3 c1 c2 c3 d1 d2 d3 d4 e1 e2) scope lpos) X.env; standAt pos; pure v) :: [])) _ _ s1
  refine wpAny_evalAll_cons (wpAny_bind (lam_make2 I1 TB hcode hmT hu hT hdef (fun y hy z => absurd z (S.own y hy).2) fun f c' pm ctv H2 s2 I2 eN T2 hf hfn hfr hco => ?_))
  refine wpAny_bind (wpAny_standAt (wpAny_pure ?_))
  refine wpAny_evalAll_nil ?_
  obtain ⟨⟨oc, us, t, hoc, hdc, hvc⟩, _, _⟩ := I2.hok c' _ hco
  have kS := ext_seq eN hS
  have kR := ext_rowsQ eN hK
  obtain ⟨its, rv, hl, hz⟩ := I2.list kS
  obtain rfl := vals_refs rv
  rw [List.length_map] at hz
  have room := hr.dp
  have roomU := hr.un
  have dpt : X.A.in1.in1.depth = X.A.depth := rfl
  have lim := I2.nolimit
  refine PySem.W.sorted_key_data (b := false) (R := KeyAtQ s2.heap) (bs := bs) (f := .ref f) (fun b : Addr × PyData => b.2) hl.isList (each_atQ fun b hb => ⟨rfl, ?_⟩) hO.1 hO.2 hz (fun b hb => ?_) (ksk_s1 _ _) (fun _ => ksk_l1 _ _) (fun _ => ksk_t1 _ _) (fun v b ⟨ev, its, p, q, u0, u1, ht, h0, h1, hk, hM, hD⟩ hb h tk kp => ?_) fun out cc h' tk kp fresh hD hlen eo => ?_
  · obtain ⟨p, q, h1, hM, hD, h3⟩ := kR b hb
    obtain ⟨its, rv, pt, _⟩ := I2.tuple h3
    obtain ⟨v0, v1, rfl, ⟨t0, rfl⟩, ⟨t1, rfl⟩⟩ := vals2 rv
    exact ⟨_, p, q, t0, t1, pt, rfl, rfl, h1, hM, hD⟩
  · obtain ⟨p, q, h1, _⟩ := kR b hb
    rw [h1]
    show _ + 0 < _ 
    omega
  · subst ev
    obtain ⟨mb, hb1, hb2⟩ := I2.mod.blt
    rw [hk]
    refine key_callQ (s := { s2 with heap := h, toks := tk }) (kp _ _ hf) ⟨c', oc, us, t, rfl, kp _ _ hoc, hdc, hvc⟩ (by rw [dpt]; omega) (lim.keeps kp) (hbind _ _ _ _ _ _) S (ht.keeps kp) h0 h1 hd ((I2.mod.glob.keeps I2.bk).keeps kp) hmax ((hb1.keeps I2.bk).keeps kp) ((hb2 "max" (by decide)).trans rfl) (I2.ok.hd hcalm) hM hD
  · obtain rfl := each_refsQ eo
    refine ⟨.ref (s2.heap.objs.size + 1), _, I2.laid (t' := tk) kp (Nat.le_succ _) (o := .lst ((bs.mergeSort (PySem.W.dataLe false Prod.snd)).map fun b => V.ref b.1)) ⟨?_, _, cc, refs_vals _, hD⟩, rfl, q _ _ eN T2 (I2.hok.fresh (Nat.le_succ _))⟩
    rw [List.length_map, List.length_mergeSort]
    exact hz
/-- what srtQ asks where the rows are read -/
def SrtQ (K : PySem.W.Frag) (T : List (Addr × Str)) (Q : VK) : List V → Hp → Prop := fun vs H1 => Tabs T H1 ∧ ∃ (a : Addr) (bs : List (Addr × PyData)), vs = [.ref a] ∧ SqL K H1 a (bs.map fun b => V.ref b.1) ∧ KeyRowsQ K H1 bs ∧ KeyOk (bs.map Prod.snd) ∧
  ∀ H2 l, ExtN H1 H2 → Tabs T H2 → H2 l = none → Q (.ref l) (upd H2 l (.lst ((bs.mergeSort (PySem.W.dataLe false Prod.snd)).map fun b => V.ref b.1)))
theorem srtQ {K : PySem.W.Frag} {T : List (Addr × Str)} {t : TA} {σ : L2.St} {H : Hp} {Q : VK} (h : t σ H (SrtQ K T Q)) : tSortQ K T t σ H Q := h
theorem srtQK {K : PySem.W.Frag} {T : List (Addr × Str)} {H : Hp} {Q : VK} {a : Addr} {bs : List (Addr × PyData)} (hT : Tabs T H) (hS : SqL K H a (bs.map fun b => V.ref b.1)) (hK : KeyRowsQ K H bs) (hO : KeyOk (bs.map Prod.snd))
    (q : ∀ H3 l, ExtN H H3 → Tabs T H3 → Nw H l → H3 l = some (.lst ((bs.mergeSort (PySem.W.dataLe false Prod.snd)).map fun b => V.ref b.1)) → Q (.ref l) H3) : SrtQ K T Q [.ref a] H :=
  ⟨hT, a, bs, rfl, hS, hK, hO, fun H2 l e t n => q _ l (fun b o h z => by
      have h2 := e b o h z
      rw [upd_ne (fun z => by rw [z, n] at h2; cases h2)]
      exact h2) (tabs_none t n) (Nw.back (Nw.of n) e) upd_same⟩
end LamQ


namespace K37
open PySem L2 Z
def topS (i : Nat) : Stmt := PySem.Challenge.pw_samphire_k36_whole_optimal_estimates.main.body.getD i (.Pass ⟨0, 0, 0, 0⟩)
abbrev s_lowest : Stmt := topS 7
abbrev N_lowest : List Str := ["p", "q", "common"]
theorem sc_lowest : FnScope N_lowest ["p", "q"] (defScope s_lowest) := ⟨rfl, rfl, rfl, by decide +kernel, rfl, by decide +kernel, by decide +kernel⟩
abbrev s_plus : Stmt := topS 8
abbrev N_plus : List Str := ["a", "b"]
theorem sc_plus : FnScope N_plus ["a", "b"] (defScope s_plus) := ⟨rfl, rfl, rfl, by decide +kernel, rfl, by decide +kernel, by decide +kernel⟩
abbrev s_minus : Stmt := topS 9
abbrev N_minus : List Str := ["a", "b"]
theorem sc_minus : FnScope N_minus ["a", "b"] (defScope s_minus) := ⟨rfl, rfl, rfl, by decide +kernel, rfl, by decide +kernel, by decide +kernel⟩
abbrev s_times : Stmt := topS 10
abbrev N_times : List Str := ["a", "b"]
theorem sc_times : FnScope N_times ["a", "b"] (defScope s_times) := ⟨rfl, rfl, rfl, by decide +kernel, rfl, by decide +kernel, by decide +kernel⟩
abbrev s_over : Stmt := topS 11
abbrev N_over : List Str := ["a", "b"]
theorem sc_over : FnScope N_over ["a", "b"] (defScope s_over) := ⟨rfl, rfl, rfl, by decide +kernel, rfl, by decide +kernel, by decide +kernel⟩
abbrev s_less : Stmt := topS 12
abbrev N_less : List Str := ["a", "b"]
theorem sc_less : FnScope N_less ["a", "b"] (defScope s_less) := ⟨rfl, rfl, rfl, by decide +kernel, rfl, by decide +kernel, by decide +kernel⟩
abbrev s_sum_of : Stmt := topS 13
abbrev N_sum_of : List Str := ["fractions", "total", "fraction"]
theorem sc_sum_of : FnScope N_sum_of ["fractions"] (defScope s_sum_of) := ⟨rfl, rfl, rfl, by decide +kernel, rfl, by decide +kernel, by decide +kernel⟩
abbrev s_common_denominator : Stmt := topS 14
abbrev N_common_denominator : List Str := ["fractions", "common", "fraction"]
theorem sc_common_denominator : FnScope N_common_denominator ["fractions"] (defScope s_common_denominator) := ⟨rfl, rfl, rfl, by decide +kernel, rfl, by decide +kernel, by decide +kernel⟩
abbrev s_scaled : Stmt := topS 15
abbrev N_scaled : List Str := ["fractions", "factor", "p", "q"]
theorem sc_scaled : FnScope N_scaled ["fractions", "factor"] (defScope s_scaled) := ⟨rfl, rfl, rfl, by decide +kernel, rfl, by decide +kernel, by decide +kernel⟩
abbrev s_weight_of : Stmt := topS 17
abbrev N_weight_of : List Str := ["things", "item"]
theorem sc_weight_of : FnScope N_weight_of ["things"] (defScope s_weight_of) := ⟨rfl, rfl, rfl, by decide +kernel, rfl, by decide +kernel, by decide +kernel⟩
abbrev s_threshold : Stmt := topS 19
abbrev N_threshold : List Str := ["weights", "size", "common", "smaller", "total", "places"]
theorem sc_threshold : FnScope N_threshold ["weights", "size"] (defScope s_threshold) := ⟨rfl, rfl, rfl, by decide +kernel, rfl, by decide +kernel, by decide +kernel⟩
abbrev s_weights_of : Stmt := topS 20
abbrev N_weights_of : List Str := ["things", "item"]
theorem sc_weights_of : FnScope N_weights_of ["things"] (defScope s_weights_of) := ⟨rfl, rfl, rfl, by decide +kernel, rfl, by decide +kernel, by decide +kernel⟩
abbrev s_Optimal_init : Stmt := inClass (topS 21) 0
abbrev N_Optimal_init : List Str := ["self", "size", "parts", "item", "adjusted"]
theorem sc_Optimal_init : FnScope N_Optimal_init ["self", "size", "parts"] (defScope s_Optimal_init) := ⟨rfl, rfl, rfl, by decide +kernel, rfl, by decide +kernel, by decide +kernel⟩
abbrev s_Uniform_init : Stmt := inClass (topS 23) 0
abbrev N_Uniform_init : List Str := ["self", "size", "seen", "kept"]
theorem sc_Uniform_init : FnScope N_Uniform_init ["self", "size", "seen", "kept"] (defScope s_Uniform_init) := ⟨rfl, rfl, rfl, by decide +kernel, rfl, by decide +kernel, by decide +kernel⟩
abbrev s_Weighted_init : Stmt := inClass (topS 25) 0
abbrev N_Weighted_init : List Str := ["self", "size", "total", "kept"]
theorem sc_Weighted_init : FnScope N_Weighted_init ["self", "size", "total", "kept"] (defScope s_Weighted_init) := ⟨rfl, rfl, rfl, by decide +kernel, rfl, by decide +kernel, by decide +kernel⟩
abbrev s_is_whole : Stmt := topS 27
abbrev N_is_whole : List Str := ["sample", "item", "adjusted"]
theorem sc_is_whole : FnScope N_is_whole ["sample"] (defScope s_is_whole) := ⟨rfl, rfl, rfl, by decide +kernel, rfl, by decide +kernel, by decide +kernel⟩
abbrev s_amount_of : Stmt := topS 28
abbrev N_amount_of : List Str := ["amounts", "item"]
theorem sc_amount_of : FnScope N_amount_of ["amounts", "item"] (defScope s_amount_of) := ⟨rfl, rfl, rfl, by decide +kernel, rfl, by decide +kernel, by decide +kernel⟩
abbrev s_true_sum : Stmt := topS 29
abbrev N_true_sum : List Str := ["things", "amounts", "item"]
theorem sc_true_sum : FnScope N_true_sum ["things", "amounts"] (defScope s_true_sum) := ⟨rfl, rfl, rfl, by decide +kernel, rfl, by decide +kernel, by decide +kernel⟩
abbrev s_mean_of : Stmt := topS 30
abbrev N_mean_of : List Str := ["numbers"]
theorem sc_mean_of : FnScope N_mean_of ["numbers"] (defScope s_mean_of) := ⟨rfl, rfl, rfl, by decide +kernel, rfl, by decide +kernel, by decide +kernel⟩
abbrev s_squares_around : Stmt := topS 31
abbrev N_squares_around : List Str := ["numbers", "middle", "differences", "number"]
theorem sc_squares_around : FnScope N_squares_around ["numbers"] (defScope s_squares_around) := ⟨rfl, rfl, rfl, by decide +kernel, rfl, by decide +kernel, by decide +kernel⟩
abbrev s_amounts_of : Stmt := topS 32
abbrev N_amounts_of : List Str := ["things", "amounts", "item"]
theorem sc_amounts_of : FnScope N_amounts_of ["things", "amounts"] (defScope s_amounts_of) := ⟨rfl, rfl, rfl, by decide +kernel, rfl, by decide +kernel, by decide +kernel⟩
abbrev s_uniform_estimate : Stmt := topS 33
abbrev N_uniform_estimate : List Str := ["sample", "amounts", "kept", "found", "factor"]
theorem sc_uniform_estimate : FnScope N_uniform_estimate ["sample", "amounts"] (defScope s_uniform_estimate) := ⟨rfl, rfl, rfl, by decide +kernel, rfl, by decide +kernel, by decide +kernel⟩
abbrev s_ordered_estimates : Stmt := topS 34
abbrev N_ordered_estimates : List Str := ["total", "kept", "amounts", "found", "left", "before", "item", "amount"]
theorem sc_ordered_estimates : FnScope N_ordered_estimates ["total", "kept", "amounts"] (defScope s_ordered_estimates) := ⟨rfl, rfl, rfl, by decide +kernel, rfl, by decide +kernel, by decide +kernel⟩
abbrev s_weighted_estimate : Stmt := topS 35
abbrev N_weighted_estimate : List Str := ["sample", "amounts", "numbers", "many"]
theorem sc_weighted_estimate : FnScope N_weighted_estimate ["sample", "amounts"] (defScope s_weighted_estimate) := ⟨rfl, rfl, rfl, by decide +kernel, rfl, by decide +kernel, by decide +kernel⟩
abbrev s_optimal_estimate : Stmt := topS 36
abbrev N_optimal_estimate : List Str := ["sample", "amounts", "added", "varied", "item", "adjusted", "weight", "share"]
theorem sc_optimal_estimate : FnScope N_optimal_estimate ["sample", "amounts"] (defScope s_optimal_estimate) := ⟨rfl, rfl, rfl, by decide +kernel, rfl, by decide +kernel, by decide +kernel⟩
abbrev s_estimate : Stmt := topS 37
abbrev N_estimate : List Str := ["sample", "amounts"]
theorem sc_estimate : FnScope N_estimate ["sample", "amounts"] (defScope s_estimate) := ⟨rfl, rfl, rfl, by decide +kernel, rfl, by decide +kernel, by decide +kernel⟩
abbrev s_known_optimal : Stmt := topS 38
abbrev N_known_optimal : List Str := ["things", "size", "amounts", "bar", "varied", "item", "weight", "amount"]
theorem sc_known_optimal : FnScope N_known_optimal ["things", "size", "amounts"] (defScope s_known_optimal) := ⟨rfl, rfl, rfl, by decide +kernel, rfl, by decide +kernel, by decide +kernel⟩
abbrev s__law_mix : Stmt := topS 40
abbrev N__law_mix : List Str := ["number", "k"]
theorem sc__law_mix : FnScope N__law_mix ["number", "k"] (defScope s__law_mix) := ⟨rfl, rfl, rfl, by decide +kernel, rfl, by decide +kernel, by decide +kernel⟩
abbrev s__law_numbers : Stmt := topS 41
abbrev N__law_numbers : List Str := ["script", "count", "row", "base", "cell", "rest", "k"]
theorem sc__law_numbers : FnScope N__law_numbers ["script", "count"] (defScope s__law_numbers) := ⟨rfl, rfl, rfl, by decide +kernel, rfl, by decide +kernel, by decide +kernel⟩
abbrev s__law_take : Stmt := topS 42
abbrev N__law_take : List Str := ["row", "bound"]
theorem sc__law_take : FnScope N__law_take ["row", "bound"] (defScope s__law_take) := ⟨rfl, rfl, rfl, by decide +kernel, rfl, by decide +kernel, by decide +kernel⟩
abbrev s__law_low : Stmt := topS 43
abbrev N__law_low : List Str := ["p", "q", "first", "second", "turn"]
theorem sc__law_low : FnScope N__law_low ["p", "q"] (defScope s__law_low) := ⟨rfl, rfl, rfl, by decide +kernel, rfl, by decide +kernel, by decide +kernel⟩
abbrev s__law_plus : Stmt := topS 44
abbrev N__law_plus : List Str := ["one", "other"]
theorem sc__law_plus : FnScope N__law_plus ["one", "other"] (defScope s__law_plus) := ⟨rfl, rfl, rfl, by decide +kernel, rfl, by decide +kernel, by decide +kernel⟩
abbrev s__law_minus : Stmt := topS 45
abbrev N__law_minus : List Str := ["one", "other"]
theorem sc__law_minus : FnScope N__law_minus ["one", "other"] (defScope s__law_minus) := ⟨rfl, rfl, rfl, by decide +kernel, rfl, by decide +kernel, by decide +kernel⟩
abbrev s__law_times : Stmt := topS 46
abbrev N__law_times : List Str := ["one", "other"]
theorem sc__law_times : FnScope N__law_times ["one", "other"] (defScope s__law_times) := ⟨rfl, rfl, rfl, by decide +kernel, rfl, by decide +kernel, by decide +kernel⟩
abbrev s__law_less : Stmt := topS 47
abbrev N__law_less : List Str := ["one", "other"]
theorem sc__law_less : FnScope N__law_less ["one", "other"] (defScope s__law_less) := ⟨rfl, rfl, rfl, by decide +kernel, rfl, by decide +kernel, by decide +kernel⟩
abbrev s__law_sum : Stmt := topS 48
abbrev N__law_sum : List Str := ["rows", "whole", "one"]
theorem sc__law_sum : FnScope N__law_sum ["rows"] (defScope s__law_sum) := ⟨rfl, rfl, rfl, by decide +kernel, rfl, by decide +kernel, by decide +kernel⟩
abbrev s__law_items : Stmt := topS 49
abbrev N__law_items : List Str := ["row", "many", "found", "k", "weight"]
theorem sc__law_items : FnScope N__law_items ["row", "many"] (defScope s__law_items) := ⟨rfl, rfl, rfl, by decide +kernel, rfl, by decide +kernel, by decide +kernel⟩
abbrev s__law_amounts : Stmt := topS 50
abbrev N__law_amounts : List Str := ["row", "things", "amounts", "item"]
theorem sc__law_amounts : FnScope N__law_amounts ["row", "things"] (defScope s__law_amounts) := ⟨rfl, rfl, rfl, by decide +kernel, rfl, by decide +kernel, by decide +kernel⟩
abbrev s__law_true : Stmt := topS 51
abbrev N__law_true : List Str := ["things", "amounts", "item"]
theorem sc__law_true : FnScope N__law_true ["things", "amounts"] (defScope s__law_true) := ⟨rfl, rfl, rfl, by decide +kernel, rfl, by decide +kernel, by decide +kernel⟩
abbrev s__law_moments : Stmt := topS 52
abbrev N__law_moments : List Str := ["rows", "middle", "spread", "number", "chance", "away"]
theorem sc__law_moments : FnScope N__law_moments ["rows"] (defScope s__law_moments) := ⟨rfl, rfl, rfl, by decide +kernel, rfl, by decide +kernel, by decide +kernel⟩
abbrev s__law_lesser : Stmt := topS 53
abbrev N__law_lesser : List Str := ["weight", "limit"]
theorem sc__law_lesser : FnScope N__law_lesser ["weight", "limit"] (defScope s__law_lesser) := ⟨rfl, rfl, rfl, by decide +kernel, rfl, by decide +kernel, by decide +kernel⟩
abbrev s__law_threshold : Stmt := topS 54
abbrev N__law_threshold : List Str := ["weights", "size", "large", "rows", "rest", "found"]
theorem sc__law_threshold : FnScope N__law_threshold ["weights", "size"] (defScope s__law_threshold) := ⟨rfl, rfl, rfl, by decide +kernel, rfl, by decide +kernel, by decide +kernel⟩
abbrev s__law_raised : Stmt := topS 55
abbrev N__law_raised : List Str := ["parts", "limit", "item", "adjusted"]
theorem sc__law_raised : FnScope N__law_raised ["parts", "limit"] (defScope s__law_raised) := ⟨rfl, rfl, rfl, by decide +kernel, rfl, by decide +kernel, by decide +kernel⟩
abbrev s__law_dropped : Stmt := topS 56
abbrev N__law_dropped : List Str := ["chance", "parts", "size", "waiting", "found", "turn", "limit", "k", "gone", "one"]
theorem sc__law_dropped : FnScope N__law_dropped ["chance", "parts", "size"] (defScope s__law_dropped) := ⟨rfl, rfl, rfl, by decide +kernel, rfl, by decide +kernel, by decide +kernel⟩
abbrev s__law_chain : Stmt := topS 57
abbrev N__law_chain : List Str := ["size", "things", "found", "item", "more", "chance", "parts"]
theorem sc__law_chain : FnScope N__law_chain ["size", "things"] (defScope s__law_chain) := ⟨rfl, rfl, rfl, by decide +kernel, rfl, by decide +kernel, by decide +kernel⟩
abbrev s__law_single : Stmt := topS 58
abbrev N__law_single : List Str := ["found", "item", "amount", "rows", "chance", "parts", "added", "other", "adjusted"]
theorem sc__law_single : FnScope N__law_single ["found", "item", "amount"] (defScope s__law_single) := ⟨rfl, rfl, rfl, by decide +kernel, rfl, by decide +kernel, by decide +kernel⟩
abbrev s_law : Stmt := topS 59
abbrev N_law : List Str := ["script", "row", "things", "amounts", "item", "size", "found", "rows", "told", "chance", "parts", "sample", "answer", "middle", "spread", "singles"]
theorem sc_law : FnScope N_law ["script"] (defScope s_law) := ⟨rfl, rfl, rfl, by decide +kernel, rfl, by decide +kernel, by decide +kernel⟩
abbrev s_ZeroDenominator_init : Stmt := inClass (topS 4) 0
abbrev N_ZeroDenominator_init : List Str := ["self", "__class__"]
theorem sc_ZeroDenominator_init : NdefX.NScope N_ZeroDenominator_init ["self"] ["__class__"] (defScope s_ZeroDenominator_init) := NdefX.nscope_by (by decide +kernel)
abbrev NF_ZeroDenominator (cc c : Addr) : NdefX.NF := ⟨"__init__", "ZeroDenominator.__init__", defArgs s_ZeroDenominator_init, defBody s_ZeroDenominator_init, defScope s_ZeroDenominator_init, [(("__class__" : Str), cc)], c⟩
set_option maxHeartbeats 4000000 in
structure T (P : Program) (K : PySem.W.Frag) (mg : Str → Option Value) (base : Heap) where
  a_lowest : Addr
  fd_lowest : FuncData
  F_lowest : Fun K "lowest" "lowest" s_lowest a_lowest fd_lowest
  b_lowest : Binds K fd_lowest ["p", "q"] []
  g_lowest : mg "lowest" = some (.ref a_lowest)
  a_plus : Addr
  fd_plus : FuncData
  F_plus : Fun K "plus" "plus" s_plus a_plus fd_plus
  b_plus : Binds K fd_plus ["a", "b"] []
  g_plus : mg "plus" = some (.ref a_plus)
  a_minus : Addr
  fd_minus : FuncData
  F_minus : Fun K "minus" "minus" s_minus a_minus fd_minus
  b_minus : Binds K fd_minus ["a", "b"] []
  g_minus : mg "minus" = some (.ref a_minus)
  a_times : Addr
  fd_times : FuncData
  F_times : Fun K "times" "times" s_times a_times fd_times
  b_times : Binds K fd_times ["a", "b"] []
  g_times : mg "times" = some (.ref a_times)
  a_over : Addr
  fd_over : FuncData
  F_over : Fun K "over" "over" s_over a_over fd_over
  b_over : Binds K fd_over ["a", "b"] []
  g_over : mg "over" = some (.ref a_over)
  a_less : Addr
  fd_less : FuncData
  F_less : Fun K "less" "less" s_less a_less fd_less
  b_less : Binds K fd_less ["a", "b"] []
  g_less : mg "less" = some (.ref a_less)
  a_sum_of : Addr
  fd_sum_of : FuncData
  F_sum_of : Fun K "sum_of" "sum_of" s_sum_of a_sum_of fd_sum_of
  b_sum_of : Binds K fd_sum_of ["fractions"] []
  g_sum_of : mg "sum_of" = some (.ref a_sum_of)
  a_common_denominator : Addr
  fd_common_denominator : FuncData
  F_common_denominator : Fun K "common_denominator" "common_denominator" s_common_denominator a_common_denominator fd_common_denominator
  b_common_denominator : Binds K fd_common_denominator ["fractions"] []
  g_common_denominator : mg "common_denominator" = some (.ref a_common_denominator)
  a_scaled : Addr
  fd_scaled : FuncData
  F_scaled : Fun K "scaled" "scaled" s_scaled a_scaled fd_scaled
  b_scaled : Binds K fd_scaled ["fractions", "factor"] []
  g_scaled : mg "scaled" = some (.ref a_scaled)
  a_weight_of : Addr
  fd_weight_of : FuncData
  F_weight_of : Fun K "weight_of" "weight_of" s_weight_of a_weight_of fd_weight_of
  b_weight_of : Binds K fd_weight_of ["things"] []
  g_weight_of : mg "weight_of" = some (.ref a_weight_of)
  a_threshold : Addr
  fd_threshold : FuncData
  F_threshold : Fun K "threshold" "threshold" s_threshold a_threshold fd_threshold
  b_threshold : Binds K fd_threshold ["weights", "size"] []
  g_threshold : mg "threshold" = some (.ref a_threshold)
  a_weights_of : Addr
  fd_weights_of : FuncData
  F_weights_of : Fun K "weights_of" "weights_of" s_weights_of a_weights_of fd_weights_of
  b_weights_of : Binds K fd_weights_of ["things"] []
  g_weights_of : mg "weights_of" = some (.ref a_weights_of)
  a_Optimal_init : Addr
  fd_Optimal_init : FuncData
  F_Optimal_init : Fun K "__init__" "Optimal.__init__" s_Optimal_init a_Optimal_init fd_Optimal_init
  b_Optimal_init : Binds K fd_Optimal_init ["self", "size", "parts"] []
  a_Uniform_init : Addr
  fd_Uniform_init : FuncData
  F_Uniform_init : Fun K "__init__" "Uniform.__init__" s_Uniform_init a_Uniform_init fd_Uniform_init
  b_Uniform_init : Binds K fd_Uniform_init ["self", "size", "seen", "kept"] []
  a_Weighted_init : Addr
  fd_Weighted_init : FuncData
  F_Weighted_init : Fun K "__init__" "Weighted.__init__" s_Weighted_init a_Weighted_init fd_Weighted_init
  b_Weighted_init : Binds K fd_Weighted_init ["self", "size", "total", "kept"] []
  a_is_whole : Addr
  fd_is_whole : FuncData
  F_is_whole : Fun K "is_whole" "is_whole" s_is_whole a_is_whole fd_is_whole
  b_is_whole : Binds K fd_is_whole ["sample"] []
  g_is_whole : mg "is_whole" = some (.ref a_is_whole)
  a_amount_of : Addr
  fd_amount_of : FuncData
  F_amount_of : Fun K "amount_of" "amount_of" s_amount_of a_amount_of fd_amount_of
  b_amount_of : Binds K fd_amount_of ["amounts", "item"] []
  g_amount_of : mg "amount_of" = some (.ref a_amount_of)
  a_true_sum : Addr
  fd_true_sum : FuncData
  F_true_sum : Fun K "true_sum" "true_sum" s_true_sum a_true_sum fd_true_sum
  b_true_sum : Binds K fd_true_sum ["things", "amounts"] []
  g_true_sum : mg "true_sum" = some (.ref a_true_sum)
  a_mean_of : Addr
  fd_mean_of : FuncData
  F_mean_of : Fun K "mean_of" "mean_of" s_mean_of a_mean_of fd_mean_of
  b_mean_of : Binds K fd_mean_of ["numbers"] []
  g_mean_of : mg "mean_of" = some (.ref a_mean_of)
  a_squares_around : Addr
  fd_squares_around : FuncData
  F_squares_around : Fun K "squares_around" "squares_around" s_squares_around a_squares_around fd_squares_around
  b_squares_around : Binds K fd_squares_around ["numbers"] []
  g_squares_around : mg "squares_around" = some (.ref a_squares_around)
  a_amounts_of : Addr
  fd_amounts_of : FuncData
  F_amounts_of : Fun K "amounts_of" "amounts_of" s_amounts_of a_amounts_of fd_amounts_of
  b_amounts_of : Binds K fd_amounts_of ["things", "amounts"] []
  g_amounts_of : mg "amounts_of" = some (.ref a_amounts_of)
  a_uniform_estimate : Addr
  fd_uniform_estimate : FuncData
  F_uniform_estimate : Fun K "uniform_estimate" "uniform_estimate" s_uniform_estimate a_uniform_estimate fd_uniform_estimate
  b_uniform_estimate : Binds K fd_uniform_estimate ["sample", "amounts"] []
  g_uniform_estimate : mg "uniform_estimate" = some (.ref a_uniform_estimate)
  a_ordered_estimates : Addr
  fd_ordered_estimates : FuncData
  F_ordered_estimates : Fun K "ordered_estimates" "ordered_estimates" s_ordered_estimates a_ordered_estimates fd_ordered_estimates
  b_ordered_estimates : Binds K fd_ordered_estimates ["total", "kept", "amounts"] []
  g_ordered_estimates : mg "ordered_estimates" = some (.ref a_ordered_estimates)
  a_weighted_estimate : Addr
  fd_weighted_estimate : FuncData
  F_weighted_estimate : Fun K "weighted_estimate" "weighted_estimate" s_weighted_estimate a_weighted_estimate fd_weighted_estimate
  b_weighted_estimate : Binds K fd_weighted_estimate ["sample", "amounts"] []
  g_weighted_estimate : mg "weighted_estimate" = some (.ref a_weighted_estimate)
  a_optimal_estimate : Addr
  fd_optimal_estimate : FuncData
  F_optimal_estimate : Fun K "optimal_estimate" "optimal_estimate" s_optimal_estimate a_optimal_estimate fd_optimal_estimate
  b_optimal_estimate : Binds K fd_optimal_estimate ["sample", "amounts"] []
  g_optimal_estimate : mg "optimal_estimate" = some (.ref a_optimal_estimate)
  a_estimate : Addr
  fd_estimate : FuncData
  F_estimate : Fun K "estimate" "estimate" s_estimate a_estimate fd_estimate
  b_estimate : Binds K fd_estimate ["sample", "amounts"] []
  g_estimate : mg "estimate" = some (.ref a_estimate)
  a_known_optimal : Addr
  fd_known_optimal : FuncData
  F_known_optimal : Fun K "known_optimal" "known_optimal" s_known_optimal a_known_optimal fd_known_optimal
  b_known_optimal : Binds K fd_known_optimal ["things", "size", "amounts"] []
  g_known_optimal : mg "known_optimal" = some (.ref a_known_optimal)
  a__law_mix : Addr
  fd__law_mix : FuncData
  F__law_mix : Fun K "_law_mix" "_law_mix" s__law_mix a__law_mix fd__law_mix
  b__law_mix : Binds K fd__law_mix ["number", "k"] []
  g__law_mix : mg "_law_mix" = some (.ref a__law_mix)
  a__law_numbers : Addr
  fd__law_numbers : FuncData
  F__law_numbers : Fun K "_law_numbers" "_law_numbers" s__law_numbers a__law_numbers fd__law_numbers
  b__law_numbers : Binds K fd__law_numbers ["script", "count"] []
  g__law_numbers : mg "_law_numbers" = some (.ref a__law_numbers)
  a__law_take : Addr
  fd__law_take : FuncData
  F__law_take : Fun K "_law_take" "_law_take" s__law_take a__law_take fd__law_take
  b__law_take : Binds K fd__law_take ["row", "bound"] []
  g__law_take : mg "_law_take" = some (.ref a__law_take)
  a__law_low : Addr
  fd__law_low : FuncData
  F__law_low : Fun K "_law_low" "_law_low" s__law_low a__law_low fd__law_low
  b__law_low : Binds K fd__law_low ["p", "q"] []
  g__law_low : mg "_law_low" = some (.ref a__law_low)
  a__law_plus : Addr
  fd__law_plus : FuncData
  F__law_plus : Fun K "_law_plus" "_law_plus" s__law_plus a__law_plus fd__law_plus
  b__law_plus : Binds K fd__law_plus ["one", "other"] []
  g__law_plus : mg "_law_plus" = some (.ref a__law_plus)
  a__law_minus : Addr
  fd__law_minus : FuncData
  F__law_minus : Fun K "_law_minus" "_law_minus" s__law_minus a__law_minus fd__law_minus
  b__law_minus : Binds K fd__law_minus ["one", "other"] []
  g__law_minus : mg "_law_minus" = some (.ref a__law_minus)
  a__law_times : Addr
  fd__law_times : FuncData
  F__law_times : Fun K "_law_times" "_law_times" s__law_times a__law_times fd__law_times
  b__law_times : Binds K fd__law_times ["one", "other"] []
  g__law_times : mg "_law_times" = some (.ref a__law_times)
  a__law_less : Addr
  fd__law_less : FuncData
  F__law_less : Fun K "_law_less" "_law_less" s__law_less a__law_less fd__law_less
  b__law_less : Binds K fd__law_less ["one", "other"] []
  g__law_less : mg "_law_less" = some (.ref a__law_less)
  a__law_sum : Addr
  fd__law_sum : FuncData
  F__law_sum : Fun K "_law_sum" "_law_sum" s__law_sum a__law_sum fd__law_sum
  b__law_sum : Binds K fd__law_sum ["rows"] []
  g__law_sum : mg "_law_sum" = some (.ref a__law_sum)
  a__law_items : Addr
  fd__law_items : FuncData
  F__law_items : Fun K "_law_items" "_law_items" s__law_items a__law_items fd__law_items
  b__law_items : Binds K fd__law_items ["row", "many"] []
  g__law_items : mg "_law_items" = some (.ref a__law_items)
  a__law_amounts : Addr
  fd__law_amounts : FuncData
  F__law_amounts : Fun K "_law_amounts" "_law_amounts" s__law_amounts a__law_amounts fd__law_amounts
  b__law_amounts : Binds K fd__law_amounts ["row", "things"] []
  g__law_amounts : mg "_law_amounts" = some (.ref a__law_amounts)
  a__law_true : Addr
  fd__law_true : FuncData
  F__law_true : Fun K "_law_true" "_law_true" s__law_true a__law_true fd__law_true
  b__law_true : Binds K fd__law_true ["things", "amounts"] []
  g__law_true : mg "_law_true" = some (.ref a__law_true)
  a__law_moments : Addr
  fd__law_moments : FuncData
  F__law_moments : Fun K "_law_moments" "_law_moments" s__law_moments a__law_moments fd__law_moments
  b__law_moments : Binds K fd__law_moments ["rows"] []
  g__law_moments : mg "_law_moments" = some (.ref a__law_moments)
  a__law_lesser : Addr
  fd__law_lesser : FuncData
  F__law_lesser : Fun K "_law_lesser" "_law_lesser" s__law_lesser a__law_lesser fd__law_lesser
  b__law_lesser : Binds K fd__law_lesser ["weight", "limit"] []
  g__law_lesser : mg "_law_lesser" = some (.ref a__law_lesser)
  a__law_threshold : Addr
  fd__law_threshold : FuncData
  F__law_threshold : Fun K "_law_threshold" "_law_threshold" s__law_threshold a__law_threshold fd__law_threshold
  b__law_threshold : Binds K fd__law_threshold ["weights", "size"] []
  g__law_threshold : mg "_law_threshold" = some (.ref a__law_threshold)
  a__law_raised : Addr
  fd__law_raised : FuncData
  F__law_raised : Fun K "_law_raised" "_law_raised" s__law_raised a__law_raised fd__law_raised
  b__law_raised : Binds K fd__law_raised ["parts", "limit"] []
  g__law_raised : mg "_law_raised" = some (.ref a__law_raised)
  a__law_dropped : Addr
  fd__law_dropped : FuncData
  F__law_dropped : Fun K "_law_dropped" "_law_dropped" s__law_dropped a__law_dropped fd__law_dropped
  b__law_dropped : Binds K fd__law_dropped ["chance", "parts", "size"] []
  g__law_dropped : mg "_law_dropped" = some (.ref a__law_dropped)
  a__law_chain : Addr
  fd__law_chain : FuncData
  F__law_chain : Fun K "_law_chain" "_law_chain" s__law_chain a__law_chain fd__law_chain
  b__law_chain : Binds K fd__law_chain ["size", "things"] []
  g__law_chain : mg "_law_chain" = some (.ref a__law_chain)
  a__law_single : Addr
  fd__law_single : FuncData
  F__law_single : Fun K "_law_single" "_law_single" s__law_single a__law_single fd__law_single
  b__law_single : Binds K fd__law_single ["found", "item", "amount"] []
  g__law_single : mg "_law_single" = some (.ref a__law_single)
  a_law : Addr
  fd_law : FuncData
  F_law : Fun K "law" "law" s_law a_law fd_law
  b_law : Binds K fd_law ["script"] []
  g_law : mg "law" = some (.ref a_law)
  C_Optimal : Addr
  cl_Optimal : Cls K C_Optimal
  mg_Optimal : mg "Optimal" = some (.ref C_Optimal)
  mk_Optimal : Mk K C_Optimal a_Optimal_init
  na_Optimal_size : NoAttr K C_Optimal "size"
  na_Optimal_parts : NoAttr K C_Optimal "parts"
  na_Optimal_kept : NoAttr K C_Optimal "kept"
  C_Uniform : Addr
  cl_Uniform : Cls K C_Uniform
  mg_Uniform : mg "Uniform" = some (.ref C_Uniform)
  mk_Uniform : Mk K C_Uniform a_Uniform_init
  na_Uniform_size : NoAttr K C_Uniform "size"
  na_Uniform_seen : NoAttr K C_Uniform "seen"
  na_Uniform_kept : NoAttr K C_Uniform "kept"
  C_Weighted : Addr
  cl_Weighted : Cls K C_Weighted
  mg_Weighted : mg "Weighted" = some (.ref C_Weighted)
  mk_Weighted : Mk K C_Weighted a_Weighted_init
  na_Weighted_size : NoAttr K C_Weighted "size"
  na_Weighted_total : NoAttr K C_Weighted "total"
  na_Weighted_kept : NoAttr K C_Weighted "kept"
  C_SamphireError : Addr
  mg_SamphireError : mg "SamphireError" = some (.ref C_SamphireError)
  C_ZeroDenominator : Addr
  a_ZeroDenominator_init : Addr
  c_ZeroDenominator : Addr
  cc_ZeroDenominator : Addr
  x_ZeroDenominator : Sup.ExcT P K mg "ZeroDenominator" C_ZeroDenominator a_ZeroDenominator_init c_ZeroDenominator cc_ZeroDenominator
  doc_ZeroDenominator : Value
  pm_ZeroDenominator : Value
  ctv_ZeroDenominator : Value
  oc_ZeroDenominator : Value
  od_ZeroDenominator : Option Addr
  osl_ZeroDenominator : Array (Option Value)
  lk_ZeroDenominator : K.lookup a_ZeroDenominator_init = some ⟨oc_ZeroDenominator, od_ZeroDenominator, .func ((NF_ZeroDenominator cc_ZeroDenominator c_ZeroDenominator).fd doc_ZeroDenominator pm_ZeroDenominator ctv_ZeroDenominator), osl_ZeroDenominator⟩
  hc_ZeroDenominator : PySem.W.codeIn K (.ref c_ZeroDenominator) "ZeroDenominator.__init__" = true
  bx_ZeroDenominator : Binds K ((NF_ZeroDenominator cc_ZeroDenominator c_ZeroDenominator).fd doc_ZeroDenominator pm_ZeroDenominator ctv_ZeroDenominator) ["self"] []
  isa_Uniform : PySem.W.findIn K (.ref C_Uniform) "__class__" = some (some (.builtin "object.__class__"))
  isg_Uniform : PySem.W.specialIn K (.builtin "object.__class__") "__get__" = some (some (.builtin "getset_descriptor.__get__"))
  ist_Uniform : PySem.W.takesIn K (.builtin "object.__class__") = some true
  ism_Uniform : PySem.W.mroIn K C_Uniform (.type "object") = some true
  isa_Weighted : PySem.W.findIn K (.ref C_Weighted) "__class__" = some (some (.builtin "object.__class__"))
  isg_Weighted : PySem.W.specialIn K (.builtin "object.__class__") "__get__" = some (some (.builtin "getset_descriptor.__get__"))
  ist_Weighted : PySem.W.takesIn K (.builtin "object.__class__") = some true
  ism_Weighted : PySem.W.mroIn K C_Weighted (.type "object") = some true
  isa_Optimal : PySem.W.findIn K (.ref C_Optimal) "__class__" = some (some (.builtin "object.__class__"))
  isg_Optimal : PySem.W.specialIn K (.builtin "object.__class__") "__get__" = some (some (.builtin "getset_descriptor.__get__"))
  ist_Optimal : PySem.W.takesIn K (.builtin "object.__class__") = some true
  ism_Optimal : PySem.W.mroIn K C_Optimal (.type "object") = some true
  kit_Weighted_Uniform : PySem.W.kitOne K (.ref C_Weighted) (.ref C_Uniform) = some false
  kit_Optimal_Uniform : PySem.W.kitOne K (.ref C_Optimal) (.ref C_Uniform) = some false
  kit_Optimal_Weighted : PySem.W.kitOne K (.ref C_Optimal) (.ref C_Weighted) = some false
  kit_Uniform_Uniform : PySem.W.kitOne K (.ref C_Uniform) (.ref C_Uniform) = some true
  kit_Weighted_Weighted : PySem.W.kitOne K (.ref C_Weighted) (.ref C_Weighted) = some true
  z_abs : mg "abs" = none
  z_dict : mg "dict" = none
  z_int : mg "int" = none
  z_isinstance : mg "isinstance" = none
  z_len : mg "len" = none
  z_list : mg "list" = none
  z_max : mg "max" = none
  z_min : mg "min" = none
  z_range : mg "range" = none
  z_sorted : mg "sorted" = none
  z_sum : mg "sum" = none
  z_super : mg "super" = none
  z_tuple : mg "tuple" = none
  k_ZERO : Addr
  g_ZERO : mg "ZERO" = some (.ref k_ZERO)
  q_ZERO : ∀ H, SqT K H k_ZERO [.int (0), .int (1)]
  g_gcd : mg "gcd" = some (.builtin "math.gcd")
  g_lcm : mg "lcm" = some (.builtin "math.lcm")
  c__law_threshold : Addr
  P__law_threshold : Addr
  TB__law_threshold : LamX.TabB base mg c__law_threshold P__law_threshold
  L__law_threshold : LamK.CodeFn K a__law_threshold fd__law_threshold s__law_threshold "_law_threshold" c__law_threshold
/-! ### the walk by single steps -/
local macro_rules | `(tactic| walk_at "z1") => `(tactic| first
  | with_reducible refine Z.seq ?_
  | with_reducible refine Z.asg ?_
  | ((with_reducible refine' Z.gname ?zv ?_); (case zv => first | (dsimp only [List.set]; done) | (dsimp only [List.set]; exact rfl)))
  | ((with_reducible refine' Z.var ?zv ?_); (case zv => exact rfl))
  | with_reducible refine Z.cst ?_
  | with_reducible refine Z.op ?_
  | with_reducible refine Z.un ?_
  | with_reducible refine Z.i0 ?_
  | with_reducible refine Z.iU ?_
  | with_reducible refine Z.eqII ?_
  | with_reducible refine Z.neII ?_
  | with_reducible refine Z.eqSS ?_
  | with_reducible refine Z.neSS ?_
  | with_reducible refine Z.eqBB ?_
  | with_reducible refine Z.neBB ?_
  | with_reducible refine Z.bl' ?_
  | with_reducible refine Z.test ?_
  | with_reducible refine Z.tbb ?_
  | with_reducible refine Z.tand ?_
  | with_reducible refine Z.tor ?_
  | with_reducible refine Z.tnot ?_
  | with_reducible refine Z.tyes ?_
  | with_reducible refine Z.andV ?_
  | with_reducible refine Z.orV ?_
  | with_reducible refine Z.notV ?_
  | with_reducible refine Z.ifE ?_
  | with_reducible refine Z.chain ?_
  | with_reducible refine Z.yesB ?_
  | with_reducible refine Z.noB ?_
  | with_reducible refine Z.noNB ?_
  | with_reducible refine Z.yesNB ?_
  | with_reducible refine Z.nil ?_
  | with_reducible refine Z.cons ?_
  | with_reducible refine Z.cb ?_
  | with_reducible refine Z.call ?_
  | with_reducible refine Z.meth ?_
  | with_reducible refine Z.fld ?_
  | with_reducible refine Z.int1 ?_
  | with_reducible refine Z.intb ?_
  | with_reducible refine Z.abs1 ?_
  | with_reducible refine Z.gcons ?_
  | with_reducible refine Z.gnil ?_
  | with_reducible refine Z.gcd ?_
  | ((with_reducible refine' Z.par2 ?zv ?_); (case zv => first | (dsimp only [List.set]; done) | (dsimp only [List.set]; exact rfl)))
  | with_reducible refine Z.isN ?_
  | with_reducible refine Z.notN ?_
  | with_reducible refine Z.inSg ?_
  | with_reducible refine Z.ninSg ?_
  | with_reducible refine Z.tup ?_
  | with_reducible refine Z.lst ?_
  | with_reducible refine Z.gsub ?_
  | with_reducible refine Z.par ?_
  | ((with_reducible refine' Z.aug ?zv ?_); (case zv => exact rfl))
  | with_reducible refine Z.ipI' ?_
  | with_reducible refine Z.ifs ?_
  | with_reducible refine Z.ret ?_
  | with_reducible refine Z.retN ?_
  | with_reducible refine Z.next ?_
  | with_reducible refine Z.brk ?_
  | with_reducible refine Z.drop ?_
  | with_reducible refine Z.bm ?_
  | with_reducible refine Z.bm0 ?_
  | with_reducible refine Z.sfld ?_
  | with_reducible refine Z.sfldaug ?_
  | with_reducible refine Z.radd ?_
  | with_reducible refine Z.make ?_
  | with_reducible refine Z.lc ?_
  | with_reducible refine Z.rng1 ?_
  | with_reducible refine Z.ilist ?_
  | with_reducible refine Z.itup ?_
  | with_reducible refine Z.for_ ?_
  | with_reducible refine Z.istr ?_
  | with_reducible refine Z.ienum ?_
  | with_reducible refine Z.izip ?_
  | with_reducible refine Z.irng2 ?_
  | with_reducible refine LamK.srt ?_
  | with_reducible refine LamQ.srtQ ?_
  | with_reducible refine Z.irevr ?_
  | with_reducible refine Z.rg1 ?_
  | with_reducible refine LamK.methX ?_
  | with_reducible refine Z.augs ?_
  | with_reducible refine Z.ienumS ?_
  | with_reducible refine Z.din ?_
  | with_reducible refine Z.dput ?_
  | with_reducible refine Z.dget ?_
  | with_reducible refine Z.dget2 ?_
  | with_reducible refine Z.sl ?_
  | with_reducible refine Z.slno ?_
  | with_reducible refine Z.slpart ?_
  | with_reducible refine Z.bint ?_
  | with_reducible refine Z.listrev ?_
  | with_reducible refine Z.revl ?_
  | dsimp only)
local macro_rules | `(tactic| walk_at "z0") => `(tactic| ((try simp only [Z.cxK]); (try dsimp only [L2.start, List.map, List.length, Nat.reduceAdd, Nat.reduceSub, List.replicate, List.cons_append, List.nil_append])))
local macro_rules | `(tactic| walk_at "z") => `(tactic| (repeat (walk_at "z1")))

/-! ### the numbers of a law: _law_mix, _law_numbers, _law_take -/
def DrawsAt (H : Hp) (a : Addr) : Prop := ∃ ns : List Int, H a = some (.lst (ns.map V.int))
theorem DrawsAt.ne {H : Hp} {a l : Addr} (d : DrawsAt H a) (h : H l = none) : a ≠ l := ne_of_none d.choose_spec h
theorem DrawsAt.kp {M : List Addr} {H H' : Hp} {a : Addr} (d : DrawsAt H a) (k : Kp M H H') (n : a ∉ M) : DrawsAt H' a := let ⟨ns, h⟩ := d; ⟨ns, k _ _ n h⟩
theorem DrawsAt.kp0 {H H' : Hp} {a : Addr} (d : DrawsAt H a) (k : Kp [] H H') : DrawsAt H' a := d.kp k nin0
theorem DrawsAt.put {H : Hp} {a b : Addr} {o : HO} (d : DrawsAt H a) (n : a ≠ b) : DrawsAt (upd H b o) a := let ⟨ns, h⟩ := d; ⟨ns, (upd_ne n).trans h⟩
def spMix : Sp := fun vs H Q _ => ∃ n k : Int, vs = [.int n, .int k] ∧ ∀ v, 0 ≤ v → v < 998244353 → Q (.int v) H
theorem ok__law_mix {P : Program} {w : World} {K : PySem.W.Frag} {mg : Str → Option Value} {base : Heap} (T : T P K mg base) : FnOk P w K mg base CX0 1 T.a__law_mix T.fd__law_mix ["number", "k"] spMix := by
  refine T.F__law_mix.ok sc__law_mix (fun vs H Q E h => ?_) (fun cdv A outer s H vs Q E hr h => ?_)
  · obtain ⟨n, k, rfl, _⟩ := h
    rfl
  · obtain ⟨n, k, rfl, q⟩ := h
    refine ⟨_, (pss_one (ps_ret (pe_op op_mod (pe_op op_mul (pe_op op_mod (pe_callTy c_int (by rfl) T.z_int (by decide +kernel) (pa_cons (pe_op op_mul (pe_op op_add (pe_op op_add (pe_op op_mod (pe_callTy c_int (by rfl) T.z_int (by decide +kernel) (pa_cons (pv 0) pa_nil)) pe_int) (pe_op op_mul pe_int (pv 1))) pe_int) pe_int) pa_nil)) pe_int) pe_int) pe_int))), ?_⟩
    walk_at "z0"
    walk_at "z"
    refine Z.iC (by decide) ?_
    walk_at "z"
    refine Z.iC (.inl (by decide)) ?_
    walk_at "z"
    refine Z.iC (.inr (by decide)) ?_
    walk_at "z"
    refine Z.iC (by decide) ?_
    walk_at "z"
    refine Z.iC (.inr (by decide)) ?_
    walk_at "z"
    refine Z.iC (by decide) ?_
    walk_at "z"
    exact q _ (Int.emod_nonneg _ (by omega)) (Int.emod_lt_of_pos _ (by omega))
def spTake (K : PySem.W.Frag) : Sp := fun vs H Q _ => ∃ (a : Addr) (m : Int), vs = [.ref a, .int m] ∧ DrawsAt H a ∧ 1 ≤ m ∧ m < 18446744073709551616 ∧ ∀ H' v, 0 ≤ v → v < m → Kp [a] H H' → DrawsAt H' a → Q (.int v) H'
theorem ok__law_take {P : Program} {w : World} {K : PySem.W.Frag} {mg : Str → Option Value} {base : Heap} (T : T P K mg base) : FnOk P w K mg base CX0 1 T.a__law_take T.fd__law_take ["row", "bound"] (spTake K) := by
  refine T.F__law_take.ok sc__law_take (fun vs H Q E h => ?_) (fun cdv A outer s H vs Q E hr h => ?_)
  · obtain ⟨a, m, rfl, _⟩ := h
    rfl
  · obtain ⟨a, m, rfl, ⟨ns, ha⟩, h0, h1, q⟩ := h
    refine ⟨_, (pss_cons (ps_if (pt_not (pt_truth (pv 0) (by intro _; rfl))) (pss_one (ps_ret pe_int)) pss_nil)
      (pss_one (ps_ret (pe_op op_mod (pe_callTy c_int (by rfl) T.z_int (by decide +kernel) (pa_cons (pe_bm0 PySem.F.plainAttrs_list PySem.F.slot_list_pop PySem.F.type_list_pop mt_pop (pv 0)) pa_nil)) (pv 1))))), ?_⟩
    walk_at "z0"
    walk_at "z"
    refine Z.truL ha ?_
    cases hns : ns with
    | nil =>
      walk_at "z"
      exact q _ _ (by omega) (by omega) (Kp.refl _) ⟨ns, ha⟩
    | cons n r =>
      rw [show (!!(List.map V.int (n :: r)).isEmpty) = false from rfl]
      walk_at "z"
      refine ⟨Z.tyL ha, ?_⟩
      have hl : 0 < ns.length := by rw [hns]; simp
      have hi : ns.length - 1 < ns.length := by omega
      refine Z.pop ha (y := .int ns[ns.length - 1]) (by rw [List.length_map, List.getElem?_map, List.getElem?_eq_getElem hi]; rfl) ?_
      walk_at "z"
      refine Z.iC (by omega) ?_
      exact q _ _ (Int.emod_nonneg _ (by omega)) (Int.emod_lt_of_pos _ (by omega)) (Kp.put (by simp)) ⟨ns.dropLast, by rw [upd_same, List.map_dropLast]⟩
def spNumbers (K : PySem.W.Frag) : Sp := fun vs H Q _ => ∃ (c : Addr) (ns : List Int) (n : Nat), vs = [.ref c, .int (n : Int)] ∧ SqL K H c (ns.map V.int) ∧ n ≤ 1000 ∧ (∀ z ∈ ns, Builtin.Int.intBits z ≤ 1048576) ∧ ∀ a H', H a = none → Kp [] H H' → DrawsAt H' a → Q (.ref a) H'
theorem ok__law_numbers {P : Program} {w : World} {K : PySem.W.Frag} {mg : Str → Option Value} {base : Heap} (T : T P K mg base) : FnOk P w K mg base CX0 2 T.a__law_numbers T.fd__law_numbers ["script", "count"] (spNumbers K) := by
  refine T.F__law_numbers.ok sc__law_numbers (fun vs H Q E h => ?_) (fun cdv A outer s H vs Q E hr h => ?_)
  · obtain ⟨c, ns, n, rfl, _⟩ := h
    rfl
  · obtain ⟨c, ns, n, rfl, hS, hn, hb, q⟩ := h
    refine ⟨_, (pss_cons (ps_set (i := 2) sc__law_numbers.nd rfl (by first | exact Or.inl rfl | exact Or.inr rfl) (pe_lst pa_nil))
      (pss_cons (ps_set (i := 3) sc__law_numbers.nd rfl (by first | exact Or.inl rfl | exact Or.inr rfl) pe_int)
      (Z.pss_consJ (ps_for PassesOwn.never rfl (pi_list (pe_slice sl_list (pv 0) po_none (po_some pe_int))) (pg_name (i := 4) sc__law_numbers.nd rfl (by first | exact Or.inl rfl | exact Or.inr rfl)) (pss_cons (ps_set (i := 3) sc__law_numbers.nd rfl (by first | exact Or.inl rfl | exact Or.inr rfl) (pe_op op_add (pv 3) (pv 4)))
      (pss_one (ps_if (pt_cmpR op_ge (pv 4) pe_int (nomark _)) (pss_cons (ps_set (i := 5) sc__law_numbers.nd rfl (by first | exact Or.inl rfl | exact Or.inr rfl) (pv 4))
      (pss_one (ps_for PassesOwn.never rfl (pi_range1 (by rfl) T.z_range (pa_cons pe_int pa_nil)) (pg_name (i := 6) sc__law_numbers.nd rfl (by first | exact Or.inl rfl | exact Or.inr rfl)) (pss_cons (ps_expr (pe_bm PySem.F.plainAttrs_list PySem.F.slot_list_append PySem.F.type_list_append mt_append (pv 2) (pa_cons (pe_op op_mod (pe_callTy c_int (by rfl) T.z_int (by decide +kernel) (pa_cons (pv 5) pa_nil)) pe_int) pa_nil)))
      (pss_cons (ps_set (i := 5) sc__law_numbers.nd rfl (by first | exact Or.inl rfl | exact Or.inr rfl) (pe_op op_fdivW (pv 5) pe_int))
      (pss_one (ps_if (pt_cmpR op_eq (pv 5) pe_int (nomark _)) (pss_one ps_break) pss_nil))))))) (pss_one (ps_expr (pe_bm PySem.F.plainAttrs_list PySem.F.slot_list_append PySem.F.type_list_append mt_append (pv 2) (pa_cons (pe_call (ok__law_mix T) (hr.mono (by decide)) (by rfl) T.g__law_mix T.F__law_mix.kp T.b__law_mix .nil pass0 (pa_cons (pe_call (ok__law_mix T) (hr.mono (by decide)) (by rfl) T.g__law_mix T.F__law_mix.kp T.b__law_mix .nil pass0 (pa_cons (pv 4) (pa_cons pe_int pa_nil))) (pa_cons pe_int pa_nil))) pa_nil))))))))
      (pss_cons (ps_for PassesOwn.never rfl (pi_range1 (by rfl) T.z_range (pa_cons (pv 1) pa_nil)) (pg_name (i := 6) sc__law_numbers.nd rfl (by first | exact Or.inl rfl | exact Or.inr rfl)) (pss_one (ps_expr (pe_bm PySem.F.plainAttrs_list PySem.F.slot_list_append PySem.F.type_list_append mt_append (pv 2) (pa_cons (pe_call (ok__law_mix T) (hr.mono (by decide)) (by rfl) T.g__law_mix T.F__law_mix.kp T.b__law_mix .nil pass0 (pa_cons (pe_call (ok__law_mix T) (hr.mono (by decide)) (by rfl) T.g__law_mix T.F__law_mix.kp T.b__law_mix .nil pass0 (pa_cons (pe_op op_add (pv 3) (pe_op op_mul pe_int (pv 6))) (pa_cons (pe_op op_add pe_int (pv 6)) pa_nil))) (pa_cons pe_int pa_nil))) pa_nil)))))
      (pss_cons (ps_expr (pe_bm0 PySem.F.plainAttrs_list PySem.F.slot_list_reverse PySem.F.type_list_reverse mt_reverse (pv 2)))
      (pss_one (ps_ret (pv 2)))))))), ?_⟩
    walk_at "z0"
    walk_at "z"
    refine Z.lstK (fun D H1 nD k1 e1 => ?_)
    walk_at "z"
    refine Z.seqJ' ?_
    walk_at "z"
    refine Z.slL (k1.seq nin0 hS) (fun S H2 nS k2 e2 => ?_)
    have e2D := k2.get nin0 e1
    have nDS : D ≠ S := ne_of_none e1 nS
    have hcut : ∃ ms : List Int, cutV (ns.map V.int) none (some 63) = ms.map V.int ∧ ms.length ≤ 63 := by
      unfold cutV
      rw [HT.sIx_none, show (63 : Int) = ((63 : Nat) : Int) from rfl, HT.sIx_nat, List.drop_zero, Nat.sub_zero, ← List.map_take]
      exact ⟨_, rfl, by rw [List.length_take]; omega⟩
    obtain ⟨ms, hms, hm63⟩ := hcut
    rw [hms] at e2
    walk_at "z"
    refine Z.forl (ms.map V.int) (lstL e2) (fun i σ' H' => ∃ y4 y5 y6, ∃ (z : Int) (ds : List Int), σ' = [some (.ref c), some (.int (n : Int)), some (.ref D), some (.int z), y4, y5, y6] ∧ Kp [D] H2 H' ∧ H' D = some (.lst (ds.map V.int)) ∧ ds.length ≤ i * 61) ⟨_, _, _, _, [], rfl, Kp.refl _, e2D, by simp⟩ ?_ ?_ ?_
    · rintro i σ' H' hi ⟨y4, y5, y6, z, ds, rfl, k3, e3, hl⟩
      exact lstL (k3.get (nin1 nDS.symm) e2)
    · rintro i x σ' H' hx ⟨y4, y5, y6, z, ds, rfl, k3, e3, hl⟩
      obtain ⟨u, hu, rfl⟩ : ∃ u, ms[i]? = some u ∧ x = .int u := by
        rw [List.getElem?_map] at hx
        cases hw : ms[i]? with
        | none => rw [hw] at hx; cases hx
        | some r => rw [hw] at hx; exact ⟨r, rfl, (Option.some.inj hx).symm⟩
      have hi : i < ms.length := (List.getElem?_eq_some_iff.mp hu).1
      walk_at "z"
      refine Z.ite (fun h2 => ?_) (fun h2 => ?_)
      · walk_at "z"
        refine Z.forr 60 (by rfl) (by decide) (fun j σ' H' => ∃ y6, ∃ (v : Int) (ds : List Int), σ' = [some (.ref c), some (.int (n : Int)), some (.ref D), some (.int (z + u)), some (.int u), some (.int v), y6] ∧ Kp [D] H2 H' ∧ H' D = some (.lst (ds.map V.int)) ∧ ds.length ≤ i * 61 + j) ⟨_, _, ds, rfl, k3, e3, by omega⟩ ?_ ?_
        · rintro j σ' H' hj ⟨y6, v, ds, rfl, k4, e4, hl4⟩
          walk_at "z"
          refine ⟨Z.tyL e4, ?_⟩
          walk_at "z"
          refine Z.iC (by decide) ?_
          walk_at "z"
          refine Z.app e4 (Z.szl (m := 100000) (by rw [List.length_map]; omega)) ?_
          walk_at "z"
          refine Z.iC ⟨by decide, by decide⟩ ?_
          walk_at "z"
          have e5 : upd H' D (.lst (ds.map V.int ++ [.int (v % 840)])) D = some (.lst ((ds ++ [v % 840]).map V.int)) := by rw [upd_same, List.map_append]; rfl
          have k5 : Kp [D] H2 (upd H' D (.lst (ds.map V.int ++ [.int (v % 840)]))) := k4.trans (Kp.put (by simp))
          refine Z.ite (fun h3 => ?_) (fun h3 => ?_)
          · walk_at "z"
            exact ⟨_, _, _, _, ds ++ [v % 840], rfl, k5, e5, by simp; omega⟩
          · walk_at "z"
            exact ⟨_, _, ds ++ [v % 840], rfl, k5, e5, by simp; omega⟩
        · rintro σ' H' ⟨y6, v, ds, rfl, k4, e4, hl4⟩
          exact ⟨_, _, _, _, ds, rfl, k4, e4, by omega⟩
      · walk_at "z"
        refine ⟨Z.tyL e3, ?_⟩
        walk_at "z"
        refine ⟨_, _, rfl, fun v0 _ _ => ?_⟩
        walk_at "z"
        refine ⟨_, _, rfl, fun v1 _ _ => ?_⟩
        walk_at "z"
        refine Z.app e3 (Z.szl (m := 100000) (by rw [List.length_map]; omega)) ?_
        walk_at "z"
        exact ⟨_, _, _, _, ds ++ [v1], rfl, k3.trans (Kp.put (by simp)), by rw [upd_same, List.map_append]; rfl, by simp; omega⟩
    · rintro σ' H' ⟨y4, y5, y6, z, ds, rfl, k3, e3, hl⟩
      rw [List.length_map] at hl
      walk_at "z"
      refine Z.forr n (by rfl) (by omega) (fun j σ' H' => ∃ y6, ∃ (ds : List Int), σ' = [some (.ref c), some (.int (n : Int)), some (.ref D), some (.int z), y4, y5, y6] ∧ Kp [D] H2 H' ∧ H' D = some (.lst (ds.map V.int)) ∧ ds.length ≤ ms.length * 61 + j) ⟨_, ds, rfl, k3, e3, by omega⟩ ?_ ?_
      · rintro j σ' H' hj ⟨y6, ds, rfl, k4, e4, hl4⟩
        walk_at "z"
        refine ⟨Z.tyL e4, ?_⟩
        walk_at "z"
        refine Z.iC (.inl (by decide)) ?_
        walk_at "z"
        refine ⟨_, _, rfl, fun v0 _ _ => ?_⟩
        walk_at "z"
        refine ⟨_, _, rfl, fun v1 _ _ => ?_⟩
        walk_at "z"
        refine Z.app e4 (Z.szl (m := 100000) (by rw [List.length_map]; omega)) ?_
        walk_at "z"
        exact ⟨_, ds ++ [v1], rfl, k4.trans (Kp.put (by simp)), by rw [upd_same, List.map_append]; rfl, by simp; omega⟩
      · rintro σ' H' ⟨y6, ds, rfl, k4, e4, hl4⟩
        walk_at "z"
        refine ⟨Z.tyL e4, ?_⟩
        refine ⟨D, _, rfl, rfl, e4, ?_⟩
        walk_at "z"
        have nSD : H1 D = none → False := fun z => by rw [e1] at z; cases z
        refine q D _ nD ?_ ⟨ds.reverse, by rw [upd_same, List.map_reverse]⟩
        exact ((k1.trans k2).then1 k4 nD).mut nD rfl

/-! ### items of a law: _law_name, _law_items -/
theorem mem_append_one {α : Type} {P : α → Prop} {l : List α} {x : α} (h : ∀ n ∈ l, P n) (hx : P x) : ∀ n ∈ l ++ [x], P n := fun n hn => by
  rcases List.mem_append.mp hn with h1 | h1
  · exact h n h1
  · rw [List.mem_singleton.mp h1]; exact hx
theorem mem_set_of {α : Type} {P : α → Prop} {l : List α} {j : Nat} {x : α} (h : ∀ n ∈ l, P n) (hx : P x) : ∀ n ∈ l.set j x, P n := fun n hn => by
  rcases List.mem_or_eq_of_mem_set hn with h1 | h1
  · exact h n h1
  · rw [h1]; exact hx
structure Row where
  k : Str
  g : Str
  w : Int
  m : Int
def Row.vs (r : Row) : List V := [.str r.k, .str r.g, .int r.w, .int r.m]
def RowAt (H : Hp) (p : Addr) (r : Row) : Prop := H p = some (.tup r.vs)
def RowsAt (H : Hp) (ps : List (Addr × Row)) : Prop := ∀ x ∈ ps, RowAt H x.1 x.2
def refs (ps : List (Addr × Row)) : List V := ps.map fun x => V.ref x.1
theorem refs_len (ps : List (Addr × Row)) : (refs ps).length = ps.length := by unfold refs; rw [List.length_map]
theorem refs_at {ps : List (Addr × Row)} {i : Nat} {x : Addr × Row} (h : ps[i]? = some x) : (refs ps)[i]? = some (.ref x.1) := by unfold refs; rw [List.getElem?_map, h]; rfl
theorem refs_of {ps : List (Addr × Row)} {i : Nat} {v : V} (h : (refs ps)[i]? = some v) : ∃ x, ps[i]? = some x ∧ v = .ref x.1 := by
  unfold refs at h
  rw [List.getElem?_map] at h
  cases e : ps[i]? with
  | none => rw [e] at h; cases h
  | some x => rw [e] at h; exact ⟨x, rfl, (Option.some.inj h).symm⟩
theorem refs_snoc (ps : List (Addr × Row)) (x : Addr × Row) : refs (ps ++ [x]) = refs ps ++ [.ref x.1] := by unfold refs; rw [List.map_append]; rfl
theorem RowsAt.kp {M : List Addr} {H H' : Hp} {ps : List (Addr × Row)} (r : RowsAt H ps) (k : Kp M H H') (n : ∀ x ∈ M, ∃ xs, H x = some (.lst xs)) : RowsAt H' ps := fun x hx => k _ _ (fun z => by
  obtain ⟨xs, e⟩ := n _ z
  have e2 := r x hx
  unfold RowAt at e2
  rw [e] at e2
  cases e2) (r x hx)
theorem RowsAt.kp0 {H H' : Hp} {ps : List (Addr × Row)} (r : RowsAt H ps) (k : Kp [] H H') : RowsAt H' ps := r.kp k fun _ h => by cases h
theorem RowsAt.kp1 {H H' : Hp} {a : Addr} {ps : List (Addr × Row)} {xs : List V} (r : RowsAt H ps) (k : Kp [a] H H') (e : H a = some (.lst xs)) : RowsAt H' ps := r.kp k fun x h => by
  rw [List.mem_singleton.mp h]
  exact ⟨xs, e⟩
theorem RowsAt.kpd {H H' : Hp} {a : Addr} {ps : List (Addr × Row)} (r : RowsAt H ps) (k : Kp [a] H H') (d : DrawsAt H a) : RowsAt H' ps := let ⟨_, e⟩ := d; r.kp1 k e
theorem RowsAt.snoc {H : Hp} {ps : List (Addr × Row)} {x : Addr × Row} (r : RowsAt H ps) (h : RowAt H x.1 x.2) : RowsAt H (ps ++ [x]) := fun y hy => by
  rcases List.mem_append.mp hy with z | z
  · exact r y z
  · rw [List.mem_singleton.mp z]; exact h
theorem pickS (l : List Str) {v : Int} (h0 : 0 ≤ v) (h1 : v < (l.length : Nat)) : ∃ s, s ∈ l ∧ atI (l.map V.str) v = some (.str s) := by
  obtain ⟨j, rfl⟩ : ∃ j : Nat, v = (j : Int) := ⟨v.toNat, by omega⟩
  have hj : j < l.length := by omega
  exact ⟨l[j], List.getElem_mem hj, atI_nat (by rw [List.getElem?_map, List.getElem?_eq_getElem hj]; rfl)⟩
theorem pickI (l : List Int) {v : Int} (h0 : 0 ≤ v) (h1 : v < (l.length : Nat)) : ∃ s, s ∈ l ∧ atI (l.map V.int) v = some (.int s) := by
  obtain ⟨j, rfl⟩ : ∃ j : Nat, v = (j : Int) := ⟨v.toNat, by omega⟩
  have hj : j < l.length := by omega
  exact ⟨l[j], List.getElem_mem hj, atI_nat (by rw [List.getElem?_map, List.getElem?_eq_getElem hj]; rfl)⟩
structure RowS (r : Row) : Prop where
  k : PyData.strOk r.k = true
  g : PyData.strOk r.g = true
  kz : r.k.cps.size ≤ 20
  gz : r.g.cps.size ≤ 20
def smallS (l : List Str) : Bool := l.all fun s => PyData.strOk s && decide (s.cps.size ≤ 20)
theorem smallS_of {l : List Str} (h : smallS l = true) {s : Str} (hs : s ∈ l) : PyData.strOk s = true ∧ s.cps.size ≤ 20 := by
  have h1 := List.all_eq_true.mp h s hs
  rw [Bool.and_eq_true, decide_eq_true_eq] at h1
  exact h1
def rowD (r : Row) : PyData := .tuple [.str r.k, .str r.g, .int r.w, .int r.m]
theorem dpRow {K : PySem.W.Frag} {H : Hp} {p : Addr} {r : Row} (h : RowAt H p r) : Dp K H (.ref p) (rowD r) := .tup (tupT h) (.cons (.str _) (.cons (.str _) (.cons (.int _) (.cons (.int _) .nil))))
def rowsD (ps : List (Addr × Row)) : List PyData := ps.map fun x => rowD x.2
theorem dpRowsAll {K : PySem.W.Frag} {H : Hp} : ∀ {ps : List (Addr × Row)}, RowsAt H ps → DpAll K H (refs ps) (rowsD ps)
  | [], _ => .nil
  | x :: r, h => .cons (dpRow (h x (by simp))) (dpRowsAll (ps := r) fun y hy => h y (by simp [hy]))
theorem dpRows {K : PySem.W.Frag} {H : Hp} {p : Addr} {ps : List (Addr × Row)} (h : H p = some (.lst (refs ps))) (r : RowsAt H ps) : Dp K H (.ref p) (.list (rowsD ps)) := .lst (lstL h) (dpRowsAll r)
theorem rowD_lay {r : Row} (h : RowS r) : PyData.canLay0 (rowD r) = true := by simp [rowD, PyData.canLay0, PyData.canLayAll0, h.k, h.g]
theorem layRows : ∀ {ps : List (Addr × Row)}, (∀ x ∈ ps, RowS x.2) → PyData.canLayAll0 (rowsD ps) = true
  | [], _ => by simp [rowsD, PyData.canLayAll0]
  | x :: r, h => by
    have ih := layRows (ps := r) fun y hy => h y (by simp [hy])
    show PyData.canLayAll0 (rowD x.2 :: rowsD r) = true
    rw [PyData.canLayAll0, rowD_lay (h x (by simp)), ih]; rfl
theorem rowD_depth (r : Row) : (rowD r).depth = 1 := by simp [rowD, PyData.depth, PyData.depthAll]
theorem depthRows : ∀ ps : List (Addr × Row), PyData.depthAll (rowsD ps) ≤ 1
  | [] => by simp [rowsD, PyData.depthAll]
  | x :: r => by
    have ih := depthRows r
    show PyData.depthAll (rowD x.2 :: rowsD r) ≤ 1
    rw [PyData.depthAll, rowD_depth]
    omega
theorem shRows {ps : List (Addr × Row)} (h : ∀ x ∈ ps, RowS x.2) : SeqAt.shaped (.list (rowsD ps)) = true := by
  have := depthRows ps
  simp [SeqAt.shaped, PyData.canLay0, PyData.depth, layRows h]
  omega
theorem shNil : SeqAt.shaped (.list []) = true := by decide +kernel
theorem neRows {K : PySem.W.Frag} {H : Hp} {Q : VK} {a b : Addr} {ps : List (Addr × Row)} (h1 : H a = some (.lst (refs ps))) (h2 : H b = some (.lst (refs ps))) (r : RowsAt H ps) (s : ∀ x ∈ ps, RowS x.2) (q : Q (.bl false) H) : rNeD K (.ref a) (.ref b) H Q :=
  ⟨_, _, dpRows h1 r, dpRows h2 r, shRows s, shRows s, by rw [SeqAt.eqv_refl _ (by rw [PyData.canLay0]; exact layRows s)]; exact q⟩
theorem eqvAll_nil : ∀ l : List PyData, PyData.eqvAll l [] = l.isEmpty
  | [] => by simp [PyData.eqvAll]
  | _ :: _ => by simp [PyData.eqvAll]
theorem eqNil {K : PySem.W.Frag} {H : Hp} {Q : VK} {a b : Addr} {ps : List (Addr × Row)} (h1 : H a = some (.lst (refs ps))) (h2 : H b = some (.lst [])) (r : RowsAt H ps) (s : ∀ x ∈ ps, RowS x.2) (q : Q (.bl ps.isEmpty) H) : rEqD K (.ref a) (.ref b) H Q :=
  ⟨_, _, dpRows h1 r, .lst (ds := []) (lstL h2) .nil, shRows s, shNil, by
    rw [PyData.eqv, eqvAll_nil]
    have e : (rowsD ps).isEmpty = ps.isEmpty := by cases ps <;> rfl
    rw [e]; exact q⟩
/-! what is a name, an item -/
theorem RowAt.k0 {K : PySem.W.Frag} {H : Hp} {Q : VK} {p : Addr} {r : Row} (h : RowAt H p r) (q : Q (.str r.k) H) : rIxT K (.ref p) (.int 0) H Q := Z.ixT (tupT h) rfl q
theorem RowAt.g1 {K : PySem.W.Frag} {H : Hp} {Q : VK} {p : Addr} {r : Row} (h : RowAt H p r) (q : Q (.str r.g) H) : rIxT K (.ref p) (.int 1) H Q := Z.ixT (tupT h) rfl q
theorem RowAt.w2 {K : PySem.W.Frag} {H : Hp} {Q : VK} {p : Addr} {r : Row} (h : RowAt H p r) (q : Q (.int r.w) H) : rIxT K (.ref p) (.int 2) H Q := Z.ixT (tupT h) rfl q
theorem RowAt.m3 {K : PySem.W.Frag} {H : Hp} {Q : VK} {p : Addr} {r : Row} (h : RowAt H p r) (q : Q (.int r.m) H) : rIxT K (.ref p) (.int 3) H Q := Z.ixT (tupT h) rfl q
theorem RowAt.kp0 {H H' : Hp} {p : Addr} {r : Row} (h : RowAt H p r) (k : Kp [] H H') : RowAt H' p r := k.get nin0 h

/-! ### items of a law: k + digit -/
def key7 (i : Nat) : Str := "k" ++ (⟨#[("3104526" : Str).cps.toList.getD i 0]⟩ : Str)
theorem key7_at {i : Nat} (h : i < 7) : atI ("3104526" : Str).cps.toList (i : Int) = some (("3104526" : Str).cps.toList.getD i 0) := by
  have h7 : ("3104526" : Str).cps.toList.length = 7 := by decide +kernel
  rw [atI_nat (v := ("3104526" : Str).cps.toList.getD i 0)]
  rw [List.getD_eq_getElem?_getD, List.getElem?_eq_getElem (by omega)]
  rfl
theorem key7_all : ∀ i : Fin 7, (PyData.strOk (key7 i.val) = true ∧ (key7 i.val).cps.size = 2) ∧ ∀ j : Fin 7, key7 i.val = key7 j.val → i = j := by decide +kernel
theorem key7_inj {i j : Nat} (hi : i < 7) (hj : j < 7) (h : key7 i = key7 j) : i = j := by
  have := (key7_all ⟨i, hi⟩).2 ⟨j, hj⟩ h
  exact congrArg Fin.val this
structure Row7 (i : Nat) (r : Row) : Prop where
  k : r.k = key7 i
  g : r.g ∈ (["x", "y"] : List Str)
  w0 : 1 ≤ r.w
  w1 : r.w ≤ 1000
  m0 : -9 ≤ r.m
  m1 : r.m ≤ 9
theorem g7_small : smallS ["x", "y"] = true := by decide +kernel
theorem Row7.s {i : Nat} {r : Row} (h : Row7 i r) (hi : i < 7) : RowS r := by
  have h1 := (key7_all ⟨i, hi⟩).1
  have h2 := smallS_of g7_small h.g
  refine ⟨?_, h2.1, ?_, h2.2⟩
  · rw [h.k]; exact h1.1
  · rw [h.k]; exact Nat.le_trans (Nat.le_of_eq h1.2) (by decide)
structure Items7 (H H' : Hp) (a p : Addr) (n : Nat) (ps : List (Addr × Row)) : Prop where
  kp : Kp [a] H H'
  dr : DrawsAt H' a
  at_ : H' p = some (.lst (refs ps))
  rows : RowsAt H' ps
  len : ps.length = n
  ok : ∀ (i : Nat) (x : Addr × Row), ps[i]? = some x → Row7 i x.2
def spItems7 (K : PySem.W.Frag) : Sp := fun vs H Q _ => ∃ (a : Addr) (n : Nat), vs = [.ref a, .int (n : Int)] ∧ DrawsAt H a ∧ n ≤ 7 ∧ ∀ H' p ps, H p = none → Items7 H H' a p n ps → Q (.ref p) H'
theorem ok__law_items {P : Program} {w : World} {K : PySem.W.Frag} {mg : Str → Option Value} {base : Heap} (T : T P K mg base) : FnOk P w K mg base CX0 2 T.a__law_items T.fd__law_items ["row", "many"] (spItems7 K) := by
  refine T.F__law_items.ok sc__law_items (fun vs H Q E h => ?_) (fun cdv A outer s H vs Q E hr h => ?_)
  · obtain ⟨a, n, rfl, _⟩ := h
    rfl
  · obtain ⟨a, n, rfl, hd, hn, q⟩ := h
    refine ⟨_, (pss_cons (ps_set (i := 2) sc__law_items.nd rfl (by first | exact Or.inl rfl | exact Or.inr rfl) (pe_lst pa_nil))
      (pss_cons (ps_for PassesOwn.never rfl (pi_range1 (by rfl) T.z_range (pa_cons (pv 1) pa_nil)) (pg_name (i := 3) sc__law_items.nd rfl (by first | exact Or.inl rfl | exact Or.inr rfl)) (pss_cons (ps_set (i := 4) sc__law_items.nd rfl (by first | exact Or.inl rfl | exact Or.inr rfl) (pe_op op_add pe_int (pe_call (ok__law_take T) (hr.mono (by decide)) (by rfl) T.g__law_take T.F__law_take.kp T.b__law_take .nil pass0 (pa_cons (pv 0) (pa_cons pe_int pa_nil)))))
      (Z.pss_consJ (ps_if (pt_cmpR op_eq (pe_call (ok__law_take T) (hr.mono (by decide)) (by rfl) T.g__law_take T.F__law_take.kp T.b__law_take .nil pass0 (pa_cons (pv 0) (pa_cons pe_int pa_nil))) pe_int (nomark _)) (pss_one (ps_set (i := 4) sc__law_items.nd rfl (by first | exact Or.inl rfl | exact Or.inr rfl) (pe_ix ix_list (pe_lst (pa_cons pe_int (pa_cons pe_int (pa_cons pe_int (pa_cons pe_int pa_nil))))) (pe_call (ok__law_take T) (hr.mono (by decide)) (by rfl) T.g__law_take T.F__law_take.kp T.b__law_take .nil pass0 (pa_cons (pv 0) (pa_cons pe_int pa_nil))) (fun _ _ => rfl)))) pss_nil)
      (pss_one (ps_expr (pe_bm PySem.F.plainAttrs_list PySem.F.slot_list_append PySem.F.type_list_append mt_append (pv 2) (pa_cons (pe_tup (pa_cons (pe_op o_addS pe_str (pe_ix ix_str pe_str (pv 3) (fun _ _ => rfl))) (pa_cons (pe_ix ix_list (pe_lst (pa_cons pe_str (pa_cons pe_str pa_nil))) (pe_call (ok__law_take T) (hr.mono (by decide)) (by rfl) T.g__law_take T.F__law_take.kp T.b__law_take .nil pass0 (pa_cons (pv 0) (pa_cons pe_int pa_nil))) (fun _ _ => rfl)) (pa_cons (pv 4) (pa_cons (pe_op op_sub (pe_call (ok__law_take T) (hr.mono (by decide)) (by rfl) T.g__law_take T.F__law_take.kp T.b__law_take .nil pass0 (pa_cons (pv 0) (pa_cons pe_int pa_nil))) pe_int) pa_nil))))) pa_nil)))))))
      (pss_one (ps_ret (pv 2))))), ?_⟩
    walk_at "z0"
    walk_at "z"
    refine Z.lstK (fun F H1 nF k1 e1 => ?_)
    have d1 := hd.kp0 k1
    have naF : a ≠ F := hd.ne nF
    walk_at "z"
    refine Z.forr n (by rfl) (by omega) (fun i σ' H' => ∃ y3 y4, ∃ ps : List (Addr × Row), σ' = [some (.ref a), some (.int (n : Int)), some (.ref F), y3, y4] ∧ Kp [a] H H' ∧ DrawsAt H' a ∧ H' F = some (.lst (refs ps)) ∧ RowsAt H' ps ∧ ps.length = i ∧ ∀ (j : Nat) (x : Addr × Row), ps[j]? = some x → Row7 j x.2) ⟨_, _, [], rfl, k1.sub (by simp), d1, e1, (fun x hx => by cases hx), rfl, fun j x hx => by simp at hx⟩ ?_ ?_
    · rintro i σ' H2 hi ⟨y3, y4, ps, rfl, k2, d2, e2, r2, hl2, hok⟩
      walk_at "z"
      refine ⟨a, 9, rfl, d2, by decide, by decide, fun H3 v hv0 hv1 k3 d3 => ?_⟩
      have e3 := k3.get (nin1 naF.symm) e2
      have r3 := r2.kpd k3 d2
      walk_at "z"
      refine Z.seqJ (fun σ' H' => ∃ w : Int, σ' = [some (.ref a), some (.int (n : Int)), some (.ref F), some (.int (i : Int)), some (.int w)] ∧ 1 ≤ w ∧ w ≤ 1000 ∧ Kp [a] H H' ∧ DrawsAt H' a ∧ H' F = some (.lst (refs ps)) ∧ RowsAt H' ps) ?_ ?_
      · rintro σ' H4 ⟨w, rfl, hw0, hw1, k4, d4, e4, r4⟩
        walk_at "z"
        refine ⟨Z.tyL e4, ?_⟩
        walk_at "z"
        refine ⟨_, _, _, rfl, rfl, (show ("3104526" : Str).length ≤ sizeLine by decide +kernel), key7_at (i := i) (by omega), ?_⟩
        refine Z.addS (show ("k" : Str).length + 1 ≤ sizeLine by decide +kernel) ?_
        walk_at "z"
        refine Z.lstK (fun b H5 nb k5 e5 => ?_)
        have d5 := d4.kp0 k5
        have nab : a ≠ b := d4.ne nb
        walk_at "z"
        refine ⟨a, 2, rfl, d5, by decide, by decide, fun H6 v6 hv60 hv61 k6 d6 => ?_⟩
        obtain ⟨s, hs, es⟩ := pickS ["x", "y"] hv60 hv61
        refine Z.ixL (lstL (k6.get (nin1 nab.symm) e5)) es ?_
        walk_at "z"
        refine ⟨a, 19, rfl, d6, by decide, by decide, fun H7 v7 hv70 hv71 k7 d7 => ?_⟩
        walk_at "z"
        refine Z.tupK (fun t H8 nt k8 e8 => ?_)
        have k48 := ((k5.sub (M' := [a]) (by simp)).trans k6).trans (k7.trans (k8.sub (by simp)))
        have e8F := k8.get nin0 (k7.get (nin1 naF.symm) (k6.get (nin1 naF.symm) (k5.get nin0 e4)))
        have r8 := (((r4.kp0 k5).kpd k6 d5).kpd k7 d6).kp0 k8
        have d8 := d7.kp0 k8
        have ntF : t ≠ F := fun z => by rw [z, e8F] at e8; cases e8
        have kF : Kp [F] H8 (upd H8 F (.lst (refs ps ++ [.ref t]))) := Kp.put (by simp)
        walk_at "z"
        refine Z.app e8F (Z.szl (m := 1000) (by rw [refs_len]; omega)) ?_
        refine ⟨_, _, ps ++ [(t, ⟨key7 i, s, w, v7 - 9⟩)], rfl, (k4.trans k48).mut nF rfl, d8.put naF, by rw [upd_same, refs_snoc], (r8.kp1 kF e8F).snoc (show RowAt _ t ⟨key7 i, s, w, v7 - 9⟩ from kF.get (nin1 ntF) e8), by simp [hl2], fun j x hx => ?_⟩
        rw [List.getElem?_append] at hx
        split at hx
        · exact hok j x hx
        · have hj : j - ps.length = 0 := by
            have := (List.getElem?_eq_some_iff.mp hx).1
            simp at this
            exact this
          rw [hj] at hx
          have e : j = i := by omega
          subst e
          cases hx
          exact ⟨rfl, hs, hw0, hw1, by show -9 ≤ v7 - 9; omega, by show v7 - 9 ≤ 9; omega⟩
      · intro N jn
        walk_at "z"
        refine ⟨a, 6, rfl, d3, by decide, by decide, fun H4 v4 hv40 hv41 k4 d4 => ?_⟩
        have e4 := k4.get (nin1 naF.symm) e3
        have r4 := r3.kpd k4 d3
        walk_at "z"
        refine Z.ite (fun h2 => ?_) (fun h2 => ?_)
        · walk_at "z"
          refine Z.lstK (fun b H5 nb k5 e5 => ?_)
          have d5 := d4.kp0 k5
          have nab : a ≠ b := d4.ne nb
          walk_at "z"
          refine ⟨a, 4, rfl, d5, by decide, by decide, fun H6 v6 hv60 hv61 k6 d6 => ?_⟩
          obtain ⟨s, hs, es⟩ := pickI [1000, 1, 40, 7] hv60 hv61
          refine Z.ixL (lstL (k6.get (nin1 nab.symm) e5)) es ?_
          walk_at "z"
          have hs2 : 1 ≤ s ∧ s ≤ 1000 := by
            simp only [List.mem_cons, List.not_mem_nil, or_false] at hs
            rcases hs with rfl | rfl | rfl | rfl <;> decide
          exact jn _ _ ⟨s, rfl, hs2.1, hs2.2, ((k2.trans k3).trans k4).trans ((k5.sub (by simp)).trans k6), d6, k6.get (nin1 naF.symm) (k5.get nin0 e4), (r4.kp0 k5).kpd k6 d5⟩
        · walk_at "z"
          exact jn _ _ ⟨_, rfl, by omega, by omega, (k2.trans k3).trans k4, d4, e4, r4⟩
    · rintro σ' H2 ⟨y3, y4, ps, rfl, k2, d2, e2, r2, hl2, hok⟩
      walk_at "z"
      exact q H2 F ps nF ⟨k2, d2, e2, r2, hl2, hok⟩

/-! ### sums of lists of ints -/
theorem sum_nonneg : ∀ {l : List Int}, (∀ n ∈ l, 0 ≤ n) → 0 ≤ l.sum
  | [], _ => by simp
  | a :: r, h => by
    have h1 := h a (by simp)
    have h2 := sum_nonneg (l := r) fun n hn => h n (by simp [hn])
    rw [List.sum_cons]
    omega
theorem sum_le {c : Int} : ∀ {l : List Int}, (∀ n ∈ l, n ≤ c) → l.sum ≤ c * l.length
  | [], _ => by simp
  | a :: r, h => by
    have h1 := h a (by simp)
    have h2 := sum_le (c := c) (l := r) fun n hn => h n (by simp [hn])
    rw [List.sum_cons, List.length_cons, show c * ((r.length + 1 : Nat) : Int) = c * r.length + c by rw [Int.natCast_add, Int.mul_add]; simp]
    omega
theorem sum_ge_mem : ∀ {l : List Int}, (∀ n ∈ l, 0 ≤ n) → ∀ x ∈ l, x ≤ l.sum
  | [], _, x, hx => by simp at hx
  | a :: r, h, x, hx => by
    have h1 := h a (by simp)
    have h3 := sum_nonneg (l := r) fun n hn => h n (by simp [hn])
    rw [List.sum_cons]
    rcases List.mem_cons.mp hx with e | e
    · omega
    · have h2 := sum_ge_mem (l := r) (fun n hn => h n (by simp [hn])) x e
      omega
theorem take_nonneg {l : List Int} (h : ∀ n ∈ l, 0 ≤ n) (i : Nat) : 0 ≤ (l.take i).sum := sum_nonneg fun n hn => h n (List.mem_of_mem_take hn)
/-! ### lists of ints as data -/
theorem layInts : ∀ ws : List Int, PyData.canLayAll0 (ws.map PyData.int) = true
  | [] => by simp [PyData.canLayAll0]
  | w :: r => by simp [PyData.canLayAll0, PyData.canLay0, layInts r]
theorem depthInts : ∀ ws : List Int, PyData.depthAll (ws.map PyData.int) = 0
  | [] => by simp [PyData.depthAll]
  | w :: r => by simp [PyData.depthAll, PyData.depth, depthInts r]
theorem shInts (ws : List Int) : SeqAt.shaped (.list (ws.map PyData.int)) = true := by
  simp [SeqAt.shaped, PyData.canLay0, PyData.depth, layInts, depthInts]
theorem dpInts {K : PySem.W.Frag} {H : Hp} : ∀ ws : List Int, DpAll K H (ws.map V.int) (ws.map PyData.int)
  | [] => .nil
  | w :: r => .cons (.int w) (dpInts r)
theorem dpI {K : PySem.W.Frag} {H : Hp} {a : Addr} {ws : List Int} (h : SqL K H a (ws.map V.int)) : Dp K H (.ref a) (.list (ws.map PyData.int)) := .lst h (dpInts ws)
theorem eqvI (ws : List Int) : PyData.eqv (.list (ws.map PyData.int)) (.list (ws.map PyData.int)) = true := SeqAt.eqv_refl _ (by simp [PyData.canLay0, layInts])
theorem neLL {K : PySem.W.Frag} {H : Hp} {Q : VK} {a b : Addr} {ws : List Int} (h1 : SqL K H a (ws.map V.int)) (h2 : SqL K H b (ws.map V.int)) (q : Q (.bl false) H) : rNeD K (.ref a) (.ref b) H Q :=
  ⟨_, _, dpI h1, dpI h2, shInts _, shInts _, by rw [eqvI]; exact q⟩
theorem eqLL {K : PySem.W.Frag} {H : Hp} {Q : VK} {a b : Addr} {ws : List Int} (h1 : SqL K H a (ws.map V.int)) (h2 : SqL K H b (ws.map V.int)) (q : Q (.bl true) H) : rEqD K (.ref a) (.ref b) H Q :=
  ⟨_, _, dpI h1, dpI h2, shInts _, shInts _, by rw [eqvI]; exact q⟩

/-! ### Euclid and lowest terms -/
def eStep (p : Nat × Nat) : Nat × Nat := if p.2 = 0 then p else (p.2, p.1 % p.2)
def euc : Nat → Nat × Nat → Nat × Nat
  | 0, p => p
  | i + 1, p => euc i (eStep p)
theorem euc_succ : ∀ (i : Nat) (p : Nat × Nat), euc (i + 1) p = eStep (euc i p)
  | 0, p => rfl
  | i + 1, p => euc_succ i (eStep p)
theorem eStep_gcd (p : Nat × Nat) : Nat.gcd (eStep p).1 (eStep p).2 = Nat.gcd p.1 p.2 := by
  unfold eStep
  split
  · rfl
  · show Nat.gcd p.2 (p.1 % p.2) = Nat.gcd p.1 p.2
    rw [Nat.gcd_comm p.1 p.2, Nat.gcd_rec p.2 p.1, Nat.gcd_comm]
theorem euc_gcd : ∀ (i : Nat) (p : Nat × Nat), Nat.gcd (euc i p).1 (euc i p).2 = Nat.gcd p.1 p.2
  | 0, p => rfl
  | i + 1, p => (euc_gcd i (eStep p)).trans (eStep_gcd p)
theorem eStep_zero {p : Nat × Nat} (h : p.2 = 0) : eStep p = p := if_pos h
theorem euc_zero : ∀ (i : Nat) {p : Nat × Nat}, p.2 = 0 → euc i p = p
  | 0, _, _ => rfl
  | i + 1, p, h => by
    show euc i (eStep p) = p
    rw [eStep_zero h]
    exact euc_zero i h
theorem eStep2 (p : Nat × Nat) : 2 * (eStep (eStep p)).2 ≤ p.2 := by
  obtain ⟨a, b⟩ := p
  by_cases hb : b = 0
  · rw [eStep_zero (p := (a, b)) hb, eStep_zero (p := (a, b)) hb]
    show 2 * b ≤ b
    omega
  · have e1 : eStep (a, b) = (b, a % b) := if_neg hb
    rw [e1]
    have hc : a % b < b := Nat.mod_lt _ (by omega)
    by_cases h0 : a % b = 0
    · rw [eStep_zero (p := (b, a % b)) h0]
      show 2 * (a % b) ≤ b
      omega
    · have e2 : eStep (b, a % b) = (a % b, b % (a % b)) := if_neg h0
      rw [e2]
      show 2 * (b % (a % b)) ≤ b
      have h1 : b % (a % b) < a % b := Nat.mod_lt _ (by omega)
      have h2 := Nat.div_add_mod b (a % b)
      have h3 : 1 ≤ b / (a % b) := Nat.div_pos (by omega) (by omega)
      have h4 : (a % b) * 1 ≤ (a % b) * (b / (a % b)) := Nat.mul_le_mul_left _ h3
      omega
theorem euc_end : ∀ (n : Nat) (p : Nat × Nat), p.2 < 2 ^ n → (euc (2 * n) p).2 = 0
  | 0, p, h => by
    have h' : p.2 < 1 := h
    show p.2 = 0
    omega
  | n + 1, p, h => by
    show (euc (2 * n) (eStep (eStep p))).2 = 0
    refine euc_end n _ ?_
    have := eStep2 p
    rw [Nat.pow_succ] at h
    omega
theorem euc_add : ∀ (i j : Nat) (p : Nat × Nat), euc (i + j) p = euc j (euc i p)
  | 0, j, p => by rw [Nat.zero_add]; rfl
  | i + 1, j, p => by
    rw [show i + 1 + j = (i + j) + 1 by omega]
    exact euc_add i j (eStep p)
theorem euc_5000 {p : Nat × Nat} (h : p.2 < 2 ^ 2400) : (euc 5000 p).2 = 0 := by
  rw [show (5000 : Nat) = 2 * 2400 + 200 from rfl, euc_add, euc_zero 200 (euc_end 2400 p h)]
  exact euc_end 2400 p h
def gN (p q : Int) : Nat := Nat.gcd p.natAbs q.natAbs
def gI (p q : Int) : Int := if q < 0 then -(gN p q : Int) else (gN p q : Int)
def lo (p q : Int) : Int × Int := (p.fdiv (gI p q), q.fdiv (gI p q))
theorem gN_pos {p q : Int} (h : q ≠ 0) : 0 < gN p q := Nat.gcd_pos_of_pos_right _ (by omega)
theorem gI_ne {p q : Int} (h : q ≠ 0) : gI p q ≠ 0 := by
  have := gN_pos (p := p) h
  unfold gI
  split <;> omega
theorem gN_le {p q : Int} (h : q ≠ 0) : gN p q ≤ q.natAbs := Nat.le_of_dvd (by omega) (Nat.gcd_dvd_right _ _)
theorem gI_abs (p q : Int) : (gI p q).natAbs = gN p q := by
  unfold gI
  split <;> omega
theorem dvdI {g : Nat} {p : Int} (h : g ∣ p.natAbs) : ∃ a : Int, p = (g : Int) * a ∧ p.natAbs = g * a.natAbs := by
  obtain ⟨c, hc⟩ := Int.ofNat_dvd_left.mpr h
  refine ⟨c, hc, ?_⟩
  rw [hc, Int.natAbs_mul]
  simp
/-- lowest terms: exactly divided, a denominator of at least 1, no common part -/
theorem lo_spec {p q : Int} (h : q ≠ 0) : ∃ a b : Int, lo p q = (a, b) ∧ 1 ≤ b ∧ Nat.gcd a.natAbs b.natAbs = 1 ∧ p = gI p q * a ∧ q = gI p q * b := by
  obtain ⟨a, ha, ha2⟩ := dvdI (Nat.gcd_dvd_left p.natAbs q.natAbs)
  obtain ⟨b, hb, hb2⟩ := dvdI (Nat.gcd_dvd_right p.natAbs q.natAbs)
  have hg := gN_pos (p := p) h
  have hcop : Nat.gcd a.natAbs b.natAbs = 1 := by
    have e := Nat.gcd_mul_left (gN p q) a.natAbs b.natAbs
    have e2 : gN p q * a.natAbs = p.natAbs := ha2.symm
    have e3 : gN p q * b.natAbs = q.natAbs := hb2.symm
    rw [e2, e3] at e
    have e4 : gN p q * 1 = gN p q * Nat.gcd a.natAbs b.natAbs := by rw [Nat.mul_one]; exact e
    exact (Nat.eq_of_mul_eq_mul_left hg e4).symm
  have ha' : p = (gN p q : Int) * a := ha
  have hb' : q = (gN p q : Int) * b := hb
  have gpos : (0 : Int) < (gN p q : Int) := by omega
  have hb0 : b ≠ 0 := fun z => by
    rw [z, Int.mul_zero] at hb'
    exact h hb'
  by_cases hq : q < 0
  · have eg : gI p q = -(gN p q : Int) := if_pos hq
    have hbn : b < 0 := by
      rcases Int.lt_or_le b 0 with z | z
      · exact z
      · have := Int.mul_nonneg (Int.le_of_lt gpos) z
        omega
    have ep : p = gI p q * -a := by rw [eg, Int.neg_mul_neg]; exact ha'
    have eq : q = gI p q * -b := by rw [eg, Int.neg_mul_neg]; exact hb'
    refine ⟨-a, -b, ?_, by omega, by rw [Int.natAbs_neg, Int.natAbs_neg]; exact hcop, ep, eq⟩
    have g0 := gI_ne (p := p) h
    unfold lo
    have f1 : p.fdiv (gI p q) = -a := by
      have := Int.mul_fdiv_cancel_left (-a) g0
      rw [← ep] at this
      exact this
    have f2 : q.fdiv (gI p q) = -b := by
      have := Int.mul_fdiv_cancel_left (-b) g0
      rw [← eq] at this
      exact this
    rw [f1, f2]
  · have eg : gI p q = (gN p q : Int) := if_neg hq
    have hbp : 0 < b := by
      rcases Int.lt_or_le 0 b with z | z
      · exact z
      · have := Int.mul_nonpos_of_nonneg_of_nonpos (Int.le_of_lt gpos) z
        omega
    have ep : p = gI p q * a := by rw [eg]; exact ha'
    have eq : q = gI p q * b := by rw [eg]; exact hb'
    refine ⟨a, b, ?_, by omega, hcop, ep, eq⟩
    have g0 := gI_ne (p := p) h
    unfold lo
    have f1 : p.fdiv (gI p q) = a := by
      have := Int.mul_fdiv_cancel_left a g0
      rw [← ep] at this
      exact this
    have f2 : q.fdiv (gI p q) = b := by
      have := Int.mul_fdiv_cancel_left b g0
      rw [← eq] at this
      exact this
    rw [f1, f2]
theorem lo_pos {p q : Int} (h : q ≠ 0) : 1 ≤ (lo p q).2 := by
  obtain ⟨a, b, e, h1, _⟩ := lo_spec (p := p) h
  rw [e]; exact h1
theorem lo_cop {p q : Int} (h : q ≠ 0) : Nat.gcd (lo p q).1.natAbs (lo p q).2.natAbs = 1 := by
  obtain ⟨a, b, e, _, h1, _⟩ := lo_spec (p := p) h
  rw [e]; exact h1
theorem abs_le_mul {g a : Int} (h : g ≠ 0) : a.natAbs ≤ (g * a).natAbs := by
  rw [Int.natAbs_mul]
  exact Nat.le_mul_of_pos_left _ (by omega)
theorem lo_abs1 {p q : Int} (h : q ≠ 0) : (lo p q).1.natAbs ≤ p.natAbs := by
  obtain ⟨a, b, e, _, _, h1, _⟩ := lo_spec (p := p) h
  rw [e]
  have := abs_le_mul (a := a) (gI_ne (p := p) h)
  rw [← h1] at this
  exact this
theorem lo_abs2 {p q : Int} (h : q ≠ 0) : (lo p q).2.natAbs ≤ q.natAbs := by
  obtain ⟨a, b, e, _, _, _, h1⟩ := lo_spec (p := p) h
  rw [e]
  have := abs_le_mul (a := b) (gI_ne (p := p) h)
  rw [← h1] at this
  exact this

/-! ### fractions: tuples of two ints -/
section frac
variable {K : PySem.W.Frag}
abbrev Fr := Int × Int
def frV (f : Fr) : List V := [.int f.1, .int f.2]
/-- at x there is no tuple -/
def NoTup (H : Hp) (x : Addr) : Prop := ∀ xs, ¬ Rd H x (.tup xs)
theorem NoTup.of {H : Hp} {x : Addr} {o : HO} (h : H x = some o) (n : ∀ xs, o ≠ .tup xs ∧ ∀ u, o ≠ .frz u (.tup xs)) : NoTup H x := fun xs r => by
  rcases r with r | ⟨u, r⟩
  · rw [h] at r; exact (n xs).1 (Option.some.inj r)
  · rw [h] at r; exact (n xs).2 u (Option.some.inj r)
theorem NoTup.lst {H : Hp} {x : Addr} {xs : List V} (h : H x = some (.lst xs)) : NoTup H x := NoTup.of h fun ys => ⟨by simp, by simp⟩
theorem NoTup.new {H : Hp} {x : Addr} (h : H x = none) : NoTup H x := fun xs r => by
  rcases r with r | ⟨u, r⟩ <;> rw [h] at r <;> cases r
theorem kpTup {K : PySem.W.Frag} {M : List Addr} {H H' : Hp} {a : Addr} {xs : List V} (h : SqT K H a xs) (k : Kp M H H') (n : ∀ x ∈ M, NoTup H x) : SqT K H' a xs := by
  rcases h with h | h
  · have na : a ∉ M := fun z => n a z xs h
    exact k.tup na (.inl h)
  · exact .inr h
/-- a fraction at a, a new one or one of the top -/
def FrAt (K : PySem.W.Frag) (H : Hp) (a : Addr) (f : Fr) : Prop := SqT K H a (frV f)
theorem FrAt.kp {M : List Addr} {H H' : Hp} {a : Addr} {f : Fr} (h : FrAt K H a f) (k : Kp M H H') (n : ∀ x ∈ M, NoTup H x) : FrAt K H' a f := kpTup h k n
theorem FrAt.kp0 {H H' : Hp} {a : Addr} {f : Fr} (h : FrAt K H a f) (k : Kp [] H H') : FrAt K H' a f := k.tup nin0 h
theorem FrAt.kpl {H H' : Hp} {a l : Addr} {f : Fr} {xs : List V} (h : FrAt K H a f) (k : Kp [l] H H') (e : H l = some (.lst xs)) : FrAt K H' a f := kpTup h k fun x hx => by
  rw [List.mem_singleton.mp hx]
  exact NoTup.lst e
theorem fr0 (f : Fr) : atI (frV f) 0 = some (.int f.1) := rfl
theorem fr1 (f : Fr) : atI (frV f) 1 = some (.int f.2) := rfl
/-- small enough for the machine's ints -/
def FrB (n : Nat) (f : Fr) : Prop := f.1.natAbs < 2 ^ n ∧ f.2.natAbs < 2 ^ n
theorem FrB.mono {n m : Nat} {f : Fr} (h : FrB n f) (l : n ≤ m) : FrB m f := ⟨Nat.lt_of_lt_of_le h.1 (Nat.pow_le_pow_right (by decide) l), Nat.lt_of_lt_of_le h.2 (Nat.pow_le_pow_right (by decide) l)⟩
theorem lo_B {n : Nat} {p q : Int} (h : q ≠ 0) (h1 : p.natAbs < 2 ^ n) (h2 : q.natAbs < 2 ^ n) : FrB n (lo p q) := ⟨Nat.lt_of_le_of_lt (lo_abs1 h) h1, Nat.lt_of_le_of_lt (lo_abs2 h) h2⟩
theorem add_B {n : Nat} {a b : Int} (h1 : a.natAbs < 2 ^ n) (h2 : b.natAbs < 2 ^ n) : (a + b).natAbs < 2 ^ (n + 1) := by
  rw [Nat.pow_succ]
  omega
theorem sub_B {n : Nat} {a b : Int} (h1 : a.natAbs < 2 ^ n) (h2 : b.natAbs < 2 ^ n) : (a - b).natAbs < 2 ^ (n + 1) := by
  rw [Nat.pow_succ]
  omega
theorem mul_B {n m : Nat} {a b : Int} (h1 : a.natAbs < 2 ^ n) (h2 : b.natAbs < 2 ^ m) : (a * b).natAbs < 2 ^ (n + m) := wide_lt h1 h2
theorem up_B {n m : Nat} {a : Int} (h : a.natAbs < 2 ^ n) (l : n ≤ m) : a.natAbs < 2 ^ m := Nat.lt_of_lt_of_le h (Nat.pow_le_pow_right (by decide) l)
theorem mul_ok {n : Nat} {a b : Int} (h1 : a.natAbs < 2 ^ n) (h2 : b.natAbs < 2 ^ n) (h0 : 0 < n := by omega) (h : n ≤ 400000 := by omega) : CMulW a b := wide_mul h1 h2 h0 h0 (by omega)
def fplus (f g : Fr) : Fr := lo (f.1 * g.2 + g.1 * f.2) (f.2 * g.2)
def fminus (f g : Fr) : Fr := lo (f.1 * g.2 - g.1 * f.2) (f.2 * g.2)
def ftimes (f g : Fr) : Fr := lo (f.1 * g.1) (f.2 * g.2)
def fover (f g : Fr) : Fr := lo (f.1 * g.2) (f.2 * g.1)
def fless (f g : Fr) : Bool := decide (f.1 * g.2 < g.1 * f.2)
theorem fplus_B {n m : Nat} {f g : Fr} (hf : FrB n f) (hg : FrB m g) (h1 : f.2 ≠ 0) (h2 : g.2 ≠ 0) : FrB (n + m + 1) (fplus f g) :=
  lo_B (Int.mul_ne_zero h1 h2) (add_B (mul_B hf.1 hg.2) (by rw [Nat.add_comm n m]; exact mul_B hg.1 hf.2)) (up_B (mul_B hf.2 hg.2) (by omega))
theorem fminus_B {n m : Nat} {f g : Fr} (hf : FrB n f) (hg : FrB m g) (h1 : f.2 ≠ 0) (h2 : g.2 ≠ 0) : FrB (n + m + 1) (fminus f g) :=
  lo_B (Int.mul_ne_zero h1 h2) (sub_B (mul_B hf.1 hg.2) (by rw [Nat.add_comm n m]; exact mul_B hg.1 hf.2)) (up_B (mul_B hf.2 hg.2) (by omega))
theorem ftimes_B {n m : Nat} {f g : Fr} (hf : FrB n f) (hg : FrB m g) (h1 : f.2 ≠ 0) (h2 : g.2 ≠ 0) : FrB (n + m) (ftimes f g) := lo_B (Int.mul_ne_zero h1 h2) (mul_B hf.1 hg.1) (mul_B hf.2 hg.2)
theorem fplus_pos {f g : Fr} (h1 : f.2 ≠ 0) (h2 : g.2 ≠ 0) : 1 ≤ (fplus f g).2 := lo_pos (Int.mul_ne_zero h1 h2)
/-! ### samphire.errors, samphire.ratios -/
def spZD (C : Addr) : Sp := fun vs H Q _ => ∃ a : Addr, vs = [.ref a] ∧ H a = some (exo a C none) ∧ Q .non H
theorem ok_ZeroDenominator_init {P : Program} {w : World} {K : PySem.W.Frag} {mg : Str → Option Value} {base : Heap} (T : T P K mg base) : FnOk P w K mg base CX0 1 T.a_ZeroDenominator_init ((NF_ZeroDenominator T.cc_ZeroDenominator T.c_ZeroDenominator).fd T.doc_ZeroDenominator T.pm_ZeroDenominator T.ctv_ZeroDenominator) ["self"] (spZD T.C_ZeroDenominator) := by
  refine Sup.fn_super (F := NF_ZeroDenominator T.cc_ZeroDenominator T.c_ZeroDenominator) (p := "self") (ps' := []) T.x_ZeroDenominator.S T.lk_ZeroDenominator rfl T.hc_ZeroDenominator sc_ZeroDenominator_init rfl ⟨_, rfl, rfl⟩ rfl rfl (fun _ => rfl) (fun _ => ⟨_, rfl⟩) (fun _ => rfl) (fun vs H Q E h => ?_) (fun A outer s H vs Q E hr h => ?_)
  · obtain ⟨a, rfl, _⟩ := h
    rfl
  · obtain ⟨a, rfl, ha, q⟩ := h
    exact ⟨a, [], _, _, rfl, ha, pa_cons pe_str pa_nil, pss_nil, by decide, ha, q⟩
def spLowest (K : PySem.W.Frag) (C : Addr) : Sp := fun vs H Q E => ∃ p q : Int, vs = [.int p, .int q] ∧ q.natAbs < 2 ^ 8000 ∧ (q = 0 → E (.ref C) none H) ∧ (q ≠ 0 → ∀ H' b, H b = none → Kp [] H H' → FrAt K H' b (lo p q) → Q (.ref b) H')
theorem del_upd {H : Hp} {a : Addr} {o : HO} (h : H a = none) : del (upd H a o) a = H := by
  funext b
  by_cases hb : b = a
  · rw [hb, del_same, h]
  · rw [del_ne hb, upd_ne hb]
theorem ok_lowest {P : Program} {w : World} {K : PySem.W.Frag} {mg : Str → Option Value} {base : Heap} (T : T P K mg base) : FnOk P w K mg base (L2.CX P w) 3 T.a_lowest T.fd_lowest ["p", "q"] (spLowest K T.C_ZeroDenominator) := by
  refine T.F_lowest.okX sc_lowest (fun vs H Q E h => ?_) (fun cdv A outer s H vs Q E hr h => ?_)
  · obtain ⟨p, q, rfl, _⟩ := h
    rfl
  · obtain ⟨p, q, rfl, hb, h0, h1⟩ := h
    refine ⟨_, (pss_cons (ps_if (pt_cmpR op_eq (pv 1) pe_int (nomark _)) (pss_one (ps_raise rfl (takes_of rfl rfl rfl rfl) (Sup.pmk_oexN T.x_ZeroDenominator.S.T T.x_ZeroDenominator.iC T.x_ZeroDenominator.tI (ok_ZeroDenominator_init T) (hr.mono (by decide)) (T.bx_ZeroDenominator) pass0 (by rfl) T.x_ZeroDenominator.g))) pss_nil)
      (pss_cons (ps_set (i := 2) sc_lowest.nd rfl (by first | exact Or.inl rfl | exact Or.inr rfl) (pe_callBfun cr_gcd (by rfl) T.g_gcd (pa_cons (pv 0) (pa_cons (pv 1) pa_nil))))
      (Z.pss_consJ (ps_if (pt_cmpR op_lt (pv 1) pe_int (nomark _)) (pss_one (ps_set (i := 2) sc_lowest.nd rfl (by first | exact Or.inl rfl | exact Or.inr rfl) (pe_un un_neg (pv 2)))) pss_nil)
      (pss_one (ps_ret (pe_tup (pa_cons (pe_op Z.op_fdivA (pv 0) (pv 2)) (pa_cons (pe_op Z.op_fdivA (pv 1) (pv 2)) pa_nil)))))))), ?_⟩
    walk_at "z0"
    walk_at "z"
    refine Z.ite (fun hq => ?_) (fun hq => ?_)
    · refine Z.mkN fun a na => ⟨a, rfl, upd_same, rfl, upd_same, ?_⟩
      rw [del_upd na]
      exact h0 hq
    · walk_at "z"
      have hg := gI_ne (p := p) hq
      have hdv : Z.CDivA p (gI p q) := Z.divA (b := 8000) hg (by rw [gI_abs]; exact Nat.lt_of_le_of_lt (gN_le hq) hb) (by decide) (by decide)
      have hdv2 : Z.CDivA q (gI p q) := hdv
      refine Z.seqJ (fun σ' H' => σ' = [some (.int p), some (.int q), some (.int (gI p q))] ∧ H' = H) ?_ ?_
      · rintro σ' H' ⟨rfl, rfl⟩
        walk_at "z"
        refine Z.iC hdv ?_
        walk_at "z"
        refine Z.iC hdv2 ?_
        refine Z.tupK (fun b H1 nb k1 e1 => ?_)
        exact h1 hq _ _ nb k1 (tupT e1)
      · intro N jn
        walk_at "z"
        refine Z.ite (fun h2 => ?_) (fun h2 => ?_)
        · walk_at "z"
          refine jn _ _ ⟨?_, rfl⟩
          unfold gI
          rw [if_pos h2]; rfl
        · walk_at "z"
          refine jn _ _ ⟨?_, rfl⟩
          unfold gI
          rw [if_neg h2]; rfl
/-- two fractions in, a fraction out -/
def spF2 (K : PySem.W.Frag) (o : Fr → Fr → Fr) : Sp := fun vs H Q _ => ∃ (a b : Addr) (f g : Fr), vs = [.ref a, .ref b] ∧ FrAt K H a f ∧ FrAt K H b g ∧ f.2 ≠ 0 ∧ g.2 ≠ 0 ∧ FrB 3900 f ∧ FrB 3900 g ∧ ∀ H' c, H c = none → Kp [] H H' → FrAt K H' c (o f g) → Q (.ref c) H'
theorem ok_plus {P : Program} {w : World} {K : PySem.W.Frag} {mg : Str → Option Value} {base : Heap} (T : T P K mg base) : FnOk P w K mg base CX0 4 T.a_plus T.fd_plus ["a", "b"] (spF2 K fplus) := by
  refine T.F_plus.ok sc_plus (fun vs H Q E h => ?_) (fun cdv A outer s H vs Q E hr h => ?_)
  · obtain ⟨a, b, f, g, rfl, _⟩ := h
    rfl
  · obtain ⟨a, b, f, g, rfl, ha, hb, hf, hg, Bf, Bg, q⟩ := h
    refine ⟨_, (pss_one (ps_ret (pe_call (ok_lowest T) (hr.mono (by decide)) (by rfl) T.g_lowest T.F_lowest.kp T.b_lowest .nil passL (pa_cons (pe_op op_add (pe_op op_mulW (pe_ix ix_tup (pv 0) pe_int (fun _ _ => rfl)) (pe_ix ix_tup (pv 1) pe_int (fun _ _ => rfl))) (pe_op op_mulW (pe_ix ix_tup (pv 1) pe_int (fun _ _ => rfl)) (pe_ix ix_tup (pv 0) pe_int (fun _ _ => rfl)))) (pa_cons (pe_op op_mulW (pe_ix ix_tup (pv 0) pe_int (fun _ _ => rfl)) (pe_ix ix_tup (pv 1) pe_int (fun _ _ => rfl))) pa_nil))))), ?_⟩
    walk_at "z0"
    walk_at "z"
    refine Z.ixT ha (fr0 f) ?_
    walk_at "z"
    refine Z.ixT hb (fr1 g) ?_
    walk_at "z"
    refine Z.iC (mul_ok Bf.1 Bg.2) ?_
    walk_at "z"
    refine Z.ixT hb (fr0 g) ?_
    walk_at "z"
    refine Z.ixT ha (fr1 f) ?_
    walk_at "z"
    refine Z.iC (mul_ok Bg.1 Bf.2) ?_
    walk_at "z"
    refine Z.ixT ha (fr1 f) ?_
    walk_at "z"
    refine Z.ixT hb (fr1 g) ?_
    walk_at "z"
    refine Z.iC (mul_ok Bf.2 Bg.2) ?_
    walk_at "z"
    exact ⟨_, _, rfl, up_B (mul_B Bf.2 Bg.2) (by decide), fun z => absurd z (Int.mul_ne_zero hf hg), fun _ H' c nc k e => q _ _ nc k e⟩
theorem ok_minus {P : Program} {w : World} {K : PySem.W.Frag} {mg : Str → Option Value} {base : Heap} (T : T P K mg base) : FnOk P w K mg base CX0 4 T.a_minus T.fd_minus ["a", "b"] (spF2 K fminus) := by
  refine T.F_minus.ok sc_minus (fun vs H Q E h => ?_) (fun cdv A outer s H vs Q E hr h => ?_)
  · obtain ⟨a, b, f, g, rfl, _⟩ := h
    rfl
  · obtain ⟨a, b, f, g, rfl, ha, hb, hf, hg, Bf, Bg, q⟩ := h
    refine ⟨_, (pss_one (ps_ret (pe_call (ok_lowest T) (hr.mono (by decide)) (by rfl) T.g_lowest T.F_lowest.kp T.b_lowest .nil passL (pa_cons (pe_op op_sub (pe_op op_mulW (pe_ix ix_tup (pv 0) pe_int (fun _ _ => rfl)) (pe_ix ix_tup (pv 1) pe_int (fun _ _ => rfl))) (pe_op op_mulW (pe_ix ix_tup (pv 1) pe_int (fun _ _ => rfl)) (pe_ix ix_tup (pv 0) pe_int (fun _ _ => rfl)))) (pa_cons (pe_op op_mulW (pe_ix ix_tup (pv 0) pe_int (fun _ _ => rfl)) (pe_ix ix_tup (pv 1) pe_int (fun _ _ => rfl))) pa_nil))))), ?_⟩
    walk_at "z0"
    walk_at "z"
    refine Z.ixT ha (fr0 f) ?_
    walk_at "z"
    refine Z.ixT hb (fr1 g) ?_
    walk_at "z"
    refine Z.iC (mul_ok Bf.1 Bg.2) ?_
    walk_at "z"
    refine Z.ixT hb (fr0 g) ?_
    walk_at "z"
    refine Z.ixT ha (fr1 f) ?_
    walk_at "z"
    refine Z.iC (mul_ok Bg.1 Bf.2) ?_
    walk_at "z"
    refine Z.ixT ha (fr1 f) ?_
    walk_at "z"
    refine Z.ixT hb (fr1 g) ?_
    walk_at "z"
    refine Z.iC (mul_ok Bf.2 Bg.2) ?_
    walk_at "z"
    exact ⟨_, _, rfl, up_B (mul_B Bf.2 Bg.2) (by decide), fun z => absurd z (Int.mul_ne_zero hf hg), fun _ H' c nc k e => q _ _ nc k e⟩
theorem ok_times {P : Program} {w : World} {K : PySem.W.Frag} {mg : Str → Option Value} {base : Heap} (T : T P K mg base) : FnOk P w K mg base CX0 4 T.a_times T.fd_times ["a", "b"] (spF2 K ftimes) := by
  refine T.F_times.ok sc_times (fun vs H Q E h => ?_) (fun cdv A outer s H vs Q E hr h => ?_)
  · obtain ⟨a, b, f, g, rfl, _⟩ := h
    rfl
  · obtain ⟨a, b, f, g, rfl, ha, hb, hf, hg, Bf, Bg, q⟩ := h
    refine ⟨_, (pss_one (ps_ret (pe_call (ok_lowest T) (hr.mono (by decide)) (by rfl) T.g_lowest T.F_lowest.kp T.b_lowest .nil passL (pa_cons (pe_op op_mulW (pe_ix ix_tup (pv 0) pe_int (fun _ _ => rfl)) (pe_ix ix_tup (pv 1) pe_int (fun _ _ => rfl))) (pa_cons (pe_op op_mulW (pe_ix ix_tup (pv 0) pe_int (fun _ _ => rfl)) (pe_ix ix_tup (pv 1) pe_int (fun _ _ => rfl))) pa_nil))))), ?_⟩
    walk_at "z0"
    walk_at "z"
    refine Z.ixT ha (fr0 f) ?_
    walk_at "z"
    refine Z.ixT hb (fr0 g) ?_
    walk_at "z"
    refine Z.iC (mul_ok Bf.1 Bg.1) ?_
    walk_at "z"
    refine Z.ixT ha (fr1 f) ?_
    walk_at "z"
    refine Z.ixT hb (fr1 g) ?_
    walk_at "z"
    refine Z.iC (mul_ok Bf.2 Bg.2) ?_
    walk_at "z"
    exact ⟨_, _, rfl, up_B (mul_B Bf.2 Bg.2) (by decide), fun z => absurd z (Int.mul_ne_zero hf hg), fun _ H' c nc k e => q _ _ nc k e⟩
def spOver (K : PySem.W.Frag) (C : Addr) : Sp := fun vs H Q E => ∃ (a b : Addr) (f g : Fr), vs = [.ref a, .ref b] ∧ FrAt K H a f ∧ FrAt K H b g ∧ f.2 ≠ 0 ∧ FrB 3900 f ∧ FrB 3900 g ∧ (g.1 = 0 → E (.ref C) none H) ∧ (g.1 ≠ 0 → ∀ H' c, H c = none → Kp [] H H' → FrAt K H' c (fover f g) → Q (.ref c) H')
theorem ok_over {P : Program} {w : World} {K : PySem.W.Frag} {mg : Str → Option Value} {base : Heap} (T : T P K mg base) : FnOk P w K mg base (L2.CX P w) 4 T.a_over T.fd_over ["a", "b"] (spOver K T.C_ZeroDenominator) := by
  refine T.F_over.okX sc_over (fun vs H Q E h => ?_) (fun cdv A outer s H vs Q E hr h => ?_)
  · obtain ⟨a, b, f, g, rfl, _⟩ := h
    rfl
  · obtain ⟨a, b, f, g, rfl, ha, hb, hf, Bf, Bg, q0, q1⟩ := h
    refine ⟨_, (pss_one (ps_ret (pe_call (ok_lowest T) (hr.mono (by decide)) (by rfl) T.g_lowest T.F_lowest.kp T.b_lowest .nil (passes_call (takes_of rfl rfl rfl rfl) (fun _ _ _ _ h => h)) (pa_cons (pe_op op_mulW (pe_ix ix_tup (pv 0) pe_int (fun _ _ => rfl)) (pe_ix ix_tup (pv 1) pe_int (fun _ _ => rfl))) (pa_cons (pe_op op_mulW (pe_ix ix_tup (pv 0) pe_int (fun _ _ => rfl)) (pe_ix ix_tup (pv 1) pe_int (fun _ _ => rfl))) pa_nil))))), ?_⟩
    walk_at "z0"
    walk_at "z"
    refine Z.ixT ha (fr0 f) ?_
    walk_at "z"
    refine Z.ixT hb (fr1 g) ?_
    walk_at "z"
    refine Z.iC (mul_ok Bf.1 Bg.2) ?_
    walk_at "z"
    refine Z.ixT ha (fr1 f) ?_
    walk_at "z"
    refine Z.ixT hb (fr0 g) ?_
    walk_at "z"
    refine Z.iC (mul_ok Bf.2 Bg.1) ?_
    walk_at "z"
    refine ⟨_, _, rfl, up_B (mul_B Bf.2 Bg.1) (by decide), fun z => ?_, fun z H' c nc k e => ?_⟩
    · rcases Int.mul_eq_zero.mp z with z | z
      · exact absurd z hf
      · exact q0 z
    · exact q1 (fun y => z (by rw [y, Int.mul_zero])) _ _ nc k e
def spLess (K : PySem.W.Frag) : Sp := fun vs H Q _ => ∃ (a b : Addr) (f g : Fr), vs = [.ref a, .ref b] ∧ FrAt K H a f ∧ FrAt K H b g ∧ FrB 3900 f ∧ FrB 3900 g ∧ Q (.bl (fless f g)) H
theorem ok_less {P : Program} {w : World} {K : PySem.W.Frag} {mg : Str → Option Value} {base : Heap} (T : T P K mg base) : FnOk P w K mg base CX0 1 T.a_less T.fd_less ["a", "b"] (spLess K) := by
  refine T.F_less.ok sc_less (fun vs H Q E h => ?_) (fun cdv A outer s H vs Q E hr h => ?_)
  · obtain ⟨a, b, f, g, rfl, _⟩ := h
    rfl
  · obtain ⟨a, b, f, g, rfl, ha, hb, Bf, Bg, q⟩ := h
    refine ⟨_, (pss_one (ps_ret (pe_cmpR op_lt (pe_op op_mulW (pe_ix ix_tup (pv 0) pe_int (fun _ _ => rfl)) (pe_ix ix_tup (pv 1) pe_int (fun _ _ => rfl))) (pe_op op_mulW (pe_ix ix_tup (pv 1) pe_int (fun _ _ => rfl)) (pe_ix ix_tup (pv 0) pe_int (fun _ _ => rfl))) (nomark _)))), ?_⟩
    walk_at "z0"
    walk_at "z"
    refine Z.ixT ha (fr0 f) ?_
    walk_at "z"
    refine Z.ixT hb (fr1 g) ?_
    walk_at "z"
    refine Z.iC (mul_ok Bf.1 Bg.2) ?_
    walk_at "z"
    refine Z.ixT hb (fr0 g) ?_
    walk_at "z"
    refine Z.ixT ha (fr1 f) ?_
    walk_at "z"
    refine Z.iC (mul_ok Bg.1 Bf.2) ?_
    walk_at "z"
    exact q
/-- lists of fractions -/
def FrsAt (K : PySem.W.Frag) (H : Hp) (as : List Addr) (fs : List Fr) : Prop := Paired (fun a f => FrAt K H a f) as fs
theorem FrsAt.kp {M : List Addr} {H H' : Hp} {as : List Addr} {fs : List Fr} (h : FrsAt K H as fs) (k : Kp M H H') (n : ∀ x ∈ M, NoTup H x) : FrsAt K H' as fs := by
  induction h with
  | nil => exact .nil
  | cons r t ih => exact .cons (FrAt.kp r k n) ih
theorem FrsAt.kp0 {H H' : Hp} {as : List Addr} {fs : List Fr} (h : FrsAt K H as fs) (k : Kp [] H H') : FrsAt K H' as fs := h.kp k fun _ h => by cases h
theorem FrsAt.kpl {H H' : Hp} {as : List Addr} {fs : List Fr} {l : Addr} {xs : List V} (h : FrsAt K H as fs) (k : Kp [l] H H') (e : H l = some (.lst xs)) : FrsAt K H' as fs := h.kp k fun x hx => by
  rw [List.mem_singleton.mp hx]
  exact NoTup.lst e
theorem FrsAt.get {H : Hp} : ∀ {as : List Addr} {fs : List Fr} {i : Nat} {v : V}, FrsAt K H as fs → (as.map V.ref)[i]? = some v → ∃ a f, v = .ref a ∧ fs[i]? = some f ∧ FrAt K H a f
  | _, _, i, v, .nil, h => by simp at h
  | _, _, 0, v, .cons r t, h => by
    simp at h
    exact ⟨_, _, h.symm, rfl, r⟩
  | _, _, i + 1, v, .cons r t, h => by
    obtain ⟨a, f, e1, e2, e3⟩ := FrsAt.get (i := i) t (by simpa using h)
    exact ⟨a, f, e1, by simpa using e2, e3⟩
theorem FrsAt.len {H : Hp} {as : List Addr} {fs : List Fr} (h : FrsAt K H as fs) : as.length = fs.length := Paired.length h
theorem FrsAt.snoc {H : Hp} {as : List Addr} {fs : List Fr} {a : Addr} {f : Fr} (h : FrsAt K H as fs) (r : FrAt K H a f) : FrsAt K H (as ++ [a]) (fs ++ [f]) := by
  induction h with
  | nil => exact .cons r .nil
  | cons r t ih => exact .cons r ih
theorem FrsAt.app {H : Hp} {as bs : List Addr} {fs gs : List Fr} (h : FrsAt K H as fs) (r : FrsAt K H bs gs) : FrsAt K H (as ++ bs) (fs ++ gs) := by
  induction h with
  | nil => exact r
  | cons r t ih => exact .cons r ih
theorem FrsAt.take {H : Hp} : ∀ {as : List Addr} {fs : List Fr} (i : Nat), FrsAt K H as fs → FrsAt K H (as.take i) (fs.take i)
  | _, _, 0, _ => by rw [List.take_zero, List.take_zero]; exact .nil
  | _, _, i + 1, .nil => by rw [List.take_nil, List.take_nil]; exact .nil
  | _, _, i + 1, .cons r t => .cons r (FrsAt.take i t)
theorem FrsAt.drop {H : Hp} : ∀ {as : List Addr} {fs : List Fr} (i : Nat), FrsAt K H as fs → FrsAt K H (as.drop i) (fs.drop i)
  | _, _, 0, h => h
  | _, _, i + 1, .nil => by rw [List.drop_nil, List.drop_nil]; exact .nil
  | _, _, i + 1, .cons r t => FrsAt.drop i t
/-- data -/
def frD (f : Fr) : PyData := .tuple [.int f.1, .int f.2]
theorem dpF {H : Hp} {a : Addr} {f : Fr} (h : FrAt K H a f) : Dp K H (.ref a) (frD f) := .tup h (.cons (.int _) (.cons (.int _) .nil))
theorem frD_sh (f : Fr) : SeqAt.shaped (frD f) = true := by
  simp [frD, SeqAt.shaped, PyData.canLay0, PyData.canLayAll0, PyData.depth, PyData.depthAll]
theorem frD_eq (f : Fr) : PyData.eqv (frD f) (frD f) = true := SeqAt.eqv_refl _ (by simp [frD, PyData.canLay0, PyData.canLayAll0])
theorem neFF {K : PySem.W.Frag} {H : Hp} {Q : VK} {a b : Addr} {f : Fr} (h1 : FrAt K H a f) (h2 : FrAt K H b f) (q : Q (.bl false) H) : rNeD K (.ref a) (.ref b) H Q :=
  ⟨_, _, dpF h1, dpF h2, frD_sh _, frD_sh _, by rw [frD_eq]; exact q⟩
theorem dpFs {K : PySem.W.Frag} {H : Hp} : ∀ {as : List Addr} {fs : List Fr}, FrsAt K H as fs → DpAll K H (as.map V.ref) (fs.map frD)
  | _, _, .nil => .nil
  | _, _, .cons r t => .cons (dpF r) (dpFs t)
theorem layFs : ∀ fs : List Fr, PyData.canLayAll0 (fs.map frD) = true
  | [] => by simp [PyData.canLayAll0]
  | f :: r => by simp [PyData.canLayAll0, frD, PyData.canLay0, layFs r]
theorem depthFs : ∀ fs : List Fr, PyData.depthAll (fs.map frD) ≤ 1
  | [] => by simp [PyData.depthAll]
  | f :: r => by
    have := depthFs r
    simp [PyData.depthAll, frD, PyData.depth]
    exact Nat.max_le.mpr ⟨by omega, this⟩
theorem shFs (fs : List Fr) : SeqAt.shaped (.list (fs.map frD)) = true := by
  have := depthFs fs
  simp only [SeqAt.shaped, PyData.canLay0, PyData.depth, layFs, Bool.true_and]
  exact decide_eq_true (by omega)
theorem neFL {K : PySem.W.Frag} {H : Hp} {Q : VK} {a b : Addr} {as : List Addr} {fs : List Fr} (h1 : H a = some (.lst (as.map V.ref))) (h2 : H b = some (.lst (as.map V.ref))) (h : FrsAt K H as fs) (q : Q (.bl false) H) : rNeD K (.ref a) (.ref b) H Q :=
  ⟨_, _, .lst (lstL h1) (dpFs h), .lst (lstL h2) (dpFs h), shFs _, shFs _, by rw [SeqAt.eqv_refl (.list (fs.map frD)) (by simp [PyData.canLay0, layFs])]; exact q⟩
end frac
/-- sums, from the left -/
def fsum (t : Fr) (fs : List Fr) : Fr := fs.foldl fplus t
theorem fsum_B : ∀ {fs : List Fr} {t : Fr} {n m : Nat}, FrB n t → t.2 ≠ 0 → (∀ f ∈ fs, FrB m f ∧ f.2 ≠ 0) → FrB (n + fs.length * (m + 1)) (fsum t fs) ∧ (fsum t fs).2 ≠ 0
  | [], t, n, m, h, h0, _ => by
    refine ⟨?_, h0⟩
    show FrB (n + 0 * (m + 1)) t
    rw [Nat.zero_mul]
    exact h
  | f :: r, t, n, m, h, h0, hf => by
    have h1 := hf f (by simp)
    have hp := fplus_pos h0 h1.2
    have ih := fsum_B (fs := r) (t := fplus t f) (n := n + m + 1) (m := m) (fplus_B h h1.1 h0 h1.2) (by omega) fun g hg => hf g (by simp [hg])
    refine ⟨?_, ih.2⟩
    have e : n + (f :: r).length * (m + 1) = n + m + 1 + r.length * (m + 1) := by
      rw [List.length_cons, Nat.add_mul]
      omega
    rw [e]
    exact ih.1
theorem fsum_take {t : Fr} {fs : List Fr} {i : Nat} {f : Fr} (h : fs[i]? = some f) : fsum t (fs.take (i + 1)) = fplus (fsum t (fs.take i)) f := by
  unfold fsum
  rw [List.take_add_one, h, List.foldl_append]
  rfl
def spSumOf (K : PySem.W.Frag) (m k : Nat) : Sp := fun vs H Q _ => ∃ (a : Addr) (as : List Addr) (fs : List Fr), vs = [.ref a] ∧ SqL K H a (as.map V.ref) ∧ FrsAt K H as fs ∧ (∀ f ∈ fs, FrB m f ∧ f.2 ≠ 0) ∧ fs.length ≤ k ∧ ∀ H' c, Kp [] H H' → FrAt K H' c (fsum (0, 1) fs) → Q (.ref c) H'
theorem ok_sum_of_any {P : Program} {w : World} {K : PySem.W.Frag} {mg : Str → Option Value} {base : Heap} (T : T P K mg base) (m k : Nat) (hm : m ≤ 3900) (hk : 1 + k * (m + 1) ≤ 3900) : FnOk P w K mg base CX0 5 T.a_sum_of T.fd_sum_of ["fractions"] (spSumOf K m k) := by
  refine T.F_sum_of.ok sc_sum_of (fun vs H Q E h => ?_) (fun cdv A outer s H vs Q E hr h => ?_)
  · obtain ⟨a, as, fs, rfl, _⟩ := h
    rfl
  · obtain ⟨a, as, fs, rfl, hS, hF, hB, hl, q⟩ := h
    refine ⟨_, (pss_cons (ps_set (i := 1) sc_sum_of.nd rfl (by first | exact Or.inl rfl | exact Or.inr rfl) (pe_glob (v := .ref T.k_ZERO) (by rfl) T.g_ZERO rfl))
      (pss_cons (ps_for PassesOwn.never rfl (pi_list (pv 0)) (pg_name (i := 2) sc_sum_of.nd rfl (by first | exact Or.inl rfl | exact Or.inr rfl)) (pss_one (ps_set (i := 1) sc_sum_of.nd rfl (by first | exact Or.inl rfl | exact Or.inr rfl) (pe_call (ok_plus T) (hr.mono (by decide)) (by rfl) T.g_plus T.F_plus.kp T.b_plus .nil pass0 (pa_cons (pv 1) (pa_cons (pv 2) pa_nil))))))
      (pss_one (ps_ret (pv 1))))), ?_⟩
    walk_at "z0"
    walk_at "z"
    refine Z.forl (as.map V.ref) hS (fun i σ' H' => ∃ c y, σ' = [some (.ref a), some (.ref c), y] ∧ Kp [] H H' ∧ FrAt K H' c (fsum (0, 1) (fs.take i))) ?_ ?_ ?_ ?_
    · exact ⟨T.k_ZERO, none, rfl, Kp.refl _, T.q_ZERO H⟩
    · rintro i σ' H' _ ⟨c, y, rfl, k2, _⟩
      exact k2.seq nin0 hS
    · rintro i v σ' H' hv ⟨c, y, rfl, k2, e2⟩
      obtain ⟨x, f, rfl, hf, hx⟩ := (hF.kp0 k2).get hv
      have hfB := hB f (List.mem_of_getElem? hf)
      have hB1 := fsum_B (fs := fs.take i) (t := (0, 1)) (n := 1) (m := m) ⟨by decide, by decide⟩ (by decide) fun g hg => hB g (List.mem_of_mem_take hg)
      have hle : 1 + (fs.take i).length * (m + 1) ≤ 3900 := Nat.le_trans (Nat.add_le_add_left (Nat.mul_le_mul_right _ (Nat.le_trans (by rw [List.length_take]; exact Nat.min_le_right _ _) hl)) 1) hk
      walk_at "z"
      refine ⟨c, x, _, f, rfl, e2, hx, hB1.2, hfB.2, hB1.1.mono hle, hfB.1.mono hm, fun H3 d nd k3 e3 => ?_⟩
      walk_at "z"
      exact ⟨d, _, rfl, k2.trans k3, by rw [fsum_take hf]; exact e3⟩
    · rintro σ' H' ⟨c, y, rfl, k2, e2⟩
      walk_at "z"
      rw [List.length_map, hF.len, List.take_length] at e2
      exact q _ _ k2 e2

/-! ### fractions as rational numbers -/
def rv (f : Int × Int) : Rat := (f.1 : Rat) / (f.2 : Rat)
theorem ratNe {q : Int} (h : q ≠ 0) : (q : Rat) ≠ 0 := fun z => h (by exact_mod_cast z)
theorem ratPos {q : Int} (h : 0 < q) : (0 : Rat) < (q : Rat) := by exact_mod_cast h
theorem div_eqR {a b c : Rat} (h : b ≠ 0) : a / b = c ↔ a = c * b := by
  constructor
  · rintro rfl
    rw [Rat.div_mul_cancel h]
  · rintro rfl
    rw [Rat.mul_div_cancel h]
theorem rv_lo {p q : Int} (h : q ≠ 0) : rv (lo p q) = (p : Rat) / (q : Rat) := by
  obtain ⟨a, b, e, h1, h2, h3, h4⟩ := lo_spec (p := p) h
  rw [e]
  have hb : (b : Rat) ≠ 0 := ratNe (by omega)
  have hg : (gI p q : Rat) ≠ 0 := ratNe (gI_ne h)
  have hq : (q : Rat) = (gI p q : Rat) * (b : Rat) := by exact_mod_cast h4
  have hp : (p : Rat) = (gI p q : Rat) * (a : Rat) := by exact_mod_cast h3
  show (a : Rat) / (b : Rat) = (p : Rat) / (q : Rat)
  rw [hp, hq]
  grind

/-- a fraction in lowest terms -/
def Low (f : Int × Int) : Prop := 1 ≤ f.2 ∧ Nat.gcd f.1.natAbs f.2.natAbs = 1
theorem lo_low {p q : Int} (h : q ≠ 0) : Low (lo p q) := ⟨lo_pos h, lo_cop h⟩
theorem Low.ne {f : Int × Int} (h : Low f) : f.2 ≠ 0 := by have := h.1; omega
theorem Low.pos {f : Int × Int} (h : Low f) : (0 : Rat) < (f.2 : Rat) := ratPos (by have := h.1; omega)
theorem rv_eqI {f g : Int × Int} (h1 : f.2 ≠ 0) (h2 : g.2 ≠ 0) : rv f = rv g ↔ f.1 * g.2 = g.1 * f.2 := by
  have a1 := ratNe h1
  have a2 := ratNe h2
  unfold rv
  constructor
  · intro h
    have h3 : (f.1 : Rat) * (g.2 : Rat) = (g.1 : Rat) * (f.2 : Rat) := by grind
    exact_mod_cast h3
  · intro h
    have h3 : (f.1 : Rat) * (g.2 : Rat) = (g.1 : Rat) * (f.2 : Rat) := by exact_mod_cast h
    grind
theorem low_eq {f g : Int × Int} (h1 : Low f) (h2 : Low g) (h : rv f = rv g) : f = g := by
  have h3 := (rv_eqI h1.ne h2.ne).mp h
  obtain ⟨a, b⟩ := f
  obtain ⟨c, d⟩ := g
  obtain ⟨hb, h1⟩ := h1
  obtain ⟨hd, h2⟩ := h2
  dsimp only at *
  have e1 : a.natAbs * d.natAbs = c.natAbs * b.natAbs := by rw [← Int.natAbs_mul, ← Int.natAbs_mul, h3]
  have d1 : b.natAbs ∣ d.natAbs := by
    have : b.natAbs ∣ a.natAbs * d.natAbs := ⟨c.natAbs, by rw [e1, Nat.mul_comm]⟩
    exact Nat.Coprime.dvd_of_dvd_mul_left (Nat.Coprime.symm h1) this
  have d2 : d.natAbs ∣ b.natAbs := by
    have : d.natAbs ∣ c.natAbs * b.natAbs := ⟨a.natAbs, by rw [← e1, Nat.mul_comm]⟩
    exact Nat.Coprime.dvd_of_dvd_mul_left (Nat.Coprime.symm h2) this
  have e2 := Nat.dvd_antisymm d1 d2
  have e3 : b = d := by omega
  subst e3
  have e4 : a = c := Int.eq_of_mul_eq_mul_right (by omega) h3
  rw [e4]
theorem rv_lt {f g : Int × Int} (h1 : 1 ≤ f.2) (h2 : 1 ≤ g.2) : f.1 * g.2 < g.1 * f.2 ↔ rv f < rv g := by
  have a1 : (0 : Rat) < (f.2 : Rat) := ratPos (by omega)
  have a2 : (0 : Rat) < (g.2 : Rat) := ratPos (by omega)
  have e1 : (f.1 : Rat) = rv f * (f.2 : Rat) := by unfold rv; rw [Rat.div_mul_cancel (ratNe (by omega))]
  have e2 : (g.1 : Rat) = rv g * (g.2 : Rat) := by unfold rv; rw [Rat.div_mul_cancel (ratNe (by omega))]
  have hp : (0 : Rat) < (f.2 : Rat) * (g.2 : Rat) := Rat.mul_pos a1 a2
  have k : f.1 * g.2 < g.1 * f.2 ↔ (f.1 : Rat) * (g.2 : Rat) < (g.1 : Rat) * (f.2 : Rat) := by
    constructor
    · intro h; exact_mod_cast h
    · intro h; exact_mod_cast h
  rw [k, e1, e2]
  have e3 : rv f * (f.2 : Rat) * (g.2 : Rat) = rv f * ((f.2 : Rat) * (g.2 : Rat)) := by grind
  have e4 : rv g * (g.2 : Rat) * (f.2 : Rat) = rv g * ((f.2 : Rat) * (g.2 : Rat)) := by grind
  rw [e3, e4]
  constructor
  · intro h
    by_cases z : rv f < rv g
    · exact z
    · by_cases z2 : rv f = rv g
      · rw [z2] at h; exact absurd h (Rat.lt_irrefl)
      · have z3 : rv g < rv f := by grind
        have := Rat.mul_lt_mul_of_pos_right z3 hp
        grind
  · intro h
    exact Rat.mul_lt_mul_of_pos_right h hp
theorem rv_pos {f : Int × Int} (h1 : 1 ≤ f.2) : 0 < f.1 ↔ 0 < rv f := by
  have := rv_lt (f := (0, 1)) (g := f) (by decide) h1
  have e : rv (0, 1) = 0 := by unfold rv; grind
  rw [e] at this
  rw [← this]
  show _ ↔ 0 * f.2 < f.1 * 1
  rw [Int.zero_mul, Int.mul_one]
theorem rv_int (n : Int) : rv (n, 1) = (n : Rat) := by unfold rv; grind

/-! ### thresholds -/
/-- the sum of the lesser ones of t and the weights -/
def cap (t : Rat) : List Rat → Rat
  | [] => 0
  | w :: r => (if w < t then w else t) + cap t r
structure Thr (ws : List Rat) (k : Nat) (t : Rat) : Prop where
  small : ws.length ≤ k → t = 0
  big : k < ws.length → 0 < t ∧ cap t ws = (k : Rat) * t
theorem cap_app (t : Rat) : ∀ a b : List Rat, cap t (a ++ b) = cap t a + cap t b
  | [], b => by show cap t b = 0 + cap t b; grind
  | w :: r, b => by
    show (if w < t then w else t) + cap t (r ++ b) = (if w < t then w else t) + cap t r + cap t b
    rw [cap_app t r b]
    grind
theorem cap_all {t : Rat} : ∀ {ws : List Rat}, (∀ w ∈ ws, t ≤ w) → cap t ws = (ws.length : Rat) * t
  | [], _ => by show (0 : Rat) = ((0 : Nat) : Rat) * t; grind
  | w :: r, h => by
    have h1 := h w (by simp)
    show (if w < t then w else t) + cap t r = _
    rw [cap_all (ws := r) fun z hz => h z (by simp [hz]), if_neg (by grind), List.length_cons]
    have e : ((r.length + 1 : Nat) : Rat) = (r.length : Rat) + 1 := by exact_mod_cast rfl
    rw [e]
    grind
theorem cap_ge {t : Rat} (ht : 0 ≤ t) : ∀ {ws : List Rat}, (∀ w ∈ ws, 0 < w) → 0 ≤ cap t ws
  | [], _ => by show (0 : Rat) ≤ 0; grind
  | w :: r, h => by
    have h1 := h w (by simp)
    have h2 := cap_ge ht (ws := r) fun z hz => h z (by simp [hz])
    show 0 ≤ (if w < t then w else t) + cap t r
    split <;> grind
theorem cap_one {s t w : Rat} (hs : 0 < s) (h : s < t) (hw : 0 < w) : (if w < t then w else t) * s ≤ (if w < s then w else s) * t ∧ (w < t → (if w < t then w else t) * s < (if w < s then w else s) * t) := by
  have ht : 0 < t := by grind
  by_cases h1 : w < s
  · have h2 : w < t := by grind
    rw [if_pos h1, if_pos h2]
    have := Rat.mul_lt_mul_of_pos_left h hw
    exact ⟨by grind, fun _ => this⟩
  · rw [if_neg h1]
    by_cases h2 : w < t
    · rw [if_pos h2]
      have := Rat.mul_lt_mul_of_pos_right h2 hs
      have e : s * t = t * s := Rat.mul_comm s t
      rw [e]
      exact ⟨by grind, fun _ => this⟩
    · rw [if_neg h2]
      exact ⟨by grind, fun z => absurd z h2⟩
theorem cap_cmp {s t : Rat} (hs : 0 < s) (h : s < t) : ∀ {ws : List Rat}, (∀ w ∈ ws, 0 < w) → cap t ws * s ≤ cap s ws * t ∧ (cap t ws * s = cap s ws * t → ∀ w ∈ ws, t ≤ w)
  | [], _ => ⟨by show (0 : Rat) * s ≤ 0 * t; grind, fun _ w hw => by cases hw⟩
  | w :: r, hp => by
    have h1 := cap_one hs h (hp w (by simp))
    have h2 := cap_cmp hs h (ws := r) fun z hz => hp z (by simp [hz])
    have e1 : cap t (w :: r) = (if w < t then w else t) + cap t r := rfl
    have e2 : cap s (w :: r) = (if w < s then w else s) + cap s r := rfl
    rw [e1, e2, Rat.add_mul, Rat.add_mul]
    generalize (if w < t then w else t) * s = a at *
    generalize (if w < s then w else s) * t = b at *
    generalize cap t r * s = c at *
    generalize cap s r * t = d at *
    refine ⟨by grind, fun e z hz => ?_⟩
    rcases List.mem_cons.mp hz with rfl | hz
    · by_cases hw : z < t
      · have := h1.2 hw
        grind
      · grind
    · exact h2.2 (by grind) z hz
theorem natR_lt {a b : Nat} (h : a < b) : (a : Rat) < (b : Rat) := by exact_mod_cast h
/-- above the threshold there is room -/
theorem thr_le {ws : List Rat} {k : Nat} {t s : Rat} (hp : ∀ w ∈ ws, 0 < w) (h : Thr ws k t) (hk : k < ws.length) (hs : 0 < s) (hc : cap s ws ≤ (k : Rat) * s) : t ≤ s := by
  by_cases z : t ≤ s
  · exact z
  · have hst : s < t := by grind
    obtain ⟨ht, e⟩ := h.big hk
    have h1 := cap_cmp hs hst hp
    have h2 : cap s ws * t ≤ (k : Rat) * s * t := Rat.mul_le_mul_of_nonneg_right hc (by grind)
    rw [e] at h1
    have h3 : (k : Rat) * t * s = (k : Rat) * s * t := by grind
    have h4 := h1.2 (by grind)
    have h5 := cap_all h4
    rw [e] at h5
    have h6 := Rat.mul_lt_mul_of_pos_right (natR_lt hk) ht
    grind
theorem thr_ge {ws : List Rat} {k : Nat} {t s : Rat} (hp : ∀ w ∈ ws, 0 < w) (h : Thr ws k t) (hk : k < ws.length) (hs : 0 < s) (hc : (k : Rat) * s ≤ cap s ws) : s ≤ t := by
  by_cases z : s ≤ t
  · exact z
  · have hst : t < s := by grind
    obtain ⟨ht, e⟩ := h.big hk
    have h1 := cap_cmp ht hst hp
    have h2 : (k : Rat) * s * t ≤ cap s ws * t := Rat.mul_le_mul_of_nonneg_right hc (by grind)
    rw [e] at h1
    have h3 : (k : Rat) * t * s = (k : Rat) * s * t := by grind
    have h4 := h1.2 (by grind)
    have h7 : ∀ w ∈ ws, t ≤ w := fun w hw => by have := h4 w hw; grind
    have h5 := cap_all h7
    rw [e] at h5
    have h6 := Rat.mul_lt_mul_of_pos_right (natR_lt hk) ht
    grind
theorem thr_uniq {ws : List Rat} {k : Nat} {t s : Rat} (hp : ∀ w ∈ ws, 0 < w) (h : Thr ws k t) (h2 : Thr ws k s) : t = s := by
  by_cases hk : k < ws.length
  · obtain ⟨hs, e⟩ := h2.big hk
    have a := thr_le hp h hk hs (by grind)
    have b := thr_ge hp h hk hs (by grind)
    grind
  · rw [h.small (by omega), h2.small (by omega)]
theorem thr_nonneg {ws : List Rat} {k : Nat} {t : Rat} (h : Thr ws k t) : 0 ≤ t := by
  by_cases hk : k < ws.length
  · have := (h.big hk).1; grind
  · rw [h.small (by omega)]; grind
theorem cap_perm {t : Rat} {a b : List Rat} (h : a.Perm b) : cap t a = cap t b := by
  induction h with
  | nil => rfl
  | cons x _ ih => show _ + cap t _ = _ + cap t _; rw [ih]
  | swap x y l => show _ + (_ + cap t l) = _ + (_ + cap t l); grind
  | trans _ _ h1 h2 => exact h1.trans h2
theorem Thr.perm {a b : List Rat} {k : Nat} {t : Rat} (h : Thr a k t) (p : a.Perm b) : Thr b k t := ⟨fun hl => h.small (by rw [p.length_eq]; exact hl), fun hl => by rw [← cap_perm p]; exact h.big (by rw [p.length_eq]; exact hl)⟩

/-! ### the law's own fractions -/
def spLow (K : PySem.W.Frag) : Sp := fun vs H Q _ => ∃ p q : Int, vs = [.int p, .int q] ∧ 1 ≤ q ∧ q.natAbs < 2 ^ 1900 ∧ ∀ H' b, H b = none → Kp [] H H' → FrAt K H' b (lo p q) → Q (.ref b) H'
theorem abs_if (i : Int) : (if i < 0 then -i else i) = (i.natAbs : Int) := by
  split <;> omega
theorem euc_4000 {p : Nat × Nat} (h : p.2 < 2 ^ 1900) : (euc 4000 p).2 = 0 := by
  rw [show (4000 : Nat) = 2 * 1900 + 200 from rfl, euc_add, euc_zero 200 (euc_end 1900 p h)]
  exact euc_end 1900 p h
theorem gI_pos {p q : Int} (h : 1 ≤ q) : gI p q = (gN p q : Int) := by
  unfold gI
  rw [if_neg (by omega)]

theorem ok__law_low {P : Program} {w : World} {K : PySem.W.Frag} {mg : Str → Option Value} {base : Heap} (T : T P K mg base) : FnOk P w K mg base CX0 1 T.a__law_low T.fd__law_low ["p", "q"] (spLow K) := by
  refine T.F__law_low.ok sc__law_low (fun vs H Q E h => ?_) (fun cdv A outer s H vs Q E hr h => ?_)
  · obtain ⟨p, q, rfl, _⟩ := h
    rfl
  · obtain ⟨p, q, rfl, hq, hb, q1⟩ := h
    have hg := gI_ne (p := p) (q := q) (by omega)
    have hdv : Z.CDivA p (gI p q) := Z.divA (b := 1900) hg (by rw [gI_abs]; exact Nat.lt_of_le_of_lt (gN_le (by omega)) hb) (by decide) (by decide)
    have hdv2 : Z.CDivA q (gI p q) := hdv
    have eq : q = (q.natAbs : Int) := by omega
    refine ⟨_, (pss_cons (ps_par (i := 2) (j := 3) rfl sc__law_low.nd rfl rfl (by decide) rfl rfl (pa_cons (pe_callB c_abs (by rfl) T.z_abs (by decide +kernel) (pa_cons (pv 0) pa_nil)) (pa_cons (pv 1) pa_nil)) (by rfl))
      (Z.pss_consJ (ps_for PassesOwn.never rfl (pi_range1 (by rfl) T.z_range (pa_cons pe_int pa_nil)) (pg_name (i := 4) sc__law_low.nd rfl (by first | exact Or.inl rfl | exact Or.inr rfl)) (pss_cons (ps_if (pt_cmpR op_eq (pv 3) pe_int (nomark _)) (pss_one ps_break) pss_nil)
      (pss_one (ps_par (i := 2) (j := 3) rfl sc__law_low.nd rfl rfl (by decide) rfl rfl (pa_cons (pv 3) (pa_cons (pe_op op_mod (pe_callTy c_int (by rfl) T.z_int (by decide +kernel) (pa_cons (pv 2) pa_nil)) (pv 3)) pa_nil)) (by rfl)))))
      (pss_one (ps_ret (pe_tup (pa_cons (pe_op Z.op_fdivA (pv 0) (pv 2)) (pa_cons (pe_op Z.op_fdivA (pv 1) (pv 2)) pa_nil))))))), ?_⟩
    walk_at "z0"
    walk_at "z"
    rw [abs_if]
    refine Z.seqJ (fun σ' H' => ∃ y z : Option V, σ' = [some (.int p), some (.int q), some (.int (gI p q)), y, z] ∧ H' = H) ?_ ?_
    · rintro σ' H' ⟨y, z, rfl, rfl⟩
      walk_at "z"
      refine Z.iC hdv ?_
      walk_at "z"
      refine Z.iC hdv2 ?_
      refine Z.tupK (fun b H1 nb k1 e1 => ?_)
      exact q1 _ _ nb k1 (tupT e1)
    · intro N jn
      walk_at "z"
      refine Z.forr 4000 ?_ (by decide) (fun i σ' H' => ∃ z : Option V, σ' = [some (.int p), some (.int q), some (.int ((euc i (p.natAbs, q.natAbs)).1 : Int)), some (.int ((euc i (p.natAbs, q.natAbs)).2 : Int)), z] ∧ H' = H) ?_ ?_ ?_
      · rfl
      · refine ⟨none, ?_, rfl⟩
        show _ = [some (V.int p), some (V.int q), some (V.int (p.natAbs : Int)), some (V.int (q.natAbs : Int)), none]
        rw [← eq]
      · rintro i σ' H' hi ⟨z, rfl, rfl⟩
        walk_at "z"
        refine Z.ite (fun h2 => ?_) (fun h2 => ?_)
        · walk_at "z"
          have h0 : (euc i (p.natAbs, q.natAbs)).2 = 0 := by omega
          have eg := euc_gcd i (p.natAbs, q.natAbs)
          rw [h0, Nat.gcd_zero_right] at eg
          have eg2 : (((euc i (p.natAbs, q.natAbs)).1 : Nat) : Int) = gI p q := by rw [eg]; exact (gI_pos hq).symm
          rw [eg2]
          exact jn _ _ ⟨_, _, rfl, rfl⟩
        · walk_at "z"
          refine Z.iC (by omega) ?_
          walk_at "z"
          have es : euc (i + 1) (p.natAbs, q.natAbs) = ((euc i (p.natAbs, q.natAbs)).2, (euc i (p.natAbs, q.natAbs)).1 % (euc i (p.natAbs, q.natAbs)).2) := by
            rw [euc_succ]
            exact if_neg (by omega)
          refine ⟨some (.int (i : Int)), ?_, rfl⟩
          rw [es]
          rfl
      · rintro σ' H' ⟨z, rfl, rfl⟩
        have h0 := euc_4000 (p := (p.natAbs, q.natAbs)) hb
        have eg := euc_gcd 4000 (p.natAbs, q.natAbs)
        rw [h0, Nat.gcd_zero_right] at eg
        have eg2 : (((euc 4000 (p.natAbs, q.natAbs)).1 : Nat) : Int) = gI p q := by rw [eg]; exact (gI_pos hq).symm
        walk_at "z"
        rw [eg2]
        exact jn _ _ ⟨_, _, rfl, rfl⟩

/-- two fractions in, a fraction out; smaller ones -/
def spG2 (K : PySem.W.Frag) (o : Fr → Fr → Fr) : Sp := fun vs H Q _ => ∃ (a b : Addr) (f g : Fr), vs = [.ref a, .ref b] ∧ FrAt K H a f ∧ FrAt K H b g ∧ 1 ≤ f.2 ∧ 1 ≤ g.2 ∧ (∃ n m, FrB n f ∧ FrB m g ∧ n + m ≤ 1900) ∧ ∀ H' c, H c = none → Kp [] H H' → FrAt K H' c (o f g) → Q (.ref c) H'
theorem ok__law_plus {P : Program} {w : World} {K : PySem.W.Frag} {mg : Str → Option Value} {base : Heap} (T : T P K mg base) : FnOk P w K mg base CX0 2 T.a__law_plus T.fd__law_plus ["one", "other"] (spG2 K fplus) := by
  refine T.F__law_plus.ok sc__law_plus (fun vs H Q E h => ?_) (fun cdv A outer s H vs Q E hr h => ?_)
  · obtain ⟨a, b, f, g, rfl, _⟩ := h
    rfl
  · obtain ⟨a, b, f, g, rfl, ha, hb, hf, hg, ⟨n, m, Bf0, Bg0, hnm⟩, q⟩ := h
    have Bf : FrB 1900 f := Bf0.mono (by omega)
    have Bg : FrB 1900 g := Bg0.mono (by omega)
    refine ⟨_, (pss_one (ps_ret (pe_call (ok__law_low T) (hr.mono (by decide)) (by rfl) T.g__law_low T.F__law_low.kp T.b__law_low .nil pass0 (pa_cons (pe_op op_add (pe_op op_mulW (pe_ix ix_tup (pv 0) pe_int (fun _ _ => rfl)) (pe_ix ix_tup (pv 1) pe_int (fun _ _ => rfl))) (pe_op op_mulW (pe_ix ix_tup (pv 1) pe_int (fun _ _ => rfl)) (pe_ix ix_tup (pv 0) pe_int (fun _ _ => rfl)))) (pa_cons (pe_op op_mulW (pe_ix ix_tup (pv 0) pe_int (fun _ _ => rfl)) (pe_ix ix_tup (pv 1) pe_int (fun _ _ => rfl))) pa_nil))))), ?_⟩
    walk_at "z0"
    walk_at "z"
    refine Z.ixT ha (fr0 f) ?_
    walk_at "z"
    refine Z.ixT hb (fr1 g) ?_
    walk_at "z"
    refine Z.iC (mul_ok Bf.1 Bg.2) ?_
    walk_at "z"
    refine Z.ixT hb (fr0 g) ?_
    walk_at "z"
    refine Z.ixT ha (fr1 f) ?_
    walk_at "z"
    refine Z.iC (mul_ok Bg.1 Bf.2) ?_
    walk_at "z"
    refine Z.ixT ha (fr1 f) ?_
    walk_at "z"
    refine Z.ixT hb (fr1 g) ?_
    walk_at "z"
    refine Z.iC (mul_ok Bf.2 Bg.2) ?_
    walk_at "z"
    have h0 := Int.mul_pos (show 0 < f.2 by omega) (show 0 < g.2 by omega)
    exact ⟨_, _, rfl, by omega, up_B (mul_B Bf0.2 Bg0.2) hnm, fun H' c nc k e => q _ _ nc k e⟩
theorem ok__law_times {P : Program} {w : World} {K : PySem.W.Frag} {mg : Str → Option Value} {base : Heap} (T : T P K mg base) : FnOk P w K mg base CX0 2 T.a__law_times T.fd__law_times ["one", "other"] (spG2 K ftimes) := by
  refine T.F__law_times.ok sc__law_times (fun vs H Q E h => ?_) (fun cdv A outer s H vs Q E hr h => ?_)
  · obtain ⟨a, b, f, g, rfl, _⟩ := h
    rfl
  · obtain ⟨a, b, f, g, rfl, ha, hb, hf, hg, ⟨n, m, Bf0, Bg0, hnm⟩, q⟩ := h
    have Bf : FrB 1900 f := Bf0.mono (by omega)
    have Bg : FrB 1900 g := Bg0.mono (by omega)
    refine ⟨_, (pss_one (ps_ret (pe_call (ok__law_low T) (hr.mono (by decide)) (by rfl) T.g__law_low T.F__law_low.kp T.b__law_low .nil pass0 (pa_cons (pe_op op_mulW (pe_ix ix_tup (pv 0) pe_int (fun _ _ => rfl)) (pe_ix ix_tup (pv 1) pe_int (fun _ _ => rfl))) (pa_cons (pe_op op_mulW (pe_ix ix_tup (pv 0) pe_int (fun _ _ => rfl)) (pe_ix ix_tup (pv 1) pe_int (fun _ _ => rfl))) pa_nil))))), ?_⟩
    walk_at "z0"
    walk_at "z"
    refine Z.ixT ha (fr0 f) ?_
    walk_at "z"
    refine Z.ixT hb (fr0 g) ?_
    walk_at "z"
    refine Z.iC (mul_ok Bf.1 Bg.1) ?_
    walk_at "z"
    refine Z.ixT ha (fr1 f) ?_
    walk_at "z"
    refine Z.ixT hb (fr1 g) ?_
    walk_at "z"
    refine Z.iC (mul_ok Bf.2 Bg.2) ?_
    walk_at "z"
    have h0 := Int.mul_pos (show 0 < f.2 by omega) (show 0 < g.2 by omega)
    exact ⟨_, _, rfl, by omega, up_B (mul_B Bf0.2 Bg0.2) hnm, fun H' c nc k e => q _ _ nc k e⟩

theorem ok__law_minus {P : Program} {w : World} {K : PySem.W.Frag} {mg : Str → Option Value} {base : Heap} (T : T P K mg base) : FnOk P w K mg base CX0 2 T.a__law_minus T.fd__law_minus ["one", "other"] (spG2 K fminus) := by
  refine T.F__law_minus.ok sc__law_minus (fun vs H Q E h => ?_) (fun cdv A outer s H vs Q E hr h => ?_)
  · obtain ⟨a, b, f, g, rfl, _⟩ := h
    rfl
  · obtain ⟨a, b, f, g, rfl, ha, hb, hf, hg, ⟨n, m, Bf0, Bg0, hnm⟩, q⟩ := h
    have Bf : FrB 1900 f := Bf0.mono (by omega)
    have Bg : FrB 1900 g := Bg0.mono (by omega)
    refine ⟨_, (pss_one (ps_ret (pe_call (ok__law_low T) (hr.mono (by decide)) (by rfl) T.g__law_low T.F__law_low.kp T.b__law_low .nil pass0 (pa_cons (pe_op op_sub (pe_op op_mulW (pe_ix ix_tup (pv 0) pe_int (fun _ _ => rfl)) (pe_ix ix_tup (pv 1) pe_int (fun _ _ => rfl))) (pe_op op_mulW (pe_ix ix_tup (pv 1) pe_int (fun _ _ => rfl)) (pe_ix ix_tup (pv 0) pe_int (fun _ _ => rfl)))) (pa_cons (pe_op op_mulW (pe_ix ix_tup (pv 0) pe_int (fun _ _ => rfl)) (pe_ix ix_tup (pv 1) pe_int (fun _ _ => rfl))) pa_nil))))), ?_⟩
    walk_at "z0"
    walk_at "z"
    refine Z.ixT ha (fr0 f) ?_
    walk_at "z"
    refine Z.ixT hb (fr1 g) ?_
    walk_at "z"
    refine Z.iC (mul_ok Bf.1 Bg.2) ?_
    walk_at "z"
    refine Z.ixT hb (fr0 g) ?_
    walk_at "z"
    refine Z.ixT ha (fr1 f) ?_
    walk_at "z"
    refine Z.iC (mul_ok Bg.1 Bf.2) ?_
    walk_at "z"
    refine Z.ixT ha (fr1 f) ?_
    walk_at "z"
    refine Z.ixT hb (fr1 g) ?_
    walk_at "z"
    refine Z.iC (mul_ok Bf.2 Bg.2) ?_
    walk_at "z"
    have h0 := Int.mul_pos (show 0 < f.2 by omega) (show 0 < g.2 by omega)
    exact ⟨_, _, rfl, by omega, up_B (mul_B Bf0.2 Bg0.2) hnm, fun H' c nc k e => q _ _ nc k e⟩

def spLessG (K : PySem.W.Frag) : Sp := fun vs H Q _ => ∃ (a b : Addr) (f g : Fr), vs = [.ref a, .ref b] ∧ FrAt K H a f ∧ FrAt K H b g ∧ FrB 8000 f ∧ FrB 8000 g ∧ Q (.bl (fless f g)) H
theorem ok__law_less {P : Program} {w : World} {K : PySem.W.Frag} {mg : Str → Option Value} {base : Heap} (T : T P K mg base) : FnOk P w K mg base CX0 1 T.a__law_less T.fd__law_less ["one", "other"] (spLessG K) := by
  refine T.F__law_less.ok sc__law_less (fun vs H Q E h => ?_) (fun cdv A outer s H vs Q E hr h => ?_)
  · obtain ⟨a, b, f, g, rfl, _⟩ := h
    rfl
  · obtain ⟨a, b, f, g, rfl, ha, hb, Bf, Bg, q⟩ := h
    refine ⟨_, (pss_one (ps_ret (pe_cmpR op_lt (pe_op op_mulW (pe_ix ix_tup (pv 0) pe_int (fun _ _ => rfl)) (pe_ix ix_tup (pv 1) pe_int (fun _ _ => rfl))) (pe_op op_mulW (pe_ix ix_tup (pv 1) pe_int (fun _ _ => rfl)) (pe_ix ix_tup (pv 0) pe_int (fun _ _ => rfl))) (nomark _)))), ?_⟩
    walk_at "z0"
    walk_at "z"
    refine Z.ixT ha (fr0 f) ?_
    walk_at "z"
    refine Z.ixT hb (fr1 g) ?_
    walk_at "z"
    refine Z.iC (mul_ok Bf.1 Bg.2) ?_
    walk_at "z"
    refine Z.ixT hb (fr0 g) ?_
    walk_at "z"
    refine Z.ixT ha (fr1 f) ?_
    walk_at "z"
    refine Z.iC (mul_ok Bg.1 Bf.2) ?_
    walk_at "z"
    exact q

/-! ### thresholds: common_denominator, scaled, threshold -/
def comm (fs : List Fr) : Nat := fs.foldl (fun c f => Nat.lcm c f.2.natAbs) 1
theorem comm_take {fs : List Fr} {i : Nat} {f : Fr} (h : fs[i]? = some f) : comm (fs.take (i + 1)) = Nat.lcm (comm (fs.take i)) f.2.natAbs := by
  unfold comm
  rw [List.take_add_one, h, List.foldl_append]
  rfl
theorem foldl_lcm_dvd : ∀ {fs : List Fr} {c : Nat}, c ∣ fs.foldl (fun c f => Nat.lcm c f.2.natAbs) c ∧ ∀ f ∈ fs, f.2.natAbs ∣ fs.foldl (fun c f => Nat.lcm c f.2.natAbs) c
  | [], c => ⟨Nat.dvd_refl c, fun f h => by cases h⟩
  | g :: r, c => by
    have h := foldl_lcm_dvd (fs := r) (c := Nat.lcm c g.2.natAbs)
    refine ⟨Nat.dvd_trans (Nat.dvd_lcm_left c g.2.natAbs) h.1, fun f hf => ?_⟩
    rcases List.mem_cons.mp hf with rfl | hf
    · exact Nat.dvd_trans (Nat.dvd_lcm_right c f.2.natAbs) h.1
    · exact h.2 f hf
theorem comm_dvd {fs : List Fr} {f : Fr} (h : f ∈ fs) : f.2.natAbs ∣ comm fs := foldl_lcm_dvd.2 f h
theorem foldl_lcm_lt {m : Nat} : ∀ {fs : List Fr} {c n : Nat}, 1 ≤ c → c ≤ 2 ^ n → (∀ f ∈ fs, 1 ≤ f.2.natAbs ∧ f.2.natAbs < 2 ^ m) → 1 ≤ fs.foldl (fun c f => Nat.lcm c f.2.natAbs) c ∧ fs.foldl (fun c f => Nat.lcm c f.2.natAbs) c ≤ 2 ^ (n + m * fs.length)
  | [], c, n, h1, h2, _ => ⟨h1, by rw [List.length_nil, Nat.mul_zero, Nat.add_zero]; exact h2⟩
  | g :: r, c, n, h1, h2, h => by
    have hg := h g (by simp)
    have h3 : 1 ≤ Nat.lcm c g.2.natAbs := Nat.lcm_pos (by omega) (by omega)
    have h4 : Nat.lcm c g.2.natAbs ≤ 2 ^ (n + m) := by
      rw [Nat.pow_add]
      exact Nat.le_trans (RL.lcm_le _ _) (Nat.mul_le_mul h2 (by omega))
    have ih := foldl_lcm_lt (m := m) (fs := r) h3 h4 fun f hf => h f (by simp [hf])
    refine ⟨ih.1, ?_⟩
    rw [List.length_cons, Nat.mul_add, show n + (m * r.length + m * 1) = n + m + m * r.length by omega]
    exact ih.2
theorem comm_lt {m : Nat} {fs : List Fr} (h : ∀ f ∈ fs, 1 ≤ f.2.natAbs ∧ f.2.natAbs < 2 ^ m) : 1 ≤ comm fs ∧ comm fs ≤ 2 ^ (m * fs.length) := by
  have := foldl_lcm_lt (m := m) (fs := fs) (c := 1) (n := 0) (by decide) (by decide) h
  rwa [Nat.zero_add] at this
/-- positive fractions, small enough -/
def PosB (m : Nat) (f : Fr) : Prop := 1 ≤ f.2 ∧ 0 < f.1 ∧ FrB m f
theorem PosB.den {m : Nat} {f : Fr} (h : PosB m f) : 1 ≤ f.2.natAbs ∧ f.2.natAbs < 2 ^ m := ⟨by have := h.1; omega, h.2.2.2⟩
def spComm (K : PySem.W.Frag) (m k : Nat) : Sp := fun vs H Q _ => ∃ (a : Addr) (as : List Addr) (fs : List Fr), vs = [.ref a] ∧ SqL K H a (as.map V.ref) ∧ FrsAt K H as fs ∧ (∀ f ∈ fs, 1 ≤ f.2.natAbs ∧ f.2.natAbs < 2 ^ m) ∧ fs.length ≤ k ∧ Q (.int (comm fs : Int)) H
theorem ok_common_any {P : Program} {w : World} {K : PySem.W.Frag} {mg : Str → Option Value} {base : Heap} (T : T P K mg base) (m k : Nat) (hm : m < 6000) (hk : m * k < 6000) : FnOk P w K mg base CX0 1 T.a_common_denominator T.fd_common_denominator ["fractions"] (spComm K m k) := by
  refine T.F_common_denominator.ok sc_common_denominator (fun vs H Q E h => ?_) (fun cdv A outer s H vs Q E hr h => ?_)
  · obtain ⟨a, as, fs, rfl, _⟩ := h
    rfl
  · obtain ⟨a, as, fs, rfl, hS, hF, hB, hl, q⟩ := h
    refine ⟨_, (pss_cons (ps_set (i := 1) sc_common_denominator.nd rfl (by first | exact Or.inl rfl | exact Or.inr rfl) pe_int)
      (pss_cons (ps_for PassesOwn.never rfl (pi_list (pv 0)) (pg_name (i := 2) sc_common_denominator.nd rfl (by first | exact Or.inl rfl | exact Or.inr rfl)) (pss_one (ps_set (i := 1) sc_common_denominator.nd rfl (by first | exact Or.inl rfl | exact Or.inr rfl) (pe_callBfun RL.cr_lcm (by rfl) T.g_lcm (pa_cons (pv 1) (pa_cons (pe_ix ix_tup (pv 2) pe_int (fun _ _ => rfl)) pa_nil))))))
      (pss_one (ps_ret (pv 1))))), ?_⟩
    walk_at "z0"
    walk_at "z"
    refine Z.forl (as.map V.ref) hS (fun i σ' H' => ∃ y, σ' = [some (.ref a), some (.int (comm (fs.take i) : Int)), y] ∧ H' = H) ?_ ?_ ?_ ?_
    · exact ⟨none, rfl, rfl⟩
    · rintro i σ' H' _ ⟨y, rfl, rfl⟩
      exact hS
    · rintro i v σ' H' hv ⟨y, rfl, rfl⟩
      obtain ⟨x, f, rfl, hf, hx⟩ := hF.get hv
      have hfB := hB f (List.mem_of_getElem? hf)
      have hB1 := comm_lt (m := m) (fs := fs.take i) fun g hg => hB g (List.mem_of_mem_take hg)
      have hi : i < fs.length := (List.getElem?_eq_some_iff.mp hf).1
      have hle : m * (fs.take i).length ≤ m * k := Nat.mul_le_mul_left m (by rw [List.length_take]; omega)
      walk_at "z"
      refine Z.ixT hx (fr1 f) ?_
      walk_at "z"
      refine ⟨_, _, rfl, ?_, ?_, ?_⟩
      · rw [Int.natAbs_natCast]
        exact Nat.lt_of_le_of_lt hB1.2 (Nat.pow_lt_pow_right (by decide) (by omega))
      · exact Nat.lt_of_lt_of_le hfB.2 (Nat.pow_le_pow_right (by decide) (by omega))
      · walk_at "z"
        exact ⟨_, by rw [comm_take hf, Int.natAbs_natCast], rfl⟩
    · rintro σ' H' ⟨y, rfl, rfl⟩
      rw [List.length_map, hF.len, List.take_length]
      walk_at "z"
      exact q
/-- the fractions times c, a multiple of all denominators -/
def scl1 (c : Int) (f : Fr) : Int := f.1 * (c.fdiv f.2)
def spScaled (K : PySem.W.Frag) (n : Nat) : Sp := fun vs H Q _ => ∃ (a : Addr) (as : List Addr) (fs : List Fr) (c : Int), vs = [.ref a, .int c] ∧ SqL K H a (as.map V.ref) ∧ FrsAt K H as fs ∧ (∀ f ∈ fs, 1 ≤ f.2 ∧ FrB n f) ∧ fs.length ≤ 1000 ∧ c.natAbs < 2 ^ n ∧ ∀ H' p, H p = none → Kp [] H H' → H' p = some (.lst ((fs.map (scl1 c)).map V.int)) → Q (.ref p) H'
theorem fdiv_abs {a b : Int} (h : 1 ≤ b) : (a.fdiv b).natAbs ≤ a.natAbs := by
  rw [Int.fdiv_eq_ediv_of_nonneg _ (by omega)]
  exact Int.natAbs_ediv_le_natAbs a b
theorem ok_scaled_any {P : Program} {w : World} {K : PySem.W.Frag} {mg : Str → Option Value} {base : Heap} (T : T P K mg base) (n : Nat) (h0 : 0 < n) (hn : n ≤ 8000) : FnOk P w K mg base CX0 1 T.a_scaled T.fd_scaled ["fractions", "factor"] (spScaled K n) := by
  refine T.F_scaled.ok sc_scaled (fun vs H Q E h => ?_) (fun cdv A outer s H vs Q E hr h => ?_)
  · obtain ⟨a, as, fs, c, rfl, _⟩ := h
    rfl
  · obtain ⟨a, as, fs, c, rfl, hS, hF, hB, hl, hc, q⟩ := h
    refine ⟨_, (pss_one (ps_ret (pe_lc (own := [("p", 2), ("q", 3)]) (g := gTup K 2 (gCons (gName 2) (gCons (gName 3) gNil))) rfl sc_scaled.nd (pi_list (pv 0)) (blkOk_by (own := [("p", 2), ("q", 3)]) (N := N_scaled) (sc := defScope s_scaled) (by decide +kernel)) (fun _ _ _ _ _ => (pg_tup rfl (pgs_cons (pg_name (i := 2) sc_scaled.nd rfl (by first | exact Or.inl rfl | exact Or.inr rfl)) (pgs_cons (pg_name (i := 3) sc_scaled.nd rfl (by first | exact Or.inl rfl | exact Or.inr rfl)) pgs_nil)))) (fun _ _ _ _ _ => pts_nil) (fun _ _ _ _ _ => (pe_op op_mulW (pv 2) (pe_op Z.op_fdivA (pv 1) (pv 3))))))), ?_⟩
    walk_at "z0"
    walk_at "z"
    refine Z.lcl (as.map V.ref) hS (fun D i H' => Kp [] H H' ∧ H' D = some (.lst (((fs.take i).map (scl1 c)).map V.int))) ?_ ?_ ?_ ?_
    · intro D H1 nD k1 e1
      exact ⟨k1, e1⟩
    · rintro D i H1 nD hi ⟨k1, e1⟩
      exact k1.seq nin0 hS
    · rintro D i v H1 nD hv ⟨k1, e1⟩
      obtain ⟨x, f, rfl, hf, hx⟩ := (hF.kp0 k1).get hv
      have hfB := hB f (List.mem_of_getElem? hf)
      have hi : i < fs.length := (List.getElem?_eq_some_iff.mp hf).1
      dsimp only [wipe, List.set]
      refine Z.gtup hx rfl ?_
      unfold frV
      walk_at "z"
      refine ⟨rfl, ?_⟩
      walk_at "z"
      refine Z.iC (Z.divA (b := n) (by omega) hfB.2.2 h0 (by omega)) ?_
      walk_at "z"
      refine Z.iC (mul_ok (n := n) hfB.2.1 (Nat.lt_of_le_of_lt (fdiv_abs hfB.1) hc)) ?_
      refine ⟨_, e1, Z.szl (m := 1000) (by rw [List.length_map, List.length_map, List.length_take]; omega), k1.mut nD rfl, ?_⟩
      rw [upd_same, List.take_add_one, hf, List.map_append, List.map_append]; rfl
    · rintro D H1 nD ⟨k1, e1⟩
      rw [List.length_map, hF.len, List.take_length] at e1
      exact q H1 D nD k1 e1

theorem cap_low {t : Rat} : ∀ {ws : List Rat}, (∀ w ∈ ws, w ≤ t) → cap t ws = ws.sum
  | [], _ => rfl
  | w :: r, h => by
    have h1 := h w (by simp)
    show (if w < t then w else t) + cap t r = _
    rw [cap_low (ws := r) fun z hz => h z (by simp [hz]), List.sum_cons]
    split <;> grind
theorem sum_div (c : Rat) : ∀ ys : List Int, (ys.map fun x : Int => (x : Rat) / c).sum = ((ys.sum : Int) : Rat) / c
  | [] => by show (0 : Rat) = ((0 : Int) : Rat) / c; grind
  | y :: r => by
    rw [List.map_cons, List.sum_cons, List.sum_cons, sum_div c r]
    have e : (((y + r.sum : Int)) : Rat) = (y : Rat) + ((r.sum : Int) : Rat) := by exact_mod_cast rfl
    rw [e]
    grind
theorem ratMono {a b : Int} : (a : Rat) ≤ (b : Rat) ↔ a ≤ b := by
  constructor
  · intro h; exact_mod_cast h
  · intro h; exact_mod_cast h
theorem div_mono {a b c : Rat} (h : a ≤ b) (hc : 0 < c) : a / c ≤ b / c := by
  have h1 : 0 < c⁻¹ := Rat.inv_pos.mpr hc
  rw [Rat.div_def, Rat.div_def]
  exact Rat.mul_le_mul_of_nonneg_right h (by grind)
theorem thr_of {xs0 ys zs : List Int} {C pl size : Nat} (hC : 1 ≤ C) (hpl : 1 ≤ pl) (perm : (ys ++ zs).Perm xs0) (hpos : 0 < ys.sum) (hz : ∀ z ∈ zs, ys.sum < z * (pl : Int)) (hy : ∀ y ∈ ys, y * (pl : Int) ≤ ys.sum) (hs : pl + zs.length = size) (hn : size < xs0.length) :
    Thr (xs0.map fun x : Int => (x : Rat) / (C : Rat)) size (((ys.sum : Int) : Rat) / ((pl : Rat) * (C : Rat))) := by
  have c0 : (0 : Rat) < (C : Rat) := by exact_mod_cast hC
  have p0 : (0 : Rat) < (pl : Rat) := by exact_mod_cast hpl
  have s0 : (0 : Rat) < ((ys.sum : Int) : Rat) := by exact_mod_cast hpos
  have pc := Rat.mul_pos p0 c0
  have key : ∀ x : Int, (x : Rat) / (C : Rat) = ((x : Rat) * (pl : Rat)) / ((pl : Rat) * (C : Rat)) := fun x => by grind
  refine ⟨fun h => by rw [List.length_map] at h; omega, fun _ => ⟨?_, ?_⟩⟩
  · rw [Rat.div_def]
    exact Rat.mul_pos s0 (Rat.inv_pos.mpr pc)
  · have hp2 := (perm.map fun x : Int => (x : Rat) / (C : Rat))
    rw [← cap_perm hp2, List.map_append, cap_app, cap_low, cap_all, sum_div, List.length_map]
    · have e : (size : Rat) = (pl : Rat) + (zs.length : Rat) := by rw [← hs]; exact_mod_cast rfl
      rw [e]
      grind
    · intro w hw
      obtain ⟨z, hz1, rfl⟩ := List.mem_map.mp hw
      rw [key z]
      refine div_mono ?_ pc
      have := hz z hz1
      have h2 : ys.sum ≤ z * (pl : Int) := by omega
      exact_mod_cast h2
    · intro w hw
      obtain ⟨y, hy1, rfl⟩ := List.mem_map.mp hw
      rw [key y]
      refine div_mono ?_ pc
      have h2 := hy y hy1
      exact_mod_cast h2
theorem rv_scl {f : Fr} {C : Nat} (hC : 1 ≤ C) (hq : 1 ≤ f.2) (h : f.2.natAbs ∣ C) : rv f = ((scl1 (C : Int) f : Int) : Rat) / (C : Rat) := by
  have c0 : (C : Rat) ≠ 0 := by
    have : (0 : Rat) < (C : Rat) := by exact_mod_cast hC
    grind
  obtain ⟨d, hd⟩ := h
  have hq2 : f.2 ≠ 0 := by omega
  have e1 : (C : Int) = f.2 * (d : Int) := by
    have : (f.2.natAbs : Int) = f.2 := by omega
    rw [hd, Int.natCast_mul, this]
  have e2 : (C : Int).fdiv f.2 = (d : Int) := by rw [e1]; exact Int.mul_fdiv_cancel_left _ hq2
  have e3 : (C : Rat) = (f.2 : Rat) * (d : Rat) := by exact_mod_cast e1
  unfold rv scl1
  rw [e2]
  have e4 : ((f.1 * (d : Int) : Int) : Rat) = (f.1 : Rat) * (d : Rat) := by exact_mod_cast rfl
  have q0 : (f.2 : Rat) ≠ 0 := ratNe hq2
  rw [e4, e3]
  have d0 : (d : Rat) ≠ 0 := by
    intro z
    rw [e3, z] at c0
    grind
  grind
def spThr (K : PySem.W.Frag) (m k : Nat) : Sp := fun vs H Q _ => ∃ (a : Addr) (as : List Addr) (fs : List Fr) (size : Nat), vs = [.ref a, .int (size : Int)] ∧ SqL K H a (as.map V.ref) ∧ FrsAt K H as fs ∧ (∀ f ∈ fs, PosB m f) ∧ fs.length ≤ k ∧ 1 ≤ size ∧
  ∀ H' b g, Kp [] H H' → FrAt K H' b g → Low g → FrB (m * (k + 1) + 7) g → Thr (fs.map rv) size (rv g) → Q (.ref b) H'
theorem low_zero : Low (0, 1) := ⟨by decide, by decide⟩
theorem rv_zero : rv (0, 1) = 0 := by unfold rv; grind
theorem scl1_pos {f : Fr} {C : Nat} (hC : 1 ≤ C) (hq : 1 ≤ f.2) (hp : 0 < f.1) (h : f.2.natAbs ∣ C) : 0 < scl1 (C : Int) f := by
  obtain ⟨d, hd⟩ := h
  have e1 : (C : Int) = f.2 * (d : Int) := by
    have : (f.2.natAbs : Int) = f.2 := by omega
    rw [hd, Int.natCast_mul, this]
  have e2 : (C : Int).fdiv f.2 = (d : Int) := by rw [e1]; exact Int.mul_fdiv_cancel_left _ (by omega)
  unfold scl1
  rw [e2]
  refine Int.mul_pos hp ?_
  have : d ≠ 0 := fun z => by rw [z, Nat.mul_zero] at hd; omega
  omega
theorem sum_abs_lt {n : Nat} : ∀ {l : List Int}, (∀ x ∈ l, x.natAbs < 2 ^ n) → l.sum.natAbs ≤ l.length * 2 ^ n
  | [], _ => by simp
  | a :: r, h => by
    have h1 := h a (by simp)
    have h2 := sum_abs_lt (n := n) (l := r) fun z hz => h z (by simp [hz])
    rw [List.sum_cons, List.length_cons, Nat.add_mul]
    omega
theorem ok_threshold_any {P : Program} {w : World} {K : PySem.W.Frag} {mg : Str → Option Value} {base : Heap} (T : T P K mg base) (m k : Nat) (h0 : 0 < m) (hk : k < 64) (hmk : m * (k + 1) + 7 ≤ 5900) : FnOk P w K mg base CX0 4 T.a_threshold T.fd_threshold ["weights", "size"] (spThr K m k) := by
  have hmk2 : m * (k + 1) = m * k + m := by rw [Nat.mul_add, Nat.mul_one]
  have ok_common_denominator := fun T => ok_common_any (P := P) (w := w) (K := K) (mg := mg) (base := base) T m k (by omega) (by omega)
  have ok_scaled := fun T => ok_scaled_any (P := P) (w := w) (K := K) (mg := mg) (base := base) T (m * k + m + 1) (by omega) (by omega)
  refine T.F_threshold.ok sc_threshold (fun vs H Q E h => ?_) (fun cdv A outer s H vs Q E hr h => ?_)
  · obtain ⟨a, as, fs, size, rfl, _⟩ := h
    rfl
  · obtain ⟨a, as, fs, size, rfl, hS, hF, hB, hl, hs1, q⟩ := h
    refine ⟨_, (pss_cons (ps_if (pt_cmpR op_le (pe_callB c_len (by rfl) T.z_len (by decide +kernel) (pa_cons (pv 0) pa_nil)) (pv 1) (nomark _)) (pss_one (ps_ret (pe_glob (v := .ref T.k_ZERO) (by rfl) T.g_ZERO rfl))) pss_nil)
      (pss_cons (ps_set (i := 2) sc_threshold.nd rfl (by first | exact Or.inl rfl | exact Or.inr rfl) (pe_call (ok_common_denominator T) (hr.mono (by decide)) (by rfl) T.g_common_denominator T.F_common_denominator.kp T.b_common_denominator .nil pass0 (pa_cons (pv 0) pa_nil)))
      (pss_cons (ps_set (i := 3) sc_threshold.nd rfl (by first | exact Or.inl rfl | exact Or.inr rfl) (pe_callB cr_sorted (by rfl) T.z_sorted (by decide +kernel) (pa_cons (pe_call (ok_scaled T) (hr.mono (by decide)) (by rfl) T.g_scaled T.F_scaled.kp T.b_scaled .nil pass0 (pa_cons (pv 0) (pa_cons (pv 2) pa_nil))) pa_nil)))
      (pss_cons (ps_set (i := 4) sc_threshold.nd rfl (by first | exact Or.inl rfl | exact Or.inr rfl) (pe_callB (cr_sum rfl) (by rfl) T.z_sum (by decide +kernel) (pa_cons (pv 3) pa_nil)))
      (pss_cons (ps_set (i := 5) sc_threshold.nd rfl (by first | exact Or.inl rfl | exact Or.inr rfl) (pv 1))
      (pss_cons (ps_while PassesOwn.never (pt_cmpR op_gt (pe_op op_mulW (pe_ix ix_list (pv 3) (pe_un un_neg pe_int) (fun _ _ => rfl)) (pv 5)) (pv 4) (nomark _)) (pss_cons (ps_aug (i := 5) sc_threshold.nd rfl (by first | exact Or.inl rfl | exact Or.inr rfl) pe_int ip_sub)
      (pss_one (ps_aug (i := 4) sc_threshold.nd rfl (by first | exact Or.inl rfl | exact Or.inr rfl) (pe_bm0 PySem.F.plainAttrs_list PySem.F.slot_list_pop PySem.F.type_list_pop mt_pop (pv 3)) ip_sub))))
      (pss_one (ps_ret (pe_call (ok_lowest T) (hr.mono (by decide)) (by rfl) T.g_lowest T.F_lowest.kp T.b_lowest .nil passL (pa_cons (pv 4) (pa_cons (pe_op op_mulW (pv 5) (pv 2)) pa_nil))))))))))), ?_⟩
    walk_at "z0"
    walk_at "z"
    refine Z.lenL hS ?_
    rw [List.length_map, hF.len]
    walk_at "z"
    refine Z.ite (fun h1 => ?_) (fun h1 => ?_)
    · walk_at "z"
      refine q H T.k_ZERO (0, 1) (Kp.refl _) (T.q_ZERO H) low_zero ⟨Nat.pos_of_ne_zero (by simp), Nat.one_lt_two_pow (by omega)⟩ ⟨fun _ => rv_zero, fun h2 => ?_⟩
      rw [List.length_map] at h2
      omega
    · have hn : size < fs.length := by omega
      have hden : ∀ f ∈ fs, 1 ≤ f.2.natAbs ∧ f.2.natAbs < 2 ^ m := fun f hf => (hB f hf).den
      obtain ⟨hC1, hC2⟩ := comm_lt hden
      have hC3 : comm fs ≤ 2 ^ (m * k) := Nat.le_trans hC2 (Nat.pow_le_pow_right (by decide) (Nat.mul_le_mul_left m hl))
      walk_at "z"
      refine ⟨a, as, fs, rfl, hS, hF, hden, hl, ?_⟩
      walk_at "z"
      refine ⟨a, as, fs, (comm fs : Int), rfl, hS, hF, fun f hf => ⟨(hB f hf).1, (hB f hf).2.2.mono (by omega)⟩, by omega, by rw [Int.natAbs_natCast]; exact Nat.lt_of_le_of_lt hC3 (Nat.pow_lt_pow_right (by decide) (by omega)), fun H1 p np k1 e1 => ?_⟩
      walk_at "z"
      refine ⟨p, _, rfl, lstL e1, by rw [List.length_map]; omega, fun xs sp hperm hsort nsp => ?_⟩
      have k2 : Kp [] H1 (upd H1 sp (.lst (xs.map V.int))) := Kp.new nsp
      have e2 : upd H1 sp (.lst (xs.map V.int)) sp = some (.lst (xs.map V.int)) := upd_same
      generalize upd H1 sp (.lst (xs.map V.int)) = H2 at k2 e2 ⊢
      have hxl : xs.length = fs.length := by rw [hperm.length_eq, List.length_map]
      have hnsp : H sp = none := k1.none nin0 nsp
      have hxp : ∀ x ∈ xs, 0 < x ∧ x.natAbs < 2 ^ (m * k + m) := by
        intro x hx
        obtain ⟨f, hf, rfl⟩ := List.mem_map.mp ((hperm.mem_iff).mp hx)
        refine ⟨scl1_pos hC1 (hB f hf).1 (hB f hf).2.1 (comm_dvd hf), ?_⟩
        unfold scl1
        rw [Int.natAbs_mul, Nat.pow_add, Nat.mul_comm]
        have h2 := fdiv_abs (a := (comm fs : Int)) (hB f hf).1
        rw [Int.natAbs_natCast] at h2
        have h3 := (hB f hf).2.2.1
        exact Nat.lt_of_le_of_lt (Nat.mul_le_mul_right _ (Nat.le_trans h2 hC3)) (Nat.mul_lt_mul_of_pos_left h3 (Nat.two_pow_pos _))
      walk_at "z"
      refine Z.sumL (lstL e2) ?_
      walk_at "z"
      refine Z.wh (fun mm σ' H' => ∃ (ys zs : List Int) (pl : Nat), mm = ys.length ∧ σ' = [some (.ref a), some (.int (size : Int)), some (.int (comm fs : Int)), some (.ref sp), some (.int ys.sum), some (.int (pl : Int))] ∧ Kp [] H H' ∧ H' sp = some (.lst (ys.map V.int)) ∧ ys ++ zs = xs ∧ 1 ≤ pl ∧ pl + zs.length = size ∧ ∀ z ∈ zs, ys.sum < z * (pl : Int)) xs.length ⟨xs, [], size, rfl, rfl, k1.trans k2, e2, by simp, hs1, by simp, by simp⟩ ?_
      rintro mm σ' H3 ⟨ys, zs, pl, rfl, rfl, k3, e3, hxy, hpl, hps, hz⟩
      have hlen : ys.length + zs.length = xs.length := by rw [← hxy, List.length_append]
      obtain ⟨ys', y, rfl⟩ : ∃ ys' y, ys = ys' ++ [y] := by
        have hne : ys ≠ [] := fun z => by rw [z] at hlen; simp at hlen; omega
        exact ⟨ys.dropLast, ys.getLast hne, (List.dropLast_concat_getLast hne).symm⟩
      have hyx : ∀ z ∈ ys' ++ [y], z ∈ xs := fun z h => by rw [← hxy]; exact List.mem_append_left _ h
      have hy := hxp y (hyx y (by simp))
      have hys : 0 ≤ ys'.sum := sum_nonneg fun z h => by have := (hxp z (hyx z (by simp [h]))).1; omega
      have esum : (ys' ++ [y]).sum = ys'.sum + y := by rw [List.sum_append]; simp
      have e3' : H3 sp = some (.lst (ys'.map V.int ++ [V.int y])) := by rw [e3, List.map_append]; rfl
      have hsort2 : (ys' ++ [y]).Pairwise (· ≤ ·) := by
        have := hsort
        rw [← hxy] at this
        exact (List.pairwise_append.mp this).1
      have hle : ∀ z ∈ ys', z ≤ y := fun z h => (List.pairwise_append.mp hsort2).2.2 z h y (by simp)
      have hplB : ((pl : Int)).natAbs < 2 ^ (m * k + m + 7) := by
        rw [Int.natAbs_natCast]
        refine Nat.lt_of_lt_of_le (show pl < 2 ^ 7 by omega) (Nat.pow_le_pow_right (by decide) (by omega))
      walk_at "z"
      refine Z.ixL (lstL e3') (atI_last _ _) ?_
      walk_at "z"
      refine Z.iC (mul_ok (n := m * k + m + 7) (up_B hy.2 (by omega)) hplB) ?_
      walk_at "z"
      refine Z.ite (fun h2 => ?_) (fun h2 => ?_)
      · refine Z.whb ?_
        have hpl2 : 2 ≤ pl := by
          refine Decidable.byContradiction fun z => ?_
          have : pl = 1 := by omega
          subst this
          rw [esum] at h2
          omega
        walk_at "z"
        refine ⟨Z.tyL e3', ?_⟩
        refine Z.popS e3' ?_
        walk_at "z"
        have ecast : ((pl - 1 : Nat) : Int) = (pl : Int) - 1 := by omega
        refine ⟨ys'.length, by simp, ys', y :: zs, pl - 1, rfl, ?_, k3.mut hnsp rfl, upd_same, by rw [← hxy]; simp, by omega, by simp; omega, ?_⟩
        · have e9 : (ys' ++ [y]).sum - y = ys'.sum := by rw [esum]; omega
          rw [← ecast]
          exact congrArg (fun z : Int => [some (V.ref a), some (V.int (size : Int)), some (V.int (comm fs : Int)), some (V.ref sp), some (V.int z), some (V.int ((pl - 1 : Nat) : Int))]) e9
        · have hyy : ys'.sum < y * ((pl - 1 : Nat) : Int) := by
            rw [esum] at h2
            rw [ecast, Int.mul_sub, Int.mul_one]
            omega
          intro z hz2
          rcases List.mem_cons.mp hz2 with rfl | hz2
          · exact hyy
          · have hyz : y ≤ z := by
              have := hsort
              rw [← hxy] at this
              exact (List.pairwise_append.mp this).2.2 y (by simp) z hz2
            exact Int.lt_of_lt_of_le hyy (Int.mul_le_mul_of_nonneg_right hyz (by omega))
      · walk_at "z"
        have hC4 : ((comm fs : Int)).natAbs < 2 ^ (m * k + m + 7) := by
          rw [Int.natAbs_natCast]
          exact Nat.lt_of_le_of_lt hC3 (Nat.pow_lt_pow_right (by decide) (by omega))
        have hq0 : (pl : Int) * (comm fs : Int) ≠ 0 := Int.mul_ne_zero (by omega) (by omega)
        refine Z.iC (mul_ok (n := m * k + m + 7) hplB hC4) ?_
        have hq1 : ((pl : Int) * (comm fs : Int)).natAbs < 2 ^ (m * k + 7) := by
          rw [Int.natAbs_mul, Int.natAbs_natCast, Int.natAbs_natCast, Nat.add_comm (m * k) 7, Nat.pow_add]
          exact Nat.lt_of_lt_of_le (Nat.mul_lt_mul_of_pos_right (show pl < 2 ^ 7 by omega) (by omega)) (Nat.mul_le_mul_left _ hC3)
        have hsumB : (ys' ++ [y]).sum.natAbs < 2 ^ (m * (k + 1) + 7) := by
          have h3 := sum_abs_lt (n := m * k + m) (l := ys' ++ [y]) fun z h => (hxp z (hyx z h)).2
          rw [hmk2, Nat.add_comm _ 7, Nat.pow_add]
          exact Nat.lt_of_le_of_lt h3 (Nat.mul_lt_mul_of_pos_right (show _ < 2 ^ 7 by omega) (Nat.two_pow_pos _))
        refine ⟨_, _, rfl, up_B hq1 (by omega), fun z => absurd z hq0, fun _ H4 b nb k4 e4 => ?_⟩
        refine q H4 b _ (k3.trans k4) e4 (lo_low hq0) (lo_B hq0 hsumB (up_B hq1 (by omega))) ?_
        have ht := thr_of (xs0 := fs.map (scl1 (comm fs : Int))) (ys := ys' ++ [y]) (zs := zs) (C := comm fs) (pl := pl) (size := size) hC1 hpl (by rw [hxy]; exact hperm) (by rw [esum]; omega) hz (fun z h => ?_) hps (by rw [List.length_map]; exact hn)
        · rw [rv_lo hq0]
          have e5 : (((pl : Int) * (comm fs : Int) : Int) : Rat) = (pl : Rat) * (comm fs : Rat) := by exact_mod_cast rfl
          rw [e5]
          rw [List.map_map] at ht
          have e6 : fs.map rv = fs.map ((fun x : Int => (x : Rat) / (comm fs : Rat)) ∘ scl1 (comm fs : Int)) := List.map_congr_left fun f hf => rv_scl hC1 (hB f hf).1 (comm_dvd hf)
          rw [e6]
          exact ht
        · have hzy : z ≤ y := by
            rcases List.mem_append.mp h with h | h
            · exact hle z h
            · rw [List.mem_singleton.mp h]; exact Int.le_refl _
          exact Int.le_trans (Int.mul_le_mul_of_nonneg_right hzy (by omega)) (by omega)

/-! ### calculations with fractions, as rational numbers -/
theorem rv_fplus {f g : Fr} (h1 : f.2 ≠ 0) (h2 : g.2 ≠ 0) : rv (fplus f g) = rv f + rv g := by
  unfold fplus
  rw [rv_lo (Int.mul_ne_zero h1 h2)]
  have a1 := ratNe h1
  have a2 := ratNe h2
  have e1 : ((f.1 * g.2 + g.1 * f.2 : Int) : Rat) = (f.1 : Rat) * (g.2 : Rat) + (g.1 : Rat) * (f.2 : Rat) := by exact_mod_cast rfl
  have e2 : ((f.2 * g.2 : Int) : Rat) = (f.2 : Rat) * (g.2 : Rat) := by exact_mod_cast rfl
  rw [e1, e2]
  unfold rv
  grind
theorem rv_fminus {f g : Fr} (h1 : f.2 ≠ 0) (h2 : g.2 ≠ 0) : rv (fminus f g) = rv f - rv g := by
  unfold fminus
  rw [rv_lo (Int.mul_ne_zero h1 h2)]
  have a1 := ratNe h1
  have a2 := ratNe h2
  have e1 : ((f.1 * g.2 - g.1 * f.2 : Int) : Rat) = (f.1 : Rat) * (g.2 : Rat) - (g.1 : Rat) * (f.2 : Rat) := by exact_mod_cast rfl
  have e2 : ((f.2 * g.2 : Int) : Rat) = (f.2 : Rat) * (g.2 : Rat) := by exact_mod_cast rfl
  rw [e1, e2]
  unfold rv
  grind
theorem rv_ftimes {f g : Fr} (h1 : f.2 ≠ 0) (h2 : g.2 ≠ 0) : rv (ftimes f g) = rv f * rv g := by
  unfold ftimes
  rw [rv_lo (Int.mul_ne_zero h1 h2)]
  have a1 := ratNe h1
  have a2 := ratNe h2
  have e1 : ((f.1 * g.1 : Int) : Rat) = (f.1 : Rat) * (g.1 : Rat) := by exact_mod_cast rfl
  have e2 : ((f.2 * g.2 : Int) : Rat) = (f.2 : Rat) * (g.2 : Rat) := by exact_mod_cast rfl
  rw [e1, e2]
  unfold rv
  grind
theorem fless_iff {f g : Fr} (h1 : 1 ≤ f.2) (h2 : 1 ≤ g.2) : fless f g = decide (rv f < rv g) := by
  unfold fless
  rw [decide_eq_decide]
  exact rv_lt h1 h2
theorem fplus_low {f g : Fr} (h1 : f.2 ≠ 0) (h2 : g.2 ≠ 0) : Low (fplus f g) := lo_low (Int.mul_ne_zero h1 h2)
theorem rv_fsum : ∀ {fs : List Fr} {t : Fr}, Low t → (∀ f ∈ fs, f.2 ≠ 0) → rv (fsum t fs) = rv t + (fs.map rv).sum ∧ Low (fsum t fs)
  | [], t, h, _ => ⟨by show rv t = rv t + 0; grind, h⟩
  | f :: r, t, h, hf => by
    have h1 := hf f (by simp)
    have ih := rv_fsum (fs := r) (t := fplus t f) (fplus_low h.ne h1) fun g hg => hf g (by simp [hg])
    refine ⟨?_, ih.2⟩
    show rv (fsum (fplus t f) r) = _
    rw [ih.1, rv_fplus h.ne h1, List.map_cons, List.sum_cons]
    grind
theorem eqv_fr (f g : Fr) : PyData.eqv (frD f) (frD g) = decide (f = g) := by
  obtain ⟨a, b⟩ := f
  obtain ⟨c, d⟩ := g
  simp [frD, PyData.eqv, PyData.eqvAll, Prod.ext_iff]
  rfl
theorem eqF {K : PySem.W.Frag} {H : Hp} {Q : VK} {a b : Addr} {f g : Fr} (h1 : FrAt K H a f) (h2 : FrAt K H b g) (q : Q (.bl (decide (f = g))) H) : rEqD K (.ref a) (.ref b) H Q :=
  ⟨_, _, dpF h1, dpF h2, frD_sh _, frD_sh _, by rw [eqv_fr]; exact q⟩
theorem neF {K : PySem.W.Frag} {H : Hp} {Q : VK} {a b : Addr} {f g : Fr} (h1 : FrAt K H a f) (h2 : FrAt K H b g) (q : Q (.bl (!decide (f = g))) H) : rNeD K (.ref a) (.ref b) H Q :=
  ⟨_, _, dpF h1, dpF h2, frD_sh _, frD_sh _, by rw [eqv_fr]; exact q⟩

def spLawSum (K : PySem.W.Frag) (m k : Nat) : Sp := fun vs H Q _ => ∃ (a : Addr) (as : List Addr) (fs : List Fr), vs = [.ref a] ∧ SqL K H a (as.map V.ref) ∧ FrsAt K H as fs ∧ (∀ f ∈ fs, 1 ≤ f.2 ∧ FrB m f) ∧ fs.length ≤ k ∧ ∀ H' c, Kp [] H H' → FrAt K H' c (fsum (0, 1) fs) → Q (.ref c) H'
theorem ok__law_sum_any {P : Program} {w : World} {K : PySem.W.Frag} {mg : Str → Option Value} {base : Heap} (T : T P K mg base) (m k : Nat) (hk : k * (m + 1) ≤ 1900) : FnOk P w K mg base CX0 3 T.a__law_sum T.fd__law_sum ["rows"] (spLawSum K m k) := by
  refine T.F__law_sum.ok sc__law_sum (fun vs H Q E h => ?_) (fun cdv A outer s H vs Q E hr h => ?_)
  · obtain ⟨a, as, fs, rfl, _⟩ := h
    rfl
  · obtain ⟨a, as, fs, rfl, hS, hF, hB, hl, q⟩ := h
    refine ⟨_, (pss_cons (ps_set (i := 1) sc__law_sum.nd rfl (by first | exact Or.inl rfl | exact Or.inr rfl) (pe_tup (pa_cons pe_int (pa_cons pe_int pa_nil))))
      (pss_cons (ps_for PassesOwn.never rfl (pi_list (pv 0)) (pg_name (i := 2) sc__law_sum.nd rfl (by first | exact Or.inl rfl | exact Or.inr rfl)) (pss_one (ps_set (i := 1) sc__law_sum.nd rfl (by first | exact Or.inl rfl | exact Or.inr rfl) (pe_call (ok__law_plus T) (hr.mono (by decide)) (by rfl) T.g__law_plus T.F__law_plus.kp T.b__law_plus .nil pass0 (pa_cons (pv 1) (pa_cons (pv 2) pa_nil))))))
      (pss_one (ps_ret (pv 1))))), ?_⟩
    walk_at "z0"
    walk_at "z"
    refine Z.tupK (fun b H1 nb k1 e1 => ?_)
    walk_at "z"
    refine Z.forl (as.map V.ref) (k1.seq nin0 hS) (fun i σ' H' => ∃ c y, σ' = [some (.ref a), some (.ref c), y] ∧ Kp [] H H' ∧ FrAt K H' c (fsum (0, 1) (fs.take i))) ?_ ?_ ?_ ?_
    · exact ⟨b, none, rfl, k1, tupT e1⟩
    · rintro i σ' H' _ ⟨c, y, rfl, k2, _⟩
      exact k2.seq nin0 hS
    · rintro i v σ' H' hv ⟨c, y, rfl, k2, e2⟩
      obtain ⟨x, f, rfl, hf, hx⟩ := (hF.kp0 k2).get hv
      have hfB := hB f (List.mem_of_getElem? hf)
      have hB1 := fsum_B (fs := fs.take i) (t := (0, 1)) (n := 1) (m := m) ⟨by decide, by decide⟩ (by decide) fun g hg => ⟨(hB g (List.mem_of_mem_take hg)).2, by have := (hB g (List.mem_of_mem_take hg)).1; omega⟩
      have hlow := rv_fsum (fs := fs.take i) low_zero fun g hg => by have := (hB g (List.mem_of_mem_take hg)).1; omega
      have hi : i < fs.length := (List.getElem?_eq_some_iff.mp hf).1
      have hle : 1 + (fs.take i).length * (m + 1) + m ≤ 1900 := by
        have h1 : (fs.take i).length + 1 ≤ k := by rw [List.length_take]; omega
        have h2 := Nat.mul_le_mul_right (m + 1) h1
        rw [Nat.add_mul, Nat.one_mul] at h2
        omega
      walk_at "z"
      refine ⟨c, x, _, f, rfl, e2, hx, hlow.2.1, hfB.1, ⟨_, _, hB1.1, hfB.2, hle⟩, fun H3 d nd k3 e3 => ?_⟩
      walk_at "z"
      exact ⟨d, _, rfl, k2.trans k3, by rw [fsum_take hf]; exact e3⟩
    · rintro σ' H' ⟨c, y, rfl, k2, e2⟩
      walk_at "z"
      rw [List.length_map, hF.len, List.take_length] at e2
      exact q _ _ k2 e2

/-- a promise for each of many -/
def spEx {ι : Type} (p : ι → Prop) (sp : ι → Sp) : Sp := fun vs H Q E => ∃ i, p i ∧ sp i vs H Q E
theorem fnEx {ι : Type} {P : Program} {w : World} {K : PySem.W.Frag} {mg : Str → Option Value} {base : Heap} {CX : CXT} {k : Nat} {f : Addr} {fd : FuncData} {ps : List Str} {p : ι → Prop} {sp : ι → Sp} (F : ∀ i, p i → FnOk P w K mg base CX k f fd ps (sp i)) : FnOk P w K mg base CX k f fd ps (spEx p sp) :=
  ⟨fun vs H Q E ⟨i, hi, q⟩ => (F i hi).len vs H Q E q, fun A outer s H args us vs Q E hr he hb hv ⟨i, hi, hs⟩ => (F i hi).run A outer s H args us vs Q E hr he hb hv hs⟩

/-! ### samphire.estimates, for uniform samples -/
def amt (kvs : List (Key × V)) (k : Str) : Int := match valV kvs (.inr k) with | some (.int n) => n | _ => 0
def AmtOk (kvs : List (Key × V)) : Prop := ∀ k v, valV kvs (.inr k) = some v → ∃ n : Int, v = .int n ∧ n.natAbs ≤ 10
theorem amt_le {kvs : List (Key × V)} (h : AmtOk kvs) (k : Str) : (amt kvs k).natAbs ≤ 10 := by
  unfold amt
  cases e : valV kvs (.inr k) with
  | none => decide
  | some v =>
    obtain ⟨n, rfl, hn⟩ := h k v e
    exact hn
def spAmountOf (K : PySem.W.Frag) : Sp := fun vs H Q _ => ∃ (d t : Addr) (kvs : List (Key × V)) (r : Row), vs = [.ref d, .ref t] ∧ H d = some (.dK kvs) ∧ AmtOk kvs ∧ RowAt H t r ∧ Q (.int (amt kvs r.k)) H
theorem getD_amt {kvs : List (Key × V)} (h : AmtOk kvs) (k : Str) : (valV kvs (.inr k)).getD (.int 0) = .int (amt kvs k) := by
  unfold amt
  cases e : valV kvs (.inr k) with
  | none => rfl
  | some v =>
    obtain ⟨n, rfl, hn⟩ := h k v e
    rfl
theorem ok_amount_of {P : Program} {w : World} {K : PySem.W.Frag} {mg : Str → Option Value} {base : Heap} (T : T P K mg base) : FnOk P w K mg base CX0 1 T.a_amount_of T.fd_amount_of ["amounts", "item"] (spAmountOf K) := by
  refine T.F_amount_of.ok sc_amount_of (fun vs H Q E h => ?_) (fun cdv A outer s H vs Q E hr h => ?_)
  · obtain ⟨d, t, kvs, r, rfl, _⟩ := h
    rfl
  · obtain ⟨d, t, kvs, r, rfl, hd, ho, ht, q⟩ := h
    refine ⟨_, (pss_one (ps_ret (pe_dget2 (Nat.lt_of_le_of_lt (Nat.add_le_add_left (by decide) _) (hu_of hr)) (pv 0) (pe_ix ix_tup (pv 1) pe_int (fun _ _ => rfl)) pe_int ⟨by rfl, by rfl, by rfl, by rfl⟩))), ?_⟩
    walk_at "z0"
    walk_at "z"
    refine ⟨d, rfl, .inl ⟨kvs, .inl hd⟩, ?_⟩
    walk_at "z"
    refine RowAt.k0 ht ?_
    walk_at "z"
    refine ⟨_, DGet.k (k := .inr r.k) hd, ?_⟩
    rw [getD_amt ho]
    exact q
def amts (kvs : List (Key × V)) (ps : List (Addr × Row)) : List Int := ps.map fun x => amt kvs x.2.k
theorem amts_B {kvs : List (Key × V)} (h : AmtOk kvs) {ps : List (Addr × Row)} : ∀ z ∈ amts kvs ps, z.natAbs ≤ 10 := fun z hz => by
  obtain ⟨x, _, rfl⟩ := List.mem_map.mp hz
  exact amt_le h _
theorem sum_absI {c : Nat} : ∀ {l : List Int}, (∀ x ∈ l, x.natAbs ≤ c) → l.sum.natAbs ≤ c * l.length
  | [], _ => by simp
  | a :: r, h => by
    have h1 := h a (by simp)
    have h2 := sum_absI (c := c) (l := r) fun z hz => h z (by simp [hz])
    rw [List.sum_cons, List.length_cons, Nat.mul_add]
    omega
def spTrueSum (K : PySem.W.Frag) : Sp := fun vs H Q _ => ∃ (l d : Addr) (ps : List (Addr × Row)) (kvs : List (Key × V)), vs = [.ref l, .ref d] ∧ H l = some (.lst (refs ps)) ∧ RowsAt H ps ∧ ps.length ≤ 1000 ∧ H d = some (.dK kvs) ∧ AmtOk kvs ∧ ∀ H', Kp [] H H' → Q (.int (amts kvs ps).sum) H'
theorem ok_true_sum {P : Program} {w : World} {K : PySem.W.Frag} {mg : Str → Option Value} {base : Heap} (T : T P K mg base) : FnOk P w K mg base CX0 2 T.a_true_sum T.fd_true_sum ["things", "amounts"] (spTrueSum K) := by
  refine T.F_true_sum.ok sc_true_sum (fun vs H Q E h => ?_) (fun cdv A outer s H vs Q E hr h => ?_)
  · obtain ⟨l, d, ps, kvs, rfl, _⟩ := h
    rfl
  · obtain ⟨l, d, ps, kvs, rfl, hl, hps, hn, hd, ho, q⟩ := h
    refine ⟨_, (pss_one (ps_ret (pe_callB (cr_sum rfl) (by rfl) T.z_sum (by decide +kernel) (pa_cons (pe_lc (own := [("item", 2)]) (g := gName 2) rfl sc_true_sum.nd (pi_list (pv 0)) (blkOk_by (own := [("item", 2)]) (N := N_true_sum) (sc := defScope s_true_sum) (by decide +kernel)) (fun _ _ _ _ _ => (pg_name (i := 2) sc_true_sum.nd rfl (by first | exact Or.inl rfl | exact Or.inr rfl))) (fun _ _ _ _ _ => pts_nil) (fun _ _ _ _ _ => (pe_call (ok_amount_of T) (hr.mono (by decide)) (by rfl) T.g_amount_of T.F_amount_of.kp T.b_amount_of .nil pass0 (pa_cons (pv 1) (pa_cons (pv 2) pa_nil))))) pa_nil)))), ?_⟩
    walk_at "z0"
    walk_at "z"
    refine Z.lcl (refs ps) (lstL hl) (fun D i H' => Kp [] H H' ∧ H' D = some (.lst ((amts kvs (ps.take i)).map V.int))) ?_ ?_ ?_ ?_
    · intro D H1 nD k1 e1
      exact ⟨k1, e1⟩
    · rintro D i H1 nD hi ⟨k1, e1⟩
      exact lstL (k1.get nin0 hl)
    · rintro D i v H1 nD hv ⟨k1, e1⟩
      obtain ⟨x, hx, rfl⟩ := refs_of hv
      have hi : i < ps.length := (List.getElem?_eq_some_iff.mp hx).1
      dsimp only [wipe, List.set]
      walk_at "z"
      refine ⟨rfl, ?_⟩
      walk_at "z"
      refine ⟨d, x.1, kvs, x.2, rfl, k1.get nin0 hd, ho, (hps.kp0 k1) x (List.mem_of_getElem? hx), ?_⟩
      refine ⟨_, e1, Z.szl (m := 1000) (by unfold amts; rw [List.length_map, List.length_map, List.length_take]; omega), k1.mut nD rfl, ?_⟩
      rw [upd_same, List.take_add_one, hx]
      unfold amts
      rw [List.map_append, List.map_append]; rfl
    · rintro D H1 nD ⟨k1, e1⟩
      rw [refs_len, List.take_length] at e1
      walk_at "z"
      refine Z.sumL (lstL e1) ?_
      exact q H1 k1
def yF (kvs : List (Key × V)) (r : Row) : Fr := (amt kvs r.k, 1)
def spAmountsOf (K : PySem.W.Frag) : Sp := fun vs H Q _ => ∃ (l d : Addr) (ps : List (Addr × Row)) (kvs : List (Key × V)), vs = [.ref l, .ref d] ∧ H l = some (.lst (refs ps)) ∧ RowsAt H ps ∧ ps.length ≤ 1000 ∧ H d = some (.dK kvs) ∧ AmtOk kvs ∧ ∀ H' D as, Kp [] H H' → H' D = some (.lst (as.map V.ref)) → FrsAt K H' as (ps.map fun x => yF kvs x.2) → Q (.ref D) H'
theorem ok_amounts_of {P : Program} {w : World} {K : PySem.W.Frag} {mg : Str → Option Value} {base : Heap} (T : T P K mg base) : FnOk P w K mg base CX0 2 T.a_amounts_of T.fd_amounts_of ["things", "amounts"] (spAmountsOf K) := by
  refine T.F_amounts_of.ok sc_amounts_of (fun vs H Q E h => ?_) (fun cdv A outer s H vs Q E hr h => ?_)
  · obtain ⟨l, d, ps, kvs, rfl, _⟩ := h
    rfl
  · obtain ⟨l, d, ps, kvs, rfl, hl, hps, hn, hd, ho, q⟩ := h
    refine ⟨_, (pss_one (ps_ret (pe_lc (own := [("item", 2)]) (g := gName 2) rfl sc_amounts_of.nd (pi_list (pv 0)) (blkOk_by (own := [("item", 2)]) (N := N_amounts_of) (sc := defScope s_amounts_of) (by decide +kernel)) (fun _ _ _ _ _ => (pg_name (i := 2) sc_amounts_of.nd rfl (by first | exact Or.inl rfl | exact Or.inr rfl))) (fun _ _ _ _ _ => pts_nil) (fun _ _ _ _ _ => (pe_tup (pa_cons (pe_call (ok_amount_of T) (hr.mono (by decide)) (by rfl) T.g_amount_of T.F_amount_of.kp T.b_amount_of .nil pass0 (pa_cons (pv 1) (pa_cons (pv 2) pa_nil))) (pa_cons pe_int pa_nil))))))), ?_⟩
    walk_at "z0"
    walk_at "z"
    refine Z.lcl (refs ps) (lstL hl) (fun D i H' => ∃ as : List Addr, Kp [] H H' ∧ H' D = some (.lst (as.map V.ref)) ∧ FrsAt K H' as ((ps.take i).map fun x => yF kvs x.2)) ?_ ?_ ?_ ?_
    · intro D H1 nD k1 e1
      exact ⟨[], k1, e1, .nil⟩
    · rintro D i H1 nD hi ⟨as, k1, e1, F1⟩
      exact lstL (k1.get nin0 hl)
    · rintro D i v H1 nD hv ⟨as, k1, e1, F1⟩
      obtain ⟨x, hx, rfl⟩ := refs_of hv
      have hi : i < ps.length := (List.getElem?_eq_some_iff.mp hx).1
      dsimp only [wipe, List.set]
      walk_at "z"
      refine ⟨rfl, ?_⟩
      walk_at "z"
      refine ⟨d, x.1, kvs, x.2, rfl, k1.get nin0 hd, ho, (hps.kp0 k1) x (List.mem_of_getElem? hx), ?_⟩
      walk_at "z"
      refine Z.tupK (fun t H2 nt k2 e2 => ?_)
      have e2D := k2.get nin0 e1
      have e2t : FrAt K H2 t (yF kvs x.2) := tupT e2
      refine ⟨_, e2D, Z.szl (m := 1000) (by rw [List.length_map, F1.len, List.length_map, List.length_take]; omega), as ++ [t], (k1.trans k2).mut nD rfl, by rw [upd_same, List.map_append]; rfl, ?_⟩
      rw [List.take_add_one, hx, List.map_append]
      exact ((F1.kp0 k2).snoc e2t).kpl (Kp.put (by simp)) e2D
    · rintro D H1 nD ⟨as, k1, e1, F1⟩
      rw [refs_len, List.take_length] at F1
      exact q H1 D as k1 e1 F1
theorem ok_sum_of {P : Program} {w : World} {K : PySem.W.Frag} {mg : Str → Option Value} {base : Heap} (T : T P K mg base) : FnOk P w K mg base CX0 5 T.a_sum_of T.fd_sum_of ["fractions"] (spEx (fun i : Nat × Nat => i.1 ≤ 3900 ∧ 1 + i.2 * (i.1 + 1) ≤ 3900) fun i => spSumOf K i.1 i.2) := fnEx fun i h => ok_sum_of_any T i.1 i.2 h.1 h.2
theorem rv_fover {f g : Fr} (h1 : f.2 ≠ 0) (h2 : g.2 ≠ 0) (h3 : g.1 ≠ 0) : rv (fover f g) = rv f / rv g := by
  unfold fover
  rw [rv_lo (Int.mul_ne_zero h1 h3)]
  have a1 := ratNe h1
  have a2 := ratNe h2
  have a3 := ratNe h3
  have e1 : ((f.1 * g.2 : Int) : Rat) = (f.1 : Rat) * (g.2 : Rat) := by exact_mod_cast rfl
  have e2 : ((f.2 * g.1 : Int) : Rat) = (f.2 : Rat) * (g.1 : Rat) := by exact_mod_cast rfl
  rw [e1, e2]
  unfold rv
  grind

/-! ### means and squares, as fractions -/
def meanR (ws : List Rat) : Rat := ws.sum / (ws.length : Rat)
def sqR (ws : List Rat) : Rat := (ws.map fun w => (w - meanR ws) * (w - meanR ws)).sum
structure NB (fs : List Fr) : Prop where
  B : ∀ f ∈ fs, 1 ≤ f.2 ∧ FrB 19 f
  n1 : 1 ≤ fs.length
  n6 : fs.length ≤ 6
def meanF (fs : List Fr) : Fr := fover (fsum (0, 1) fs) ((fs.length : Int), 1)
def dif (fs : List Fr) (f : Fr) : Fr := fminus f (meanF fs)
def sqF (fs : List Fr) : Fr := fsum (0, 1) (fs.map fun f => ftimes (dif fs f) (dif fs f))
theorem NB.sum {fs : List Fr} (h : NB fs) : Low (fsum (0, 1) fs) ∧ FrB 121 (fsum (0, 1) fs) ∧ rv (fsum (0, 1) fs) = (fs.map rv).sum := by
  have hs := rv_fsum (fs := fs) low_zero fun f hf => by have := (h.B f hf).1; omega
  have hsB := fsum_B (fs := fs) (t := (0, 1)) (n := 1) (m := 19) ⟨by decide, by decide⟩ (by decide) fun f hf => ⟨(h.B f hf).2, by have := (h.B f hf).1; omega⟩
  have h6 := h.n6
  refine ⟨hs.2, hsB.1.mono (by omega), ?_⟩
  rw [hs.1, rv_zero]; grind
theorem NB.mean {fs : List Fr} (h : NB fs) : Low (meanF fs) ∧ FrB 124 (meanF fs) ∧ rv (meanF fs) = meanR (fs.map rv) := by
  obtain ⟨h1, h2, h3⟩ := h.sum
  have n1 := h.n1
  have n6 := h.n6
  have hg0 : ((fs.length : Int), (1 : Int)).1 ≠ 0 := by show (fs.length : Int) ≠ 0; omega
  have hgB : FrB 3 ((fs.length : Int), 1) := ⟨by show fs.length < 8; omega, by show 1 < 8; decide⟩
  have hne := Int.mul_ne_zero h1.ne hg0
  refine ⟨lo_low hne, lo_B hne (up_B (mul_B h2.1 hgB.2) (by decide)) (up_B (mul_B h2.2 hgB.1) (by decide)), ?_⟩
  unfold meanF
  rw [rv_fover h1.ne (by show (1 : Int) ≠ 0; decide) hg0, h3, rv_int]
  unfold meanR
  rw [List.length_map]
  have e10 : (((fs.length : Nat) : Int) : Rat) = (fs.length : Rat) := by exact_mod_cast rfl
  rw [e10]
theorem NB.dif {fs : List Fr} (h : NB fs) {f : Fr} (hf : f ∈ fs) : FrB 144 (dif fs f) ∧ 1 ≤ (dif fs f).2 ∧ rv (dif fs f) = rv f - meanR (fs.map rv) := by
  have h2 := h.B f hf
  obtain ⟨m1, m2, m3⟩ := h.mean
  refine ⟨fminus_B (n := 19) (m := 124) h2.2 m2 (by omega) m1.ne, lo_pos (Int.mul_ne_zero (by omega) m1.ne), ?_⟩
  unfold K37.dif
  rw [rv_fminus (by omega) m1.ne, m3]
theorem NB.sqs {fs : List Fr} (h : NB fs) : ∀ z ∈ fs.map (fun f => ftimes (K37.dif fs f) (K37.dif fs f)), 1 ≤ z.2 ∧ FrB 288 z := fun z hz => by
  obtain ⟨f, hf, rfl⟩ := List.mem_map.mp hz
  have hdb := h.dif hf
  have hne : (K37.dif fs f).2 ≠ 0 := by omega
  exact ⟨lo_pos (Int.mul_ne_zero hne hne), ftimes_B (n := 144) (m := 144) hdb.1 hdb.1 hne hne⟩
theorem NB.sq {fs : List Fr} (h : NB fs) : Low (sqF fs) ∧ FrB 1735 (sqF fs) ∧ rv (sqF fs) = sqR (fs.map rv) := by
  have hq := h.sqs
  have hs := rv_fsum (fs := fs.map fun f => ftimes (K37.dif fs f) (K37.dif fs f)) low_zero fun f hf => by have := (hq f hf).1; omega
  have hsum := fsum_B (fs := fs.map fun f => ftimes (K37.dif fs f) (K37.dif fs f)) (t := (0, 1)) (n := 1) (m := 288) ⟨by decide, by decide⟩ (by decide) fun f hf => ⟨(hq f hf).2, by have := (hq f hf).1; omega⟩
  have n6 := h.n6
  refine ⟨hs.2, hsum.1.mono (by rw [List.length_map]; omega), ?_⟩
  show rv (fsum _ _) = _
  rw [hs.1, rv_zero]
  unfold sqR
  rw [List.map_map, List.map_map]
  have e9 : fs.map (rv ∘ fun f => ftimes (K37.dif fs f) (K37.dif fs f)) = fs.map ((fun w => (w - meanR (fs.map rv)) * (w - meanR (fs.map rv))) ∘ rv) := List.map_congr_left fun f hf => by
    have hdb := h.dif hf
    simp only [Function.comp_apply]
    rw [rv_ftimes (by omega) (by omega), hdb.2.2]
  rw [e9]
  grind
theorem sumR_perm {a b : List Rat} (h : a.Perm b) : a.sum = b.sum := by
  induction h with
  | nil => rfl
  | cons x _ ih => rw [List.sum_cons, List.sum_cons, ih]
  | swap x y l => rw [List.sum_cons, List.sum_cons, List.sum_cons, List.sum_cons]; grind
  | trans _ _ h1 h2 => rw [h1, h2]
theorem meanR_perm {a b : List Rat} (h : a.Perm b) : meanR a = meanR b := by
  unfold meanR
  rw [sumR_perm h, h.length_eq]
theorem sqR_perm {a b : List Rat} (h : a.Perm b) : sqR a = sqR b := by
  unfold sqR
  rw [meanR_perm h]
  exact sumR_perm (h.map _)
theorem NB.perm {a b : List Fr} (h : NB a) (p : a.Perm b) : NB b := ⟨fun f hf => h.B f (p.mem_iff.mpr hf), by rw [← p.length_eq]; exact h.n1, by rw [← p.length_eq]; exact h.n6⟩
theorem sqF_perm {a b : List Fr} (h : NB a) (p : a.Perm b) : sqF a = sqF b := by
  obtain ⟨h1, _, h3⟩ := h.sq
  obtain ⟨g1, _, g3⟩ := (h.perm p).sq
  exact low_eq h1 g1 (by rw [h3, g3]; exact sqR_perm (p.map rv))
theorem fsum_perm {a b : List Fr} (h : NB a) (p : a.Perm b) : fsum (0, 1) a = fsum (0, 1) b := by
  obtain ⟨h1, _, h3⟩ := h.sum
  obtain ⟨g1, _, g3⟩ := (h.perm p).sum
  exact low_eq h1 g1 (by rw [h3, g3]; exact sumR_perm (p.map rv))
def spMean (K : PySem.W.Frag) : Sp := fun vs H Q _ => ∃ (l : Addr) (as : List Addr) (fs : List Fr), vs = [.ref l] ∧ SqL K H l (as.map V.ref) ∧ FrsAt K H as fs ∧ NB fs ∧ ∀ H' c, Kp [] H H' → FrAt K H' c (meanF fs) → Q (.ref c) H'
theorem ok_mean_of {P : Program} {w : World} {K : PySem.W.Frag} {mg : Str → Option Value} {base : Heap} (T : T P K mg base) : FnOk P w K mg base CX0 6 T.a_mean_of T.fd_mean_of ["numbers"] (spMean K) := by
  refine T.F_mean_of.ok sc_mean_of (fun vs H Q E h => ?_) (fun cdv A outer s H vs Q E hr h => ?_)
  · obtain ⟨l, as, fs, rfl, _⟩ := h
    rfl
  · obtain ⟨l, as, fs, rfl, hS, hF, hN, q⟩ := h
    have hB := hN.B
    have h1 := hN.n1
    have h6 := hN.n6
    obtain ⟨s1, s2, _⟩ := hN.sum
    refine ⟨_, (pss_one (ps_ret (pe_call (ok_over T) (hr.mono (by decide)) (by rfl) T.g_over T.F_over.kp T.b_over .nil passL (pa_cons (pe_call (ok_sum_of T) (hr.mono (by decide)) (by rfl) T.g_sum_of T.F_sum_of.kp T.b_sum_of .nil pass0 (pa_cons (pv 0) pa_nil)) (pa_cons (pe_tup (pa_cons (pe_callB c_len (by rfl) T.z_len (by decide +kernel) (pa_cons (pv 0) pa_nil)) (pa_cons pe_int pa_nil))) pa_nil))))), ?_⟩
    walk_at "z0"
    walk_at "z"
    refine ⟨(19, 6), ⟨by decide, by decide⟩, l, as, fs, rfl, hS, hF, fun f hf => ⟨(hB f hf).2, by have := (hB f hf).1; omega⟩, h6, fun H1 c1 k1 e1 => ?_⟩
    walk_at "z"
    refine Z.lenL (k1.seq nin0 hS) ?_
    rw [List.length_map, hF.len]
    walk_at "z"
    refine Z.tupK (fun t H2 nt k2 e2 => ?_)
    walk_at "z"
    have hg0 : ((fs.length : Int), (1 : Int)).1 ≠ 0 := by show (fs.length : Int) ≠ 0; omega
    have hgB : FrB 3 ((fs.length : Int), 1) := ⟨by show fs.length < 8; omega, by show 1 < 8; decide⟩
    refine ⟨c1, t, _, ((fs.length : Int), 1), rfl, e1.kp0 k2, tupT e2, s1.ne, s2.mono (by decide), hgB.mono (by decide), fun z => absurd z hg0, fun _ H3 c3 n3 k3 e3 => ?_⟩
    exact q H3 c3 ((k1.trans k2).trans k3) e3
def spSq (K : PySem.W.Frag) : Sp := fun vs H Q _ => ∃ (l : Addr) (as : List Addr) (fs : List Fr), vs = [.ref l] ∧ SqL K H l (as.map V.ref) ∧ FrsAt K H as fs ∧ NB fs ∧ ∀ H' c, Kp [] H H' → FrAt K H' c (sqF fs) → Q (.ref c) H'
theorem ok_squares_around {P : Program} {w : World} {K : PySem.W.Frag} {mg : Str → Option Value} {base : Heap} (T : T P K mg base) : FnOk P w K mg base CX0 7 T.a_squares_around T.fd_squares_around ["numbers"] (spSq K) := by
  refine T.F_squares_around.ok sc_squares_around (fun vs H Q E h => ?_) (fun cdv A outer s H vs Q E hr h => ?_)
  · obtain ⟨l, as, fs, rfl, _⟩ := h
    rfl
  · obtain ⟨l, as, fs, rfl, hS, hF, hN, q⟩ := h
    have hB := hN.B
    have h6 := hN.n6
    obtain ⟨m1, m2, _⟩ := hN.mean
    refine ⟨_, (pss_cons (ps_set (i := 1) sc_squares_around.nd rfl (by first | exact Or.inl rfl | exact Or.inr rfl) (pe_call (ok_mean_of T) (hr.mono (by decide)) (by rfl) T.g_mean_of T.F_mean_of.kp T.b_mean_of .nil pass0 (pa_cons (pv 0) pa_nil)))
      (pss_cons (ps_setLc (i := 2) (own := [("number", 3)]) (g := gName 3) rfl sc_squares_around.nd rfl rfl (sw_true rfl rfl rfl (by decide +kernel)) (pi_list (pv 0)) (blkOk_by (own := [("number", 3)]) (N := N_squares_around) (sc := defScope s_squares_around) (by decide +kernel)) (fun _ _ _ _ _ => (pg_name (i := 3) sc_squares_around.nd rfl (by first | exact Or.inl rfl | exact Or.inr rfl))) (fun _ _ _ _ _ => pts_nil) (fun _ _ _ _ _ => (pe_call (ok_minus T) (hr.mono (by decide)) (by rfl) T.g_minus T.F_minus.kp T.b_minus .nil pass0 (pa_cons (pv 3) (pa_cons (pv 1) pa_nil)))))
      (pss_one (ps_ret (pe_call (ok_sum_of T) (hr.mono (by decide)) (by rfl) T.g_sum_of T.F_sum_of.kp T.b_sum_of .nil pass0 (pa_cons (pe_lc (own := [("number", 3)]) (g := gName 3) rfl sc_squares_around.nd (pi_list (pv 2)) (blkOk_by (own := [("number", 3)]) (N := N_squares_around) (sc := defScope s_squares_around) (by decide +kernel)) (fun _ _ _ _ _ => (pg_name (i := 3) sc_squares_around.nd rfl (by first | exact Or.inl rfl | exact Or.inr rfl))) (fun _ _ _ _ _ => pts_nil) (fun _ _ _ _ _ => (pe_call (ok_times T) (hr.mono (by decide)) (by rfl) T.g_times T.F_times.kp T.b_times .nil pass0 (pa_cons (pv 3) (pa_cons (pv 3) pa_nil))))) pa_nil)))))), ?_⟩
    walk_at "z0"
    walk_at "z"
    refine ⟨l, as, fs, rfl, hS, hF, hN, fun H1 M k1 e1 => ?_⟩
    have hS1 := k1.seq nin0 hS
    have F1 := hF.kp0 k1
    walk_at "z"
    refine Z.lcl (as.map V.ref) hS1 (fun D i H' => ∃ bs : List Addr, Kp [] H1 H' ∧ H' D = some (.lst (bs.map V.ref)) ∧ FrsAt K H' bs ((fs.take i).map fun f => dif fs f)) ?_ ?_ ?_ ?_
    · intro D H2 nD k2 e2
      exact ⟨[], k2, e2, .nil⟩
    · rintro D i H2 nD hi ⟨bs, k2, e2, F2⟩
      exact k2.seq nin0 hS1
    · rintro D i v H2 nD hv ⟨bs, k2, e2, F2⟩
      obtain ⟨x, f, rfl, hf, hx⟩ := (F1.kp0 k2).get hv
      have hi : i < fs.length := (List.getElem?_eq_some_iff.mp hf).1
      have hfB := hB f (List.mem_of_getElem? hf)
      dsimp only [wipe, List.set]
      walk_at "z"
      refine ⟨rfl, ?_⟩
      walk_at "z"
      refine ⟨x, M, f, meanF fs, rfl, hx, e1.kp0 k2, by omega, m1.ne, hfB.2.mono (by decide), m2.mono (by decide), fun H3 c3 n3 k3 e3 => ?_⟩
      have e3D := k3.get nin0 e2
      refine ⟨_, e3D, Z.szl (m := 1000) (by rw [List.length_map, F2.len, List.length_map, List.length_take]; omega), bs ++ [c3], (k2.trans k3).mut nD rfl, by rw [upd_same, List.map_append]; rfl, ?_⟩
      rw [List.take_add_one, hf, List.map_append]
      exact ((F2.kp0 k3).snoc e3).kpl (Kp.put (by simp)) e3D
    · rintro D H2 nD ⟨bs, k2, e2, F2⟩
      rw [List.length_map, F1.len, List.take_length] at F2
      walk_at "z"
      refine Z.lcl (bs.map V.ref) (lstL e2) (fun D2 i H' => ∃ cs : List Addr, Kp [] H2 H' ∧ H' D2 = some (.lst (cs.map V.ref)) ∧ FrsAt K H' cs ((fs.take i).map fun f => ftimes (dif fs f) (dif fs f))) ?_ ?_ ?_ ?_
      · intro D2 H3 nD2 k3 e3
        exact ⟨[], k3, e3, .nil⟩
      · rintro D2 i H3 nD2 hi ⟨cs, k3, e3, F3⟩
        exact lstL (k3.get nin0 e2)
      · rintro D2 i v H3 nD2 hv ⟨cs, k3, e3, F3⟩
        obtain ⟨x, d, rfl, hd, hx⟩ := (F2.kp0 k3).get hv
        rw [List.getElem?_map] at hd
        cases hy : fs[i]? with
        | none => rw [hy] at hd; cases hd
        | some f =>
          rw [hy] at hd
          obtain rfl := Option.some.inj hd
          have hi : i < fs.length := (List.getElem?_eq_some_iff.mp hy).1
          have hdb := hN.dif (List.mem_of_getElem? hy)
          dsimp only [wipe, List.set]
          walk_at "z"
          refine ⟨rfl, ?_⟩
          walk_at "z"
          refine ⟨x, x, dif fs f, dif fs f, rfl, hx, hx, by omega, by omega, hdb.1.mono (by decide), hdb.1.mono (by decide), fun H4 c4 n4 k4 e4 => ?_⟩
          have e4D := k4.get nin0 e3
          refine ⟨_, e4D, Z.szl (m := 1000) (by rw [List.length_map, F3.len, List.length_map, List.length_take]; omega), cs ++ [c4], (k3.trans k4).mut nD2 rfl, by rw [upd_same, List.map_append]; rfl, ?_⟩
          rw [List.take_add_one, hy, List.map_append]
          exact ((F3.kp0 k4).snoc e4).kpl (Kp.put (by simp)) e4D
      · rintro D2 H3 nD2 ⟨cs, k3, e3, F3⟩
        rw [List.length_map, F2.len, List.length_map, List.take_length] at F3
        have hsB := hN.sqs
        walk_at "z"
        refine ⟨(288, 6), ⟨by decide, by decide⟩, D2, cs, _, rfl, lstL e3, F3, fun z hz => ⟨(hsB z hz).2, by have := (hsB z hz).1; omega⟩, by rw [List.length_map]; exact h6, fun H4 c4 k4 e4 => ?_⟩
        exact q H4 c4 (((k1.trans k2).trans k3).trans k4) e4

/-! ### uniform samples as objects -/
def uf (size seen : Int) (k : Addr) : List (Str × V) := [("size", .int size), ("seen", .int seen), ("kept", .ref k)]
theorem uf_mk (size seen : Int) (k : Addr) : putF "kept" (.ref k) (putF "seen" (.int seen) (putF "size" (.int size) [])) = uf size seen k := by
  have n1 : ¬ (("size" : Str) = "seen") := by decide +kernel
  have n2 : ¬ (("size" : Str) = "kept") := by decide +kernel
  have n3 : ¬ (("seen" : Str) = "kept") := by decide +kernel
  have e1 : putF "seen" (.int seen) (putF "size" (.int size) []) = [(("size" : Str), V.int size), (("seen" : Str), V.int seen)] := by
    show (if ("size" : Str) = "seen" then _ else (("size" : Str), V.int size) :: [(("seen" : Str), V.int seen)]) = _
    rw [if_neg n1]
  rw [e1]
  show (if ("size" : Str) = "kept" then _ else (("size" : Str), V.int size) :: (if ("seen" : Str) = "kept" then _ else (("seen" : Str), V.int seen) :: [(("kept" : Str), V.ref k)])) = _
  rw [if_neg n2, if_neg n3]; rfl
theorem uf_size (size seen : Int) (k : Addr) : (uf size seen k).lookup ("size" : Str) = some (.int size) := rfl
theorem uf_seen (size seen : Int) (k : Addr) : (uf size seen k).lookup ("seen" : Str) = some (.int seen) := rfl
theorem uf_kept (size seen : Int) (k : Addr) : (uf size seen k).lookup ("kept" : Str) = some (.ref k) := rfl
def UniAt (C : Addr) (H : Hp) (x k : Addr) (size seen : Int) (ps : List (Addr × Row)) : Prop := (∃ dx, H x = some (.ins C dx (uf size seen k))) ∧ H k = some (.lst (refs ps))
theorem UniAt.kp0 {C : Addr} {H H' : Hp} {x k : Addr} {size seen : Int} {ps : List (Addr × Row)} (h : UniAt C H x k size seen ps) (kk : Kp [] H H') : UniAt C H' x k size seen ps := let ⟨⟨dx, h1⟩, h2⟩ := h; ⟨⟨dx, kk.get nin0 h1⟩, kk.get nin0 h2⟩
def spUInit (K : PySem.W.Frag) (C : Addr) : Sp := fun vs H Q _ => ∃ (x b dx : Addr) (size seen : Int) (ps : List (Addr × Row)), vs = [.ref x, .int size, .int seen, .ref b] ∧ H x = some (.ins C dx []) ∧ H b = some (.lst (refs ps)) ∧ ∀ H' k, H k = none → Kp [x] H H' → UniAt C H' x k size seen ps → Q .non H'
theorem ok_Uniform_init {P : Program} {w : World} {K : PySem.W.Frag} {mg : Str → Option Value} {base : Heap} (T : T P K mg base) : FnOk P w K mg base CX0 1 T.a_Uniform_init T.fd_Uniform_init ["self", "size", "seen", "kept"] (spUInit K T.C_Uniform) := by
  refine T.F_Uniform_init.ok sc_Uniform_init (fun vs H Q E h => ?_) (fun cdv A outer s H vs Q E hr h => ?_)
  · obtain ⟨x, b, dx, size, seen, ps, rfl, _⟩ := h
    rfl
  · obtain ⟨x, b, dx, size, seen, ps, rfl, hx, hb, q⟩ := h
    refine ⟨_, (pss_cons (ps_fld (pv 0) (pv 1) rfl)
      (pss_cons (ps_fld (pv 0) (pv 2) rfl)
      (pss_one (ps_fld (pv 0) (pe_callTy c_list (by rfl) T.z_list (by decide +kernel) (pa_cons (pv 3) pa_nil)) rfl)))), ?_⟩
    have nbx : b ≠ x := fun z => by rw [z, hx] at hb; cases hb
    walk_at "z0"
    walk_at "z"
    refine ⟨x, _, dx, [], rfl, hx, T.cl_Uniform, T.na_Uniform_size, by decide, ?_⟩
    walk_at "z"
    refine ⟨x, _, dx, _, rfl, upd_same, T.cl_Uniform, T.na_Uniform_seen, by show 1 < 1000; decide, ?_⟩
    walk_at "z"
    rw [upd_upd]
    refine Z.listL (lstL ((upd_ne nbx).trans hb)) fun k H1 nk k1 e1 => ?_
    have hx1 := k1.get nin0 (show upd H x _ x = some _ from upd_same)
    have nxk : x ≠ k := ne_of_none (show upd H x _ x = some _ from upd_same) nk
    have nk0 : H k = none := by rwa [upd_ne nxk.symm] at nk
    walk_at "z"
    refine ⟨x, _, dx, _, rfl, hx1, T.cl_Uniform, T.na_Uniform_kept, by show 2 < 1000; decide, ?_⟩
    walk_at "z"
    rw [uf_mk]
    exact q _ k nk0 (((Kp.put (by simp)).trans (k1.sub (by simp))).trans (Kp.put (by simp))) ⟨⟨dx, upd_same⟩, (upd_ne nxk.symm).trans e1⟩
theorem tyUni {P : Program} {K : PySem.W.Frag} {mg : Str → Option Value} (T : T P K mg base) {H : Hp} {x k : Addr} {size seen : Int} {ps : List (Addr × Row)} (h : UniAt T.C_Uniform H x k size seen ps) : TyX K H (.ref x) (.ref T.C_Uniform) :=
  let ⟨⟨_, h1⟩, _⟩ := h
  .base (.ins h1 T.cl_Uniform T.isa_Uniform T.isg_Uniform T.ist_Uniform T.ism_Uniform)
theorem isU {P : Program} {K : PySem.W.Frag} {mg : Str → Option Value} (T : T P K mg base) {H : Hp} {Q : VK} {x k : Addr} {size seen : Int} {ps : List (Addr × Row)} (h : UniAt T.C_Uniform H x k size seen ps) (q : Q (.bl true) H) : rIsi K [.ref x, .ref T.C_Uniform] H Q :=
  ⟨_, _, _, _, true, rfl, .own _, tyUni T h, T.kit_Uniform_Uniform, q⟩
/-! ### weighted samples as objects -/
def wf (size total : Int) (k : Addr) : List (Str × V) := [("size", .int size), ("total", .int total), ("kept", .ref k)]
theorem wf_mk (size total : Int) (k : Addr) : putF "kept" (.ref k) (putF "total" (.int total) (putF "size" (.int size) [])) = wf size total k := by
  have n1 : ¬ (("size" : Str) = "total") := by decide +kernel
  have n2 : ¬ (("size" : Str) = "kept") := by decide +kernel
  have n3 : ¬ (("total" : Str) = "kept") := by decide +kernel
  have e1 : putF "total" (.int total) (putF "size" (.int size) []) = [(("size" : Str), V.int size), (("total" : Str), V.int total)] := by
    show (if ("size" : Str) = "total" then _ else (("size" : Str), V.int size) :: [(("total" : Str), V.int total)]) = _
    rw [if_neg n1]
  rw [e1]
  show (if ("size" : Str) = "kept" then _ else (("size" : Str), V.int size) :: (if ("total" : Str) = "kept" then _ else (("total" : Str), V.int total) :: [(("kept" : Str), V.ref k)])) = _
  rw [if_neg n2, if_neg n3]; rfl
theorem wf_total (size total : Int) (k : Addr) : (wf size total k).lookup ("total" : Str) = some (.int total) := rfl
theorem wf_kept (size total : Int) (k : Addr) : (wf size total k).lookup ("kept" : Str) = some (.ref k) := rfl
def WtAt (C : Addr) (H : Hp) (x k : Addr) (size total : Int) (ps : List (Addr × Row)) : Prop := (∃ dx, H x = some (.ins C dx (wf size total k))) ∧ H k = some (.lst (refs ps))
theorem WtAt.kp0 {C : Addr} {H H' : Hp} {x k : Addr} {size total : Int} {ps : List (Addr × Row)} (h : WtAt C H x k size total ps) (kk : Kp [] H H') : WtAt C H' x k size total ps := let ⟨⟨dx, h1⟩, h2⟩ := h; ⟨⟨dx, kk.get nin0 h1⟩, kk.get nin0 h2⟩
def spWInit (K : PySem.W.Frag) (C : Addr) : Sp := fun vs H Q _ => ∃ (x b dx : Addr) (size total : Int) (ps : List (Addr × Row)), vs = [.ref x, .int size, .int total, .ref b] ∧ H x = some (.ins C dx []) ∧ H b = some (.lst (refs ps)) ∧ ∀ H' k, H k = none → Kp [x] H H' → WtAt C H' x k size total ps → Q .non H'
theorem ok_Weighted_init {P : Program} {w : World} {K : PySem.W.Frag} {mg : Str → Option Value} {base : Heap} (T : T P K mg base) : FnOk P w K mg base CX0 1 T.a_Weighted_init T.fd_Weighted_init ["self", "size", "total", "kept"] (spWInit K T.C_Weighted) := by
  refine T.F_Weighted_init.ok sc_Weighted_init (fun vs H Q E h => ?_) (fun cdv A outer s H vs Q E hr h => ?_)
  · obtain ⟨x, b, dx, size, total, ps, rfl, _⟩ := h
    rfl
  · obtain ⟨x, b, dx, size, total, ps, rfl, hx, hb, q⟩ := h
    refine ⟨_, (pss_cons (ps_fld (pv 0) (pv 1) rfl)
      (pss_cons (ps_fld (pv 0) (pv 2) rfl)
      (pss_one (ps_fld (pv 0) (pe_callTy c_list (by rfl) T.z_list (by decide +kernel) (pa_cons (pv 3) pa_nil)) rfl)))), ?_⟩
    have nbx : b ≠ x := fun z => by rw [z, hx] at hb; cases hb
    walk_at "z0"
    walk_at "z"
    refine ⟨x, _, dx, [], rfl, hx, T.cl_Weighted, T.na_Weighted_size, by decide, ?_⟩
    walk_at "z"
    refine ⟨x, _, dx, _, rfl, upd_same, T.cl_Weighted, T.na_Weighted_total, by show 1 < 1000; decide, ?_⟩
    walk_at "z"
    rw [upd_upd]
    refine Z.listL (lstL ((upd_ne nbx).trans hb)) fun k H1 nk k1 e1 => ?_
    have hx1 := k1.get nin0 (show upd H x _ x = some _ from upd_same)
    have nxk : x ≠ k := ne_of_none (show upd H x _ x = some _ from upd_same) nk
    have nk0 : H k = none := by rwa [upd_ne nxk.symm] at nk
    walk_at "z"
    refine ⟨x, _, dx, _, rfl, hx1, T.cl_Weighted, T.na_Weighted_kept, by show 2 < 1000; decide, ?_⟩
    walk_at "z"
    rw [wf_mk]
    exact q _ k nk0 (((Kp.put (by simp)).trans (k1.sub (by simp))).trans (Kp.put (by simp))) ⟨⟨dx, upd_same⟩, (upd_ne nxk.symm).trans e1⟩
theorem tyW {P : Program} {K : PySem.W.Frag} {mg : Str → Option Value} (T : T P K mg base) {H : Hp} {x k : Addr} {size total : Int} {ps : List (Addr × Row)} (h : WtAt T.C_Weighted H x k size total ps) : TyX K H (.ref x) (.ref T.C_Weighted) :=
  let ⟨⟨_, h1⟩, _⟩ := h
  .base (.ins h1 T.cl_Weighted T.isa_Weighted T.isg_Weighted T.ist_Weighted T.ism_Weighted)
theorem isW {P : Program} {K : PySem.W.Frag} {mg : Str → Option Value} (T : T P K mg base) {H : Hp} {Q : VK} {x k : Addr} {size total : Int} {ps : List (Addr × Row)} (h : WtAt T.C_Weighted H x k size total ps) (q : Q (.bl true) H) : rIsi K [.ref x, .ref T.C_Weighted] H Q :=
  ⟨_, _, _, _, true, rfl, .own _, tyW T h, T.kit_Weighted_Weighted, q⟩
theorem isWU {P : Program} {K : PySem.W.Frag} {mg : Str → Option Value} (T : T P K mg base) {H : Hp} {Q : VK} {x k : Addr} {size total : Int} {ps : List (Addr × Row)} (h : WtAt T.C_Weighted H x k size total ps) (q : Q (.bl false) H) : rIsi K [.ref x, .ref T.C_Uniform] H Q :=
  ⟨_, _, _, _, false, rfl, .own _, tyW T h, T.kit_Weighted_Uniform, q⟩
def wts (ps : List (Addr × Row)) : List Int := ps.map fun x => x.2.w
def spWeightOf (K : PySem.W.Frag) : Sp := fun vs H Q _ => ∃ (l : Addr) (ps : List (Addr × Row)), vs = [.ref l] ∧ H l = some (.lst (refs ps)) ∧ RowsAt H ps ∧ ps.length ≤ 1000 ∧ ∀ H', Kp [] H H' → Q (.int (wts ps).sum) H'
theorem ok_weight_of {P : Program} {w : World} {K : PySem.W.Frag} {mg : Str → Option Value} {base : Heap} (T : T P K mg base) : FnOk P w K mg base CX0 1 T.a_weight_of T.fd_weight_of ["things"] (spWeightOf K) := by
  refine T.F_weight_of.ok sc_weight_of (fun vs H Q E h => ?_) (fun cdv A outer s H vs Q E hr h => ?_)
  · obtain ⟨l, ps, rfl, _⟩ := h
    rfl
  · obtain ⟨l, ps, rfl, hl, hps, hn, q⟩ := h
    refine ⟨_, (pss_one (ps_ret (pe_callB (cr_sum rfl) (by rfl) T.z_sum (by decide +kernel) (pa_cons (pe_lc (own := [("item", 1)]) (g := gName 1) rfl sc_weight_of.nd (pi_list (pv 0)) (blkOk_by (own := [("item", 1)]) (N := N_weight_of) (sc := defScope s_weight_of) (by decide +kernel)) (fun _ _ _ _ _ => (pg_name (i := 1) sc_weight_of.nd rfl (by first | exact Or.inl rfl | exact Or.inr rfl))) (fun _ _ _ _ _ => pts_nil) (fun _ _ _ _ _ => (pe_ix (ix_tup : IxR _ (rIxT K)) (pv 1) pe_int (fun _ _ => rfl)))) pa_nil)))), ?_⟩
    walk_at "z0"
    walk_at "z"
    refine Z.lcl (refs ps) (lstL hl) (fun D i H' => Kp [] H H' ∧ H' D = some (.lst ((wts (ps.take i)).map V.int))) ?_ ?_ ?_ ?_
    · intro D H1 nD k1 e1
      exact ⟨k1, e1⟩
    · rintro D i H1 nD hi ⟨k1, e1⟩
      exact lstL (k1.get nin0 hl)
    · rintro D i v H1 nD hv ⟨k1, e1⟩
      obtain ⟨x, hx, rfl⟩ := refs_of hv
      have hi : i < ps.length := (List.getElem?_eq_some_iff.mp hx).1
      dsimp only [wipe, List.set]
      walk_at "z"
      refine ⟨rfl, ?_⟩
      walk_at "z"
      refine RowAt.w2 ((hps.kp0 k1) x (List.mem_of_getElem? hx)) ?_
      refine ⟨_, e1, Z.szl (m := 1000) (by unfold wts; rw [List.length_map, List.length_map, List.length_take]; omega), k1.mut nD rfl, ?_⟩
      rw [upd_same, List.take_add_one, hx]
      unfold wts
      rw [List.map_append, List.map_append]; rfl
    · rintro D H1 nD ⟨k1, e1⟩
      rw [refs_len, List.take_length] at e1
      walk_at "z"
      refine Z.sumL (lstL e1) ?_
      exact q H1 k1
/-! ### optimal samples as objects -/
structure Pt where
  t : Addr
  x : Addr × Row
  a : Addr
  f : Fr
structure PtAt (K : PySem.W.Frag) (H : Hp) (p : Pt) : Prop where
  at_ : H p.t = some (.tup [.ref p.x.1, .ref p.a])
  row : RowAt H p.x.1 p.x.2
  fr : FrAt K H p.a p.f
def PtsAt (K : PySem.W.Frag) (H : Hp) (ps : List Pt) : Prop := ∀ p ∈ ps, PtAt K H p
def prefs (ps : List Pt) : List V := ps.map fun p => V.ref p.t
theorem prefs_len (ps : List Pt) : (prefs ps).length = ps.length := by unfold prefs; rw [List.length_map]
theorem prefs_of {ps : List Pt} {i : Nat} {v : V} (h : (prefs ps)[i]? = some v) : ∃ p, ps[i]? = some p ∧ v = .ref p.t := by
  unfold prefs at h
  rw [List.getElem?_map] at h
  cases e : ps[i]? with
  | none => rw [e] at h; cases h
  | some x => rw [e] at h; exact ⟨x, rfl, (Option.some.inj h).symm⟩
theorem PtAt.kp0 {K : PySem.W.Frag} {H H' : Hp} {p : Pt} (h : PtAt K H p) (k : Kp [] H H') : PtAt K H' p := ⟨k.get nin0 h.at_, h.row.kp0 k, h.fr.kp0 k⟩
theorem PtsAt.kp0 {K : PySem.W.Frag} {H H' : Hp} {ps : List Pt} (h : PtsAt K H ps) (k : Kp [] H H') : PtsAt K H' ps := fun p hp => (h p hp).kp0 k
theorem PtAt.kpx {K : PySem.W.Frag} {H H' : Hp} {p : Pt} {x : Addr} {o : HO} (h : PtAt K H p) (k : Kp [x] H H') (e : H x = some o) (n : ∀ xs, o ≠ .tup xs ∧ ∀ u, o ≠ .frz u (.tup xs)) : PtAt K H' p :=
  ⟨k.get (nin1 fun z => by rw [← z] at e; exact (n _).1 (Option.some.inj (e.symm.trans h.at_))) h.at_, k.get (nin1 fun z => by rw [← z] at e; exact (n _).1 (Option.some.inj (e.symm.trans h.row))) h.row, h.fr.kp k fun y hy => by rw [List.mem_singleton.mp hy]; exact NoTup.of e n⟩
def psx (ps : List Pt) : List (Addr × Row) := ps.map Pt.x
def of (size : Int) (a k : Addr) : List (Str × V) := [("size", .int size), ("parts", .ref a), ("kept", .ref k)]
theorem of_mk (size : Int) (a k : Addr) : putF "kept" (.ref k) (putF "parts" (.ref a) (putF "size" (.int size) [])) = of size a k := by
  have n1 : ¬ (("size" : Str) = "parts") := by decide +kernel
  have n2 : ¬ (("size" : Str) = "kept") := by decide +kernel
  have n3 : ¬ (("parts" : Str) = "kept") := by decide +kernel
  have e1 : putF "parts" (.ref a) (putF "size" (.int size) []) = [(("size" : Str), V.int size), (("parts" : Str), V.ref a)] := by
    show (if ("size" : Str) = "parts" then _ else (("size" : Str), V.int size) :: [(("parts" : Str), V.ref a)]) = _
    rw [if_neg n1]
  rw [e1]
  show (if ("size" : Str) = "kept" then _ else (("size" : Str), V.int size) :: (if ("parts" : Str) = "kept" then _ else (("parts" : Str), V.ref a) :: [(("kept" : Str), V.ref k)])) = _
  rw [if_neg n2, if_neg n3]; rfl
theorem of_parts (size : Int) (a k : Addr) : (of size a k).lookup ("parts" : Str) = some (.ref a) := rfl
theorem of_parts1 (size : Int) (a : Addr) : (putF "parts" (.ref a) (putF "size" (.int size) [])).lookup ("parts" : Str) = some (.ref a) := by
  have n1 : ¬ (("size" : Str) = "parts") := by decide +kernel
  have e1 : putF "parts" (.ref a) (putF "size" (.int size) []) = [(("size" : Str), V.int size), (("parts" : Str), V.ref a)] := by
    show (if ("size" : Str) = "parts" then _ else (("size" : Str), V.int size) :: [(("parts" : Str), V.ref a)]) = _
    rw [if_neg n1]
  rw [e1]; rfl
theorem of_kept (size : Int) (a k : Addr) : (of size a k).lookup ("kept" : Str) = some (.ref k) := rfl
structure OptAt (C : Addr) (H : Hp) (x a k : Addr) (size : Int) (ps : List Pt) : Prop where
  ins : ∃ dx, H x = some (.ins C dx (of size a k))
  parts : H a = some (.lst (prefs ps))
  kept : H k = some (.lst (refs (psx ps)))
theorem OptAt.kp0 {C : Addr} {H H' : Hp} {x a k : Addr} {size : Int} {ps : List Pt} (h : OptAt C H x a k size ps) (kk : Kp [] H H') : OptAt C H' x a k size ps := let ⟨⟨dx, h1⟩, h2, h3⟩ := h; ⟨⟨dx, kk.get nin0 h1⟩, kk.get nin0 h2, kk.get nin0 h3⟩
def spOInit (K : PySem.W.Frag) (C : Addr) : Sp := fun vs H Q _ => ∃ (x b dx : Addr) (size : Int) (ps : List Pt), vs = [.ref x, .int size, .ref b] ∧ H x = some (.ins C dx []) ∧ H b = some (.lst (prefs ps)) ∧ PtsAt K H ps ∧ ps.length ≤ 1000 ∧ ∀ H' a k, H a = none → H k = none → Kp [x] H H' → OptAt C H' x a k size ps → Q .non H'
theorem ok_Optimal_init {P : Program} {w : World} {K : PySem.W.Frag} {mg : Str → Option Value} {base : Heap} (T : T P K mg base) : FnOk P w K mg base CX0 1 T.a_Optimal_init T.fd_Optimal_init ["self", "size", "parts"] (spOInit K T.C_Optimal) := by
  refine T.F_Optimal_init.ok sc_Optimal_init (fun vs H Q E h => ?_) (fun cdv A outer s H vs Q E hr h => ?_)
  · obtain ⟨x, b, dx, size, ps, rfl, _⟩ := h
    rfl
  · obtain ⟨x, b, dx, size, ps, rfl, hx, hb, hps, hn, q⟩ := h
    refine ⟨_, (pss_cons (ps_fld (pv 0) (pv 1) rfl)
      (pss_cons (ps_fld (pv 0) (pe_callTy c_list (by rfl) T.z_list (by decide +kernel) (pa_cons (pv 2) pa_nil)) rfl)
      (pss_one (ps_fld (pv 0) (pe_lc (own := [("item", 3), ("adjusted", 4)]) (g := gTup K 2 (gCons (gName 3) (gCons (gName 4) gNil))) rfl sc_Optimal_init.nd (pi_list (pe_fld (pv 0) rfl)) (blkOk_by (own := [("item", 3), ("adjusted", 4)]) (N := N_Optimal_init) (sc := defScope s_Optimal_init) (by decide +kernel)) (fun _ _ _ _ _ => (pg_tup rfl (pgs_cons (pg_name (i := 3) sc_Optimal_init.nd rfl (by first | exact Or.inl rfl | exact Or.inr rfl)) (pgs_cons (pg_name (i := 4) sc_Optimal_init.nd rfl (by first | exact Or.inl rfl | exact Or.inr rfl)) pgs_nil)))) (fun _ _ _ _ _ => pts_nil) (fun _ _ _ _ _ => (pv 3))) rfl)))), ?_⟩
    have nbx : b ≠ x := fun z => by rw [z, hx] at hb; cases hb
    walk_at "z0"
    walk_at "z"
    refine ⟨x, _, dx, [], rfl, hx, T.cl_Optimal, T.na_Optimal_size, by decide, ?_⟩
    walk_at "z"
    have k0 : Kp [x] H (upd H x (.ins T.C_Optimal dx (putF "size" (.int size) []))) := Kp.put (by simp)
    have hps0 : PtsAt K (upd H x (.ins T.C_Optimal dx (putF "size" (.int size) []))) ps := fun p hp => (hps p hp).kpx k0 hx fun xs => ⟨by simp, by simp⟩
    refine Z.listL (lstL ((upd_ne nbx).trans hb)) fun a H1 na k1 e1 => ?_
    have hx1 := k1.get nin0 (show upd H x _ x = some _ from upd_same)
    have nxa : x ≠ a := ne_of_none (show upd H x _ x = some _ from upd_same) na
    have na0 : H a = none := by rwa [upd_ne nxa.symm] at na
    have hps1 := hps0.kp0 k1
    walk_at "z"
    refine ⟨x, _, dx, _, rfl, hx1, T.cl_Optimal, T.na_Optimal_parts, by show 1 < 1000; decide, ?_⟩
    have hx2 : upd H1 x (.ins T.C_Optimal dx (putF "parts" (.ref a) (putF "size" (.int size) []))) x = some (.ins T.C_Optimal dx (putF "parts" (.ref a) (putF "size" (.int size) []))) := upd_same
    have k2 : Kp [x] H1 (upd H1 x (.ins T.C_Optimal dx (putF "parts" (.ref a) (putF "size" (.int size) [])))) := Kp.put (by simp)
    have hps2 : PtsAt K (upd H1 x (.ins T.C_Optimal dx (putF "parts" (.ref a) (putF "size" (.int size) [])))) ps := fun p hp => (hps1 p hp).kpx k2 hx1 fun xs => ⟨by simp, by simp⟩
    have e2 : upd H1 x (.ins T.C_Optimal dx (putF "parts" (.ref a) (putF "size" (.int size) []))) a = some (.lst (prefs ps)) := (upd_ne nxa.symm).trans e1
    generalize upd H1 x (.ins T.C_Optimal dx (putF "parts" (.ref a) (putF "size" (.int size) []))) = H2 at hx2 k2 hps2 e2 ⊢
    walk_at "z"
    refine ⟨x, _, dx, _, _, rfl, hx2, T.cl_Optimal, T.na_Optimal_parts, of_parts1 size a, ?_⟩
    walk_at "z"
    refine Z.lcl (prefs ps) (lstL e2) (fun D i H' => Kp [] H2 H' ∧ H' D = some (.lst (refs (psx (ps.take i))))) ?_ ?_ ?_ ?_
    · intro D H3 nD k3 e3
      exact ⟨k3, e3⟩
    · rintro D i H3 nD hi ⟨k3, e3⟩
      exact lstL (k3.get nin0 e2)
    · rintro D i v H3 nD hv ⟨k3, e3⟩
      obtain ⟨p, hp, rfl⟩ := prefs_of hv
      have hi : i < ps.length := (List.getElem?_eq_some_iff.mp hp).1
      have hpa := (hps2.kp0 k3) p (List.mem_of_getElem? hp)
      dsimp only [wipe, List.set]
      refine Z.gtup (tupT hpa.at_) rfl ?_
      walk_at "z"
      refine ⟨rfl, ?_⟩
      walk_at "z"
      refine ⟨_, e3, Z.szl (m := 1000) (by rw [refs_len]; unfold psx; rw [List.length_map, List.length_take]; omega), k3.mut nD rfl, ?_⟩
      rw [upd_same, List.take_add_one, hp]
      unfold psx refs
      rw [List.map_append, List.map_append]; rfl
    · rintro D H3 nD ⟨k3, e3⟩
      rw [prefs_len, List.take_length] at e3
      have hx3 := k3.get nin0 hx2
      have nxD : x ≠ D := ne_of_none hx2 nD
      have naD : a ≠ D := ne_of_none e2 nD
      walk_at "z"
      refine ⟨x, _, dx, _, rfl, hx3, T.cl_Optimal, T.na_Optimal_kept, by show 2 < 1000; decide, ?_⟩
      walk_at "z"
      rw [of_mk]
      exact q _ a D na0 (((k0.trans (k1.sub (by simp))).trans k2).none (by simpa using nxD.symm) nD) ((((k0.trans (k1.sub (by simp))).trans k2).trans (k3.sub (by simp))).trans (Kp.put (by simp))) ⟨⟨dx, upd_same⟩, (upd_ne nxa.symm).trans (k3.get nin0 e2), (upd_ne nxD.symm).trans e3⟩
theorem tyO {P : Program} {K : PySem.W.Frag} {mg : Str → Option Value} (T : T P K mg base) {H : Hp} {x a k : Addr} {size : Int} {ps : List Pt} (h : OptAt T.C_Optimal H x a k size ps) : TyX K H (.ref x) (.ref T.C_Optimal) :=
  let ⟨⟨_, h1⟩, _, _⟩ := h
  .base (.ins h1 T.cl_Optimal T.isa_Optimal T.isg_Optimal T.ist_Optimal T.ism_Optimal)
theorem isOU {P : Program} {K : PySem.W.Frag} {mg : Str → Option Value} (T : T P K mg base) {H : Hp} {Q : VK} {x a k : Addr} {size : Int} {ps : List Pt} (h : OptAt T.C_Optimal H x a k size ps) (q : Q (.bl false) H) : rIsi K [.ref x, .ref T.C_Uniform] H Q :=
  ⟨_, _, _, _, false, rfl, .own _, tyO T h, T.kit_Optimal_Uniform, q⟩
theorem isOW {P : Program} {K : PySem.W.Frag} {mg : Str → Option Value} (T : T P K mg base) {H : Hp} {Q : VK} {x a k : Addr} {size : Int} {ps : List Pt} (h : OptAt T.C_Optimal H x a k size ps) (q : Q (.bl false) H) : rIsi K [.ref x, .ref T.C_Weighted] H Q :=
  ⟨_, _, _, _, false, rfl, .own _, tyO T h, T.kit_Optimal_Weighted, q⟩

/-! ### samples of the three kinds -/
inductive Smp where
  | U (k : Addr) (size seen : Int) (ps : List (Addr × Row))
  | W (k : Addr) (size total : Int) (ps : List (Addr × Row))
  | O (a k : Addr) (size : Int) (ps : List Pt)
def Smp.rows : Smp → List (Addr × Row)
  | .U _ _ _ ps => ps
  | .W _ _ _ ps => ps
  | .O _ _ _ ps => psx ps
def Smp.kept : Smp → Addr
  | .U k _ _ _ => k
  | .W k _ _ _ => k
  | .O _ k _ _ => k
def Smp.whole : Smp → Bool
  | .U _ _ seen ps => decide ((ps.length : Int) = seen)
  | .W _ _ total ps => decide ((wts ps).sum = total)
  | .O _ _ _ ps => ps.all fun p => decide (p.f = (p.x.2.w, 1))
def SmpAt {P : Program} {K : PySem.W.Frag} {mg : Str → Option Value} {base : Heap} (T : K37.T P K mg base) (H : Hp) (x : Addr) : Smp → Prop
  | .U k size seen ps => UniAt T.C_Uniform H x k size seen ps ∧ RowsAt H ps
  | .W k size total ps => WtAt T.C_Weighted H x k size total ps ∧ RowsAt H ps
  | .O a k size ps => OptAt T.C_Optimal H x a k size ps ∧ PtsAt K H ps
section
variable {P : Program} {K : PySem.W.Frag} {mg : Str → Option Value} {base : Heap} {T : T P K mg base}
theorem SmpAt.kp0 {H H' : Hp} {x : Addr} : ∀ {s : Smp}, SmpAt T H x s → Kp [] H H' → SmpAt T H' x s
  | .U .., h, k => ⟨h.1.kp0 k, h.2.kp0 k⟩
  | .W .., h, k => ⟨h.1.kp0 k, h.2.kp0 k⟩
  | .O .., h, k => ⟨h.1.kp0 k, h.2.kp0 k⟩
theorem SmpAt.rows {H : Hp} {x : Addr} : ∀ {s : Smp}, SmpAt T H x s → RowsAt H s.rows
  | .U .., h => h.2
  | .W .., h => h.2
  | .O _ _ _ ps, h => fun y hy => by
    obtain ⟨p, hp, rfl⟩ := List.mem_map.mp hy
    exact (h.2 p hp).row
/-- o.kept -/
theorem SmpAt.fkept {H : Hp} {x : Addr} {Q : V → Prop} : ∀ {s : Smp}, SmpAt T H x s → (H s.kept = some (.lst (refs s.rows)) → Q (.ref s.kept)) → ∃ a C dx fs v, V.ref x = .ref a ∧ H a = some (.ins C dx fs) ∧ Cls K C ∧ NoAttr K C ("kept" : Str) ∧ fs.lookup ("kept" : Str) = some v ∧ Q v
  | .U k size seen ps, ⟨⟨⟨dx, h1⟩, h2⟩, _⟩, q => ⟨x, _, dx, _, _, rfl, h1, T.cl_Uniform, T.na_Uniform_kept, uf_kept size seen k, q h2⟩
  | .W k size total ps, ⟨⟨⟨dx, h1⟩, h2⟩, _⟩, q => ⟨x, _, dx, _, _, rfl, h1, T.cl_Weighted, T.na_Weighted_kept, wf_kept size total k, q h2⟩
  | .O a k size ps, ⟨⟨⟨dx, h1⟩, h2, h3⟩, _⟩, q => ⟨x, _, dx, _, _, rfl, h1, T.cl_Optimal, T.na_Optimal_kept, of_kept size a k, q h3⟩
end
def spWhole {P : Program} {K : PySem.W.Frag} {mg : Str → Option Value} {base : Heap} (T : K37.T P K mg base) : Sp := fun vs H Q _ => ∃ (x : Addr) (s : Smp), vs = [.ref x] ∧ SmpAt T H x s ∧ s.rows.length ≤ 1000 ∧ ∀ H', Kp [] H H' → Q (.bl s.whole) H'
theorem all_take {α : Type} {p : α → Bool} {l : List α} {i : Nat} {x : α} (h : l[i]? = some x) : (l.take (i + 1)).all p = ((l.take i).all p && p x) := by
  rw [List.take_add_one, h, List.all_append]
  simp
theorem ok_is_whole {P : Program} {w : World} {K : PySem.W.Frag} {mg : Str → Option Value} {base : Heap} (T : T P K mg base) : FnOk P w K mg base CX0 3 T.a_is_whole T.fd_is_whole ["sample"] (spWhole T) := by
  refine T.F_is_whole.ok sc_is_whole (fun vs H Q E h => ?_) (fun cdv A outer s H vs Q E hr h => ?_)
  · obtain ⟨x, s, rfl, _⟩ := h
    rfl
  · obtain ⟨x, s, rfl, hS, hn, q⟩ := h
    refine ⟨_, (pss_cons (ps_if (pt_val (pe_callB call_isi (by rfl) T.z_isinstance (by decide +kernel) (pa_cons (pv 0) (pa_cons (pe_glob (v := .ref T.C_Uniform) (by rfl) T.mg_Uniform rfl) pa_nil)))) (pss_one (ps_ret (pe_cmpR op_eq (pe_callB c_len (by rfl) T.z_len (by decide +kernel) (pa_cons (pe_fld (pv 0) rfl) pa_nil)) (pe_fld (pv 0) rfl) (nomark _)))) pss_nil)
      (pss_cons (ps_if (pt_val (pe_callB call_isi (by rfl) T.z_isinstance (by decide +kernel) (pa_cons (pv 0) (pa_cons (pe_glob (v := .ref T.C_Weighted) (by rfl) T.mg_Weighted rfl) pa_nil)))) (pss_one (ps_ret (pe_cmpR op_eq (pe_call (ok_weight_of T) (hr.mono (by decide)) (by rfl) T.g_weight_of T.F_weight_of.kp T.b_weight_of .nil pass0 (pa_cons (pe_fld (pv 0) rfl) pa_nil)) (pe_fld (pv 0) rfl) (nomark _)))) pss_nil)
      (pss_cons (ps_for PassesOwn.never rfl (pi_list (pe_fld (pv 0) rfl)) (pg_tup rfl (pgs_cons (pg_name (i := 1) sc_is_whole.nd rfl (by first | exact Or.inl rfl | exact Or.inr rfl)) (pgs_cons (pg_name (i := 2) sc_is_whole.nd rfl (by first | exact Or.inl rfl | exact Or.inr rfl)) pgs_nil))) (pss_one (ps_if (pt_cmpR (op_neD hr.units) (pv 2) (pe_tup (pa_cons (pe_ix ix_tup (pv 1) pe_int (fun _ _ => rfl)) (pa_cons pe_int pa_nil))) (nomark _)) (pss_one (ps_ret pe_bl)) pss_nil)))
      (pss_one (ps_ret pe_bl))))), ?_⟩
    walk_at "z0"
    walk_at "z"
    match s, hS, hn, q with
    | .U k size seen ps, hS, hn, q =>
      obtain ⟨⟨dx, hx⟩, hk⟩ := id hS.1
      refine isU T hS.1 ?_
      walk_at "z"
      refine ⟨x, _, dx, _, _, rfl, hx, T.cl_Uniform, T.na_Uniform_kept, uf_kept size seen k, ?_⟩
      walk_at "z"
      refine Z.lenL (lstL hk) ?_
      rw [refs_len]
      walk_at "z"
      refine ⟨x, _, dx, _, _, rfl, hx, T.cl_Uniform, T.na_Uniform_seen, uf_seen size seen k, ?_⟩
      walk_at "z"
      exact q H (Kp.refl _)
    | .W k size total ps, hS, hn, q =>
      obtain ⟨⟨dx, hx⟩, hk⟩ := id hS.1
      refine isWU T hS.1 ?_
      walk_at "z"
      refine isW T hS.1 ?_
      walk_at "z"
      refine ⟨x, _, dx, _, _, rfl, hx, T.cl_Weighted, T.na_Weighted_kept, wf_kept size total k, ?_⟩
      walk_at "z"
      refine ⟨k, ps, rfl, hk, hS.2, hn, fun H1 k1 => ?_⟩
      walk_at "z"
      refine ⟨x, _, dx, _, _, rfl, k1.get nin0 hx, T.cl_Weighted, T.na_Weighted_total, wf_total size total k, ?_⟩
      walk_at "z"
      exact q H1 k1
    | .O a k size ps, hS, hn, q =>
      obtain ⟨⟨dx, hx⟩, ha, hk⟩ := id hS.1
      refine isOU T hS.1 ?_
      walk_at "z"
      refine isOW T hS.1 ?_
      walk_at "z"
      refine ⟨x, _, dx, _, _, rfl, hx, T.cl_Optimal, T.na_Optimal_parts, of_parts size a k, ?_⟩
      walk_at "z"
      refine Z.forl (prefs ps) (lstL ha) (fun i σ' H' => ∃ y1 y2, σ' = [some (.ref x), y1, y2] ∧ Kp [] H H' ∧ ((ps.take i).all fun p => decide (p.f = (p.x.2.w, 1))) = true) ⟨none, none, rfl, Kp.refl _, rfl⟩ ?_ ?_ ?_
      · rintro i σ' H1 _ ⟨y1, y2, rfl, k1, _⟩
        exact lstL (k1.get nin0 ha)
      · rintro i v σ' H1 hv ⟨y1, y2, rfl, k1, hall⟩
        obtain ⟨p, hp, rfl⟩ := prefs_of hv
        have hpm := List.mem_of_getElem? hp
        have hpa := (hS.2.kp0 k1) p hpm
        refine Z.gtup (tupT hpa.at_) rfl ?_
        walk_at "z"
        refine RowAt.w2 hpa.row ?_
        walk_at "z"
        refine Z.tupK (fun t H2 nt k2 e2 => ?_)
        walk_at "z"
        refine neF (hpa.fr.kp0 k2) (show FrAt K H2 t (p.x.2.w, 1) from tupT e2) ?_
        walk_at "z"
        refine Z.iteN (fun h1 => ?_) (fun h1 => ?_)
        · walk_at "z"
          have hf : Smp.whole (.O a k size ps) = false := by
            show (ps.all fun p => decide (p.f = (p.x.2.w, 1))) = false
            rw [List.all_eq_false]
            exact ⟨p, hpm, by simpa using h1⟩
          rw [← hf]
          exact q H2 (k1.trans k2)
        · walk_at "z"
          refine ⟨_, _, rfl, k1.trans k2, ?_⟩
          rw [all_take hp, hall]
          simpa using h1
      · rintro σ' H1 ⟨y1, y2, rfl, k1, hall⟩
        rw [prefs_len, List.take_length] at hall
        walk_at "z"
        have hf : Smp.whole (.O a k size ps) = true := hall
        rw [← hf]
        exact q H1 k1

/-! the ordered estimates -/
structure RowW (r : Row) : Prop where
  w0 : 1 ≤ r.w
  w1 : r.w ≤ 1000
def ordF (kvs : List (Key × V)) : Int → Int → List (Addr × Row) → List Fr
  | _, _, [] => []
  | b, l, x :: r => fplus (b, 1) (lo (amt kvs x.2.k * l) x.2.w) :: ordF kvs (b + amt kvs x.2.k) (l - x.2.w) r
theorem ordF_snoc (kvs : List (Key × V)) (x : Addr × Row) : ∀ (ps : List (Addr × Row)) (b l : Int), ordF kvs b l (ps ++ [x]) = ordF kvs b l ps ++ [fplus (b + (amts kvs ps).sum, 1) (lo (amt kvs x.2.k * (l - (wts ps).sum)) x.2.w)]
  | [], b, l => by
    show [fplus (b, 1) (lo (amt kvs x.2.k * l) x.2.w)] = [fplus (b + 0, 1) (lo (amt kvs x.2.k * (l - 0)) x.2.w)]
    rw [Int.add_zero, Int.sub_zero]
  | y :: r, b, l => by
    have ih := ordF_snoc kvs x r (b + amt kvs y.2.k) (l - y.2.w)
    show _ :: ordF kvs _ _ (r ++ [x]) = _ :: (ordF kvs _ _ r ++ _)
    rw [ih]
    have e1 : (amts kvs (y :: r)).sum = amt kvs y.2.k + (amts kvs r).sum := by unfold amts; rw [List.map_cons, List.sum_cons]
    have e2 : (wts (y :: r)).sum = y.2.w + (wts r).sum := by unfold wts; rw [List.map_cons, List.sum_cons]
    rw [e1, e2, show b + (amt kvs y.2.k + (amts kvs r).sum) = b + amt kvs y.2.k + (amts kvs r).sum by omega, show l - (y.2.w + (wts r).sum) = l - y.2.w - (wts r).sum by omega]
theorem ordF_len (kvs : List (Key × V)) : ∀ (ps : List (Addr × Row)) (b l : Int), (ordF kvs b l ps).length = ps.length
  | [], _, _ => rfl
  | y :: r, b, l => by
    show (_ :: ordF kvs _ _ r).length = _
    rw [List.length_cons, ordF_len kvs r, List.length_cons]
theorem amt_mul_B {a l : Int} (ha : a.natAbs ≤ 10) (hl : l.natAbs ≤ 16000) : (a * l).natAbs < 2 ^ 18 := by
  rw [Int.natAbs_mul]
  exact Nat.lt_of_le_of_lt (Nat.mul_le_mul ha hl) (by decide)
theorem sum_leI {c : Int} : ∀ {l : List Int}, (∀ x ∈ l, 0 ≤ x ∧ x ≤ c) → 0 ≤ l.sum ∧ l.sum ≤ c * l.length
  | [], _ => by simp
  | a :: r, h => by
    have h1 := h a (by simp)
    have h2 := sum_leI (c := c) (l := r) fun z hz => h z (by simp [hz])
    rw [List.sum_cons, List.length_cons]
    have e : c * ((r.length + 1 : Nat) : Int) = c * (r.length : Int) + c := by rw [Int.natCast_add, Int.mul_add]; omega
    omega
theorem wts_B {ps : List (Addr × Row)} (hW : ∀ x ∈ ps, RowW x.2) (h3 : ps.length ≤ 6) : 0 ≤ (wts ps).sum ∧ (wts ps).sum ≤ 6000 := by
  have h := sum_leI (c := 1000) (l := wts ps) fun z hz => by
    obtain ⟨x, hx, rfl⟩ := List.mem_map.mp hz
    have := hW x hx
    exact ⟨by have := this.w0; omega, this.w1⟩
  have hl : (wts ps).length = ps.length := by unfold wts; rw [List.length_map]
  rw [hl] at h
  omega
theorem amts_S {kvs : List (Key × V)} (ho : AmtOk kvs) {ps : List (Addr × Row)} (h3 : ps.length ≤ 6) : (amts kvs ps).sum.natAbs ≤ 60 := by
  have h := sum_absI (c := 10) (l := amts kvs ps) (amts_B ho)
  have hl : (amts kvs ps).length = ps.length := by unfold amts; rw [List.length_map]
  rw [hl] at h
  omega
theorem ord1_B {kvs : List (Key × V)} (ho : AmtOk kvs) {b l : Int} {x : Addr × Row} (hx : RowW x.2) (hb : b.natAbs ≤ 60) (hl : l.natAbs ≤ 16000) : 1 ≤ (fplus (b, 1) (lo (amt kvs x.2.k * l) x.2.w)).2 ∧ FrB 19 (fplus (b, 1) (lo (amt kvs x.2.k * l) x.2.w)) := by
  have h0 := hx.w0
  have h1 := hx.w1
  have hw0 : x.2.w ≠ 0 := by omega
  have hL := lo_low (p := amt kvs x.2.k * l) hw0
  have a1 := lo_abs1 (p := amt kvs x.2.k * l) hw0
  have a2 := lo_abs2 (p := amt kvs x.2.k * l) hw0
  have am : (amt kvs x.2.k * l).natAbs ≤ 160000 := by
    rw [Int.natAbs_mul]
    exact Nat.mul_le_mul (amt_le ho _) hl
  have hbq : (b * (lo (amt kvs x.2.k * l) x.2.w).2).natAbs ≤ 60000 := by
    rw [Int.natAbs_mul]
    exact Nat.mul_le_mul hb (show _ ≤ 1000 by omega)
  refine ⟨(fplus_low (f := (b, 1)) (by show (1 : Int) ≠ 0; decide) hL.ne).1, ?_⟩
  unfold fplus
  refine lo_B (Int.mul_ne_zero (by show (1 : Int) ≠ 0; decide) hL.ne) ?_ ?_
  · show (b * (lo (amt kvs x.2.k * l) x.2.w).2 + (lo (amt kvs x.2.k * l) x.2.w).1 * 1).natAbs < 2 ^ 19
    rw [Int.mul_one]
    omega
  · show (1 * (lo (amt kvs x.2.k * l) x.2.w).2).natAbs < 2 ^ 19
    rw [Int.one_mul]
    omega
theorem ordF_B {kvs : List (Key × V)} (ho : AmtOk kvs) {T : Int} (hT0 : 0 ≤ T) (hT : T ≤ 15000) : ∀ (n : Nat) (ps : List (Addr × Row)), ps.length = n → n ≤ 6 → (∀ x ∈ ps, RowW x.2) → ∀ f ∈ ordF kvs 0 T ps, 1 ≤ f.2 ∧ FrB 19 f
  | 0, ps, h, _, _ => by
    rw [List.length_eq_zero_iff.mp h]
    intro f hf; cases hf
  | n + 1, ps, h, h3, hW => by
    have hne : ps ≠ [] := fun z => by rw [z] at h; simp at h
    have e := (List.dropLast_concat_getLast hne).symm
    have hl : ps.dropLast.length = n := by rw [List.length_dropLast]; omega
    rw [e] at hW ⊢
    generalize ps.getLast hne = x at hW ⊢
    generalize ps.dropLast = us at hl hW ⊢
    have hu : ∀ x ∈ us, RowW x.2 := fun z hz => hW z (by simp [hz])
    rw [ordF_snoc]
    have ih := ordF_B ho hT0 hT n us hl (by omega) hu
    have w := wts_B hu (by omega)
    have a := amts_S ho (ps := us) (by omega)
    exact mem_append_one ih (ord1_B ho (hW x (by simp)) (by omega) (by omega))
def spOrd (K : PySem.W.Frag) : Sp := fun vs H Q _ => ∃ (l d : Addr) (t : Int) (ps : List (Addr × Row)) (kvs : List (Key × V)), vs = [.int t, .ref l, .ref d] ∧ H l = some (.lst (refs ps)) ∧ RowsAt H ps ∧ ps.length ≤ 6 ∧ (∀ x ∈ ps, RowW x.2) ∧ 0 ≤ t ∧ t ≤ 15000 ∧ H d = some (.dK kvs) ∧ AmtOk kvs ∧ ∀ H' D as, H D = none → Kp [] H H' → H' D = some (.lst (as.map V.ref)) → FrsAt K H' as (ordF kvs 0 t ps) → Q (.ref D) H'
theorem ok_ordered_estimates {P : Program} {w : World} {K : PySem.W.Frag} {mg : Str → Option Value} {base : Heap} (T : T P K mg base) : FnOk P w K mg base CX0 5 T.a_ordered_estimates T.fd_ordered_estimates ["total", "kept", "amounts"] (spOrd K) := by
  refine T.F_ordered_estimates.ok sc_ordered_estimates (fun vs H Q E h => ?_) (fun cdv A outer s H vs Q E hr h => ?_)
  · obtain ⟨l, d, t, ps, kvs, rfl, _⟩ := h
    rfl
  · obtain ⟨l, d, t, ps, kvs, rfl, hl, hps, hn, hW, ht0, ht1, hd, ho, q⟩ := h
    refine ⟨_, (pss_cons (ps_set (i := 3) sc_ordered_estimates.nd rfl (by first | exact Or.inl rfl | exact Or.inr rfl) (pe_lst pa_nil))
      (pss_cons (ps_set (i := 4) sc_ordered_estimates.nd rfl (by first | exact Or.inl rfl | exact Or.inr rfl) (pv 0))
      (pss_cons (ps_set (i := 5) sc_ordered_estimates.nd rfl (by first | exact Or.inl rfl | exact Or.inr rfl) pe_int)
      (pss_cons (ps_for PassesOwn.never rfl (pi_list (pv 1)) (pg_name (i := 6) sc_ordered_estimates.nd rfl (by first | exact Or.inl rfl | exact Or.inr rfl)) (pss_cons (ps_set (i := 7) sc_ordered_estimates.nd rfl (by first | exact Or.inl rfl | exact Or.inr rfl) (pe_call (ok_amount_of T) (hr.mono (by decide)) (by rfl) T.g_amount_of T.F_amount_of.kp T.b_amount_of .nil pass0 (pa_cons (pv 2) (pa_cons (pv 6) pa_nil))))
      (pss_cons (ps_expr (pe_bm PySem.F.plainAttrs_list PySem.F.slot_list_append PySem.F.type_list_append mt_append (pv 3) (pa_cons (pe_call (ok_plus T) (hr.mono (by decide)) (by rfl) T.g_plus T.F_plus.kp T.b_plus .nil pass0 (pa_cons (pe_tup (pa_cons (pv 5) (pa_cons pe_int pa_nil))) (pa_cons (pe_call (ok_lowest T) (hr.mono (by decide)) (by rfl) T.g_lowest T.F_lowest.kp T.b_lowest .nil passL (pa_cons (pe_op op_mulW (pv 7) (pv 4)) (pa_cons (pe_ix ix_tup (pv 6) pe_int (fun _ _ => rfl)) pa_nil))) pa_nil))) pa_nil)))
      (pss_cons (ps_aug (i := 5) sc_ordered_estimates.nd rfl (by first | exact Or.inl rfl | exact Or.inr rfl) (pv 7) ip_add)
      (pss_one (ps_aug (i := 4) sc_ordered_estimates.nd rfl (by first | exact Or.inl rfl | exact Or.inr rfl) (pe_ix ix_tup (pv 6) pe_int (fun _ _ => rfl)) ip_sub))))))
      (pss_one (ps_ret (pv 3))))))), ?_⟩
    walk_at "z0"
    walk_at "z"
    refine Z.lstK (fun F H1 nF k1 e1 => ?_)
    walk_at "z"
    refine Z.forl (refs ps) (lstL (k1.get nin0 hl)) (fun i σ' H' => ∃ (y6 y7 : Option V) (as : List Addr), σ' = [some (.int t), some (.ref l), some (.ref d), some (.ref F), some (.int (t - (wts (ps.take i)).sum)), some (.int ((amts kvs (ps.take i)).sum)), y6, y7] ∧ Kp [] H H' ∧ H' F = some (.lst (as.map V.ref)) ∧ FrsAt K H' as (ordF kvs 0 t (ps.take i))) ?_ ?_ ?_ ?_
    · exact ⟨none, none, [], by show _ = [_, _, _, _, some (V.int (t - 0)), some (V.int 0), _, _]; rw [Int.sub_zero], k1, e1, .nil⟩
    · rintro i σ' H' _ ⟨y6, y7, as, rfl, k2, _⟩
      exact lstL (k2.get nin0 hl)
    · rintro i v σ' H2 hv ⟨y6, y7, as, rfl, k2, e2, F2⟩
      obtain ⟨x, hx, rfl⟩ := refs_of hv
      have hxm := List.mem_of_getElem? hx
      have hi : i < ps.length := (List.getElem?_eq_some_iff.mp hx).1
      have htk : ∀ y ∈ ps.take i, RowW y.2 := fun y hy => hW y (List.mem_of_mem_take hy)
      have hw := wts_B htk (by rw [List.length_take]; omega)
      have ha := amts_S ho (ps := ps.take i) (by rw [List.length_take]; omega)
      have hxW := hW x hxm
      have hx0 := hxW.w0
      have hx1 := hxW.w1
      have hxa := amt_le ho x.2.k
      have ewi : (wts (ps.take (i + 1))).sum = (wts (ps.take i)).sum + x.2.w := by
        rw [List.take_add_one, hx]
        unfold wts
        rw [List.map_append, List.sum_append]
        simp
      have eai : (amts kvs (ps.take (i + 1))).sum = (amts kvs (ps.take i)).sum + amt kvs x.2.k := by
        rw [List.take_add_one, hx]
        unfold amts
        rw [List.map_append, List.sum_append]
        simp
      walk_at "z"
      refine ⟨d, x.1, kvs, x.2, rfl, k2.get nin0 hd, ho, (hps.kp0 k2) x hxm, ?_⟩
      walk_at "z"
      refine ⟨Z.tyL e2, ?_⟩
      walk_at "z"
      refine Z.tupK (fun b1 H3 nb1 k3 e3 => ?_)
      walk_at "z"
      refine Z.iC (mul_ok (n := 20) (Nat.lt_of_le_of_lt hxa (by decide)) (Nat.lt_of_le_of_lt (show (t - (wts (ps.take i)).sum).natAbs ≤ 16000 by omega) (by decide))) ?_
      walk_at "z"
      have r3 := (hps.kp0 (k2.trans k3)) x hxm
      refine RowAt.w2 r3 ?_
      walk_at "z"
      have hw0 : x.2.w ≠ 0 := by omega
      refine ⟨_, _, rfl, up_B (n := 10) (show x.2.w.natAbs < 2 ^ 10 by omega) (by decide), fun z => absurd z hw0, fun _ H4 c4 n4 k4 e4 => ?_⟩
      walk_at "z"
      have hL := lo_low (p := amt kvs x.2.k * (t - (wts (ps.take i)).sum)) hw0
      have hB : FrB 18 (lo (amt kvs x.2.k * (t - (wts (ps.take i)).sum)) x.2.w) := lo_B hw0 (amt_mul_B (amt_le ho _) (by omega)) (Nat.lt_of_le_of_lt (show x.2.w.natAbs ≤ 1000 by omega) (by decide))
      have hb1 : FrB 6 ((amts kvs (ps.take i)).sum, 1) := ⟨by show (amts kvs (ps.take i)).sum.natAbs < 2 ^ 6; omega, by show (1 : Nat) < 2 ^ 6; decide⟩
      refine ⟨b1, c4, ((amts kvs (ps.take i)).sum, 1), _, rfl, (show FrAt K H3 b1 ((amts kvs (ps.take i)).sum, 1) from tupT e3).kp0 k4, e4, by show (1 : Int) ≠ 0; decide, hL.ne, hb1.mono (by decide), hB.mono (by decide), fun H5 c5 n5 k5 e5 => ?_⟩
      have k25 := (k3.trans k4).trans k5
      have e5F := k25.get nin0 e2
      walk_at "z"
      refine Z.app e5F (Z.szl (m := 1000) (by rw [List.length_map, F2.len, ordF_len, List.length_take]; omega)) ?_
      have e6F : upd H5 F (.lst (as.map V.ref ++ [V.ref c5])) F = some (.lst ((as ++ [c5]).map V.ref)) := by rw [upd_same, List.map_append]; rfl
      have k6 : Kp [F] H5 (upd H5 F (.lst (as.map V.ref ++ [V.ref c5]))) := Kp.put (by simp)
      generalize upd H5 F (.lst (as.map V.ref ++ [V.ref c5])) = H6 at e6F k6 ⊢
      have k06 : Kp [] H H6 := (k2.trans k25).then1 k6 nF
      walk_at "z"
      refine RowAt.w2 ((hps.kp0 k06) x hxm) ?_
      walk_at "z"
      refine ⟨some (.ref x.1), some (.int (amt kvs x.2.k)), as ++ [c5], ?_, k06, e6F, ?_⟩
      · rw [ewi, eai, ← Int.sub_sub]; rfl
      · rw [List.take_add_one, hx]
        show FrsAt K H6 (as ++ [c5]) (ordF kvs 0 t (ps.take i ++ [x]))
        rw [ordF_snoc, Int.zero_add]
        exact ((F2.kp0 k25).snoc e5).kpl k6 e5F
    · rintro σ' H2 ⟨y6, y7, as, rfl, k2, e2, F2⟩
      rw [refs_len, List.take_length] at F2
      walk_at "z"
      exact q H2 F as nF k2 e2 F2

/-! ### the answers, as fractions -/
def ysF (kvs : List (Key × V)) (ps : List (Addr × Row)) : List Fr := ps.map fun x => yF kvs x.2
theorem yF_B {kvs : List (Key × V)} (h : AmtOk kvs) (r : Row) : 1 ≤ (yF kvs r).2 ∧ FrB 19 (yF kvs r) := ⟨by show (1 : Int) ≤ 1; decide, by have := amt_le h r.k; show (amt kvs r.k).natAbs < 2 ^ 19; omega, by show (1 : Nat) < 2 ^ 19; decide⟩
theorem ysF_N {kvs : List (Key × V)} (h : AmtOk kvs) {ps : List (Addr × Row)} (h1 : 1 ≤ ps.length) (h6 : ps.length ≤ 6) : NB (ysF kvs ps) := ⟨fun f hf => by
  obtain ⟨x, _, rfl⟩ := List.mem_map.mp hf
  exact yF_B h x.2, by unfold ysF; rwa [List.length_map], by unfold ysF; rwa [List.length_map]⟩
theorem ordF_N {kvs : List (Key × V)} (ho : AmtOk kvs) {T : Int} (hT0 : 0 ≤ T) (hT : T ≤ 15000) {ps : List (Addr × Row)} (h1 : 1 ≤ ps.length) (h6 : ps.length ≤ 6) (hW : ∀ x ∈ ps, RowW x.2) : NB (ordF kvs 0 T ps) :=
  ⟨ordF_B ho hT0 hT _ ps rfl h6 hW, by rw [ordF_len]; exact h1, by rw [ordF_len]; exact h6⟩
def nnF (n : Nat) : Int := (n : Int) * ((n : Int) - 1)
theorem nnF_ne {n : Nat} (h : 2 ≤ n) : nnF n ≠ 0 := Int.mul_ne_zero (by omega) (by omega)
theorem nnF_B {n : Nat} (h6 : n ≤ 6) (h1 : 1 ≤ n) : (nnF n).natAbs < 2 ^ 6 := by
  unfold nnF
  rw [Int.natAbs_mul]
  exact Nat.lt_of_le_of_lt (Nat.mul_le_mul (show _ ≤ 6 by omega) (show _ ≤ 6 by omega)) (by decide)
def uniF (kvs : List (Key × V)) (seen : Int) (ps : List (Addr × Row)) : Fr × Option Fr :=
  (lo (seen * (amts kvs ps).sum) (ps.length : Int), if ps.length = 1 then none else some (ftimes (lo (seen * (seen - (ps.length : Int))) (nnF ps.length)) (sqF (ysF kvs ps))))
def wtF (kvs : List (Key × V)) (total : Int) (ps : List (Addr × Row)) : Fr × Option Fr :=
  if ps.length = 1 then ((ordF kvs 0 total ps).getD 0 (0, 1), none) else (meanF (ordF kvs 0 total ps), some (ftimes (lo 1 (nnF ps.length)) (sqF (ordF kvs 0 total ps))))
def shF (kvs : List (Key × V)) (p : Pt) : Fr := lo (amt kvs p.x.2.k) p.x.2.w
def addF (kvs : List (Key × V)) (p : Pt) : Fr := ftimes (shF kvs p) p.f
def varF (kvs : List (Key × V)) (p : Pt) : Fr := ftimes (ftimes (shF kvs p) (shF kvs p)) (ftimes p.f (fminus p.f (p.x.2.w, 1)))
def optF (kvs : List (Key × V)) (ps : List Pt) : Fr × Option Fr := (fsum (0, 1) (ps.map (addF kvs)), some (fsum (0, 1) (ps.map (varF kvs))))
def estF (kvs : List (Key × V)) (s : Smp) : Fr × Option Fr :=
  if s.whole = true then (((amts kvs s.rows).sum, 1), some (0, 1)) else match s with
  | .U _ _ seen ps => uniF kvs seen ps
  | .W _ _ total ps => wtF kvs total ps
  | .O _ _ _ ps => optF kvs ps
def OptV (K : PySem.W.Frag) (H : Hp) (u : V) : Option Fr → Prop
  | none => u = .non
  | some g => ∃ w, u = .ref w ∧ FrAt K H w g
def AnsAt (K : PySem.W.Frag) (H : Hp) (t : Addr) (r : Fr × Option Fr) : Prop := ∃ e u, H t = some (.tup [.ref e, u]) ∧ FrAt K H e r.1 ∧ OptV K H u r.2
theorem AnsAt.kp0 {K : PySem.W.Frag} {H H' : Hp} {t : Addr} {r : Fr × Option Fr} (h : AnsAt K H t r) (k : Kp [] H H') : AnsAt K H' t r := by
  obtain ⟨e, u, h1, h2, h3⟩ := h
  obtain ⟨r1, r2⟩ := r
  refine ⟨e, u, k.get nin0 h1, h2.kp0 k, ?_⟩
  cases r2 with
  | none => exact h3
  | some g => exact let ⟨w, a, b⟩ := h3; ⟨w, a, b.kp0 k⟩
structure PtB (p : Pt) : Prop where
  w : RowW p.x.2
  f1 : 1 ≤ p.f.2
  fB : FrB 13 p.f
def spUniE (K : PySem.W.Frag) (C : Addr) : Sp := fun vs H Q _ => ∃ (x k d : Addr) (size seen : Int) (ps : List (Addr × Row)) (kvs : List (Key × V)), vs = [.ref x, .ref d] ∧ UniAt C H x k size seen ps ∧ RowsAt H ps ∧ 1 ≤ ps.length ∧ ps.length ≤ 6 ∧ seen.natAbs ≤ 1000 ∧ H d = some (.dK kvs) ∧ AmtOk kvs ∧ ∀ H' t, Kp [] H H' → AnsAt K H' t (uniF kvs seen ps) → Q (.ref t) H'
theorem ok_uniform_estimate {P : Program} {w : World} {K : PySem.W.Frag} {mg : Str → Option Value} {base : Heap} (T : T P K mg base) : FnOk P w K mg base CX0 8 T.a_uniform_estimate T.fd_uniform_estimate ["sample", "amounts"] (spUniE K T.C_Uniform) := by
  refine T.F_uniform_estimate.ok sc_uniform_estimate (fun vs H Q E h => ?_) (fun cdv A outer s H vs Q E hr h => ?_)
  · obtain ⟨_, _, _, _, _, _, _, rfl, _⟩ := h
    rfl
  · obtain ⟨x, k, d, size, seen, ps, kvs, rfl, hU, hps, hs1, hs6, hn, hd, ho, q⟩ := h
    obtain ⟨⟨dx, hx⟩, hk⟩ := id hU
    have hN := ysF_N ho hs1 hs6
    obtain ⟨q1, q2, _⟩ := hN.sq
    have habs := amts_S ho (ps := ps) hs6
    refine ⟨_, (pss_cons (ps_set (i := 2) sc_uniform_estimate.nd rfl (by first | exact Or.inl rfl | exact Or.inr rfl) (pe_callB c_len (by rfl) T.z_len (by decide +kernel) (pa_cons (pe_fld (pv 0) rfl) pa_nil)))
      (pss_cons (ps_set (i := 3) sc_uniform_estimate.nd rfl (by first | exact Or.inl rfl | exact Or.inr rfl) (pe_call (ok_lowest T) (hr.mono (by decide)) (by rfl) T.g_lowest T.F_lowest.kp T.b_lowest .nil passL (pa_cons (pe_op op_mulW (pe_fld (pv 0) rfl) (pe_call (ok_true_sum T) (hr.mono (by decide)) (by rfl) T.g_true_sum T.F_true_sum.kp T.b_true_sum .nil pass0 (pa_cons (pe_fld (pv 0) rfl) (pa_cons (pv 1) pa_nil)))) (pa_cons (pv 2) pa_nil))))
      (pss_cons (ps_if (pt_cmpR op_eq (pv 2) pe_int (nomark _)) (pss_one (ps_ret (pe_tup (pa_cons (pv 3) (pa_cons pe_non pa_nil))))) pss_nil)
      (pss_cons (ps_set (i := 4) sc_uniform_estimate.nd rfl (by first | exact Or.inl rfl | exact Or.inr rfl) (pe_call (ok_lowest T) (hr.mono (by decide)) (by rfl) T.g_lowest T.F_lowest.kp T.b_lowest .nil passL (pa_cons (pe_op op_mulW (pe_fld (pv 0) rfl) (pe_op op_sub (pe_fld (pv 0) rfl) (pv 2))) (pa_cons (pe_op op_mulW (pv 2) (pe_op op_sub (pv 2) pe_int)) pa_nil))))
      (pss_one (ps_ret (pe_tup (pa_cons (pv 3) (pa_cons (pe_call (ok_times T) (hr.mono (by decide)) (by rfl) T.g_times T.F_times.kp T.b_times .nil pass0 (pa_cons (pv 4) (pa_cons (pe_call (ok_squares_around T) (hr.mono (by decide)) (by rfl) T.g_squares_around T.F_squares_around.kp T.b_squares_around .nil pass0 (pa_cons (pe_call (ok_amounts_of T) (hr.mono (by decide)) (by rfl) T.g_amounts_of T.F_amounts_of.kp T.b_amounts_of .nil pass0 (pa_cons (pe_fld (pv 0) rfl) (pa_cons (pv 1) pa_nil))) pa_nil)) pa_nil))) pa_nil))))))))), ?_⟩
    walk_at "z0"
    walk_at "z"
    refine ⟨x, _, dx, _, _, rfl, hx, T.cl_Uniform, T.na_Uniform_kept, uf_kept size seen k, ?_⟩
    walk_at "z"
    refine Z.lenL (lstL hk) ?_
    rw [refs_len]
    walk_at "z"
    refine ⟨x, _, dx, _, _, rfl, hx, T.cl_Uniform, T.na_Uniform_seen, uf_seen size seen k, ?_⟩
    walk_at "z"
    refine ⟨x, _, dx, _, _, rfl, hx, T.cl_Uniform, T.na_Uniform_kept, uf_kept size seen k, ?_⟩
    walk_at "z"
    refine ⟨k, d, ps, kvs, rfl, hk, hps, by omega, hd, ho, fun H1 k1 => ?_⟩
    walk_at "z"
    refine Z.iC (mul_ok (n := 10) (by omega) (by omega)) ?_
    walk_at "z"
    have hk0' : ((ps.length : Nat) : Int) ≠ 0 := by omega
    refine ⟨_, _, rfl, Nat.lt_of_lt_of_le (show ((ps.length : Nat) : Int).natAbs < 2 ^ 3 by rw [Int.natAbs_natCast]; omega) (Nat.pow_le_pow_right (by decide) (by decide)), fun z => absurd z hk0', fun _ H2 e ne k2 e2 => ?_⟩
    walk_at "z"
    refine Z.ite (fun h1 => ?_) (fun h1 => ?_)
    · walk_at "z"
      refine Z.tupK (fun t H3 nt k3 e3 => ?_)
      refine q H3 t ((k1.trans k2).trans k3) ⟨e, .non, e3, e2.kp0 k3, ?_⟩
      show OptV K H3 .non (if ps.length = 1 then none else some _)
      rw [if_pos (by omega)]
      rfl
    · have hs2 : 2 ≤ ps.length := by omega
      have k12 := k1.trans k2
      have hx2 := k12.get nin0 hx
      walk_at "z"
      refine ⟨x, _, dx, _, _, rfl, hx2, T.cl_Uniform, T.na_Uniform_seen, uf_seen size seen k, ?_⟩
      walk_at "z"
      refine ⟨x, _, dx, _, _, rfl, hx2, T.cl_Uniform, T.na_Uniform_seen, uf_seen size seen k, ?_⟩
      walk_at "z"
      refine Z.iC (mul_ok (n := 20) (by omega) (by omega)) ?_
      walk_at "z"
      refine Z.iC (mul_ok (n := 10) (by rw [Int.natAbs_natCast]; omega) (by omega)) ?_
      walk_at "z"
      have hq0 := nnF_ne hs2
      have hqB := nnF_B hs6 hs1
      have hpB : (seen * (seen - ((ps.length : Nat) : Int))).natAbs < 2 ^ 21 := by
        rw [Int.natAbs_mul]
        exact Nat.lt_of_le_of_lt (Nat.mul_le_mul hn (show _ ≤ 1006 by omega)) (by decide)
      refine ⟨_, _, rfl, up_B hqB (by decide), fun z => absurd z hq0, fun _ H3 f nf k3 e3 => ?_⟩
      have fB : FrB 21 (lo (seen * (seen - ((ps.length : Nat) : Int))) (nnF ps.length)) := lo_B hq0 hpB (up_B hqB (by decide))
      have hx3 := k3.get nin0 hx2
      have k13 := k12.trans k3
      walk_at "z"
      refine ⟨x, _, dx, _, _, rfl, hx3, T.cl_Uniform, T.na_Uniform_kept, uf_kept size seen k, ?_⟩
      walk_at "z"
      refine ⟨k, d, ps, kvs, rfl, k13.get nin0 hk, hps.kp0 k13, by omega, k13.get nin0 hd, ho, fun H4 D as k4 e4 F4 => ?_⟩
      walk_at "z"
      refine ⟨D, as, _, rfl, lstL e4, F4, hN, fun H5 c5 k5 e5 => ?_⟩
      walk_at "z"
      have lf := (lo_low (p := seen * (seen - ((ps.length : Nat) : Int))) hq0)
      refine ⟨f, c5, _, sqF (ysF kvs ps), rfl, (e3.kp0 k4).kp0 k5, e5, lf.ne, q1.ne, fB.mono (by decide), q2.mono (by decide), fun H6 c6 n6 k6 e6 => ?_⟩
      walk_at "z"
      refine Z.tupK (fun t H7 nt k7 e7 => ?_)
      have k37 := ((((k3.trans k4).trans k5).trans k6).trans k7)
      refine q H7 t (k12.trans k37) ⟨e, .ref c6, e7, e2.kp0 k37, ?_⟩
      show OptV K H7 (.ref c6) (if ps.length = 1 then none else some _)
      rw [if_neg (by omega)]
      exact ⟨c6, rfl, e6.kp0 k7⟩
def spWtE (K : PySem.W.Frag) (C : Addr) : Sp := fun vs H Q _ => ∃ (x k d : Addr) (size t : Int) (ps : List (Addr × Row)) (kvs : List (Key × V)), vs = [.ref x, .ref d] ∧ WtAt C H x k size t ps ∧ RowsAt H ps ∧ 1 ≤ ps.length ∧ ps.length ≤ 6 ∧ (∀ x ∈ ps, RowW x.2) ∧ 0 ≤ t ∧ t ≤ 15000 ∧ H d = some (.dK kvs) ∧ AmtOk kvs ∧ ∀ H' r, Kp [] H H' → AnsAt K H' r (wtF kvs t ps) → Q (.ref r) H'
theorem ok_weighted_estimate {P : Program} {w : World} {K : PySem.W.Frag} {mg : Str → Option Value} {base : Heap} (T : T P K mg base) : FnOk P w K mg base CX0 8 T.a_weighted_estimate T.fd_weighted_estimate ["sample", "amounts"] (spWtE K T.C_Weighted) := by
  refine T.F_weighted_estimate.ok sc_weighted_estimate (fun vs H Q E h => ?_) (fun cdv A outer s H vs Q E hr h => ?_)
  · obtain ⟨_, _, _, _, _, _, _, rfl, _⟩ := h
    rfl
  · obtain ⟨x, k, d, size, t, ps, kvs, rfl, hU, hps, hs1, hs6, hW, ht0, ht1, hd, ho, q⟩ := h
    obtain ⟨⟨dx, hx⟩, hk⟩ := id hU
    have hol := ordF_len kvs ps 0 t
    have hN := ordF_N ho ht0 ht1 hs1 hs6 hW
    obtain ⟨q1, q2, _⟩ := hN.sq
    refine ⟨_, (pss_cons (ps_set (i := 2) sc_weighted_estimate.nd rfl (by first | exact Or.inl rfl | exact Or.inr rfl) (pe_call (ok_ordered_estimates T) (hr.mono (by decide)) (by rfl) T.g_ordered_estimates T.F_ordered_estimates.kp T.b_ordered_estimates .nil pass0 (pa_cons (pe_fld (pv 0) rfl) (pa_cons (pe_fld (pv 0) rfl) (pa_cons (pv 1) pa_nil)))))
      (pss_cons (ps_set (i := 3) sc_weighted_estimate.nd rfl (by first | exact Or.inl rfl | exact Or.inr rfl) (pe_callB c_len (by rfl) T.z_len (by decide +kernel) (pa_cons (pv 2) pa_nil)))
      (pss_cons (ps_if (pt_cmpR op_eq (pv 3) pe_int (nomark _)) (pss_one (ps_ret (pe_tup (pa_cons (pe_ix ix_list (pv 2) pe_int (fun _ _ => rfl)) (pa_cons pe_non pa_nil))))) pss_nil)
      (pss_one (ps_ret (pe_tup (pa_cons (pe_call (ok_mean_of T) (hr.mono (by decide)) (by rfl) T.g_mean_of T.F_mean_of.kp T.b_mean_of .nil pass0 (pa_cons (pv 2) pa_nil)) (pa_cons (pe_call (ok_times T) (hr.mono (by decide)) (by rfl) T.g_times T.F_times.kp T.b_times .nil pass0 (pa_cons (pe_call (ok_lowest T) (hr.mono (by decide)) (by rfl) T.g_lowest T.F_lowest.kp T.b_lowest .nil passL (pa_cons pe_int (pa_cons (pe_op op_mulW (pv 3) (pe_op op_sub (pv 3) pe_int)) pa_nil))) (pa_cons (pe_call (ok_squares_around T) (hr.mono (by decide)) (by rfl) T.g_squares_around T.F_squares_around.kp T.b_squares_around .nil pass0 (pa_cons (pv 2) pa_nil)) pa_nil))) pa_nil)))))))), ?_⟩
    walk_at "z0"
    walk_at "z"
    refine ⟨x, _, dx, _, _, rfl, hx, T.cl_Weighted, T.na_Weighted_total, wf_total size t k, ?_⟩
    walk_at "z"
    refine ⟨x, _, dx, _, _, rfl, hx, T.cl_Weighted, T.na_Weighted_kept, wf_kept size t k, ?_⟩
    walk_at "z"
    refine ⟨k, d, t, ps, kvs, rfl, hk, hps, hs6, hW, ht0, ht1, hd, ho, fun H1 D as _ k1 e1 F1 => ?_⟩
    walk_at "z"
    refine Z.lenL (lstL e1) ?_
    rw [List.length_map, F1.len, hol]
    walk_at "z"
    refine Z.ite (fun h1 => ?_) (fun h1 => ?_)
    · have hs1' : ps.length = 1 := by omega
      obtain ⟨f, hf⟩ : ∃ f, ordF kvs 0 t ps = [f] := List.length_eq_one_iff.mp (by rw [hol]; exact hs1')
      rw [hf] at F1
      obtain ⟨a, ha⟩ : ∃ a, as = [a] := List.length_eq_one_iff.mp F1.len
      subst ha
      obtain ⟨x0, f0, hx0, hf0, hxa⟩ := F1.get (i := 0) (v := .ref a) rfl
      obtain rfl := Option.some.inj hf0
      cases hx0
      walk_at "z"
      refine Z.ixL (lstL e1) (show atI [V.ref a] 0 = some (.ref a) from rfl) ?_
      walk_at "z"
      refine Z.tupK (fun r H2 nr k2 e2 => ?_)
      refine q H2 r (k1.trans k2) ?_
      unfold wtF
      rw [if_pos hs1', hf]
      exact ⟨a, .non, e2, hxa.kp0 k2, rfl⟩
    · have hs2 : 2 ≤ ps.length := by omega
      walk_at "z"
      refine ⟨D, as, _, rfl, lstL e1, F1, hN, fun H2 c2 k2 e2 => ?_⟩
      walk_at "z"
      refine Z.iC (mul_ok (n := 10) (by rw [Int.natAbs_natCast]; omega) (by omega)) ?_
      walk_at "z"
      have hq0 := nnF_ne hs2
      have hqB := nnF_B hs6 hs1
      refine ⟨_, _, rfl, up_B hqB (by decide), fun z => absurd z hq0, fun _ H3 f nf k3 e3 => ?_⟩
      have fB : FrB 6 (lo 1 (nnF ps.length)) := lo_B hq0 (by decide) hqB
      have lf := (lo_low (p := 1) hq0)
      have k23 := k2.trans k3
      walk_at "z"
      refine ⟨D, as, _, rfl, lstL (k23.get nin0 e1), F1.kp0 k23, hN, fun H4 c4 k4 e4 => ?_⟩
      walk_at "z"
      refine ⟨f, c4, _, sqF (ordF kvs 0 t ps), rfl, e3.kp0 k4, e4, lf.ne, q1.ne, fB.mono (by decide), q2.mono (by decide), fun H5 c5 n5 k5 e5 => ?_⟩
      walk_at "z"
      refine Z.tupK (fun r H6 nr k6 e6 => ?_)
      have k36 := ((k3.trans k4).trans k5).trans k6
      refine q H6 r ((k1.trans k2).trans k36) ?_
      unfold wtF
      rw [if_neg (by omega)]
      exact ⟨c2, .ref c5, e6, e2.kp0 k36, c5, rfl, e5.kp0 k6⟩

theorem PtB.sh {kvs : List (Key × V)} (ho : AmtOk kvs) {p : Pt} (h : PtB p) : Low (shF kvs p) ∧ FrB 10 (shF kvs p) ∧ rv (shF kvs p) = (amt kvs p.x.2.k : Rat) / (p.x.2.w : Rat) := by
  have h0 := h.w.w0
  have h1 := h.w.w1
  have hw0 : p.x.2.w ≠ 0 := by omega
  have ha := amt_le ho p.x.2.k
  exact ⟨lo_low hw0, lo_B hw0 (Nat.lt_of_le_of_lt ha (by decide)) (Nat.lt_of_le_of_lt (show p.x.2.w.natAbs ≤ 1000 by omega) (by decide)), rv_lo hw0⟩
theorem PtB.wt {p : Pt} (h : PtB p) : FrB 10 (p.x.2.w, 1) := ⟨Nat.lt_of_le_of_lt (show p.x.2.w.natAbs ≤ 1000 by have := h.w.w0; have := h.w.w1; omega) (by decide), by show (1 : Nat) < 2 ^ 10; decide⟩
theorem PtB.ab {p : Pt} (h : PtB p) : Low (fminus p.f (p.x.2.w, 1)) ∧ FrB 24 (fminus p.f (p.x.2.w, 1)) ∧ rv (fminus p.f (p.x.2.w, 1)) = rv p.f - (p.x.2.w : Rat) := by
  have f1 := h.f1
  have o1 : ((p.x.2.w, 1) : Fr).2 ≠ 0 := by show (1 : Int) ≠ 0; decide
  refine ⟨lo_low (Int.mul_ne_zero (by omega) o1), fminus_B (n := 13) (m := 10) h.fB h.wt (by omega) o1, ?_⟩
  rw [rv_fminus (by omega) o1, rv_int]
theorem PtB.add {kvs : List (Key × V)} (ho : AmtOk kvs) {p : Pt} (h : PtB p) : 1 ≤ (addF kvs p).2 ∧ FrB 23 (addF kvs p) ∧ rv (addF kvs p) = (amt kvs p.x.2.k : Rat) / (p.x.2.w : Rat) * rv p.f := by
  obtain ⟨s1, s2, s3⟩ := h.sh ho
  have f1 := h.f1
  refine ⟨lo_pos (Int.mul_ne_zero s1.ne (by omega)), ftimes_B (n := 10) (m := 13) s2 h.fB s1.ne (by omega), ?_⟩
  unfold addF
  rw [rv_ftimes s1.ne (by omega), s3]
theorem PtB.var {kvs : List (Key × V)} (ho : AmtOk kvs) {p : Pt} (h : PtB p) : (1 ≤ (ftimes (shF kvs p) (shF kvs p)).2 ∧ FrB 20 (ftimes (shF kvs p) (shF kvs p))) ∧ (1 ≤ (ftimes p.f (fminus p.f (p.x.2.w, 1))).2 ∧ FrB 37 (ftimes p.f (fminus p.f (p.x.2.w, 1)))) ∧ 1 ≤ (varF kvs p).2 ∧ FrB 57 (varF kvs p) ∧ rv (varF kvs p) = (amt kvs p.x.2.k : Rat) / (p.x.2.w : Rat) * ((amt kvs p.x.2.k : Rat) / (p.x.2.w : Rat)) * (rv p.f * (rv p.f - (p.x.2.w : Rat))) := by
  obtain ⟨s1, s2, s3⟩ := h.sh ho
  obtain ⟨a1, a2, a3⟩ := h.ab
  have f1 := h.f1
  have n1 : 1 ≤ (ftimes (shF kvs p) (shF kvs p)).2 := lo_pos (Int.mul_ne_zero s1.ne s1.ne)
  have b1 : FrB 20 (ftimes (shF kvs p) (shF kvs p)) := ftimes_B (n := 10) (m := 10) s2 s2 s1.ne s1.ne
  have n2 : 1 ≤ (ftimes p.f (fminus p.f (p.x.2.w, 1))).2 := lo_pos (Int.mul_ne_zero (by omega) a1.ne)
  have b2 : FrB 37 (ftimes p.f (fminus p.f (p.x.2.w, 1))) := ftimes_B (n := 13) (m := 24) h.fB a2 (by omega) a1.ne
  refine ⟨⟨n1, b1⟩, ⟨n2, b2⟩, lo_pos (Int.mul_ne_zero (by omega) (by omega)), ftimes_B (n := 20) (m := 37) b1 b2 (by omega) (by omega), ?_⟩
  unfold varF
  rw [rv_ftimes (by omega) (by omega), rv_ftimes s1.ne s1.ne, rv_ftimes (by omega) a1.ne, a3, s3]
def spOptE (K : PySem.W.Frag) (C : Addr) : Sp := fun vs H Q _ => ∃ (x a k d : Addr) (size : Int) (ps : List Pt) (kvs : List (Key × V)), vs = [.ref x, .ref d] ∧ OptAt C H x a k size ps ∧ PtsAt K H ps ∧ ps.length ≤ 6 ∧ (∀ p ∈ ps, PtB p) ∧ H d = some (.dK kvs) ∧ AmtOk kvs ∧ ∀ H' r, Kp [] H H' → AnsAt K H' r (optF kvs ps) → Q (.ref r) H'
theorem ok_optimal_estimate {P : Program} {w : World} {K : PySem.W.Frag} {mg : Str → Option Value} {base : Heap} (T : T P K mg base) : FnOk P w K mg base CX0 6 T.a_optimal_estimate T.fd_optimal_estimate ["sample", "amounts"] (spOptE K T.C_Optimal) := by
  refine T.F_optimal_estimate.ok sc_optimal_estimate (fun vs H Q E h => ?_) (fun cdv A outer s H vs Q E hr h => ?_)
  · obtain ⟨_, _, _, _, _, _, _, rfl, _⟩ := h
    rfl
  · obtain ⟨x, a, k, d, size, ps, kvs, rfl, hU, hps, h6, hB, hd, ho, q⟩ := h
    obtain ⟨⟨dx, hx⟩, ha, hk⟩ := id hU
    refine ⟨_, (pss_cons (ps_set (i := 2) sc_optimal_estimate.nd rfl (by first | exact Or.inl rfl | exact Or.inr rfl) (pe_lst pa_nil))
      (pss_cons (ps_set (i := 3) sc_optimal_estimate.nd rfl (by first | exact Or.inl rfl | exact Or.inr rfl) (pe_lst pa_nil))
      (pss_cons (ps_for PassesOwn.never rfl (pi_list (pe_fld (pv 0) rfl)) (pg_tup rfl (pgs_cons (pg_name (i := 4) sc_optimal_estimate.nd rfl (by first | exact Or.inl rfl | exact Or.inr rfl)) (pgs_cons (pg_name (i := 5) sc_optimal_estimate.nd rfl (by first | exact Or.inl rfl | exact Or.inr rfl)) pgs_nil))) (pss_cons (ps_set (i := 6) sc_optimal_estimate.nd rfl (by first | exact Or.inl rfl | exact Or.inr rfl) (pe_tup (pa_cons (pe_ix ix_tup (pv 4) pe_int (fun _ _ => rfl)) (pa_cons pe_int pa_nil))))
      (pss_cons (ps_set (i := 7) sc_optimal_estimate.nd rfl (by first | exact Or.inl rfl | exact Or.inr rfl) (pe_call (ok_lowest T) (hr.mono (by decide)) (by rfl) T.g_lowest T.F_lowest.kp T.b_lowest .nil passL (pa_cons (pe_call (ok_amount_of T) (hr.mono (by decide)) (by rfl) T.g_amount_of T.F_amount_of.kp T.b_amount_of .nil pass0 (pa_cons (pv 1) (pa_cons (pv 4) pa_nil))) (pa_cons (pe_ix ix_tup (pv 4) pe_int (fun _ _ => rfl)) pa_nil))))
      (pss_cons (ps_expr (pe_bm PySem.F.plainAttrs_list PySem.F.slot_list_append PySem.F.type_list_append mt_append (pv 2) (pa_cons (pe_call (ok_times T) (hr.mono (by decide)) (by rfl) T.g_times T.F_times.kp T.b_times .nil pass0 (pa_cons (pv 7) (pa_cons (pv 5) pa_nil))) pa_nil)))
      (pss_one (ps_expr (pe_bm PySem.F.plainAttrs_list PySem.F.slot_list_append PySem.F.type_list_append mt_append (pv 3) (pa_cons (pe_call (ok_times T) (hr.mono (by decide)) (by rfl) T.g_times T.F_times.kp T.b_times .nil pass0 (pa_cons (pe_call (ok_times T) (hr.mono (by decide)) (by rfl) T.g_times T.F_times.kp T.b_times .nil pass0 (pa_cons (pv 7) (pa_cons (pv 7) pa_nil))) (pa_cons (pe_call (ok_times T) (hr.mono (by decide)) (by rfl) T.g_times T.F_times.kp T.b_times .nil pass0 (pa_cons (pv 5) (pa_cons (pe_call (ok_minus T) (hr.mono (by decide)) (by rfl) T.g_minus T.F_minus.kp T.b_minus .nil pass0 (pa_cons (pv 5) (pa_cons (pv 6) pa_nil))) pa_nil))) pa_nil))) pa_nil))))))))
      (pss_one (ps_ret (pe_tup (pa_cons (pe_call (ok_sum_of T) (hr.mono (by decide)) (by rfl) T.g_sum_of T.F_sum_of.kp T.b_sum_of .nil pass0 (pa_cons (pv 2) pa_nil)) (pa_cons (pe_call (ok_sum_of T) (hr.mono (by decide)) (by rfl) T.g_sum_of T.F_sum_of.kp T.b_sum_of .nil pass0 (pa_cons (pv 3) pa_nil)) pa_nil)))))))), ?_⟩
    walk_at "z0"
    walk_at "z"
    refine Z.lstK (fun A H1 nA k1 e1 => ?_)
    walk_at "z"
    refine Z.lstK (fun B H2 nB k2 e2 => ?_)
    walk_at "z"
    have k12 := k1.trans k2
    have nAB : A ≠ B := ne_of_none e1 nB
    refine ⟨x, _, dx, _, _, rfl, k12.get nin0 hx, T.cl_Optimal, T.na_Optimal_parts, of_parts size a k, ?_⟩
    walk_at "z"
    refine Z.forl (prefs ps) (lstL (k12.get nin0 ha)) (fun i σ' H' => ∃ (y4 y5 y6 y7 : Option V) (as bs : List Addr), σ' = [some (.ref x), some (.ref d), some (.ref A), some (.ref B), y4, y5, y6, y7] ∧ Kp [] H H' ∧ H' A = some (.lst (as.map V.ref)) ∧ FrsAt K H' as ((ps.take i).map (addF kvs)) ∧ H' B = some (.lst (bs.map V.ref)) ∧ FrsAt K H' bs ((ps.take i).map (varF kvs))) ⟨_, _, _, _, [], [], rfl, k12, k2.get nin0 e1, .nil, e2, .nil⟩ ?_ ?_ ?_
    · rintro i σ' H3 _ ⟨y4, y5, y6, y7, as, bs, rfl, k3, _⟩
      exact lstL (k3.get nin0 ha)
    · rintro i v σ' H3 hv ⟨y4, y5, y6, y7, as, bs, rfl, k3, eA, FA, eB, FB⟩
      obtain ⟨p, hp, rfl⟩ := prefs_of hv
      have hpm := List.mem_of_getElem? hp
      have hi : i < ps.length := (List.getElem?_eq_some_iff.mp hp).1
      have hpa := (hps.kp0 k3) p hpm
      have hb := hB p hpm
      obtain ⟨s1, s2, _⟩ := hb.sh ho
      obtain ⟨a1, a2, _⟩ := hb.ab
      obtain ⟨ad1, ad2, _⟩ := hb.add ho
      obtain ⟨⟨v1, v2⟩, ⟨v3, v4⟩, v5, v6, _⟩ := hb.var ho
      have f1 := hb.f1
      have w0 := hb.w.w0
      have w1 := hb.w.w1
      refine Z.gtup (tupT hpa.at_) rfl ?_
      walk_at "z"
      refine RowAt.w2 hpa.row ?_
      walk_at "z"
      refine Z.tupK (fun w H4 nw k4 e4 => ?_)
      walk_at "z"
      refine ⟨d, p.x.1, kvs, p.x.2, rfl, (k3.trans k4).get nin0 hd, ho, hpa.row.kp0 k4, ?_⟩
      walk_at "z"
      refine RowAt.w2 (hpa.row.kp0 k4) ?_
      walk_at "z"
      have hw0 : p.x.2.w ≠ 0 := by omega
      refine ⟨_, _, rfl, up_B (n := 10) (show p.x.2.w.natAbs < 2 ^ 10 by omega) (by decide), fun z => absurd z hw0, fun _ H5 sh nsh k5 e5 => ?_⟩
      have eA5 := (k4.trans k5).get nin0 eA
      have FA5 := FA.kp0 (k4.trans k5)
      walk_at "z"
      refine ⟨Z.tyL eA5, ?_⟩
      walk_at "z"
      refine ⟨sh, p.a, shF kvs p, p.f, rfl, e5, (hpa.fr.kp0 k4).kp0 k5, s1.ne, by omega, s2.mono (by decide), hb.fB.mono (by decide), fun H6 c6 n6 k6 e6 => ?_⟩
      have eA6 := k6.get nin0 eA5
      walk_at "z"
      refine Z.app eA6 (Z.szl (m := 1000) (by rw [List.length_map, FA.len, List.length_map, List.length_take]; omega)) ?_
      have eA7 : upd H6 A (.lst (as.map V.ref ++ [V.ref c6])) A = some (.lst ((as ++ [c6]).map V.ref)) := by rw [upd_same, List.map_append]; rfl
      have k7 : Kp [A] H6 (upd H6 A (.lst (as.map V.ref ++ [V.ref c6]))) := Kp.put (by simp)
      generalize upd H6 A (.lst (as.map V.ref ++ [V.ref c6])) = H7 at eA7 k7 ⊢
      have k46 := (k4.trans k5).trans k6
      have k07 : Kp [] H H7 := (k3.trans k46).then1 k7 nA
      have FA7 := ((FA5.kp0 k6).snoc e6).kpl k7 eA6
      have FB7 := (FB.kp0 k46).kpl k7 eA6
      have eB7 := k7.get (nin1 nAB.symm) (k46.get nin0 eB)
      have esh7 := (e5.kp0 k6).kpl k7 eA6
      have ew7 : FrAt K H7 w (p.x.2.w, 1) := (((show FrAt K H4 w (p.x.2.w, 1) from tupT e4).kp0 k5).kp0 k6).kpl k7 eA6
      have efr7 := ((hps.kp0 k07) p hpm).fr
      walk_at "z"
      refine ⟨Z.tyL eB7, ?_⟩
      walk_at "z"
      refine ⟨sh, sh, shF kvs p, shF kvs p, rfl, esh7, esh7, s1.ne, s1.ne, s2.mono (by decide), s2.mono (by decide), fun H8 c8 n8 k8 e8 => ?_⟩
      walk_at "z"
      refine ⟨p.a, w, p.f, (p.x.2.w, 1), rfl, efr7.kp0 k8, ew7.kp0 k8, by omega, by show (1 : Int) ≠ 0; decide, hb.fB.mono (by decide), hb.wt.mono (by decide), fun H9 c9 n9 k9 e9 => ?_⟩
      walk_at "z"
      refine ⟨p.a, c9, p.f, _, rfl, (efr7.kp0 k8).kp0 k9, e9, by omega, a1.ne, hb.fB.mono (by decide), a2.mono (by decide), fun H10 c10 n10 k10 e10 => ?_⟩
      walk_at "z"
      refine ⟨c8, c10, _, _, rfl, (e8.kp0 k9).kp0 k10, e10, by omega, by omega, v2.mono (by decide), v4.mono (by decide), fun H11 c11 n11 k11 e11 => ?_⟩
      have k811 := ((k8.trans k9).trans k10).trans k11
      have eB11 := k811.get nin0 eB7
      have eA11 := k811.get nin0 eA7
      walk_at "z"
      refine Z.app eB11 (Z.szl (m := 1000) (by rw [List.length_map, FB.len, List.length_map, List.length_take]; omega)) ?_
      have eB12 : upd H11 B (.lst (bs.map V.ref ++ [V.ref c11])) B = some (.lst ((bs ++ [c11]).map V.ref)) := by rw [upd_same, List.map_append]; rfl
      have k12' : Kp [B] H11 (upd H11 B (.lst (bs.map V.ref ++ [V.ref c11]))) := Kp.put (by simp)
      generalize upd H11 B (.lst (bs.map V.ref ++ [V.ref c11])) = H12 at eB12 k12' ⊢
      walk_at "z"
      refine ⟨_, _, _, _, as ++ [c6], bs ++ [c11], rfl, (k07.trans k811).then1 k12' (k1.none nin0 nB), k12'.get (nin1 nAB) eA11, ?_, eB12, ?_⟩
      · rw [List.take_add_one, hp, List.map_append]
        exact (FA7.kp0 k811).kpl k12' eB11
      · rw [List.take_add_one, hp, List.map_append]
        exact ((FB7.kp0 k811).snoc e11).kpl k12' eB11
    · rintro σ' H3 ⟨y4, y5, y6, y7, as, bs, rfl, k3, eA, FA, eB, FB⟩
      rw [prefs_len, List.take_length] at FA FB
      walk_at "z"
      refine ⟨(23, 6), ⟨by decide, by decide⟩, A, as, _, rfl, lstL eA, FA, fun f hf => ?_, by rw [List.length_map]; exact h6, fun H4 c4 k4 e4 => ?_⟩
      · obtain ⟨p, hp, rfl⟩ := List.mem_map.mp hf
        obtain ⟨z1, z2, _⟩ := (hB p hp).add ho
        exact ⟨z2, by omega⟩
      walk_at "z"
      refine ⟨(57, 6), ⟨by decide, by decide⟩, B, bs, _, rfl, lstL (k4.get nin0 eB), FB.kp0 k4, fun f hf => ?_, by rw [List.length_map]; exact h6, fun H5 c5 k5 e5 => ?_⟩
      · obtain ⟨p, hp, rfl⟩ := List.mem_map.mp hf
        obtain ⟨_, _, z1, z2, _⟩ := (hB p hp).var ho
        exact ⟨z2, by omega⟩
      walk_at "z"
      refine Z.tupK (fun r H6 nr k6 e6 => ?_)
      exact q H6 r (((k3.trans k4).trans k5).trans k6) ⟨c4, .ref c5, e6, (e4.kp0 k5).kp0 k6, c5, rfl, e5.kp0 k6⟩

def wF (r : Row) : Fr := (r.w, 1)
def spWeightsOf (K : PySem.W.Frag) : Sp := fun vs H Q _ => ∃ (p : Addr) (ps : List (Addr × Row)), vs = [.ref p] ∧ H p = some (.lst (refs ps)) ∧ RowsAt H ps ∧ ps.length ≤ 1000 ∧ ∀ H' l as, H l = none → Kp [] H H' → H' l = some (.lst (as.map V.ref)) → FrsAt K H' as (ps.map fun x => wF x.2) → Q (.ref l) H'
theorem ok_weights_of {P : Program} {w : World} {K : PySem.W.Frag} {mg : Str → Option Value} {base : Heap} (T : T P K mg base) : FnOk P w K mg base CX0 1 T.a_weights_of T.fd_weights_of ["things"] (spWeightsOf K) := by
  refine T.F_weights_of.ok sc_weights_of (fun vs H Q E h => ?_) (fun cdv A outer s H vs Q E hr h => ?_)
  · obtain ⟨p, ps, rfl, _⟩ := h
    rfl
  · obtain ⟨p, ps, rfl, hp, hps, hl, q⟩ := h
    refine ⟨_, (pss_one (ps_ret (pe_lc (own := [("item", 1)]) (g := gName 1) rfl sc_weights_of.nd (pi_list (pv 0)) (blkOk_by (own := [("item", 1)]) (N := N_weights_of) (sc := defScope s_weights_of) (by decide +kernel)) (fun _ _ _ _ _ => (pg_name (i := 1) sc_weights_of.nd rfl (by first | exact Or.inl rfl | exact Or.inr rfl))) (fun _ _ _ _ _ => pts_nil) (fun _ _ _ _ _ => (pe_tup (pa_cons (pe_ix (ix_tup : IxR _ (rIxT K)) (pv 1) pe_int (fun _ _ => rfl)) (pa_cons pe_int pa_nil))))))), ?_⟩
    walk_at "z0"
    walk_at "z"
    refine Z.lcl (refs ps) (lstL hp) (fun D i H' => ∃ as : List Addr, Kp [] H H' ∧ H' D = some (.lst (as.map V.ref)) ∧ FrsAt K H' as ((ps.take i).map fun x => wF x.2)) ?_ ?_ ?_ ?_
    · intro D H1 nD k1 e1
      exact ⟨[], k1, e1, .nil⟩
    · rintro D i H1 nD hi ⟨as, k1, e1, F1⟩
      exact lstL (k1.get nin0 hp)
    · rintro D i v H1 nD hv ⟨as, k1, e1, F1⟩
      obtain ⟨x, hx, rfl⟩ := refs_of hv
      have hi : i < ps.length := (List.getElem?_eq_some_iff.mp hx).1
      dsimp only [wipe, List.set]
      walk_at "z"
      refine ⟨rfl, ?_⟩
      walk_at "z"
      refine RowAt.w2 ((hps.kp0 k1) x (List.mem_of_getElem? hx)) ?_
      walk_at "z"
      refine Z.tupK (fun t H2 nt k2 e2 => ?_)
      have e2D := k2.get nin0 e1
      have F2 := F1.kp0 k2
      have e2t : FrAt K H2 t (wF x.2) := tupT e2
      refine ⟨_, e2D, Z.szl (m := 1000) (by rw [List.length_map, F1.len, List.length_map, List.length_take]; omega), as ++ [t], (k1.trans k2).mut nD rfl, by rw [upd_same, List.map_append]; rfl, ?_⟩
      rw [List.take_add_one, hx, List.map_append]
      exact (F2.snoc e2t).kpl (Kp.put (by simp)) e2D
    · rintro D H1 nD ⟨as, k1, e1, F1⟩
      rw [refs_len, List.take_length] at F1
      exact q H1 D as nD k1 e1 F1

def spThrX (K : PySem.W.Frag) : Sp := spEx (fun i : Nat × Nat => 0 < i.1 ∧ i.2 < 64 ∧ i.1 * (i.2 + 1) + 7 ≤ 5900) fun i => spThr K i.1 i.2
theorem ok_threshold {P : Program} {w : World} {K : PySem.W.Frag} {mg : Str → Option Value} {base : Heap} (T : T P K mg base) : FnOk P w K mg base CX0 4 T.a_threshold T.fd_threshold ["weights", "size"] (spThrX K) := fnEx fun i h => ok_threshold_any T i.1 i.2 h.1 h.2.1 h.2.2
def spSumX (K : PySem.W.Frag) : Sp := spEx (fun i : Nat × Nat => i.2 * (i.1 + 1) ≤ 1900) fun i => spLawSum K i.1 i.2
theorem lo_fst_pos {p q : Int} (hp : 0 < p) (hq : 1 ≤ q) : 0 < (lo p q).1 := by
  obtain ⟨a, b, e, _, _, h3, _⟩ := lo_spec (p := p) (q := q) (by omega)
  rw [e]
  rw [gI_pos hq] at h3
  have := gN_pos (p := p) (q := q) (by omega)
  refine Decidable.byContradiction fun z => ?_
  have h4 : (gN p q : Int) * a ≤ 0 := Int.mul_nonpos_of_nonneg_of_nonpos (by omega) (show a ≤ 0 by omega)
  omega

structure SmpG (s : Smp) : Prop where
  n1 : 1 ≤ s.rows.length
  n6 : s.rows.length ≤ 6
  W : ∀ x ∈ s.rows, RowW x.2
  ex : match s with
    | .U _ _ seen _ => seen.natAbs ≤ 1000
    | .W _ _ total _ => 0 ≤ total ∧ total ≤ 15000
    | .O _ _ _ ps => ∀ p ∈ ps, PtB p
def spEstm {P : Program} {K : PySem.W.Frag} {mg : Str → Option Value} {base : Heap} (T : K37.T P K mg base) : Sp := fun vs H Q _ => ∃ (x d : Addr) (s : Smp) (kvs : List (Key × V)), vs = [.ref x, .ref d] ∧ SmpAt T H x s ∧ SmpG s ∧ H d = some (.dK kvs) ∧ AmtOk kvs ∧ ∀ H' r, Kp [] H H' → AnsAt K H' r (estF kvs s) → Q (.ref r) H'
theorem ok_estimate {P : Program} {w : World} {K : PySem.W.Frag} {mg : Str → Option Value} {base : Heap} (T : T P K mg base) : FnOk P w K mg base CX0 9 T.a_estimate T.fd_estimate ["sample", "amounts"] (spEstm T) := by
  refine T.F_estimate.ok sc_estimate (fun vs H Q E h => ?_) (fun cdv A outer s H vs Q E hr h => ?_)
  · obtain ⟨_, _, _, _, rfl, _⟩ := h
    rfl
  · obtain ⟨x, d, s, kvs, rfl, hS, hG, hd, ho, q⟩ := h
    have h6 := hG.n6
    refine ⟨_, (pss_cons (ps_if (pt_val (pe_call (ok_is_whole T) (hr.mono (by decide)) (by rfl) T.g_is_whole T.F_is_whole.kp T.b_is_whole .nil pass0 (pa_cons (pv 0) pa_nil))) (pss_one (ps_ret (pe_tup (pa_cons (pe_tup (pa_cons (pe_call (ok_true_sum T) (hr.mono (by decide)) (by rfl) T.g_true_sum T.F_true_sum.kp T.b_true_sum .nil pass0 (pa_cons (pe_fld (pv 0) rfl) (pa_cons (pv 1) pa_nil))) (pa_cons pe_int pa_nil))) (pa_cons (pe_glob (v := .ref T.k_ZERO) (by rfl) T.g_ZERO rfl) pa_nil))))) pss_nil)
      (pss_cons (ps_if (pt_val (pe_callB call_isi (by rfl) T.z_isinstance (by decide +kernel) (pa_cons (pv 0) (pa_cons (pe_glob (v := .ref T.C_Uniform) (by rfl) T.mg_Uniform rfl) pa_nil)))) (pss_one (ps_ret (pe_call (ok_uniform_estimate T) (hr.mono (by decide)) (by rfl) T.g_uniform_estimate T.F_uniform_estimate.kp T.b_uniform_estimate .nil pass0 (pa_cons (pv 0) (pa_cons (pv 1) pa_nil))))) pss_nil)
      (pss_cons (ps_if (pt_val (pe_callB call_isi (by rfl) T.z_isinstance (by decide +kernel) (pa_cons (pv 0) (pa_cons (pe_glob (v := .ref T.C_Weighted) (by rfl) T.mg_Weighted rfl) pa_nil)))) (pss_one (ps_ret (pe_call (ok_weighted_estimate T) (hr.mono (by decide)) (by rfl) T.g_weighted_estimate T.F_weighted_estimate.kp T.b_weighted_estimate .nil pass0 (pa_cons (pv 0) (pa_cons (pv 1) pa_nil))))) pss_nil)
      (pss_one (ps_ret (pe_call (ok_optimal_estimate T) (hr.mono (by decide)) (by rfl) T.g_optimal_estimate T.F_optimal_estimate.kp T.b_optimal_estimate .nil pass0 (pa_cons (pv 0) (pa_cons (pv 1) pa_nil)))))))), ?_⟩
    walk_at "z0"
    walk_at "z"
    refine ⟨x, s, rfl, hS, by omega, fun H0 k0 => ?_⟩
    have hS0 := hS.kp0 k0
    cases hw : s.whole with
    | true =>
      walk_at "z"
      refine hS0.fkept (fun hk => ?_)
      walk_at "z"
      refine ⟨s.kept, d, s.rows, kvs, rfl, hk, hS0.rows, by omega, k0.get nin0 hd, ho, fun H1 k1 => ?_⟩
      walk_at "z"
      refine Z.tupK (fun e H2 ne k2 e2 => ?_)
      walk_at "z"
      refine Z.tupK (fun r H3 nr k3 e3 => ?_)
      refine q H3 r (((k0.trans k1).trans k2).trans k3) ?_
      unfold estF
      rw [if_pos hw]
      exact ⟨e, .ref T.k_ZERO, e3, tupT (k3.get nin0 e2), T.k_ZERO, rfl, T.q_ZERO H3⟩
    | false =>
      have hw' : ¬ (s.whole = true) := by rw [hw]; decide
      walk_at "z"
      match s, hS0, hG, hw', q with
      | .U k size seen ps, hS0, hG, hw', q =>
        refine isU T hS0.1 ?_
        walk_at "z"
        refine ⟨x, k, d, size, seen, ps, kvs, rfl, hS0.1, hS0.2, hG.n1, hG.n6, hG.ex, k0.get nin0 hd, ho, fun H1 r k1 A => q H1 r (k0.trans k1) ?_⟩
        unfold estF
        rw [if_neg hw']
        exact A
      | .W k size total ps, hS0, hG, hw', q =>
        refine isWU T hS0.1 ?_
        walk_at "z"
        refine isW T hS0.1 ?_
        walk_at "z"
        refine ⟨x, k, d, size, total, ps, kvs, rfl, hS0.1, hS0.2, hG.n1, hG.n6, hG.W, hG.ex.1, hG.ex.2, k0.get nin0 hd, ho, fun H1 r k1 A => q H1 r (k0.trans k1) ?_⟩
        unfold estF
        rw [if_neg hw']
        exact A
      | .O a k size ps, hS0, hG, hw', q =>
        refine isOU T hS0.1 ?_
        walk_at "z"
        refine isOW T hS0.1 ?_
        walk_at "z"
        have hl : (psx ps).length ≤ 6 := hG.n6
        refine ⟨x, a, k, d, size, ps, kvs, rfl, hS0.1, hS0.2, by unfold psx at hl; rwa [List.length_map] at hl, hG.ex, k0.get nin0 hd, ho, fun H1 r k1 A => q H1 r (k0.trans k1) ?_⟩
        unfold estF
        rw [if_neg hw']
        exact A

/-! ### known_optimal -/
def kopR (kvs : List (Key × V)) (t : Rat) (ps : List (Addr × Row)) : Rat := (ps.map fun x => if (x.2.w : Rat) < t then (amt kvs x.2.k : Rat) * (amt kvs x.2.k : Rat) * ((t - (x.2.w : Rat)) / (x.2.w : Rat)) else 0).sum
theorem kopR_snoc (kvs : List (Key × V)) (t : Rat) (ps : List (Addr × Row)) (x : Addr × Row) : kopR kvs t (ps ++ [x]) = kopR kvs t ps + (if (x.2.w : Rat) < t then (amt kvs x.2.k : Rat) * (amt kvs x.2.k : Rat) * ((t - (x.2.w : Rat)) / (x.2.w : Rat)) else 0) := by
  unfold kopR
  rw [List.map_append, List.sum_append]
  show _ + (_ + 0) = _
  grind
def wsR (ps : List (Addr × Row)) : List Rat := ps.map fun x => (x.2.w : Rat)
theorem wF_P {x : Addr × Row} (h : RowW x.2) : PosB 10 (wF x.2) := by
  have h0 := h.w0
  have h1 := h.w1
  exact ⟨by show (1 : Int) ≤ 1; decide, by show 0 < x.2.w; omega, by show x.2.w.natAbs < 2 ^ 10; omega, by show (1 : Nat) < 2 ^ 10; decide⟩
def kF (kvs : List (Key × V)) (b : Fr) (x : Addr × Row) : Fr := ftimes (amt kvs x.2.k * amt kvs x.2.k, 1) (fover (fminus b (wF x.2)) (wF x.2))
theorem kF_ok {kvs : List (Key × V)} (ho : AmtOk kvs) {b : Fr} (hb : Low b) (hB : FrB 77 b) {x : Addr × Row} (hx : RowW x.2) : (1 ≤ (fminus b (wF x.2)).2 ∧ FrB 88 (fminus b (wF x.2))) ∧ (1 ≤ (fover (fminus b (wF x.2)) (wF x.2)).2 ∧ FrB 98 (fover (fminus b (wF x.2)) (wF x.2))) ∧ FrB 7 (amt kvs x.2.k * amt kvs x.2.k, 1) ∧
    1 ≤ (kF kvs b x).2 ∧ FrB 105 (kF kvs b x) ∧ rv (kF kvs b x) = (amt kvs x.2.k : Rat) * (amt kvs x.2.k : Rat) * ((rv b - (x.2.w : Rat)) / (x.2.w : Rat)) := by
  obtain ⟨w1, w2, w3⟩ := wF_P hx
  have o1 : (wF x.2).2 ≠ 0 := by omega
  have m1 : 1 ≤ (fminus b (wF x.2)).2 := lo_pos (Int.mul_ne_zero hb.ne o1)
  have m2 : FrB 88 (fminus b (wF x.2)) := fminus_B (n := 77) (m := 10) hB w3 hb.ne o1
  have hne : (fminus b (wF x.2)).2 * (wF x.2).1 ≠ 0 := Int.mul_ne_zero (by omega) (by omega)
  have v1 : 1 ≤ (fover (fminus b (wF x.2)) (wF x.2)).2 := lo_pos hne
  have v2 : FrB 98 (fover (fminus b (wF x.2)) (wF x.2)) := lo_B hne (mul_B m2.1 w3.2) (mul_B m2.2 w3.1)
  have ha := amt_le ho x.2.k
  have a1 : FrB 7 (amt kvs x.2.k * amt kvs x.2.k, 1) := ⟨by
    show (amt kvs x.2.k * amt kvs x.2.k).natAbs < 2 ^ 7
    rw [Int.natAbs_mul]
    exact Nat.lt_of_le_of_lt (Nat.mul_le_mul ha ha) (by decide), by show (1 : Nat) < 2 ^ 7; decide⟩
  have o2 : ((amt kvs x.2.k * amt kvs x.2.k, 1) : Fr).2 ≠ 0 := by show (1 : Int) ≠ 0; decide
  refine ⟨⟨m1, m2⟩, ⟨v1, v2⟩, a1, lo_pos (Int.mul_ne_zero o2 (by omega)), ftimes_B (n := 7) (m := 98) a1 v2 o2 (by omega), ?_⟩
  unfold kF
  rw [rv_ftimes o2 (by omega), rv_fover (by omega) o1 (by omega), rv_fminus hb.ne o1, rv_int]
  have e1 : rv (wF x.2) = (x.2.w : Rat) := rv_int _
  have e2 : ((amt kvs x.2.k * amt kvs x.2.k : Int) : Rat) = (amt kvs x.2.k : Rat) * (amt kvs x.2.k : Rat) := by exact_mod_cast rfl
  rw [e1, e2]
def spKnO (K : PySem.W.Frag) : Sp := fun vs H Q _ => ∃ (l d : Addr) (size : Nat) (ps : List (Addr × Row)) (kvs : List (Key × V)), vs = [.ref l, .int (size : Int), .ref d] ∧ H l = some (.lst (refs ps)) ∧ RowsAt H ps ∧ (∀ x ∈ ps, RowW x.2) ∧ ps.length ≤ 6 ∧ 1 ≤ size ∧ H d = some (.dK kvs) ∧ AmtOk kvs ∧ ∀ H' c g t, Kp [] H H' → FrAt K H' c g → Low g → Thr (wsR ps) size t → rv g = kopR kvs t ps → Q (.ref c) H'
theorem ok_known_optimal {P : Program} {w : World} {K : PySem.W.Frag} {mg : Str → Option Value} {base : Heap} (T : T P K mg base) : FnOk P w K mg base CX0 6 T.a_known_optimal T.fd_known_optimal ["things", "size", "amounts"] (spKnO K) := by
  refine T.F_known_optimal.ok sc_known_optimal (fun vs H Q E h => ?_) (fun cdv A outer s H vs Q E hr h => ?_)
  · obtain ⟨_, _, _, _, _, rfl, _⟩ := h
    rfl
  · obtain ⟨l, d, size, ps, kvs, rfl, hl, hps, hW, n6, s1, hd, ho, q⟩ := h
    refine ⟨_, (pss_cons (ps_set (i := 3) sc_known_optimal.nd rfl (by first | exact Or.inl rfl | exact Or.inr rfl) (pe_call (ok_threshold T) (hr.mono (by decide)) (by rfl) T.g_threshold T.F_threshold.kp T.b_threshold .nil pass0 (pa_cons (pe_call (ok_weights_of T) (hr.mono (by decide)) (by rfl) T.g_weights_of T.F_weights_of.kp T.b_weights_of .nil pass0 (pa_cons (pv 0) pa_nil)) (pa_cons (pv 1) pa_nil))))
      (pss_cons (ps_set (i := 4) sc_known_optimal.nd rfl (by first | exact Or.inl rfl | exact Or.inr rfl) (pe_lst pa_nil))
      (pss_cons (ps_for PassesOwn.never rfl (pi_list (pv 0)) (pg_name (i := 5) sc_known_optimal.nd rfl (by first | exact Or.inl rfl | exact Or.inr rfl)) (pss_cons (ps_set (i := 6) sc_known_optimal.nd rfl (by first | exact Or.inl rfl | exact Or.inr rfl) (pe_tup (pa_cons (pe_ix ix_tup (pv 5) pe_int (fun _ _ => rfl)) (pa_cons pe_int pa_nil))))
      (pss_cons (ps_set (i := 7) sc_known_optimal.nd rfl (by first | exact Or.inl rfl | exact Or.inr rfl) (pe_call (ok_amount_of T) (hr.mono (by decide)) (by rfl) T.g_amount_of T.F_amount_of.kp T.b_amount_of .nil pass0 (pa_cons (pv 2) (pa_cons (pv 5) pa_nil))))
      (pss_one (ps_if (pt_val (pe_call (ok_less T) (hr.mono (by decide)) (by rfl) T.g_less T.F_less.kp T.b_less .nil pass0 (pa_cons (pv 6) (pa_cons (pv 3) pa_nil)))) (pss_one (ps_expr (pe_bm PySem.F.plainAttrs_list PySem.F.slot_list_append PySem.F.type_list_append mt_append (pv 4) (pa_cons (pe_call (ok_times T) (hr.mono (by decide)) (by rfl) T.g_times T.F_times.kp T.b_times .nil pass0 (pa_cons (pe_tup (pa_cons (pe_op op_mulW (pv 7) (pv 7)) (pa_cons pe_int pa_nil))) (pa_cons (pe_call (ok_over T) (hr.mono (by decide)) (by rfl) T.g_over T.F_over.kp T.b_over .nil passL (pa_cons (pe_call (ok_minus T) (hr.mono (by decide)) (by rfl) T.g_minus T.F_minus.kp T.b_minus .nil pass0 (pa_cons (pv 3) (pa_cons (pv 6) pa_nil))) (pa_cons (pv 6) pa_nil))) pa_nil))) pa_nil)))) pss_nil)))))
      (pss_one (ps_ret (pe_call (ok_sum_of T) (hr.mono (by decide)) (by rfl) T.g_sum_of T.F_sum_of.kp T.b_sum_of .nil pass0 (pa_cons (pv 4) pa_nil))))))), ?_⟩
    walk_at "z0"
    walk_at "z"
    refine ⟨l, ps, rfl, hl, hps, by omega, fun H1 L ws nL k1 e1 F1 => ?_⟩
    walk_at "z"
    refine ⟨(10, 6), ⟨by decide, by decide, by decide⟩, L, ws, _, size, rfl, lstL e1, F1, fun f hf => ?_, by rw [List.length_map]; exact n6, s1, fun H2 b g k2 e2 hgL hgB hgT => ?_⟩
    · obtain ⟨x, hx, rfl⟩ := List.mem_map.mp hf
      exact wF_P (hW x hx)
    have hgT' : Thr (wsR ps) size (rv g) := by
      rw [List.map_map] at hgT
      have e9 : ps.map (rv ∘ fun x => wF x.2) = wsR ps := List.map_congr_left fun x _ => rv_int _
      rw [e9] at hgT
      exact hgT
    have k12 := k1.trans k2
    walk_at "z"
    refine Z.lstK (fun F H3 nF k3 e3 => ?_)
    have k13 := k12.trans k3
    walk_at "z"
    refine Z.forl (refs ps) (lstL (k13.get nin0 hl)) (fun i σ' H' => ∃ (y5 y6 y7 : Option V) (as : List Addr) (fs : List Fr), σ' = [some (.ref l), some (.int (size : Int)), some (.ref d), some (.ref b), some (.ref F), y5, y6, y7] ∧ Kp [] H2 H' ∧ H' F = some (.lst (as.map V.ref)) ∧ FrsAt K H' as fs ∧ fs.length ≤ i ∧ (∀ f ∈ fs, 1 ≤ f.2 ∧ FrB 105 f) ∧ (fs.map rv).sum = kopR kvs (rv g) (ps.take i)) ⟨_, _, _, [], [], rfl, k3, e3, .nil, by decide, (fun f hf => by cases hf), rfl⟩ ?_ ?_ ?_
    · rintro i σ' H4 _ ⟨y5, y6, y7, as, fs, rfl, k4, _⟩
      exact lstL ((k12.trans k4).get nin0 hl)
    · rintro i v σ' H4 hv ⟨y5, y6, y7, as, fs, rfl, k4, eF, FF, hlen, hfB, hsum⟩
      obtain ⟨x, hx, rfl⟩ := refs_of hv
      have hxm := List.mem_of_getElem? hx
      have hi : i < ps.length := (List.getElem?_eq_some_iff.mp hx).1
      have k24 := k12.trans k4
      have r4 := (hps.kp0 k24) x hxm
      have hxW := hW x hxm
      obtain ⟨⟨m1, m2⟩, ⟨v1, v2⟩, a1, p1, p2, p3⟩ := kF_ok ho hgL hgB hxW
      obtain ⟨w1, w2, w3⟩ := wF_P hxW
      have hlt := fless_iff (f := wF x.2) (g := g) w1 hgL.1
      have hwr : rv (wF x.2) = (x.2.w : Rat) := rv_int _
      rw [hwr] at hlt
      have ha := amt_le ho x.2.k
      walk_at "z"
      refine RowAt.w2 r4 ?_
      walk_at "z"
      refine Z.tupK (fun w H5 nw k5 e5 => ?_)
      have ew5 : FrAt K H5 w (wF x.2) := tupT e5
      walk_at "z"
      refine ⟨d, x.1, kvs, x.2, rfl, (k24.trans k5).get nin0 hd, ho, r4.kp0 k5, ?_⟩
      walk_at "z"
      have eb5 := (e2.kp0 k4).kp0 k5
      refine ⟨w, b, wF x.2, g, rfl, ew5, eb5, w3.mono (by decide), hgB.mono (by decide), ?_⟩
      rw [hlt]
      walk_at "z"

      refine Z.ite (fun h1 => ?_) (fun h1 => ?_)
      · have eF5 := k5.get nin0 eF
        walk_at "z"
        refine ⟨Z.tyL eF5, ?_⟩
        walk_at "z"
        refine Z.iC (mul_ok (n := 10) (by omega) (by omega)) ?_
        walk_at "z"
        refine Z.tupK (fun s H6 ns k6 e6 => ?_)
        walk_at "z"
        refine ⟨b, w, g, wF x.2, rfl, eb5.kp0 k6, ew5.kp0 k6, hgL.ne, by omega, hgB.mono (by decide), w3.mono (by decide), fun H7 c7 n7 k7 e7 => ?_⟩
        walk_at "z"
        refine ⟨c7, w, _, wF x.2, rfl, e7, (ew5.kp0 k6).kp0 k7, by omega, m2.mono (by decide), w3.mono (by decide), fun z => absurd z (by omega), fun _ H8 c8 n8 k8 e8 => ?_⟩
        walk_at "z"
        refine ⟨s, c8, (amt kvs x.2.k * amt kvs x.2.k, 1), _, rfl, ((show FrAt K H6 s (amt kvs x.2.k * amt kvs x.2.k, 1) from tupT e6).kp0 k7).kp0 k8, e8, by show (1 : Int) ≠ 0; decide, by omega, a1.mono (by decide), v2.mono (by decide), fun H9 c9 n9 k9 e9 => ?_⟩
        have k69 := ((k6.trans k7).trans k8).trans k9
        have eF9 := k69.get nin0 eF5
        walk_at "z"
        refine Z.app eF9 (Z.szl (m := 1000) (by rw [List.length_map, FF.len]; omega)) ?_
        have eF10 : upd H9 F (.lst (as.map V.ref ++ [V.ref c9])) F = some (.lst ((as ++ [c9]).map V.ref)) := by rw [upd_same, List.map_append]; rfl
        have k10 : Kp [F] H9 (upd H9 F (.lst (as.map V.ref ++ [V.ref c9]))) := Kp.put (by simp)
        generalize upd H9 F (.lst (as.map V.ref ++ [V.ref c9])) = H10 at eF10 k10 ⊢
        walk_at "z"
        refine ⟨_, _, _, as ++ [c9], fs ++ [kF kvs g x], rfl, ((k4.trans k5).trans k69).then1 k10 nF, eF10, ((((FF.kp0 k5).kp0 k69).snoc e9).kpl k10 eF9), by rw [List.length_append]; show fs.length + 1 ≤ i + 1; omega, mem_append_one hfB ⟨p1, p2⟩, ?_⟩
        rw [List.take_add_one, hx]
        show _ = kopR kvs (rv g) (ps.take i ++ [x])
        rw [kopR_snoc, ← hsum, if_pos h1, List.map_append, List.sum_append]
        show _ + (rv (kF kvs g x) + 0) = _
        rw [p3]
        grind
      · walk_at "z"
        refine ⟨_, _, _, as, fs, rfl, k4.trans k5, k5.get nin0 eF, FF.kp0 k5, by omega, hfB, ?_⟩
        rw [List.take_add_one, hx]
        show _ = kopR kvs (rv g) (ps.take i ++ [x])
        rw [kopR_snoc, ← hsum, if_neg h1]
        grind
    · rintro σ' H4 ⟨y5, y6, y7, as, fs, rfl, k4, eF, FF, hlen, hfB, hsum⟩
      rw [refs_len] at hlen
      rw [refs_len, List.take_length] at hsum
      walk_at "z"
      refine ⟨(105, 6), ⟨by decide, by decide⟩, F, as, fs, rfl, lstL eF, FF, fun f hf => ⟨(hfB f hf).2, by have := (hfB f hf).1; omega⟩, by omega, fun H5 c5 k5 e5 => ?_⟩
      have hs := rv_fsum (fs := fs) low_zero fun f hf => by have := (hfB f hf).1; omega
      refine q H5 c5 _ (rv g) ((k12.trans k4).trans k5) e5 hs.2 hgT' ?_
      rw [hs.1, rv_zero, hsum]
      grind

/-! ### the law's own: amounts, true sums -/
theorem valV_putK {kvs : List (Key × V)} {k : Key} {v : V} (k' : Key) : valV (putK kvs k v) k' = if k' = k then some v else valV kvs k' := by
  rw [valV_put]
theorem AmtOk.put {kvs : List (Key × V)} (h : AmtOk kvs) {s : Str} {n : Int} (hn : n.natAbs ≤ 10) : AmtOk (putK kvs (.inr s) (.int n)) := by
  intro k v e
  rw [valV_putK] at e
  split at e
  · cases e
    exact ⟨n, rfl, hn⟩
  · exact h k v e
theorem putK_le9 {κ : Type} [DecidableEq κ] (kvs : List (κ × V)) (k : κ) (v : V) : (putK kvs k v).length ≤ kvs.length + 1 := by
  unfold putK
  split
  · rw [List.length_map]; omega
  · rw [List.length_append]; simp
def AmtN (kvs : List (Key × V)) : Prop := (kvs.map (·.1)).Nodup ∧ ∀ p ∈ kvs, ∃ n : Int, p.2 = .int n
theorem AmtN.put {kvs : List (Key × V)} (h : AmtN kvs) (k : Key) (n : Int) : AmtN (putK kvs k (.int n)) := by
  unfold putK
  split
  · refine ⟨?_, fun p hp => ?_⟩
    · have e : (kvs.map fun kv => if kv.1 = k then (kv.1, V.int n) else kv).map (·.1) = kvs.map (·.1) := by
        rw [List.map_map]
        refine List.map_congr_left fun kv _ => ?_
        simp only [Function.comp_apply]
        split <;> rfl
      rw [e]
      exact h.1
    · obtain ⟨kv, hkv, rfl⟩ := List.mem_map.mp hp
      split
      · exact ⟨n, rfl⟩
      · exact h.2 kv hkv
  · rename_i hn
    refine ⟨?_, mem_append_one h.2 ⟨n, rfl⟩⟩
    rw [List.map_append]
    refine List.nodup_append.mpr ⟨h.1, by simp, fun a ha b hb => ?_⟩
    obtain ⟨kv, hkv, rfl⟩ := List.mem_map.mp ha
    rw [show b = k by simpa using hb]
    intro z
    exact hn (List.any_eq_true.mpr ⟨kv, hkv, by simpa using z⟩)
def spAmounts (K : PySem.W.Frag) : Sp := fun vs H Q _ => ∃ (a l : Addr) (ps : List (Addr × Row)), vs = [.ref a, .ref l] ∧ DrawsAt H a ∧ H l = some (.lst (refs ps)) ∧ RowsAt H ps ∧ l ≠ a ∧ ps.length ≤ 10 ∧ ∀ H' d kvs, H d = none → Kp [a] H H' → DrawsAt H' a → H' d = some (.dK kvs) → AmtOk kvs → AmtN kvs → kvs.length ≤ 11 → Q (.ref d) H'
theorem ok__law_amounts {P : Program} {w : World} {K : PySem.W.Frag} {mg : Str → Option Value} {base : Heap} (T : T P K mg base) : FnOk P w K mg base CX0 2 T.a__law_amounts T.fd__law_amounts ["row", "things"] (spAmounts K) := by
  refine T.F__law_amounts.ok sc__law_amounts (fun vs H Q E h => ?_) (fun cdv A outer s H vs Q E hr h => ?_)
  · obtain ⟨a, l, ps, rfl, _⟩ := h
    rfl
  · obtain ⟨a, l, ps, rfl, hd, hl, hps, nla, hn, q⟩ := h
    refine ⟨_, (pss_cons (ps_set (i := 2) sc__law_amounts.nd rfl (by first | exact Or.inl rfl | exact Or.inr rfl) (pe_disp (pps_cons pe_str pe_int pps_nil) (by rfl) (by rfl) (fun z => by cases z) (by decide)))
      (pss_cons (ps_for PassesOwn.never rfl (pi_list (pv 1)) (pg_name (i := 3) sc__law_amounts.nd rfl (by first | exact Or.inl rfl | exact Or.inr rfl)) (pss_one (ps_if (pt_cmpR op_gt (pe_call (ok__law_take T) (hr.mono (by decide)) (by rfl) T.g__law_take T.F__law_take.kp T.b__law_take .nil pass0 (pa_cons (pv 0) (pa_cons pe_int pa_nil))) pe_int (nomark _)) (pss_one (ps_dput (hu_of hr) (pv 2) (pe_ix ix_tup (pv 3) pe_int (fun _ _ => rfl)) (pe_op op_sub (pe_call (ok__law_take T) (hr.mono (by decide)) (by rfl) T.g__law_take T.F__law_take.kp T.b__law_take .nil pass0 (pa_cons (pv 0) (pa_cons pe_int pa_nil))) pe_int) rfl)) pss_nil)))
      (pss_one (ps_ret (pv 2))))), ?_⟩
    walk_at "z0"
    walk_at "z"
    intro p np
    walk_at "z"
    dsimp only [tPairs]
    walk_at "z"
    refine ⟨upd_same, [(.inr "other", .int 5)], rfl, by decide, ?_⟩
    rw [upd_upd]
    have e1 : upd H p (.dK (mergeK [] [((.inr "other" : Key), V.int 5)])) p = some (.dK (mergeK [] [((.inr "other" : Key), V.int 5)])) := upd_same
    have k1 : Kp [] H (upd H p (.dK (mergeK [] [((.inr "other" : Key), V.int 5)]))) := Kp.new np
    have ho1 : AmtOk (mergeK [] [((.inr "other" : Key), V.int 5)]) := AmtOk.put (kvs := []) (fun k v e => by cases e) (by decide)
    have hN1 : AmtN (mergeK [] [((.inr "other" : Key), V.int 5)]) := AmtN.put (kvs := []) ⟨by simp, fun p hp => by cases hp⟩ _ _
    have hl1 : (mergeK [] [((.inr "other" : Key), V.int 5)]).length ≤ 1 := by decide
    generalize mergeK [] [((.inr "other" : Key), V.int 5)] = kv1 at e1 k1 ho1 hN1 hl1 ⊢
    generalize upd H p (.dK kv1) = H1 at e1 k1 ⊢
    have nap : a ≠ p := hd.ne np
    have nlp : l ≠ p := ne_of_none hl np
    walk_at "z"
    refine Z.forl (refs ps) (lstL (k1.get nin0 hl)) (fun i σ' H' => ∃ y kvs, σ' = [some (.ref a), some (.ref l), some (.ref p), y] ∧ Kp [a] H H' ∧ DrawsAt H' a ∧ H' p = some (.dK kvs) ∧ AmtOk kvs ∧ AmtN kvs ∧ kvs.length ≤ 1 + i) ⟨_, kv1, rfl, k1.sub (by simp), hd.kp0 k1, e1, ho1, hN1, by omega⟩ ?_ ?_ ?_
    · rintro i σ' H' hi ⟨y, kvs, rfl, k2, d2, e2, ho2, hN2, hl2⟩
      exact lstL (k2.get (nin1 nla) hl)
    · rintro i v σ' H2 hv ⟨y, kvs, rfl, k2, d2, e2, ho2, hN2, hl2⟩
      obtain ⟨x, hx, rfl⟩ := refs_of hv
      have hi : i < ps.length := (List.getElem?_eq_some_iff.mp hx).1
      walk_at "z"
      refine ⟨a, 5, rfl, d2, by decide, by decide, fun H3 v3 hv30 hv31 k3 d3 => ?_⟩
      have e3 := k3.get (nin1 nap.symm) e2
      walk_at "z"
      refine Z.ite (fun h1 => ?_) (fun h1 => ?_)
      · walk_at "z"
        refine ⟨a, 21, rfl, d3, by decide, by decide, fun H4 v4 hv40 hv41 k4 d4 => ?_⟩
        have e4 := k4.get (nin1 nap.symm) e3
        have r4 := ((hps.kpd (k2.trans k3) hd).kpd k4 d3) x (List.mem_of_getElem? hx)
        walk_at "z"
        refine RowAt.k0 r4 ?_
        refine ⟨p, _, rfl, DPut.k (k := .inr x.2.k) e4 (by have : 100000 ≤ sizeLine := (by decide); omega), ?_⟩
        walk_at "z"
        have hp := putK_le9 kvs (.inr x.2.k) (.int (v4 - 10))
        exact ⟨_, _, rfl, ((k2.trans k3).trans k4).mut np rfl, d4.put nap, upd_same, ho2.put (by omega), hN2.put _ _, by omega⟩
      · walk_at "z"
        exact ⟨_, kvs, rfl, k2.trans k3, d3, e3, ho2, hN2, by omega⟩
    · rintro σ' H' ⟨y, kvs, rfl, k2, d2, e2, ho2, hN2, hl2⟩
      walk_at "z"
      exact q H' p kvs np k2 d2 e2 ho2 hN2 (by rw [refs_len] at hl2; omega)
def spLTrue (K : PySem.W.Frag) : Sp := spTrueSum K
theorem ok__law_true {P : Program} {w : World} {K : PySem.W.Frag} {mg : Str → Option Value} {base : Heap} (T : T P K mg base) : FnOk P w K mg base CX0 1 T.a__law_true T.fd__law_true ["things", "amounts"] (spLTrue K) := by
  refine T.F__law_true.ok sc__law_true (fun vs H Q E h => ?_) (fun cdv A outer s H vs Q E hr h => ?_)
  · obtain ⟨l, d, ps, kvs, rfl, _⟩ := h
    rfl
  · obtain ⟨l, d, ps, kvs, rfl, hl, hps, hn, hd, ho, q⟩ := h
    refine ⟨_, (pss_one (ps_ret (pe_callB (cr_sum rfl) (by rfl) T.z_sum (by decide +kernel) (pa_cons (pe_lc (own := [("item", 2)]) (g := gName 2) rfl sc__law_true.nd (pi_list (pv 0)) (blkOk_by (own := [("item", 2)]) (N := N__law_true) (sc := defScope s__law_true) (by decide +kernel)) (fun _ _ _ _ _ => (pg_name (i := 2) sc__law_true.nd rfl (by first | exact Or.inl rfl | exact Or.inr rfl))) (fun _ _ _ _ _ => pts_nil) (fun _ _ _ _ _ => (pe_dget2 (Nat.lt_of_le_of_lt (Nat.add_le_add_left (by decide) _) (hu_of hr)) (pv 1) (pe_ix (ix_tup : IxR _ (rIxT K)) (pv 2) pe_int (fun _ _ => rfl)) pe_int ⟨by rfl, by rfl, by rfl, by rfl⟩))) pa_nil)))), ?_⟩
    walk_at "z0"
    walk_at "z"
    refine Z.lcl (refs ps) (lstL hl) (fun D i H' => Kp [] H H' ∧ H' D = some (.lst ((amts kvs (ps.take i)).map V.int))) ?_ ?_ ?_ ?_
    · intro D H1 nD k1 e1
      exact ⟨k1, e1⟩
    · rintro D i H1 nD hi ⟨k1, e1⟩
      exact lstL (k1.get nin0 hl)
    · rintro D i v H1 nD hv ⟨k1, e1⟩
      obtain ⟨x, hx, rfl⟩ := refs_of hv
      have hi : i < ps.length := (List.getElem?_eq_some_iff.mp hx).1
      dsimp only [wipe, List.set]
      walk_at "z"
      refine ⟨rfl, ?_⟩
      walk_at "z"
      refine ⟨d, rfl, .inl ⟨kvs, .inl (k1.get nin0 hd)⟩, ?_⟩
      walk_at "z"
      refine RowAt.k0 ((hps.kp0 k1) x (List.mem_of_getElem? hx)) ?_
      walk_at "z"
      refine ⟨_, DGet.k (k := .inr x.2.k) (k1.get nin0 hd), ?_⟩
      rw [getD_amt ho]
      refine ⟨_, e1, Z.szl (m := 1000) (by unfold amts; rw [List.length_map, List.length_map, List.length_take]; omega), k1.mut nD rfl, ?_⟩
      rw [upd_same, List.take_add_one, hx]
      unfold amts
      rw [List.map_append, List.map_append]; rfl
    · rintro D H1 nD ⟨k1, e1⟩
      rw [refs_len, List.take_length] at e1
      walk_at "z"
      refine Z.sumL (lstL e1) ?_
      exact q H1 k1

theorem castNe {n : Nat} (h : 1 ≤ n) : (n : Rat) ≠ 0 := by
  have : (0 : Rat) < (n : Rat) := by exact_mod_cast h
  grind
/-! ### common denominators -/
def DenB (D n : Nat) (x : Rat) : Prop := ∃ z : Int, x * (D : Rat) = (z : Rat) ∧ z.natAbs ≤ 2 ^ n
theorem DenB.mono {D n m : Nat} {x : Rat} (h : DenB D n x) (l : n ≤ m) : DenB D m x := let ⟨z, h1, h2⟩ := h; ⟨z, h1, Nat.le_trans h2 (Nat.pow_le_pow_right (by decide) l)⟩
theorem DenB.add {D n : Nat} {x y : Rat} (h : DenB D n x) (g : DenB D n y) : DenB D (n + 1) (x + y) := by
  obtain ⟨z, h1, h2⟩ := h
  obtain ⟨t, g1, g2⟩ := g
  refine ⟨z + t, ?_, ?_⟩
  · have e : ((z + t : Int) : Rat) = (z : Rat) + (t : Rat) := by exact_mod_cast rfl
    rw [e, ← h1, ← g1]; grind
  · rw [Nat.pow_succ]; omega
theorem DenB.neg {D n : Nat} {x : Rat} (h : DenB D n x) : DenB D n (-x) := by
  obtain ⟨z, h1, h2⟩ := h
  refine ⟨-z, ?_, by omega⟩
  have e : ((-z : Int) : Rat) = -(z : Rat) := by exact_mod_cast rfl
  rw [e, ← h1]; grind
theorem DenB.sub {D n : Nat} {x y : Rat} (h : DenB D n x) (g : DenB D n y) : DenB D (n + 1) (x - y) := by
  have := h.add g.neg
  rw [show x - y = x + -y by grind]
  exact this
theorem DenB.mul {D E n m : Nat} {x y : Rat} (h : DenB D n x) (g : DenB E m y) : DenB (D * E) (n + m) (x * y) := by
  obtain ⟨z, h1, h2⟩ := h
  obtain ⟨t, g1, g2⟩ := g
  refine ⟨z * t, ?_, ?_⟩
  · have e : ((z * t : Int) : Rat) = (z : Rat) * (t : Rat) := by exact_mod_cast rfl
    have e2 : ((D * E : Nat) : Rat) = (D : Rat) * (E : Rat) := by exact_mod_cast rfl
    rw [e, e2, ← h1, ← g1]; grind
  · rw [Int.natAbs_mul, Nat.pow_add]
    exact Nat.mul_le_mul h2 g2
theorem DenB.int {D d n : Nat} {z : Int} (hD : D ≤ 2 ^ d) (h : z.natAbs ≤ 2 ^ n) : DenB D (n + d) (z : Rat) := by
  refine ⟨z * (D : Int), by exact_mod_cast rfl, ?_⟩
  rw [Int.natAbs_mul, Int.natAbs_natCast, Nat.pow_add]
  exact Nat.mul_le_mul h hD
theorem DenB.up {D E n e : Nat} {x : Rat} (h : DenB D n x) (hE : E ≤ 2 ^ e) : DenB (D * E) (n + e) x := by
  obtain ⟨z, h1, h2⟩ := h
  refine ⟨z * (E : Int), ?_, ?_⟩
  · have e : ((z * (E : Int) : Int) : Rat) = (z : Rat) * (E : Rat) := by exact_mod_cast rfl
    have e2 : ((D * E : Nat) : Rat) = (D : Rat) * (E : Rat) := by exact_mod_cast rfl
    rw [e, e2, ← h1]; grind
  · rw [Int.natAbs_mul, Int.natAbs_natCast, Nat.pow_add]
    exact Nat.mul_le_mul h2 hE
theorem DenB.div6 {D n k : Nat} {x : Rat} (h : DenB D n x) (hk : k = 1 ∨ k = 2 ∨ k = 3 ∨ k = 6) : DenB (D * 6) (n + 3) (x / (k : Rat)) := by
  obtain ⟨z, h1, h2⟩ := h
  obtain ⟨q, hq, hq6⟩ : ∃ q : Nat, k * q = 6 ∧ q ≤ 6 := by
    rcases hk with rfl | rfl | rfl | rfl
    · exact ⟨6, rfl, by decide⟩
    · exact ⟨3, rfl, by decide⟩
    · exact ⟨2, rfl, by decide⟩
    · exact ⟨1, rfl, by decide⟩
  refine ⟨z * (q : Int), ?_, ?_⟩
  · have e : ((z * (q : Int) : Int) : Rat) = (z : Rat) * (q : Rat) := by exact_mod_cast rfl
    have e2 : ((D * 6 : Nat) : Rat) = (D : Rat) * ((k : Rat) * (q : Rat)) := by rw [← hq]; exact_mod_cast rfl
    have hk0 := castNe (n := k) (by omega)
    rw [e, e2, ← h1]; grind
  · rw [Int.natAbs_mul, Int.natAbs_natCast, Nat.pow_add]
    exact Nat.mul_le_mul h2 (Nat.le_trans hq6 (by decide))
theorem DenB.sum3 {D n : Nat} : ∀ {l : List Rat}, l.length ≤ 3 → (∀ x ∈ l, DenB D n x) → DenB D (n + 2) l.sum
  | [], _, _ => ⟨0, by show (0 : Rat) * _ = ((0 : Int) : Rat); grind, by simp⟩
  | [a], _, h => by
    rw [show [a].sum = a by show a + 0 = a; grind]
    exact (h a (by simp)).mono (by omega)
  | [a, b], _, h => by
    rw [show [a, b].sum = a + b by show a + (b + 0) = a + b; grind]
    exact ((h a (by simp)).add (h b (by simp))).mono (by omega)
  | [a, b, c], _, h => by
    rw [show [a, b, c].sum = (a + b) + c by show a + (b + (c + 0)) = _; grind]
    exact ((h a (by simp)).add (h b (by simp))).add ((h c (by simp)).mono (by omega))
  | _ :: _ :: _ :: _ :: r, h, _ => by simp at h
theorem DenB.sumN {D n : Nat} : ∀ {l : List Rat}, (∀ x ∈ l, DenB D n x) → ∃ z : Int, l.sum * (D : Rat) = (z : Rat) ∧ z.natAbs ≤ l.length * 2 ^ n
  | [], _ => ⟨0, by show (0 : Rat) * _ = ((0 : Int) : Rat); grind, by simp⟩
  | a :: r, h => by
    obtain ⟨z, h1, h2⟩ := h a (by simp)
    obtain ⟨t, g1, g2⟩ := DenB.sumN (l := r) fun x hx => h x (by simp [hx])
    refine ⟨z + t, ?_, ?_⟩
    · have e : ((z + t : Int) : Rat) = (z : Rat) + (t : Rat) := by exact_mod_cast rfl
      rw [List.sum_cons, e, ← h1, ← g1]; grind
    · rw [List.length_cons, Nat.add_mul]; omega
theorem DenB.sum64 {D n : Nat} {l : List Rat} (hl : l.length ≤ 64) (h : ∀ x ∈ l, DenB D n x) : DenB D (n + 6) l.sum := by
  obtain ⟨z, h1, h2⟩ := DenB.sumN h
  refine ⟨z, h1, Nat.le_trans h2 ?_⟩
  rw [Nat.pow_add, Nat.mul_comm]
  exact Nat.mul_le_mul (Nat.le_refl _) (Nat.le_trans hl (by decide))
/-- what a common denominator says of a fraction in lowest terms -/
theorem den_B {D n d k : Nat} {f : Fr} (hL : Low f) (h : DenB D n (rv f)) (hD1 : 1 ≤ D) (hD : D ≤ 2 ^ d) (hd : d < k) (hn : n < k) : FrB k f := by
  obtain ⟨z, h1, h2⟩ := h
  obtain ⟨p, q⟩ := f
  have hq1 : 1 ≤ q := hL.1
  have hco : Nat.gcd p.natAbs q.natAbs = 1 := hL.2
  have hq0 : (q : Rat) ≠ 0 := ratNe (by omega)
  have e : p * (D : Int) = z * q := by
    have : (p : Rat) * (D : Rat) = (z : Rat) * (q : Rat) := by
      rw [← h1]; unfold rv; grind
    exact_mod_cast this
  have e2 : p.natAbs * D = z.natAbs * q.natAbs := by
    have := congrArg Int.natAbs e
    rwa [Int.natAbs_mul, Int.natAbs_mul, Int.natAbs_natCast] at this
  have hdv : q.natAbs ∣ D := by
    have h3 : q.natAbs ∣ p.natAbs * D := ⟨z.natAbs, by rw [e2, Nat.mul_comm]⟩
    exact Nat.Coprime.dvd_of_dvd_mul_left (show Nat.Coprime q.natAbs p.natAbs from (Nat.gcd_comm _ _).trans hco) h3
  obtain ⟨c, hc⟩ := hdv
  have hc1 : 1 ≤ c := by
    rcases Nat.eq_zero_or_pos c with z | z
    · rw [z] at hc; omega
    · exact z
  have hp : p.natAbs ≤ z.natAbs := by
    rw [hc, ← Nat.mul_assoc, Nat.mul_right_comm] at e2
    have h5 : p.natAbs * c = z.natAbs := Nat.eq_of_mul_eq_mul_right (show 0 < q.natAbs by omega) e2
    rw [← h5]
    exact Nat.le_mul_of_pos_right _ hc1
  have hq : q.natAbs ≤ D := Nat.le_of_dvd hD1 ⟨c, hc⟩
  exact ⟨Nat.lt_of_le_of_lt hp (Nat.lt_of_le_of_lt h2 (Nat.pow_lt_pow_right (by decide) hn)), Nat.lt_of_le_of_lt hq (Nat.lt_of_le_of_lt hD (Nat.pow_lt_pow_right (by decide) hd))⟩
/-! products of a list -/
def prodN : List Nat → Nat
  | [] => 1
  | x :: r => x * prodN r
theorem prodN_le {b : Nat} : ∀ {l : List Nat}, (∀ x ∈ l, 1 ≤ x ∧ x ≤ 2 ^ b) → 1 ≤ prodN l ∧ prodN l ≤ 2 ^ (b * l.length)
  | [], _ => by simp [prodN]
  | x :: r, h => by
    have h1 := h x (by simp)
    have h2 := prodN_le (l := r) fun z hz => h z (by simp [hz])
    refine ⟨Nat.mul_le_mul h1.1 h2.1, ?_⟩
    show x * prodN r ≤ _
    rw [List.length_cons, Nat.mul_add, Nat.mul_one, Nat.add_comm, Nat.pow_add]
    exact Nat.mul_le_mul h1.2 h2.2
theorem prodN_mem : ∀ {l : List Nat} {x : Nat}, x ∈ l → ∃ c, prodN l = x * c
  | [], _, h => by cases h
  | y :: r, x, h => by
    rcases List.mem_cons.mp h with rfl | h
    · exact ⟨prodN r, rfl⟩
    · obtain ⟨c, hc⟩ := prodN_mem h
      exact ⟨y * c, by show y * prodN r = _; rw [hc]; exact Nat.mul_left_comm _ _ _⟩
/-- p / x, where x divides D -/
theorem den_frac {D d n : Nat} {p x : Int} {c : Nat} (hx : 1 ≤ x) (hD : D = x.natAbs * c) (hD1 : 1 ≤ D) (hDd : D ≤ 2 ^ d) (hp : p.natAbs ≤ 2 ^ n) : DenB D (n + d) ((p : Rat) / (x : Rat)) := by
  refine ⟨p * (c : Int), ?_, ?_⟩
  · have e : ((p * (c : Int) : Int) : Rat) = (p : Rat) * (c : Rat) := by exact_mod_cast rfl
    have hx0 : (x : Rat) ≠ 0 := ratNe (by omega)
    have e2 : (D : Rat) = (x : Rat) * (c : Rat) := by
      have : (D : Int) = x * (c : Int) := by
        rw [hD, Int.natCast_mul]
        congr 1
        omega
      exact_mod_cast this
    rw [e, e2]; grind
  · rw [Int.natAbs_mul, Int.natAbs_natCast, Nat.pow_add]
    refine Nat.mul_le_mul hp (Nat.le_trans ?_ hDd)
    rw [hD]
    exact Nat.le_mul_of_pos_left _ (by omega)

/-! sums with told bounds -/
def spLawSumG (K : PySem.W.Frag) : Sp := fun vs H Q _ => ∃ (a : Addr) (as : List Addr) (fs : List Fr), vs = [.ref a] ∧ SqL K H a (as.map V.ref) ∧ FrsAt K H as fs ∧ (∀ f ∈ fs, 1 ≤ f.2 ∧ FrB 900 f) ∧ (∀ i, FrB 900 (fsum (0, 1) (fs.take i))) ∧ ∀ H' c, Kp [] H H' → FrAt K H' c (fsum (0, 1) fs) → Q (.ref c) H'
theorem ok__law_sum {P : Program} {w : World} {K : PySem.W.Frag} {mg : Str → Option Value} {base : Heap} (T : T P K mg base) : FnOk P w K mg base CX0 3 T.a__law_sum T.fd__law_sum ["rows"] (spLawSumG K) := by
  refine T.F__law_sum.ok sc__law_sum (fun vs H Q E h => ?_) (fun cdv A outer s H vs Q E hr h => ?_)
  · obtain ⟨a, as, fs, rfl, _⟩ := h
    rfl
  · obtain ⟨a, as, fs, rfl, hS, hF, hB, hP, q⟩ := h
    refine ⟨_, (pss_cons (ps_set (i := 1) sc__law_sum.nd rfl (by first | exact Or.inl rfl | exact Or.inr rfl) (pe_tup (pa_cons pe_int (pa_cons pe_int pa_nil))))
      (pss_cons (ps_for PassesOwn.never rfl (pi_list (pv 0)) (pg_name (i := 2) sc__law_sum.nd rfl (by first | exact Or.inl rfl | exact Or.inr rfl)) (pss_one (ps_set (i := 1) sc__law_sum.nd rfl (by first | exact Or.inl rfl | exact Or.inr rfl) (pe_call (ok__law_plus T) (hr.mono (by decide)) (by rfl) T.g__law_plus T.F__law_plus.kp T.b__law_plus .nil pass0 (pa_cons (pv 1) (pa_cons (pv 2) pa_nil))))))
      (pss_one (ps_ret (pv 1))))), ?_⟩
    walk_at "z0"
    walk_at "z"
    refine Z.tupK (fun b H1 nb k1 e1 => ?_)
    walk_at "z"
    refine Z.forl (as.map V.ref) (k1.seq nin0 hS) (fun i σ' H' => ∃ c y, σ' = [some (.ref a), some (.ref c), y] ∧ Kp [] H H' ∧ FrAt K H' c (fsum (0, 1) (fs.take i))) ?_ ?_ ?_ ?_
    · exact ⟨b, none, rfl, k1, tupT e1⟩
    · rintro i σ' H' _ ⟨c, y, rfl, k2, _⟩
      exact k2.seq nin0 hS
    · rintro i v σ' H' hv ⟨c, y, rfl, k2, e2⟩
      obtain ⟨x, f, rfl, hf, hx⟩ := (hF.kp0 k2).get hv
      have hfB := hB f (List.mem_of_getElem? hf)
      have hlow := rv_fsum (fs := fs.take i) low_zero fun g hg => by have := (hB g (List.mem_of_mem_take hg)).1; omega
      walk_at "z"
      refine ⟨c, x, _, f, rfl, e2, hx, hlow.2.1, hfB.1, ⟨900, 900, hP i, hfB.2, by decide⟩, fun H3 d nd k3 e3 => ?_⟩
      walk_at "z"
      exact ⟨d, _, rfl, k2.trans k3, by rw [fsum_take hf]; exact e3⟩
    · rintro σ' H' ⟨c, y, rfl, k2, e2⟩
      walk_at "z"
      rw [List.length_map, hF.len, List.take_length] at e2
      exact q _ _ k2 e2

/-! ### moments, each with its chance -/
def PrAt (K : PySem.W.Frag) (H : Hp) (t : Addr) (p : Fr × Fr) : Prop := ∃ e d, H t = some (.tup [.ref e, .ref d]) ∧ FrAt K H e p.1 ∧ FrAt K H d p.2
theorem PrAt.kp0 {K : PySem.W.Frag} {H H' : Hp} {t : Addr} {p : Fr × Fr} (h : PrAt K H t p) (k : Kp [] H H') : PrAt K H' t p := let ⟨e, d, h1, h2, h3⟩ := h; ⟨e, d, k.get nin0 h1, h2.kp0 k, h3.kp0 k⟩
theorem PrAt.kpl {K : PySem.W.Frag} {H H' : Hp} {t l : Addr} {p : Fr × Fr} {xs : List V} (h : PrAt K H t p) (k : Kp [l] H H') (el : H l = some (.lst xs)) : PrAt K H' t p :=
  let ⟨e, d, h1, h2, h3⟩ := h
  ⟨e, d, k.get (nin1 fun z => by rw [z, el] at h1; cases h1) h1, h2.kpl k el, h3.kpl k el⟩
def PrsAt (K : PySem.W.Frag) (H : Hp) (ts : List Addr) (fs : List (Fr × Fr)) : Prop := Paired (fun t p => PrAt K H t p) ts fs
theorem PrsAt.kp0 {K : PySem.W.Frag} {H H' : Hp} {ts : List Addr} {fs : List (Fr × Fr)} (h : PrsAt K H ts fs) (k : Kp [] H H') : PrsAt K H' ts fs := by
  induction h with
  | nil => exact .nil
  | cons r t ih => exact .cons (PrAt.kp0 r k) ih
theorem PrsAt.kpl {K : PySem.W.Frag} {H H' : Hp} {ts : List Addr} {l : Addr} {fs : List (Fr × Fr)} {xs : List V} (h : PrsAt K H ts fs) (k : Kp [l] H H') (el : H l = some (.lst xs)) : PrsAt K H' ts fs := by
  induction h with
  | nil => exact .nil
  | cons r t ih => exact .cons (PrAt.kpl r k el) ih
theorem PrsAt.len {K : PySem.W.Frag} {H : Hp} {ts : List Addr} {fs : List (Fr × Fr)} (h : PrsAt K H ts fs) : ts.length = fs.length := Paired.length h
theorem PrsAt.snoc {K : PySem.W.Frag} {H : Hp} {ts : List Addr} {fs : List (Fr × Fr)} {t : Addr} {p : Fr × Fr} (h : PrsAt K H ts fs) (r : PrAt K H t p) : PrsAt K H (ts ++ [t]) (fs ++ [p]) := by
  induction h with
  | nil => exact .cons r .nil
  | cons r t ih => exact .cons r ih
theorem PrsAt.get {K : PySem.W.Frag} {H : Hp} : ∀ {ts : List Addr} {fs : List (Fr × Fr)} {i : Nat} {v : V}, PrsAt K H ts fs → (ts.map V.ref)[i]? = some v → ∃ t p, v = .ref t ∧ fs[i]? = some p ∧ PrAt K H t p
  | _, _, i, v, .nil, h => by simp at h
  | _, _, 0, v, .cons r t, h => by
    simp at h
    exact ⟨_, _, h.symm, rfl, r⟩
  | _, _, i + 1, v, .cons r t, h => by
    obtain ⟨a, f, e1, e2, e3⟩ := PrsAt.get (i := i) t (by simpa using h)
    exact ⟨a, f, e1, by simpa using e2, e3⟩
def spreadP (M : Rat) (fs : List (Fr × Fr)) : Rat := (fs.map fun p => rv p.2 * ((rv p.1 - M) * (rv p.1 - M))).sum
theorem spreadP_take {M : Rat} {fs : List (Fr × Fr)} {i : Nat} {p : Fr × Fr} (h : fs[i]? = some p) : spreadP M (fs.take (i + 1)) = spreadP M (fs.take i) + rv p.2 * ((rv p.1 - M) * (rv p.1 - M)) := by
  unfold spreadP
  rw [List.take_add_one, h, List.map_append, List.sum_append]
  show _ + (rv p.2 * ((rv p.1 - M) * (rv p.1 - M)) + 0) = _
  grind
def spMoments (K : PySem.W.Frag) : Sp := fun vs H Q _ => ∃ (l : Addr) (ts : List Addr) (fs : List (Fr × Fr)) (M : Int), vs = [.ref l] ∧ H l = some (.lst (ts.map V.ref)) ∧ PrsAt K H ts fs ∧ (∀ p ∈ fs, 1 ≤ p.1.2 ∧ FrB 200 p.1 ∧ 1 ≤ p.2.2 ∧ FrB 100 p.2) ∧ fs.length ≤ 60 ∧ M.natAbs ≤ 60 ∧
  (∀ i, FrB 900 (fsum (0, 1) ((fs.map fun p => ftimes p.1 p.2).take i))) ∧ (∀ i g, Low g → rv g = spreadP (M : Rat) (fs.take i) → FrB 900 g) ∧ (fs.map fun p => rv p.1 * rv p.2).sum = (M : Rat) ∧
  ∀ H' t m s g, Kp [] H H' → H' t = some (.tup [.ref m, .ref s]) → FrAt K H' m (M, 1) → FrAt K H' s g → Low g → rv g = spreadP (M : Rat) fs → Q (.ref t) H'
theorem ok__law_moments {P : Program} {w : World} {K : PySem.W.Frag} {mg : Str → Option Value} {base : Heap} (T : T P K mg base) : FnOk P w K mg base CX0 4 T.a__law_moments T.fd__law_moments ["rows"] (spMoments K) := by
  refine T.F__law_moments.ok sc__law_moments (fun vs H Q E h => ?_) (fun cdv A outer s H vs Q E hr h => ?_)
  · obtain ⟨l, ts, fs, M, rfl, _⟩ := h
    rfl
  · obtain ⟨l, ts, fs, M, rfl, hl, hP, hB, hn, hM, hpre, hsp, hmean, q⟩ := h
    refine ⟨_, (pss_cons (ps_set (i := 1) sc__law_moments.nd rfl (by first | exact Or.inl rfl | exact Or.inr rfl) (pe_call (ok__law_sum T) (hr.mono (by decide)) (by rfl) T.g__law_sum T.F__law_sum.kp T.b__law_sum .nil pass0 (pa_cons (pe_lc (own := [("number", 3), ("chance", 4)]) (g := gTup K 2 (gCons (gName 3) (gCons (gName 4) gNil))) rfl sc__law_moments.nd (pi_list (pv 0)) (blkOk_by (own := [("number", 3), ("chance", 4)]) (N := N__law_moments) (sc := defScope s__law_moments) (by decide +kernel)) (fun _ _ _ _ _ => (pg_tup rfl (pgs_cons (pg_name (i := 3) sc__law_moments.nd rfl (by first | exact Or.inl rfl | exact Or.inr rfl)) (pgs_cons (pg_name (i := 4) sc__law_moments.nd rfl (by first | exact Or.inl rfl | exact Or.inr rfl)) pgs_nil)))) (fun _ _ _ _ _ => pts_nil) (fun _ _ _ _ _ => (pe_call (ok__law_times T) (hr.mono (by decide)) (by rfl) T.g__law_times T.F__law_times.kp T.b__law_times .nil pass0 (pa_cons (pv 3) (pa_cons (pv 4) pa_nil))))) pa_nil)))
      (pss_cons (ps_set (i := 2) sc__law_moments.nd rfl (by first | exact Or.inl rfl | exact Or.inr rfl) (pe_tup (pa_cons pe_int (pa_cons pe_int pa_nil))))
      (pss_cons (ps_for PassesOwn.never rfl (pi_list (pv 0)) (pg_tup rfl (pgs_cons (pg_name (i := 3) sc__law_moments.nd rfl (by first | exact Or.inl rfl | exact Or.inr rfl)) (pgs_cons (pg_name (i := 4) sc__law_moments.nd rfl (by first | exact Or.inl rfl | exact Or.inr rfl)) pgs_nil))) (pss_cons (ps_set (i := 5) sc__law_moments.nd rfl (by first | exact Or.inl rfl | exact Or.inr rfl) (pe_call (ok__law_minus T) (hr.mono (by decide)) (by rfl) T.g__law_minus T.F__law_minus.kp T.b__law_minus .nil pass0 (pa_cons (pv 3) (pa_cons (pv 1) pa_nil))))
      (pss_one (ps_set (i := 2) sc__law_moments.nd rfl (by first | exact Or.inl rfl | exact Or.inr rfl) (pe_call (ok__law_plus T) (hr.mono (by decide)) (by rfl) T.g__law_plus T.F__law_plus.kp T.b__law_plus .nil pass0 (pa_cons (pv 2) (pa_cons (pe_call (ok__law_times T) (hr.mono (by decide)) (by rfl) T.g__law_times T.F__law_times.kp T.b__law_times .nil pass0 (pa_cons (pv 4) (pa_cons (pe_call (ok__law_times T) (hr.mono (by decide)) (by rfl) T.g__law_times T.F__law_times.kp T.b__law_times .nil pass0 (pa_cons (pv 5) (pa_cons (pv 5) pa_nil))) pa_nil))) pa_nil)))))))
      (pss_one (ps_ret (pe_tup (pa_cons (pv 1) (pa_cons (pv 2) pa_nil)))))))), ?_⟩
    walk_at "z0"
    walk_at "z"
    refine Z.lcl (ts.map V.ref) (lstL hl) (fun D i H' => ∃ as : List Addr, Kp [] H H' ∧ H' D = some (.lst (as.map V.ref)) ∧ FrsAt K H' as ((fs.take i).map fun p => ftimes p.1 p.2)) ?_ ?_ ?_ ?_
    · intro D H1 nD k1 e1
      exact ⟨[], k1, e1, .nil⟩
    · rintro D i H1 nD hi ⟨as, k1, e1, F1⟩
      exact lstL (k1.get nin0 hl)
    · rintro D i v H1 nD hv ⟨as, k1, e1, F1⟩
      obtain ⟨t, p, rfl, hf, e, d, ht, he, hd⟩ := (hP.kp0 k1).get hv
      have hi : i < fs.length := (List.getElem?_eq_some_iff.mp hf).1
      obtain ⟨b1, b2, b3, b4⟩ := hB p (List.mem_of_getElem? hf)
      dsimp only [wipe, List.set]
      refine Z.gtup (tupT ht) rfl ?_
      walk_at "z"
      refine ⟨rfl, ?_⟩
      walk_at "z"
      refine ⟨e, d, p.1, p.2, rfl, he, hd, b1, b3, ⟨200, 100, b2, b4, by decide⟩, fun H2 c2 n2 k2 e2 => ?_⟩
      have e2D := k2.get nin0 e1
      refine ⟨_, e2D, Z.szl (m := 1000) (by rw [List.length_map, F1.len, List.length_map, List.length_take]; omega), as ++ [c2], (k1.trans k2).mut nD rfl, by rw [upd_same, List.map_append]; rfl, ?_⟩
      rw [List.take_add_one, hf, List.map_append]
      exact ((F1.kp0 k2).snoc e2).kpl (Kp.put (by simp)) e2D
    · rintro D H1 nD ⟨as, k1, e1, F1⟩
      rw [List.length_map, hP.len, List.take_length] at F1
      have htB : ∀ z ∈ fs.map (fun p => ftimes p.1 p.2), 1 ≤ z.2 ∧ FrB 900 z := fun z hz => by
        obtain ⟨p, hp, rfl⟩ := List.mem_map.mp hz
        obtain ⟨b1, b2, b3, b4⟩ := hB p hp
        exact ⟨lo_pos (Int.mul_ne_zero (by omega) (by omega)), (ftimes_B (n := 200) (m := 100) b2 b4 (by omega) (by omega)).mono (by decide)⟩
      walk_at "z"
      refine ⟨D, as, _, rfl, lstL e1, F1, htB, hpre, fun H2 m k2 e2 => ?_⟩
      have hs := rv_fsum (fs := fs.map fun p => ftimes p.1 p.2) low_zero fun f hf => by have := (htB f hf).1; omega
      have hmid : fsum (0, 1) (fs.map fun p => ftimes p.1 p.2) = (M, 1) := by
        refine low_eq hs.2 ⟨show (1 : Int) ≤ 1 by decide, by simp⟩ ?_
        rw [hs.1, rv_zero, rv_int, List.map_map, ← hmean]
        have e9 : fs.map (rv ∘ fun p => ftimes p.1 p.2) = fs.map fun p => rv p.1 * rv p.2 := List.map_congr_left fun p hp => by
          obtain ⟨b1, b2, b3, b4⟩ := hB p hp
          simp only [Function.comp_apply]
          rw [rv_ftimes (by omega) (by omega)]
        rw [e9]
        grind
      rw [hmid] at e2
      have hmL : Low (M, 1) := ⟨show (1 : Int) ≤ 1 by decide, by simp⟩
      have hmB : FrB 6 (M, 1) := ⟨by show M.natAbs < 64; omega, by show 1 < 64; decide⟩
      have k12 := k1.trans k2
      walk_at "z"
      refine Z.tupK (fun z0 H3 nz k3 e3 => ?_)
      have k13 := k12.trans k3
      walk_at "z"
      refine Z.forl (ts.map V.ref) (lstL (k13.get nin0 hl)) (fun i σ' H' => ∃ (y3 y4 y5 : Option V) (s : Addr) (g : Fr), σ' = [some (.ref l), some (.ref m), some (.ref s), y3, y4, y5] ∧ Kp [] H3 H' ∧ FrAt K H' s g ∧ Low g ∧ rv g = spreadP (M : Rat) (fs.take i)) ?_ ?_ ?_ ?_
      · exact ⟨_, _, _, z0, (0, 1), rfl, Kp.refl _, tupT e3, low_zero, by rw [rv_zero]; rfl⟩
      · rintro i σ' H4 _ ⟨y3, y4, y5, s, g, rfl, k4, _⟩
        exact lstL ((k13.trans k4).get nin0 hl)
      · rintro i v σ' H4 hv ⟨y3, y4, y5, s, g, rfl, k4, e4, hgL, hg⟩
        have hgB := hsp i g hgL hg
        have k14 := k13.trans k4
        obtain ⟨t, p, rfl, hf, e, d, ht, he, hd⟩ := (hP.kp0 k14).get hv
        have hi : i < fs.length := (List.getElem?_eq_some_iff.mp hf).1
        obtain ⟨b1, b2, b3, b4⟩ := hB p (List.mem_of_getElem? hf)
        have e4m := (e2.kp0 k3).kp0 k4
        refine Z.gtup (tupT ht) rfl ?_
        walk_at "z"
        refine ⟨e, m, p.1, (M, 1), rfl, he, e4m, b1, hmL.1, ⟨200, 6, b2, hmB, by decide⟩, fun H5 c5 n5 k5 e5 => ?_⟩
        have aL : Low (fminus p.1 (M, 1)) := lo_low (Int.mul_ne_zero (by omega) hmL.ne)
        have aB : FrB 207 (fminus p.1 (M, 1)) := fminus_B (n := 200) (m := 6) b2 hmB (by omega) hmL.ne
        walk_at "z"
        refine ⟨c5, c5, _, _, rfl, e5, e5, aL.1, aL.1, ⟨207, 207, aB, aB, by decide⟩, fun H6 c6 n6 k6 e6 => ?_⟩
        have qL : Low (ftimes (fminus p.1 (M, 1)) (fminus p.1 (M, 1))) := lo_low (Int.mul_ne_zero aL.ne aL.ne)
        have qB : FrB 414 (ftimes (fminus p.1 (M, 1)) (fminus p.1 (M, 1))) := ftimes_B (n := 207) (m := 207) aB aB aL.ne aL.ne
        walk_at "z"
        refine ⟨d, c6, p.2, _, rfl, (hd.kp0 k5).kp0 k6, e6, b3, qL.1, ⟨100, 414, b4, qB, by decide⟩, fun H7 c7 n7 k7 e7 => ?_⟩
        have pL : Low (ftimes p.2 (ftimes (fminus p.1 (M, 1)) (fminus p.1 (M, 1)))) := lo_low (Int.mul_ne_zero (by omega) qL.ne)
        have pB : FrB 514 (ftimes p.2 (ftimes (fminus p.1 (M, 1)) (fminus p.1 (M, 1)))) := ftimes_B (n := 100) (m := 414) b4 qB (by omega) qL.ne
        walk_at "z"
        refine ⟨s, c7, g, _, rfl, (((e4.kp0 k5).kp0 k6).kp0 k7), e7, hgL.1, pL.1, ⟨900, 514, hgB, pB, by decide⟩, fun H8 c8 n8 k8 e8 => ?_⟩
        walk_at "z"
        refine ⟨_, _, _, c8, _, rfl, (((k4.trans k5).trans k6).trans k7).trans k8, e8, fplus_low hgL.ne pL.ne, ?_⟩
        rw [rv_fplus hgL.ne pL.ne, rv_ftimes (by omega) qL.ne, rv_ftimes aL.ne aL.ne, rv_fminus (by omega) hmL.ne, rv_int, hg, spreadP_take hf]
      · rintro σ' H4 ⟨y3, y4, y5, s, g, rfl, k4, e4, hgL, hg⟩
        rw [List.length_map, hP.len, List.take_length] at hg
        walk_at "z"
        refine Z.tupK (fun t H5 nt k5 e5 => ?_)
        exact q H5 t m s g ((k13.trans k4).trans k5) e5 (((e2.kp0 k3).kp0 k4).kp0 k5) (e4.kp0 k5) hgL hg

/-! ### the law's own threshold -/
section thr37
variable {K : PySem.W.Frag}
open LamX LamK LamQ
def leQ (x y : Addr × Int) : Bool := PySem.W.dataLe false (fun t : Addr × Int => PyData.int (qKey t.2 1)) x y
theorem qKey1 (w : Int) : qKey w 1 = w * 10 ^ 30 := by
  unfold qKey
  rw [show max (1 : Int) 1 = 1 by omega, Int.ediv_one]
theorem leQ_iff (x y : Addr × Int) : leQ x y = true ↔ x.2 ≤ y.2 := by
  show (!PyProof.Rows.lexLt PyProof.Rows.itemOrd (PySem.W.keyToks (.int (qKey y.2 1))) (PySem.W.keyToks (.int (qKey x.2 1)))) = true ↔ _
  rw [qKey1, qKey1]
  have h10 : (0 : Int) < 10 ^ 30 := by decide
  simp [PySem.W.keyToks, PyProof.Rows.lexLt, PyProof.Rows.itemLt]
def srtW (ts : List (Addr × Int)) : List (Addr × Int) := ts.mergeSort leQ
theorem srtW_perm (ts : List (Addr × Int)) : (srtW ts).Perm ts := List.mergeSort_perm _ _
theorem srtW_sorted (ts : List (Addr × Int)) : (srtW ts).Pairwise fun x y => x.2 ≤ y.2 := by
  have h := List.pairwise_mergeSort (le := leQ) (fun a b c h1 h2 => (leQ_iff _ _).mpr (Int.le_trans ((leQ_iff _ _).mp h1) ((leQ_iff _ _).mp h2))) (fun a b => by
    rw [Bool.or_eq_true, leQ_iff, leQ_iff]
    omega) ts
  exact h.imp fun h => (leQ_iff _ _).mp h
theorem srtW_refs (ts : List (Addr × Int)) : ((ts.map fun t => (t.1, PyData.int (qKey t.2 1))).mergeSort (PySem.W.dataLe false Prod.snd)).map (fun b => V.ref b.1) = (srtW ts).map fun t => V.ref t.1 := by
  unfold srtW
  have e := List.map_mergeSort (r := leQ) (s := PySem.W.dataLe false Prod.snd) (f := fun t : Addr × Int => (t.1, PyData.int (qKey t.2 1))) (l := ts) (fun _ _ _ _ => rfl)
  rw [← e, List.map_map]
  rfl
def wI (w : Int) : Fr := (w, 1)
def TsAt (K : PySem.W.Frag) (H : Hp) (ts : List (Addr × Int)) : Prop := ∀ t ∈ ts, FrAt K H t.1 (wI t.2)
def trefs (ts : List (Addr × Int)) : List V := ts.map fun t => V.ref t.1
theorem TsAt.ext {H H' : Hp} {ts : List (Addr × Int)} (h : TsAt K H ts) (e : ExtN H H') : TsAt K H' ts := fun t ht => ext_tup e (h t ht)
theorem TsAt.kp0 {H H' : Hp} {ts : List (Addr × Int)} (h : TsAt K H ts) (k : Kp [] H H') : TsAt K H' ts := fun t ht => (h t ht).kp0 k
theorem TsAt.frs {H : Hp} : ∀ {ts : List (Addr × Int)}, TsAt K H ts → FrsAt K H (ts.map Prod.fst) (ts.map fun t => wI t.2)
  | [], _ => .nil
  | t :: r, h => .cons (h t (by simp)) (TsAt.frs (ts := r) fun x hx => h x (by simp [hx]))
theorem TsAt.keys {H : Hp} {ts : List (Addr × Int)} (h : TsAt K H ts) (hb : ∀ t ∈ ts, t.2.natAbs < 2 ^ 64) : KeyRowsQ K H (ts.map fun t => (t.1, PyData.int (qKey t.2 1))) := fun b hb' => by
  obtain ⟨t, ht, rfl⟩ := List.mem_map.mp hb'
  have := hb t ht
  exact ⟨t.2, 1, rfl, IntMulOk.of_left (intBits_le_64 (by omega) (by omega)), by decide, h t ht⟩
theorem keysOk (ts : List (Addr × Int)) : KeyOk ((ts.map fun t => (t.1, PyData.int (qKey t.2 1))).map Prod.snd) := by
  rw [List.map_map]
  refine ⟨PySem.W.AllAlike.of fun _ _ => by simp [PySem.W.alike], .inr fun d hd => ?_⟩
  obtain ⟨t, _, rfl⟩ := List.mem_map.mp hd
  exact ⟨by simp, by simp⟩
theorem rv_wI (w : Int) : rv (wI w) = (w : Rat) := rv_int w
theorem wI_low (w : Int) : Low (wI w) := ⟨by show (1 : Int) ≤ 1; decide, by show Nat.gcd _ 1 = 1; simp⟩
theorem castSum : ∀ l : List Int, ((l.sum : Int) : Rat) = (l.map fun w : Int => (w : Rat)).sum
  | [] => by show ((0 : Int) : Rat) = 0; grind
  | a :: r => by
    have ih := castSum r
    have e : ((a + r.sum : Int) : Rat) = (a : Rat) + ((r.sum : Int) : Rat) := by exact_mod_cast rfl
    rw [List.sum_cons, List.map_cons, List.sum_cons, e, ih]
theorem fsum_int (l : List Int) : fsum (0, 1) (l.map wI) = (l.sum, 1) := by
  have hs := rv_fsum (fs := l.map wI) low_zero fun f hf => by
    obtain ⟨w, _, rfl⟩ := List.mem_map.mp hf
    exact (wI_low w).ne
  refine low_eq hs.2 (wI_low l.sum) ?_
  rw [hs.1, rv_zero, List.map_map]
  show 0 + (l.map (rv ∘ wI)).sum = rv (l.sum, 1)
  rw [rv_int, castSum]
  have e : l.map (rv ∘ wI) = l.map fun w : Int => (w : Rat) := List.map_congr_left fun w _ => rv_int w
  rw [e]
  grind
/-- the greatest ones stand above -/
def Abv (S : List Int) (size i : Nat) : Prop := ∀ z ∈ S.drop (S.length - i), (S.take (S.length - i)).sum < z * ((size - i : Nat) : Int)
theorem abv_zero (S : List Int) (size : Nat) : Abv S size 0 := fun z hz => by
  rw [Nat.sub_zero, List.drop_length] at hz
  cases hz
theorem take_one {S : List Int} {m : Nat} (h : m < S.length) : S.take (m + 1) = S.take m ++ [S[m]] := by
  rw [List.take_add_one, List.getElem?_eq_getElem h]; rfl
theorem drop_one {S : List Int} {m : Nat} (h : m < S.length) : S.drop m = S[m] :: S.drop (m + 1) := List.drop_eq_getElem_cons h
theorem abv_step {S : List Int} (hs : S.Pairwise (· ≤ ·)) (hp : ∀ w ∈ S, 1 ≤ w) {size i : Nat} (hi : i < size) (hn : size < S.length) (hm : S.length - i - 1 < S.length) (hlt : (S.take (S.length - i)).sum < S[S.length - i - 1] * ((size - i : Nat) : Int)) : Abv S size (i + 1) := by
  unfold Abv
  rw [show S.length - (i + 1) = S.length - i - 1 by omega]
  have et : S.take (S.length - i) = S.take (S.length - i - 1) ++ [S[S.length - i - 1]] := by
    have e := take_one hm
    rwa [show S.length - i - 1 + 1 = S.length - i by omega] at e
  rw [et, List.sum_append] at hlt
  generalize S.length - i - 1 = m at hm hlt ⊢
  have e1 : [S[m]].sum = S[m] := by simp
  rw [e1] at hlt
  have e2 : ((size - i : Nat) : Int) = ((size - (i + 1) : Nat) : Int) + 1 := by omega
  rw [e2, Int.mul_add, Int.mul_one] at hlt
  intro z hz
  have hle : S[m] ≤ z := by
    rw [drop_one hm] at hz
    rcases List.mem_cons.mp hz with rfl | hz
    · exact Int.le_refl _
    · obtain ⟨j, hj, rfl⟩ := List.mem_iff_getElem.mp hz
      rw [List.getElem_drop]
      exact List.pairwise_iff_getElem.mp hs m (m + 1 + j) hm (by rw [List.length_drop] at hj; omega) (by omega)
  have := Int.mul_le_mul_of_nonneg_right hle (show (0 : Int) ≤ ((size - (i + 1) : Nat) : Int) by omega)
  omega
theorem sum_pos : ∀ {l : List Int}, (∀ w ∈ l, 1 ≤ w) → 0 ≤ l.sum ∧ (l ≠ [] → 0 < l.sum)
  | [], _ => ⟨by simp, fun h => absurd rfl h⟩
  | a :: r, h => by
    have h1 := h a (by simp)
    have h2 := (sum_pos (l := r) fun w hw => h w (by simp [hw])).1
    rw [List.sum_cons]
    exact ⟨by omega, fun _ => by omega⟩
theorem abv_end {S : List Int} (hp : ∀ w ∈ S, 1 ≤ w) {size : Nat} (h1 : 1 ≤ size) (hn : size < S.length) (h : Abv S size size) : False := by
  have hm : S.length - size < S.length := by omega
  have := h S[S.length - size] (by rw [drop_one hm]; exact List.mem_cons_self)
  have h2 := (sum_pos (l := S.take (S.length - size)) fun w hw => hp w (List.mem_of_mem_take hw)).1
  rw [Nat.sub_self] at this
  omega
theorem thr_done {ws S : List Int} (hperm : S.Perm ws) (hs : S.Pairwise (· ≤ ·)) (hp : ∀ w ∈ S, 1 ≤ w) {size i : Nat} (hi : i < size) (hn : size < S.length) (ha : Abv S size i) (hm : S.length - i - 1 < S.length) (hge : ¬ (S.take (S.length - i)).sum < S[S.length - i - 1] * ((size - i : Nat) : Int)) :
    Thr (ws.map fun w : Int => (w : Rat)) size (((S.take (S.length - i)).sum : Rat) / ((size - i : Nat) : Rat)) := by
  have hd := thr_of (xs0 := ws) (ys := S.take (S.length - i)) (zs := S.drop (S.length - i)) (C := 1) (pl := size - i) (size := size) (by decide) (by omega) (by rw [List.take_append_drop]; exact hperm) ?_ ha ?_ ?_ (by rw [← hperm.length_eq]; exact hn)
  · have e1 : (ws.map fun x : Int => (x : Rat) / ((1 : Nat) : Rat)) = ws.map fun w : Int => (w : Rat) := List.map_congr_left fun w _ => by grind
    have e2 : (((S.take (S.length - i)).sum : Int) : Rat) / (((size - i : Nat) : Rat) * ((1 : Nat) : Rat)) = (((S.take (S.length - i)).sum : Int) : Rat) / ((size - i : Nat) : Rat) := by
      rw [show ((1 : Nat) : Rat) = 1 by grind, Rat.mul_one]
    rw [e1, e2] at hd
    exact hd
  · refine (sum_pos (l := S.take (S.length - i)) fun w hw => hp w (List.mem_of_mem_take hw)).2 fun z => ?_
    have := congrArg List.length z
    rw [List.length_take, List.length_nil] at this
    omega
  · intro y hy
    have hle : y ≤ S[S.length - i - 1] := by
      obtain ⟨j, hj, rfl⟩ := List.mem_iff_getElem.mp hy
      rw [List.getElem_take]
      rw [List.length_take] at hj
      by_cases e : j = S.length - i - 1
      · subst e
        exact Int.le_refl _
      · exact List.pairwise_iff_getElem.mp hs j (S.length - i - 1) (by omega) hm (by omega)
    have := Int.mul_le_mul_of_nonneg_right hle (show (0 : Int) ≤ ((size - i : Nat) : Int) by omega)
    omega
  · rw [List.length_drop]
    omega
end thr37

/-! ### what the law compares -/
theorem permSumI {a b : List Int} (h : a.Perm b) : a.sum = b.sum := by
  induction h with
  | nil => rfl
  | cons x _ ih => rw [List.sum_cons, List.sum_cons, ih]
  | swap x y l => rw [List.sum_cons, List.sum_cons, List.sum_cons, List.sum_cons]; omega
  | trans _ _ h1 h2 => exact h1.trans h2
theorem ysF_w (kvs : List (Key × V)) (ps : List (Addr × Row)) : ysF kvs ps = (amts kvs ps).map wI := by
  unfold ysF amts
  rw [List.map_map]
  rfl
theorem ysF_sum (kvs : List (Key × V)) (ps : List (Addr × Row)) : fsum (0, 1) (ysF kvs ps) = ((amts kvs ps).sum, 1) := by rw [ysF_w, fsum_int]
theorem ysF_len (kvs : List (Key × V)) (ps : List (Addr × Row)) : (ysF kvs ps).length = ps.length := by unfold ysF; rw [List.length_map]
theorem ftimes_comm (f g : Fr) : ftimes f g = ftimes g f := by unfold ftimes; rw [Int.mul_comm f.1, Int.mul_comm f.2]
theorem opt_eq {kvs : List (Key × V)} (ho : AmtOk kvs) {ps : List Pt} (hB : ∀ p ∈ ps, PtB p) {a k : Addr} {size : Int} : estF kvs (.O a k size ps) = optF kvs ps := by
  unfold estF
  by_cases hw : Smp.whole (.O a k size ps) = true
  · rw [if_pos hw]
    have hall : ∀ p ∈ ps, p.f = (p.x.2.w, 1) := fun p hp => by
      have := List.all_eq_true.mp (show (ps.all fun p => decide (p.f = (p.x.2.w, 1))) = true from hw) p hp
      exact of_decide_eq_true this
    have hs := rv_fsum (fs := ps.map (addF kvs)) low_zero fun f hf => by
      obtain ⟨p, hp, rfl⟩ := List.mem_map.mp hf
      have := ((hB p hp).add ho).1
      omega
    have hs2 := rv_fsum (fs := ps.map (varF kvs)) low_zero fun f hf => by
      obtain ⟨p, hp, rfl⟩ := List.mem_map.mp hf
      have := ((hB p hp).var ho).2.2.1
      omega
    have e1 : (((amts kvs (psx ps)).sum, 1) : Fr) = fsum (0, 1) (ps.map (addF kvs)) := by
      refine low_eq (wI_low _) hs.2 ?_
      rw [hs.1, rv_zero, rv_int, castSum, List.map_map]
      have e : (amts kvs (psx ps)).map (fun w : Int => (w : Rat)) = ps.map (rv ∘ addF kvs) := by
        unfold amts psx
        rw [List.map_map, List.map_map]
        refine List.map_congr_left fun p hp => ?_
        simp only [Function.comp_apply]
        rw [((hB p hp).add ho).2.2, hall p hp, rv_int]
        have hw := (hB p hp).w.w0
        have hr : (p.x.2.w : Rat) ≠ 0 := ratNe (by omega)
        grind
      rw [e]
      grind
    have e2 : ((0, 1) : Fr) = fsum (0, 1) (ps.map (varF kvs)) := by
      refine low_eq low_zero hs2.2 ?_
      rw [hs2.1, rv_zero, List.map_map]
      have e : ps.map (rv ∘ varF kvs) = ps.map fun _ => (0 : Rat) := List.map_congr_left fun p hp => by
        simp only [Function.comp_apply]
        rw [((hB p hp).var ho).2.2.2.2, hall p hp, rv_int]
        grind
      rw [e]
      clear e hs2 hs e1 hw hall
      induction ps with
      | nil => show (0 : Rat) = 0 + 0; grind
      | cons p r ih =>
        have := ih fun q hq => hB q (by simp [hq])
        rw [List.map_cons, List.sum_cons]
        grind
    show ((((amts kvs (psx ps)).sum, 1), some (0, 1)) : Fr × Option Fr) = (fsum (0, 1) (ps.map (addF kvs)), some (fsum (0, 1) (ps.map (varF kvs))))
    rw [← e1, ← e2]
  · rw [if_neg hw]
def optD : Option Fr → PyData
  | none => .none
  | some g => frD g
def ansD (r : Fr × Option Fr) : PyData := .tuple [frD r.1, optD r.2]
theorem dpAns {K : PySem.W.Frag} {H : Hp} {t : Addr} {r : Fr × Option Fr} (h : AnsAt K H t r) : Dp K H (.ref t) (ansD r) := by
  obtain ⟨e, u, h1, h2, h3⟩ := h
  obtain ⟨r1, r2⟩ := r
  refine .tup (tupT h1) (.cons (dpF h2) (.cons ?_ .nil))
  cases r2 with
  | none =>
    obtain rfl : u = .non := h3
    exact .non
  | some g =>
    obtain ⟨w, rfl, hw⟩ := h3
    exact dpF hw
theorem ansD_sh (r : Fr × Option Fr) : SeqAt.shaped (ansD r) = true := by
  obtain ⟨r1, r2⟩ := r
  cases r2 <;> simp [ansD, optD, frD, SeqAt.shaped, PyData.canLay0, PyData.canLayAll0, PyData.depth, PyData.depthAll]
theorem ansD_lay (r : Fr × Option Fr) : PyData.canLay0 (ansD r) = true := by
  obtain ⟨r1, r2⟩ := r
  cases r2 <;> simp [ansD, optD, frD, PyData.canLay0, PyData.canLayAll0]
theorem neAns {K : PySem.W.Frag} {H : Hp} {Q : VK} {a b : Addr} {r : Fr × Option Fr} (h1 : AnsAt K H a r) (h2 : AnsAt K H b r) (q : Q (.bl false) H) : rNeD K (.ref a) (.ref b) H Q :=
  ⟨_, _, dpAns h1, dpAns h2, ansD_sh r, ansD_sh r, by rw [SeqAt.eqv_refl _ (ansD_lay r)]; exact q⟩
theorem neFs {K : PySem.W.Frag} {H : Hp} {Q : VK} {a b : Addr} {as bs : List Addr} {fs : List Fr} (h1 : H a = some (.lst (as.map V.ref))) (h2 : H b = some (.lst (bs.map V.ref))) (f1 : FrsAt K H as fs) (f2 : FrsAt K H bs fs) (q : Q (.bl false) H) : rNeD K (.ref a) (.ref b) H Q :=
  ⟨_, _, .lst (lstL h1) (dpFs f1), .lst (lstL h2) (dpFs f2), shFs fs, shFs fs, by rw [SeqAt.eqv_refl _ (by rw [PyData.canLay0]; exact layFs fs)]; exact q⟩
def ptD (p : Pt) : PyData := .tuple [rowD p.x.2, frD p.f]
theorem dpPts {K : PySem.W.Frag} {H : Hp} : ∀ {ps : List Pt}, PtsAt K H ps → DpAll K H (prefs ps) (ps.map ptD)
  | [], _ => .nil
  | p :: r, h => .cons (.tup (tupT (h p (by simp)).at_) (.cons (dpRow (h p (by simp)).row) (.cons (dpF (h p (by simp)).fr) .nil))) (dpPts (ps := r) fun x hx => h x (by simp [hx]))
theorem layPts : ∀ {ps : List Pt}, (∀ p ∈ ps, RowS p.x.2) → PyData.canLayAll0 (ps.map ptD) = true
  | [], _ => by simp [PyData.canLayAll0]
  | p :: r, h => by
    have ih := layPts (ps := r) fun y hy => h y (by simp [hy])
    show PyData.canLayAll0 (ptD p :: r.map ptD) = true
    have e : PyData.canLay0 (ptD p) = true := by simp [ptD, frD, PyData.canLay0, PyData.canLayAll0, rowD_lay (h p (by simp))]
    rw [PyData.canLayAll0, e, ih]; rfl
theorem depthPts : ∀ ps : List Pt, PyData.depthAll (ps.map ptD) ≤ 2
  | [] => by simp [PyData.depthAll]
  | p :: r => by
    have ih := depthPts r
    show PyData.depthAll (ptD p :: r.map ptD) ≤ 2
    have e : (ptD p).depth ≤ 2 := by simp [ptD, frD, rowD, PyData.depth, PyData.depthAll]
    rw [PyData.depthAll]
    omega
theorem shPts {ps : List Pt} (h : ∀ p ∈ ps, RowS p.x.2) : SeqAt.shaped (.list (ps.map ptD)) = true := by
  have := depthPts ps
  simp [SeqAt.shaped, PyData.canLay0, PyData.depth, layPts h]
  omega
theorem nePts {K : PySem.W.Frag} {H : Hp} {Q : VK} {a b : Addr} {ps : List Pt} (h1 : H a = some (.lst (prefs ps))) (h2 : H b = some (.lst (prefs ps))) (r : PtsAt K H ps) (s : ∀ p ∈ ps, RowS p.x.2) (q : Q (.bl false) H) : rNeD K (.ref a) (.ref b) H Q :=
  ⟨_, _, .lst (lstL h1) (dpPts r), .lst (lstL h2) (dpPts r), shPts s, shPts s, by rw [SeqAt.eqv_refl _ (by rw [PyData.canLay0]; exact layPts s)]; exact q⟩
theorem AmtN.same {kvs : List (Key × V)} (h : AmtN kvs) : ∀ p ∈ kvs, valV kvs p.1 = some p.2 ∧ flatB p.2 = true := fun p hp => ⟨val_nodup h.1 p hp, by obtain ⟨n, e⟩ := h.2 p hp; rw [e]; rfl⟩

/-! ### the law's own threshold, for fractions -/
section thr36
variable {K : PySem.W.Frag}
open LamX LamK LamQ
structure OkF (f : Fr) : Prop where
  low : Low f
  pos : 0 < f.1
  B : FrB 20 f
theorem key_lt {p1 q1 p2 q2 : Int} (h1 : 1 ≤ q1) (h2 : 1 ≤ q2) (b1 : q1 < 2 ^ 20) (b2 : q2 < 2 ^ 20) (h : p1 * q2 < p2 * q1) : qKey p1 q1 < qKey p2 q2 := by
  unfold qKey
  rw [show max 1 q1 = q1 by omega, show max 1 q2 = q2 by omega]
  have hN : (10 : Int) ^ 30 = 1000000000000000000000000000000 := by decide
  rw [hN]
  have ha : p1 * 1000000000000000000000000000000 / q1 * q1 ≤ p1 * 1000000000000000000000000000000 := Int.ediv_mul_le _ (by omega)
  generalize p1 * 1000000000000000000000000000000 / q1 = a at ha ⊢
  rw [Int.lt_iff_add_one_le]
  rw [Int.le_ediv_iff_mul_le (by omega)]
  have hq : q1 * q2 ≤ 1048576 * 1048576 := Int.mul_le_mul (by omega) (by omega) (by omega) (by decide)
  have e1 : a * q1 * q2 ≤ p1 * 1000000000000000000000000000000 * q2 := Int.mul_le_mul_of_nonneg_right ha (by omega)
  have e2 : (p1 * q2 + 1) * 1000000000000000000000000000000 ≤ p2 * q1 * 1000000000000000000000000000000 := Int.mul_le_mul_of_nonneg_right (by omega) (by decide)
  refine Int.le_of_mul_le_mul_left (a := q1) ?_ (by omega)
  have e3 : q1 * ((a + 1) * q2) = a * q1 * q2 + q1 * q2 := by grind
  have e4 : q1 * (p2 * 1000000000000000000000000000000) = p2 * q1 * 1000000000000000000000000000000 := by grind
  have e5 : p1 * 1000000000000000000000000000000 * q2 = p1 * q2 * 1000000000000000000000000000000 := by grind
  rw [e3, e4]
  rw [e5] at e1
  generalize a * q1 * q2 = A at *
  generalize p1 * q2 = B at *
  generalize p2 * q1 = C at *
  generalize q1 * q2 = D at *
  omega
theorem key_rv {f g : Fr} (hf : OkF f) (hg : OkF g) (h : qKey f.1 f.2 ≤ qKey g.1 g.2) : rv f ≤ rv g := by
  by_cases z : rv f ≤ rv g
  · exact z
  · have h1 := (rv_lt hg.low.1 hf.low.1).mpr (by grind)
    have f1 := hf.low.1
    have g1 := hg.low.1
    have fB := hf.B.2
    have gB := hg.B.2
    have := key_lt (p1 := g.1) (q1 := g.2) (p2 := f.1) (q2 := f.2) g1 f1 (by omega) (by omega) h1
    omega
def leF (x y : Addr × Fr) : Bool := PySem.W.dataLe false (fun t : Addr × Fr => PyData.int (qKey t.2.1 t.2.2)) x y
theorem leF_iff (x y : Addr × Fr) : leF x y = true ↔ qKey x.2.1 x.2.2 ≤ qKey y.2.1 y.2.2 := by
  show (!PyProof.Rows.lexLt PyProof.Rows.itemOrd (PySem.W.keyToks (.int (qKey y.2.1 y.2.2))) (PySem.W.keyToks (.int (qKey x.2.1 x.2.2)))) = true ↔ _
  simp [PySem.W.keyToks, PyProof.Rows.lexLt, PyProof.Rows.itemLt]
def srtF (ts : List (Addr × Fr)) : List (Addr × Fr) := ts.mergeSort leF
theorem srtF_perm (ts : List (Addr × Fr)) : (srtF ts).Perm ts := List.mergeSort_perm _ _
theorem srtF_sorted {ts : List (Addr × Fr)} (hok : ∀ t ∈ ts, OkF t.2) : (srtF ts).Pairwise fun x y => rv x.2 ≤ rv y.2 := by
  have h := List.pairwise_mergeSort (le := leF) (fun a b c h1 h2 => (leF_iff _ _).mpr (Int.le_trans ((leF_iff _ _).mp h1) ((leF_iff _ _).mp h2))) (fun a b => by
    rw [Bool.or_eq_true, leF_iff, leF_iff]
    omega) ts
  refine List.Pairwise.imp_of_mem (fun {a b} ha hb h => ?_) h
  exact key_rv (hok a ((srtF_perm ts).mem_iff.mp ha)) (hok b ((srtF_perm ts).mem_iff.mp hb)) ((leF_iff _ _).mp h)
theorem srtF_refs (ts : List (Addr × Fr)) : ((ts.map fun t => (t.1, PyData.int (qKey t.2.1 t.2.2))).mergeSort (PySem.W.dataLe false Prod.snd)).map (fun b => V.ref b.1) = (srtF ts).map fun t => V.ref t.1 := by
  unfold srtF
  have e := List.map_mergeSort (r := leF) (s := PySem.W.dataLe false Prod.snd) (f := fun t : Addr × Fr => (t.1, PyData.int (qKey t.2.1 t.2.2))) (l := ts) (fun _ _ _ _ => rfl)
  rw [← e, List.map_map]
  rfl
def FsAt (K : PySem.W.Frag) (H : Hp) (ts : List (Addr × Fr)) : Prop := ∀ t ∈ ts, FrAt K H t.1 t.2
def frefs (ts : List (Addr × Fr)) : List V := ts.map fun t => V.ref t.1
theorem frefs_len (ts : List (Addr × Fr)) : (frefs ts).length = ts.length := by unfold frefs; rw [List.length_map]
theorem frefs_eq (ts : List (Addr × Fr)) : frefs ts = (ts.map Prod.fst).map V.ref := by unfold frefs; rw [List.map_map]; rfl
theorem FsAt.ext {H H' : Hp} {ts : List (Addr × Fr)} (h : FsAt K H ts) (e : ExtN H H') : FsAt K H' ts := fun t ht => ext_tup e (h t ht)
theorem FsAt.kp0 {H H' : Hp} {ts : List (Addr × Fr)} (h : FsAt K H ts) (k : Kp [] H H') : FsAt K H' ts := fun t ht => (h t ht).kp0 k
theorem FsAt.frs {H : Hp} : ∀ {ts : List (Addr × Fr)}, FsAt K H ts → FrsAt K H (ts.map Prod.fst) (ts.map Prod.snd)
  | [], _ => .nil
  | t :: r, h => .cons (h t (by simp)) (FsAt.frs (ts := r) fun x hx => h x (by simp [hx]))
theorem FsAt.keys {H : Hp} {ts : List (Addr × Fr)} (h : FsAt K H ts) (hb : ∀ t ∈ ts, OkF t.2) : KeyRowsQ K H (ts.map fun t => (t.1, PyData.int (qKey t.2.1 t.2.2))) := fun b hb' => by
  obtain ⟨t, ht, rfl⟩ := List.mem_map.mp hb'
  have hB := (hb t ht).B
  have h1 := (hb t ht).low.1
  refine ⟨t.2.1, t.2.2, rfl, IntMulOk.of_left (intBits_le_64 (by have := hB.1; omega) (by have := hB.1; omega)), ?_, h t ht⟩
  rw [show max 1 t.2.2 = t.2.2 by omega]
  have h2 : t.2.2.natAbs.log2 < 20 := (Nat.log2_lt (by omega)).mpr hB.2
  omega
theorem keysOkF (ts : List (Addr × Fr)) : KeyOk ((ts.map fun t => (t.1, PyData.int (qKey t.2.1 t.2.2))).map Prod.snd) := by
  rw [List.map_map]
  refine ⟨PySem.W.AllAlike.of fun _ _ => by simp [PySem.W.alike], .inr fun d hd => ?_⟩
  obtain ⟨t, _, rfl⟩ := List.mem_map.mp hd
  exact ⟨by simp, by simp⟩
/-- the greatest ones stand above -/
def AbvR (S : List Rat) (size i : Nat) : Prop := ∀ z ∈ S.drop (S.length - i), (S.take (S.length - i)).sum < z * ((size - i : Nat) : Rat)
theorem abvR_zero (S : List Rat) (size : Nat) : AbvR S size 0 := fun z hz => by
  rw [Nat.sub_zero, List.drop_length] at hz
  cases hz
theorem takeR_one {S : List Rat} {m : Nat} (h : m < S.length) : S.take (m + 1) = S.take m ++ [S[m]] := by
  rw [List.take_add_one, List.getElem?_eq_getElem h]; rfl
theorem dropR_one {S : List Rat} {m : Nat} (h : m < S.length) : S.drop m = S[m] :: S.drop (m + 1) := List.drop_eq_getElem_cons h
theorem natR_nonneg (n : Nat) : (0 : Rat) ≤ (n : Rat) := by exact_mod_cast Nat.zero_le n
theorem natR_pos {n : Nat} (h : 0 < n) : (0 : Rat) < (n : Rat) := by exact_mod_cast h
theorem abvR_step {S : List Rat} (hs : S.Pairwise (· ≤ ·)) {size i : Nat} (hi : i < size) (hn : size < S.length) (hm : S.length - i - 1 < S.length) (hlt : (S.take (S.length - i)).sum < S[S.length - i - 1] * ((size - i : Nat) : Rat)) : AbvR S size (i + 1) := by
  unfold AbvR
  rw [show S.length - (i + 1) = S.length - i - 1 by omega]
  have et : S.take (S.length - i) = S.take (S.length - i - 1) ++ [S[S.length - i - 1]] := by
    have e := takeR_one hm
    rwa [show S.length - i - 1 + 1 = S.length - i by omega] at e
  rw [et, List.sum_append] at hlt
  generalize S.length - i - 1 = m at hm hlt ⊢
  have e1 : [S[m]].sum = S[m] := by show S[m] + 0 = S[m]; grind
  rw [e1] at hlt
  have e2 : ((size - i : Nat) : Rat) = ((size - (i + 1) : Nat) : Rat) + 1 := by
    rw [show size - i = (size - (i + 1)) + 1 by omega]
    exact_mod_cast rfl
  rw [e2] at hlt
  intro z hz
  have hle : S[m] ≤ z := by
    rw [dropR_one hm] at hz
    rcases List.mem_cons.mp hz with rfl | hz
    · exact Rat.le_refl
    · obtain ⟨j, hj, rfl⟩ := List.mem_iff_getElem.mp hz
      rw [List.getElem_drop]
      exact List.pairwise_iff_getElem.mp hs m (m + 1 + j) hm (by rw [List.length_drop] at hj; omega) (by omega)
  have := Rat.mul_le_mul_of_nonneg_right hle (natR_nonneg (size - (i + 1)))
  grind
theorem sumR_pos : ∀ {l : List Rat}, (∀ w ∈ l, 0 < w) → 0 ≤ l.sum ∧ (l ≠ [] → 0 < l.sum)
  | [], _ => ⟨by show (0 : Rat) ≤ 0; grind, fun h => absurd rfl h⟩
  | a :: r, h => by
    have h1 := h a (by simp)
    have h2 := (sumR_pos (l := r) fun w hw => h w (by simp [hw])).1
    rw [List.sum_cons]
    exact ⟨by grind, fun _ => by grind⟩
theorem abvR_end {S : List Rat} (hp : ∀ w ∈ S, 0 < w) {size : Nat} (h1 : 1 ≤ size) (hn : size < S.length) (h : AbvR S size size) : False := by
  have hm : S.length - size < S.length := by omega
  have := h S[S.length - size] (by rw [dropR_one hm]; exact List.mem_cons_self)
  have h2 := (sumR_pos (l := S.take (S.length - size)) fun w hw => hp w (List.mem_of_mem_take hw)).1
  rw [Nat.sub_self] at this
  have e : ((0 : Nat) : Rat) = 0 := rfl
  rw [e] at this
  grind
theorem thrR_done {ws S : List Rat} (hperm : S.Perm ws) (hs : S.Pairwise (· ≤ ·)) (hp : ∀ w ∈ S, 0 < w) {size i : Nat} (hi : i < size) (hn : size < S.length) (ha : AbvR S size i) (hm : S.length - i - 1 < S.length) (hge : ¬ (S.take (S.length - i)).sum / ((size - i : Nat) : Rat) < S[S.length - i - 1]) :
    Thr ws size ((S.take (S.length - i)).sum / ((size - i : Nat) : Rat)) := by
  have hk : (0 : Rat) < ((size - i : Nat) : Rat) := natR_pos (by omega)
  have hk0 : ((size - i : Nat) : Rat) ≠ 0 := by grind
  refine Thr.perm ⟨fun h => by omega, fun _ => ?_⟩ hperm
  have hpos := (sumR_pos (l := S.take (S.length - i)) fun w hw => hp w (List.mem_of_mem_take hw)).2 fun z => by
    have := congrArg List.length z
    rw [List.length_take, List.length_nil] at this
    omega
  unfold AbvR at ha
  generalize hT : (S.take (S.length - i)).sum / ((size - i : Nat) : Rat) = t at hge ⊢
  have hts : (S.take (S.length - i)).sum = t * ((size - i : Nat) : Rat) := by rw [← hT]; grind
  have ht0 : 0 < t := by
    rw [← hT, Rat.div_def]
    exact Rat.mul_pos hpos (Rat.inv_pos.mpr hk)
  refine ⟨ht0, ?_⟩
  have hlo : cap t (S.take (S.length - i)) = (S.take (S.length - i)).sum := cap_low fun y hy => by
    have hle : y ≤ S[S.length - i - 1] := by
      obtain ⟨j, hj, rfl⟩ := List.mem_iff_getElem.mp hy
      rw [List.getElem_take]
      rw [List.length_take] at hj
      by_cases e : j = S.length - i - 1
      · subst e
        exact Rat.le_refl
      · exact List.pairwise_iff_getElem.mp hs j (S.length - i - 1) (by omega) hm (by omega)
    grind
  have hhi : cap t (S.drop (S.length - i)) = ((S.drop (S.length - i)).length : Rat) * t := cap_all fun z hz => by
    have h1 := ha z hz
    rw [hts] at h1
    by_cases h2 : t ≤ z
    · exact h2
    · have := Rat.mul_lt_mul_of_pos_right (show z < t by grind) hk
      grind
  have e : cap t S = cap t (S.take (S.length - i)) + cap t (S.drop (S.length - i)) := by rw [← cap_app, List.take_append_drop]
  rw [e, hlo, hhi, hts, List.length_drop]
  have e2 : (size : Rat) = ((size - i : Nat) : Rat) + ((S.length - (S.length - i) : Nat) : Rat) := by
    have : size = (size - i) + (S.length - (S.length - i)) := by omega
    exact_mod_cast this
  rw [e2]
  grind
end thr36

section thr36b
variable {K : PySem.W.Frag}
open LamX LamK LamQ
abbrev LQ : Str := "_law_threshold.<locals>.<lambda>"
theorem FrsAt.ext {H H' : Hp} (e : ExtN H H') {as : List Addr} {fs : List Fr} (h : FrsAt K H as fs) : FrsAt K H' as fs := by
  induction h with
  | nil => exact .nil
  | cons r t ih => exact .cons (ext_tup e r) ih
def spThrF (K : PySem.W.Frag) (P : Addr) : Sp := fun vs H Q _ => ∃ (l : Addr) (ts : List (Addr × Fr)) (size : Nat), vs = [.ref l, .int (size : Int)] ∧ Tabs [(P, LQ)] H ∧ H l = some (.lst (frefs ts)) ∧ FsAt K H ts ∧ (∀ t ∈ ts, OkF t.2) ∧ ts.length ≤ 6 ∧ 1 ≤ size ∧ size ≤ 1000 ∧
  ∀ H' c g, ExtN H H' → Tabs [(P, LQ)] H' → FrAt K H' c g → Low g → Thr (ts.map fun t => rv t.2) size (rv g) → Q (.ref c) H'
theorem ok__law_threshold {P : Program} {w : World} {K : PySem.W.Frag} {mg : Str → Option Value} {base : Heap} (T : T P K mg base) : FnOk P w K mg base (L2.CX P w) 4 T.a__law_threshold T.fd__law_threshold ["weights", "size"] (spThrF K T.P__law_threshold) := by
  obtain ⟨oc, od, kV, doc, pm, an, ct, osl, efd, lk, hcd⟩ := T.L__law_threshold
  have lk' := lk
  rw [efd] at lk' ⊢
  refine fn_of lk' hcd sc__law_threshold (fun vs H Q E h => ?_) (fun A outer s H vs Q E hr h => ?_)
  · obtain ⟨l, ts, size, rfl, _⟩ := h
    rfl
  · obtain ⟨l, ts, size, rfl, hT, hl, hts, hW, h6, s1, s2, q⟩ := h
    refine ⟨_, (pss_cons (ps_if (pt_cmpR op_le (pe_callB c_len (by rfl) T.z_len (by decide +kernel) (pa_cons (pv 0) pa_nil)) (pv 1) (nomark _)) (pss_one (ps_ret (pe_tup (pa_cons pe_int (pa_cons pe_int pa_nil))))) pss_nil)
      (pss_cons (ps_for (passes_of rfl) rfl (pi_range1 (by rfl) T.z_range (pa_cons (pv 1) pa_nil)) (pg_name (i := 2) sc__law_threshold.nd rfl (by first | exact Or.inl rfl | exact Or.inr rfl)) (pss_cons (ps_set (i := 3) sc__law_threshold.nd rfl (by first | exact Or.inl rfl | exact Or.inr rfl) (LamQ.pe_sortQ (e2 := ⟨0, 0, 0, 0⟩) (T := [(T.P__law_threshold, "_law_threshold.<locals>.<lambda>")]) (by rfl) T.z_sorted (pa_cons (pv 0) pa_nil) T.TB__law_threshold (by rfl) (by simp; rfl) (by intro q hq _; rw [List.mem_singleton.mp hq]; rfl) hr (LamQ.keyQ_by (by decide +kernel)) (by rfl) (fun _ _ _ _ _ _ => by rfl) T.z_max rfl))
      (pss_cons (ps_set (i := 4) sc__law_threshold.nd rfl (by first | exact Or.inl rfl | exact Or.inr rfl) (pe_call (ok__law_sum T) (hr.mono (by decide)) (by rfl) T.g__law_sum T.F__law_sum.kp T.b__law_sum .nil pass0 (pa_cons (pe_slice sl_list (pv 3) po_none (po_some (pe_op op_sub (pe_callB c_len (by rfl) T.z_len (by decide +kernel) (pa_cons (pv 3) pa_nil)) (pv 2)))) pa_nil)))
      (pss_cons (ps_set (i := 5) sc__law_threshold.nd rfl (by first | exact Or.inl rfl | exact Or.inr rfl) (pe_call (ok__law_low T) (hr.mono (by decide)) (by rfl) T.g__law_low T.F__law_low.kp T.b__law_low .nil pass0 (pa_cons (pe_ix ix_tup (pv 4) pe_int (fun _ _ => rfl)) (pa_cons (pe_op op_mulW (pe_ix ix_tup (pv 4) pe_int (fun _ _ => rfl)) (pe_op op_sub (pv 1) (pv 2))) pa_nil))))
      (pss_one (ps_if (pt_not (pt_val (pe_call (ok__law_less T) (hr.mono (by decide)) (by rfl) T.g__law_less T.F__law_less.kp T.b__law_less .nil pass0 (pa_cons (pv 5) (pa_cons (pe_ix ix_list (pv 3) (pe_op op_sub (pe_op op_sub (pe_callB c_len (by rfl) T.z_len (by decide +kernel) (pa_cons (pv 3) pa_nil)) (pv 2)) pe_int) (fun _ _ => rfl)) pa_nil))))) (pss_one (ps_ret (pv 5))) pss_nil))))))
      (pss_one (ps_ret (pe_tup (pa_cons pe_int (pa_cons pe_int pa_nil))))))), ?_⟩
    have hperm := srtF_perm ts
    have hsort := srtF_sorted hW
    have hlen : (srtF ts).length = ts.length := hperm.length_eq
    have hWs : ∀ t ∈ srtF ts, OkF t.2 := fun t ht => hW t (hperm.mem_iff.mp ht)
    have hSl : ((srtF ts).map fun t => rv t.2).length = ts.length := by rw [List.length_map, hlen]
    have hS1 : ∀ w ∈ (srtF ts).map fun t => rv t.2, 0 < w := fun w hw => by
      obtain ⟨t, ht, rfl⟩ := List.mem_map.mp hw
      exact (rv_pos (hWs t ht).low.1).mp (hWs t ht).pos
    have hSs : ((srtF ts).map fun t => rv t.2).Pairwise (· ≤ ·) := List.pairwise_map.mpr hsort
    have hSp : ((srtF ts).map fun t => rv t.2).Perm (ts.map fun t => rv t.2) := hperm.map _
    walk_at "z0"
    walk_at "z"
    refine Z.lenL (lstL hl) ?_
    rw [frefs_len]
    walk_at "z"
    refine Z.ite (fun h1 => ?_) (fun h1 => ?_)
    · walk_at "z"
      refine Z.tupK (fun z H1 nz k1 e1 => ?_)
      exact q H1 z (0, 1) (ext_kp k1) (tabs_kp hT k1) (tupT e1) low_zero ⟨fun _ => rv_zero, fun h2 => by rw [List.length_map] at h2; omega⟩
    · have hn : size < ts.length := by omega
      walk_at "z"
      refine Z.forr size rfl (by omega) (fun i σ' H' => ∃ (y2 y3 y4 y5 : Option V), σ' = [some (.ref l), some (.int (size : Int)), y2, y3, y4, y5] ∧ ExtN H H' ∧ Tabs [(T.P__law_threshold, LQ)] H' ∧ AbvR ((srtF ts).map fun t => rv t.2) size i) ?_ ?_ ?_
      · exact ⟨_, _, _, _, rfl, ExtN.refl H, hT, abvR_zero _ _⟩
      · rintro i σ' H1 hi ⟨y2, y3, y4, y5, rfl, e1, T1, ha⟩
        have hm : ((srtF ts).map fun t => rv t.2).length - i - 1 < ((srtF ts).map fun t => rv t.2).length := by omega
        walk_at "z"
        refine srtQK (bs := ts.map fun t => (t.1, PyData.int (qKey t.2.1 t.2.2))) T1 (lstL (by rw [List.map_map]; exact ext_get e1 hl)) ((hts.ext e1).keys hW) (keysOkF ts) fun H2 r e2 T2 nr er => ?_
        rw [srtF_refs] at er
        have er' : H2 r = some (.lst (frefs (srtF ts))) := er
        have hA : FsAt K H2 (srtF ts) := fun t ht => (hts.ext (e1.trans e2)) t (hperm.mem_iff.mp ht)
        walk_at "z"
        refine Z.lenL (lstL er') ?_
        rw [frefs_len, hlen]
        walk_at "z"
        have ecut : ((ts.length : Nat) : Int) - (i : Int) = ((ts.length - i : Nat) : Int) := by omega
        rw [ecut]
        refine Z.slL (lstL er') (fun c H3 nc k3 e3 => ?_)
        rw [Z.cut_take (by rw [frefs_len]; omega)] at e3
        have e3' : H3 c = some (.lst ((((srtF ts).take (ts.length - i)).map Prod.fst).map V.ref)) := by
          rw [e3, frefs_eq, List.map_take, List.map_take]
        have hA3 : FsAt K H3 ((srtF ts).take (ts.length - i)) := fun t ht => (hA.kp0 k3) t (List.mem_of_mem_take ht)
        have hok3 : ∀ f ∈ ((srtF ts).take (ts.length - i)).map Prod.snd, OkF f := fun f hf => by
          obtain ⟨t, ht, rfl⟩ := List.mem_map.mp hf
          exact hWs t (List.mem_of_mem_take ht)
        have hcnt : (((srtF ts).take (ts.length - i)).map Prod.snd).length ≤ 6 := by rw [List.length_map, List.length_take]; omega
        have hsumB : ∀ j, FrB 200 (fsum (0, 1) ((((srtF ts).take (ts.length - i)).map Prod.snd).take j)) := fun j => by
          have hB1 := fsum_B (fs := (((srtF ts).take (ts.length - i)).map Prod.snd).take j) (t := (0, 1)) (n := 1) (m := 20) ⟨by decide, by decide⟩ (by decide) fun g hg => ⟨(hok3 g (List.mem_of_mem_take hg)).B, (hok3 g (List.mem_of_mem_take hg)).low.ne⟩
          refine hB1.1.mono ?_
          rw [List.length_take]
          omega
        walk_at "z"
        refine ⟨c, _, _, rfl, lstL e3', hA3.frs, fun f hf => ⟨(hok3 f hf).low.1, (hok3 f hf).B.mono (by decide)⟩, fun j => (hsumB j).mono (by decide), fun H4 rest k4 e4 => ?_⟩
        have hs := rv_fsum (fs := ((srtF ts).take (ts.length - i)).map Prod.snd) low_zero fun f hf => (hok3 f hf).low.ne
        have hsB := hsumB 6
        rw [List.take_of_length_le hcnt] at hsB
        have hsv : rv (fsum (0, 1) (((srtF ts).take (ts.length - i)).map Prod.snd)) = (((srtF ts).map fun t => rv t.2).take (((srtF ts).map fun t => rv t.2).length - i)).sum := by
          rw [hs.1, rv_zero, hSl, List.map_map, ← List.map_take]
          show 0 + (((srtF ts).take (ts.length - i)).map fun t => rv t.2).sum = _
          grind
        generalize fsum (0, 1) (((srtF ts).take (ts.length - i)).map Prod.snd) = s at e4 hs hsB hsv
        have sL := hs.2
        have s2 := sL.1
        walk_at "z"
        refine Z.ixT e4 (fr0 _) ?_
        walk_at "z"
        refine Z.ixT e4 (fr1 _) ?_
        walk_at "z"
        have hp0 : ((size - i : Nat) : Int) ≠ 0 := by omega
        have ep : (size : Int) - (i : Int) = ((size - i : Nat) : Int) := by omega
        rw [ep]
        have hplB : ((size - i : Nat) : Int).natAbs < 2 ^ 10 := by rw [Int.natAbs_natCast]; omega
        refine Z.iC (mul_ok (n := 200) hsB.2 (up_B hplB (by decide))) ?_
        walk_at "z"
        have hq1 : 1 ≤ s.2 * ((size - i : Nat) : Int) := Int.mul_pos (by omega) (by omega)
        have hqB : (s.2 * ((size - i : Nat) : Int)).natAbs < 2 ^ 210 := mul_B hsB.2 hplB
        refine ⟨_, _, rfl, hq1, up_B hqB (by decide), fun H5 f nf k5 e5 => ?_⟩
        have lf := lo_low (p := s.1) (q := s.2 * ((size - i : Nat) : Int)) (by omega)
        have fB : FrB 210 (lo s.1 (s.2 * ((size - i : Nat) : Int))) := lo_B (by omega) (up_B hsB.1 (by decide)) hqB
        have fv : rv (lo s.1 (s.2 * ((size - i : Nat) : Int))) = (((srtF ts).map fun t => rv t.2).take (((srtF ts).map fun t => rv t.2).length - i)).sum / ((size - i : Nat) : Rat) := by
          rw [rv_lo (by omega), ← hsv]
          have e1 : ((s.2 * ((size - i : Nat) : Int) : Int) : Rat) = (s.2 : Rat) * ((size - i : Nat) : Rat) := by exact_mod_cast rfl
          have n1 : (s.2 : Rat) ≠ 0 := ratNe (by omega)
          have n2 : ((size - i : Nat) : Rat) ≠ 0 := castNe (by omega)
          rw [e1]
          unfold rv
          grind
        have k35 := (k3.trans k4).trans k5
        have er5 := k35.get nin0 er'
        walk_at "z"
        refine Z.lenL (lstL er5) ?_
        rw [frefs_len, hlen]
        walk_at "z"
        have eix : ((ts.length : Nat) : Int) - (i : Int) - 1 = ((ts.length - i - 1 : Nat) : Int) := by omega
        rw [eix]
        have hx : (srtF ts)[ts.length - i - 1]? = some (srtF ts)[ts.length - i - 1] := List.getElem?_eq_getElem (by omega)
        have hxS : ((srtF ts).map fun t => rv t.2)[((srtF ts).map fun t => rv t.2).length - i - 1] = rv ((srtF ts)[ts.length - i - 1]).2 := by
          rw [List.getElem_map]
          congr 3
          rw [hSl]
        have hdone := fun hge => thrR_done (i := i) hSp hSs hS1 hi (by omega) ha hm hge
        have hstep := fun hlt => abvR_step (i := i) hSs hi (by omega) hm hlt
        rw [hxS] at hdone hstep
        generalize (srtF ts)[ts.length - i - 1] = x at hx hdone hstep hxS
        have hxm := List.mem_of_getElem? hx
        have hxW := hWs x hxm
        have hxf := (hA.kp0 k35) x hxm
        refine Z.ixL (lstL er5) (atI_nat (by unfold frefs; rw [List.getElem?_map, hx]; rfl)) ?_
        walk_at "z"
        refine ⟨f, x.1, _, x.2, rfl, e5, hxf, fB.mono (by decide), hxW.B.mono (by decide), ?_⟩
        have hcmp := fless_iff (f := lo s.1 (s.2 * ((size - i : Nat) : Int))) (g := x.2) lf.1 hxW.low.1
        rw [hcmp, fv]
        have e25 : ExtN H H5 := (e1.trans e2).trans (ext_kp k35)
        have T5 := tabs_kp T2 k35
        walk_at "z"
        refine Z.iteN (fun h2 => ?_) (fun h2 => ?_)
        · walk_at "z"
          refine q H5 f _ e25 T5 e5 lf ?_
          rw [fv]
          exact hdone (by simpa using h2)
        · walk_at "z"
          refine ⟨_, _, _, _, rfl, e25, T5, hstep ?_⟩
          have h3 : (((srtF ts).map fun t => rv t.2).take (((srtF ts).map fun t => rv t.2).length - i)).sum / ((size - i : Nat) : Rat) < rv x.2 := by simpa using h2
          have n2 : (0 : Rat) < ((size - i : Nat) : Rat) := natR_pos (by omega)
          have h4 := Rat.mul_lt_mul_of_pos_right h3 n2
          rw [Rat.div_mul_cancel (fun z => by rw [z] at n2; exact absurd n2 (by decide))] at h4
          exact h4
      · rintro σ' H1 ⟨y2, y3, y4, y5, rfl, e1, T1, ha⟩
        exact (abvR_end hS1 s1 (by omega) ha).elim
end thr36b

/-! ### the threshold of all weights is a small fraction -/
section thr36c
def wRx (x : Addr × Row) : Rat := (x.2.w : Rat)
theorem thr_ex {xs : List (Addr × Row)} (hW : ∀ x ∈ xs, RowW x.2) (h6 : xs.length ≤ 6) {size : Nat} (s1 : 1 ≤ size) : ∃ f : Fr, Low f ∧ FrB 13 f ∧ 0 ≤ f.1 ∧ f.2 ≤ (size : Int) ∧ Thr (xs.map wRx) size (rv f) := by
  by_cases hn : size < xs.length
  · have hperm : ((wts xs).mergeSort fun a b => decide (a ≤ b)).Perm (wts xs) := List.mergeSort_perm _ _
    have hs : ((wts xs).mergeSort fun a b => decide (a ≤ b)).Pairwise (· ≤ ·) := by
      have h := List.pairwise_mergeSort (le := fun a b : Int => decide (a ≤ b)) (fun a b c h1 h2 => by simp at *; omega) (fun a b => by simp; omega) (wts xs)
      exact h.imp fun h => by simpa using h
    generalize (wts xs).mergeSort (fun a b => decide (a ≤ b)) = S at hperm hs
    have hw : ∀ w ∈ S, 1 ≤ w ∧ w ≤ 1000 := fun w hw => by
      obtain ⟨x, hx, rfl⟩ := List.mem_map.mp (hperm.mem_iff.mp hw)
      exact ⟨by have := (hW x hx).w0; omega, (hW x hx).w1⟩
    have hl : S.length = xs.length := by rw [hperm.length_eq]; unfold wts; rw [List.length_map]
    have key : ∀ j, j ≤ size → Abv S size j ∨ ∃ i, i < size ∧ ∃ hm : S.length - i - 1 < S.length, Abv S size i ∧ ¬ (S.take (S.length - i)).sum < S[S.length - i - 1] * ((size - i : Nat) : Int) := by
      intro j
      induction j with
      | zero => exact fun _ => .inl (abv_zero _ _)
      | succ j ih =>
        intro hj
        rcases ih (by omega) with h | h
        · have hm : S.length - j - 1 < S.length := by omega
          by_cases hlt : (S.take (S.length - j)).sum < S[S.length - j - 1] * ((size - j : Nat) : Int)
          · exact .inl (abv_step hs (fun w h => (hw w h).1) (by omega) (by omega) hm hlt)
          · exact .inr ⟨j, by omega, hm, h, hlt⟩
        · exact .inr h
    rcases key size (Nat.le_refl _) with h | ⟨i, hi, hm, ha, hge⟩
    · exact (abv_end (fun w h => (hw w h).1) s1 (by omega) h).elim
    · have hd := thr_done hperm hs (fun w h => (hw w h).1) hi (by omega) ha hm hge
      have hB : (S.take (S.length - i)).sum.natAbs ≤ 6000 ∧ 0 ≤ (S.take (S.length - i)).sum := by
        have h := sum_leI (c := 1000) (l := S.take (S.length - i)) fun w h => by
          have := hw w (List.mem_of_mem_take h)
          omega
        rw [List.length_take] at h
        have h2 := (sum_pos (l := S.take (S.length - i)) fun w h => (hw w (List.mem_of_mem_take h)).1).1
        omega
      generalize (S.take (S.length - i)).sum = s at hd hB
      have hq : ((size - i : Nat) : Int) ≠ 0 := by omega
      have hlow := lo_low (p := s) hq
      have hv : rv (lo s ((size - i : Nat) : Int)) = (s : Rat) / ((size - i : Nat) : Rat) := by
        rw [rv_lo hq]
        have e : (((size - i : Nat) : Int) : Rat) = ((size - i : Nat) : Rat) := by exact_mod_cast rfl
        rw [e]
      refine ⟨lo s ((size - i : Nat) : Int), hlow, lo_B hq (by omega) (by rw [Int.natAbs_natCast]; omega), ?_, ?_, ?_⟩
      · by_cases z : 0 ≤ (lo s ((size - i : Nat) : Int)).1
        · exact z
        · have h1 : rv (lo s ((size - i : Nat) : Int)) < 0 := by
            have h2 := (rv_lt (f := lo s ((size - i : Nat) : Int)) (g := (0, 1)) hlow.1 (by decide)).mp (by show _ * 1 < 0 * _; omega)
            rwa [rv_zero] at h2
          have := thr_nonneg hd
          rw [hv] at h1
          grind
      · have h2 := lo_abs2 (p := s) hq
        rw [Int.natAbs_natCast] at h2
        have := hlow.1
        omega
      · rw [hv]
        have e : (wts xs).map (fun w : Int => (w : Rat)) = xs.map wRx := by unfold wts; rw [List.map_map]; rfl
        rw [← e]
        exact hd
  · exact ⟨(0, 1), low_zero, ⟨by decide, by decide⟩, by decide, by show (1 : Int) ≤ _; omega, ⟨fun _ => rv_zero, fun h => by rw [List.length_map] at h; omega⟩⟩
end thr36c

/-! ### leaves of drops, and their means -/
section math36
open Classical
variable {α : Type}
def mxR (a t : Rat) : Rat := if a < t then t else a
def shr (a t : Rat) : Rat := if a < t then a / t else 1
noncomputable def ind (S : List α) (x : α) : Rat := if x ∈ S then 1 else 0
def ex (L : List (Rat × List α)) (f : List α → Rat) : Rat := (L.map fun l => l.1 * f l.2).sum
theorem ex_nil (f : List α → Rat) : ex [] f = 0 := rfl
theorem ex_cons (l : Rat × List α) (L : List (Rat × List α)) (f : List α → Rat) : ex (l :: L) f = l.1 * f l.2 + ex L f := by unfold ex; rw [List.map_cons, List.sum_cons]
theorem ex_app (L M : List (Rat × List α)) (f : List α → Rat) : ex (L ++ M) f = ex L f + ex M f := by unfold ex; rw [List.map_append, List.sum_append]
theorem ex_rev : ∀ (L : List (Rat × List α)) (f : List α → Rat), ex L.reverse f = ex L f
  | [], _ => rfl
  | l :: L, f => by
    rw [List.reverse_cons, ex_app, ex_rev L f, ex_cons, ex_cons, ex_nil]
    grind
theorem ex_congr {L : List (Rat × List α)} {f g : List α → Rat} (h : ∀ l ∈ L, f l.2 = g l.2) : ex L f = ex L g := by
  unfold ex
  rw [List.map_congr_left fun l hl => by rw [h l hl]]
theorem ex_mulr (c : Rat) (f : List α → Rat) : ∀ L : List (Rat × List α), ex L (fun S => f S * c) = ex L f * c
  | [] => by rw [ex_nil, ex_nil]; grind
  | l :: L => by rw [ex_cons, ex_cons, ex_mulr c f L]; grind
theorem ex_add (f g : List α → Rat) : ∀ L : List (Rat × List α), ex L (fun S => f S + g S) = ex L f + ex L g
  | [] => by rw [ex_nil, ex_nil, ex_nil]; grind
  | l :: L => by rw [ex_cons, ex_cons, ex_cons, ex_add f g L]; grind
theorem ex_zero : ∀ L : List (Rat × List α), ex L (fun _ => 0) = 0
  | [] => ex_nil _
  | l :: L => by rw [ex_cons, ex_zero L]; grind
theorem ex_le {f g : List α → Rat} : ∀ {L : List (Rat × List α)}, (∀ l ∈ L, 0 ≤ l.1) → (∀ l ∈ L, f l.2 ≤ g l.2) → ex L f ≤ ex L g
  | [], _, _ => by rw [ex_nil, ex_nil]; grind
  | l :: L, h0, h => by
    have ih := ex_le (L := L) (fun l hl => h0 l (by simp [hl])) (fun l hl => h l (by simp [hl]))
    have := Rat.mul_le_mul_of_nonneg_left (h l (by simp)) (h0 l (by simp))
    rw [ex_cons, ex_cons]
    grind
theorem ex_sum {β : Type} (F : β → List α → Rat) (L : List (Rat × List α)) : ∀ X : List β, ex L (fun S => (X.map fun x => F x S).sum) = (X.map fun x => ex L (F x)).sum
  | [] => ex_zero L
  | x :: X => by
    rw [List.map_cons, List.sum_cons, ← ex_sum F L X, ← ex_add]
    refine ex_congr fun l _ => ?_
    rw [List.map_cons, List.sum_cons]
/-! one dropped -/
def gone (a : α → Rat) (t : Rat) (x : α) : Rat := 1 - shr (a x) t
noncomputable def dropsR (a : α → Rat) (t c : Rat) : List α → List α → List (Rat × List α)
  | _, [] => []
  | pre, x :: r => (if gone a t x = 0 then [] else [(c * gone a t x, pre ++ r)]) ++ dropsR a t c (pre ++ [x]) r
noncomputable def nextR (size : Nat) (a : α → Rat) (t c : Rat) (S : List α) : List (Rat × List α) := if S.length ≤ size then [(c, S)] else (dropsR a t c [] S).reverse
theorem dropsR_ex {a : α → Rat} {t c : Rat} {f : List α → Rat} {g : α → Rat} : ∀ {post pre : List α}, (∀ p y r, pre ++ post = p ++ y :: r → f (p ++ r) = g y) → ex (dropsR a t c pre post) f = c * (post.map fun y => gone a t y * g y).sum
  | [], pre, _ => by
    show (0 : Rat) = c * 0
    grind
  | x :: r, pre, h => by
    have ih := dropsR_ex (a := a) (t := t) (c := c) (f := f) (g := g) (post := r) (pre := pre ++ [x]) fun p y r' e => h p y r' (by rw [← e]; simp)
    have h1 := h pre x r rfl
    unfold dropsR
    rw [ex_app, ih, List.map_cons, List.sum_cons]
    split
    · rename_i z
      rw [z, ex_nil]
      grind
    · rw [ex_cons, ex_nil]
      dsimp only
      rw [h1]
      grind
theorem dropsR_mem {a : α → Rat} {t c : Rat} : ∀ {post pre : List α} {l : Rat × List α}, l ∈ dropsR a t c pre post → ∃ p y r, pre ++ post = p ++ y :: r ∧ gone a t y ≠ 0 ∧ l = (c * gone a t y, p ++ r)
  | [], pre, l, h => by cases h
  | x :: r, pre, l, h => by
    unfold dropsR at h
    rcases List.mem_append.mp h with h | h
    · split at h
      · cases h
      · rename_i z
        rw [List.mem_singleton.mp h]
        exact ⟨pre, x, r, rfl, z, rfl⟩
    · obtain ⟨p, y, r', e, z, e2⟩ := dropsR_mem h
      exact ⟨p, y, r', by rw [← e]; simp, z, e2⟩
theorem ind_cut {S p r : List α} {x y : α} (hn : S.Nodup) (e : S = p ++ y :: r) : ind (p ++ r) x = if x = y then 0 else ind S x := by
  subst e
  have h1 := List.nodup_append.mp hn
  have h2 := List.nodup_cons.mp h1.2.1
  have hy : y ∉ p := fun z => h1.2.2 y z y (by simp) rfl
  unfold ind
  by_cases hx : x = y
  · subst hx
    rw [if_neg (by simp [hy, h2.1]), if_pos rfl]
  · rw [if_neg hx]
    have : x ∈ p ++ r ↔ x ∈ p ++ y :: r := by simp [hx]
    rw [show (if x ∈ p ++ r then (1 : Rat) else 0) = if x ∈ p ++ y :: r then 1 else 0 by simp only [this]]
theorem sum_skip (g : α → Rat) (c : Rat) (x : α) : ∀ {S : List α}, S.Nodup → (S.map fun y => g y * (if x = y then 0 else c)).sum = c * (S.map g).sum - c * ind S x * g x
  | [], _ => by
    unfold ind
    rw [if_neg (by simp)]
    show (0 : Rat) = c * 0 - _
    grind
  | y :: S, h => by
    obtain ⟨h1, h2⟩ := List.nodup_cons.mp h
    have ih := sum_skip g c x h2
    rw [List.map_cons, List.sum_cons, List.map_cons, List.sum_cons, ih]
    unfold ind
    by_cases hx : x = y
    · subst hx
      rw [if_pos rfl, if_neg h1, if_pos (by simp)]
      grind
    · rw [if_neg hx]
      have : x ∈ y :: S ↔ x ∈ S := by simp [hx]
      simp only [this]
      grind
theorem sum_skip2 (g : α → Rat) (c : Rat) {x z : α} (hxz : x ≠ z) : ∀ {S : List α}, S.Nodup → (S.map fun y => g y * ((if x = y then 0 else 1) * (if z = y then 0 else 1) * c)).sum = c * (S.map g).sum - c * ind S x * g x - c * ind S z * g z
  | [], _ => by
    unfold ind
    rw [if_neg (by simp), if_neg (by simp)]
    show (0 : Rat) = c * 0 - _ - _
    grind
  | y :: S, h => by
    obtain ⟨h1, h2⟩ := List.nodup_cons.mp h
    have ih := sum_skip2 g c hxz h2
    rw [List.map_cons, List.sum_cons, List.map_cons, List.sum_cons, ih]
    unfold ind
    by_cases hx : x = y
    · subst hx
      have hz : z ∈ x :: S ↔ z ∈ S := by simp [Ne.symm hxz]
      rw [if_pos rfl, if_neg h1, if_pos (show x ∈ x :: S by simp)]
      simp only [hz]
      grind
    · rw [if_neg hx]
      have e1 : x ∈ y :: S ↔ x ∈ S := by simp [hx]
      by_cases hz : z = y
      · subst hz
        rw [if_pos rfl, if_neg h1, if_pos (show z ∈ z :: S by simp)]
        simp only [e1]
        grind
      · rw [if_neg hz]
        have e2 : z ∈ y :: S ↔ z ∈ S := by simp [hz]
        simp only [e1, e2]
        grind
/-! thresholds of leaves -/
def dSum (W : α → Rat) (T : Rat) (S : List α) : Rat := (S.map fun y => mxR (W y) T - W y).sum
theorem cap_d (W : α → Rat) (T : Rat) : ∀ S : List α, cap T (S.map W) + dSum W T S = (S.length : Rat) * T
  | [] => by show (0 : Rat) + 0 = ((0 : Nat) : Rat) * T; grind
  | y :: S => by
    have ih := cap_d W T S
    show ((if W y < T then W y else T) + cap T (S.map W)) + ((mxR (W y) T - W y) + dSum W T S) = _
    have e : ((S.length + 1 : Nat) : Rat) = (S.length : Rat) + 1 := by exact_mod_cast rfl
    rw [List.length_cons, e]
    unfold mxR
    split <;> grind
theorem cap_mx (W : α → Rat) {T t : Rat} (h : T ≤ t) : ∀ S : List α, cap t (S.map fun y => mxR (W y) T) = cap t (S.map W) + dSum W T S
  | [] => by show (0 : Rat) = 0 + 0; grind
  | y :: S => by
    have ih := cap_mx W h S
    show (if mxR (W y) T < t then mxR (W y) T else t) + cap t (S.map fun y => mxR (W y) T) = ((if W y < t then W y else t) + cap t (S.map W)) + ((mxR (W y) T - W y) + dSum W T S)
    rw [ih]
    unfold mxR
    (repeat' split) <;> grind
theorem d_ge (W : α → Rat) (T : Rat) : ∀ S : List α, 0 ≤ dSum W T S
  | [] => by show (0 : Rat) ≤ 0; grind
  | y :: S => by
    have ih := d_ge W T S
    show 0 ≤ (mxR (W y) T - W y) + dSum W T S
    unfold mxR
    split <;> grind
structure LeafR (W : α → Rat) (X : List α) (size : Nat) (T : Rat) (S : List α) : Prop where
  nd : S.Nodup
  sub : ∀ x ∈ S, x ∈ X
  len : S.length = min size X.length
  big : ∀ x ∈ X, T ≤ W x → x ∈ S
theorem mem_split {X S : List α} (hX : X.Nodup) (hS : S.Nodup) (sub : ∀ x ∈ S, x ∈ X) : ∃ R, X.Perm (S ++ R) := by
  induction S generalizing X with
  | nil => exact ⟨X, List.Perm.refl _⟩
  | cons y S ih =>
    obtain ⟨h1, h2⟩ := List.nodup_cons.mp hS
    obtain ⟨p, r, e⟩ := List.append_of_mem (sub y (by simp))
    have pm : X.Perm (y :: (p ++ r)) := by rw [e]; exact List.perm_middle
    have hpr : (p ++ r).Nodup := (List.nodup_cons.mp (pm.nodup_iff.mp hX)).2
    obtain ⟨R, hR⟩ := ih hpr h2 fun x hx => by
      have := pm.mem_iff.mp (sub x (by simp [hx]))
      rcases List.mem_cons.mp this with rfl | h
      · exact absurd hx h1
      · exact h
    exact ⟨R, pm.trans (hR.cons y)⟩
theorem mx_zero {W : α → Rat} : ∀ {S : List α}, (∀ x ∈ S, 0 < W x) → (S.map fun y => mxR (W y) 0) = S.map W := fun {S} h => List.map_congr_left fun x hx => by
  have := h x hx
  unfold mxR
  rw [if_neg (by grind)]
/-- the leaf's adjusted weights have the caps of all weights -/
theorem LeafR.capE {W : α → Rat} {X S : List α} {size : Nat} {T t : Rat} (hp : ∀ x ∈ X, 0 < W x) (hX : X.Nodup) (L : LeafR W X size T S) (hT : Thr (X.map W) size T) (h : T ≤ t) : cap t (S.map fun y => mxR (W y) T) = cap t (X.map W) := by
  obtain ⟨R, pm⟩ := mem_split hX L.nd L.sub
  have hl := pm.length_eq
  rw [List.length_append] at hl
  have hlen := L.len
  by_cases hb : size < X.length
  · have hlow : ∀ y ∈ R, W y < T := fun y hy => by
      by_cases z : W y < T
      · exact z
      · have h1 := L.big y (pm.mem_iff.mpr (by simp [hy])) (by grind)
        have h2 := (List.nodup_append.mp (pm.nodup_iff.mp hX)).2.2 y h1 y hy
        exact absurd rfl h2
    have e1 : ∀ s, cap s (X.map W) = cap s (S.map W) + cap s (R.map W) := fun s => by rw [cap_perm (pm.map W), List.map_append, cap_app]
    have e2 : ∀ s, T ≤ s → cap s (R.map W) = (R.map W).sum := fun s hs => cap_low fun w hw => by
      obtain ⟨y, hy, rfl⟩ := List.mem_map.mp hw
      have := hlow y hy
      grind
    rw [cap_mx W h, e1, e2 t h]
    have h3 := cap_d W T S
    have hc := (hT.big (by rw [List.length_map]; exact hb)).2
    rw [e1, e2 T (by grind)] at hc
    have : S.length = size := by omega
    rw [this] at h3
    grind
  · have hR : R = [] := List.length_eq_zero_iff.mp (by omega)
    have hT0 := hT.small (by rw [List.length_map]; omega)
    rw [hT0, mx_zero fun x hx => hp x (L.sub x hx)]
    rw [hR, List.append_nil] at pm
    exact (cap_perm (pm.map W)).symm
/-- thresholds grow -/
theorem thr_grow {W : α → Rat} {X : List α} {x : α} {size : Nat} {T T' : Rat} (hp : ∀ y ∈ X ++ [x], 0 < W y) (hT : Thr (X.map W) size T) (hT' : Thr ((X ++ [x]).map W) size T') : T ≤ T' := by
  by_cases hb : size < X.length
  · have h := hT.big (by rw [List.length_map]; exact hb)
    refine thr_ge (fun w hw => ?_) hT' (by rw [List.length_map, List.length_append]; omega) h.1 ?_
    · obtain ⟨y, hy, rfl⟩ := List.mem_map.mp hw
      exact hp y hy
    · rw [List.map_append, cap_app, h.2]
      have := cap_ge (t := T) (by grind) (ws := [x].map W) fun w hw => by
        obtain ⟨y, hy, rfl⟩ := List.mem_map.mp hw
        exact hp y (by simp_all)
      grind
  · rw [hT.small (by rw [List.length_map]; omega)]
    exact thr_nonneg hT'
/-- what a leaf and one more weigh -/
noncomputable def aw (W : α → Rat) (T : Rat) (x : α) (y : α) : Rat := if y = x then W x else mxR (W y) T
theorem aw_new (W : α → Rat) (T : Rat) (x : α) : aw W T x x = W x := if_pos rfl
theorem aw_old {W : α → Rat} {T : Rat} {x y : α} (h : y ≠ x) : aw W T x y = mxR (W y) T := if_neg h
structure Grow (W : α → Rat) (X : List α) (x : α) (size : Nat) (T T' : Rat) (S S' : List α) : Prop where
  pos : ∀ y ∈ X ++ [x], 0 < W y
  nd : (X ++ [x]).Nodup
  thr : Thr (X.map W) size T
  thr' : Thr ((X ++ [x]).map W) size T'
  leaf : LeafR W X size T S
  pm : S'.Perm (S ++ [x])
section grow
variable {W : α → Rat} {X : List α} {x : α} {size : Nat} {T T' : Rat} {S S' : List α}
theorem Grow.notX (G : Grow W X x size T T' S S') : x ∉ X := fun h => (List.nodup_append.mp G.nd).2.2 x h x (by simp) rfl
theorem Grow.notS (G : Grow W X x size T T' S S') : x ∉ S := fun h => G.notX (G.leaf.sub x h)
theorem Grow.ndS (G : Grow W X x size T T' S S') : S'.Nodup := G.pm.nodup_iff.mpr (List.nodup_append.mpr ⟨G.leaf.nd, by simp, fun a ha b hb => by
  rw [List.mem_singleton.mp hb]
  rintro rfl
  exact G.notS ha⟩)
theorem Grow.ndX (G : Grow W X x size T T' S S') : X.Nodup := (List.nodup_append.mp G.nd).1
theorem Grow.posX (G : Grow W X x size T T' S S') : ∀ y ∈ X, 0 < W y := fun y hy => G.pos y (by simp [hy])
theorem Grow.sub (G : Grow W X x size T T' S S') : ∀ y ∈ S', y ∈ X ++ [x] := fun y hy => by
  have := G.pm.mem_iff.mp hy
  rcases List.mem_append.mp this with h | h
  · simp [G.leaf.sub y h]
  · simp_all
theorem Grow.len (G : Grow W X x size T T' S S') : S'.length = min size X.length + 1 := by
  rw [G.pm.length_eq, List.length_append, G.leaf.len]; rfl
theorem Grow.le (G : Grow W X x size T T' S S') : T ≤ T' := thr_grow G.pos G.thr G.thr'
theorem Grow.maps (G : Grow W X x size T T' S S') : (S'.map (aw W T x)).Perm ((S.map fun y => mxR (W y) T) ++ [W x]) := by
  have h := G.pm.map (aw W T x)
  rw [List.map_append] at h
  have e1 : S.map (aw W T x) = S.map fun y => mxR (W y) T := List.map_congr_left fun y hy => aw_old fun z => G.notS (z ▸ hy)
  have e2 : [x].map (aw W T x) = [W x] := by rw [List.map_singleton, aw_new]
  rwa [e1, e2] at h
theorem Grow.awpos (G : Grow W X x size T T' S S') : ∀ y ∈ S', 0 < aw W T x y := fun y hy => by
  have h0 := G.pos y (G.sub y hy)
  unfold aw
  split
  · rename_i z
    rw [← z]; exact h0
  · unfold mxR
    split <;> grind
/-- the threshold of a leaf and one more is that of all weights -/
theorem Grow.thrS (G : Grow W X x size T T' S S') (hb : size ≤ X.length) : Thr (S'.map (aw W T x)) size T' := by
  refine ⟨fun h => ?_, fun _ => ?_⟩
  · rw [List.length_map, G.len] at h
    omega
  · have h := G.thr'.big (by rw [List.length_map, List.length_append]; show size < X.length + 1; omega)
    refine ⟨h.1, ?_⟩
    rw [cap_perm G.maps, cap_app, G.leaf.capE G.posX G.ndX G.thr G.le, ← h.2, List.map_append, cap_app]
    rfl
theorem shr_sum {a : α → Rat} {t : Rat} (ht : 0 < t) : ∀ S : List α, (S.map fun y => gone a t y).sum * t = (S.length : Rat) * t - cap t (S.map a)
  | [] => by show (0 : Rat) * t = ((0 : Nat) : Rat) * t - 0; grind
  | y :: S => by
    have ih := shr_sum (a := a) ht S
    have e : ((S.length + 1 : Nat) : Rat) = (S.length : Rat) + 1 := by exact_mod_cast rfl
    have t0 : t ≠ 0 := by grind
    rw [List.map_cons, List.sum_cons, List.length_cons, e]
    show (gone a t y + _) * t = _ - ((if a y < t then a y else t) + cap t (S.map a))
    unfold gone shr at *
    split <;> grind
theorem Grow.sum (G : Grow W X x size T T' S S') (hb : size ≤ X.length) : (S'.map fun y => gone (aw W T x) T' y).sum = 1 := by
  have h := G.thrS hb
  have hl := G.len
  have hb2 := h.big (by rw [List.length_map]; omega)
  have h1 := shr_sum (a := aw W T x) hb2.1 S'
  rw [hb2.2, show S'.length = size + 1 by omega] at h1
  have e : ((size + 1 : Nat) : Rat) = (size : Rat) + 1 := by exact_mod_cast rfl
  rw [e] at h1
  have := hb2.1
  have t0 : T' ≠ 0 := by grind
  have h2 : ((S'.map fun y => gone (aw W T x) T' y).sum - 1) * T' = 0 := by grind
  rcases Rat.mul_eq_zero.mp h2 with h3 | h3
  · grind
  · exact absurd h3 t0
theorem Grow.shr_adj (G : Grow W X x size T T' S S') {y : α} (hy : y ∈ X ++ [x]) : shr (aw W T x y) T' * mxR (W y) T' = aw W T x y := by
  have h0 := G.pos y hy
  have hle := G.le
  have hT0 := thr_nonneg G.thr
  unfold aw shr mxR
  by_cases hx : y = x
  · subst hx
    rw [if_pos rfl]
    split
    · have t0 : T' ≠ 0 := by grind
      grind
    · grind
  · rw [if_neg hx]
    by_cases h1 : W y < T
    · rw [if_pos h1]
      by_cases h2 : T < T'
      · rw [if_pos h2, if_pos (by grind)]
        have t0 : T' ≠ 0 := by grind
        grind
      · rw [if_neg h2]
        split <;> grind
    · rw [if_neg h1]
      split
      · have t0 : T' ≠ 0 := by grind
        grind
      · grind
theorem Grow.gone01 (G : Grow W X x size T T' S S') {y : α} (hy : y ∈ X ++ [x]) : 0 ≤ gone (aw W T x) T' y ∧ gone (aw W T x) T' y ≤ 1 := by
  have h0 : 0 < aw W T x y := by
    have h0 := G.pos y hy
    unfold aw
    split
    · rename_i z
      rw [← z]; exact h0
    · unfold mxR
      split <;> grind
  unfold gone shr
  split
  · rename_i h1
    have t0 : 0 < T' := by grind
    have h2 : aw W T x y / T' * T' = aw W T x y := by
      have : T' ≠ 0 := by grind
      grind
    constructor
    · have : aw W T x y / T' ≤ 1 := by
        by_cases z : aw W T x y / T' ≤ 1
        · exact z
        · have := Rat.mul_lt_mul_of_pos_right (show 1 < aw W T x y / T' by grind) t0
          grind
      grind
    · have : 0 ≤ aw W T x y / T' := by
        rw [Rat.div_def]
        have := Rat.mul_pos h0 (Rat.inv_pos.mpr t0)
        grind
      grind
  · constructor <;> grind
end grow
end math36

section math36b
open Classical
variable {α : Type} {W : α → Rat} {X : List α} {x : α} {size : Nat} {T T' : Rat}
structure InvR (W : α → Rat) (X : List α) (size : Nat) (T : Rat) (L : List (Rat × List α)) : Prop where
  leaf : ∀ l ∈ L, 0 ≤ l.1 ∧ l.1 ≤ 1 ∧ LeafR W X size T l.2
  one : ex L (fun _ => 1) = 1
  m1 : ∀ y ∈ X, ex L (fun S => ind S y) * mxR (W y) T = W y
  m2 : ∀ y ∈ X, ∀ z ∈ X, y ≠ z → ex L (fun S => ind S y * ind S z) * (mxR (W y) T * mxR (W z) T) ≤ W y * W z
/-- the leaves behind one leaf -/
def NextR (W : α → Rat) (x : α) (size : Nat) (T T' : Rat) (l : Rat × List α) (Ls : List (Rat × List α)) : Prop := ∃ S', S'.Perm (l.2 ++ [x]) ∧ Ls = nextR size (aw W T x) T' l.1 S'
inductive NextsR (W : α → Rat) (x : α) (size : Nat) (T T' : Rat) : List (Rat × List α) → List (Rat × List α) → Prop where
  | nil : NextsR W x size T T' [] []
  | cons {l : Rat × List α} {L Ls M : List (Rat × List α)} : NextR W x size T T' l Ls → NextsR W x size T T' L M → NextsR W x size T T' (l :: L) (Ls ++ M)
theorem NextsR.snoc {L M Ls : List (Rat × List α)} {l : Rat × List α} (h : NextsR W x size T T' L M) (g : NextR W x size T T' l Ls) : NextsR W x size T T' (L ++ [l]) (M ++ Ls) := by
  induction h with
  | nil =>
    have := NextsR.cons g NextsR.nil
    rwa [List.append_nil] at this
  | cons a b ih =>
    rw [List.cons_append, List.append_assoc]
    exact .cons a ih
theorem NextsR.exE {f g : List α → Rat} {L M : List (Rat × List α)} (h : NextsR W x size T T' L M) (hf : ∀ l ∈ L, ∀ Ls, NextR W x size T T' l Ls → ex Ls f = l.1 * g l.2) : ex M f = ex L g := by
  induction h with
  | nil => rfl
  | cons a b ih =>
    rw [ex_app, ex_cons, hf _ (by simp) _ a, ih fun l hl => hf l (by simp [hl])]
theorem NextsR.mem {L M : List (Rat × List α)} (h : NextsR W x size T T' L M) : ∀ m ∈ M, ∃ l ∈ L, ∃ Ls, NextR W x size T T' l Ls ∧ m ∈ Ls := by
  induction h with
  | nil => intro m hm; cases hm
  | cons a b ih =>
    intro m hm
    rcases List.mem_append.mp hm with hm | hm
    · exact ⟨_, by simp, _, a, hm⟩
    · obtain ⟨l, hl, Ls, h1, h2⟩ := ih m hm
      exact ⟨l, by simp [hl], Ls, h1, h2⟩
theorem mul01 {a b : Rat} (h1 : 0 ≤ a) (h2 : a ≤ 1) (h3 : 0 ≤ b) (h4 : b ≤ 1) : 0 ≤ a * b ∧ a * b ≤ 1 := by
  have := Rat.mul_nonneg h1 h3
  have := Rat.mul_le_mul_of_nonneg_right h2 h3
  constructor <;> grind
theorem ind_perm {S S' : List α} (p : S'.Perm S) (y : α) : ind S' y = ind S y := by
  unfold ind
  have : y ∈ S' ↔ y ∈ S := p.mem_iff
  simp only [this]
theorem ind_snoc {S : List α} {x y : α} (h : x ∉ S) : ind (S ++ [x]) y = if y = x then 1 else ind S y := by
  unfold ind
  by_cases z : y = x
  · subst z
    rw [if_pos (by simp), if_pos rfl]
  · have : y ∈ S ++ [x] ↔ y ∈ S := by simp [z]
    simp only [this]
    rw [if_neg z]
theorem ind01 (S : List α) (y : α) : ind S y = 0 ∨ ind S y = 1 := by unfold ind; split <;> simp
theorem ind_mul (S : List α) (y : α) (a b : Rat) (h : y ∈ S → a = b) : ind S y * a = ind S y * b := by
  unfold ind
  split
  · rename_i z
    rw [h z]
  · grind
theorem leafR_next {S S' : List α} (G : Grow W X x size T T' S S') {c : Rat} (hc0 : 0 ≤ c) (hc1 : c ≤ 1) : ∀ m ∈ nextR size (aw W T x) T' c S', 0 ≤ m.1 ∧ m.1 ≤ 1 ∧ LeafR W (X ++ [x]) size T' m.2 := by
  intro m hm
  unfold nextR at hm
  have hl := G.len
  split at hm
  · rename_i hs
    rw [List.mem_singleton.mp hm]
    refine ⟨hc0, hc1, G.ndS, G.sub, by rw [List.length_append]; show S'.length = min size (X.length + 1); omega, fun y hy _ => ?_⟩
    have hXS : ∀ z ∈ X, z ∈ S := fun z hz => by
      have h0 := G.thr.small (by rw [List.length_map]; omega)
      exact G.leaf.big z hz (by have := G.posX z hz; grind)
    refine G.pm.mem_iff.mpr ?_
    rcases List.mem_append.mp hy with h | h
    · exact List.mem_append.mpr (.inl (hXS y h))
    · exact List.mem_append.mpr (.inr h)
  · rename_i hs
    obtain ⟨p, y, r, e, hg, rfl⟩ := dropsR_mem (List.mem_reverse.mp hm)
    rw [List.nil_append] at e
    have hyS : y ∈ S' := by rw [e]; simp
    have hg1 := G.gone01 (G.sub y hyS)
    have hnd := G.ndS
    have h01 := mul01 hc0 hc1 hg1.1 hg1.2
    refine ⟨h01.1, h01.2, ?_, ?_, ?_, ?_⟩
    · rw [e] at hnd
      exact (List.nodup_cons.mp (List.perm_middle.nodup_iff.mp hnd)).2
    · intro z hz
      exact G.sub z (by rw [e]; rcases List.mem_append.mp hz with h | h <;> simp [h])
    · have h2 := congrArg List.length e
      rw [List.length_append, List.length_cons] at h2
      rw [List.length_append, List.length_append]
      show p.length + r.length = min size (X.length + 1)
      omega
    · intro z hz hbig
      have hle := G.le
      have hzS : z ∈ S' := by
        refine G.pm.mem_iff.mpr ?_
        rcases List.mem_append.mp hz with h | h
        · exact List.mem_append.mpr (.inl (G.leaf.big z h (by grind)))
        · exact List.mem_append.mpr (.inr h)
      have hzy : z ≠ y := by
        rintro rfl
        refine hg ?_
        unfold gone shr
        have : T' ≤ aw W T x z := by
          unfold aw mxR
          split
          · rename_i h; rw [← h]; exact hbig
          · split <;> grind
        rw [if_neg (by grind)]
        grind
      rw [e] at hzS
      rcases List.mem_append.mp hzS with h | h
      · exact List.mem_append.mpr (.inl h)
      · rcases List.mem_cons.mp h with h | h
        · exact absurd h hzy
        · exact List.mem_append.mpr (.inr h)
/-- what a drop does to the means -/
theorem next_ind {S S' : List α} (G : Grow W X x size T T' S S') {c : Rat} (hb : size ≤ X.length) (y : α) : ex (nextR size (aw W T x) T' c S') (fun S => ind S y) = c * (ind S' y * shr (aw W T x y) T') := by
  have hl := G.len
  unfold nextR
  rw [if_neg (by omega), ex_rev, dropsR_ex (g := fun z => if y = z then 0 else ind S' y)]
  · rw [sum_skip _ _ _ G.ndS, G.sum hb]
    rcases ind01 S' y with h | h <;> rw [h] <;> unfold gone <;> grind
  · intro p z r e
    rw [List.nil_append] at e
    exact ind_cut G.ndS e
theorem next_ind2 {S S' : List α} (G : Grow W X x size T T' S S') {c : Rat} (hb : size ≤ X.length) {y z : α} (hyz : y ≠ z) : ex (nextR size (aw W T x) T' c S') (fun S => ind S y * ind S z) = c * (ind S' y * ind S' z * (1 - gone (aw W T x) T' y - gone (aw W T x) T' z)) := by
  have hl := G.len
  unfold nextR
  rw [if_neg (by omega), ex_rev, dropsR_ex (g := fun v => (if y = v then 0 else 1) * (if z = v then 0 else 1) * (ind S' y * ind S' z))]
  · rw [sum_skip2 _ _ hyz G.ndS, G.sum hb]
    rcases ind01 S' y with h | h <;> rcases ind01 S' z with h2 | h2 <;> rw [h, h2] <;> grind
  · intro p v r e
    rw [List.nil_append] at e
    rw [ind_cut G.ndS e, ind_cut G.ndS e]
    split <;> split <;> grind
theorem next_one {S S' : List α} (G : Grow W X x size T T' S S') {c : Rat} : ex (nextR size (aw W T x) T' c S') (fun _ => 1) = c := by
  have hl := G.len
  unfold nextR
  split
  · rw [ex_cons, ex_nil]; grind
  · rename_i h
    rw [ex_rev, dropsR_ex (g := fun _ => 1)]
    · have e : (S'.map fun y => gone (aw W T x) T' y * 1) = S'.map fun y => gone (aw W T x) T' y := List.map_congr_left fun y _ => by grind
      rw [e, G.sum (by omega)]; grind
    · intros; rfl
theorem InvR.step {L M : List (Rat × List α)} (hp : ∀ y ∈ X ++ [x], 0 < W y) (hn : (X ++ [x]).Nodup) (hT : Thr (X.map W) size T) (hT' : Thr ((X ++ [x]).map W) size T') (I : InvR W X size T L) (N : NextsR W x size T T' L M) : InvR W (X ++ [x]) size T' M := by
  have GG : ∀ l ∈ L, ∀ S', S'.Perm (l.2 ++ [x]) → Grow W X x size T T' l.2 S' := fun l hl S' pm => ⟨hp, hn, hT, hT', (I.leaf l hl).2.2, pm⟩
  have hxX : x ∉ X := fun h => (List.nodup_append.mp hn).2.2 x h x (by simp) rfl
  have hle := thr_grow hp hT hT'
  have hT0 := thr_nonneg hT
  have hone : ex M (fun _ => 1) = 1 := by
    rw [N.exE (g := fun _ => 1) fun l hl Ls ⟨S', pm, e⟩ => by rw [e, next_one (GG l hl S' pm)]; grind]
    exact I.one
  have hinS : ∀ l ∈ L, ∀ S', S'.Perm (l.2 ++ [x]) → ∀ y, ind S' y = if y = x then 1 else ind l.2 y := fun l hl S' pm y => by
    rw [ind_perm pm, ind_snoc (GG l hl S' pm).notS]
  refine ⟨fun m hm => ?_, hone, fun y hy => ?_, fun y hy z hz hyz => ?_⟩
  · obtain ⟨l, hl, Ls, ⟨S', pm, e⟩, hmL⟩ := N.mem m hm
    rw [e] at hmL
    exact leafR_next (GG l hl S' pm) (I.leaf l hl).1 (I.leaf l hl).2.1 m hmL
  · by_cases hb : size ≤ X.length
    · have e1 : ex M (fun S => ind S y) = ex L (fun S => (if y = x then 1 else ind S y)) * shr (aw W T x y) T' := by
        rw [N.exE (g := fun S => (if y = x then 1 else ind S y) * shr (aw W T x y) T') fun l hl Ls ⟨S', pm, e⟩ => by rw [e, next_ind (GG l hl S' pm) hb, hinS l hl S' pm]]
        exact ex_mulr _ _ _
      have hG : shr (aw W T x y) T' * mxR (W y) T' = aw W T x y := by
        by_cases hL : L = []
        · have := I.one
          rw [hL] at this
          exact absurd this (by rw [ex_nil]; decide)
        · obtain ⟨l, r, rfl⟩ := List.exists_cons_of_ne_nil hL
          exact (GG l (by simp) _ (List.Perm.refl _)).shr_adj hy
      rw [e1]
      by_cases hyx : y = x
      · simp only [if_pos hyx]
        rw [I.one]
        subst hyx
        rw [aw_new] at hG ⊢
        grind
      · simp only [if_neg hyx]
        rw [aw_old hyx] at hG ⊢
        have := I.m1 y (by simp_all)
        grind
    · have h0 := hT.small (by rw [List.length_map]; omega)
      have h0' := hT'.small (by rw [List.length_map, List.length_append]; show X.length + 1 ≤ size; omega)
      have e1 : ex M (fun S => ind S y) = ex L (fun S => (if y = x then 1 else ind S y)) := by
        refine N.exE fun l hl Ls ⟨S', pm, e⟩ => ?_
        have G := GG l hl S' pm
        have hl2 := G.len
        rw [e]
        unfold nextR
        rw [if_pos (by omega), ex_cons, ex_nil, hinS l hl S' pm]
        grind
      rw [e1]
      have hy0 := hp y hy
      have em : mxR (W y) T' = W y := by unfold mxR; rw [h0', if_neg (by grind)]
      have em2 : mxR (W y) T = W y := by unfold mxR; rw [h0, if_neg (by grind)]
      rw [em]
      by_cases hyx : y = x
      · simp only [if_pos hyx]
        rw [I.one]
        grind
      · simp only [if_neg hyx]
        have := I.m1 y (by simp_all)
        rwa [em2] at this
  · have hy0 := hp y hy
    have hz0 := hp z hz
    by_cases hb : size ≤ X.length
    · have hL : ∃ l, l ∈ L := by
        by_cases hL : L = []
        · have := I.one
          rw [hL] at this
          exact absurd this (by rw [ex_nil]; decide)
        · obtain ⟨l, r, rfl⟩ := List.exists_cons_of_ne_nil hL
          exact ⟨l, by simp⟩
      obtain ⟨l0, hl0⟩ := hL
      have G0 := GG l0 hl0 _ (List.Perm.refl _)
      have hgy := G0.gone01 hy
      have hgz := G0.gone01 hz
      have hay := G0.shr_adj hy
      have haz := G0.shr_adj hz
      have e1 : ex M (fun S => ind S y * ind S z) = ex L (fun S => (if y = x then 1 else ind S y) * (if z = x then 1 else ind S z)) * (1 - gone (aw W T x) T' y - gone (aw W T x) T' z) := by
        rw [N.exE (g := fun S => (if y = x then 1 else ind S y) * (if z = x then 1 else ind S z) * (1 - gone (aw W T x) T' y - gone (aw W T x) T' z)) fun l hl Ls ⟨S', pm, e⟩ => by rw [e, next_ind2 (GG l hl S' pm) hb hyz, hinS l hl S' pm, hinS l hl S' pm]]
        exact ex_mulr _ _ _
      rw [e1]
      have hE0 : 0 ≤ ex L (fun S => (if y = x then 1 else ind S y) * (if z = x then 1 else ind S z)) := by
        have := ex_le (L := L) (f := fun _ => 0) (g := fun S => (if y = x then 1 else ind S y) * (if z = x then 1 else ind S z)) (fun l hl => (I.leaf l hl).1) fun l _ => by
          rcases ind01 l.2 y with h | h <;> rcases ind01 l.2 z with h2 | h2 <;> rw [h, h2] <;> split <;> split <;> grind
        rwa [ex_zero] at this
      have hbound : ex L (fun S => (if y = x then 1 else ind S y) * (if z = x then 1 else ind S z)) * (aw W T x y * aw W T x z) ≤ W y * W z := by
        by_cases hyx : y = x
        · have hzx : z ≠ x := fun h => hyz (hyx.trans h.symm)
          have e2 : ex L (fun S => (if y = x then 1 else ind S y) * (if z = x then 1 else ind S z)) = ex L (fun S => ind S z) := ex_congr fun l _ => by rw [if_pos hyx, if_neg hzx]; grind
          rw [e2, aw_old hzx]
          have h3 := I.m1 z (by simp_all)
          have h4 : aw W T x y = W y := by rw [hyx, aw_new]
          rw [h4]
          have h9 : ex L (fun S => ind S z) * (W y * mxR (W z) T) = W y * (ex L (fun S => ind S z) * mxR (W z) T) := by grind
          rw [h9, h3]
          exact Rat.le_refl
        · by_cases hzx : z = x
          · have e2 : ex L (fun S => (if y = x then 1 else ind S y) * (if z = x then 1 else ind S z)) = ex L (fun S => ind S y) := ex_congr fun l _ => by rw [if_neg hyx, if_pos hzx]; grind
            rw [e2, aw_old hyx]
            have h3 := I.m1 y (by simp_all)
            have h4 : aw W T x z = W z := by rw [hzx, aw_new]
            rw [h4]
            have h9 : ex L (fun S => ind S y) * (mxR (W y) T * W z) = ex L (fun S => ind S y) * mxR (W y) T * W z := by grind
            rw [h9, h3]
            exact Rat.le_refl
          · have e2 : ex L (fun S => (if y = x then 1 else ind S y) * (if z = x then 1 else ind S z)) = ex L (fun S => ind S y * ind S z) := ex_congr fun l _ => by rw [if_neg hyx, if_neg hzx]
            rw [e2, aw_old hyx, aw_old hzx]
            exact I.m2 y (by simp_all) z (by simp_all) hyz
      have hmy : 0 < mxR (W y) T' := by unfold mxR; split <;> grind
      have hmz : 0 < mxR (W z) T' := by unfold mxR; split <;> grind
      have hmm := Rat.mul_pos hmy hmz
      have hgg := Rat.mul_nonneg hgy.1 hgz.1
      unfold gone at *
      generalize ex L (fun S => (if y = x then 1 else ind S y) * (if z = x then 1 else ind S z)) = E at *
      generalize shr (aw W T x y) T' = s at *
      generalize shr (aw W T x z) T' = u at *
      have h5 : (1 - (1 - s) - (1 - u)) ≤ s * u := by grind
      have h6 := Rat.mul_le_mul_of_nonneg_left h5 hE0
      have h7 := Rat.mul_le_mul_of_nonneg_right h6 (show 0 ≤ mxR (W y) T' * mxR (W z) T' by grind)
      have h8 : E * (s * u) * (mxR (W y) T' * mxR (W z) T') = E * (aw W T x y * aw W T x z) := by rw [← hay, ← haz]; grind
      grind
    · have h0 := hT.small (by rw [List.length_map]; omega)
      have h0' := hT'.small (by rw [List.length_map, List.length_append]; show X.length + 1 ≤ size; omega)
      have em : mxR (W y) T' = W y := by unfold mxR; rw [h0', if_neg (by grind)]
      have em2 : mxR (W z) T' = W z := by unfold mxR; rw [h0', if_neg (by grind)]
      have hle1 : ex M (fun S => ind S y * ind S z) ≤ ex M (fun _ => 1) := ex_le (fun m hm => by
        obtain ⟨l, hl, Ls, ⟨S', pm, e⟩, hmL⟩ := N.mem m hm
        rw [e] at hmL
        exact (leafR_next (GG l hl S' pm) (I.leaf l hl).1 (I.leaf l hl).2.1 m hmL).1) fun l _ => by rcases ind01 l.2 y with h | h <;> rcases ind01 l.2 z with h2 | h2 <;> rw [h, h2] <;> grind
      rw [hone] at hle1
      rw [em, em2]
      have := Rat.mul_le_mul_of_nonneg_right hle1 (show 0 ≤ W y * W z by have := Rat.mul_pos hy0 hz0; grind)
      grind
/-- the sum over a leaf as a sum over all -/
theorem sum_ind (h : α → Rat) : ∀ {X S : List α}, S.Nodup → X.Nodup → (∀ y ∈ S, y ∈ X) → (S.map h).sum = (X.map fun y => h y * ind S y).sum := by
  intro X S hS hX sub
  obtain ⟨R, pm⟩ := mem_split hX hS sub
  have hsumP : ∀ {a b : List Rat}, a.Perm b → a.sum = b.sum := fun p => by
    induction p with
    | nil => rfl
    | cons x _ ih => rw [List.sum_cons, List.sum_cons, ih]
    | swap x y l => rw [List.sum_cons, List.sum_cons, List.sum_cons, List.sum_cons]; grind
    | trans _ _ h1 h2 => rw [h1, h2]
  rw [hsumP (pm.map fun y => h y * ind S y), List.map_append, List.sum_append]
  have e1 : (S.map fun y => h y * ind S y) = S.map h := List.map_congr_left fun y hy => by unfold ind; rw [if_pos hy]; grind
  have e2 : (R.map fun y => h y * ind S y) = R.map fun _ => (0 : Rat) := List.map_congr_left fun y hy => by
    unfold ind
    rw [if_neg fun z => (List.nodup_append.mp (pm.nodup_iff.mp hX)).2.2 y z y hy rfl]
    grind
  have e3 : ∀ R : List α, (R.map fun _ => (0 : Rat)).sum = 0 := fun R => by
    induction R with
    | nil => rfl
    | cons a r ih => rw [List.map_cons, List.sum_cons, ih]; grind
  rw [e1, e2, e3]
  grind
end math36b

section math36c
open Classical
variable {α : Type} {W : α → Rat} {X : List α} {size : Nat} {T : Rat} {L : List (Rat × List α)}
def hE (W : α → Rat) (T : Rat) (am : α → Rat) (y : α) : Rat := am y / W y * mxR (W y) T
def sgl (W : α → Rat) (T : Rat) (am : α → Rat) (y : α) : Rat := am y / W y * (am y / W y) * (W y * (mxR (W y) T - W y))
def varE (W : α → Rat) (T : Rat) (am : α → Rat) (y : α) : Rat := am y / W y * (am y / W y) * (mxR (W y) T * (mxR (W y) T - W y))
theorem ex_mull (c : Rat) (f : List α → Rat) (L : List (Rat × List α)) : ex L (fun S => c * f S) = c * ex L f := by
  rw [Rat.mul_comm, ← ex_mulr]
  exact ex_congr fun l _ => Rat.mul_comm _ _
theorem InvR.exS (I : InvR W X size T L) (hX : X.Nodup) (h : α → Rat) : ex L (fun S => (S.map h).sum) = (X.map fun y => h y * ex L (fun S => ind S y)).sum := by
  rw [ex_congr (g := fun S => (X.map fun y => h y * ind S y).sum) fun l hl => sum_ind h (I.leaf l hl).2.2.nd hX (I.leaf l hl).2.2.sub, ex_sum]
  congr 1
  exact List.map_congr_left fun y _ => ex_mull _ _ _
theorem InvR.mean (I : InvR W X size T L) (hX : X.Nodup) (hp : ∀ y ∈ X, 0 < W y) (am : α → Rat) : ex L (fun S => (S.map (hE W T am)).sum) = (X.map am).sum := by
  rw [I.exS hX]
  congr 1
  refine List.map_congr_left fun y hy => ?_
  have h1 := I.m1 y hy
  have h2 := hp y hy
  have h3 : W y ≠ 0 := by grind
  unfold hE
  have e : am y / W y * mxR (W y) T * ex L (fun S => ind S y) = am y / W y * (ex L (fun S => ind S y) * mxR (W y) T) := by grind
  rw [e, h1]
  grind
theorem InvR.told (I : InvR W X size T L) (hX : X.Nodup) (am : α → Rat) : ex L (fun S => (S.map (varE W T am)).sum) = (X.map (sgl W T am)).sum := by
  rw [I.exS hX]
  congr 1
  refine List.map_congr_left fun y hy => ?_
  have h1 := I.m1 y hy
  unfold varE sgl
  have e : am y / W y * (am y / W y) * (mxR (W y) T * (mxR (W y) T - W y)) * ex L (fun S => ind S y) = am y / W y * (am y / W y) * ((ex L (fun S => ind S y) * mxR (W y) T) * (mxR (W y) T - W y)) := by grind
  rw [e, h1]
theorem InvR.one_mean (I : InvR W X size T L) (hp : ∀ y ∈ X, 0 < W y) (am : α → Rat) {y : α} (hy : y ∈ X) : ex L (fun S => ind S y * hE W T am y) = am y := by
  rw [ex_mulr]
  have h1 := I.m1 y hy
  have h2 := hp y hy
  have h3 : W y ≠ 0 := by grind
  unfold hE
  have e : ex L (fun S => ind S y) * (am y / W y * mxR (W y) T) = am y / W y * (ex L (fun S => ind S y) * mxR (W y) T) := by grind
  rw [e, h1]
  grind
theorem InvR.one_spread (I : InvR W X size T L) (hp : ∀ y ∈ X, 0 < W y) (am : α → Rat) {y : α} (hy : y ∈ X) : ex L (fun S => (ind S y * hE W T am y - am y) * (ind S y * hE W T am y - am y)) = sgl W T am y := by
  have hm := I.one_mean hp am hy
  have h1 := I.m1 y hy
  have h2 := hp y hy
  have h3 : W y ≠ 0 := by grind
  have e : ex L (fun S => (ind S y * hE W T am y - am y) * (ind S y * hE W T am y - am y)) = ex L (fun S => ind S y * hE W T am y * (hE W T am y - 2 * am y) + 1 * (am y * am y)) := ex_congr fun l _ => by
    rcases ind01 l.2 y with h | h <;> rw [h] <;> grind
  have e7 : ex L (fun _ => 1 * (am y * am y)) = ex L (fun _ => 1) * (am y * am y) := ex_mulr _ _ _
  rw [ex_mulr] at hm
  rw [e, ex_add, ex_mulr, ex_mulr, hm, e7, I.one]
  unfold hE sgl
  grind
theorem sum_mul {β : Type} (f g : β → Rat) (Y : List β) : ∀ X : List β, (X.map f).sum * (Y.map g).sum = (X.map fun y => (Y.map fun z => f y * g z).sum).sum
  | [] => by show (0 : Rat) * _ = 0; grind
  | x :: X => by
    have ih := sum_mul f g Y X
    have e : ∀ Y : List β, (Y.map fun z => f x * g z).sum = f x * (Y.map g).sum := fun Y => by
      induction Y with
      | nil => show (0 : Rat) = f x * 0; grind
      | cons a r ih => rw [List.map_cons, List.sum_cons, List.map_cons, List.sum_cons, ih]; grind
    rw [List.map_cons, List.sum_cons, List.map_cons, List.sum_cons, ← ih, e]
    grind
theorem sum_leQ {β : Type} {f g : β → Rat} : ∀ {X : List β}, (∀ y ∈ X, f y ≤ g y) → (X.map f).sum ≤ (X.map g).sum
  | [], _ => by show (0 : Rat) ≤ 0; grind
  | x :: X, h => by
    have h1 := h x (by simp)
    have h2 := sum_leQ (X := X) fun y hy => h y (by simp [hy])
    rw [List.map_cons, List.sum_cons, List.map_cons, List.sum_cons]
    grind
theorem sum_addR {β : Type} (f g : β → Rat) : ∀ X : List β, (X.map fun y => f y + g y).sum = (X.map f).sum + (X.map g).sum
  | [] => by show (0 : Rat) = 0 + 0; grind
  | x :: X => by
    rw [List.map_cons, List.sum_cons, List.map_cons, List.sum_cons, List.map_cons, List.sum_cons, sum_addR f g X]; grind
theorem sum_diag {β : Type} (s : Rat) (y : β) : ∀ {X : List β}, X.Nodup → (X.map fun z => if y = z then s else 0).sum = if y ∈ X then s else 0
  | [], _ => by rw [if_neg (by simp)]; rfl
  | x :: X, h => by
    obtain ⟨h1, h2⟩ := List.nodup_cons.mp h
    have ih := sum_diag s y h2
    rw [List.map_cons, List.sum_cons, ih]
    by_cases hx : y = x
    · subst hx
      rw [if_pos rfl, if_neg h1, if_pos (by simp)]; grind
    · have : y ∈ x :: X ↔ y ∈ X := by simp [hx]
      rw [if_neg hx]
      simp only [this]
      grind
theorem InvR.spread (I : InvR W X size T L) (hX : X.Nodup) (hp : ∀ y ∈ X, 0 < W y) (am : α → Rat) (ha : ∀ y ∈ X, 0 ≤ am y) :
    ex L (fun S => ((S.map (hE W T am)).sum - (X.map am).sum) * ((S.map (hE W T am)).sum - (X.map am).sum)) ≤ (X.map (sgl W T am)).sum := by
  have hm := I.mean hX hp am
  have hA : ∀ y ∈ X, 0 < mxR (W y) T := fun y hy => by have := hp y hy; unfold mxR; split <;> grind
  have e : ex L (fun S => ((S.map (hE W T am)).sum - (X.map am).sum) * ((S.map (hE W T am)).sum - (X.map am).sum)) = ex L (fun S => (S.map (hE W T am)).sum * (S.map (hE W T am)).sum) - (X.map am).sum * (X.map am).sum := by
    have e1 : ex L (fun S => ((S.map (hE W T am)).sum - (X.map am).sum) * ((S.map (hE W T am)).sum - (X.map am).sum)) = ex L (fun S => (S.map (hE W T am)).sum * (S.map (hE W T am)).sum + ((S.map (hE W T am)).sum * (-(2 * (X.map am).sum)) + 1 * ((X.map am).sum * (X.map am).sum))) := ex_congr fun l _ => by grind
    rw [e1, ex_add, ex_add, ex_mulr, ex_mulr, hm, I.one]
    grind
  rw [e]
  have e2 : ex L (fun S => (S.map (hE W T am)).sum * (S.map (hE W T am)).sum) = (X.map fun y => (X.map fun z => hE W T am y * hE W T am z * ex L (fun S => ind S y * ind S z)).sum).sum := by
    rw [ex_congr (g := fun S => (X.map fun y => (X.map fun z => (hE W T am y * ind S y) * (hE W T am z * ind S z)).sum).sum) fun l hl => by
      rw [← sum_mul, ← sum_ind _ (I.leaf l hl).2.2.nd hX (I.leaf l hl).2.2.sub], ex_sum]
    congr 1
    refine List.map_congr_left fun y _ => ?_
    rw [ex_sum]
    congr 1
    refine List.map_congr_left fun z _ => ?_
    rw [← ex_mull]
    exact ex_congr fun l _ => by grind
  have e3 : (X.map am).sum * (X.map am).sum + (X.map (sgl W T am)).sum = (X.map fun y => (X.map fun z => am y * am z + (if y = z then sgl W T am y else 0)).sum).sum := by
    rw [sum_mul, ← sum_addR]
    congr 1
    refine List.map_congr_left fun y hy => ?_
    rw [sum_addR, sum_diag _ _ hX, if_pos hy]
  have hle : (X.map fun y => (X.map fun z => hE W T am y * hE W T am z * ex L (fun S => ind S y * ind S z)).sum).sum ≤ (X.map fun y => (X.map fun z => am y * am z + (if y = z then sgl W T am y else 0)).sum).sum := by
    refine sum_leQ fun y hy => sum_leQ fun z hz => ?_
    have hy0 := hp y hy
    have hz0 := hp z hz
    have wy : W y ≠ 0 := by grind
    have wz : W z ≠ 0 := by grind
    by_cases hyz : y = z
    · subst hyz
      rw [if_pos rfl]
      have e4 : ex L (fun S => ind S y * ind S y) = ex L (fun S => ind S y) := ex_congr fun l _ => by rcases ind01 l.2 y with h | h <;> rw [h] <;> grind
      have h1 := I.m1 y hy
      rw [e4]
      have e5 : hE W T am y * hE W T am y * ex L (fun S => ind S y) = am y / W y * (am y / W y) * (mxR (W y) T * (ex L (fun S => ind S y) * mxR (W y) T)) := by unfold hE; grind
      rw [e5, h1]
      have e6 : am y / W y * (am y / W y) * (mxR (W y) T * W y) = am y * am y + sgl W T am y := by unfold sgl; grind
      rw [e6]
      exact Rat.le_refl
    · rw [if_neg hyz]
      have h2 := I.m2 y hy z hz hyz
      have hdy : 0 ≤ am y / W y := by
        rw [Rat.div_def]
        exact Rat.mul_nonneg (ha y hy) (by have := Rat.inv_pos.mpr hy0; grind)
      have hdz : 0 ≤ am z / W z := by
        rw [Rat.div_def]
        exact Rat.mul_nonneg (ha z hz) (by have := Rat.inv_pos.mpr hz0; grind)
      have h3 := Rat.mul_le_mul_of_nonneg_left h2 (Rat.mul_nonneg hdy hdz)
      have e5 : hE W T am y * hE W T am z * ex L (fun S => ind S y * ind S z) = am y / W y * (am z / W z) * (ex L (fun S => ind S y * ind S z) * (mxR (W y) T * mxR (W z) T)) := by unfold hE; grind
      have e6 : am y / W y * (am z / W z) * (W y * W z) = am y * am z := by grind
      rw [e5]
      rw [e6] at h3
      grind
  rw [e2]
  rw [← e3] at hle
  grind
/-- a leaf is whole just if nothing was dropped -/
theorem LeafR.whole {S : List α} (I : LeafR W X size T S) (hX : X.Nodup) (hp : ∀ y ∈ X, 0 < W y) (hT : Thr (X.map W) size T) : (∀ y ∈ S, mxR (W y) T = W y) ↔ X.length ≤ size := by
  constructor
  · intro h
    by_cases hb : size < X.length
    · have hbig := hT.big (by rw [List.length_map]; exact hb)
      obtain ⟨R, pm⟩ := mem_split hX I.nd I.sub
      have hc := I.capE hp hX hT (show T ≤ T by grind)
      have hSl := I.len
      have hcS : cap T (S.map fun y => mxR (W y) T) = (S.length : Rat) * T := by
        have := cap_all (t := T) (ws := S.map fun y => mxR (W y) T) fun w hw => by
          obtain ⟨y, hy, rfl⟩ := List.mem_map.mp hw
          unfold mxR
          split <;> grind
        rwa [List.length_map] at this
      have hall : S.map (fun y => mxR (W y) T) = S.map W := List.map_congr_left fun y hy => h y hy
      have hl := pm.length_eq
      rw [List.length_append] at hl
      have hR : R ≠ [] := fun z => by rw [z, List.length_nil] at hl; omega
      obtain ⟨y, r, rfl⟩ := List.exists_cons_of_ne_nil hR
      have hy : y ∈ X := pm.mem_iff.mpr (by simp)
      have e1 : cap T (X.map W) = cap T (S.map W) + cap T ((y :: r).map W) := by rw [cap_perm (pm.map W), List.map_append, cap_app]
      have h1 : 0 < cap T ((y :: r).map W) := by
        show 0 < (if W y < T then W y else T) + cap T (r.map W)
        have h2 := cap_ge (t := T) (by grind) (ws := r.map W) fun w hw => by
          obtain ⟨z, hz, rfl⟩ := List.mem_map.mp hw
          exact hp z (pm.mem_iff.mpr (by simp [hz]))
        have h3 := hp y hy
        split <;> grind
      rw [hall] at hc
      grind
    · omega
  · intro h y hy
    have h0 := hT.small (by rw [List.length_map]; omega)
    have := hp y (I.sub y hy)
    unfold mxR
    rw [h0, if_neg (by grind)]
end math36c

/-! ### leaves -/
abbrev Pa := (Addr × Row) × Fr
abbrev Lf := Fr × List Pa
def Pt.pa (p : Pt) : Pa := (p.x, p.f)
def lesF (a g : Fr) : Fr := if rv a < rv g then lo (a.1 * g.2) (a.2 * g.1) else (1, 1)
def gnF (g a : Fr) : Fr := fminus (1, 1) (lesF a g)
def raP (g : Fr) (p : Pa) : Pa := (p.1, if rv p.2 < rv g then g else p.2)
def dropsF (g c : Fr) : List Pa → List Pa → List Lf
  | _, [] => []
  | pre, p :: r => (if gnF g p.2 = (0, 1) then [] else [(ftimes c (gnF g p.2), (pre ++ r).map (raP g))]) ++ dropsF g c (pre ++ [p]) r
def nextF (size : Nat) (g c : Fr) (qs : List Pa) : List Lf := if qs.length ≤ size then [(c, qs)] else (dropsF g c [] qs).reverse
def LfAt (K : PySem.W.Frag) (M : List Addr) (H : Hp) (t : Addr) (m : Lf) : Prop := ∃ (a l : Addr) (ps : List Pt), H t = some (.tup [.ref a, .ref l]) ∧ FrAt K H a m.1 ∧ H l = some (.lst (prefs ps)) ∧ PtsAt K H ps ∧ ps.map Pt.pa = m.2 ∧ l ∉ M
section leaf36
variable {K : PySem.W.Frag} {M : List Addr}
open LamX LamK LamQ
theorem PtAt.ext {H H' : Hp} {p : Pt} (h : PtAt K H p) (e : ExtN H H') : PtAt K H' p := ⟨ext_get e h.at_, ext_get e h.row, ext_tup e h.fr⟩
theorem PtsAt.ext {H H' : Hp} {ps : List Pt} (h : PtsAt K H ps) (e : ExtN H H') : PtsAt K H' ps := fun p hp => (h p hp).ext e
theorem LfAt.ext {H H' : Hp} {t : Addr} {m : Lf} (h : LfAt K M H t m) (e : ExtN H H') : LfAt K M H' t m :=
  let ⟨a, l, ps, h1, h2, h3, h4, h5, h6⟩ := h
  ⟨a, l, ps, ext_get e h1, ext_tup e h2, ext_get e h3, h4.ext e, h5, h6⟩
theorem LfAt.kp0 {H H' : Hp} {t : Addr} {m : Lf} (h : LfAt K M H t m) (k : Kp [] H H') : LfAt K M H' t m := h.ext (ext_kp k)
theorem LfAt.kpx {H H' : Hp} {t : Addr} {m : Lf} {x : Addr} {xs : List V} (h : LfAt K M H t m) (hx : x ∈ M) (k : Kp [x] H H') (e : H x = some (.lst xs)) : LfAt K M H' t m :=
  let ⟨a, l, ps, h1, h2, h3, h4, h5, h6⟩ := h
  ⟨a, l, ps, k.get (nin1 fun z => by rw [z, e] at h1; cases h1) h1, h2.kpl k e, k.get (nin1 fun z => h6 (z ▸ hx)) h3, fun p hp => (h4 p hp).kpx k e fun xs => ⟨by simp, by simp⟩, h5, h6⟩
theorem LfAt.less {H : Hp} {t : Addr} {m : Lf} (h : LfAt K M H t m) : LfAt K [] H t m :=
  let ⟨a, l, ps, h1, h2, h3, h4, h5, h6⟩ := h
  ⟨a, l, ps, h1, h2, h3, h4, h5, by simp⟩
def LfsAt (K : PySem.W.Frag) (M : List Addr) (H : Hp) (ts : List Addr) (ms : List Lf) : Prop := Paired (fun t m => LfAt K M H t m) ts ms
theorem LfsAt.map {M' : List Addr} {H H' : Hp} {ts : List Addr} {ms : List Lf} (h : LfsAt K M H ts ms) (f : ∀ t m, LfAt K M H t m → LfAt K M' H' t m) : LfsAt K M' H' ts ms := by
  induction h with
  | nil => exact .nil
  | cons r t ih => exact .cons (f _ _ r) ih
theorem LfsAt.ext {H H' : Hp} {ts : List Addr} {ms : List Lf} (h : LfsAt K M H ts ms) (e : ExtN H H') : LfsAt K M H' ts ms := h.map fun _ _ r => r.ext e
theorem LfsAt.kp0 {H H' : Hp} {ts : List Addr} {ms : List Lf} (h : LfsAt K M H ts ms) (k : Kp [] H H') : LfsAt K M H' ts ms := h.ext (ext_kp k)
theorem LfsAt.kpx {H H' : Hp} {ts : List Addr} {ms : List Lf} {x : Addr} {xs : List V} (h : LfsAt K M H ts ms) (hx : x ∈ M) (k : Kp [x] H H') (e : H x = some (.lst xs)) : LfsAt K M H' ts ms := h.map fun _ _ r => r.kpx hx k e
theorem LfsAt.less {H : Hp} {ts : List Addr} {ms : List Lf} (h : LfsAt K M H ts ms) : LfsAt K [] H ts ms := h.map fun _ _ r => r.less
theorem LfsAt.len {H : Hp} {ts : List Addr} {ms : List Lf} (h : LfsAt K M H ts ms) : ts.length = ms.length := Paired.length h
theorem LfsAt.snoc {H : Hp} {ts : List Addr} {ms : List Lf} {t : Addr} {m : Lf} (h : LfsAt K M H ts ms) (r : LfAt K M H t m) : LfsAt K M H (ts ++ [t]) (ms ++ [m]) := by
  induction h with
  | nil => exact .cons r .nil
  | cons r t ih => exact .cons r ih
theorem LfsAt.app {H : Hp} {ts us : List Addr} {ms ns : List Lf} (h : LfsAt K M H ts ms) (g : LfsAt K M H us ns) : LfsAt K M H (ts ++ us) (ms ++ ns) := by
  induction h with
  | nil => exact g
  | cons r t ih => exact .cons r ih
theorem LfsAt.get {H : Hp} : ∀ {ts : List Addr} {ms : List Lf} {i : Nat} {v : V}, LfsAt K M H ts ms → (ts.map V.ref)[i]? = some v → ∃ t m, v = .ref t ∧ ms[i]? = some m ∧ LfAt K M H t m
  | _, _, i, v, .nil, h => by simp at h
  | _, _, 0, v, .cons r t, h => by
    simp at h
    exact ⟨_, _, h.symm, rfl, r⟩
  | _, _, i + 1, v, .cons r t, h => by
    obtain ⟨a, f, e1, e2, e3⟩ := LfsAt.get (i := i) t (by simpa using h)
    exact ⟨a, f, e1, by simpa using e2, e3⟩
theorem LfsAt.last {H : Hp} {ms : List Lf} {m : Lf} : ∀ {ts : List Addr}, LfsAt K M H ts (ms ++ [m]) → ∃ us t, ts = us ++ [t] ∧ LfsAt K M H us ms ∧ LfAt K M H t m := by
  induction ms with
  | nil =>
    intro ts h
    cases h with
    | cons r t =>
      cases t
      exact ⟨[], _, rfl, .nil, r⟩
  | cons x ms ih =>
    intro ts h
    cases h with
    | cons r t =>
      obtain ⟨us, u, rfl, h1, h2⟩ := ih t
      exact ⟨_ :: us, u, rfl, .cons r h1, h2⟩
theorem one_low : Low (1, 1) := ⟨by decide, by decide⟩
theorem lesF_ok {a g : Fr} (ha : OkF a) (hg : Low g ∧ 0 < g.1 ∧ FrB 20 g) : Low (lesF a g) ∧ FrB 40 (lesF a g) ∧ rv (lesF a g) = shr (rv a) (rv g) := by
  obtain ⟨g1, g2, g3⟩ := hg
  have a1 := ha.low.1
  have a2 := ha.pos
  have g4 := g1.1
  unfold lesF shr
  split
  · rename_i h
    have hne : a.2 * g.1 ≠ 0 := Int.mul_ne_zero (by omega) (by omega)
    refine ⟨lo_low hne, lo_B hne (mul_B (n := 20) (m := 20) ha.B.1 g3.2) (mul_B (n := 20) (m := 20) ha.B.2 g3.1), ?_⟩
    rw [rv_lo hne]
    have e1 : ((a.1 * g.2 : Int) : Rat) = (a.1 : Rat) * (g.2 : Rat) := by exact_mod_cast rfl
    have e2 : ((a.2 * g.1 : Int) : Rat) = (a.2 : Rat) * (g.1 : Rat) := by exact_mod_cast rfl
    have n1 : (a.2 : Rat) ≠ 0 := ratNe (by omega)
    have n2 : (g.2 : Rat) ≠ 0 := ratNe (by omega)
    have n3 : (g.1 : Rat) ≠ 0 := ratNe (by omega)
    rw [e1, e2]
    unfold rv
    grind
  · exact ⟨one_low, ⟨by decide, by decide⟩, by rw [rv_int]; rfl⟩
theorem gnF_ok {a g : Fr} (ha : OkF a) (hg : Low g ∧ 0 < g.1 ∧ FrB 20 g) : Low (gnF g a) ∧ FrB 50 (gnF g a) ∧ rv (gnF g a) = 1 - shr (rv a) (rv g) := by
  obtain ⟨h1, h2, h3⟩ := lesF_ok ha hg
  have o1 : ((1, 1) : Fr).2 ≠ 0 := by decide
  refine ⟨lo_low (Int.mul_ne_zero o1 h1.ne), (fminus_B (n := 1) (m := 40) ⟨by decide, by decide⟩ h2 o1 h1.ne).mono (by decide), ?_⟩
  unfold gnF
  rw [rv_fminus o1 h1.ne, h3, rv_int]
  rfl
def spLesser (K : PySem.W.Frag) : Sp := fun vs H Q _ => ∃ (a b : Addr) (f g : Fr), vs = [.ref a, .ref b] ∧ FrAt K H a f ∧ FrAt K H b g ∧ OkF f ∧ (Low g ∧ 0 < g.1 ∧ FrB 20 g) ∧ ∀ H' c, Kp [] H H' → FrAt K H' c (lesF f g) → Q (.ref c) H'
theorem ok__law_lesser {P : Program} {w : World} {K : PySem.W.Frag} {mg : Str → Option Value} {base : Heap} (T : T P K mg base) : FnOk P w K mg base CX0 2 T.a__law_lesser T.fd__law_lesser ["weight", "limit"] (spLesser K) := by
  refine T.F__law_lesser.ok sc__law_lesser (fun vs H Q E h => ?_) (fun cdv A outer s H vs Q E hr h => ?_)
  · obtain ⟨a, b, f, g, rfl, _⟩ := h
    rfl
  · obtain ⟨a, b, f, g, rfl, ha, hb, hf, hg, q⟩ := h
    refine ⟨_, (pss_cons (ps_if (PW.pt (pw_or (pt_cmpR op_eq (pe_ix ix_tup (pv 1) pe_int (fun _ _ => rfl)) pe_int (nomark _)) (pw_or (pt_val (pe_call (ok__law_less T) (hr.mono (by decide)) (by rfl) T.g__law_less T.F__law_less.kp T.b__law_less .nil pass0 (pa_cons (pv 1) (pa_cons (pv 0) pa_nil)))) (pw_or1 (pt_cmpR (op_eqD hr.units) (pv 0) (pv 1) (nomark _)))))) (pss_one (ps_ret (pe_tup (pa_cons pe_int (pa_cons pe_int pa_nil))))) pss_nil)
      (pss_one (ps_ret (pe_call (ok__law_low T) (hr.mono (by decide)) (by rfl) T.g__law_low T.F__law_low.kp T.b__law_low .nil pass0 (pa_cons (pe_op op_mulW (pe_ix ix_tup (pv 0) pe_int (fun _ _ => rfl)) (pe_ix ix_tup (pv 1) pe_int (fun _ _ => rfl))) (pa_cons (pe_op op_mulW (pe_ix ix_tup (pv 0) pe_int (fun _ _ => rfl)) (pe_ix ix_tup (pv 1) pe_int (fun _ _ => rfl))) pa_nil)))))), ?_⟩
    walk_at "z0"
    walk_at "z"
    have ff := hf.low.1
    have fp := hf.pos
    obtain ⟨gL, gp, gB⟩ := hg
    have g1 := gL.1
    have fB := hf.B
    refine Z.ixT hb (fr0 g) ?_
    walk_at "z"
    refine Z.no (by omega) ?_
    walk_at "z"
    refine ⟨b, a, g, f, rfl, hb, ha, gB.mono (by decide), fB.mono (by decide), ?_⟩
    rw [fless_iff g1 ff]
    by_cases h1 : rv g < rv f
    · have hle : lesF f g = (1, 1) := by unfold lesF; rw [if_neg (by grind)]
      rw [hle] at q
      refine ⟨_, rfl, Z.yes h1 ?_⟩
      walk_at "z"
      exact Z.tupK (fun c H1 nc k1 e1 => q H1 c k1 (tupT e1))
    · refine ⟨_, rfl, Z.no h1 ?_⟩
      walk_at "z"
      refine eqF ha hb ?_
      by_cases h2 : f = g
      · have hle : lesF f g = (1, 1) := by unfold lesF; rw [h2, if_neg (by grind)]
        rw [hle] at q
        refine ⟨_, rfl, Z.yes h2 ?_⟩
        walk_at "z"
        exact Z.tupK (fun c H1 nc k1 e1 => q H1 c k1 (tupT e1))
      · have hlt : rv f < rv g := by
          have : rv f ≠ rv g := fun z => h2 (low_eq hf.low gL z)
          grind
        have hle : lesF f g = lo (f.1 * g.2) (f.2 * g.1) := by unfold lesF; rw [if_pos hlt]
        rw [hle] at q
        refine ⟨_, rfl, Z.no h2 ?_⟩
        walk_at "z"
        refine Z.ixT ha (fr0 f) ?_
        walk_at "z"
        refine Z.ixT hb (fr1 g) ?_
        walk_at "z"
        refine Z.iC (mul_ok fB.1 gB.2) ?_
        walk_at "z"
        refine Z.ixT ha (fr1 f) ?_
        walk_at "z"
        refine Z.ixT hb (fr0 g) ?_
        walk_at "z"
        refine Z.iC (mul_ok fB.2 gB.1) ?_
        walk_at "z"
        have h0 := Int.mul_pos (show 0 < f.2 by omega) gp
        exact ⟨_, _, rfl, by omega, up_B (mul_B fB.2 gB.1) (by decide), fun H' c nc k e => q _ _ k e⟩
def raL (g : Fr) (ps : List Pa) : List Pa := ps.map (raP g)
def spRaised (K : PySem.W.Frag) : Sp := fun vs H Q _ => ∃ (l b : Addr) (ps : List Pt) (g : Fr), vs = [.ref l, .ref b] ∧ H l = some (.lst (prefs ps)) ∧ PtsAt K H ps ∧ ps.length ≤ 10 ∧ (∀ p ∈ ps, OkF p.f) ∧ FrAt K H b g ∧ Low g ∧ FrB 20 g ∧ ∀ H' D qs, H D = none → Kp [] H H' → H' D = some (.lst (prefs qs)) → PtsAt K H' qs → qs.map Pt.pa = (ps.map Pt.pa).map (raP g) → Q (.ref D) H'
theorem ok__law_raised {P : Program} {w : World} {K : PySem.W.Frag} {mg : Str → Option Value} {base : Heap} (T : T P K mg base) : FnOk P w K mg base CX0 2 T.a__law_raised T.fd__law_raised ["parts", "limit"] (spRaised K) := by
  refine T.F__law_raised.ok sc__law_raised (fun vs H Q E h => ?_) (fun cdv A outer s H vs Q E hr h => ?_)
  · obtain ⟨l, b, ps, g, rfl, _⟩ := h
    rfl
  · obtain ⟨l, b, ps, g, rfl, hl, hps, hn, hok, hb, hgL, hgB, q⟩ := h
    refine ⟨_, (pss_one (ps_ret (pe_lc (own := [("item", 2), ("adjusted", 3)]) (g := gTup K 2 (gCons (gName 2) (gCons (gName 3) gNil))) rfl sc__law_raised.nd (pi_list (pv 0)) (blkOk_by (own := [("item", 2), ("adjusted", 3)]) (N := N__law_raised) (sc := defScope s__law_raised) (by decide +kernel)) (fun _ _ _ _ _ => (pg_tup rfl (pgs_cons (pg_name (i := 2) sc__law_raised.nd rfl (by first | exact Or.inl rfl | exact Or.inr rfl)) (pgs_cons (pg_name (i := 3) sc__law_raised.nd rfl (by first | exact Or.inl rfl | exact Or.inr rfl)) pgs_nil)))) (fun _ _ _ _ _ => pts_nil) (fun _ _ _ _ _ => (pe_tup (pa_cons (pv 2) (pa_cons (pe_ix (ix_list : IxR _ (rIxL K)) (pe_lst (pa_cons (pv 3) (pa_cons (pv 1) pa_nil))) (pe_callTy c_int (by rfl) T.z_int (by decide +kernel) (pa_cons (pe_call (ok__law_less T) (hr.mono (by decide)) (by rfl) T.g__law_less T.F__law_less.kp T.b__law_less .nil pass0 (pa_cons (pv 3) (pa_cons (pv 1) pa_nil))) pa_nil)) (fun _ _ => rfl)) pa_nil))))))), ?_⟩
    walk_at "z0"
    walk_at "z"
    refine Z.lcl (prefs ps) (lstL hl) (fun D i H' => ∃ qs : List Pt, Kp [] H H' ∧ H' D = some (.lst (prefs qs)) ∧ PtsAt K H' qs ∧ qs.map Pt.pa = ((ps.take i).map Pt.pa).map (raP g)) ?_ ?_ ?_ ?_
    · intro D H1 nD k1 e1
      exact ⟨[], k1, e1, (fun p hp => by cases hp), rfl⟩
    · rintro D i H1 nD hi ⟨qs, k1, e1, P1, hq⟩
      exact lstL (k1.get nin0 hl)
    · rintro D i v H1 nD hv ⟨qs, k1, e1, P1, hq⟩
      obtain ⟨p, hp, rfl⟩ := prefs_of hv
      have hpm := List.mem_of_getElem? hp
      have hi : i < ps.length := (List.getElem?_eq_some_iff.mp hp).1
      have hpa := (hps.kp0 k1) p hpm
      have hpo := hok p hpm
      dsimp only [wipe, List.set]
      refine Z.gtup (tupT hpa.at_) rfl ?_
      walk_at "z"
      refine ⟨rfl, ?_⟩
      walk_at "z"
      refine Z.lstK (fun L H2 nL k2 e2 => ?_)
      walk_at "z"
      refine ⟨p.a, b, p.f, g, rfl, hpa.fr.kp0 k2, (hb.kp0 k1).kp0 k2, hpo.B.mono (by decide), hgB.mono (by decide), ?_⟩
      rw [fless_iff hpo.low.1 hgL.1]
      walk_at "z"
      refine Z.ixL (lstL e2) (v := if rv p.f < rv g then .ref b else .ref p.a) ?_ ?_
      · by_cases z : rv p.f < rv g
        · rw [if_pos z, if_pos (by simpa using z)]; rfl
        · rw [if_neg z, if_neg (by simpa using z)]; rfl
      walk_at "z"
      refine Z.tupK (fun t H3 nt k3 e3 => ?_)
      have k23 := k2.trans k3
      have e3D := k23.get nin0 e1
      have hnew : PtAt K H3 ⟨t, p.x, if rv p.f < rv g then b else p.a, if rv p.f < rv g then g else p.f⟩ := by
        by_cases z : rv p.f < rv g
        · simp only [if_pos z] at e3 ⊢
          exact ⟨e3, (hpa.row.kp0 k23), (hb.kp0 k1).kp0 k23⟩
        · simp only [if_neg z] at e3 ⊢
          exact ⟨e3, (hpa.row.kp0 k23), hpa.fr.kp0 k23⟩
      have hlen : qs.length = i := by
        have := congrArg List.length hq
        simp only [List.length_map, List.length_take] at this
        omega
      refine ⟨_, e3D, Z.szl (m := 1000) (by rw [prefs_len]; omega), qs ++ [⟨t, p.x, if rv p.f < rv g then b else p.a, if rv p.f < rv g then g else p.f⟩], (k1.trans k23).mut nD rfl, by rw [upd_same]; unfold prefs; rw [List.map_append]; rfl, ?_, ?_⟩
      · exact fun x hx => (mem_append_one (P1.kp0 k23) hnew x hx).kpx (Kp.put (by simp)) e3D fun xs => ⟨by simp, by simp⟩
      · rw [List.map_append, hq, List.take_add_one, hp, List.map_append, List.map_append]
        rfl
    · rintro D H1 nD ⟨qs, k1, e1, P1, hq⟩
      rw [prefs_len, List.take_length] at hq
      exact q H1 D qs nD k1 e1 P1 hq
end leaf36

section drop36
variable {K : PySem.W.Frag}
open LamX LamK LamQ
def leP (x y : Pt) : Bool := PySem.W.dataLe false (fun z : Pt => ptD z) x y
def sortP (ps : List Pt) : List Pt := ps.mergeSort leP
theorem sortP_perm (ps : List Pt) : (sortP ps).Perm ps := List.mergeSort_perm _ _
theorem sortP_refs (ps : List Pt) : ((ps.map fun x => (V.ref x.t, ptD x)).mergeSort (PySem.W.dataLe false Prod.snd)).map Prod.fst = prefs (sortP ps) := by
  unfold sortP
  rw [← List.map_mergeSort (r := leP) (s := PySem.W.dataLe false Prod.snd) (f := fun x : Pt => (V.ref x.t, ptD x)) (fun _ _ _ _ => rfl), List.map_map]
  rfl
theorem PtsAt.perm {H : Hp} {ps qs : List Pt} (h : qs.Perm ps) (r : PtsAt K H ps) : PtsAt K H qs := fun x hx => r x (h.mem_iff.mp hx)
theorem dpPt {H : Hp} {p : Pt} (h : PtAt K H p) : Dp K H (.ref p.t) (ptD p) := .tup (tupT h.at_) (.cons (dpRow h.row) (.cons (dpF h.fr) .nil))
theorem ptD_depth (p : Pt) : (ptD p).depth ≤ 2 := by simp [ptD, frD, rowD, PyData.depth, PyData.depthAll]
theorem sortedPts {H : Hp} {Q : VK} {a : Addr} {ps : List Pt} (h : SqL K H a (prefs ps)) (r : PtsAt K H ps) (q : ∀ p H1, H p = none → Kp [] H H1 → H1 p = some (.lst (prefs (sortP ps))) → Q (.ref p) H1) : RL.rSortedD K [.ref a] H Q := by
  refine ⟨a, ps.map fun x => (V.ref x.t, ptD x), rfl, by rw [List.map_map]; exact h, ?_, ?_, ?_, ?_, fun p np => ?_⟩
  · intro b hb
    obtain ⟨x, hx, rfl⟩ := List.mem_map.mp hb
    exact dpPt (r x hx)
  · rw [List.map_map]
    exact PySem.W.AllAlike.of fun _ _ => by simp [PySem.W.alike, PySem.W.alikeAll, ptD, rowD, frD]
  · rw [List.map_map]
    exact PySem.W.Sortable.tuples fun _ => ⟨_, _, rfl⟩
  · intro b hb
    obtain ⟨x, hx, rfl⟩ := List.mem_map.mp hb
    have := ptD_depth x
    show (ptD x).depth ≤ 60
    omega
  · rw [sortP_refs]
    exact q p _ np (Kp.new np) upd_same
def paD (p : Pa) : PyData := .tuple [rowD p.1.2, frD p.2]
def lfD (m : Lf) : PyData := .tuple [frD m.1, .list (m.2.map paD)]
theorem dpLf {M : List Addr} {H : Hp} {t : Addr} {m : Lf} (h : LfAt K M H t m) : Dp K H (.ref t) (lfD m) := by
  obtain ⟨a, l, ps, h1, h2, h3, h4, h5, _⟩ := h
  have e : m.2.map paD = ps.map ptD := by rw [← h5, List.map_map]; rfl
  refine .tup (tupT h1) (.cons (dpF h2) (.cons ?_ .nil))
  rw [e]
  exact .lst (lstL h3) (dpPts h4)
theorem dpLfs {M : List Addr} {H : Hp} {ts : List Addr} {ms : List Lf} (h : LfsAt K M H ts ms) : DpAll K H (ts.map V.ref) (ms.map lfD) := by
  induction h with
  | nil => exact .nil
  | cons r t ih => exact .cons (dpLf r) ih
theorem layPas : ∀ {ps : List Pa}, (∀ p ∈ ps, RowS p.1.2) → PyData.canLayAll0 (ps.map paD) = true
  | [], _ => by simp [PyData.canLayAll0]
  | p :: r, h => by
    have ih := layPas (ps := r) fun y hy => h y (by simp [hy])
    show PyData.canLayAll0 (paD p :: r.map paD) = true
    have e : PyData.canLay0 (paD p) = true := by simp [paD, frD, PyData.canLay0, PyData.canLayAll0, rowD_lay (h p (by simp))]
    rw [PyData.canLayAll0, e, ih]; rfl
theorem depthPas : ∀ ps : List Pa, PyData.depthAll (ps.map paD) ≤ 2
  | [] => by simp [PyData.depthAll]
  | p :: r => by
    have ih := depthPas r
    show PyData.depthAll (paD p :: r.map paD) ≤ 2
    have e : (paD p).depth ≤ 2 := by simp [paD, frD, rowD, PyData.depth, PyData.depthAll]
    rw [PyData.depthAll]
    omega
theorem layLfs : ∀ {ms : List Lf}, (∀ m ∈ ms, ∀ p ∈ m.2, RowS p.1.2) → PyData.canLayAll0 (ms.map lfD) = true
  | [], _ => by simp [PyData.canLayAll0]
  | m :: r, h => by
    have ih := layLfs (ms := r) fun y hy => h y (by simp [hy])
    show PyData.canLayAll0 (lfD m :: r.map lfD) = true
    have e : PyData.canLay0 (lfD m) = true := by simp [lfD, frD, PyData.canLay0, PyData.canLayAll0, layPas (h m (by simp))]
    rw [PyData.canLayAll0, e, ih]; rfl
theorem depthLfs : ∀ ms : List Lf, PyData.depthAll (ms.map lfD) ≤ 4
  | [] => by simp [PyData.depthAll]
  | m :: r => by
    have ih := depthLfs r
    show PyData.depthAll (lfD m :: r.map lfD) ≤ 4
    have h := depthPas m.2
    have e : (lfD m).depth ≤ 4 := by
      simp [lfD, frD, PyData.depth, PyData.depthAll]
      omega
    rw [PyData.depthAll]
    omega
theorem shLfs {ms : List Lf} (h : ∀ m ∈ ms, ∀ p ∈ m.2, RowS p.1.2) : SeqAt.shaped (.list (ms.map lfD)) = true := by
  have := depthLfs ms
  simp [SeqAt.shaped, PyData.canLay0, PyData.depth, layLfs h]
  omega
theorem eqNilL {M : List Addr} {H : Hp} {Q : VK} {a b : Addr} {ws : List Addr} {wm : List Lf} (h1 : H a = some (.lst (ws.map V.ref))) (F : LfsAt K M H ws wm) (r : ∀ m ∈ wm, ∀ p ∈ m.2, RowS p.1.2) (h2 : H b = some (.lst [])) (q : Q (.bl (decide (wm = []))) H) : rEqD K (.ref a) (.ref b) H Q := by
  refine ⟨.list (wm.map lfD), .list [], .lst (lstL h1) (dpLfs F), .lst (lstL h2) .nil, shLfs r, by decide, ?_⟩
  have e : PyData.eqv (.list (wm.map lfD)) (.list []) = decide (wm = []) := by
    cases wm <;> simp [PyData.eqv, PyData.eqvAll]
  rw [e]
  exact q
theorem dropsF_len {g c : Fr} : ∀ {post pre : List Pa}, (dropsF g c pre post).length ≤ post.length
  | [], _ => by simp [dropsF]
  | p :: r, pre => by
    have ih := dropsF_len (g := g) (c := c) (post := r) (pre := pre ++ [p])
    unfold dropsF
    rw [List.length_append, List.length_cons]
    split <;> simp <;> omega
theorem dropsF_mem {g c : Fr} : ∀ {post pre : List Pa}, ∀ m ∈ dropsF g c pre post, m.2.length + 1 = pre.length + post.length ∧ ∀ p ∈ m.2, ∃ p' ∈ pre ++ post, p.1 = p'.1
  | [], _, m, h => by cases h
  | p :: r, pre, m, h => by
    unfold dropsF at h
    rcases List.mem_append.mp h with h | h
    · split at h
      · cases h
      · rw [List.mem_singleton.mp h]
        refine ⟨by simp; omega, fun x hx => ?_⟩
        obtain ⟨y, hy, rfl⟩ := List.mem_map.mp hx
        refine ⟨y, ?_, rfl⟩
        rcases List.mem_append.mp hy with h | h <;> simp [h]
    · obtain ⟨h1, h2⟩ := dropsF_mem m h
      refine ⟨by rw [h1]; simp; omega, fun x hx => ?_⟩
      obtain ⟨y, hy, e⟩ := h2 x hx
      exact ⟨y, by simpa using hy, e⟩
theorem dropsF_step {g c : Fr} {q0 : List Pa} {j : Nat} {p : Pa} (h : q0[j]? = some p) : dropsF g c (q0.take j) (q0.drop j) = (if gnF g p.2 = (0, 1) then [] else [(ftimes c (gnF g p.2), (q0.take j ++ q0.drop (j + 1)).map (raP g))]) ++ dropsF g c (q0.take (j + 1)) (q0.drop (j + 1)) := by
  obtain ⟨hj, e⟩ := List.getElem?_eq_some_iff.mp h
  rw [List.drop_eq_getElem_cons hj, e, List.take_add_one, h]
  rfl
def DropC (size : Nat) (g c : Fr) (q0 : List Pa) (i : Nat) (wm fm : List Lf) : Prop :=
  (i = 0 ∧ wm = [(c, q0)] ∧ fm = []) ∨ (1 ≤ i ∧ i ≤ 1 + fm.length ∧ (∀ m ∈ wm, m.2.length ≤ size) ∧ fm ++ wm.reverse = nextF size g c q0 ∧ fm.length + wm.length ≤ 4)
def spDropped (K : PySem.W.Frag) (P : Addr) : Sp := fun vs H Q _ => ∃ (a l : Addr) (c g : Fr) (ps : List Pt) (size : Nat), vs = [.ref a, .ref l, .int (size : Int)] ∧ Tabs [(P, LQ)] H ∧ FrAt K H a c ∧ Low c ∧ FrB 400 c ∧ H l = some (.lst (prefs ps)) ∧ PtsAt K H ps ∧ (∀ p ∈ ps, OkF p.f ∧ RowS p.x.2) ∧ ps.length ≤ size + 1 ∧ 1 ≤ size ∧ size ≤ 3 ∧
  (size < ps.length → Thr (ps.map fun p => rv p.f) size (rv g) ∧ Low g ∧ 0 < g.1 ∧ FrB 20 g) ∧
  ∀ H' D ts ms, ExtN H H' → Tabs [(P, LQ)] H' → H' D = some (.lst (ts.map V.ref)) → LfsAt K [] H' ts ms → (∃ qs, qs.Perm (ps.map Pt.pa) ∧ ms = nextF size g c qs) → Q (.ref D) H'
theorem ok__law_dropped {P : Program} {w : World} {K : PySem.W.Frag} {mg : Str → Option Value} {base : Heap} (T : T P K mg base) : FnOk P w K mg base CX0 5 T.a__law_dropped T.fd__law_dropped ["chance", "parts", "size"] (spDropped K T.P__law_threshold) := by
  refine T.F__law_dropped.ok sc__law_dropped (fun vs H Q E h => ?_) (fun cdv A outer s H vs Q E hr h => ?_)
  · obtain ⟨a, l, c, g, ps, size, rfl, _⟩ := h
    rfl
  · obtain ⟨a, l, c, g, ps, size, rfl, hT, ha, hcL, hcB, hl, hps, hok, hn, s1, s3, hg, q⟩ := h
    refine ⟨_, (pss_cons (ps_set (i := 3) sc__law_dropped.nd rfl (by first | exact Or.inl rfl | exact Or.inr rfl) (pe_lst (pa_cons (pe_tup (pa_cons (pv 0) (pa_cons (pe_callB ((RL.cr_sortedD hr.units) : CallR _ _ (RL.rSortedD K)) (by rfl) T.z_sorted (by decide +kernel) (pa_cons (pv 1) pa_nil)) pa_nil))) pa_nil)))
      (pss_cons (ps_set (i := 4) sc__law_dropped.nd rfl (by first | exact Or.inl rfl | exact Or.inr rfl) (pe_lst pa_nil))
      (Z.pss_consJ (ps_for PassesOwn.never rfl (pi_range1 (by rfl) T.z_range (pa_cons pe_int pa_nil)) (pg_name (i := 5) sc__law_dropped.nd rfl (by first | exact Or.inl rfl | exact Or.inr rfl)) (pss_cons (ps_if (pt_cmpR (op_eqD hr.units) (pv 3) (pe_lst pa_nil) (nomark _)) (pss_one ps_break) pss_nil)
      (pss_cons (ps_asg (pe_bm0 PySem.F.plainAttrs_list PySem.F.slot_list_pop PySem.F.type_list_pop mt_pop (pv 3)) (pg_tup rfl (pgs_cons (pg_name (i := 0) sc__law_dropped.nd rfl (by first | exact Or.inl rfl | exact Or.inr rfl)) (pgs_cons (pg_name (i := 1) sc__law_dropped.nd rfl (by first | exact Or.inl rfl | exact Or.inr rfl)) pgs_nil))))
      (pss_cons (ps_if (pt_cmpR op_le (pe_callB c_len (by rfl) T.z_len (by decide +kernel) (pa_cons (pv 1) pa_nil)) (pv 2) (nomark _)) (pss_cons (ps_expr (pe_bm PySem.F.plainAttrs_list PySem.F.slot_list_append PySem.F.type_list_append mt_append (pv 4) (pa_cons (pe_tup (pa_cons (pv 0) (pa_cons (pv 1) pa_nil))) pa_nil)))
      (pss_one ps_continue)) pss_nil)
      (pss_cons (ps_set (i := 6) sc__law_dropped.nd rfl (by first | exact Or.inl rfl | exact Or.inr rfl) (pe_call (ok__law_threshold T) (hr.mono (by decide)) (by rfl) T.g__law_threshold T.F__law_threshold.kp T.b__law_threshold .nil passL (pa_cons (pe_lc (own := [("one", 9)]) (g := gName 9) rfl sc__law_dropped.nd (pi_list (pv 1)) (blkOk_by (own := [("one", 9)]) (N := N__law_dropped) (sc := defScope s__law_dropped) (by decide +kernel)) (fun _ _ _ _ _ => (pg_name (i := 9) sc__law_dropped.nd rfl (by first | exact Or.inl rfl | exact Or.inr rfl))) (fun _ _ _ _ _ => pts_nil) (fun _ _ _ _ _ => (pe_ix (ix_tup : IxR _ (rIxT K)) (pv 9) pe_int (fun _ _ => rfl)))) (pa_cons (pe_op op_sub (pe_callB c_len (by rfl) T.z_len (by decide +kernel) (pa_cons (pv 1) pa_nil)) pe_int) pa_nil))))
      (pss_one (ps_for PassesOwn.never rfl (pi_range1 (by rfl) T.z_range (pa_cons (pe_callB c_len (by rfl) T.z_len (by decide +kernel) (pa_cons (pv 1) pa_nil)) pa_nil)) (pg_name (i := 7) sc__law_dropped.nd rfl (by first | exact Or.inl rfl | exact Or.inr rfl)) (pss_cons (ps_set (i := 8) sc__law_dropped.nd rfl (by first | exact Or.inl rfl | exact Or.inr rfl) (pe_call (ok__law_minus T) (hr.mono (by decide)) (by rfl) T.g__law_minus T.F__law_minus.kp T.b__law_minus .nil pass0 (pa_cons (pe_tup (pa_cons pe_int (pa_cons pe_int pa_nil))) (pa_cons (pe_call (ok__law_lesser T) (hr.mono (by decide)) (by rfl) T.g__law_lesser T.F__law_lesser.kp T.b__law_lesser .nil pass0 (pa_cons (pe_ix ix_tup (pe_ix ix_list (pv 1) (pv 7) (fun _ _ => rfl)) pe_int (fun _ _ => rfl)) (pa_cons (pv 6) pa_nil))) pa_nil))))
      (pss_one (ps_if (pt_cmpR (op_neD hr.units) (pv 8) (pe_tup (pa_cons pe_int (pa_cons pe_int pa_nil))) (nomark _)) (pss_one (ps_expr (pe_bm PySem.F.plainAttrs_list PySem.F.slot_list_append PySem.F.type_list_append mt_append (pv 3) (pa_cons (pe_tup (pa_cons (pe_call (ok__law_times T) (hr.mono (by decide)) (by rfl) T.g__law_times T.F__law_times.kp T.b__law_times .nil pass0 (pa_cons (pv 0) (pa_cons (pv 8) pa_nil))) (pa_cons (pe_call (ok__law_raised T) (hr.mono (by decide)) (by rfl) T.g__law_raised T.F__law_raised.kp T.b__law_raised .nil pass0 (pa_cons (pe_op op_cat (pe_slice sl_list (pv 1) po_none (po_some (pv 7))) (pe_slice sl_list (pv 1) (po_some (pe_op op_add (pv 7) pe_int)) po_none)) (pa_cons (pv 6) pa_nil))) pa_nil))) pa_nil)))) pss_nil))))))))))
      (pss_one (ps_ret (pv 4)))))), ?_⟩
    walk_at "z0"
    walk_at "z"
    refine sortedPts (lstL hl) hps fun so H1 nso k1 e1 => ?_
    have hsp := sortP_perm ps
    have P1 : PtsAt K H1 (sortP ps) := (hps.kp0 k1).perm hsp
    have hsl : (sortP ps).length = ps.length := hsp.length_eq
    have hso : ∀ p ∈ sortP ps, OkF p.f ∧ RowS p.x.2 := fun p hp => hok p (hsp.mem_iff.mp hp)
    walk_at "z"
    refine Z.tupK (fun t H2 nt k2 e2 => ?_)
    walk_at "z"
    refine Z.lstK (fun W H3 nW k3 e3 => ?_)
    walk_at "z"
    refine Z.lstK (fun F H4 nF k4 e4 => ?_)
    have k12 := k1.trans k2
    have k14 := (k12.trans k3).trans k4
    have nWH : Nw H W := Nw.of (k12.none nin0 nW)
    have nFH : Nw H F := Nw.of ((k12.trans k3).none nin0 nF)
    have nWF : W ≠ F := ne_of_none e3 nF
    have nsW : so ≠ W := ne_of_none (k2.get nin0 e1) nW
    have nsF : so ≠ F := ne_of_none ((k2.trans k3).get nin0 e1) nF
    have L0 : LfAt K [W, F] H4 t (c, (sortP ps).map Pt.pa) := ⟨a, so, sortP ps, (k3.trans k4).get nin0 e2, (ha.kp0 k14), ((k2.trans k3).trans k4).get nin0 e1, (P1.kp0 ((k2.trans k3).trans k4)), rfl, by simp [nsW, nsF]⟩
    generalize hq0 : (sortP ps).map Pt.pa = q0 at L0
    have hq0l : q0.length = ps.length := by rw [← hq0, List.length_map, hsl]
    have hq0r : ∀ p ∈ q0, OkF p.2 ∧ RowS p.1.2 := fun p hp => by
      rw [← hq0] at hp
      obtain ⟨x, hx, rfl⟩ := List.mem_map.mp hp
      exact hso x hx
    have hqp : q0.Perm (ps.map Pt.pa) := by rw [← hq0]; exact hsp.map _
    walk_at "z"
    refine Z.seqJ (fun σ' H' => ∃ (y0 y1 y5 y6 y7 y8 y9 : Option V) (fs : List Addr) (fm : List Lf), σ' = [y0, y1, some (.int (size : Int)), some (.ref W), some (.ref F), y5, y6, y7, y8, y9] ∧ ExtN H H' ∧ Tabs [(T.P__law_threshold, LQ)] H' ∧ H' F = some (.lst (fs.map V.ref)) ∧ LfsAt K [W, F] H' fs fm ∧ fm = nextF size g c q0) ?_ ?_
    · rintro σ' H' ⟨y0, y1, y5, y6, y7, y8, y9, fs, fm, rfl, e5, T5, eF, FF, hfm⟩
      walk_at "z"
      exact q H' F fs fm e5 T5 eF FF.less ⟨q0, hqp, hfm⟩
    · intro N jn
      walk_at "z"
      refine Z.forr 4000 rfl (by decide) (fun i σ' H' => ∃ (y0 y1 y5 y6 y7 y8 y9 : Option V) (ws fs : List Addr) (wm fm : List Lf), σ' = [y0, y1, some (.int (size : Int)), some (.ref W), some (.ref F), y5, y6, y7, y8, y9] ∧ ExtN H H' ∧ Tabs [(T.P__law_threshold, LQ)] H' ∧ H' W = some (.lst (ws.map V.ref)) ∧ LfsAt K [W, F] H' ws wm ∧ (∀ m ∈ wm, ∀ p ∈ m.2, RowS p.1.2) ∧ H' F = some (.lst (fs.map V.ref)) ∧ LfsAt K [W, F] H' fs fm ∧ DropC size g c q0 i wm fm) ?_ ?_ ?_
      · exact ⟨_, _, _, _, _, _, _, [t], [], _, [], rfl, ext_kp k14, tabs_kp hT k14, k4.get nin0 e3, .cons L0 .nil, fun m hm p hp => by rw [List.mem_singleton.mp hm] at hp; exact (hq0r p hp).2, e4, .nil, .inl ⟨rfl, rfl, rfl⟩⟩
      · rintro i σ' H5 hi ⟨y0, y1, y5, y6, y7, y8, y9, ws, fs, wm, fm, rfl, e5, T5, eW, FW, hr5, eF, FF, hc⟩
        walk_at "z"
        refine Z.lstK (fun E H6 nE k6 e6 => ?_)
        have e6x := e5.trans (ext_kp k6)
        have T6 := tabs_kp T5 k6
        have eW6 := k6.get nin0 eW
        have eF6 := k6.get nin0 eF
        have FW6 := FW.kp0 k6
        have FF6 := FF.kp0 k6
        walk_at "z"
        refine eqNilL eW6 FW6 hr5 e6 ?_
        clear e6 nE
        walk_at "z"
        refine Z.ite (fun h1 => ?_) (fun h1 => ?_)
        · walk_at "z"
          refine jn _ _ ⟨_, _, _, _, _, _, _, fs, fm, rfl, e6x, T6, eF6, FF6, ?_⟩
          rcases hc with ⟨_, h2, _⟩ | ⟨_, _, _, h2, _⟩
          · rw [h1] at h2; cases h2
          · rw [h1] at h2
            simpa using h2
        · obtain ⟨wm', m, rfl⟩ : ∃ wm' m, wm = wm' ++ [m] := ⟨wm.dropLast, wm.getLast h1, (List.dropLast_concat_getLast h1).symm⟩
          obtain ⟨us, t', rfl, FU6, L6⟩ := FW6.last
          rw [List.map_append] at eW6
          walk_at "z"
          refine ⟨Z.tyL eW6, Z.popS eW6 ?_⟩
          have k7 : Kp [W] H6 (upd H6 W (.lst (us.map V.ref))) := Kp.put (by simp)
          have eW7 : upd H6 W (.lst (us.map V.ref)) W = some (.lst (us.map V.ref)) := upd_same
          generalize upd H6 W (.lst (us.map V.ref)) = H7 at k7 eW7 ⊢
          have L7 := L6.kpx (by simp) k7 eW6
          have FU7 := FU6.kpx (by simp) k7 eW6
          have FF7 := FF6.kpx (by simp) k7 eW6
          have eF7 := k7.get (nin1 nWF.symm) eF6
          have e7 := ext_put e6x k7 nWH
          have T7 := tabs_put T6 k7 eW6
          clear e5 T5 eW FW eF FF k6 e6x T6 eW6 eF6 FW6 FF6 FU6 L6 k7
          obtain ⟨cA, l', qs, ht', hcA, hl', hP', hqm, hnl⟩ := id L7
          have hqml : qs.length = m.2.length := by rw [← hqm, List.length_map]
          refine Z.gtup (tupT ht') rfl ?_
          walk_at "z"
          refine Z.lenL (lstL hl') ?_
          rw [prefs_len]
          walk_at "z"
          refine Z.ite (fun h2 => ?_) (fun h2 => ?_)
          · walk_at "z"
            refine ⟨Z.tyL eF7, ?_⟩
            walk_at "z"
            refine Z.tupK (fun t2 H8 nt2 k8 e8 => ?_)
            have eF8 := k8.get nin0 eF7
            have FF8 := FF7.kp0 k8
            have L8 : LfAt K [W, F] H8 t2 m := ⟨cA, l', qs, e8, hcA.kp0 k8, k8.get nin0 hl', hP'.kp0 k8, hqm, hnl⟩
            walk_at "z"
            have hfl : fm.length ≤ 4 := by
              rcases hc with ⟨_, _, h3⟩ | ⟨_, _, _, _, h3⟩
              · rw [h3]; decide
              · omega
            refine Z.app eF8 (Z.szl (m := 1000) (by rw [List.length_map, FF8.len]; omega)) ?_
            have k9 : Kp [F] H8 (upd H8 F (.lst (fs.map V.ref ++ [V.ref t2]))) := Kp.put (by simp)
            have eF9 : upd H8 F (.lst (fs.map V.ref ++ [V.ref t2])) F = some (.lst ((fs ++ [t2]).map V.ref)) := by rw [upd_same, List.map_append]; rfl
            generalize upd H8 F (.lst (fs.map V.ref ++ [V.ref t2])) = H9 at k9 eF9 ⊢
            walk_at "z"
            refine ⟨_, _, _, _, _, _, _, us, fs ++ [t2], wm', fm ++ [m], rfl, ext_put (e7.trans (ext_kp k8)) k9 nFH, tabs_put (tabs_kp T7 k8) k9 eF8, k9.get (nin1 nWF) (k8.get nin0 eW7), (FU7.kp0 k8).kpx (by simp) k9 eF8, fun m hm => hr5 m (by simp [hm]), eF9, (FF8.snoc L8).kpx (by simp) k9 eF8, .inr ?_⟩
            rcases hc with ⟨h3, h4, h5⟩ | ⟨h3, h4, h5, h6, h7⟩
            · have h8 : wm' = [] ∧ m = (c, q0) := by
                cases wm' with
                | nil => exact ⟨rfl, by simpa using h4⟩
                | cons x r => simp at h4
              obtain ⟨rfl, rfl⟩ := h8
              subst h5
              refine ⟨by omega, by simp; omega, (fun m hm => by cases hm), ?_, by simp⟩
              unfold nextF
              rw [if_pos (by show q0.length ≤ size; have : q0.length = qs.length := hqml.symm; omega)]
              rfl
            · rw [List.length_append] at h7
              simp only [List.length_cons, List.length_nil] at h7
              refine ⟨by omega, by rw [List.length_append]; simp; omega, fun m hm => h5 m (by simp [hm]), ?_, by rw [List.length_append]; simp; omega⟩
              rw [← h6, List.reverse_append, List.append_assoc]
              rfl
          · have hA : i = 0 ∧ wm' = [] ∧ m = (c, q0) ∧ fm = [] := by
              rcases hc with ⟨h3, h4, h5⟩ | ⟨h3, h4, h5, h6, h7⟩
              · cases wm' with
                | nil => exact ⟨h3, rfl, by simpa using h4, h5⟩
                | cons x r => simp at h4
              · have := h5 m (by simp)
                omega
            obtain ⟨rfl, rfl, rfl, rfl⟩ := hA
            have hus : us = [] := by cases FU7; rfl
            have hfs : fs = [] := by cases FF7; rfl
            subst hus hfs
            have hq1 : qs.length = q0.length := hqml
            have hql : qs.length = size + 1 := by omega
            obtain ⟨hgT, hgL, hg0, hgB⟩ := hg (by omega)
            have hqf : ∀ p ∈ qs, OkF p.f ∧ RowS p.x.2 := fun p hp => hq0r (Pt.pa p) (by
              have : qs.map Pt.pa = q0 := hqm
              rw [← this]
              exact List.mem_map.mpr ⟨p, hp, rfl⟩)
            walk_at "z"
            refine Z.lcl (prefs qs) (lstL hl') (fun D i H' => Kp [] H7 H' ∧ H' D = some (.lst (frefs ((qs.take i).map fun p => (p.a, p.f))))) ?_ ?_ ?_ ?_
            · intro D H8 nD k8 e8
              exact ⟨k8, e8⟩
            · rintro D i H8 nD hi ⟨k8, e8⟩
              exact lstL (k8.get nin0 hl')
            · rintro D i v H8 nD hv ⟨k8, e8⟩
              obtain ⟨p, hp, rfl⟩ := prefs_of hv
              have hi : i < qs.length := (List.getElem?_eq_some_iff.mp hp).1
              have hpa := (hP'.kp0 k8) p (List.mem_of_getElem? hp)
              dsimp only [wipe, List.set]
              walk_at "z"
              refine ⟨rfl, ?_⟩
              walk_at "z"
              refine Z.ixT (tupT hpa.at_) rfl ?_
              refine ⟨_, e8, Z.szl (m := 1000) (by rw [frefs_len, List.length_map, List.length_take]; omega), k8.mut nD rfl, ?_⟩
              rw [upd_same, List.take_add_one, hp]
              unfold frefs
              rw [List.map_append, List.map_append]; rfl
            rintro L H8 nL ⟨k8, e8⟩
            rw [prefs_len, List.take_length] at e8
            walk_at "z"
            refine Z.lenL (lstL (k8.get nin0 hl')) ?_
            rw [prefs_len, hql]
            walk_at "z"
            have esz : ((size + 1 : Nat) : Int) - 1 = (size : Int) := by omega
            rw [esz]
            refine ⟨L, _, size, rfl, tabs_kp T7 k8, e8, ?_, ?_, by rw [List.length_map]; omega, s1, by omega, fun H9 b g' e9 T9 eb hgL' hgT' => ?_⟩
            · intro t ht
              obtain ⟨p, hp, rfl⟩ := List.mem_map.mp ht
              exact ((hP'.kp0 k8) p hp).fr
            · intro t ht
              obtain ⟨p, hp, rfl⟩ := List.mem_map.mp ht
              exact (hqf p hp).1
            have hgg : g' = g := by
              refine low_eq hgL' hgL ?_
              have hpm : (qs.map fun p => rv p.f).Perm (ps.map fun p => rv p.f) := by
                have h9 : qs.map Pt.pa = q0 := hqm
                have h10 := (h9 ▸ hqp : (qs.map Pt.pa).Perm (ps.map Pt.pa)).map fun p : Pa => rv p.2
                rw [List.map_map, List.map_map] at h10
                exact h10
              refine thr_uniq (ws := ps.map fun p => rv p.f) (k := size) (fun w hw => ?_) ?_ hgT
              · obtain ⟨p, hp, rfl⟩ := List.mem_map.mp hw
                exact (rv_pos (hok p hp).1.low.1).mp (hok p hp).1.pos
              · refine Thr.perm ?_ hpm
                rw [List.map_map] at hgT'
                exact hgT'
            subst hgg
            have e79 := (ext_kp k8).trans e9
            have eW9 := ext_get e79 eW7
            have eF9 := ext_get e79 eF7
            have ht9 := ext_get e79 ht'
            have hl9 := ext_get e79 hl'
            have hc9 : FrAt K H9 cA c := ext_tup e79 hcA
            have hP9 := hP'.ext e79
            have e09 := e7.trans e79
            clear k8 e8 nL e9 e79 ht' hcA hl' hP' L7 FU7 FF7 hgT' e7 T7 eW7 eF7
            walk_at "z"
            refine Z.lenL (lstL hl9) ?_
            rw [prefs_len, hql]
            walk_at "z"
            refine Z.forr (size + 1) rfl (by omega) (fun j σ' H' => ∃ (y5 y7 y8 y9 : Option V) (us : List Addr) (acc : List Lf), σ' = [some (.ref cA), some (.ref l'), some (.int (size : Int)), some (.ref W), some (.ref F), y5, some (.ref b), y7, y8, y9] ∧ Kp [W] H9 H' ∧ H' W = some (.lst (us.map V.ref)) ∧ LfsAt K [W, F] H' us acc ∧ acc.length ≤ j ∧ acc ++ dropsF g' c (q0.take j) (q0.drop j) = dropsF g' c [] q0) ?_ ?_ ?_
            · exact ⟨_, _, _, _, [], [], rfl, Kp.refl _, eW9, .nil, by simp, rfl⟩
            · rintro j σ' H10 hj ⟨y5, y7, y8, y9, us, acc, rfl, k10, eW10, FU10, hal, hacc⟩
              have nt1 : ∀ {x : Addr} {xs : List V}, H9 x = some (.tup xs) → x ∉ [W] := fun h => nin1 fun z => by rw [z, eW9] at h; cases h
              have hl10 := k10.get (nin1 fun z => hnl (by simp [z])) hl9
              have hc10 : FrAt K H10 cA c := hc9.kpl k10 eW9
              have hb10 : FrAt K H10 b g' := eb.kpl k10 eW9
              have hP10 : PtsAt K H10 qs := fun p hp => (hP9 p hp).kpx k10 eW9 fun xs => ⟨by simp, by simp⟩
              obtain ⟨p, hp⟩ : ∃ p, qs[j]? = some p := ⟨qs[j]'(by omega), List.getElem?_eq_getElem (by omega)⟩
              have hpm := List.mem_of_getElem? hp
              have hqp' : q0[j]? = some (Pt.pa p) := by
                have h9 : qs.map Pt.pa = q0 := hqm
                rw [← h9, List.getElem?_map, hp]; rfl
              have hst := dropsF_step (g := g') (c := c) hqp'
              rw [hst] at hacc
              walk_at "z"
              refine Z.tupK (fun o H11 no k11 e11 => ?_)
              walk_at "z"
              refine Z.ixL (lstL (k11.get nin0 hl10)) (atI_nat (by unfold prefs; rw [List.getElem?_map, hp]; rfl)) ?_
              walk_at "z"
              have hpa11 := (hP10.kp0 k11) p hpm
              refine Z.ixT (tupT hpa11.at_) rfl ?_
              walk_at "z"
              refine ⟨p.a, b, p.f, g', rfl, hpa11.fr, hb10.kp0 k11, (hqf p hpm).1, ⟨hgL, hg0, hgB⟩, fun H12 cc k12 e12 => ?_⟩
              obtain ⟨l1, l2, _⟩ := lesF_ok (hqf p hpm).1 ⟨hgL, hg0, hgB⟩
              obtain ⟨n1, n2, _⟩ := gnF_ok (hqf p hpm).1 ⟨hgL, hg0, hgB⟩
              walk_at "z"
              refine ⟨o, cc, (1, 1), lesF p.f g', rfl, (show FrAt K H11 o (1, 1) from tupT e11).kp0 k12, e12, by decide, l1.1, ⟨1, 40, ⟨by decide, by decide⟩, l2, by decide⟩, fun H13 gn ngn k13 e13 => ?_⟩
              have e13' : FrAt K H13 gn (gnF g' p.f) := e13
              have k1113 := (k11.trans k12).trans k13
              walk_at "z"
              refine Z.tupK (fun z H14 nz k14 e14 => ?_)
              walk_at "z"
              refine neF (e13'.kp0 k14) (show FrAt K H14 z (0, 1) from tupT e14) ?_
              have k1014 := k1113.trans k14
              walk_at "z"
              refine Z.iteN (fun h3 => ?_) (fun h3 => ?_)
              · have hacc' : acc ++ ([(ftimes c (gnF g' p.f), (q0.take j ++ q0.drop (j + 1)).map (raP g'))] ++ dropsF g' c (q0.take (j + 1)) (q0.drop (j + 1))) = dropsF g' c [] q0 := by
                  rw [← hacc, if_neg (show ¬ gnF g' (Pt.pa p).2 = (0, 1) from h3)]
                  rfl
                walk_at "z"
                refine ⟨Z.tyL (k1014.get nin0 eW10), ?_⟩
                walk_at "z"
                refine ⟨cA, gn, c, gnF g' p.f, rfl, hc10.kp0 k1014, e13'.kp0 k14, hcL.1, n1.1, ⟨400, 50, hcB, n2, by decide⟩, fun H15 ch nch k15 e15 => ?_⟩
                have hl15 := (k1014.trans k15).get nin0 hl10
                walk_at "z"
                refine Z.slL (lstL hl15) (fun s1' H16 ns1 k16 e16 => ?_)
                rw [Z.cut_take (by rw [prefs_len]; omega)] at e16
                walk_at "z"
                have ej : (j : Int) + 1 = ((j + 1 : Nat) : Int) := by omega
                rw [ej]
                refine Z.slL (lstL (k16.get nin0 hl15)) (fun s2' H17 ns2 k17 e17 => ?_)
                rw [Z.cut_drop (by rw [prefs_len]; omega)] at e17
                walk_at "z"
                refine Z.cat (k17.get nin0 e16) e17 (by rw [List.length_take, List.length_drop, prefs_len]; omega) (fun ca H18 nca k18 e18 => ?_)
                have e18' : H18 ca = some (.lst (prefs (qs.take j ++ qs.drop (j + 1)))) := by
                  rw [e18]
                  unfold prefs
                  rw [List.map_append, List.map_take, List.map_drop]
                have k1018 := (((k1014.trans k15).trans k16).trans k17).trans k18
                have hsub : ∀ x ∈ qs.take j ++ qs.drop (j + 1), x ∈ qs := fun x hx => by
                  rcases List.mem_append.mp hx with h | h
                  · exact List.mem_of_mem_take h
                  · exact List.mem_of_mem_drop h
                walk_at "z"
                refine ⟨ca, b, _, g', rfl, e18', fun x hx => (hP10.kp0 k1018) x (hsub x hx), by rw [List.length_append, List.length_take, List.length_drop]; omega, fun x hx => (hqf x (hsub x hx)).1, hb10.kp0 k1018, hgL, hgB, fun H19 rl rs nrl k19 e19 P19 hrs => ?_⟩
                have k1019 := k1018.trans k19
                have eW19 := k1019.get nin0 eW10
                have nrlW : rl ≠ W := (ne_of_none (k1018.get nin0 eW10) nrl).symm
                have nrlF : rl ≠ F := (ne_of_none (k1018.get nin0 (k10.get (nin1 nWF.symm) eF9)) nrl).symm
                walk_at "z"
                refine Z.tupK (fun nt H20 nnt k20 e20 => ?_)
                have k1020 := k1019.trans k20
                have eW20 := k20.get nin0 eW19
                have hmm : rs.map Pt.pa = (q0.take j ++ q0.drop (j + 1)).map (raP g') := by
                  rw [hrs]
                  have h9 : qs.map Pt.pa = q0 := hqm
                  rw [← h9, ← List.map_take, ← List.map_drop, ← List.map_append]
                have L20 : LfAt K [W, F] H20 nt (ftimes c (gnF g' p.f), (q0.take j ++ q0.drop (j + 1)).map (raP g')) := ⟨ch, rl, rs, e20, ((((e15.kp0 k16).kp0 k17).kp0 k18).kp0 k19).kp0 k20, k20.get nin0 e19, P19.kp0 k20, hmm, by simp [nrlW, nrlF]⟩
                walk_at "z"
                refine Z.app eW20 (Z.szl (m := 1000) (by rw [List.length_map, FU10.len]; omega)) ?_
                have k21 : Kp [W] H20 (upd H20 W (.lst (us.map V.ref ++ [V.ref nt]))) := Kp.put (by simp)
                have eW21 : upd H20 W (.lst (us.map V.ref ++ [V.ref nt])) W = some (.lst ((us ++ [nt]).map V.ref)) := by rw [upd_same, List.map_append]; rfl
                generalize upd H20 W (.lst (us.map V.ref ++ [V.ref nt])) = H21 at k21 eW21 ⊢
                walk_at "z"
                refine ⟨_, _, _, _, us ++ [nt], acc ++ [_], rfl, k10.trans ((k1020.sub (by simp)).trans k21), eW21, ((FU10.kp0 k1020).snoc L20).kpx (by simp) k21 eW20, by simp; omega, ?_⟩
                rw [List.append_assoc]
                exact hacc'
              · walk_at "z"
                refine ⟨_, _, _, _, us, acc, rfl, k10.trans (k1014.sub (by simp)), k1014.get nin0 eW10, FU10.kp0 k1014, by omega, ?_⟩
                rw [if_pos (show gnF g' (Pt.pa p).2 = (0, 1) from h3)] at hacc
                exact hacc
            · rintro σ' H10 ⟨y5, y7, y8, y9, us, acc, rfl, k10, eW10, FU10, hal, hacc⟩
              have hd : q0.drop (size + 1) = [] := List.drop_eq_nil_of_le (by omega)
              rw [hd] at hacc
              have hacc' : acc = dropsF g' c [] q0 := by
                rw [← hacc]
                unfold dropsF
                rw [List.append_nil]
              have hmem := fun m hm => dropsF_mem (g := g') (c := c) (post := q0) (pre := []) m hm
              walk_at "z"
              refine ⟨_, _, _, _, _, _, _, us, [], acc, [], rfl, ext_put e09 k10 nWH, tabs_put T9 k10 eW9, eW10, FU10, ?_, k10.get (nin1 nWF.symm) eF9, .nil, .inr ⟨by omega, by simp, ?_, ?_, ?_⟩⟩
              · intro m hm p hp
                rw [hacc'] at hm
                obtain ⟨p', hp', e⟩ := (hmem m hm).2 p hp
                rw [e]
                exact (hq0r p' hp').2
              · intro m hm
                rw [hacc'] at hm
                have := (hmem m hm).1
                simp at this
                omega
              · unfold nextF
                rw [if_neg (by omega), ← hacc']
                rfl
              · simp
                omega
      · rintro σ' H5 ⟨y0, y1, y5, y6, y7, y8, y9, ws, fs, wm, fm, rfl, e5, T5, eW, FW, hr5, eF, FF, hc⟩
        rcases hc with ⟨h3, _⟩ | ⟨_, h4, _, _, h7⟩
        · cases h3
        · omega
end drop36

section chain36
open Classical
def adF (f : Fr) (x : Addr × Row) : Fr := if rv (wF x.2) < rv f then f else wF x.2
noncomputable def rvL (m : Lf) : Rat × List (Addr × Row) := (rv m.1, m.2.map Prod.fst)
theorem rv_wF (x : Addr × Row) : rv (wF x.2) = wRx x := rv_int _
theorem rv_adF (f : Fr) (x : Addr × Row) : rv (adF f x) = mxR (wRx x) (rv f) := by
  unfold adF mxR
  rw [rv_wF]
  split
  · rfl
  · exact rv_wF x
structure FOk (f : Fr) : Prop where
  low : Low f
  B : FrB 13 f
  f0 : 0 ≤ f.1
  f3 : f.2 ≤ 3
theorem wF_ok {x : Addr × Row} (h : RowW x.2) : OkF (wF x.2) := by
  have h0 := h.w0
  have h1 := h.w1
  exact ⟨⟨by show (1 : Int) ≤ 1; decide, by show Nat.gcd _ 1 = 1; simp⟩, by show 0 < x.2.w; omega, by show x.2.w.natAbs < 2 ^ 20; omega, by show (1 : Nat) < 2 ^ 20; decide⟩
theorem wRx_pos {x : Addr × Row} (h : RowW x.2) : 0 < wRx x := by
  have h0 := h.w0
  exact ratPos (show 0 < x.2.w by omega)
theorem adF_ok {f : Fr} (hf : FOk f) {x : Addr × Row} (h : RowW x.2) : OkF (adF f x) := by
  unfold adF
  split
  · rename_i h1
    refine ⟨hf.low, (rv_pos hf.low.1).mpr ?_, hf.B.mono (by decide)⟩
    have := wRx_pos h
    rw [rv_wF] at h1
    grind
  · exact wF_ok h
theorem adF_grow {f f' : Fr} (hf : FOk f) (hf' : FOk f') (hle : rv f ≤ rv f') (x : Addr × Row) : (if rv (adF f x) < rv f' then f' else adF f x) = adF f' x := by
  unfold adF
  by_cases h1 : rv (wF x.2) < rv f
  · rw [if_pos h1, if_pos (show rv (wF x.2) < rv f' by grind)]
    split
    · rfl
    · exact low_eq hf.low hf'.low (by grind)
  · rw [if_neg h1]
/-- six times it is a whole number -/
theorem six_adF {f : Fr} (hf : FOk f) (x : Addr × Row) : ∃ z : Int, rv (adF f x) * 6 = (z : Rat) := by
  unfold adF
  split
  · have h1 := hf.low.1
    have h3 := hf.f3
    obtain ⟨p, q⟩ := f
    have hq : q = 1 ∨ q = 2 ∨ q = 3 := by dsimp only at h1 h3; omega
    unfold rv
    rcases hq with rfl | rfl | rfl
    · exact ⟨p * 6, by have : ((p * 6 : Int) : Rat) = (p : Rat) * 6 := by exact_mod_cast rfl
                       rw [this]; show (p : Rat) / ((1 : Int) : Rat) * 6 = _; rw [show ((1 : Int) : Rat) = 1 by rfl]; grind⟩
    · exact ⟨p * 3, by have : ((p * 3 : Int) : Rat) = (p : Rat) * 3 := by exact_mod_cast rfl
                       rw [this]; show (p : Rat) / ((2 : Int) : Rat) * 6 = _; rw [show ((2 : Int) : Rat) = 2 by rfl]; grind⟩
    · exact ⟨p * 2, by have : ((p * 2 : Int) : Rat) = (p : Rat) * 2 := by exact_mod_cast rfl
                       rw [this]; show (p : Rat) / ((3 : Int) : Rat) * 6 = _; rw [show ((3 : Int) : Rat) = 3 by rfl]; grind⟩
  · refine ⟨x.2.w * 6, ?_⟩
    have : ((x.2.w * 6 : Int) : Rat) = (x.2.w : Rat) * 6 := by exact_mod_cast rfl
    rw [this, rv_wF]
    rfl
theorem den01 {D n : Nat} {x : Rat} (h0 : 0 ≤ x) (h1 : x ≤ 1) (hD : D ≤ 2 ^ n) (hz : ∃ z : Int, x * (D : Rat) = (z : Rat)) : DenB D n x := by
  obtain ⟨z, hz⟩ := hz
  refine ⟨z, hz, Nat.le_trans ?_ hD⟩
  have hDn : (0 : Rat) ≤ (D : Rat) := natR_nonneg D
  have a1 := Rat.mul_nonneg h0 hDn
  have a2 := Rat.mul_le_mul_of_nonneg_right h1 hDn
  rw [hz] at a1 a2
  have b1 : 0 ≤ z := by exact_mod_cast a1
  have b2 : z ≤ (D : Int) := by
    have : (z : Rat) ≤ ((D : Int) : Rat) := by
      have e : ((D : Int) : Rat) = (D : Rat) := by exact_mod_cast rfl
      rw [e]; grind
    exact_mod_cast this
  omega
/-- the chance of being dropped has a small denominator -/
theorem gn_den {a g : Fr} (ha : OkF a) (hg : FOk g) (hg0 : 0 < g.1) (hz : ∃ z : Int, rv a * 6 = (z : Rat)) : DenB (6 * g.1.natAbs) 16 (rv (gnF g a)) := by
  obtain ⟨z, hz⟩ := hz
  obtain ⟨_, _, h3⟩ := gnF_ok ha ⟨hg.low, hg0, hg.B.mono (by decide)⟩
  have hgr : 0 < rv g := (rv_pos hg.low.1).mp hg0
  have har : 0 < rv a := (rv_pos ha.low.1).mp ha.pos
  have hgne : rv g ≠ 0 := by grind
  rw [h3]
  have eD : ((6 * g.1.natAbs : Nat) : Rat) = 6 * (g.1 : Rat) := by
    have e1 : ((6 * g.1.natAbs : Nat) : Rat) = 6 * (g.1.natAbs : Rat) := by exact_mod_cast rfl
    have e2 : ((g.1.natAbs : Nat) : Rat) = (g.1 : Rat) := by
      have : ((g.1.natAbs : Nat) : Int) = g.1 := by omega
      exact_mod_cast this
    rw [e1, e2]
  have hgv : rv g * (g.2 : Rat) = (g.1 : Rat) := by
    unfold rv
    exact Rat.div_mul_cancel (ratNe hg.low.ne)
  have hB := hg.B.1
  refine den01 ?_ ?_ (by omega) ?_
  · unfold shr
    split
    · rename_i h
      have : rv a / rv g * rv g = rv a := Rat.div_mul_cancel hgne
      by_cases z : rv a / rv g ≤ 1
      · grind
      · have := Rat.mul_lt_mul_of_pos_right (show 1 < rv a / rv g by grind) hgr
        grind
    · grind
  · unfold shr
    split
    · have : 0 ≤ rv a / rv g := by
        rw [Rat.div_def]
        have := Rat.mul_pos har (Rat.inv_pos.mpr hgr)
        grind
      grind
    · grind
  · rw [eD]
    unfold shr
    split
    · refine ⟨6 * g.1 - z * g.2, ?_⟩
      have e : ((6 * g.1 - z * g.2 : Int) : Rat) = 6 * (g.1 : Rat) - (z : Rat) * (g.2 : Rat) := by exact_mod_cast rfl
      rw [e, ← hz, ← hgv]
      have : rv a / rv g * rv g = rv a := Rat.div_mul_cancel hgne
      grind
    · exact ⟨0, by show (1 - 1 : Rat) * _ = ((0 : Int) : Rat); rw [show ((0 : Int) : Rat) = 0 by rfl]; grind⟩
def NextF (size : Nat) (f' : Fr) (x : Addr × Row) (m : Lf) (Ls : List Lf) : Prop := ∃ qs : List Pa, qs.Perm (m.2 ++ [(x, wF x.2)]) ∧ Ls = nextF size f' m.1 qs
inductive NextsF (size : Nat) (f' : Fr) (x : Addr × Row) : List Lf → List Lf → Prop where
  | nil : NextsF size f' x [] []
  | cons {m : Lf} {ms Ls ns : List Lf} : NextF size f' x m Ls → NextsF size f' x ms ns → NextsF size f' x (m :: ms) (Ls ++ ns)
theorem NextsF.snoc {size : Nat} {f' : Fr} {x : Addr × Row} {ms ns Ls : List Lf} {m : Lf} (h : NextsF size f' x ms ns) (g : NextF size f' x m Ls) : NextsF size f' x (ms ++ [m]) (ns ++ Ls) := by
  induction h with
  | nil =>
    have := NextsF.cons g NextsF.nil
    rwa [List.append_nil] at this
  | cons a b ih =>
    rw [List.cons_append, List.append_assoc]
    exact .cons a ih
theorem NextsF.mem {size : Nat} {f' : Fr} {x : Addr × Row} {ms ns : List Lf} (h : NextsF size f' x ms ns) : ∀ n ∈ ns, ∃ m ∈ ms, ∃ Ls, NextF size f' x m Ls ∧ n ∈ Ls := by
  induction h with
  | nil => intro m hm; cases hm
  | cons a b ih =>
    intro m hm
    rcases List.mem_append.mp hm with hm | hm
    · exact ⟨_, by simp, _, a, hm⟩
    · obtain ⟨l, hl, Ls, h1, h2⟩ := ih m hm
      exact ⟨l, by simp [hl], Ls, h1, h2⟩
theorem NextsF.len {size k : Nat} {f' : Fr} {x : Addr × Row} {ms ns : List Lf} (h : NextsF size f' x ms ns) (hk : ∀ m ∈ ms, ∀ Ls, NextF size f' x m Ls → Ls.length ≤ k) : ns.length ≤ ms.length * k := by
  induction h with
  | nil => simp
  | cons a b ih =>
    have h1 := hk _ (by simp) _ a
    have h2 := ih fun m hm => hk m (by simp [hm])
    rw [List.length_append, List.length_cons, Nat.add_mul]
    omega
structure ChI (size : Nat) (xs : List (Addr × Row)) (f : Fr) (ms : List Lf) : Prop where
  fok : FOk f
  thr : Thr (xs.map wRx) size (rv f)
  inv : InvR wRx xs size (rv f) (ms.map rvL)
  adj : ∀ m ∈ ms, Low m.1 ∧ ∀ p ∈ m.2, p.2 = adF f p.1
  den : ∃ D, 1 ≤ D ∧ D ≤ 2 ^ (16 * xs.length) ∧ ∀ m ∈ ms, DenB D (16 * xs.length) (rv m.1)
  cnt : ms.length ≤ (size + 1) ^ (xs.length - size)
theorem dropsF_rv {a : Addr × Row → Rat} {g c : Fr} (hg : FOk g) (hg0 : 0 < g.1) (hc : Low c) : ∀ {post pre : List Pa}, (∀ q ∈ pre ++ post, OkF q.2 ∧ rv q.2 = a q.1) → (dropsF g c pre post).map rvL = dropsR a (rv g) (rv c) (pre.map Prod.fst) (post.map Prod.fst)
  | [], pre, _ => rfl
  | p :: r, pre, h => by
    have ih := dropsF_rv (a := a) hg hg0 hc (post := r) (pre := pre ++ [p]) fun q hq => h q (by simpa using hq)
    obtain ⟨h1, h2⟩ := h p (by simp)
    obtain ⟨n1, _, n3⟩ := gnF_ok h1 ⟨hg.low, hg0, hg.B.mono (by decide)⟩
    have hgo : gone a (rv g) p.1 = rv (gnF g p.2) := by rw [n3, h2]; rfl
    have hiff : gnF g p.2 = (0, 1) ↔ gone a (rv g) p.1 = 0 := by
      rw [hgo]
      exact ⟨fun e => by rw [e, rv_zero], fun e => low_eq n1 low_zero (by rw [e, rv_zero])⟩
    unfold dropsF
    rw [List.map_append (l₁ := pre)] at ih
    rw [List.map_append, ih]
    show _ = (if gone a (rv g) p.1 = 0 then [] else [(rv c * gone a (rv g) p.1, pre.map Prod.fst ++ r.map Prod.fst)]) ++ dropsR a (rv g) (rv c) (pre.map Prod.fst ++ [p.1]) (r.map Prod.fst)
    congr 1
    by_cases hz : gnF g p.2 = (0, 1)
    · rw [if_pos hz, if_pos (hiff.mp hz)]; rfl
    · rw [if_neg hz, if_neg fun z => hz (hiff.mpr z), List.map_singleton]
      show [(rv (ftimes c (gnF g p.2)), ((pre ++ r).map (raP g)).map Prod.fst)] = _
      rw [rv_ftimes hc.ne n1.ne, ← hgo, List.map_map, ← List.map_append]
      rfl
theorem nextF_rv {a : Addr × Row → Rat} {size : Nat} {g c : Fr} (hc : Low c) {qs : List Pa} (h : ∀ q ∈ qs, OkF q.2 ∧ rv q.2 = a q.1) (hg : size < qs.length → FOk g ∧ 0 < g.1) : (nextF size g c qs).map rvL = nextR size a (rv g) (rv c) (qs.map Prod.fst) := by
  unfold nextF nextR
  rw [List.length_map]
  split
  · rfl
  · rename_i hs
    obtain ⟨h1, h2⟩ := hg (by omega)
    rw [List.map_reverse, dropsF_rv h1 h2 hc h]
    rfl
theorem dropsF_each {g c : Fr} : ∀ {post pre : List Pa}, ∀ m ∈ dropsF g c pre post, ∃ p ∈ post, gnF g p.2 ≠ (0, 1) ∧ m.1 = ftimes c (gnF g p.2) ∧ ∀ y ∈ m.2, ∃ z ∈ pre ++ post, y = raP g z
  | [], pre, m, h => by cases h
  | p :: r, pre, m, h => by
    unfold dropsF at h
    rcases List.mem_append.mp h with h | h
    · split at h
      · cases h
      · rename_i hz
        rw [List.mem_singleton.mp h]
        refine ⟨p, by simp, hz, rfl, fun y hy => ?_⟩
        obtain ⟨z, hz, rfl⟩ := List.mem_map.mp hy
        refine ⟨z, ?_, rfl⟩
        rcases List.mem_append.mp hz with h | h <;> simp [h]
    · obtain ⟨q, hq, h1, h2, h3⟩ := dropsF_each m h
      refine ⟨q, by simp [hq], h1, h2, fun y hy => ?_⟩
      obtain ⟨z, hz, e⟩ := h3 y hy
      exact ⟨z, by simpa using hz, e⟩
section step
variable {size : Nat} {xs : List (Addr × Row)} {x : Addr × Row} {f f' : Fr} {ms ns : List Lf}
theorem ChI.leafG (C : ChI size xs f ms) (hW : ∀ y ∈ xs ++ [x], RowW y.2) (hn : (xs ++ [x]).Nodup) (hT' : Thr ((xs ++ [x]).map wRx) size (rv f')) {m : Lf} (hm : m ∈ ms) {qs : List Pa} (pm : qs.Perm (m.2 ++ [(x, wF x.2)])) :
    Grow wRx xs x size (rv f) (rv f') (m.2.map Prod.fst) (qs.map Prod.fst) := by
  refine ⟨fun y hy => wRx_pos (hW y hy), hn, C.thr, hT', (C.inv.leaf (rvL m) (List.mem_map.mpr ⟨m, hm, rfl⟩)).2.2, ?_⟩
  have := pm.map Prod.fst
  rwa [List.map_append] at this
theorem ChI.leafQ (C : ChI size xs f ms) (hW : ∀ y ∈ xs ++ [x], RowW y.2) (hn : (xs ++ [x]).Nodup) (hT' : Thr ((xs ++ [x]).map wRx) size (rv f')) {m : Lf} (hm : m ∈ ms) {qs : List Pa} (pm : qs.Perm (m.2 ++ [(x, wF x.2)])) :
    ∀ q ∈ qs, OkF q.2 ∧ rv q.2 = aw wRx (rv f) x q.1 ∧ q.2 = (if q.1 = x then wF x.2 else adF f q.1) ∧ q.1 ∈ xs ++ [x] := fun q hq => by
  have G := C.leafG hW hn hT' hm pm
  have hqx : q.1 ∈ xs ++ [x] := G.sub q.1 (List.mem_map.mpr ⟨q, hq, rfl⟩)
  have e : q.2 = (if q.1 = x then wF x.2 else adF f q.1) := by
    rcases List.mem_append.mp (pm.mem_iff.mp hq) with h | h
    · have hne : q.1 ≠ x := fun z => by
        refine G.notS ?_
        rw [← z]
        exact List.mem_map.mpr ⟨q, h, rfl⟩
      rw [if_neg hne]
      exact (C.adj m hm).2 q h
    · rw [List.mem_singleton.mp h, if_pos rfl]
  refine ⟨?_, ?_, e, hqx⟩
  · rw [e]
    split
    · exact wF_ok (hW x (by simp))
    · exact adF_ok C.fok (hW q.1 hqx)
  · rw [e]
    unfold aw
    split
    · exact rv_wF x
    · exact rv_adF f q.1
theorem ChI.pos' (C : ChI size xs f ms) (hf' : FOk f') (hT' : Thr ((xs ++ [x]).map wRx) size (rv f')) (hb : size ≤ xs.length) : 0 < f'.1 :=
  (rv_pos hf'.low.1).mpr (hT'.big (by rw [List.length_map, List.length_append]; show size < xs.length + 1; omega)).1
theorem ChI.step (C : ChI size xs f ms) (hW : ∀ y ∈ xs ++ [x], RowW y.2) (hn : (xs ++ [x]).Nodup) (hf' : FOk f') (hT' : Thr ((xs ++ [x]).map wRx) size (rv f')) (N : NextsF size f' x ms ns) : ChI size (xs ++ [x]) f' ns := by
  have hp : ∀ y ∈ xs ++ [x], 0 < wRx y := fun y hy => wRx_pos (hW y hy)
  have hle := thr_grow hp C.thr hT'
  have hlen : ∀ m ∈ ms, ∀ qs : List Pa, qs.Perm (m.2 ++ [(x, wF x.2)]) → qs.length = min size xs.length + 1 := fun m hm qs pm => by
    have := (C.leafG hW hn hT' hm pm).len
    rwa [List.length_map] at this
  have NR : NextsR wRx x size (rv f) (rv f') (ms.map rvL) (ns.map rvL) := by
    have key : ∀ {ms' ns' : List Lf}, NextsF size f' x ms' ns' → (∀ m ∈ ms', m ∈ ms) → NextsR wRx x size (rv f) (rv f') (ms'.map rvL) (ns'.map rvL) := fun h => by
      induction h with
      | nil => exact fun _ => .nil
      | @cons m ms' Ls ns' a b ih =>
        intro hs
        obtain ⟨qs, pm, rfl⟩ := a
        have hm := hs m (by simp)
        have hq := C.leafQ hW hn hT' hm pm
        rw [List.map_append, List.map_cons]
        refine .cons ⟨qs.map Prod.fst, (C.leafG hW hn hT' hm pm).pm, ?_⟩ (ih fun y hy => hs y (by simp [hy]))
        exact nextF_rv (C.adj m hm).1 (fun q h => ⟨(hq q h).1, (hq q h).2.1⟩) fun h => ⟨hf', C.pos' hf' hT' (by have := hlen m hm qs pm; omega)⟩
    exact key N fun _ h => h
  refine ⟨hf', hT', C.inv.step hp hn C.thr hT' NR, fun n hn' => ?_, ?_, ?_⟩
  · obtain ⟨m, hm, Ls, ⟨qs, pm, rfl⟩, hnL⟩ := N.mem n hn'
    have hq := C.leafQ hW hn hT' hm pm
    have hl := hlen m hm qs pm
    have hmL := (C.adj m hm).1
    have hra : ∀ q ∈ qs, (if rv q.2 < rv f' then f' else q.2) = adF f' q.1 := fun q h => by
      have h3 := (hq q h).2.2.1
      rw [h3]
      split
      · rename_i z
        rw [z]
        rfl
      · exact adF_grow C.fok hf' hle q.1
    unfold nextF at hnL
    split at hnL
    · rename_i hs
      rw [List.mem_singleton.mp hnL]
      refine ⟨hmL, fun p hpq => ?_⟩
      have h0 := hT'.small (by rw [List.length_map, List.length_append]; show xs.length + 1 ≤ size; omega)
      have h1 := hra p hpq
      rw [h0, if_neg] at h1
      · exact h1
      · have := (rv_pos (hq p hpq).1.low.1).mp (hq p hpq).1.pos
        grind
    · rename_i hs
      obtain ⟨p, hpq, _, h2, h3⟩ := dropsF_each n (List.mem_reverse.mp hnL)
      have hg0 := C.pos' (x := x) hf' hT' (by omega)
      obtain ⟨n1, _, _⟩ := gnF_ok (hq p hpq).1 ⟨hf'.low, hg0, hf'.B.mono (by decide)⟩
      refine ⟨by rw [h2]; exact lo_low (Int.mul_ne_zero hmL.ne n1.ne), fun y hy => ?_⟩
      obtain ⟨z, hz, rfl⟩ := h3 y hy
      rw [List.nil_append] at hz
      exact hra z hz
  · obtain ⟨D, hD1, hD2, hD3⟩ := C.den
    have el : (xs ++ [x]).length = xs.length + 1 := by rw [List.length_append]; rfl
    rw [el, Nat.mul_add, Nat.mul_one]
    by_cases hb : size ≤ xs.length
    · have hg0 := C.pos' (x := x) hf' hT' hb
      have hfB := hf'.B.1
      have he1 : 1 ≤ 6 * f'.1.natAbs := by omega
      have he2 : 6 * f'.1.natAbs ≤ 2 ^ 16 := by omega
      refine ⟨D * (6 * f'.1.natAbs), Nat.mul_le_mul hD1 he1, by rw [Nat.pow_add]; exact Nat.mul_le_mul hD2 he2, fun n hn' => ?_⟩
      obtain ⟨m, hm, Ls, ⟨qs, pm, rfl⟩, hnL⟩ := N.mem n hn'
      have hq := C.leafQ hW hn hT' hm pm
      have hl := hlen m hm qs pm
      unfold nextF at hnL
      rw [if_neg (by omega)] at hnL
      obtain ⟨p, hpq, _, h2, h3⟩ := dropsF_each n (List.mem_reverse.mp hnL)
      obtain ⟨n1, _, _⟩ := gnF_ok (hq p hpq).1 ⟨hf'.low, hg0, hf'.B.mono (by decide)⟩
      rw [h2, rv_ftimes (C.adj m hm).1.ne n1.ne]
      refine (hD3 m hm).mul (gn_den (hq p hpq).1 hf' hg0 ?_)
      rw [(hq p hpq).2.2.1]
      split
      · refine ⟨x.2.w * 6, ?_⟩
        have : ((x.2.w * 6 : Int) : Rat) = (x.2.w : Rat) * 6 := by exact_mod_cast rfl
        rw [this, rv_wF]
        rfl
      · exact six_adF C.fok p.1
    · refine ⟨D, hD1, Nat.le_trans hD2 (Nat.pow_le_pow_right (by decide) (by omega)), fun n hn' => ?_⟩
      obtain ⟨m, hm, Ls, ⟨qs, pm, rfl⟩, hnL⟩ := N.mem n hn'
      have hl := hlen m hm qs pm
      unfold nextF at hnL
      rw [if_pos (by omega)] at hnL
      rw [List.mem_singleton.mp hnL]
      exact (hD3 m hm).mono (by omega)
  · have el : (xs ++ [x]).length = xs.length + 1 := by rw [List.length_append]; rfl
    rw [el]
    have hc := C.cnt
    by_cases hb : size ≤ xs.length
    · have h1 := N.len (k := size + 1) fun m hm Ls ⟨qs, pm, e⟩ => by
        have hl := hlen m hm qs pm
        rw [e]
        unfold nextF
        rw [if_neg (by omega), List.length_reverse]
        have := dropsF_len (g := f') (c := m.1) (post := qs) (pre := [])
        omega
      rw [show xs.length + 1 - size = (xs.length - size) + 1 by omega, Nat.pow_succ]
      exact Nat.le_trans h1 (Nat.mul_le_mul_right _ hc)
    · have h1 := N.len (k := 1) fun m hm Ls ⟨qs, pm, e⟩ => by
        have hl := hlen m hm qs pm
        rw [e]
        unfold nextF
        rw [if_pos (by omega)]
        exact Nat.le_refl _
      rw [show xs.length + 1 - size = 0 by omega]
      rw [show xs.length - size = 0 by omega] at hc
      omega
theorem ChI.start (size : Nat) : ChI size [] (0, 1) [((1, 1), [])] := by
  refine ⟨⟨low_zero, ⟨by decide, by decide⟩, by decide, by decide⟩, ⟨fun _ => rv_zero, fun h => by simp at h⟩, ⟨fun l hl => ?_, ?_, (fun y hy => by cases hy), fun y hy => by cases hy⟩, fun m hm => ?_, ⟨1, by decide, by decide, fun m hm => ?_⟩, by simp⟩
  · rw [List.map_singleton, List.mem_singleton] at hl
    rw [hl]
    have e : (rvL ((1, 1), [])).1 = 1 := by show rv (1, 1) = 1; rw [rv_int]; rfl
    exact ⟨by rw [e]; decide, by rw [e]; decide, ⟨by exact List.nodup_nil, (fun x hx => by cases hx), by simp [rvL], fun x hx => by cases hx⟩⟩
  · rw [List.map_singleton, ex_cons, ex_nil]
    have e : (rvL ((1, 1), [])).1 = 1 := by show rv (1, 1) = 1; rw [rv_int]; rfl
    rw [e]
    grind
  · rw [List.mem_singleton.mp hm]
    exact ⟨one_low, fun p hp => by cases hp⟩
  · rw [List.mem_singleton.mp hm]
    show DenB 1 0 (rv (1, 1))
    exact ⟨1, by rw [rv_int, show ((1 : Nat) : Rat) = 1 by rfl, show ((1 : Int) : Rat) = 1 by rfl]; grind, by decide⟩
end step
end chain36

section heapch36
variable {K : PySem.W.Frag}
open LamX LamK LamQ
structure ItemsG (xs : List (Addr × Row)) : Prop where
  W : ∀ x ∈ xs, RowW x.2
  S : ∀ x ∈ xs, RowS x.2
  key : xs.Pairwise fun a b => a.2.k ≠ b.2.k
  n5 : xs.length ≤ 5
theorem ItemsG.nd {xs : List (Addr × Row)} (G : ItemsG xs) : xs.Nodup := G.key.imp fun {a b} h z => h (by rw [z])
theorem ItemsG.ndT {xs : List (Addr × Row)} (G : ItemsG xs) {i : Nat} {x : Addr × Row} (h : xs[i]? = some x) : (xs.take i ++ [x]).Nodup := by
  have e : xs.take i ++ [x] = xs.take (i + 1) := by rw [List.take_add_one, h]; rfl
  rw [e]
  exact (List.take_sublist _ _).nodup G.nd
def spChain (K : PySem.W.Frag) (P : Addr) : Sp := fun vs H Q _ => ∃ (l : Addr) (xs : List (Addr × Row)) (size : Nat), vs = [.int (size : Int), .ref l] ∧ Tabs [(P, LQ)] H ∧ H l = some (.lst (refs xs)) ∧ RowsAt H xs ∧ ItemsG xs ∧ 1 ≤ size ∧ size ≤ 3 ∧
  ∀ H' D ts ms f, ExtN H H' → Tabs [(P, LQ)] H' → H' D = some (.lst (ts.map V.ref)) → LfsAt K [] H' ts ms → ChI size xs f ms → Q (.ref D) H'
theorem ok__law_chain {P : Program} {w : World} {K : PySem.W.Frag} {mg : Str → Option Value} {base : Heap} (T : T P K mg base) : FnOk P w K mg base CX0 6 T.a__law_chain T.fd__law_chain ["size", "things"] (spChain K T.P__law_threshold) := by
  refine T.F__law_chain.ok sc__law_chain (fun vs H Q E h => ?_) (fun cdv A outer s H vs Q E hr h => ?_)
  · obtain ⟨l, xs, size, rfl, _⟩ := h
    rfl
  · obtain ⟨l, xs, size, rfl, hT, hl, hxs, G, s1, s3, q⟩ := h
    have n5 := G.n5
    refine ⟨_, (pss_cons (ps_set (i := 2) sc__law_chain.nd rfl (by first | exact Or.inl rfl | exact Or.inr rfl) (pe_lst (pa_cons (pe_tup (pa_cons (pe_tup (pa_cons pe_int (pa_cons pe_int pa_nil))) (pa_cons (pe_lst pa_nil) pa_nil))) pa_nil)))
      (pss_cons (ps_for PassesOwn.never rfl (pi_list (pv 1)) (pg_name (i := 3) sc__law_chain.nd rfl (by first | exact Or.inl rfl | exact Or.inr rfl)) (pss_cons (ps_set (i := 4) sc__law_chain.nd rfl (by first | exact Or.inl rfl | exact Or.inr rfl) (pe_lst pa_nil))
      (pss_cons (ps_for PassesOwn.never rfl (pi_list (pv 2)) (pg_tup rfl (pgs_cons (pg_name (i := 5) sc__law_chain.nd rfl (by first | exact Or.inl rfl | exact Or.inr rfl)) (pgs_cons (pg_name (i := 6) sc__law_chain.nd rfl (by first | exact Or.inl rfl | exact Or.inr rfl)) pgs_nil))) (pss_one (ps_set (i := 4) sc__law_chain.nd rfl (by first | exact Or.inl rfl | exact Or.inr rfl) (pe_op op_cat (pv 4) (pe_call (ok__law_dropped T) (hr.mono (by decide)) (by rfl) T.g__law_dropped T.F__law_dropped.kp T.b__law_dropped .nil pass0 (pa_cons (pv 5) (pa_cons (pe_op op_cat (pv 6) (pe_lst (pa_cons (pe_tup (pa_cons (pv 3) (pa_cons (pe_tup (pa_cons (pe_ix ix_tup (pv 3) pe_int (fun _ _ => rfl)) (pa_cons pe_int pa_nil))) pa_nil))) pa_nil))) (pa_cons (pv 0) pa_nil))))))))
      (pss_one (ps_set (i := 2) sc__law_chain.nd rfl (by first | exact Or.inl rfl | exact Or.inr rfl) (pv 4))))))
      (pss_one (ps_ret (pv 2))))), ?_⟩
    walk_at "z0"
    walk_at "z"
    refine Z.tupK (fun one H1 n1 k1 e1 => ?_)
    walk_at "z"
    refine Z.lstK (fun em H2 n2 k2 e2 => ?_)
    walk_at "z"
    refine Z.tupK (fun lf H3 n3 k3 e3 => ?_)
    walk_at "z"
    refine Z.lstK (fun D0 H4 n4 k4 e4 => ?_)
    have k14 := ((k1.trans k2).trans k3).trans k4
    have L4 : LfAt K [] H4 lf ((1, 1), []) := ⟨one, em, [], k4.get nin0 e3, ((show FrAt K H1 one (1, 1) from tupT e1).kp0 ((k2.trans k3).trans k4)), (k3.trans k4).get nin0 e2, (fun p hp => by cases hp), rfl, by simp⟩
    walk_at "z"
    refine Z.forl (refs xs) (lstL (k14.get nin0 hl)) (fun i σ' H' => ∃ (y3 y4 y5 y6 : Option V) (D : Addr) (ts : List Addr) (ms : List Lf) (f : Fr), σ' = [some (.int (size : Int)), some (.ref l), some (.ref D), y3, y4, y5, y6] ∧ ExtN H H' ∧ Tabs [(T.P__law_threshold, LQ)] H' ∧ H' D = some (.lst (ts.map V.ref)) ∧ LfsAt K [] H' ts ms ∧ ChI size (xs.take i) f ms) ?_ ?_ ?_ ?_
    · exact ⟨_, _, _, _, D0, [lf], _, (0, 1), rfl, ext_kp k14, tabs_kp hT k14, e4, .cons L4 .nil, ChI.start size⟩
    · rintro i σ' H' _ ⟨y3, y4, y5, y6, D, ts, ms, f, rfl, e5, _⟩
      exact lstL (ext_get e5 hl)
    · rintro i v σ' H5 hv ⟨y3, y4, y5, y6, D, ts, ms, f, rfl, e5, T5, eD, FD, C⟩
      obtain ⟨x, hx, rfl⟩ := refs_of hv
      have hxm := List.mem_of_getElem? hx
      have hi : i < xs.length := (List.getElem?_eq_some_iff.mp hx).1
      have htk : xs.take (i + 1) = xs.take i ++ [x] := by rw [List.take_add_one, hx]; rfl
      have hW' : ∀ y ∈ xs.take i ++ [x], RowW y.2 := fun y hy => by
        rw [← htk] at hy
        exact G.W y (List.mem_of_mem_take hy)
      have hS' : ∀ y ∈ xs.take i ++ [x], RowS y.2 := fun y hy => by
        rw [← htk] at hy
        exact G.S y (List.mem_of_mem_take hy)
      have hnd := G.ndT hx
      have hll : (xs.take i).length = i := by rw [List.length_take]; omega
      obtain ⟨f', l1, l2, l3, l4, hT'⟩ := thr_ex hW' (by rw [List.length_append, hll]; show i + 1 ≤ 6; omega) s1
      have hf' : FOk f' := ⟨l1, l2, l3, by omega⟩
      walk_at "z"
      refine Z.lstK (fun M0 H6 nM k6 e6 => ?_)
      walk_at "z"
      refine Z.forl (ts.map V.ref) (lstL (k6.get nin0 eD)) (fun j σ' H' => ∃ (y5 y6 : Option V) (M : Addr) (us : List Addr) (ns : List Lf), σ' = [some (.int (size : Int)), some (.ref l), some (.ref D), some (.ref x.1), some (.ref M), y5, y6] ∧ ExtN H5 H' ∧ Tabs [(T.P__law_threshold, LQ)] H' ∧ H' M = some (.lst (us.map V.ref)) ∧ LfsAt K [] H' us ns ∧ NextsF size f' x (ms.take j) ns ∧ ns.length ≤ 4 * j) ?_ ?_ ?_ ?_
      · exact ⟨_, _, M0, [], [], rfl, ext_kp k6, tabs_kp T5 k6, e6, .nil, .nil, by simp⟩
      · rintro j σ' H' _ ⟨y5, y6, M, us, ns, rfl, e7, _⟩
        exact lstL (ext_get e7 eD)
      · rintro j v σ' H7 hv ⟨y5, y6, M, us, ns, rfl, e7, T7, eM, FM, N, hnl⟩
        obtain ⟨t, m, rfl, hm, Lm⟩ := (FD.ext e7).get hv
        have hmm := List.mem_of_getElem? hm
        have hjm : j < ms.length := (List.getElem?_eq_some_iff.mp hm).1
        obtain ⟨cA, l', ps, ht', hcA, hl', hP', hqm, _⟩ := id Lm
        obtain ⟨mL, mA⟩ := C.adj m hmm
        have Gw := C.leafG hW' hnd hT' hmm (List.Perm.refl _)
        have Qs := C.leafQ hW' hnd hT' hmm (List.Perm.refl _)
        have hlen : ps.length + 1 = min size i + 1 := by
          have := Gw.len
          rw [List.length_map, List.length_append, ← hqm, List.length_map, hll] at this
          exact this
        have hxR : RowAt H7 x.1 x.2 := ext_get e7 (ext_get e5 (hxs x hxm))
        refine Z.gtup (tupT ht') rfl ?_
        walk_at "z"
        refine RowAt.w2 hxR ?_
        walk_at "z"
        refine Z.tupK (fun w H8 nw k8 e8 => ?_)
        walk_at "z"
        refine Z.tupK (fun np H9 nnp k9 e9 => ?_)
        walk_at "z"
        refine Z.lstK (fun nl H10 nnl k10 e10 => ?_)
        walk_at "z"
        have k710 := (k8.trans k9).trans k10
        refine Z.cat (k710.get nin0 hl') e10 (by rw [prefs_len]; show ps.length + 1 ≤ _; omega) (fun ca H11 nca k11 e11 => ?_)
        have k711 := k710.trans k11
        have e11' : H11 ca = some (.lst (prefs (ps ++ [Pt.mk np x w (wF x.2)]))) := by
          rw [e11]
          unfold prefs
          rw [List.map_append]
          rfl
        have P11 : PtsAt K H11 (ps ++ [Pt.mk np x w (wF x.2)]) := mem_append_one (hP'.kp0 k711) ⟨(k10.trans k11).get nin0 e9, hxR.kp0 k711, (show FrAt K H8 w (wF x.2) from tupT e8).kp0 ((k9.trans k10).trans k11)⟩
        have hpa : (ps ++ [Pt.mk np x w (wF x.2)]).map Pt.pa = m.2 ++ [(x, wF x.2)] := by rw [List.map_append, hqm]; rfl
        have hpts : ∀ p ∈ ps ++ [Pt.mk np x w (wF x.2)], OkF p.f ∧ RowS p.x.2 := fun p hp => by
          obtain ⟨q1, _, _, q4⟩ := Qs (Pt.pa p) (by rw [← hpa]; exact List.mem_map.mpr ⟨p, hp, rfl⟩)
          exact ⟨q1, hS' _ q4⟩
        obtain ⟨Dn, hD1, hD2, hD3⟩ := C.den
        have hcB : FrB 400 m.1 := den_B (d := 80) (k := 400) mL ((hD3 m hmm).mono (show _ ≤ 80 by rw [hll]; omega)) hD1 (Nat.le_trans hD2 (Nat.pow_le_pow_right (by decide) (by rw [hll]; omega))) (by decide) (by decide)
        walk_at "z"
        refine ⟨cA, ca, m.1, f', _, size, rfl, tabs_kp T7 k711, hcA.kp0 k711, mL, hcB, e11', P11, hpts, by rw [List.length_append]; show ps.length + 1 ≤ size + 1; omega, s1, s3, fun hb => ?_, fun H12 D2 ts2 ms2 e12 T12 eD2 F2 hms2 => ?_⟩
        · have hb2 : size ≤ (xs.take i).length := by
            rw [List.length_append] at hb
            have : ps.length + 1 > size := hb
            rw [hll]
            omega
          have h1 := Gw.thrS hb2
          refine ⟨?_, l1, C.pos' hf' hT' hb2, l2.mono (by decide)⟩
          have e : (ps ++ [Pt.mk np x w (wF x.2)]).map (fun p => rv p.f) = ((m.2 ++ [(x, wF x.2)]).map Prod.fst).map (aw wRx (rv f) x) := by
            rw [← hpa, List.map_map, List.map_map]
            refine List.map_congr_left fun p hp => ?_
            exact (Qs (Pt.pa p) (by rw [← hpa]; exact List.mem_map.mpr ⟨p, hp, rfl⟩)).2.1
          rw [e]
          exact h1
        · rw [hpa] at hms2
          have N2 : NextF size f' x m ms2 := hms2
          have hl2 : ms2.length ≤ 4 := by
            obtain ⟨qs, pm, e⟩ := N2
            rw [e]
            unfold nextF
            split
            · simp
            · rw [List.length_reverse]
              have h3 := dropsF_len (g := f') (c := m.1) (post := qs) (pre := [])
              have h4 := pm.length_eq
              rw [← hpa, List.length_map, List.length_append] at h4
              have : qs.length = ps.length + 1 := h4
              omega
          have e712 := (ext_kp k711).trans e12
          walk_at "z"
          have hml : ms.length ≤ 64 := by
            refine Nat.le_trans C.cnt ?_
            rw [hll]
            have : size = 1 ∨ size = 2 ∨ size = 3 := by omega
            rcases this with rfl | rfl | rfl
            · exact Nat.le_trans (Nat.pow_le_pow_right (by decide) (show i - 1 ≤ 4 by omega)) (by decide)
            · exact Nat.le_trans (Nat.pow_le_pow_right (by decide) (show i - 2 ≤ 3 by omega)) (by decide)
            · exact Nat.le_trans (Nat.pow_le_pow_right (by decide) (show i - 3 ≤ 2 by omega)) (by decide)
          refine Z.cat (ext_get e712 eM) eD2 (by rw [List.length_map, List.length_map, FM.len, F2.len]; omega) (fun M2 H13 nM2 k13 e13 => ?_)
          walk_at "z"
          refine ⟨_, _, M2, us ++ ts2, ns ++ ms2, rfl, (e7.trans e712).trans (ext_kp k13), tabs_kp T12 k13, by rw [e13, List.map_append], ((FM.ext e712).app F2).kp0 k13, ?_, by rw [List.length_append]; omega⟩
          rw [List.take_add_one, hm]
          exact N.snoc N2
      · rintro σ' H7 ⟨y5, y6, M, us, ns, rfl, e7, T7, eM, FM, N, hnl⟩
        rw [List.length_map, FD.len, List.take_length] at N
        walk_at "z"
        refine ⟨_, _, _, _, M, us, ns, f', rfl, e5.trans e7, T7, eM, FM, ?_⟩
        rw [htk]
        exact C.step hW' hnd hf' hT' N
    · rintro σ' H5 ⟨y3, y4, y5, y6, D, ts, ms, f, rfl, e5, T5, eD, FD, C⟩
      rw [refs_len, List.take_length] at C
      walk_at "z"
      exact q H5 D ts ms f e5 T5 eD FD C
end heapch36

theorem items_nd {ps : List (Addr × Row)} (hl : ps.length ≤ 7) (h : ∀ (i : Nat) (x : Addr × Row), ps[i]? = some x → Row7 i x.2) : ps.Pairwise fun a b => a.2.k ≠ b.2.k := by
  rw [List.pairwise_iff_getElem]
  intro i j hi hj hij e
  have h1 := (h i ps[i] (List.getElem?_eq_getElem hi)).k
  have h2 := (h j ps[j] (List.getElem?_eq_getElem hj)).k
  rw [h1, h2] at e
  have := key7_inj (by omega) (by omega) e
  omega
theorem key_inj {xs : List (Addr × Row)} (h : xs.Pairwise fun a b => a.2.k ≠ b.2.k) : ∀ {a b : Addr × Row}, a ∈ xs → b ∈ xs → a.2.k = b.2.k → a = b := by
  induction xs with
  | nil => intro a b ha; cases ha
  | cons y r ih =>
    intro a b ha hb e
    obtain ⟨h1, h2⟩ := List.pairwise_cons.mp h
    rcases List.mem_cons.mp ha with hay | ha2
    · rcases List.mem_cons.mp hb with hby | hb2
      · rw [hay, hby]
      · rw [hay] at e; exact absurd e (h1 b hb2)
    · rcases List.mem_cons.mp hb with hby | hb2
      · rw [hby] at e; exact absurd e.symm (h1 a ha2)
      · exact ih h2 ha2 hb2 e

section den6
open Classical
variable {K : PySem.W.Frag}
open LamX LamK LamQ
theorem shRow {r : Row} (h : RowS r) : SeqAt.shaped (rowD r) = true := by
  simp [SeqAt.shaped, rowD_lay h, rowD_depth]
theorem eqRow {H : Hp} {Q : VK} {a b : Addr} {xs : List (Addr × Row)} (hk : xs.Pairwise fun a b => a.2.k ≠ b.2.k) {x y : Addr × Row} (hx : x ∈ xs) (hy : y ∈ xs) (sx : RowS x.2) (sy : RowS y.2) (h1 : RowAt H a x.2) (h2 : RowAt H b y.2) (q : Q (.bl (decide (x = y))) H) : rEqD K (.ref a) (.ref b) H Q := by
  refine ⟨_, _, dpRow h1, dpRow h2, shRow sx, shRow sy, ?_⟩
  have e : PyData.eqv (rowD x.2) (rowD y.2) = decide (x = y) := by
    by_cases hxy : x = y
    · subst hxy
      rw [SeqAt.eqv_refl _ (rowD_lay sx), decide_eq_true rfl]
    · rw [decide_eq_false hxy]
      have hk2 : x.2.k ≠ y.2.k := fun z => hxy (key_inj hk hx hy z)
      simp [rowD, PyData.eqv, PyData.eqvAll, hk2]
  rw [e]
  exact q
def dW (xs : List (Addr × Row)) : Nat := prodN (xs.map fun x => x.2.w.natAbs)
theorem dW_B {xs : List (Addr × Row)} (G : ItemsG xs) : 1 ≤ dW xs ∧ dW xs ≤ 2 ^ 50 := by
  have h := prodN_le (b := 10) (l := xs.map fun x => x.2.w.natAbs) fun z hz => by
    obtain ⟨x, hx, rfl⟩ := List.mem_map.mp hz
    have := (G.W x hx).w0
    have := (G.W x hx).w1
    exact ⟨by omega, by omega⟩
  rw [List.length_map] at h
  exact ⟨h.1, Nat.le_trans h.2 (Nat.pow_le_pow_right (by decide) (by have := G.n5; omega))⟩
def e0 (xs : List (Addr × Row)) : Nat := 6 * dW xs
theorem e0_B {xs : List (Addr × Row)} (G : ItemsG xs) : 1 ≤ e0 xs ∧ e0 xs ≤ 2 ^ 53 := by
  have h := dW_B G
  unfold e0
  omega
theorem den_t {xs : List (Addr × Row)} (G : ItemsG xs) {x : Addr × Row} (hx : x ∈ xs) {a : Int} (ha : a.natAbs ≤ 10) {r : Rat} {z : Int} (hz : r * 6 = (z : Rat)) (hB : z.natAbs ≤ 2 ^ 17) : DenB (e0 xs) 71 ((a : Rat) / wRx x * r) := by
  obtain ⟨c, hc⟩ := prodN_mem (l := xs.map fun x => x.2.w.natAbs) (x := x.2.w.natAbs) (List.mem_map.mpr ⟨x, hx, rfl⟩)
  have hd := dW_B G
  have w0 := (G.W x hx).w0
  have hw0 : wRx x ≠ 0 := by have := wRx_pos (G.W x hx); grind
  refine ⟨a * z * (c : Int), ?_, ?_⟩
  · have e1 : ((a * z * (c : Int) : Int) : Rat) = (a : Rat) * (z : Rat) * (c : Rat) := by exact_mod_cast rfl
    have e2 : ((e0 xs : Nat) : Rat) = 6 * (wRx x * (c : Rat)) := by
      have h1 : ((e0 xs : Nat) : Int) = 6 * (x.2.w * (c : Int)) := by
        unfold e0 dW
        rw [hc, Int.natCast_mul, Int.natCast_mul]
        congr 2
        omega
      have h2 : ((e0 xs : Nat) : Rat) = (((e0 xs : Nat) : Int) : Rat) := by exact_mod_cast rfl
      have h3 : ((6 * (x.2.w * (c : Int)) : Int) : Rat) = 6 * ((x.2.w : Rat) * (c : Rat)) := by exact_mod_cast rfl
      rw [h2, h1, h3]
      rfl
    rw [e1, e2, ← hz]
    grind
  · rw [Int.natAbs_mul, Int.natAbs_mul, Int.natAbs_natCast]
    have hcd : c ≤ dW xs := by
      unfold dW
      rw [hc]
      exact Nat.le_mul_of_pos_left _ (by omega)
    exact Nat.le_trans (Nat.mul_le_mul (Nat.mul_le_mul ha hB) (Nat.le_trans hcd hd.2)) (by decide)
theorem adF_six {f : Fr} (hf : FOk f) {x : Addr × Row} (h : RowW x.2) : ∃ z : Int, rv (adF f x) * 6 = (z : Rat) ∧ z.natAbs ≤ 2 ^ 16 := by
  obtain ⟨z, hz⟩ := six_adF hf x
  refine ⟨z, hz, ?_⟩
  have ho := adF_ok hf h
  have hB : FrB 13 (adF f x) := by
    unfold adF
    split
    · exact hf.B
    · have := h.w0
      have := h.w1
      exact ⟨by show x.2.w.natAbs < 2 ^ 13; omega, by show (1 : Nat) < 2 ^ 13; decide⟩
  generalize adF f x = g at hz ho hB
  have g1 := ho.low.1
  have e : z * g.2 = 6 * g.1 := by
    have h2 : rv g * (g.2 : Rat) = (g.1 : Rat) := by
      unfold rv
      exact Rat.div_mul_cancel (ratNe ho.low.ne)
    have : (z : Rat) * (g.2 : Rat) = 6 * (g.1 : Rat) := by rw [← hz, ← h2]; grind
    exact_mod_cast this
  have h3 := congrArg Int.natAbs e
  rw [Int.natAbs_mul, Int.natAbs_mul] at h3
  have h4 : z.natAbs ≤ z.natAbs * g.2.natAbs := Nat.le_mul_of_pos_right _ (by omega)
  have h5 := hB.1
  have h6 : (6 : Int).natAbs = 6 := rfl
  rw [h6] at h3
  omega
def amR (kvs : List (Key × V)) (y : Addr × Row) : Rat := (amt kvs y.2.k : Rat)
theorem hE_den {xs : List (Addr × Row)} (G : ItemsG xs) {f : Fr} (hf : FOk f) {x : Addr × Row} (hx : x ∈ xs) {am : Addr × Row → Rat} {a : Int} (ha : a.natAbs ≤ 10) (e : am x = (a : Rat)) : DenB (e0 xs) 71 (hE wRx (rv f) am x) := by
  obtain ⟨z, hz, hB⟩ := adF_six hf (G.W x hx)
  unfold hE
  rw [← rv_adF, e]
  exact den_t G hx ha hz (by omega)
theorem varE_den {xs : List (Addr × Row)} (G : ItemsG xs) {f : Fr} (hf : FOk f) {x : Addr × Row} (hx : x ∈ xs) {am : Addr × Row → Rat} {a : Int} (ha : a.natAbs ≤ 10) (e : am x = (a : Rat)) : DenB (e0 xs * e0 xs) 142 (varE wRx (rv f) am x) := by
  obtain ⟨z, hz, hB⟩ := adF_six hf (G.W x hx)
  have w0 := (G.W x hx).w0
  have w1 := (G.W x hx).w1
  have h2 : (rv (adF f x) - wRx x) * 6 = ((z - 6 * x.2.w : Int) : Rat) := by
    have e1 : ((z - 6 * x.2.w : Int) : Rat) = (z : Rat) - 6 * (x.2.w : Rat) := by exact_mod_cast rfl
    rw [e1, ← hz]
    show _ = _ - 6 * wRx x
    grind
  have h3 := (den_t G hx ha hz (by omega)).mul (den_t G hx ha h2 (by omega))
  have e4 : (a : Rat) / wRx x * rv (adF f x) * ((a : Rat) / wRx x * (rv (adF f x) - wRx x)) = varE wRx (rv f) am x := by
    unfold varE
    rw [← rv_adF, e]
    grind
  rwa [e4] at h3
theorem sgl_den {xs : List (Addr × Row)} (G : ItemsG xs) {f : Fr} (hf : FOk f) {x : Addr × Row} (hx : x ∈ xs) {am : Addr × Row → Rat} {a : Int} (ha : a.natAbs ≤ 10) (e : am x = (a : Rat)) : DenB (e0 xs) 160 (sgl wRx (rv f) am x) := by
  obtain ⟨z, hz, hB⟩ := adF_six hf (G.W x hx)
  have w0 := (G.W x hx).w0
  have w1 := (G.W x hx).w1
  have h2 : (rv (adF f x) - wRx x) * 6 = ((z - 6 * x.2.w : Int) : Rat) := by
    have e1 : ((z - 6 * x.2.w : Int) : Rat) = (z : Rat) - 6 * (x.2.w : Rat) := by exact_mod_cast rfl
    rw [e1, ← hz]
    show _ = _ - 6 * wRx x
    grind
  have hw0 : wRx x ≠ 0 := by have := wRx_pos (G.W x hx); grind
  obtain ⟨t, ht, htB⟩ := den_t G hx ha h2 (by omega)
  refine ⟨a * t, ?_, ?_⟩
  · have e1 : ((a * t : Int) : Rat) = (a : Rat) * (t : Rat) := by exact_mod_cast rfl
    rw [e1, ← ht]
    unfold sgl
    rw [← rv_adF, e]
    grind
  · rw [Int.natAbs_mul]
    exact Nat.le_trans (Nat.mul_le_mul ha htB) (by decide)
/-- what moments ask -/
theorem pre_mom {fs : List (Fr × Fr)} {D E : Nat} (hl : fs.length ≤ 60) (hE1 : 1 ≤ E) (hE : E ≤ 2 ^ 53) (hD1 : 1 ≤ D) (hD : D ≤ 2 ^ 80) {M : Int} (hM : M.natAbs ≤ 60) (h : ∀ p ∈ fs, Low p.1 ∧ Low p.2 ∧ DenB E 77 (rv p.1) ∧ DenB D 80 (rv p.2)) :
    (∀ p ∈ fs, 1 ≤ p.1.2 ∧ FrB 200 p.1 ∧ 1 ≤ p.2.2 ∧ FrB 100 p.2) ∧ (∀ i, FrB 900 (fsum (0, 1) ((fs.map fun p => ftimes p.1 p.2).take i))) ∧ (∀ i g, Low g → rv g = spreadP (M : Rat) (fs.take i) → FrB 900 g) := by
  refine ⟨fun p hp => ?_, fun i => ?_, fun i g hg hv => ?_⟩
  · obtain ⟨h1, h2, h3, h4⟩ := h p hp
    exact ⟨h1.1, den_B (d := 53) (k := 200) h1 h3 hE1 hE (by decide) (by decide), h2.1, den_B (d := 80) (k := 100) h2 h4 hD1 hD (by decide) (by decide)⟩
  · have hs := rv_fsum (fs := (fs.map fun p => ftimes p.1 p.2).take i) low_zero fun f hf => by
      obtain ⟨p, hp, rfl⟩ := List.mem_map.mp (List.mem_of_mem_take hf)
      obtain ⟨h1, h2, _⟩ := h p hp
      exact (lo_low (Int.mul_ne_zero h1.ne h2.ne)).ne
    refine den_B (D := E * D) (n := 163) (d := 133) hs.2 ?_ (Nat.mul_le_mul hE1 hD1) (Nat.le_trans (Nat.mul_le_mul hE hD) (by rw [← Nat.pow_add]; decide)) (by decide) (by decide)
    rw [hs.1, rv_zero]
    have h5 : DenB (E * D) (157 + 6) (((fs.map fun p => ftimes p.1 p.2).take i).map rv).sum := by
      refine DenB.sum64 (by rw [List.length_map, List.length_take, List.length_map]; omega) fun z hz => ?_
      obtain ⟨y, hy, rfl⟩ := List.mem_map.mp hz
      obtain ⟨p, hp, rfl⟩ := List.mem_map.mp (List.mem_of_mem_take hy)
      obtain ⟨h1, h2, h3, h4⟩ := h p hp
      rw [rv_ftimes h1.ne h2.ne]
      exact h3.mul h4
    rwa [show ∀ a : Rat, 0 + a = a from fun a => by grind]
  · refine den_B (D := D * (E * E)) (n := 242) (d := 186) hg ?_ (Nat.mul_le_mul hD1 (Nat.mul_le_mul hE1 hE1)) (Nat.le_trans (Nat.mul_le_mul hD (Nat.mul_le_mul hE hE)) (by rw [← Nat.pow_add, ← Nat.pow_add]; decide)) (by decide) (by decide)
    rw [hv]
    unfold spreadP
    refine DenB.sum64 (n := 236) (by rw [List.length_map, List.length_take]; omega) fun z hz => ?_
    obtain ⟨p, hp, rfl⟩ := List.mem_map.mp hz
    obtain ⟨h1, h2, h3, h4⟩ := h p (List.mem_of_mem_take hp)
    have h5 : DenB E (77 + 1) (rv p.1 - (M : Rat)) := h3.sub ((DenB.int (d := 53) (n := 6) hE (by omega)).mono (by decide))
    exact h4.mul (h5.mul h5)
end den6

section single36
open Classical
variable {K : PySem.W.Frag}
open LamX LamK LamQ
theorem rne_mul {a b : Rat} (h1 : a ≠ 0) (h2 : b ≠ 0) : a * b ≠ 0 := fun z => by
  rcases Rat.mul_eq_zero.mp z with h | h
  · exact h1 h
  · exact h2 h
theorem ChI.len60 {size : Nat} {xs : List (Addr × Row)} {f : Fr} {ms : List Lf} (C : ChI size xs f ms) (s1 : 1 ≤ size) (s3 : size ≤ 3) (n5 : xs.length ≤ 5) : ms.length ≤ 60 := by
  refine Nat.le_trans C.cnt ?_
  have : size = 1 ∨ size = 2 ∨ size = 3 := by omega
  rcases this with rfl | rfl | rfl
  · exact Nat.le_trans (Nat.pow_le_pow_right (by decide) (show xs.length - 1 ≤ 4 by omega)) (by decide)
  · exact Nat.le_trans (Nat.pow_le_pow_right (by decide) (show xs.length - 2 ≤ 3 by omega)) (by decide)
  · exact Nat.le_trans (Nat.pow_le_pow_right (by decide) (show xs.length - 3 ≤ 2 by omega)) (by decide)
theorem ChI.dens {size : Nat} {xs : List (Addr × Row)} {f : Fr} {ms : List Lf} (C : ChI size xs f ms) (n5 : xs.length ≤ 5) : ∃ D, 1 ≤ D ∧ D ≤ 2 ^ 80 ∧ ∀ m ∈ ms, DenB D 80 (rv m.1) := by
  obtain ⟨D, h1, h2, h3⟩ := C.den
  exact ⟨D, h1, Nat.le_trans h2 (Nat.pow_le_pow_right (by decide) (by omega)), fun m hm => (h3 m hm).mono (by omega)⟩
theorem ChI.sub {size : Nat} {xs : List (Addr × Row)} {f : Fr} {ms : List Lf} (C : ChI size xs f ms) {m : Lf} (hm : m ∈ ms) : LeafR wRx xs size (rv f) (m.2.map Prod.fst) := (C.inv.leaf (rvL m) (List.mem_map.mpr ⟨m, hm, rfl⟩)).2.2
def momP (p : Fr × Fr) : Rat × Rat := (rv p.1, rv p.2)
noncomputable def momM (F : List (Addr × Row) → Rat) (m : Lf) : Rat × Rat := (F (m.2.map Prod.fst), rv m.1)
theorem mom_ex {ms : List Lf} {F : List (Addr × Row) → Rat} {fs : List (Fr × Fr)} (h : fs.map momP = ms.map (momM F)) : (fs.map fun p => rv p.1 * rv p.2).sum = ex (ms.map rvL) F ∧ ∀ M, spreadP M fs = ex (ms.map rvL) (fun S => (F S - M) * (F S - M)) := by
  constructor
  · have e1 : (fs.map fun p => rv p.1 * rv p.2) = (fs.map momP).map fun y => y.1 * y.2 := by rw [List.map_map]; rfl
    rw [e1, h, List.map_map]
    unfold ex
    rw [List.map_map]
    congr 1
    exact List.map_congr_left fun m _ => Rat.mul_comm _ _
  · intro M
    unfold spreadP
    have e1 : (fs.map fun p => rv p.2 * ((rv p.1 - M) * (rv p.1 - M))) = (fs.map momP).map fun y => y.2 * ((y.1 - M) * (y.1 - M)) := by rw [List.map_map]; rfl
    rw [e1, h, List.map_map]
    unfold ex
    rw [List.map_map]
    rfl
theorem mom_mem {ms : List Lf} {F : List (Addr × Row) → Rat} {fs : List (Fr × Fr)} (h : fs.map momP = ms.map (momM F)) : ∀ p ∈ fs, ∃ m ∈ ms, rv p.1 = F (m.2.map Prod.fst) ∧ rv p.2 = rv m.1 := fun p hp => by
  have h1 : momP p ∈ ms.map (momM F) := by rw [← h]; exact List.mem_map.mpr ⟨p, hp, rfl⟩
  obtain ⟨m, hm, e⟩ := List.mem_map.mp h1
  exact ⟨m, hm, (congrArg Prod.fst e).symm, (congrArg Prod.snd e).symm⟩
def spSingle (K : PySem.W.Frag) : Sp := fun vs H Q _ => ∃ (D : Addr) (x : Addr × Row) (a : Int) (ts : List Addr) (ms : List Lf) (xs : List (Addr × Row)) (size : Nat) (f : Fr), vs = [.ref D, .ref x.1, .int a] ∧ H D = some (.lst (ts.map V.ref)) ∧ LfsAt K [] H ts ms ∧ ChI size xs f ms ∧ ItemsG xs ∧ 1 ≤ size ∧ size ≤ 3 ∧ x ∈ xs ∧ RowAt H x.1 x.2 ∧ a.natAbs ≤ 10 ∧
  ∀ H' c g, Kp [] H H' → FrAt K H' c g → Low g → rv g = sgl wRx (rv f) (fun _ => (a : Rat)) x → Q (.ref c) H'
theorem ok__law_single {P : Program} {w : World} {K : PySem.W.Frag} {mg : Str → Option Value} {base : Heap} (T : T P K mg base) : FnOk P w K mg base CX0 5 T.a__law_single T.fd__law_single ["found", "item", "amount"] (spSingle K) := by
  refine T.F__law_single.ok sc__law_single (fun vs H Q E h => ?_) (fun cdv A outer s H vs Q E hr h => ?_)
  · obtain ⟨D, x, a, ts, ms, xs, size, f, rfl, _⟩ := h
    rfl
  · obtain ⟨D, x, a, ts, ms, xs, size, f, rfl, hD, hF, C, G, s1, s3, hx, hxR, haB, q⟩ := h
    refine ⟨_, (pss_cons (ps_set (i := 3) sc__law_single.nd rfl (by first | exact Or.inl rfl | exact Or.inr rfl) (pe_lst pa_nil))
      (pss_cons (ps_for PassesOwn.never rfl (pi_list (pv 0)) (pg_tup rfl (pgs_cons (pg_name (i := 4) sc__law_single.nd rfl (by first | exact Or.inl rfl | exact Or.inr rfl)) (pgs_cons (pg_name (i := 5) sc__law_single.nd rfl (by first | exact Or.inl rfl | exact Or.inr rfl)) pgs_nil))) (pss_cons (ps_set (i := 6) sc__law_single.nd rfl (by first | exact Or.inl rfl | exact Or.inr rfl) (pe_tup (pa_cons pe_int (pa_cons pe_int pa_nil))))
      (pss_cons (ps_for PassesOwn.never rfl (pi_list (pv 5)) (pg_tup rfl (pgs_cons (pg_name (i := 7) sc__law_single.nd rfl (by first | exact Or.inl rfl | exact Or.inr rfl)) (pgs_cons (pg_name (i := 8) sc__law_single.nd rfl (by first | exact Or.inl rfl | exact Or.inr rfl)) pgs_nil))) (pss_one (ps_if (pt_cmpR (op_eqD hr.units) (pv 7) (pv 1) (nomark _)) (pss_one (ps_set (i := 6) sc__law_single.nd rfl (by first | exact Or.inl rfl | exact Or.inr rfl) (pe_call (ok__law_low T) (hr.mono (by decide)) (by rfl) T.g__law_low T.F__law_low.kp T.b__law_low .nil pass0 (pa_cons (pe_op op_mulW (pv 2) (pe_ix ix_tup (pv 8) pe_int (fun _ _ => rfl))) (pa_cons (pe_op op_mulW (pe_ix ix_tup (pv 1) pe_int (fun _ _ => rfl)) (pe_ix ix_tup (pv 8) pe_int (fun _ _ => rfl))) pa_nil))))) pss_nil)))
      (pss_one (ps_expr (pe_bm PySem.F.plainAttrs_list PySem.F.slot_list_append PySem.F.type_list_append mt_append (pv 3) (pa_cons (pe_tup (pa_cons (pv 6) (pa_cons (pv 4) pa_nil))) pa_nil)))))))
      (pss_one (ps_ret (pe_ix ix_tup (pe_call (ok__law_moments T) (hr.mono (by decide)) (by rfl) T.g__law_moments T.F__law_moments.kp T.b__law_moments .nil pass0 (pa_cons (pv 3) pa_nil)) pe_int (fun _ _ => rfl)))))), ?_⟩
    have hml := C.len60 s1 s3 G.n5
    have hW := G.W x hx
    have w0 := hW.w0
    have w1 := hW.w1
    walk_at "z0"
    walk_at "z"
    refine Z.lstK (fun R H1 nR k1 e1 => ?_)
    walk_at "z"
    refine Z.forl (ts.map V.ref) (lstL (k1.get nin0 hD)) (fun i σ' H' => ∃ (y4 y5 y6 y7 y8 : Option V) (us : List Addr) (fs : List (Fr × Fr)), σ' = [some (.ref D), some (.ref x.1), some (.int a), some (.ref R), y4, y5, y6, y7, y8] ∧ Kp [] H H' ∧ H' R = some (.lst (us.map V.ref)) ∧ PrsAt K H' us fs ∧ (∀ p ∈ fs, Low p.1 ∧ Low p.2) ∧ fs.map momP = (ms.take i).map (momM fun S => ind S x * hE wRx (rv f) (fun _ => (a : Rat)) x)) ?_ ?_ ?_ ?_
    · exact ⟨_, _, _, _, _, [], [], rfl, k1, e1, .nil, (fun p hp => by cases hp), rfl⟩
    · rintro i σ' H2 _ ⟨y4, y5, y6, y7, y8, us, fs, rfl, k2, _⟩
      exact lstL (k2.get nin0 hD)
    · rintro i v σ' H2 hv ⟨y4, y5, y6, y7, y8, us, fs, rfl, k2, eR, PR, hlo, hfs⟩
      obtain ⟨t, m, rfl, hm, Lm⟩ := (hF.kp0 k2).get hv
      have hmm := List.mem_of_getElem? hm
      have him : i < ms.length := (List.getElem?_eq_some_iff.mp hm).1
      obtain ⟨cA, l', ps, ht', hcA, hl', hP', hqm, _⟩ := id Lm
      obtain ⟨mL, mA⟩ := C.adj m hmm
      have Lf := C.sub hmm
      have hSx : m.2.map Prod.fst = ps.map Pt.x := by rw [← hqm, List.map_map]; rfl
      rw [hSx] at Lf
      refine Z.gtup (tupT ht') rfl ?_
      walk_at "z"
      refine Z.tupK (fun z0 H3 nz k3 e3 => ?_)
      walk_at "z"
      refine Z.forl (prefs ps) (lstL (k3.get nin0 hl')) (fun j σ' H' => ∃ (y7 y8 : Option V) (b : Addr) (g : Fr), σ' = [some (.ref D), some (.ref x.1), some (.int a), some (.ref R), some (.ref cA), some (.ref l'), some (.ref b), y7, y8] ∧ Kp [] H2 H' ∧ FrAt K H' b g ∧ Low g ∧ rv g = ind ((ps.take j).map Pt.x) x * hE wRx (rv f) (fun _ => (a : Rat)) x) ?_ ?_ ?_ ?_
      · refine ⟨_, _, z0, (0, 1), rfl, k3, tupT e3, low_zero, ?_⟩
        rw [rv_zero]
        unfold ind
        rw [if_neg (by simp)]
        grind
      · rintro j σ' H4 _ ⟨y7, y8, b, g, rfl, k4, _⟩
        exact lstL (k4.get nin0 hl')
      · rintro j v σ' H4 hv ⟨y7, y8, b, g, rfl, k4, eb, hgL, hg⟩
        obtain ⟨p, hp, rfl⟩ := prefs_of hv
        have hpm := List.mem_of_getElem? hp
        have hpa := (hP'.kp0 k4) p hpm
        have hpx : p.x ∈ xs := Lf.sub p.x (List.mem_map.mpr ⟨p, hpm, rfl⟩)
        have hpf : p.f = adF f p.x := mA (Pt.pa p) (by rw [← hqm]; exact List.mem_map.mpr ⟨p, hpm, rfl⟩)
        have hok := adF_ok C.fok (G.W p.x hpx)
        rw [← hpf] at hok
        have htk : (ps.take (j + 1)).map Pt.x = (ps.take j).map Pt.x ++ [p.x] := by rw [List.take_add_one, hp, List.map_append]; rfl
        have hnotin : p.x ∉ (ps.take j).map Pt.x := fun hin => by
          have h2 : ((ps.take (j + 1)).map Pt.x).Nodup := by
            rw [List.map_take]
            exact (List.take_sublist _ _).nodup Lf.nd
          rw [htk] at h2
          exact (List.nodup_append.mp h2).2.2 p.x hin p.x (by simp) rfl
        refine Z.gtup (tupT hpa.at_) rfl ?_
        walk_at "z"
        refine eqRow G.key hpx hx (G.S _ hpx) (G.S _ hx) hpa.row (hxR.kp0 (k2.trans k4)) ?_
        walk_at "z"
        refine Z.ite (fun h1 => ?_) (fun h1 => ?_)
        · walk_at "z"
          refine Z.ixT hpa.fr (fr0 _) ?_
          walk_at "z"
          have hB := hok.B
          have hl1 := hok.low.1
          refine Z.iC (mul_ok (n := 20) (by omega) hB.1) ?_
          walk_at "z"
          refine RowAt.w2 (hxR.kp0 (k2.trans k4)) ?_
          walk_at "z"
          refine Z.ixT hpa.fr (fr1 _) ?_
          walk_at "z"
          refine Z.iC (mul_ok (n := 20) (by omega) hB.2) ?_
          walk_at "z"
          have hq1 : 1 ≤ x.2.w * p.f.2 := Int.mul_pos (by omega) (by omega)
          refine ⟨_, _, rfl, hq1, up_B (mul_B (n := 20) (m := 20) (by omega) hB.2) (by decide), fun H5 c5 n5 k5 e5 => ?_⟩
          walk_at "z"
          refine ⟨_, _, c5, _, rfl, k4.trans k5, e5, lo_low (by omega), ?_⟩
          rw [htk, ind_snoc hnotin, if_pos h1.symm, rv_lo (by omega)]
          have e1 : ((a * p.f.1 : Int) : Rat) = (a : Rat) * (p.f.1 : Rat) := by exact_mod_cast rfl
          have e2 : ((x.2.w * p.f.2 : Int) : Rat) = (x.2.w : Rat) * (p.f.2 : Rat) := by exact_mod_cast rfl
          rw [e1, e2]
          unfold hE
          rw [← rv_adF, ← h1, ← hpf]
          have n1 : (p.x.2.w : Rat) ≠ 0 := ratNe (by rw [h1]; omega)
          have n2 : (p.f.2 : Rat) ≠ 0 := ratNe (by omega)
          have n3 := rne_mul n1 n2
          show _ = 1 * ((a : Rat) / (p.x.2.w : Rat) * ((p.f.1 : Rat) / (p.f.2 : Rat)))
          grind
        · walk_at "z"
          refine ⟨_, _, b, g, rfl, k4, eb, hgL, ?_⟩
          rw [htk, ind_snoc hnotin, if_neg fun z => h1 z.symm]
          exact hg
      · rintro σ' H4 ⟨y7, y8, b, g, rfl, k4, eb, hgL, hg⟩
        rw [prefs_len, List.take_length] at hg
        have k24 := k2.trans k4
        walk_at "z"
        refine ⟨Z.tyL (k4.get nin0 eR), ?_⟩
        walk_at "z"
        refine Z.tupK (fun pr H5 npr k5 e5 => ?_)
        walk_at "z"
        have eR5 := (k4.trans k5).get nin0 eR
        refine Z.app eR5 (Z.szl (m := 1000) (by
          have := congrArg List.length hfs
          rw [List.length_map, List.length_map, List.length_take] at this
          rw [List.length_map, PR.len]; omega)) ?_
        have k6 : Kp [R] H5 (upd H5 R (.lst (us.map V.ref ++ [V.ref pr]))) := Kp.put (by simp)
        have eR6 : upd H5 R (.lst (us.map V.ref ++ [V.ref pr])) R = some (.lst ((us ++ [pr]).map V.ref)) := by rw [upd_same, List.map_append]; rfl
        generalize upd H5 R (.lst (us.map V.ref ++ [V.ref pr])) = H6 at k6 eR6 ⊢
        walk_at "z"
        refine ⟨_, _, _, _, _, us ++ [pr], fs ++ [(g, m.1)], rfl, (k24.trans k5).then1 k6 nR, eR6, ?_, mem_append_one hlo ⟨hgL, mL⟩, ?_⟩
        · exact ((PR.kp0 (k4.trans k5)).snoc ⟨b, cA, e5, eb.kp0 k5, hcA.kp0 (k4.trans k5)⟩).kpl k6 eR5
        · rw [List.map_append, hfs, List.take_add_one, hm, List.map_append]
          congr 1
          show [(rv g, rv m.1)] = [(ind (m.2.map Prod.fst) x * hE wRx (rv f) (fun _ => (a : Rat)) x, rv m.1)]
          rw [hg, hSx]
    · rintro σ' H2 ⟨y4, y5, y6, y7, y8, us, fs, rfl, k2, eR, PR, hlo, hfs⟩
      rw [List.length_map, hF.len, List.take_length] at hfs
      obtain ⟨Dn, hD1, hD2, hD3⟩ := C.dens G.n5
      have he := e0_B G
      have hfl : fs.length ≤ 60 := by
        have := congrArg List.length hfs
        rw [List.length_map, List.length_map] at this
        omega
      obtain ⟨b1, b2, b3⟩ := pre_mom (M := a) hfl he.1 he.2 hD1 hD2 (by omega) fun p hp => by
        obtain ⟨m, hm, r1, r2⟩ := mom_mem hfs p hp
        refine ⟨(hlo p hp).1, (hlo p hp).2, ?_, by rw [r2]; exact hD3 m hm⟩
        rw [r1]
        show DenB (e0 xs) 77 (ind (m.2.map Prod.fst) x * _)
        have hd := (hE_den G C.fok hx (am := fun _ => (a : Rat)) haB rfl).mono (show 71 ≤ 77 by decide)
        rcases ind01 (m.2.map Prod.fst) x with z | z
        · rw [z]
          exact ⟨0, by rw [show ((0 : Int) : Rat) = 0 by rfl]; grind, by simp⟩
        · rw [z, Rat.one_mul]
          exact hd
      obtain ⟨m1, m2⟩ := mom_ex hfs
      have hp : ∀ y ∈ xs, 0 < wRx y := fun y hy => wRx_pos (G.W y hy)
      walk_at "z"
      refine ⟨R, us, fs, a, rfl, eR, PR, b1, hfl, by omega, b2, b3, by rw [m1]; exact C.inv.one_mean hp (fun _ => (a : Rat)) hx, fun H3 t mm ss g k3 et em es hgL hg => ?_⟩
      walk_at "z"
      refine Z.ixT (tupT et) rfl ?_
      refine q H3 ss g (k2.trans k3) es hgL ?_
      rw [hg, m2]
      exact C.inv.one_spread hp (fun _ => (a : Rat)) hx
end single36

theorem tyTup {K : PySem.W.Frag} {H : Hp} {a : Addr} {xs : List V} (h : SqT K H a xs) : TyX K H (.ref a) (.type "tuple") := by
  rcases h with (h | ⟨o, h⟩) | ⟨o, its, n, h1, h2, _⟩
  · exact .base (.tup h)
  · exact .fTuple h
  · exact .kTuple h1 h2

set_option maxHeartbeats 20000000
section law36
open Classical
open LamX LamK LamQ
theorem tabs_putD {T : List (Addr × Str)} {H H' : Hp} {l : Addr} {kv : List (Key × V)} (t : Tabs T H) (k : Z.Kp [l] H H') (h : H l = some (.dK kv)) : Tabs T H' := fun p hp => by
  obtain ⟨ps, h1, h2, h3⟩ := t p hp
  have at' : ∀ {b : Addr} {o : HO}, H b = some o → o ≠ .dK kv → H' b = some o := fun {b o} e n => k b o (by
    intro y
    rw [List.mem_singleton.mp y, h] at e
    exact n (Option.some.inj e).symm) e
  exact ⟨ps, at' h1 (by simp), h2, fun pos cv hc => let ⟨c, e1, e2⟩ := h3 pos cv hc; ⟨c, e1, at' e2 (by unfold CodeO; simp)⟩⟩
theorem rowD_put {H H' : Hp} {l : Addr} {kv : List (Key × V)} {a : Addr} {r : Row} (h : RowAt H a r) (k : Z.Kp [l] H H') (e : H l = some (.dK kv)) : RowAt H' a r := k.get (nin1 fun z => by
  have h9 : H l = some (.tup r.vs) := by rw [← z]; exact h
  rw [e] at h9
  cases h9) h
/-- what a leaf's estimate tells -/
theorem opt_vals {kvs : List (Key × V)} (ho : AmtOk kvs) {f : Fr} {pts : List Pt} (hB : ∀ p ∈ pts, PtB p) (hf : ∀ p ∈ pts, p.f = adF f p.x) :
    (Low (fsum (0, 1) (pts.map (addF kvs))) ∧ rv (fsum (0, 1) (pts.map (addF kvs))) = ((pts.map Pt.x).map (hE wRx (rv f) (amR kvs))).sum) ∧
    (Low (fsum (0, 1) (pts.map (varF kvs))) ∧ rv (fsum (0, 1) (pts.map (varF kvs))) = ((pts.map Pt.x).map (varE wRx (rv f) (amR kvs))).sum) := by
  have hs := rv_fsum (fs := pts.map (addF kvs)) low_zero fun f hf => by
    obtain ⟨p, hp, rfl⟩ := List.mem_map.mp hf
    have := ((hB p hp).add ho).1
    omega
  have hs2 := rv_fsum (fs := pts.map (varF kvs)) low_zero fun f hf => by
    obtain ⟨p, hp, rfl⟩ := List.mem_map.mp hf
    have := ((hB p hp).var ho).2.2.1
    omega
  refine ⟨⟨hs.2, ?_⟩, ⟨hs2.2, ?_⟩⟩
  · rw [hs.1, rv_zero, List.map_map, List.map_map]
    have e : pts.map (rv ∘ addF kvs) = pts.map (hE wRx (rv f) (amR kvs) ∘ Pt.x) := List.map_congr_left fun p hp => by
      simp only [Function.comp_apply]
      rw [((hB p hp).add ho).2.2, hf p hp, rv_adF]
      rfl
    rw [e]
    grind
  · rw [hs2.1, rv_zero, List.map_map, List.map_map]
    have e : pts.map (rv ∘ varF kvs) = pts.map (varE wRx (rv f) (amR kvs) ∘ Pt.x) := List.map_congr_left fun p hp => by
      simp only [Function.comp_apply]
      rw [((hB p hp).var ho).2.2.2.2, hf p hp, rv_adF]
      rfl
    rw [e]
    grind
theorem kop_sgl {kvs : List (Key × V)} {t : Rat} {ps : List (Addr × Row)} (hW : ∀ x ∈ ps, RowW x.2) : kopR kvs t ps = (ps.map (sgl wRx t (amR kvs))).sum := by
  unfold kopR
  congr 1
  refine List.map_congr_left fun x hx => ?_
  have h0 := wRx_pos (hW x hx)
  have h1 : wRx x ≠ 0 := by grind
  unfold sgl mxR amR
  show (if wRx x < t then (amt kvs x.2.k : Rat) * (amt kvs x.2.k : Rat) * ((t - wRx x) / wRx x) else 0) = _
  split
  · grind
  · grind
theorem am_sum (kvs : List (Key × V)) (ps : List (Addr × Row)) : (ps.map (amR kvs)).sum = (((amts kvs ps).sum : Int) : Rat) := by
  rw [castSum]
  unfold amts
  rw [List.map_map]
  rfl
theorem ex_denB {ms : List Lf} {F : List (Addr × Row) → Rat} {D E n : Nat} (hl : ms.length ≤ 64) (h : ∀ m ∈ ms, DenB D 80 (rv m.1) ∧ DenB E n (F (m.2.map Prod.fst))) : DenB (D * E) (80 + n + 6) (ex (ms.map rvL) F) := by
  unfold ex
  refine DenB.sum64 (by rw [List.length_map, List.length_map]; omega) fun z hz => ?_
  obtain ⟨l, hl2, rfl⟩ := List.mem_map.mp hz
  obtain ⟨m, hm, rfl⟩ := List.mem_map.mp hl2
  exact (h m hm).1.mul (h m hm).2
def spLaw (K : PySem.W.Frag) (P : Addr) : Sp := fun vs H Q _ => ∃ (a : Addr) (ns : List Int), vs = [.ref a] ∧ SqL K H a (ns.map V.int) ∧ ns.length ≤ 63 ∧ (∀ z ∈ ns, Builtin.Int.intBits z ≤ 1048576) ∧ Tabs [(P, LQ)] H ∧ ∀ H', Q (.bl true) H'
theorem spLaw_in {K : PySem.W.Frag} {P : Addr} (H : Hp) (a : Addr) (ns : List Int) (h1 : ns.length ≤ 63) (h2 : ∀ z ∈ ns, Builtin.Int.intBits z ≤ 1048576) (hP : H P = some (.tbl #[])) (hS : SqL K H a (ns.map V.int)) : spLaw K P [.ref a] H (fun v _ => v = .bl true) fun _ _ _ => False :=
  ⟨a, ns, rfl, hS, h1, h2, fun p hp => by rw [List.mem_singleton.mp hp]; exact TabS.nil hP, fun _ => rfl⟩
theorem ok_law {P : Program} {w : World} {K : PySem.W.Frag} {mg : Str → Option Value} {base : Heap} (T : T P K mg base) : FnOk P w K mg base CX0 10 T.a_law T.fd_law ["script"] (spLaw K T.P__law_threshold) := by
  refine T.F_law.ok sc_law (fun vs H Q E h => ?_) (fun cdv A outer s H vs Q E hr h => ?_)
  · obtain ⟨c, ns, rfl, _⟩ := h
    rfl
  · obtain ⟨c, ns, rfl, hS, hlen, hb, hT, q⟩ := h
    refine ⟨_, (pss_cons (ps_set (i := 1) sc_law.nd rfl (by first | exact Or.inl rfl | exact Or.inr rfl) (pe_call (ok__law_numbers T) (hr.mono (by decide)) (by rfl) T.g__law_numbers T.F__law_numbers.kp T.b__law_numbers .nil pass0 (pa_cons (pv 0) (pa_cons pe_int pa_nil))))
      (pss_cons (ps_set (i := 2) sc_law.nd rfl (by first | exact Or.inl rfl | exact Or.inr rfl) (pe_call (ok__law_items T) (hr.mono (by decide)) (by rfl) T.g__law_items T.F__law_items.kp T.b__law_items .nil pass0 (pa_cons (pv 1) (pa_cons (pe_op op_add pe_int (pe_call (ok__law_take T) (hr.mono (by decide)) (by rfl) T.g__law_take T.F__law_take.kp T.b__law_take .nil pass0 (pa_cons (pv 1) (pa_cons pe_int pa_nil)))) pa_nil))))
      (pss_cons (ps_set (i := 3) sc_law.nd rfl (by first | exact Or.inl rfl | exact Or.inr rfl) (pe_call (ok__law_amounts T) (hr.mono (by decide)) (by rfl) T.g__law_amounts T.F__law_amounts.kp T.b__law_amounts .nil pass0 (pa_cons (pv 1) (pa_cons (pv 2) pa_nil))))
      (Z.pss_consJ (ps_if (pt_cmpR op_eq (pe_call (ok__law_take T) (hr.mono (by decide)) (by rfl) T.g__law_take T.F__law_take.kp T.b__law_take .nil pass0 (pa_cons (pv 1) (pa_cons pe_int pa_nil))) pe_int (nomark _)) (pss_one (ps_for PassesOwn.never rfl (pi_list (pv 2)) (pg_name (i := 4) sc_law.nd rfl (by first | exact Or.inl rfl | exact Or.inr rfl)) (pss_one (ps_dput (hu_of hr) (pv 3) (pe_ix ix_tup (pv 4) pe_int (fun _ _ => rfl)) (pe_callB c_abs (by rfl) T.z_abs (by decide +kernel) (pa_cons (pe_dget2 (Nat.lt_of_le_of_lt (Nat.add_le_add_left (by decide) _) (hu_of hr)) (pv 3) (pe_ix ix_tup (pv 4) pe_int (fun _ _ => rfl)) pe_int ⟨by rfl, by rfl, by rfl, by rfl⟩) pa_nil)) rfl)))) pss_nil)
      (pss_cons (ps_set (i := 5) sc_law.nd rfl (by first | exact Or.inl rfl | exact Or.inr rfl) (pe_op op_add pe_int (pe_call (ok__law_take T) (hr.mono (by decide)) (by rfl) T.g__law_take T.F__law_take.kp T.b__law_take .nil pass0 (pa_cons (pv 1) (pa_cons pe_int pa_nil)))))
      (pss_cons (ps_set (i := 6) sc_law.nd rfl (by first | exact Or.inl rfl | exact Or.inr rfl) (pe_call (ok__law_chain T) (hr.mono (by decide)) (by rfl) T.g__law_chain T.F__law_chain.kp T.b__law_chain .nil pass0 (pa_cons (pv 5) (pa_cons (pv 2) pa_nil))))
      (pss_cons (ps_set (i := 7) sc_law.nd rfl (by first | exact Or.inl rfl | exact Or.inr rfl) (pe_lst pa_nil))
      (pss_cons (ps_set (i := 8) sc_law.nd rfl (by first | exact Or.inl rfl | exact Or.inr rfl) (pe_tup (pa_cons pe_int (pa_cons pe_int pa_nil))))
      (pss_cons (ps_for PassesOwn.never rfl (pi_list (pv 6)) (pg_tup rfl (pgs_cons (pg_name (i := 9) sc_law.nd rfl (by first | exact Or.inl rfl | exact Or.inr rfl)) (pgs_cons (pg_name (i := 10) sc_law.nd rfl (by first | exact Or.inl rfl | exact Or.inr rfl)) pgs_nil))) (pss_cons (ps_set (i := 11) sc_law.nd rfl (by first | exact Or.inl rfl | exact Or.inr rfl) (pe_make T.mk_Optimal (ok_Optimal_init T) (hr.mono (by decide)) (by rfl) T.mg_Optimal T.b_Optimal_init .nil pass0 (pa_cons (pv 5) (pa_cons (pe_callTy c_list (by rfl) T.z_list (by decide +kernel) (pa_cons (pv 10) pa_nil)) pa_nil))))
      (pss_cons (ps_set (i := 12) sc_law.nd rfl (by first | exact Or.inl rfl | exact Or.inr rfl) (pe_call (ok_estimate T) (hr.mono (by decide)) (by rfl) T.g_estimate T.F_estimate.kp T.b_estimate .nil pass0 (pa_cons (pv 11) (pa_cons (pe_callTy call_dictD (by rfl) T.z_dict (by decide +kernel) (pa_cons (pv 3) pa_nil)) pa_nil))))
      (pss_cons (ps_if (PW.pt (pw_or (pt_not (pt_val (pe_callB call_isi (by rfl) T.z_isinstance (by decide +kernel) (pa_cons (pv 12) (pa_cons (pe_bltn (v := .ty "tuple") (by rfl) T.z_tuple (by decide +kernel) rfl) pa_nil))))) (pw_or (pt_cmpR op_ne (pe_call (ok_is_whole T) (hr.mono (by decide)) (by rfl) T.g_is_whole T.F_is_whole.kp T.b_is_whole .nil pass0 (pa_cons (pv 11) pa_nil)) (pe_cmpR op_le (pe_callB c_len (by rfl) T.z_len (by decide +kernel) (pa_cons (pv 2) pa_nil)) (pv 5) (nomark _)) (nomark _)) (pw_or1 (pt_cmpR (op_neD hr.units) (pe_fld (pv 11) rfl) (pv 10) (nomark _)))))) (pss_one (ps_ret pe_bl)) pss_nil)
      (pss_cons (ps_expr (pe_bm PySem.F.plainAttrs_list PySem.F.slot_list_append PySem.F.type_list_append mt_append (pv 7) (pa_cons (pe_tup (pa_cons (pe_ix ix_tup (pv 12) pe_int (fun _ _ => rfl)) (pa_cons (pv 9) pa_nil))) pa_nil)))
      (pss_one (ps_set (i := 8) sc_law.nd rfl (by first | exact Or.inl rfl | exact Or.inr rfl) (pe_call (ok__law_plus T) (hr.mono (by decide)) (by rfl) T.g__law_plus T.F__law_plus.kp T.b__law_plus .nil pass0 (pa_cons (pv 8) (pa_cons (pe_call (ok__law_times T) (hr.mono (by decide)) (by rfl) T.g__law_times T.F__law_times.kp T.b__law_times .nil pass0 (pa_cons (pe_ix ix_tup (pv 12) pe_int (fun _ _ => rfl)) (pa_cons (pv 9) pa_nil))) pa_nil))))))))))
      (pss_cons (ps_asg (pe_call (ok__law_moments T) (hr.mono (by decide)) (by rfl) T.g__law_moments T.F__law_moments.kp T.b__law_moments .nil pass0 (pa_cons (pv 7) pa_nil)) (pg_tup rfl (pgs_cons (pg_name (i := 13) sc_law.nd rfl (by first | exact Or.inl rfl | exact Or.inr rfl)) (pgs_cons (pg_name (i := 14) sc_law.nd rfl (by first | exact Or.inl rfl | exact Or.inr rfl)) pgs_nil))))
      (pss_cons (ps_if (pt_cmpR (op_neD hr.units) (pv 13) (pe_tup (pa_cons (pe_call (ok__law_true T) (hr.mono (by decide)) (by rfl) T.g__law_true T.F__law_true.kp T.b__law_true .nil pass0 (pa_cons (pv 2) (pa_cons (pv 3) pa_nil))) (pa_cons pe_int pa_nil))) (nomark _)) (pss_one (ps_ret pe_bl)) pss_nil)
      (pss_cons (ps_set (i := 15) sc_law.nd rfl (by first | exact Or.inl rfl | exact Or.inr rfl) (pe_call (ok__law_sum T) (hr.mono (by decide)) (by rfl) T.g__law_sum T.F__law_sum.kp T.b__law_sum .nil pass0 (pa_cons (pe_lc (own := [("item", 4)]) (g := gName 4) rfl sc_law.nd (pi_list (pv 2)) (blkOk_by (own := [("item", 4)]) (N := N_law) (sc := defScope s_law) (by decide +kernel)) (fun _ _ _ _ _ => (pg_name (i := 4) sc_law.nd rfl (by first | exact Or.inl rfl | exact Or.inr rfl))) (fun _ _ _ _ _ => pts_nil) (fun _ _ _ _ _ => (pe_call (ok__law_single T) (hr.mono (by decide)) (by rfl) T.g__law_single T.F__law_single.kp T.b__law_single .nil pass0 (pa_cons (pv 6) (pa_cons (pv 4) (pa_cons (pe_dget2 (Nat.lt_of_le_of_lt (Nat.add_le_add_left (by decide) _) (hu_of hr)) (pv 3) (pe_ix (ix_tup : IxR _ (rIxT K)) (pv 4) pe_int (fun _ _ => rfl)) pe_int ⟨by rfl, by rfl, by rfl, by rfl⟩) pa_nil)))))) pa_nil)))
      (pss_cons (ps_if (PW.pt (pw_or (pt_cmpR (op_neD hr.units) (pv 8) (pv 15) (nomark _)) (pw_or1 (pt_cmpR (op_neD hr.units) (pe_call (ok_known_optimal T) (hr.mono (by decide)) (by rfl) T.g_known_optimal T.F_known_optimal.kp T.b_known_optimal .nil pass0 (pa_cons (pe_callTy c_list (by rfl) T.z_list (by decide +kernel) (pa_cons (pv 2) pa_nil)) (pa_cons (pv 5) (pa_cons (pe_callTy call_dictD (by rfl) T.z_dict (by decide +kernel) (pa_cons (pv 3) pa_nil)) pa_nil)))) (pv 15) (nomark _))))) (pss_one (ps_ret pe_bl)) pss_nil)
      (pss_one (ps_ret (pe_or (pe_cmpR op_lt (pe_callB (cr_min rfl) (by rfl) T.z_min (by decide +kernel) (pa_cons (pe_lc (own := [("item", 4)]) (g := gName 4) rfl sc_law.nd (pi_list (pv 2)) (blkOk_by (own := [("item", 4)]) (N := N_law) (sc := defScope s_law) (by decide +kernel)) (fun _ _ _ _ _ => (pg_name (i := 4) sc_law.nd rfl (by first | exact Or.inl rfl | exact Or.inr rfl))) (fun _ _ _ _ _ => pts_nil) (fun _ _ _ _ _ => (pe_dget2 (Nat.lt_of_le_of_lt (Nat.add_le_add_left (by decide) _) (hu_of hr)) (pv 3) (pe_ix (ix_tup : IxR _ (rIxT K)) (pv 4) pe_int (fun _ _ => rfl)) pe_int ⟨by rfl, by rfl, by rfl, by rfl⟩))) pa_nil)) pe_int (nomark _)) (pe_one (pe_not (pe_call (ok__law_less T) (hr.mono (by decide)) (by rfl) T.g__law_less T.F__law_less.kp T.b__law_less .nil pass0 (pa_cons (pv 8) (pa_cons (pv 14) pa_nil))))))))))))))))))))), ?_⟩
    walk_at "z0"
    walk_at "z"
    refine ⟨c, ns, 90, rfl, hS, by decide, hb, fun a H1 na k1 d1 => ?_⟩
    have T1 := tabs_kp hT k1
    walk_at "z"
    refine ⟨a, 5, rfl, d1, by decide, by decide, fun H2 n2 hn0 hn1 k2 d2 => ?_⟩
    have T2 : Tabs [(T.P__law_threshold, LQ)] H2 := let ⟨_, h⟩ := d1; tabs_put T1 k2 h
    obtain ⟨n, hn⟩ : ∃ n : Nat, 1 + n2 = (n : Int) := ⟨(1 + n2).toNat, by omega⟩
    have hnn1 : 1 ≤ n := by omega
    have hnn5 : n ≤ 5 := by omega
    walk_at "z"
    rw [hn]
    refine ⟨a, n, rfl, d2, by omega, fun H3 p ps np I => ?_⟩
    have T3 : Tabs [(T.P__law_threshold, LQ)] H3 := let ⟨_, h⟩ := d2; tabs_put T2 I.kp h
    have hpl : ps.length = n := I.len
    have G : ItemsG ps := by
      have h7 : ∀ x ∈ ps, RowS x.2 ∧ RowW x.2 := fun x hx => by
        obtain ⟨j, hj, he⟩ := List.getElem_of_mem hx
        have h7 := I.ok j x (by rw [List.getElem?_eq_getElem hj, he])
        exact ⟨h7.s (by omega), h7.w0, h7.w1⟩
      exact ⟨fun x hx => (h7 x hx).2, fun x hx => (h7 x hx).1, items_nd (by omega) I.ok, by omega⟩
    have npa : p ≠ a := fun z => by obtain ⟨ns2, h2⟩ := d2; rw [← z, np] at h2; cases h2
    walk_at "z"
    refine ⟨a, p, ps, rfl, I.dr, I.at_, I.rows, npa, by omega, fun H4 d kvs nd k4 d4 e4 ho hAN hkl => ?_⟩
    have T4 : Tabs [(T.P__law_threshold, LQ)] H4 := let ⟨_, h⟩ := I.dr; tabs_put T3 k4 h
    have e4p := k4.get (nin1 npa) I.at_
    have r4 := I.rows.kpd k4 I.dr
    have nda : d ≠ a := fun z => by obtain ⟨ns2, h2⟩ := I.dr; rw [← z, nd] at h2; cases h2
    have npd : p ≠ d := fun z => by have h2 := I.at_; rw [z, nd] at h2; cases h2
    clear k1 k2 k4 T1 T2 T3 I
    walk_at "z"
    refine Z.seqJ (fun σ' H' => ∃ (y4 : Option V) (kv2 : List (Key × V)), σ' = [some (.ref c), some (.ref a), some (.ref p), some (.ref d), y4, none, none, none, none, none, none, none, none, none, none, none] ∧ Tabs [(T.P__law_threshold, LQ)] H' ∧ DrawsAt H' a ∧ H' p = some (.lst (refs ps)) ∧ RowsAt H' ps ∧ H' d = some (.dK kv2) ∧ AmtOk kv2 ∧ AmtN kv2) ?_ ?_
    · clear d4 e4 e4p r4 ho hAN hkl kvs nd T4
      rintro σ' H5 ⟨y4, kvs, rfl, T5, d5, e5p, r5, e5d, ho, hAN⟩
      walk_at "z"
      refine ⟨a, 3, rfl, d5, by decide, by decide, fun H6 v6 h60 h61 k6 d6 => ?_⟩
      have T6 : Tabs [(T.P__law_threshold, LQ)] H6 := let ⟨_, h⟩ := d5; tabs_put T5 k6 h
      have e6p := k6.get (nin1 npa) e5p
      have e6d := k6.get (nin1 nda) e5d
      have r6 := r5.kpd k6 d5
      obtain ⟨size, hsz⟩ : ∃ m : Nat, 1 + v6 = (m : Int) := ⟨(1 + v6).toNat, by omega⟩
      have s1 : 1 ≤ size := by omega
      have s3 : size ≤ 3 := by omega
      clear T5 d5 e5p e5d r5 k6 d6
      walk_at "z"
      rw [hsz]
      refine ⟨p, ps, size, rfl, T6, e6p, r6, G, s1, s3, fun H7 D ts ms f e7 T7 eD FD C => ?_⟩
      have e7p := ext_get e7 e6p
      have e7d := ext_get e7 e6d
      have r7 : RowsAt H7 ps := fun x hx => ext_get e7 (r6 x hx)
      clear e7 T6 e6p e6d r6 T7
      have hml := C.len60 s1 s3 G.n5
      obtain ⟨Dn, hD1, hD2, hD3⟩ := C.dens G.n5
      have he := e0_B G
      have hpos : ∀ y ∈ ps, 0 < wRx y := fun y hy => wRx_pos (G.W y hy)
      have hnd := G.nd
      have hEden : ∀ S : List (Addr × Row), S.length ≤ 64 → (∀ x ∈ S, x ∈ ps) → DenB (e0 ps) 77 (S.map (hE wRx (rv f) (amR kvs))).sum := fun S hl hs => DenB.sum64 (n := 71) (by rw [List.length_map]; exact hl) fun z hz => by
        obtain ⟨x, hx, rfl⟩ := List.mem_map.mp hz
        exact hE_den G C.fok (hs x hx) (amt_le ho x.2.k) rfl
      have hVden : ∀ S : List (Addr × Row), S.length ≤ 64 → (∀ x ∈ S, x ∈ ps) → DenB (e0 ps * e0 ps) 148 (S.map (varE wRx (rv f) (amR kvs))).sum := fun S hl hs => DenB.sum64 (n := 142) (by rw [List.length_map]; exact hl) fun z hz => by
        obtain ⟨x, hx, rfl⟩ := List.mem_map.mp hz
        exact varE_den G C.fok (hs x hx) (amt_le ho x.2.k) rfl
      have hSl : ∀ m ∈ ms, (m.2.map Prod.fst).length = min size ps.length := fun m hm => (C.sub hm).len
      have htoldB : ∀ i g, Low g → rv g = ex ((ms.take i).map rvL) (fun S => (S.map (varE wRx (rv f) (amR kvs))).sum) → FrB 240 g := fun i g hg hv => by
        refine den_B (D := Dn * (e0 ps * e0 ps)) (n := 234) (d := 186) hg ?_ (Nat.mul_le_mul hD1 (Nat.mul_le_mul he.1 he.1)) (Nat.le_trans (Nat.mul_le_mul hD2 (Nat.mul_le_mul he.2 he.2)) (by rw [← Nat.pow_add, ← Nat.pow_add]; decide)) (by decide) (by decide)
        rw [hv]
        exact ex_denB (n := 148) (by rw [List.length_take]; omega) fun m hm => ⟨hD3 m (List.mem_of_mem_take hm), hVden _ (by have := hSl m (List.mem_of_mem_take hm); omega) (C.sub (List.mem_of_mem_take hm)).sub⟩
      walk_at "z"
      refine Z.lstK (fun R H8 nR k8 e8 => ?_)
      walk_at "z"
      refine Z.tupK (fun z0 H9 nz0 k9 e9 => ?_)
      have k79 := k8.trans k9
      walk_at "z"
      refine Z.forl (ts.map V.ref) (lstL (k79.get nin0 eD)) (fun j σ' H' => ∃ (y9 y10 y11 y12 : Option V) (b : Addr) (g : Fr) (us : List Addr) (fs : List (Fr × Fr)), σ' = [some (.ref c), some (.ref a), some (.ref p), some (.ref d), y4, some (.int (size : Int)), some (.ref D), some (.ref R), some (.ref b), y9, y10, y11, y12, none, none, none] ∧ Kp [] H7 H' ∧ H' R = some (.lst (us.map V.ref)) ∧ PrsAt K H' us fs ∧ (∀ p ∈ fs, Low p.1 ∧ Low p.2) ∧ fs.map momP = (ms.take j).map (momM fun S => (S.map (hE wRx (rv f) (amR kvs))).sum) ∧ FrAt K H' b g ∧ Low g ∧ rv g = ex ((ms.take j).map rvL) (fun S => (S.map (varE wRx (rv f) (amR kvs))).sum)) ?_ ?_ ?_ ?_
      · exact ⟨_, _, _, _, z0, (0, 1), [], [], rfl, k79, k9.get nin0 e8, .nil, (fun p hp => by cases hp), rfl, tupT e9, low_zero, by rw [rv_zero]; rfl⟩
      · rintro j σ' H10 _ ⟨y9, y10, y11, y12, b, g, us, fs, rfl, k10, _⟩
        exact lstL (k10.get nin0 eD)
      · rintro j v σ' H10 hv ⟨y9, y10, y11, y12, b, g, us, fs, rfl, k10, eR, PR, hlo, hfs, eb, hgL, hg⟩
        obtain ⟨t, m, rfl, hm, Lm⟩ := (FD.kp0 k10).get hv
        have hmm := List.mem_of_getElem? hm
        have hjm : j < ms.length := (List.getElem?_eq_some_iff.mp hm).1
        obtain ⟨cA, l', pts, ht', hcA, hl', hP', hqm, _⟩ := id Lm
        obtain ⟨mL, mA⟩ := C.adj m hmm
        have Lf := C.sub hmm
        have hSx : m.2.map Prod.fst = pts.map Pt.x := by rw [← hqm, List.map_map]; rfl
        have hSl' := hSl m hmm
        rw [hSx] at Lf hSl'
        have hptl : pts.length = min size ps.length := by rw [List.length_map] at hSl'; exact hSl'
        have hpf : ∀ q ∈ pts, p = p ∧ q.f = adF f q.x ∧ q.x ∈ ps := fun q hq => ⟨rfl, mA (Pt.pa q) (by rw [← hqm]; exact List.mem_map.mpr ⟨q, hq, rfl⟩), Lf.sub q.x (List.mem_map.mpr ⟨q, hq, rfl⟩)⟩
        have hPB : ∀ q ∈ pts, PtB q := fun q hq => by
          obtain ⟨_, h1, h2⟩ := hpf q hq
          have hW := G.W q.x h2
          have h3 := adF_ok C.fok hW
          refine ⟨hW, by rw [h1]; exact h3.low.1, ?_⟩
          rw [h1]
          unfold adF
          split
          · exact C.fok.B
          · have := hW.w0
            have := hW.w1
            exact ⟨by show q.x.2.w.natAbs < 2 ^ 13; omega, by show (1 : Nat) < 2 ^ 13; decide⟩
        obtain ⟨⟨vL, vv⟩, ⟨wL, wv⟩⟩ := opt_vals ho hPB fun q hq => (hpf q hq).2.1
        refine Z.gtup (tupT ht') rfl ?_
        walk_at "z"
        refine Z.listL (lstL hl') (fun lp H11 nlp k11 e11 => ?_)
        walk_at "z"
        intro x dx nx ndx nxd
        refine ⟨x, lp, dx, (size : Int), pts, rfl, upd_same, ?_, (hP'.kp0 k11).kp0 (Kp.made (M := []) nx ndx), by omega, fun H12 pa kk npa2 nkk k12 hU => ⟨rfl, ?_⟩⟩
        · rw [upd_ne (ne_of_none e11 nx), upd_ne (ne_of_none e11 ndx)]; exact e11
        have k1112 : Kp [] H11 H12 := (Kp.made (M := []) nx ndx).then1 k12 nx
        have k1012 := k11.trans k1112
        have hSm : SmpAt T H12 x (.O pa kk (size : Int) pts) := ⟨hU, hP'.kp0 k1012⟩
        have hG : SmpG (.O pa kk (size : Int) pts) := ⟨by show 1 ≤ (pts.map Pt.x).length; rw [List.length_map]; omega, by show (pts.map Pt.x).length ≤ 6; rw [List.length_map]; omega, fun y hy => G.W y (Lf.sub y hy), hPB⟩
        walk_at "z"
        refine ⟨d, kvs, rfl, .inl ((k10.trans k1012).get nin0 e7d), fun gd ngd => ?_⟩
        have k13 : Kp [] H12 (upd H12 gd (.dK kvs)) := Kp.new ngd
        have e13 : upd H12 gd (.dK kvs) gd = some (.dK kvs) := upd_same
        generalize upd H12 gd (.dK kvs) = H13 at k13 e13 ⊢
        walk_at "z"
        refine ⟨x, gd, _, kvs, rfl, hSm.kp0 k13, hG, e13, ho, fun H14 an k14 A14 => ?_⟩
        rw [opt_eq ho hPB] at A14
        obtain ⟨ee, uu, han, hee, huu⟩ := id A14
        obtain ⟨ww, rfl, hww⟩ := huu
        have k1214 := k13.trans k14
        have k1014 := k1012.trans k1214
        walk_at "z"
        refine Z.isi (A := "tuple") (b := true) (tyTup (tupT han)) (by decide +kernel) ?_
        walk_at "z"
        refine ⟨x, _, rfl, hSm.kp0 k1214, by show (pts.map Pt.x).length ≤ 1000; rw [List.length_map]; omega, fun H15 k15 => ?_⟩
        walk_at "z"
        have k1015 := k1014.trans k15
        refine Z.lenL (lstL ((k10.trans k1015).get nin0 e7p)) ?_
        rw [refs_len]
        walk_at "z"
        have hwh : Smp.whole (.O pa kk (size : Int) pts) = decide ((ps.length : Int) ≤ (size : Int)) := by
          have h1 := Lf.whole hnd hpos C.thr
          show (pts.all fun q => decide (q.f = (q.x.2.w, 1))) = _
          rw [Bool.eq_iff_iff, List.all_eq_true, decide_eq_true_eq]
          have h2 : (∀ q ∈ pts, decide (q.f = (q.x.2.w, 1)) = true) ↔ ∀ y ∈ pts.map Pt.x, mxR (wRx y) (rv f) = wRx y := by
            constructor
            · intro h y hy
              obtain ⟨q, hq, rfl⟩ := List.mem_map.mp hy
              have h3 := of_decide_eq_true (h q hq)
              rw [← rv_adF, ← (hpf q hq).2.1, h3]
              exact rv_wF q.x
            · intro h q hq
              refine decide_eq_true ?_
              have h3 := h q.x (List.mem_map.mpr ⟨q, hq, rfl⟩)
              have h4 := adF_ok C.fok (G.W q.x (hpf q hq).2.2)
              rw [(hpf q hq).2.1]
              refine low_eq h4.low (wF_ok (G.W q.x (hpf q hq).2.2)).low ?_
              rw [rv_adF, h3]
              exact (rv_wF q.x).symm
          rw [h2, h1]
          omega
        refine Z.noN hwh ?_
        have hU15 := hU.kp0 (k1214.trans k15)
        obtain ⟨⟨dx15, hx15⟩, hp15, _⟩ := id hU15
        walk_at "z"
        refine ⟨x, _, dx15, _, _, rfl, hx15, T.cl_Optimal, T.na_Optimal_parts, of_parts (size : Int) pa kk, ?_⟩
        walk_at "z"
        refine nePts hp15 (k1015.get nin0 hl') (hP'.kp0 k1015) (fun q hq => G.S q.x (hpf q hq).2.2) ?_
        walk_at "z"
        refine ⟨Z.tyL (k1015.get nin0 eR), ?_⟩
        walk_at "z"
        refine Z.ixT (tupT (k15.get nin0 han)) rfl ?_
        walk_at "z"
        refine Z.tupK (fun pr H16 npr k16 e16 => ?_)
        have k1016 := k1015.trans k16
        have k1516 := k15.trans k16
        have eR16 := k1016.get nin0 eR
        walk_at "z"
        refine Z.app eR16 (Z.szl (m := 1000) (by
          have := congrArg List.length hfs
          rw [List.length_map, List.length_map, List.length_take] at this
          rw [List.length_map, PR.len]; omega)) ?_
        have k17 : Kp [R] H16 (upd H16 R (.lst (us.map V.ref ++ [V.ref pr]))) := Kp.put (by simp)
        have eR17 : upd H16 R (.lst (us.map V.ref ++ [V.ref pr])) R = some (.lst ((us ++ [pr]).map V.ref)) := by rw [upd_same, List.map_append]; rfl
        generalize upd H16 R (.lst (us.map V.ref ++ [V.ref pr])) = H17 at k17 eR17 ⊢
        have nRt : ∀ {x : Addr} {xs : List V}, H16 x = some (.tup xs) → x ∉ [R] := fun h => nin1 fun z => by rw [z, eR16] at h; cases h
        have han17 := k17.get (nRt (k1516.get nin0 han)) (k1516.get nin0 han)
        have hww17 : FrAt K H17 ww _ := (hww.kp0 k1516).kpl k17 eR16
        have hcA17 : FrAt K H17 cA m.1 := (hcA.kp0 k1016).kpl k17 eR16
        have eb17 : FrAt K H17 b g := (eb.kp0 k1016).kpl k17 eR16
        have hvB : FrB 150 (fsum (0, 1) (pts.map (varF kvs))) := by
          refine den_B (D := e0 ps * e0 ps) (n := 148) (d := 106) wL ?_ (Nat.mul_le_mul he.1 he.1) (Nat.le_trans (Nat.mul_le_mul he.2 he.2) (by rw [← Nat.pow_add]; decide)) (by decide) (by decide)
          rw [wv]
          exact hVden _ (by omega) Lf.sub
        have hcB : FrB 100 m.1 := den_B (d := 80) (k := 100) mL (hD3 m hmm) hD1 hD2 (by decide) (by decide)
        walk_at "z"
        refine Z.ixT (tupT han17) rfl ?_
        walk_at "z"
        refine ⟨ww, cA, _, m.1, rfl, hww17, hcA17, wL.1, mL.1, ⟨150, 100, hvB, hcB, by decide⟩, fun H18 pc npc k18 e18 => ?_⟩
        have pL : Low (ftimes (fsum (0, 1) (pts.map (varF kvs))) m.1) := lo_low (Int.mul_ne_zero wL.ne mL.ne)
        have pB : FrB 250 (ftimes (fsum (0, 1) (pts.map (varF kvs))) m.1) := ftimes_B (n := 150) (m := 100) hvB hcB wL.ne mL.ne
        walk_at "z"
        refine ⟨b, pc, g, _, rfl, eb17.kp0 k18, e18, hgL.1, pL.1, ⟨240, 250, htoldB j g hgL hg, pB, by decide⟩, fun H19 b2 nb2 k19 e19 => ?_⟩
        walk_at "z"
        refine ⟨_, _, _, _, b2, _, us ++ [pr], fs ++ [(fsum (0, 1) (pts.map (addF kvs)), m.1)], rfl, ?_, ?_, ?_, mem_append_one hlo ⟨vL, mL⟩, ?_, e19, fplus_low hgL.ne pL.ne, ?_⟩
        · exact (((k10.trans k1016).then1 k17 nR).trans k18).trans k19
        · exact (k18.trans k19).get nin0 eR17
        · exact ((((PR.kp0 k1016).snoc ⟨ee, cA, e16, hee.kp0 k1516, hcA.kp0 k1016⟩).kpl k17 eR16).kp0 k18).kp0 k19
        · rw [List.map_append, hfs, List.take_add_one, hm, List.map_append]
          congr 1
          show [(rv (fsum (0, 1) (pts.map (addF kvs))), rv m.1)] = [(((m.2.map Prod.fst).map (hE wRx (rv f) (amR kvs))).sum, rv m.1)]
          rw [vv, hSx]
        · rw [rv_fplus hgL.ne pL.ne, rv_ftimes wL.ne mL.ne, hg, wv, List.take_add_one, hm, List.map_append, ex_app]
          show _ = _ + ex [rvL m] _
          rw [ex_cons, ex_nil]
          show _ = _ + (rv m.1 * ((m.2.map Prod.fst).map (varE wRx (rv f) (amR kvs))).sum + 0)
          rw [hSx]
          grind
      · rintro σ' H10 ⟨y9, y10, y11, y12, b, g, us, fs, rfl, k10, eR, PR, hlo, hfs, eb, hgL, hg⟩
        rw [List.length_map, FD.len, List.take_length] at hfs hg
        have e10p := k10.get nin0 e7p
        have e10d := k10.get nin0 e7d
        have e10D := k10.get nin0 eD
        have r10 := r7.kp0 k10
        have FD10 := FD.kp0 k10
        have hgB := htoldB ms.length g hgL (by rw [List.take_length]; exact hg)
        clear k10 k79 k8 k9 e7p e7d eD r7 FD e8 e9
        have hfl : fs.length ≤ 60 := by
          have := congrArg List.length hfs
          rw [List.length_map, List.length_map] at this
          omega
        have hM : (amts kvs ps).sum.natAbs ≤ 60 := by
          have h1 := sum_absI (c := 10) (l := amts kvs ps) (amts_B ho)
          have h2 : (amts kvs ps).length = ps.length := by unfold amts; rw [List.length_map]
          omega
        obtain ⟨b1, b2, b3⟩ := pre_mom (M := (amts kvs ps).sum) hfl he.1 he.2 hD1 hD2 hM fun p hp => by
          obtain ⟨m, hm, r1, r2⟩ := mom_mem hfs p hp
          refine ⟨(hlo p hp).1, (hlo p hp).2, ?_, by rw [r2]; exact hD3 m hm⟩
          rw [r1]
          exact hEden _ (by have := hSl m hm; omega) (C.sub hm).sub
        obtain ⟨m1, m2⟩ := mom_ex hfs
        have hmean := C.inv.mean hnd hpos (amR kvs)
        have htold := C.inv.told hnd (amR kvs)
        walk_at "z"
        refine ⟨R, us, fs, (amts kvs ps).sum, rfl, eR, PR, b1, hfl, hM, b2, b3, by rw [m1, hmean]; exact am_sum kvs ps, fun H11 t mm ss sg k11 et em es hsL hsv => ?_⟩
        walk_at "z"
        refine Z.gtup (tupT et) rfl ?_
        walk_at "z"
        refine ⟨p, d, ps, kvs, rfl, k11.get nin0 e10p, r10.kp0 k11, by omega, k11.get nin0 e10d, ho, fun H12 k12 => ?_⟩
        walk_at "z"
        refine Z.tupK (fun tt H13 ntt k13 e13 => ?_)
        have k1213 := k12.trans k13
        have k1013 := k11.trans k1213
        walk_at "z"
        refine neF (em.kp0 k1213) (show FrAt K H13 tt ((amts kvs ps).sum, 1) from tupT e13) ?_
        have e13p := k1013.get nin0 e10p
        have e13d := k1013.get nin0 e10d
        have e13D := k1013.get nin0 e10D
        have r13 := r10.kp0 k1013
        have FD13 := FD10.kp0 k1013
        have eb13 := eb.kp0 k1013
        have es13 := es.kp0 k1213
        clear k11 k12 k13 k1213 k1013 e10p e10d e10D r10 FD10 eb es em et eR PR
        walk_at "z"
        refine Z.noN rfl ?_
        walk_at "z"
        refine Z.lcl (refs ps) (lstL e13p) (fun L i H' => ∃ (as : List Addr) (gs : List Fr), Kp [] H13 H' ∧ H' L = some (.lst (as.map V.ref)) ∧ FrsAt K H' as gs ∧ (∀ g ∈ gs, Low g) ∧ gs.map rv = (ps.take i).map (sgl wRx (rv f) (amR kvs))) ?_ ?_ ?_ ?_
        · intro L H14 nL k14 e14
          exact ⟨[], [], k14, e14, .nil, (fun g hg => by cases hg), rfl⟩
        · rintro L i H14 nL hi ⟨as, gs, k14, e14, F14, hgs, hgv⟩
          exact lstL (k14.get nin0 e13p)
        · rintro L i v H14 nL hv ⟨as, gs, k14, e14, F14, hgs, hgv⟩
          obtain ⟨x, hx, rfl⟩ := refs_of hv
          have hxm := List.mem_of_getElem? hx
          have hi : i < ps.length := (List.getElem?_eq_some_iff.mp hx).1
          have r14 := (r13.kp0 k14) x hxm
          dsimp only [wipe, List.set]
          walk_at "z"
          refine ⟨rfl, ?_⟩
          walk_at "z"
          refine ⟨d, rfl, .inl ⟨kvs, .inl (k14.get nin0 e13d)⟩, ?_⟩
          walk_at "z"
          refine RowAt.k0 r14 ?_
          walk_at "z"
          refine ⟨_, DGet.k (k := .inr x.2.k) (k14.get nin0 e13d), ?_⟩
          rw [getD_amt ho]
          walk_at "z"
          refine ⟨D, x, amt kvs x.2.k, ts, ms, ps, size, f, rfl, k14.get nin0 e13D, FD13.kp0 k14, C, G, s1, s3, hxm, r14, amt_le ho x.2.k, fun H15 c15 g15 k15 e15 h15 v15 => ?_⟩
          have e15D := k15.get nin0 e14
          have hgl : gs.length = i := by
            have := congrArg List.length hgv
            rw [List.length_map, List.length_map, List.length_take] at this
            omega
          refine ⟨_, e15D, Z.szl (m := 1000) (by rw [List.length_map, F14.len]; omega), as ++ [c15], gs ++ [g15], (k14.trans k15).mut nL rfl, by rw [upd_same, List.map_append]; rfl, ((F14.kp0 k15).snoc e15).kpl (Kp.put (by simp)) e15D, mem_append_one hgs h15, ?_⟩
          rw [List.map_append, hgv, List.take_add_one, hx, List.map_append]
          congr 1
          show [rv g15] = [sgl wRx (rv f) (amR kvs) x]
          rw [v15]
          rfl
        rintro L H14 nL ⟨as, gs, k14, e14, F14, hgs, hgv⟩
        rw [refs_len, List.take_length] at hgv
        have hgl : gs.length = ps.length := by
          have := congrArg List.length hgv
          rwa [List.length_map, List.length_map] at this
        have hgd : ∀ z ∈ gs.map rv, DenB (e0 ps) 160 z := fun z hz => by
          rw [hgv] at hz
          obtain ⟨x, hx, rfl⟩ := List.mem_map.mp hz
          exact sgl_den G C.fok hx (amt_le ho x.2.k) rfl
        have hs := rv_fsum (fs := gs) low_zero fun g hg => (hgs g hg).ne
        have hsv2 : rv (fsum (0, 1) gs) = (ps.map (sgl wRx (rv f) (amR kvs))).sum := by
          rw [hs.1, rv_zero, hgv]
          grind
        walk_at "z"
        refine ⟨L, as, gs, rfl, lstL e14, F14, fun g hg => ⟨(hgs g hg).1, den_B (d := 53) (k := 900) (hgs g hg) (hgd _ (List.mem_map.mpr ⟨g, hg, rfl⟩)) he.1 he.2 (by decide) (by decide)⟩, fun i => ?_, fun H15 sn k15 e15 => ?_⟩
        · have hs3 := rv_fsum (fs := gs.take i) low_zero fun g hg => (hgs g (List.mem_of_mem_take hg)).ne
          refine den_B (D := e0 ps) (n := 166) (d := 53) hs3.2 ?_ he.1 he.2 (by decide) (by decide)
          rw [hs3.1, rv_zero]
          have h5 : DenB (e0 ps) (160 + 6) ((gs.take i).map rv).sum := DenB.sum64 (by rw [List.length_map, List.length_take]; have := G.n5; omega) fun z hz => by
            obtain ⟨y, hy, rfl⟩ := List.mem_map.mp hz
            exact hgd _ (List.mem_map.mpr ⟨y, List.mem_of_mem_take hy, rfl⟩)
          rwa [show ∀ a : Rat, 0 + a = a from fun a => by grind]
        have k1315 := k14.trans k15
        have hgeq : g = fsum (0, 1) gs := low_eq hgL hs.2 (by rw [hg, hsv2]; exact htold)
        rw [← hgeq] at e15 hs hsv2
        walk_at "z"
        refine neF (eb13.kp0 k1315) e15 ?_
        walk_at "z"
        refine Z.noN rfl ?_
        walk_at "z"
        refine Z.listL (lstL (k1315.get nin0 e13p)) (fun lc H16 nlc k16 e16 => ?_)
        have k1316 := k1315.trans k16
        walk_at "z"
        refine ⟨d, kvs, rfl, .inl (k1316.get nin0 e13d), fun gd ngd => ?_⟩
        have k17 : Kp [] H16 (upd H16 gd (.dK kvs)) := Kp.new ngd
        have e17 : upd H16 gd (.dK kvs) gd = some (.dK kvs) := upd_same
        generalize upd H16 gd (.dK kvs) = H17 at k17 e17 ⊢
        have k1317 := k1316.trans k17
        walk_at "z"
        refine ⟨lc, gd, size, ps, kvs, rfl, k17.get nin0 e16, r13.kp0 k1317, G.W, by omega, s1, e17, ho, fun H18 kn gk th k18 e18 hkL hth hkv => ?_⟩
        have hthr : th = rv f := thr_uniq (ws := wsR ps) (k := size) (fun w hw => by
          obtain ⟨x, hx, rfl⟩ := List.mem_map.mp hw
          exact hpos x hx) hth C.thr
        have hkeq : gk = g := low_eq hkL hgL (by rw [hkv, hthr, hsv2]; exact kop_sgl G.W)
        rw [hkeq] at e18
        have k1318 := k1317.trans k18
        walk_at "z"
        refine neF e18 (e15.kp0 ((k16.trans k17).trans k18)) ?_
        walk_at "z"
        refine Z.noN rfl ?_
        have e18p := k1318.get nin0 e13p
        have e18d := k1318.get nin0 e13d
        have r18 := r13.kp0 k1318
        have eb18 := eb13.kp0 k1318
        have es18 := es13.kp0 k1318
        walk_at "z"
        refine Z.lcl (refs ps) (lstL e18p) (fun D i H' => Kp [] H18 H' ∧ H' D = some (.lst ((amts kvs (ps.take i)).map V.int))) ?_ ?_ ?_ ?_
        · intro D H19 nD k19 e19
          exact ⟨k19, e19⟩
        · rintro D i H19 nD hi ⟨k19, e19⟩
          exact lstL (k19.get nin0 e18p)
        · rintro D i v H19 nD hv ⟨k19, e19⟩
          obtain ⟨x, hx, rfl⟩ := refs_of hv
          have hi : i < ps.length := (List.getElem?_eq_some_iff.mp hx).1
          dsimp only [wipe, List.set]
          walk_at "z"
          refine ⟨rfl, ?_⟩
          walk_at "z"
          refine ⟨d, rfl, .inl ⟨kvs, .inl (k19.get nin0 e18d)⟩, ?_⟩
          walk_at "z"
          refine RowAt.k0 ((r18.kp0 k19) x (List.mem_of_getElem? hx)) ?_
          walk_at "z"
          refine ⟨_, DGet.k (k := .inr x.2.k) (k19.get nin0 e18d), ?_⟩
          rw [getD_amt ho]
          refine ⟨_, e19, Z.szl (m := 1000) (by unfold amts; rw [List.length_map, List.length_map, List.length_take]; omega), k19.mut nD rfl, ?_⟩
          rw [upd_same, List.take_add_one, hx]
          unfold amts
          rw [List.map_append, List.map_append]; rfl
        rintro AD H19 nAD ⟨k19, e19⟩
        rw [refs_len, List.take_length] at e19
        walk_at "z"
        refine ⟨AD, amts kvs ps, rfl, lstL e19, by unfold amts; rw [List.length_map]; omega, fun mn hmn hmin => ?_⟩
        walk_at "z"
        refine Z.ite (fun h1 => q _) (fun h1 => ?_)
        have hnn : ∀ y ∈ ps, 0 ≤ amR kvs y := fun y hy => by
          have h2 := hmin (amt kvs y.2.k) (List.mem_map.mpr ⟨y, hy, rfl⟩)
          have h3 : 0 ≤ amt kvs y.2.k := by omega
          show (0 : Rat) ≤ (amt kvs y.2.k : Rat)
          exact_mod_cast h3
        have hspread := C.inv.spread hnd hpos (amR kvs) hnn
        have hsle : rv sg ≤ rv g := by
          rw [hsv, m2, hsv2, ← am_sum]
          exact hspread
        have hsB := b3 fs.length sg hsL (by rw [List.take_length]; exact hsv)
        walk_at "z"
        refine ⟨b, ss, g, sg, rfl, eb18.kp0 k19, es18.kp0 k19, hgB.mono (by decide), hsB.mono (by decide), ?_⟩
        rw [fless_iff hgL.1 hsL.1]
        have hf : decide (rv g < rv sg) = false := decide_eq_false (by grind)
        rw [hf]
        walk_at "z"
        exact q _
    · intro N1 jn
      walk_at "z"
      refine ⟨a, 2, rfl, d4, by decide, by decide, fun H5 v5 h50 h51 k5 d5 => ?_⟩
      have T5 : Tabs [(T.P__law_threshold, LQ)] H5 := let ⟨_, h⟩ := d4; tabs_put T4 k5 h
      have e5p := k5.get (nin1 npa) e4p
      have e5d := k5.get (nin1 nda) e4
      have r5 := r4.kpd k5 d4
      walk_at "z"
      refine Z.ite (fun h1 => ?_) (fun h1 => ?_)
      · walk_at "z"
        refine Z.forl (refs ps) (lstL e5p) (fun i σ' H' => ∃ (y4 : Option V) (kv2 : List (Key × V)), σ' = [some (.ref c), some (.ref a), some (.ref p), some (.ref d), y4, none, none, none, none, none, none, none, none, none, none, none] ∧ Kp [d] H5 H' ∧ H' d = some (.dK kv2) ∧ AmtOk kv2 ∧ AmtN kv2 ∧ kv2.length ≤ 11 + i) ?_ ?_ ?_ ?_
        · exact ⟨_, kvs, rfl, Kp.refl _, e5d, ho, hAN, by omega⟩
        · rintro i σ' H6 hi ⟨y4, kv2, rfl, k6, _⟩
          exact lstL (k6.get (nin1 npd) e5p)
        · rintro i v σ' H6 hv ⟨y4, kv2, rfl, k6, e6, ho2, hN2, hl2⟩
          obtain ⟨x, hx, rfl⟩ := refs_of hv
          have hi : i < ps.length := (List.getElem?_eq_some_iff.mp hx).1
          have r6 := rowD_put (r5 x (List.mem_of_getElem? hx)) k6 e5d
          walk_at "z"
          refine ⟨d, rfl, .inl ⟨kv2, .inl e6⟩, ?_⟩
          walk_at "z"
          refine RowAt.k0 r6 ?_
          walk_at "z"
          refine ⟨_, DGet.k (k := .inr x.2.k) e6, ?_⟩
          rw [getD_amt ho2]
          walk_at "z"
          refine RowAt.k0 r6 ?_
          have hab := amt_le ho2 x.2.k
          rw [abs_if]
          refine ⟨d, _, rfl, DPut.k (k := .inr x.2.k) e6 (by have : 100000 ≤ sizeLine := (by decide); omega), ?_⟩
          walk_at "z"
          have hp := putK_le9 kv2 (.inr x.2.k) (.int ((amt kv2 x.2.k).natAbs : Int))
          exact ⟨_, _, rfl, k6.trans (Kp.put (by simp)), upd_same, ho2.put (by omega), hN2.put _ _, by omega⟩
        · rintro σ' H6 ⟨y4, kv2, rfl, k6, e6, ho2, hN2, hl2⟩
          walk_at "z"
          refine jn _ _ ⟨_, kv2, rfl, tabs_putD T5 k6 e5d, let ⟨ns, h⟩ := d5; ⟨ns, k6.get (nin1 nda.symm) h⟩, k6.get (nin1 npd) e5p, fun x hx => rowD_put (r5 x hx) k6 e5d, e6, ho2, hN2⟩
      · walk_at "z"
        exact jn _ _ ⟨_, kvs, rfl, T5, d5, e5p, r5, e5d, ho, hAN⟩
end law36

set_option maxHeartbeats 2000000 in
set_option maxHeartbeats 4000000 in
theorem all_mk {l : PySem.W.OpenLaw} {w : World} {K : PySem.W.Frag} {h : Heap} {mg : Str → Option Value} {fa : Addr} {ts : List Addr} (X : K.In h) (G : h.Ns mainGlobals mg) (hts : ∀ P ∈ ts, h.get? P = some (PySem.W.tabObj #[])) (hfa : mg "law" = some (.ref fa))
    {CSamphireError : Addr}
    {CZeroDenominator fZeroDenominator cZeroDenominator ccZeroDenominator : Addr}
    {COptimal : Addr}
    {CUniform : Addr}
    {CWeighted : Addr}
    {od1 an1 : Option Addr} {sl1 : Array (Option Value)} {oc1 kV1 dc1 pm1 cd1 ct1 : Value} {f1 : Addr}
    {od2 an2 : Option Addr} {sl2 : Array (Option Value)} {oc2 kV2 dc2 pm2 cd2 ct2 : Value} {f2 : Addr}
    {od3 an3 : Option Addr} {sl3 : Array (Option Value)} {oc3 kV3 dc3 pm3 cd3 ct3 : Value} {f3 : Addr}
    {od4 an4 : Option Addr} {sl4 : Array (Option Value)} {oc4 kV4 dc4 pm4 cd4 ct4 : Value} {f4 : Addr}
    {od5 an5 : Option Addr} {sl5 : Array (Option Value)} {oc5 kV5 dc5 pm5 cd5 ct5 : Value} {f5 : Addr}
    {od6 an6 : Option Addr} {sl6 : Array (Option Value)} {oc6 kV6 dc6 pm6 cd6 ct6 : Value} {f6 : Addr}
    {od7 an7 : Option Addr} {sl7 : Array (Option Value)} {oc7 kV7 dc7 pm7 cd7 ct7 : Value} {f7 : Addr}
    {od8 an8 : Option Addr} {sl8 : Array (Option Value)} {oc8 kV8 dc8 pm8 cd8 ct8 : Value} {f8 : Addr}
    {od9 an9 : Option Addr} {sl9 : Array (Option Value)} {oc9 kV9 dc9 pm9 cd9 ct9 : Value} {f9 : Addr}
    {od10 an10 : Option Addr} {sl10 : Array (Option Value)} {oc10 kV10 dc10 pm10 cd10 ct10 : Value} {f10 : Addr}
    {od11 an11 : Option Addr} {sl11 : Array (Option Value)} {oc11 kV11 dc11 pm11 cd11 ct11 : Value} {f11 : Addr}
    {od12 an12 : Option Addr} {sl12 : Array (Option Value)} {oc12 kV12 dc12 pm12 cd12 ct12 : Value} {f12 : Addr}
    {od13 an13 : Option Addr} {sl13 : Array (Option Value)} {oc13 kV13 dc13 pm13 cd13 ct13 : Value} {f13 : Addr}
    {od14 an14 : Option Addr} {sl14 : Array (Option Value)} {oc14 kV14 dc14 pm14 cd14 ct14 : Value} {f14 : Addr}
    {od15 an15 : Option Addr} {sl15 : Array (Option Value)} {oc15 kV15 dc15 pm15 cd15 ct15 : Value} {f15 : Addr}
    {od16 an16 : Option Addr} {sl16 : Array (Option Value)} {oc16 kV16 dc16 pm16 cd16 ct16 : Value} {f16 : Addr}
    {od17 an17 : Option Addr} {sl17 : Array (Option Value)} {oc17 kV17 dc17 pm17 cd17 ct17 : Value} {f17 : Addr}
    {od18 an18 : Option Addr} {sl18 : Array (Option Value)} {oc18 kV18 dc18 pm18 cd18 ct18 : Value} {f18 : Addr}
    {od19 an19 : Option Addr} {sl19 : Array (Option Value)} {oc19 kV19 dc19 pm19 cd19 ct19 : Value} {f19 : Addr}
    {od20 an20 : Option Addr} {sl20 : Array (Option Value)} {oc20 kV20 dc20 pm20 cd20 ct20 : Value} {f20 : Addr}
    {od21 an21 : Option Addr} {sl21 : Array (Option Value)} {oc21 kV21 dc21 pm21 cd21 ct21 : Value} {f21 : Addr}
    {od22 an22 : Option Addr} {sl22 : Array (Option Value)} {oc22 kV22 dc22 pm22 cd22 ct22 : Value} {f22 : Addr}
    {od23 an23 : Option Addr} {sl23 : Array (Option Value)} {oc23 kV23 dc23 pm23 cd23 ct23 : Value} {f23 : Addr}
    {od24 an24 : Option Addr} {sl24 : Array (Option Value)} {oc24 kV24 dc24 pm24 cd24 ct24 : Value} {f24 : Addr}
    {od25 an25 : Option Addr} {sl25 : Array (Option Value)} {oc25 kV25 dc25 pm25 cd25 ct25 : Value} {f25 : Addr}
    {od26 an26 : Option Addr} {sl26 : Array (Option Value)} {oc26 kV26 dc26 pm26 cd26 ct26 : Value} {f26 : Addr}
    {od27 an27 : Option Addr} {sl27 : Array (Option Value)} {oc27 kV27 dc27 pm27 cd27 ct27 : Value} {f27 : Addr}
    {od28 an28 : Option Addr} {sl28 : Array (Option Value)} {oc28 kV28 dc28 pm28 cd28 ct28 : Value} {f28 : Addr}
    {od29 an29 : Option Addr} {sl29 : Array (Option Value)} {oc29 kV29 dc29 pm29 cd29 ct29 : Value} {f29 : Addr}
    {od30 an30 : Option Addr} {sl30 : Array (Option Value)} {oc30 kV30 dc30 pm30 cd30 ct30 : Value} {f30 : Addr}
    {od31 an31 : Option Addr} {sl31 : Array (Option Value)} {oc31 kV31 dc31 pm31 cd31 ct31 : Value} {f31 : Addr}
    {od32 an32 : Option Addr} {sl32 : Array (Option Value)} {oc32 kV32 dc32 pm32 cd32 ct32 : Value} {f32 : Addr}
    {od33 an33 : Option Addr} {sl33 : Array (Option Value)} {oc33 kV33 dc33 pm33 cd33 ct33 : Value} {f33 : Addr}
    {od34 an34 : Option Addr} {sl34 : Array (Option Value)} {oc34 kV34 dc34 pm34 cd34 ct34 : Value} {f34 : Addr}
    {od35 an35 : Option Addr} {sl35 : Array (Option Value)} {oc35 kV35 dc35 pm35 cd35 ct35 : Value} {f35 : Addr}
    {od36 an36 : Option Addr} {sl36 : Array (Option Value)} {oc36 kV36 dc36 pm36 cd36 ct36 : Value} {f36 : Addr}
    {od37 an37 : Option Addr} {sl37 : Array (Option Value)} {oc37 kV37 dc37 pm37 cd37 ct37 : Value} {f37 : Addr}
    {od38 an38 : Option Addr} {sl38 : Array (Option Value)} {oc38 kV38 dc38 pm38 cd38 ct38 : Value} {f38 : Addr}
    {od39 an39 : Option Addr} {sl39 : Array (Option Value)} {oc39 kV39 dc39 pm39 cd39 ct39 : Value} {f39 : Addr}
    {od40 an40 : Option Addr} {sl40 : Array (Option Value)} {oc40 kV40 dc40 pm40 cd40 ct40 : Value} {f40 : Addr}
    {od41 an41 : Option Addr} {sl41 : Array (Option Value)} {oc41 kV41 dc41 pm41 cd41 ct41 : Value} {f41 : Addr}
    {od42 an42 : Option Addr} {sl42 : Array (Option Value)} {oc42 kV42 dc42 pm42 ct42 : Value} {f42 : Addr}
    {tc42 tP42 : Addr} {toc42 : Value} {tod42 : Option Addr} {tcv42 : List Value} {tsl42 : Array (Option Value)}
    {od43 an43 : Option Addr} {sl43 : Array (Option Value)} {oc43 kV43 dc43 pm43 cd43 ct43 : Value} {f43 : Addr}
    {od44 an44 : Option Addr} {sl44 : Array (Option Value)} {oc44 kV44 dc44 pm44 cd44 ct44 : Value} {f44 : Addr}
    {od45 an45 : Option Addr} {sl45 : Array (Option Value)} {oc45 kV45 dc45 pm45 cd45 ct45 : Value} {f45 : Addr}
    {od46 an46 : Option Addr} {sl46 : Array (Option Value)} {oc46 kV46 dc46 pm46 cd46 ct46 : Value} {f46 : Addr}
    {od47 an47 : Option Addr} {sl47 : Array (Option Value)} {oc47 kV47 dc47 pm47 cd47 ct47 : Value} {f47 : Addr}
    {nmZeroDenominator qZeroDenominator : Str} {NZeroDenominator : Addr} {bsZeroDenominator : List Value} {snZeroDenominator : List Str} {subZeroDenominator : List Value} {abZeroDenominator : Bool} {colZeroDenominator : Option Bool} {ddZeroDenominator : Option Addr} {m0ZeroDenominator m1ZeroDenominator m2ZeroDenominator m3ZeroDenominator m5ZeroDenominator : Option Value} {occZeroDenominator : Value} {cddZeroDenominator : Option Addr} {cvsZeroDenominator : List Value} {cslZeroDenominator : Array (Option Value)} {cclZeroDenominator : Value} {ccdZeroDenominator : Option Addr} {ccsZeroDenominator : Array (Option Value)} {ocZeroDenominator : Value} {odZeroDenominator : Option Addr} {oslZeroDenominator : Array (Option Value)} {docZeroDenominator pmZeroDenominator ctvZeroDenominator : Value}
    {k_ZERO : Addr} {od_ZERO : Option Addr} {nn_ZERO : Nat} {sl_ZERO : Array (Option Value)} {t0_ZERO t1_ZERO : Tok}
    (a1 : PySem.W.nsIn K mainGlobals "lowest" = some (some (.ref f1)))
    (l1 : K.lookup f1 = some ⟨oc1, od1, .func (PySem.W.fnOf "lowest" "lowest" (defArgs s_lowest) (defBody s_lowest) (defScope s_lowest) .none kV1 dc1 pm1 an1 cd1 ct1), sl1⟩)
    (c1 : PySem.W.codeIn K cd1 "lowest" = true)
    (k1 : PySem.W.keepIn K (.ref f1) = true)
    (a2 : PySem.W.nsIn K mainGlobals "plus" = some (some (.ref f2)))
    (l2 : K.lookup f2 = some ⟨oc2, od2, .func (PySem.W.fnOf "plus" "plus" (defArgs s_plus) (defBody s_plus) (defScope s_plus) .none kV2 dc2 pm2 an2 cd2 ct2), sl2⟩)
    (c2 : PySem.W.codeIn K cd2 "plus" = true)
    (k2 : PySem.W.keepIn K (.ref f2) = true)
    (a3 : PySem.W.nsIn K mainGlobals "minus" = some (some (.ref f3)))
    (l3 : K.lookup f3 = some ⟨oc3, od3, .func (PySem.W.fnOf "minus" "minus" (defArgs s_minus) (defBody s_minus) (defScope s_minus) .none kV3 dc3 pm3 an3 cd3 ct3), sl3⟩)
    (c3 : PySem.W.codeIn K cd3 "minus" = true)
    (k3 : PySem.W.keepIn K (.ref f3) = true)
    (a4 : PySem.W.nsIn K mainGlobals "times" = some (some (.ref f4)))
    (l4 : K.lookup f4 = some ⟨oc4, od4, .func (PySem.W.fnOf "times" "times" (defArgs s_times) (defBody s_times) (defScope s_times) .none kV4 dc4 pm4 an4 cd4 ct4), sl4⟩)
    (c4 : PySem.W.codeIn K cd4 "times" = true)
    (k4 : PySem.W.keepIn K (.ref f4) = true)
    (a5 : PySem.W.nsIn K mainGlobals "over" = some (some (.ref f5)))
    (l5 : K.lookup f5 = some ⟨oc5, od5, .func (PySem.W.fnOf "over" "over" (defArgs s_over) (defBody s_over) (defScope s_over) .none kV5 dc5 pm5 an5 cd5 ct5), sl5⟩)
    (c5 : PySem.W.codeIn K cd5 "over" = true)
    (k5 : PySem.W.keepIn K (.ref f5) = true)
    (a6 : PySem.W.nsIn K mainGlobals "less" = some (some (.ref f6)))
    (l6 : K.lookup f6 = some ⟨oc6, od6, .func (PySem.W.fnOf "less" "less" (defArgs s_less) (defBody s_less) (defScope s_less) .none kV6 dc6 pm6 an6 cd6 ct6), sl6⟩)
    (c6 : PySem.W.codeIn K cd6 "less" = true)
    (k6 : PySem.W.keepIn K (.ref f6) = true)
    (a7 : PySem.W.nsIn K mainGlobals "sum_of" = some (some (.ref f7)))
    (l7 : K.lookup f7 = some ⟨oc7, od7, .func (PySem.W.fnOf "sum_of" "sum_of" (defArgs s_sum_of) (defBody s_sum_of) (defScope s_sum_of) .none kV7 dc7 pm7 an7 cd7 ct7), sl7⟩)
    (c7 : PySem.W.codeIn K cd7 "sum_of" = true)
    (k7 : PySem.W.keepIn K (.ref f7) = true)
    (a8 : PySem.W.nsIn K mainGlobals "common_denominator" = some (some (.ref f8)))
    (l8 : K.lookup f8 = some ⟨oc8, od8, .func (PySem.W.fnOf "common_denominator" "common_denominator" (defArgs s_common_denominator) (defBody s_common_denominator) (defScope s_common_denominator) .none kV8 dc8 pm8 an8 cd8 ct8), sl8⟩)
    (c8 : PySem.W.codeIn K cd8 "common_denominator" = true)
    (k8 : PySem.W.keepIn K (.ref f8) = true)
    (a9 : PySem.W.nsIn K mainGlobals "scaled" = some (some (.ref f9)))
    (l9 : K.lookup f9 = some ⟨oc9, od9, .func (PySem.W.fnOf "scaled" "scaled" (defArgs s_scaled) (defBody s_scaled) (defScope s_scaled) .none kV9 dc9 pm9 an9 cd9 ct9), sl9⟩)
    (c9 : PySem.W.codeIn K cd9 "scaled" = true)
    (k9 : PySem.W.keepIn K (.ref f9) = true)
    (a10 : PySem.W.nsIn K mainGlobals "weight_of" = some (some (.ref f10)))
    (l10 : K.lookup f10 = some ⟨oc10, od10, .func (PySem.W.fnOf "weight_of" "weight_of" (defArgs s_weight_of) (defBody s_weight_of) (defScope s_weight_of) .none kV10 dc10 pm10 an10 cd10 ct10), sl10⟩)
    (c10 : PySem.W.codeIn K cd10 "weight_of" = true)
    (k10 : PySem.W.keepIn K (.ref f10) = true)
    (a11 : PySem.W.nsIn K mainGlobals "threshold" = some (some (.ref f11)))
    (l11 : K.lookup f11 = some ⟨oc11, od11, .func (PySem.W.fnOf "threshold" "threshold" (defArgs s_threshold) (defBody s_threshold) (defScope s_threshold) .none kV11 dc11 pm11 an11 cd11 ct11), sl11⟩)
    (c11 : PySem.W.codeIn K cd11 "threshold" = true)
    (k11 : PySem.W.keepIn K (.ref f11) = true)
    (a12 : PySem.W.nsIn K mainGlobals "weights_of" = some (some (.ref f12)))
    (l12 : K.lookup f12 = some ⟨oc12, od12, .func (PySem.W.fnOf "weights_of" "weights_of" (defArgs s_weights_of) (defBody s_weights_of) (defScope s_weights_of) .none kV12 dc12 pm12 an12 cd12 ct12), sl12⟩)
    (c12 : PySem.W.codeIn K cd12 "weights_of" = true)
    (k12 : PySem.W.keepIn K (.ref f12) = true)
    (a13 : PySem.W.findIn K (.ref COptimal) "__init__" = some (some (.ref f13)))
    (i13 : PySem.W.isFn K (.ref f13) = true)
    (l13 : K.lookup f13 = some ⟨oc13, od13, .func (PySem.W.fnOf "__init__" "Optimal.__init__" (defArgs s_Optimal_init) (defBody s_Optimal_init) (defScope s_Optimal_init) .none kV13 dc13 pm13 an13 cd13 ct13), sl13⟩)
    (c13 : PySem.W.codeIn K cd13 "Optimal.__init__" = true)
    (k13 : PySem.W.keepIn K (.ref f13) = true)
    (a14 : PySem.W.findIn K (.ref CUniform) "__init__" = some (some (.ref f14)))
    (i14 : PySem.W.isFn K (.ref f14) = true)
    (l14 : K.lookup f14 = some ⟨oc14, od14, .func (PySem.W.fnOf "__init__" "Uniform.__init__" (defArgs s_Uniform_init) (defBody s_Uniform_init) (defScope s_Uniform_init) .none kV14 dc14 pm14 an14 cd14 ct14), sl14⟩)
    (c14 : PySem.W.codeIn K cd14 "Uniform.__init__" = true)
    (k14 : PySem.W.keepIn K (.ref f14) = true)
    (a15 : PySem.W.findIn K (.ref CWeighted) "__init__" = some (some (.ref f15)))
    (i15 : PySem.W.isFn K (.ref f15) = true)
    (l15 : K.lookup f15 = some ⟨oc15, od15, .func (PySem.W.fnOf "__init__" "Weighted.__init__" (defArgs s_Weighted_init) (defBody s_Weighted_init) (defScope s_Weighted_init) .none kV15 dc15 pm15 an15 cd15 ct15), sl15⟩)
    (c15 : PySem.W.codeIn K cd15 "Weighted.__init__" = true)
    (k15 : PySem.W.keepIn K (.ref f15) = true)
    (a16 : PySem.W.nsIn K mainGlobals "is_whole" = some (some (.ref f16)))
    (l16 : K.lookup f16 = some ⟨oc16, od16, .func (PySem.W.fnOf "is_whole" "is_whole" (defArgs s_is_whole) (defBody s_is_whole) (defScope s_is_whole) .none kV16 dc16 pm16 an16 cd16 ct16), sl16⟩)
    (c16 : PySem.W.codeIn K cd16 "is_whole" = true)
    (k16 : PySem.W.keepIn K (.ref f16) = true)
    (a17 : PySem.W.nsIn K mainGlobals "amount_of" = some (some (.ref f17)))
    (l17 : K.lookup f17 = some ⟨oc17, od17, .func (PySem.W.fnOf "amount_of" "amount_of" (defArgs s_amount_of) (defBody s_amount_of) (defScope s_amount_of) .none kV17 dc17 pm17 an17 cd17 ct17), sl17⟩)
    (c17 : PySem.W.codeIn K cd17 "amount_of" = true)
    (k17 : PySem.W.keepIn K (.ref f17) = true)
    (a18 : PySem.W.nsIn K mainGlobals "true_sum" = some (some (.ref f18)))
    (l18 : K.lookup f18 = some ⟨oc18, od18, .func (PySem.W.fnOf "true_sum" "true_sum" (defArgs s_true_sum) (defBody s_true_sum) (defScope s_true_sum) .none kV18 dc18 pm18 an18 cd18 ct18), sl18⟩)
    (c18 : PySem.W.codeIn K cd18 "true_sum" = true)
    (k18 : PySem.W.keepIn K (.ref f18) = true)
    (a19 : PySem.W.nsIn K mainGlobals "mean_of" = some (some (.ref f19)))
    (l19 : K.lookup f19 = some ⟨oc19, od19, .func (PySem.W.fnOf "mean_of" "mean_of" (defArgs s_mean_of) (defBody s_mean_of) (defScope s_mean_of) .none kV19 dc19 pm19 an19 cd19 ct19), sl19⟩)
    (c19 : PySem.W.codeIn K cd19 "mean_of" = true)
    (k19 : PySem.W.keepIn K (.ref f19) = true)
    (a20 : PySem.W.nsIn K mainGlobals "squares_around" = some (some (.ref f20)))
    (l20 : K.lookup f20 = some ⟨oc20, od20, .func (PySem.W.fnOf "squares_around" "squares_around" (defArgs s_squares_around) (defBody s_squares_around) (defScope s_squares_around) .none kV20 dc20 pm20 an20 cd20 ct20), sl20⟩)
    (c20 : PySem.W.codeIn K cd20 "squares_around" = true)
    (k20 : PySem.W.keepIn K (.ref f20) = true)
    (a21 : PySem.W.nsIn K mainGlobals "amounts_of" = some (some (.ref f21)))
    (l21 : K.lookup f21 = some ⟨oc21, od21, .func (PySem.W.fnOf "amounts_of" "amounts_of" (defArgs s_amounts_of) (defBody s_amounts_of) (defScope s_amounts_of) .none kV21 dc21 pm21 an21 cd21 ct21), sl21⟩)
    (c21 : PySem.W.codeIn K cd21 "amounts_of" = true)
    (k21 : PySem.W.keepIn K (.ref f21) = true)
    (a22 : PySem.W.nsIn K mainGlobals "uniform_estimate" = some (some (.ref f22)))
    (l22 : K.lookup f22 = some ⟨oc22, od22, .func (PySem.W.fnOf "uniform_estimate" "uniform_estimate" (defArgs s_uniform_estimate) (defBody s_uniform_estimate) (defScope s_uniform_estimate) .none kV22 dc22 pm22 an22 cd22 ct22), sl22⟩)
    (c22 : PySem.W.codeIn K cd22 "uniform_estimate" = true)
    (k22 : PySem.W.keepIn K (.ref f22) = true)
    (a23 : PySem.W.nsIn K mainGlobals "ordered_estimates" = some (some (.ref f23)))
    (l23 : K.lookup f23 = some ⟨oc23, od23, .func (PySem.W.fnOf "ordered_estimates" "ordered_estimates" (defArgs s_ordered_estimates) (defBody s_ordered_estimates) (defScope s_ordered_estimates) .none kV23 dc23 pm23 an23 cd23 ct23), sl23⟩)
    (c23 : PySem.W.codeIn K cd23 "ordered_estimates" = true)
    (k23 : PySem.W.keepIn K (.ref f23) = true)
    (a24 : PySem.W.nsIn K mainGlobals "weighted_estimate" = some (some (.ref f24)))
    (l24 : K.lookup f24 = some ⟨oc24, od24, .func (PySem.W.fnOf "weighted_estimate" "weighted_estimate" (defArgs s_weighted_estimate) (defBody s_weighted_estimate) (defScope s_weighted_estimate) .none kV24 dc24 pm24 an24 cd24 ct24), sl24⟩)
    (c24 : PySem.W.codeIn K cd24 "weighted_estimate" = true)
    (k24 : PySem.W.keepIn K (.ref f24) = true)
    (a25 : PySem.W.nsIn K mainGlobals "optimal_estimate" = some (some (.ref f25)))
    (l25 : K.lookup f25 = some ⟨oc25, od25, .func (PySem.W.fnOf "optimal_estimate" "optimal_estimate" (defArgs s_optimal_estimate) (defBody s_optimal_estimate) (defScope s_optimal_estimate) .none kV25 dc25 pm25 an25 cd25 ct25), sl25⟩)
    (c25 : PySem.W.codeIn K cd25 "optimal_estimate" = true)
    (k25 : PySem.W.keepIn K (.ref f25) = true)
    (a26 : PySem.W.nsIn K mainGlobals "estimate" = some (some (.ref f26)))
    (l26 : K.lookup f26 = some ⟨oc26, od26, .func (PySem.W.fnOf "estimate" "estimate" (defArgs s_estimate) (defBody s_estimate) (defScope s_estimate) .none kV26 dc26 pm26 an26 cd26 ct26), sl26⟩)
    (c26 : PySem.W.codeIn K cd26 "estimate" = true)
    (k26 : PySem.W.keepIn K (.ref f26) = true)
    (a27 : PySem.W.nsIn K mainGlobals "known_optimal" = some (some (.ref f27)))
    (l27 : K.lookup f27 = some ⟨oc27, od27, .func (PySem.W.fnOf "known_optimal" "known_optimal" (defArgs s_known_optimal) (defBody s_known_optimal) (defScope s_known_optimal) .none kV27 dc27 pm27 an27 cd27 ct27), sl27⟩)
    (c27 : PySem.W.codeIn K cd27 "known_optimal" = true)
    (k27 : PySem.W.keepIn K (.ref f27) = true)
    (a28 : PySem.W.nsIn K mainGlobals "_law_mix" = some (some (.ref f28)))
    (l28 : K.lookup f28 = some ⟨oc28, od28, .func (PySem.W.fnOf "_law_mix" "_law_mix" (defArgs s__law_mix) (defBody s__law_mix) (defScope s__law_mix) .none kV28 dc28 pm28 an28 cd28 ct28), sl28⟩)
    (c28 : PySem.W.codeIn K cd28 "_law_mix" = true)
    (k28 : PySem.W.keepIn K (.ref f28) = true)
    (a29 : PySem.W.nsIn K mainGlobals "_law_numbers" = some (some (.ref f29)))
    (l29 : K.lookup f29 = some ⟨oc29, od29, .func (PySem.W.fnOf "_law_numbers" "_law_numbers" (defArgs s__law_numbers) (defBody s__law_numbers) (defScope s__law_numbers) .none kV29 dc29 pm29 an29 cd29 ct29), sl29⟩)
    (c29 : PySem.W.codeIn K cd29 "_law_numbers" = true)
    (k29 : PySem.W.keepIn K (.ref f29) = true)
    (a30 : PySem.W.nsIn K mainGlobals "_law_take" = some (some (.ref f30)))
    (l30 : K.lookup f30 = some ⟨oc30, od30, .func (PySem.W.fnOf "_law_take" "_law_take" (defArgs s__law_take) (defBody s__law_take) (defScope s__law_take) .none kV30 dc30 pm30 an30 cd30 ct30), sl30⟩)
    (c30 : PySem.W.codeIn K cd30 "_law_take" = true)
    (k30 : PySem.W.keepIn K (.ref f30) = true)
    (a31 : PySem.W.nsIn K mainGlobals "_law_low" = some (some (.ref f31)))
    (l31 : K.lookup f31 = some ⟨oc31, od31, .func (PySem.W.fnOf "_law_low" "_law_low" (defArgs s__law_low) (defBody s__law_low) (defScope s__law_low) .none kV31 dc31 pm31 an31 cd31 ct31), sl31⟩)
    (c31 : PySem.W.codeIn K cd31 "_law_low" = true)
    (k31 : PySem.W.keepIn K (.ref f31) = true)
    (a32 : PySem.W.nsIn K mainGlobals "_law_plus" = some (some (.ref f32)))
    (l32 : K.lookup f32 = some ⟨oc32, od32, .func (PySem.W.fnOf "_law_plus" "_law_plus" (defArgs s__law_plus) (defBody s__law_plus) (defScope s__law_plus) .none kV32 dc32 pm32 an32 cd32 ct32), sl32⟩)
    (c32 : PySem.W.codeIn K cd32 "_law_plus" = true)
    (k32 : PySem.W.keepIn K (.ref f32) = true)
    (a33 : PySem.W.nsIn K mainGlobals "_law_minus" = some (some (.ref f33)))
    (l33 : K.lookup f33 = some ⟨oc33, od33, .func (PySem.W.fnOf "_law_minus" "_law_minus" (defArgs s__law_minus) (defBody s__law_minus) (defScope s__law_minus) .none kV33 dc33 pm33 an33 cd33 ct33), sl33⟩)
    (c33 : PySem.W.codeIn K cd33 "_law_minus" = true)
    (k33 : PySem.W.keepIn K (.ref f33) = true)
    (a34 : PySem.W.nsIn K mainGlobals "_law_times" = some (some (.ref f34)))
    (l34 : K.lookup f34 = some ⟨oc34, od34, .func (PySem.W.fnOf "_law_times" "_law_times" (defArgs s__law_times) (defBody s__law_times) (defScope s__law_times) .none kV34 dc34 pm34 an34 cd34 ct34), sl34⟩)
    (c34 : PySem.W.codeIn K cd34 "_law_times" = true)
    (k34 : PySem.W.keepIn K (.ref f34) = true)
    (a35 : PySem.W.nsIn K mainGlobals "_law_less" = some (some (.ref f35)))
    (l35 : K.lookup f35 = some ⟨oc35, od35, .func (PySem.W.fnOf "_law_less" "_law_less" (defArgs s__law_less) (defBody s__law_less) (defScope s__law_less) .none kV35 dc35 pm35 an35 cd35 ct35), sl35⟩)
    (c35 : PySem.W.codeIn K cd35 "_law_less" = true)
    (k35 : PySem.W.keepIn K (.ref f35) = true)
    (a36 : PySem.W.nsIn K mainGlobals "_law_sum" = some (some (.ref f36)))
    (l36 : K.lookup f36 = some ⟨oc36, od36, .func (PySem.W.fnOf "_law_sum" "_law_sum" (defArgs s__law_sum) (defBody s__law_sum) (defScope s__law_sum) .none kV36 dc36 pm36 an36 cd36 ct36), sl36⟩)
    (c36 : PySem.W.codeIn K cd36 "_law_sum" = true)
    (k36 : PySem.W.keepIn K (.ref f36) = true)
    (a37 : PySem.W.nsIn K mainGlobals "_law_items" = some (some (.ref f37)))
    (l37 : K.lookup f37 = some ⟨oc37, od37, .func (PySem.W.fnOf "_law_items" "_law_items" (defArgs s__law_items) (defBody s__law_items) (defScope s__law_items) .none kV37 dc37 pm37 an37 cd37 ct37), sl37⟩)
    (c37 : PySem.W.codeIn K cd37 "_law_items" = true)
    (k37 : PySem.W.keepIn K (.ref f37) = true)
    (a38 : PySem.W.nsIn K mainGlobals "_law_amounts" = some (some (.ref f38)))
    (l38 : K.lookup f38 = some ⟨oc38, od38, .func (PySem.W.fnOf "_law_amounts" "_law_amounts" (defArgs s__law_amounts) (defBody s__law_amounts) (defScope s__law_amounts) .none kV38 dc38 pm38 an38 cd38 ct38), sl38⟩)
    (c38 : PySem.W.codeIn K cd38 "_law_amounts" = true)
    (k38 : PySem.W.keepIn K (.ref f38) = true)
    (a39 : PySem.W.nsIn K mainGlobals "_law_true" = some (some (.ref f39)))
    (l39 : K.lookup f39 = some ⟨oc39, od39, .func (PySem.W.fnOf "_law_true" "_law_true" (defArgs s__law_true) (defBody s__law_true) (defScope s__law_true) .none kV39 dc39 pm39 an39 cd39 ct39), sl39⟩)
    (c39 : PySem.W.codeIn K cd39 "_law_true" = true)
    (k39 : PySem.W.keepIn K (.ref f39) = true)
    (a40 : PySem.W.nsIn K mainGlobals "_law_moments" = some (some (.ref f40)))
    (l40 : K.lookup f40 = some ⟨oc40, od40, .func (PySem.W.fnOf "_law_moments" "_law_moments" (defArgs s__law_moments) (defBody s__law_moments) (defScope s__law_moments) .none kV40 dc40 pm40 an40 cd40 ct40), sl40⟩)
    (c40 : PySem.W.codeIn K cd40 "_law_moments" = true)
    (k40 : PySem.W.keepIn K (.ref f40) = true)
    (a41 : PySem.W.nsIn K mainGlobals "_law_lesser" = some (some (.ref f41)))
    (l41 : K.lookup f41 = some ⟨oc41, od41, .func (PySem.W.fnOf "_law_lesser" "_law_lesser" (defArgs s__law_lesser) (defBody s__law_lesser) (defScope s__law_lesser) .none kV41 dc41 pm41 an41 cd41 ct41), sl41⟩)
    (c41 : PySem.W.codeIn K cd41 "_law_lesser" = true)
    (k41 : PySem.W.keepIn K (.ref f41) = true)
    (a42 : PySem.W.nsIn K mainGlobals "_law_threshold" = some (some (.ref f42)))
    (l42 : K.lookup f42 = some ⟨oc42, od42, .func (PySem.W.fnOf "_law_threshold" "_law_threshold" (defArgs s__law_threshold) (defBody s__law_threshold) (defScope s__law_threshold) .none kV42 dc42 pm42 an42 (.ref tc42) ct42), sl42⟩)
    (c42 : PySem.W.codeIn K (.ref tc42) "_law_threshold" = true)
    (k42 : PySem.W.keepIn K (.ref f42) = true)
    (tl42 : K.lookup tc42 = some ⟨toc42, tod42, .fields tcv42.toArray, tsl42⟩)
    (tp42 : tcv42[11]? = some (.ref tP42))
    (th42 : PySem.W.codeHdIn K tc42 tP42 = true) (tn42 : K.lookup tP42 = none)
    (tm42 : tP42 ∈ ts)
    (a43 : PySem.W.nsIn K mainGlobals "_law_raised" = some (some (.ref f43)))
    (l43 : K.lookup f43 = some ⟨oc43, od43, .func (PySem.W.fnOf "_law_raised" "_law_raised" (defArgs s__law_raised) (defBody s__law_raised) (defScope s__law_raised) .none kV43 dc43 pm43 an43 cd43 ct43), sl43⟩)
    (c43 : PySem.W.codeIn K cd43 "_law_raised" = true)
    (k43 : PySem.W.keepIn K (.ref f43) = true)
    (a44 : PySem.W.nsIn K mainGlobals "_law_dropped" = some (some (.ref f44)))
    (l44 : K.lookup f44 = some ⟨oc44, od44, .func (PySem.W.fnOf "_law_dropped" "_law_dropped" (defArgs s__law_dropped) (defBody s__law_dropped) (defScope s__law_dropped) .none kV44 dc44 pm44 an44 cd44 ct44), sl44⟩)
    (c44 : PySem.W.codeIn K cd44 "_law_dropped" = true)
    (k44 : PySem.W.keepIn K (.ref f44) = true)
    (a45 : PySem.W.nsIn K mainGlobals "_law_chain" = some (some (.ref f45)))
    (l45 : K.lookup f45 = some ⟨oc45, od45, .func (PySem.W.fnOf "_law_chain" "_law_chain" (defArgs s__law_chain) (defBody s__law_chain) (defScope s__law_chain) .none kV45 dc45 pm45 an45 cd45 ct45), sl45⟩)
    (c45 : PySem.W.codeIn K cd45 "_law_chain" = true)
    (k45 : PySem.W.keepIn K (.ref f45) = true)
    (a46 : PySem.W.nsIn K mainGlobals "_law_single" = some (some (.ref f46)))
    (l46 : K.lookup f46 = some ⟨oc46, od46, .func (PySem.W.fnOf "_law_single" "_law_single" (defArgs s__law_single) (defBody s__law_single) (defScope s__law_single) .none kV46 dc46 pm46 an46 cd46 ct46), sl46⟩)
    (c46 : PySem.W.codeIn K cd46 "_law_single" = true)
    (k46 : PySem.W.keepIn K (.ref f46) = true)
    (a47 : PySem.W.nsIn K mainGlobals "law" = some (some (.ref f47)))
    (l47 : K.lookup f47 = some ⟨oc47, od47, .func (PySem.W.fnOf "law" "law" (defArgs s_law) (defBody s_law) (defScope s_law) .none kV47 dc47 pm47 an47 cd47 ct47), sl47⟩)
    (c47 : PySem.W.codeIn K cd47 "law" = true)
    (k47 : PySem.W.keepIn K (.ref f47) = true)
    (aCSamphireError : PySem.W.nsIn K mainGlobals "SamphireError" = some (some (.ref CSamphireError)))
    (aCZeroDenominator : PySem.W.nsIn K mainGlobals "ZeroDenominator" = some (some (.ref CZeroDenominator)))
    (iCZeroDenominator : PySem.W.findIn K (.ref CZeroDenominator) "__init__" = some (some (.ref fZeroDenominator)))
    (tIZeroDenominator : PySem.W.typeIn K (.ref fZeroDenominator) = some (.type "function"))
    (lkZeroDenominator : K.lookup fZeroDenominator = some ⟨ocZeroDenominator, odZeroDenominator, .func ((NF_ZeroDenominator ccZeroDenominator cZeroDenominator).fd docZeroDenominator pmZeroDenominator ctvZeroDenominator), oslZeroDenominator⟩)
    (hcZeroDenominator : PySem.W.codeIn K (.ref cZeroDenominator) "ZeroDenominator.__init__" = true)
    (xLZeroDenominator : K.lookup CZeroDenominator = some (excClassObj nmZeroDenominator qZeroDenominator CZeroDenominator NZeroDenominator bsZeroDenominator [.ref CSamphireError, .type "ValueError", .type "Exception", .type "BaseException", .type "object"] true snZeroDenominator subZeroDenominator abZeroDenominator colZeroDenominator ddZeroDenominator m0ZeroDenominator m1ZeroDenominator m2ZeroDenominator m3ZeroDenominator m5ZeroDenominator "ValueError.__new__"))
    (saZeroDenominator : PySem.W.findIn K (.ref CZeroDenominator) "__setattr__" = some (some (.builtin "object.__setattr__")))
    (sBZeroDenominator : PySem.W.subIn K (.ref CZeroDenominator) (.type "BaseException") = some true)
    (tCZeroDenominator : PySem.W.typeIn K (.ref CZeroDenominator) = some (.type "type"))
    (kCZeroDenominator : PySem.W.keepIn K (.ref CZeroDenominator) = true)
    (coZeroDenominator : K.lookup cZeroDenominator = some ⟨occZeroDenominator, cddZeroDenominator, .fields cvsZeroDenominator.toArray, cslZeroDenominator⟩)
    (flZeroDenominator : Sup.flIs cvsZeroDenominator l.prog.main.file = true)
    (ceZeroDenominator : K.lookup ccZeroDenominator = some ⟨cclZeroDenominator, ccdZeroDenominator, .cell (some (.ref CZeroDenominator)), ccsZeroDenominator⟩)
    (mrZeroDenominator : PySem.W.mroIn K CZeroDenominator (.ref CZeroDenominator) = some true)
    (sVZeroDenominator : PySem.W.subIn K (.ref CZeroDenominator) (.type "ValueError") = some true)
    (anZeroDenominator : PySem.W.nsIn K PySem.cStatics "thirdparty.any" = some none)
    (suZeroDenominator : PySem.W.ks_superIn K CZeroDenominator CZeroDenominator "__init__" = some (some (.builtin "ValueError.__init__")))
    (tpZeroDenominator : (l.prog.main.scope.names.lookup ("super" : Str)).isSome = false)
    (hgZeroDenominator : PySem.W.findIn K (.ref CZeroDenominator) "__getattribute__" = some (some (.builtin "BaseException.__getattribute__")))
    (hkZeroDenominator : PySem.W.findIn K (.ref CZeroDenominator) "__getattr__" = some none)
    (hdZeroDenominator : PySem.W.hasDictIn K CZeroDenominator = true)
    (haZeroDenominator : PySem.W.findIn K (.ref CZeroDenominator) "__class__" = some (some (.builtin "object.__class__")))
    (hnZeroDenominator : PySem.W.specialIn K (.builtin "object.__class__") "__get__" = some (some (.builtin "getset_descriptor.__get__")))
    (htZeroDenominator : PySem.W.takesIn K (.builtin "object.__class__") = some true)
    (hmZeroDenominator : PySem.W.mroIn K CZeroDenominator (.type "object") = some true)
    (icZeroDenominator : PySem.W.isClsIn K CZeroDenominator = true)
    (sCZeroDenominator : PySem.W.subIn K (.ref CZeroDenominator) (.ref CZeroDenominator) = some true)
    (kitUniformUniform : PySem.W.kitOne K (.ref CUniform) (.ref CUniform) = some true)
    (kitWeightedWeighted : PySem.W.kitOne K (.ref CWeighted) (.ref CWeighted) = some true)
    (aCOptimal : PySem.W.nsIn K mainGlobals "Optimal" = some (some (.ref COptimal)))
    (pgOptimal : PySem.W.plainGet K COptimal Str.empty = true) (hdOptimal : PySem.W.hasDictIn K COptimal = true) (poOptimal : PySem.W.plainOver K COptimal = true) (saOptimal : PySem.W.findIn K (.ref COptimal) "__setattr__" = some (some (.builtin "object.__setattr__"))) (mkOptimal : PySem.W.makesIn K COptimal = true) (kcOptimal : PySem.W.keepIn K (.ref COptimal) = true)
    (nOptimal_size : PySem.W.findIn K (.ref COptimal) "size" = some none)
    (nOptimal_parts : PySem.W.findIn K (.ref COptimal) "parts" = some none)
    (nOptimal_kept : PySem.W.findIn K (.ref COptimal) "kept" = some none)
    (aCUniform : PySem.W.nsIn K mainGlobals "Uniform" = some (some (.ref CUniform)))
    (pgUniform : PySem.W.plainGet K CUniform Str.empty = true) (hdUniform : PySem.W.hasDictIn K CUniform = true) (poUniform : PySem.W.plainOver K CUniform = true) (saUniform : PySem.W.findIn K (.ref CUniform) "__setattr__" = some (some (.builtin "object.__setattr__"))) (mkUniform : PySem.W.makesIn K CUniform = true) (kcUniform : PySem.W.keepIn K (.ref CUniform) = true)
    (nUniform_size : PySem.W.findIn K (.ref CUniform) "size" = some none)
    (nUniform_seen : PySem.W.findIn K (.ref CUniform) "seen" = some none)
    (nUniform_kept : PySem.W.findIn K (.ref CUniform) "kept" = some none)
    (aCWeighted : PySem.W.nsIn K mainGlobals "Weighted" = some (some (.ref CWeighted)))
    (pgWeighted : PySem.W.plainGet K CWeighted Str.empty = true) (hdWeighted : PySem.W.hasDictIn K CWeighted = true) (poWeighted : PySem.W.plainOver K CWeighted = true) (saWeighted : PySem.W.findIn K (.ref CWeighted) "__setattr__" = some (some (.builtin "object.__setattr__"))) (mkWeighted : PySem.W.makesIn K CWeighted = true) (kcWeighted : PySem.W.keepIn K (.ref CWeighted) = true)
    (nWeighted_size : PySem.W.findIn K (.ref CWeighted) "size" = some none)
    (nWeighted_total : PySem.W.findIn K (.ref CWeighted) "total" = some none)
    (nWeighted_kept : PySem.W.findIn K (.ref CWeighted) "kept" = some none)
    (isaUniform : PySem.W.findIn K (.ref CUniform) "__class__" = some (some (.builtin "object.__class__")))
    (isgUniform : PySem.W.specialIn K (.builtin "object.__class__") "__get__" = some (some (.builtin "getset_descriptor.__get__")))
    (istUniform : PySem.W.takesIn K (.builtin "object.__class__") = some true)
    (ismUniform : PySem.W.mroIn K CUniform (.type "object") = some true)
    (isaWeighted : PySem.W.findIn K (.ref CWeighted) "__class__" = some (some (.builtin "object.__class__")))
    (isgWeighted : PySem.W.specialIn K (.builtin "object.__class__") "__get__" = some (some (.builtin "getset_descriptor.__get__")))
    (istWeighted : PySem.W.takesIn K (.builtin "object.__class__") = some true)
    (ismWeighted : PySem.W.mroIn K CWeighted (.type "object") = some true)
    (isaOptimal : PySem.W.findIn K (.ref COptimal) "__class__" = some (some (.builtin "object.__class__")))
    (isgOptimal : PySem.W.specialIn K (.builtin "object.__class__") "__get__" = some (some (.builtin "getset_descriptor.__get__")))
    (istOptimal : PySem.W.takesIn K (.builtin "object.__class__") = some true)
    (ismOptimal : PySem.W.mroIn K COptimal (.type "object") = some true)
    (kitWeightedUniform : PySem.W.kitOne K (.ref CWeighted) (.ref CUniform) = some false)
    (kitOptimalUniform : PySem.W.kitOne K (.ref COptimal) (.ref CUniform) = some false)
    (kitOptimalWeighted : PySem.W.kitOne K (.ref COptimal) (.ref CWeighted) = some false)
    (z_abs : PySem.W.nsIn K mainGlobals "abs" = some none)
    (z_dict : PySem.W.nsIn K mainGlobals "dict" = some none)
    (z_int : PySem.W.nsIn K mainGlobals "int" = some none)
    (z_isinstance : PySem.W.nsIn K mainGlobals "isinstance" = some none)
    (z_len : PySem.W.nsIn K mainGlobals "len" = some none)
    (z_list : PySem.W.nsIn K mainGlobals "list" = some none)
    (z_max : PySem.W.nsIn K mainGlobals "max" = some none)
    (z_min : PySem.W.nsIn K mainGlobals "min" = some none)
    (z_range : PySem.W.nsIn K mainGlobals "range" = some none)
    (z_sorted : PySem.W.nsIn K mainGlobals "sorted" = some none)
    (z_sum : PySem.W.nsIn K mainGlobals "sum" = some none)
    (z_super : PySem.W.nsIn K mainGlobals "super" = some none)
    (z_tuple : PySem.W.nsIn K mainGlobals "tuple" = some none)
    (v_ZERO : PySem.W.nsIn K mainGlobals "ZERO" = some (some (.ref k_ZERO)))
    (l_ZERO : K.lookup k_ZERO = some ⟨.type "tuple", od_ZERO, .seq #[.int (0) t0_ZERO, .int (1) t1_ZERO] nn_ZERO, sl_ZERO⟩)
    (g_gcd : PySem.W.nsIn K mainGlobals "gcd" = some (some (.builtin "math.gcd")))
    (g_lcm : PySem.W.nsIn K mainGlobals "lcm" = some (some (.builtin "math.lcm"))) :
    LamX.LawAtS l w K (CX0) 10 63 "script" mg fa h := by
  have e : f47 = fa := by
    have e := hfa.symm.trans (PySem.W.mg_of X G a47)
    cases e
    rfl
  subst e
  have mk : ∀ base : Heap, (∀ p ∈ [(tc42, tP42)], LamX.TabB base mg p.1 p.2) → ∃ t : T l.prog K mg base, t.a_law = f47 ∧ t.fd_law = PySem.W.fnOf "law" "law" (defArgs s_law) (defBody s_law) (defScope s_law) .none kV47 dc47 pm47 an47 cd47 ct47 ∧ t.P__law_threshold = tP42 := fun base hTB => ⟨{
    a_lowest := f1, fd_lowest := _, F_lowest := fun_mk (st := s_lowest) l1 c1 k1, b_lowest := (fun_mk (st := s_lowest) l1 c1 k1).binds (ps := ["p", "q"]) (fun _ _ _ _ _ _ us hl => match us, hl with | [_, _], _ => rfl),
    g_lowest := PySem.W.mg_of X G a1,
    a_plus := f2, fd_plus := _, F_plus := fun_mk (st := s_plus) l2 c2 k2, b_plus := (fun_mk (st := s_plus) l2 c2 k2).binds (ps := ["a", "b"]) (fun _ _ _ _ _ _ us hl => match us, hl with | [_, _], _ => rfl),
    g_plus := PySem.W.mg_of X G a2,
    a_minus := f3, fd_minus := _, F_minus := fun_mk (st := s_minus) l3 c3 k3, b_minus := (fun_mk (st := s_minus) l3 c3 k3).binds (ps := ["a", "b"]) (fun _ _ _ _ _ _ us hl => match us, hl with | [_, _], _ => rfl),
    g_minus := PySem.W.mg_of X G a3,
    a_times := f4, fd_times := _, F_times := fun_mk (st := s_times) l4 c4 k4, b_times := (fun_mk (st := s_times) l4 c4 k4).binds (ps := ["a", "b"]) (fun _ _ _ _ _ _ us hl => match us, hl with | [_, _], _ => rfl),
    g_times := PySem.W.mg_of X G a4,
    a_over := f5, fd_over := _, F_over := fun_mk (st := s_over) l5 c5 k5, b_over := (fun_mk (st := s_over) l5 c5 k5).binds (ps := ["a", "b"]) (fun _ _ _ _ _ _ us hl => match us, hl with | [_, _], _ => rfl),
    g_over := PySem.W.mg_of X G a5,
    a_less := f6, fd_less := _, F_less := fun_mk (st := s_less) l6 c6 k6, b_less := (fun_mk (st := s_less) l6 c6 k6).binds (ps := ["a", "b"]) (fun _ _ _ _ _ _ us hl => match us, hl with | [_, _], _ => rfl),
    g_less := PySem.W.mg_of X G a6,
    a_sum_of := f7, fd_sum_of := _, F_sum_of := fun_mk (st := s_sum_of) l7 c7 k7, b_sum_of := (fun_mk (st := s_sum_of) l7 c7 k7).binds (ps := ["fractions"]) (fun _ _ _ _ _ _ us hl => match us, hl with | [_], _ => rfl),
    g_sum_of := PySem.W.mg_of X G a7,
    a_common_denominator := f8, fd_common_denominator := _, F_common_denominator := fun_mk (st := s_common_denominator) l8 c8 k8, b_common_denominator := (fun_mk (st := s_common_denominator) l8 c8 k8).binds (ps := ["fractions"]) (fun _ _ _ _ _ _ us hl => match us, hl with | [_], _ => rfl),
    g_common_denominator := PySem.W.mg_of X G a8,
    a_scaled := f9, fd_scaled := _, F_scaled := fun_mk (st := s_scaled) l9 c9 k9, b_scaled := (fun_mk (st := s_scaled) l9 c9 k9).binds (ps := ["fractions", "factor"]) (fun _ _ _ _ _ _ us hl => match us, hl with | [_, _], _ => rfl),
    g_scaled := PySem.W.mg_of X G a9,
    a_weight_of := f10, fd_weight_of := _, F_weight_of := fun_mk (st := s_weight_of) l10 c10 k10, b_weight_of := (fun_mk (st := s_weight_of) l10 c10 k10).binds (ps := ["things"]) (fun _ _ _ _ _ _ us hl => match us, hl with | [_], _ => rfl),
    g_weight_of := PySem.W.mg_of X G a10,
    a_threshold := f11, fd_threshold := _, F_threshold := fun_mk (st := s_threshold) l11 c11 k11, b_threshold := (fun_mk (st := s_threshold) l11 c11 k11).binds (ps := ["weights", "size"]) (fun _ _ _ _ _ _ us hl => match us, hl with | [_, _], _ => rfl),
    g_threshold := PySem.W.mg_of X G a11,
    a_weights_of := f12, fd_weights_of := _, F_weights_of := fun_mk (st := s_weights_of) l12 c12 k12, b_weights_of := (fun_mk (st := s_weights_of) l12 c12 k12).binds (ps := ["things"]) (fun _ _ _ _ _ _ us hl => match us, hl with | [_], _ => rfl),
    g_weights_of := PySem.W.mg_of X G a12,
    a_Optimal_init := f13, fd_Optimal_init := _, F_Optimal_init := fun_mk (st := s_Optimal_init) l13 c13 k13, b_Optimal_init := (fun_mk (st := s_Optimal_init) l13 c13 k13).binds (ps := ["self", "size", "parts"]) (fun _ _ _ _ _ _ us hl => match us, hl with | [_, _, _], _ => rfl),
    a_Uniform_init := f14, fd_Uniform_init := _, F_Uniform_init := fun_mk (st := s_Uniform_init) l14 c14 k14, b_Uniform_init := (fun_mk (st := s_Uniform_init) l14 c14 k14).binds (ps := ["self", "size", "seen", "kept"]) (fun _ _ _ _ _ _ us hl => match us, hl with | [_, _, _, _], _ => rfl),
    a_Weighted_init := f15, fd_Weighted_init := _, F_Weighted_init := fun_mk (st := s_Weighted_init) l15 c15 k15, b_Weighted_init := (fun_mk (st := s_Weighted_init) l15 c15 k15).binds (ps := ["self", "size", "total", "kept"]) (fun _ _ _ _ _ _ us hl => match us, hl with | [_, _, _, _], _ => rfl),
    a_is_whole := f16, fd_is_whole := _, F_is_whole := fun_mk (st := s_is_whole) l16 c16 k16, b_is_whole := (fun_mk (st := s_is_whole) l16 c16 k16).binds (ps := ["sample"]) (fun _ _ _ _ _ _ us hl => match us, hl with | [_], _ => rfl),
    g_is_whole := PySem.W.mg_of X G a16,
    a_amount_of := f17, fd_amount_of := _, F_amount_of := fun_mk (st := s_amount_of) l17 c17 k17, b_amount_of := (fun_mk (st := s_amount_of) l17 c17 k17).binds (ps := ["amounts", "item"]) (fun _ _ _ _ _ _ us hl => match us, hl with | [_, _], _ => rfl),
    g_amount_of := PySem.W.mg_of X G a17,
    a_true_sum := f18, fd_true_sum := _, F_true_sum := fun_mk (st := s_true_sum) l18 c18 k18, b_true_sum := (fun_mk (st := s_true_sum) l18 c18 k18).binds (ps := ["things", "amounts"]) (fun _ _ _ _ _ _ us hl => match us, hl with | [_, _], _ => rfl),
    g_true_sum := PySem.W.mg_of X G a18,
    a_mean_of := f19, fd_mean_of := _, F_mean_of := fun_mk (st := s_mean_of) l19 c19 k19, b_mean_of := (fun_mk (st := s_mean_of) l19 c19 k19).binds (ps := ["numbers"]) (fun _ _ _ _ _ _ us hl => match us, hl with | [_], _ => rfl),
    g_mean_of := PySem.W.mg_of X G a19,
    a_squares_around := f20, fd_squares_around := _, F_squares_around := fun_mk (st := s_squares_around) l20 c20 k20, b_squares_around := (fun_mk (st := s_squares_around) l20 c20 k20).binds (ps := ["numbers"]) (fun _ _ _ _ _ _ us hl => match us, hl with | [_], _ => rfl),
    g_squares_around := PySem.W.mg_of X G a20,
    a_amounts_of := f21, fd_amounts_of := _, F_amounts_of := fun_mk (st := s_amounts_of) l21 c21 k21, b_amounts_of := (fun_mk (st := s_amounts_of) l21 c21 k21).binds (ps := ["things", "amounts"]) (fun _ _ _ _ _ _ us hl => match us, hl with | [_, _], _ => rfl),
    g_amounts_of := PySem.W.mg_of X G a21,
    a_uniform_estimate := f22, fd_uniform_estimate := _, F_uniform_estimate := fun_mk (st := s_uniform_estimate) l22 c22 k22, b_uniform_estimate := (fun_mk (st := s_uniform_estimate) l22 c22 k22).binds (ps := ["sample", "amounts"]) (fun _ _ _ _ _ _ us hl => match us, hl with | [_, _], _ => rfl),
    g_uniform_estimate := PySem.W.mg_of X G a22,
    a_ordered_estimates := f23, fd_ordered_estimates := _, F_ordered_estimates := fun_mk (st := s_ordered_estimates) l23 c23 k23, b_ordered_estimates := (fun_mk (st := s_ordered_estimates) l23 c23 k23).binds (ps := ["total", "kept", "amounts"]) (fun _ _ _ _ _ _ us hl => match us, hl with | [_, _, _], _ => rfl),
    g_ordered_estimates := PySem.W.mg_of X G a23,
    a_weighted_estimate := f24, fd_weighted_estimate := _, F_weighted_estimate := fun_mk (st := s_weighted_estimate) l24 c24 k24, b_weighted_estimate := (fun_mk (st := s_weighted_estimate) l24 c24 k24).binds (ps := ["sample", "amounts"]) (fun _ _ _ _ _ _ us hl => match us, hl with | [_, _], _ => rfl),
    g_weighted_estimate := PySem.W.mg_of X G a24,
    a_optimal_estimate := f25, fd_optimal_estimate := _, F_optimal_estimate := fun_mk (st := s_optimal_estimate) l25 c25 k25, b_optimal_estimate := (fun_mk (st := s_optimal_estimate) l25 c25 k25).binds (ps := ["sample", "amounts"]) (fun _ _ _ _ _ _ us hl => match us, hl with | [_, _], _ => rfl),
    g_optimal_estimate := PySem.W.mg_of X G a25,
    a_estimate := f26, fd_estimate := _, F_estimate := fun_mk (st := s_estimate) l26 c26 k26, b_estimate := (fun_mk (st := s_estimate) l26 c26 k26).binds (ps := ["sample", "amounts"]) (fun _ _ _ _ _ _ us hl => match us, hl with | [_, _], _ => rfl),
    g_estimate := PySem.W.mg_of X G a26,
    a_known_optimal := f27, fd_known_optimal := _, F_known_optimal := fun_mk (st := s_known_optimal) l27 c27 k27, b_known_optimal := (fun_mk (st := s_known_optimal) l27 c27 k27).binds (ps := ["things", "size", "amounts"]) (fun _ _ _ _ _ _ us hl => match us, hl with | [_, _, _], _ => rfl),
    g_known_optimal := PySem.W.mg_of X G a27,
    a__law_mix := f28, fd__law_mix := _, F__law_mix := fun_mk (st := s__law_mix) l28 c28 k28, b__law_mix := (fun_mk (st := s__law_mix) l28 c28 k28).binds (ps := ["number", "k"]) (fun _ _ _ _ _ _ us hl => match us, hl with | [_, _], _ => rfl),
    g__law_mix := PySem.W.mg_of X G a28,
    a__law_numbers := f29, fd__law_numbers := _, F__law_numbers := fun_mk (st := s__law_numbers) l29 c29 k29, b__law_numbers := (fun_mk (st := s__law_numbers) l29 c29 k29).binds (ps := ["script", "count"]) (fun _ _ _ _ _ _ us hl => match us, hl with | [_, _], _ => rfl),
    g__law_numbers := PySem.W.mg_of X G a29,
    a__law_take := f30, fd__law_take := _, F__law_take := fun_mk (st := s__law_take) l30 c30 k30, b__law_take := (fun_mk (st := s__law_take) l30 c30 k30).binds (ps := ["row", "bound"]) (fun _ _ _ _ _ _ us hl => match us, hl with | [_, _], _ => rfl),
    g__law_take := PySem.W.mg_of X G a30,
    a__law_low := f31, fd__law_low := _, F__law_low := fun_mk (st := s__law_low) l31 c31 k31, b__law_low := (fun_mk (st := s__law_low) l31 c31 k31).binds (ps := ["p", "q"]) (fun _ _ _ _ _ _ us hl => match us, hl with | [_, _], _ => rfl),
    g__law_low := PySem.W.mg_of X G a31,
    a__law_plus := f32, fd__law_plus := _, F__law_plus := fun_mk (st := s__law_plus) l32 c32 k32, b__law_plus := (fun_mk (st := s__law_plus) l32 c32 k32).binds (ps := ["one", "other"]) (fun _ _ _ _ _ _ us hl => match us, hl with | [_, _], _ => rfl),
    g__law_plus := PySem.W.mg_of X G a32,
    a__law_minus := f33, fd__law_minus := _, F__law_minus := fun_mk (st := s__law_minus) l33 c33 k33, b__law_minus := (fun_mk (st := s__law_minus) l33 c33 k33).binds (ps := ["one", "other"]) (fun _ _ _ _ _ _ us hl => match us, hl with | [_, _], _ => rfl),
    g__law_minus := PySem.W.mg_of X G a33,
    a__law_times := f34, fd__law_times := _, F__law_times := fun_mk (st := s__law_times) l34 c34 k34, b__law_times := (fun_mk (st := s__law_times) l34 c34 k34).binds (ps := ["one", "other"]) (fun _ _ _ _ _ _ us hl => match us, hl with | [_, _], _ => rfl),
    g__law_times := PySem.W.mg_of X G a34,
    a__law_less := f35, fd__law_less := _, F__law_less := fun_mk (st := s__law_less) l35 c35 k35, b__law_less := (fun_mk (st := s__law_less) l35 c35 k35).binds (ps := ["one", "other"]) (fun _ _ _ _ _ _ us hl => match us, hl with | [_, _], _ => rfl),
    g__law_less := PySem.W.mg_of X G a35,
    a__law_sum := f36, fd__law_sum := _, F__law_sum := fun_mk (st := s__law_sum) l36 c36 k36, b__law_sum := (fun_mk (st := s__law_sum) l36 c36 k36).binds (ps := ["rows"]) (fun _ _ _ _ _ _ us hl => match us, hl with | [_], _ => rfl),
    g__law_sum := PySem.W.mg_of X G a36,
    a__law_items := f37, fd__law_items := _, F__law_items := fun_mk (st := s__law_items) l37 c37 k37, b__law_items := (fun_mk (st := s__law_items) l37 c37 k37).binds (ps := ["row", "many"]) (fun _ _ _ _ _ _ us hl => match us, hl with | [_, _], _ => rfl),
    g__law_items := PySem.W.mg_of X G a37,
    a__law_amounts := f38, fd__law_amounts := _, F__law_amounts := fun_mk (st := s__law_amounts) l38 c38 k38, b__law_amounts := (fun_mk (st := s__law_amounts) l38 c38 k38).binds (ps := ["row", "things"]) (fun _ _ _ _ _ _ us hl => match us, hl with | [_, _], _ => rfl),
    g__law_amounts := PySem.W.mg_of X G a38,
    a__law_true := f39, fd__law_true := _, F__law_true := fun_mk (st := s__law_true) l39 c39 k39, b__law_true := (fun_mk (st := s__law_true) l39 c39 k39).binds (ps := ["things", "amounts"]) (fun _ _ _ _ _ _ us hl => match us, hl with | [_, _], _ => rfl),
    g__law_true := PySem.W.mg_of X G a39,
    a__law_moments := f40, fd__law_moments := _, F__law_moments := fun_mk (st := s__law_moments) l40 c40 k40, b__law_moments := (fun_mk (st := s__law_moments) l40 c40 k40).binds (ps := ["rows"]) (fun _ _ _ _ _ _ us hl => match us, hl with | [_], _ => rfl),
    g__law_moments := PySem.W.mg_of X G a40,
    a__law_lesser := f41, fd__law_lesser := _, F__law_lesser := fun_mk (st := s__law_lesser) l41 c41 k41, b__law_lesser := (fun_mk (st := s__law_lesser) l41 c41 k41).binds (ps := ["weight", "limit"]) (fun _ _ _ _ _ _ us hl => match us, hl with | [_, _], _ => rfl),
    g__law_lesser := PySem.W.mg_of X G a41,
    c__law_threshold := tc42, P__law_threshold := tP42, TB__law_threshold := hTB (tc42, tP42) (by simp), L__law_threshold := ⟨_, _, _, _, _, _, _, _, rfl, l42, c42⟩,
    a__law_threshold := f42, fd__law_threshold := _, F__law_threshold := fun_mk (st := s__law_threshold) l42 c42 k42, b__law_threshold := (fun_mk (st := s__law_threshold) l42 c42 k42).binds (ps := ["weights", "size"]) (fun _ _ _ _ _ _ us hl => match us, hl with | [_, _], _ => rfl),
    g__law_threshold := PySem.W.mg_of X G a42,
    a__law_raised := f43, fd__law_raised := _, F__law_raised := fun_mk (st := s__law_raised) l43 c43 k43, b__law_raised := (fun_mk (st := s__law_raised) l43 c43 k43).binds (ps := ["parts", "limit"]) (fun _ _ _ _ _ _ us hl => match us, hl with | [_, _], _ => rfl),
    g__law_raised := PySem.W.mg_of X G a43,
    a__law_dropped := f44, fd__law_dropped := _, F__law_dropped := fun_mk (st := s__law_dropped) l44 c44 k44, b__law_dropped := (fun_mk (st := s__law_dropped) l44 c44 k44).binds (ps := ["chance", "parts", "size"]) (fun _ _ _ _ _ _ us hl => match us, hl with | [_, _, _], _ => rfl),
    g__law_dropped := PySem.W.mg_of X G a44,
    a__law_chain := f45, fd__law_chain := _, F__law_chain := fun_mk (st := s__law_chain) l45 c45 k45, b__law_chain := (fun_mk (st := s__law_chain) l45 c45 k45).binds (ps := ["size", "things"]) (fun _ _ _ _ _ _ us hl => match us, hl with | [_, _], _ => rfl),
    g__law_chain := PySem.W.mg_of X G a45,
    a__law_single := f46, fd__law_single := _, F__law_single := fun_mk (st := s__law_single) l46 c46 k46, b__law_single := (fun_mk (st := s__law_single) l46 c46 k46).binds (ps := ["found", "item", "amount"]) (fun _ _ _ _ _ _ us hl => match us, hl with | [_, _, _], _ => rfl),
    g__law_single := PySem.W.mg_of X G a46,
    a_law := f47, fd_law := _, F_law := fun_mk (st := s_law) l47 c47 k47, b_law := (fun_mk (st := s_law) l47 c47 k47).binds (ps := ["script"]) (fun _ _ _ _ _ _ us hl => match us, hl with | [_], _ => rfl),
    g_law := PySem.W.mg_of X G a47,
    C_SamphireError := CSamphireError, mg_SamphireError := PySem.W.mg_of X G aCSamphireError,
    C_ZeroDenominator := CZeroDenominator, a_ZeroDenominator_init := fZeroDenominator, c_ZeroDenominator := cZeroDenominator, cc_ZeroDenominator := ccZeroDenominator, doc_ZeroDenominator := docZeroDenominator, pm_ZeroDenominator := pmZeroDenominator, ctv_ZeroDenominator := ctvZeroDenominator, oc_ZeroDenominator := ocZeroDenominator, od_ZeroDenominator := odZeroDenominator, osl_ZeroDenominator := oslZeroDenominator, lk_ZeroDenominator := lkZeroDenominator, hc_ZeroDenominator := hcZeroDenominator,
    x_ZeroDenominator := Sup.excT_mk xLZeroDenominator rfl saZeroDenominator sBZeroDenominator tCZeroDenominator kCZeroDenominator coZeroDenominator flZeroDenominator ceZeroDenominator mrZeroDenominator sVZeroDenominator (PySem.W.mg_none_of X G z_super) anZeroDenominator suZeroDenominator tpZeroDenominator (PySem.W.mg_of X G aCZeroDenominator) iCZeroDenominator tIZeroDenominator ⟨hgZeroDenominator, hkZeroDenominator, sBZeroDenominator, hdZeroDenominator, haZeroDenominator, hnZeroDenominator, htZeroDenominator, hmZeroDenominator⟩ icZeroDenominator sCZeroDenominator,
    bx_ZeroDenominator := .all (fun us hl => match us, hl with | [_], _ => rfl),
    kit_Uniform_Uniform := kitUniformUniform,
    kit_Weighted_Weighted := kitWeightedWeighted,
    C_Optimal := COptimal, cl_Optimal := ⟨pgOptimal, hdOptimal, poOptimal, saOptimal⟩, mg_Optimal := PySem.W.mg_of X G aCOptimal,
    mk_Optimal := ⟨mkOptimal, a13, i13, kcOptimal⟩,
    na_Optimal_size := nOptimal_size,
    na_Optimal_parts := nOptimal_parts,
    na_Optimal_kept := nOptimal_kept,
    C_Uniform := CUniform, cl_Uniform := ⟨pgUniform, hdUniform, poUniform, saUniform⟩, mg_Uniform := PySem.W.mg_of X G aCUniform,
    mk_Uniform := ⟨mkUniform, a14, i14, kcUniform⟩,
    na_Uniform_size := nUniform_size,
    na_Uniform_seen := nUniform_seen,
    na_Uniform_kept := nUniform_kept,
    C_Weighted := CWeighted, cl_Weighted := ⟨pgWeighted, hdWeighted, poWeighted, saWeighted⟩, mg_Weighted := PySem.W.mg_of X G aCWeighted,
    mk_Weighted := ⟨mkWeighted, a15, i15, kcWeighted⟩,
    na_Weighted_size := nWeighted_size,
    na_Weighted_total := nWeighted_total,
    na_Weighted_kept := nWeighted_kept,
    isa_Uniform := isaUniform,
    isg_Uniform := isgUniform,
    ist_Uniform := istUniform,
    ism_Uniform := ismUniform,
    isa_Weighted := isaWeighted,
    isg_Weighted := isgWeighted,
    ist_Weighted := istWeighted,
    ism_Weighted := ismWeighted,
    isa_Optimal := isaOptimal,
    isg_Optimal := isgOptimal,
    ist_Optimal := istOptimal,
    ism_Optimal := ismOptimal,
    kit_Weighted_Uniform := kitWeightedUniform,
    kit_Optimal_Uniform := kitOptimalUniform,
    kit_Optimal_Weighted := kitOptimalWeighted,
    z_abs := PySem.W.mg_none_of X G z_abs,
    z_dict := PySem.W.mg_none_of X G z_dict,
    z_int := PySem.W.mg_none_of X G z_int,
    z_isinstance := PySem.W.mg_none_of X G z_isinstance,
    z_len := PySem.W.mg_none_of X G z_len,
    z_list := PySem.W.mg_none_of X G z_list,
    z_max := PySem.W.mg_none_of X G z_max,
    z_min := PySem.W.mg_none_of X G z_min,
    z_range := PySem.W.mg_none_of X G z_range,
    z_sorted := PySem.W.mg_none_of X G z_sorted,
    z_sum := PySem.W.mg_none_of X G z_sum,
    z_super := PySem.W.mg_none_of X G z_super,
    z_tuple := PySem.W.mg_none_of X G z_tuple,
    k_ZERO := k_ZERO, g_ZERO := PySem.W.mg_of X G v_ZERO, q_ZERO := fun H => .inr ⟨_, _, _, l_ZERO, rfl, rfl, (show 2 ≤ sizeLine by decide), (.cons ⟨_, rfl⟩ (.cons ⟨_, rfl⟩ .nil))⟩,
    g_gcd := PySem.W.mg_of X G g_gcd,
    g_lcm := PySem.W.mg_of X G g_lcm }, rfl, rfl, rfl⟩
  refine ⟨PySem.W.fnOf "law" "law" (defArgs s_law) (defBody s_law) (defScope s_law) .none kV47 dc47 pm47 an47 cd47 ct47, [(tc42, tP42)], spLaw K tP42, List.forall_mem_cons.mpr ⟨hts _ tm42, fun _ h => nomatch h⟩, List.forall_mem_cons.mpr ⟨tn42, fun _ h => nomatch h⟩, List.forall_mem_cons.mpr ⟨PySem.W.codeHd_of_K X th42, fun _ h => nomatch h⟩, fun s v => .of_eq rfl, fun H a ns h1 h2 hT hS => spLaw_in H a ns h1 h2 (hT (tc42, tP42) (by simp)) hS, fun base KX G' hTB => ?_⟩
  obtain ⟨t, e1, e2, e3⟩ := mk base hTB
  have z := ok_law (w := w) t
  rw [e1, e2, e3] at z
  exact z

end K37
open PySem PySem.W PyProof.Rows in
set_option maxRecDepth 100000 in
set_option maxHeartbeats 0 in
theorem PySem.Challenge.cw_samphire_k36_whole_optimal_estimates_holds : PySem.Challenge.rw_samphire_k36_whole_optimal_estimates.Holds := by
  w_on; o_law; k_head; (case hw => w_witness2)
  k_fill
  refine LamX.walk_ofTs (l := PySem.Challenge.rw_samphire_k36_whole_optimal_estimates) (n := 63) (k := 10) (x := "script") (CX := fun w => L2.CX0) rfl (by decide) rfl ⟨rfl, by decide, by decide⟩ (fun w h Y => PySem.W.km_in_of Y) ?F (fun _ _ _ _ _ h => h)
  case F =>
    intro w mg fa h Y KX G hmg
    have hts := PySem.W.km_tabs_of Y
    refine' K37.all_mk KX G hts hmg ?a1 ?l1 ?c1 ?k1 ?a2 ?l2 ?c2 ?k2 ?a3 ?l3 ?c3 ?k3 ?a4 ?l4 ?c4 ?k4 ?a5 ?l5 ?c5 ?k5 ?a6 ?l6 ?c6 ?k6 ?a7 ?l7 ?c7 ?k7 ?a8 ?l8 ?c8 ?k8 ?a9 ?l9 ?c9 ?k9 ?a10 ?l10 ?c10 ?k10 ?a11 ?l11 ?c11 ?k11 ?a12 ?l12 ?c12 ?k12 ?a13 ?i13 ?l13 ?c13 ?k13 ?a14 ?i14 ?l14 ?c14 ?k14 ?a15 ?i15 ?l15 ?c15 ?k15 ?a16 ?l16 ?c16 ?k16 ?a17 ?l17 ?c17 ?k17 ?a18 ?l18 ?c18 ?k18 ?a19 ?l19 ?c19 ?k19 ?a20 ?l20 ?c20 ?k20 ?a21 ?l21 ?c21 ?k21 ?a22 ?l22 ?c22 ?k22 ?a23 ?l23 ?c23 ?k23 ?a24 ?l24 ?c24 ?k24 ?a25 ?l25 ?c25 ?k25 ?a26 ?l26 ?c26 ?k26 ?a27 ?l27 ?c27 ?k27 ?a28 ?l28 ?c28 ?k28 ?a29 ?l29 ?c29 ?k29 ?a30 ?l30 ?c30 ?k30 ?a31 ?l31 ?c31 ?k31 ?a32 ?l32 ?c32 ?k32 ?a33 ?l33 ?c33 ?k33 ?a34 ?l34 ?c34 ?k34 ?a35 ?l35 ?c35 ?k35 ?a36 ?l36 ?c36 ?k36 ?a37 ?l37 ?c37 ?k37 ?a38 ?l38 ?c38 ?k38 ?a39 ?l39 ?c39 ?k39 ?a40 ?l40 ?c40 ?k40 ?a41 ?l41 ?c41 ?k41 ?a42 ?l42 ?c42 ?k42 ?tl42 ?tp42 ?th42 ?tn42 ?tm42 ?a43 ?l43 ?c43 ?k43 ?a44 ?l44 ?c44 ?k44 ?a45 ?l45 ?c45 ?k45 ?a46 ?l46 ?c46 ?k46 ?a47 ?l47 ?c47 ?k47 ?aCSamphireError ?aCZeroDenominator ?iCZeroDenominator ?tIZeroDenominator ?lkZeroDenominator ?hcZeroDenominator ?xLZeroDenominator ?saZeroDenominator ?sBZeroDenominator ?tCZeroDenominator ?kCZeroDenominator ?coZeroDenominator ?flZeroDenominator ?ceZeroDenominator ?mrZeroDenominator ?sVZeroDenominator ?anZeroDenominator ?suZeroDenominator ?tpZeroDenominator ?hgZeroDenominator ?hkZeroDenominator ?hdZeroDenominator ?haZeroDenominator ?hnZeroDenominator ?htZeroDenominator ?hmZeroDenominator ?icZeroDenominator ?sCZeroDenominator ?kitUniformUniform ?kitWeightedWeighted ?aCOptimal ?pgOptimal ?hdOptimal ?poOptimal ?saOptimal ?mkOptimal ?kcOptimal ?nOptimal_size ?nOptimal_parts ?nOptimal_kept ?aCUniform ?pgUniform ?hdUniform ?poUniform ?saUniform ?mkUniform ?kcUniform ?nUniform_size ?nUniform_seen ?nUniform_kept ?aCWeighted ?pgWeighted ?hdWeighted ?poWeighted ?saWeighted ?mkWeighted ?kcWeighted ?nWeighted_size ?nWeighted_total ?nWeighted_kept ?isaUniform ?isgUniform ?istUniform ?ismUniform ?isaWeighted ?isgWeighted ?istWeighted ?ismWeighted ?isaOptimal ?isgOptimal ?istOptimal ?ismOptimal ?kitWeightedUniform ?kitOptimalUniform ?kitOptimalWeighted ?z_abs ?z_dict ?z_int ?z_isinstance ?z_len ?z_list ?z_max ?z_min ?z_range ?z_sorted ?z_sum ?z_super ?z_tuple ?v_ZERO ?l_ZERO ?g_gcd ?g_lcm
    (case aCSamphireError => k_is)
    (case aCZeroDenominator => k_is)
    (case aCOptimal => k_is)
    (case aCUniform => k_is)
    (case aCWeighted => k_is)
    (case a1 => k_is)
    (case l1 => k_is)
    (case c1 => k_is)
    (case k1 => k_is)
    (case a2 => k_is)
    (case l2 => k_is)
    (case c2 => k_is)
    (case k2 => k_is)
    (case a3 => k_is)
    (case l3 => k_is)
    (case c3 => k_is)
    (case k3 => k_is)
    (case a4 => k_is)
    (case l4 => k_is)
    (case c4 => k_is)
    (case k4 => k_is)
    (case a5 => k_is)
    (case l5 => k_is)
    (case c5 => k_is)
    (case k5 => k_is)
    (case a6 => k_is)
    (case l6 => k_is)
    (case c6 => k_is)
    (case k6 => k_is)
    (case a7 => k_is)
    (case l7 => k_is)
    (case c7 => k_is)
    (case k7 => k_is)
    (case a8 => k_is)
    (case l8 => k_is)
    (case c8 => k_is)
    (case k8 => k_is)
    (case a9 => k_is)
    (case l9 => k_is)
    (case c9 => k_is)
    (case k9 => k_is)
    (case a10 => k_is)
    (case l10 => k_is)
    (case c10 => k_is)
    (case k10 => k_is)
    (case a11 => k_is)
    (case l11 => k_is)
    (case c11 => k_is)
    (case k11 => k_is)
    (case a12 => k_is)
    (case l12 => k_is)
    (case c12 => k_is)
    (case k12 => k_is)
    (case a13 => k_is)
    (case i13 => k_is)
    (case l13 => k_is)
    (case c13 => k_is)
    (case k13 => k_is)
    (case a14 => k_is)
    (case i14 => k_is)
    (case l14 => k_is)
    (case c14 => k_is)
    (case k14 => k_is)
    (case a15 => k_is)
    (case i15 => k_is)
    (case l15 => k_is)
    (case c15 => k_is)
    (case k15 => k_is)
    (case a16 => k_is)
    (case l16 => k_is)
    (case c16 => k_is)
    (case k16 => k_is)
    (case a17 => k_is)
    (case l17 => k_is)
    (case c17 => k_is)
    (case k17 => k_is)
    (case a18 => k_is)
    (case l18 => k_is)
    (case c18 => k_is)
    (case k18 => k_is)
    (case a19 => k_is)
    (case l19 => k_is)
    (case c19 => k_is)
    (case k19 => k_is)
    (case a20 => k_is)
    (case l20 => k_is)
    (case c20 => k_is)
    (case k20 => k_is)
    (case a21 => k_is)
    (case l21 => k_is)
    (case c21 => k_is)
    (case k21 => k_is)
    (case a22 => k_is)
    (case l22 => k_is)
    (case c22 => k_is)
    (case k22 => k_is)
    (case a23 => k_is)
    (case l23 => k_is)
    (case c23 => k_is)
    (case k23 => k_is)
    (case a24 => k_is)
    (case l24 => k_is)
    (case c24 => k_is)
    (case k24 => k_is)
    (case a25 => k_is)
    (case l25 => k_is)
    (case c25 => k_is)
    (case k25 => k_is)
    (case a26 => k_is)
    (case l26 => k_is)
    (case c26 => k_is)
    (case k26 => k_is)
    (case a27 => k_is)
    (case l27 => k_is)
    (case c27 => k_is)
    (case k27 => k_is)
    (case a28 => k_is)
    (case l28 => k_is)
    (case c28 => k_is)
    (case k28 => k_is)
    (case a29 => k_is)
    (case l29 => k_is)
    (case c29 => k_is)
    (case k29 => k_is)
    (case a30 => k_is)
    (case l30 => k_is)
    (case c30 => k_is)
    (case k30 => k_is)
    (case a31 => k_is)
    (case l31 => k_is)
    (case c31 => k_is)
    (case k31 => k_is)
    (case a32 => k_is)
    (case l32 => k_is)
    (case c32 => k_is)
    (case k32 => k_is)
    (case a33 => k_is)
    (case l33 => k_is)
    (case c33 => k_is)
    (case k33 => k_is)
    (case a34 => k_is)
    (case l34 => k_is)
    (case c34 => k_is)
    (case k34 => k_is)
    (case a35 => k_is)
    (case l35 => k_is)
    (case c35 => k_is)
    (case k35 => k_is)
    (case a36 => k_is)
    (case l36 => k_is)
    (case c36 => k_is)
    (case k36 => k_is)
    (case a37 => k_is)
    (case l37 => k_is)
    (case c37 => k_is)
    (case k37 => k_is)
    (case a38 => k_is)
    (case l38 => k_is)
    (case c38 => k_is)
    (case k38 => k_is)
    (case a39 => k_is)
    (case l39 => k_is)
    (case c39 => k_is)
    (case k39 => k_is)
    (case a40 => k_is)
    (case l40 => k_is)
    (case c40 => k_is)
    (case k40 => k_is)
    (case a41 => k_is)
    (case l41 => k_is)
    (case c41 => k_is)
    (case k41 => k_is)
    (case a42 => k_is)
    (case l42 => k_is)
    (case c42 => k_is)
    (case k42 => k_is)
    (case tl42 => k_is)
    (case tp42 => first | rfl | kernel_rfl)
    (case th42 => first | kernel_rfl | decide +kernel)
    (case tn42 => first | rfl | kernel_rfl)
    (case tm42 => simp)
    (case a43 => k_is)
    (case l43 => k_is)
    (case c43 => k_is)
    (case k43 => k_is)
    (case a44 => k_is)
    (case l44 => k_is)
    (case c44 => k_is)
    (case k44 => k_is)
    (case a45 => k_is)
    (case l45 => k_is)
    (case c45 => k_is)
    (case k45 => k_is)
    (case a46 => k_is)
    (case l46 => k_is)
    (case c46 => k_is)
    (case k46 => k_is)
    (case a47 => k_is)
    (case l47 => k_is)
    (case c47 => k_is)
    (case k47 => k_is)
    (case iCZeroDenominator => k_is)
    (case tIZeroDenominator => k_is)
    (case lkZeroDenominator => k_is)
    (case hcZeroDenominator => k_is)
    (case xLZeroDenominator => k_is)
    (case saZeroDenominator => k_is)
    (case sBZeroDenominator => k_is)
    (case tCZeroDenominator => k_is)
    (case kCZeroDenominator => k_is)
    (case coZeroDenominator => k_is)
    (case flZeroDenominator => first | rfl | decide +kernel)
    (case ceZeroDenominator => k_is)
    (case mrZeroDenominator => first | rfl | k_is)
    (case sVZeroDenominator => k_is)
    (case anZeroDenominator => k_is)
    (case suZeroDenominator => ks_is)
    (case tpZeroDenominator => first | rfl | decide +kernel)
    (case hgZeroDenominator => k_is)
    (case hkZeroDenominator => k_is)
    (case hdZeroDenominator => k_is)
    (case haZeroDenominator => k_is)
    (case hnZeroDenominator => k_is)
    (case htZeroDenominator => k_is)
    (case hmZeroDenominator => k_is)
    (case icZeroDenominator => k_is)
    (case sCZeroDenominator => first | rfl | k_is)
    (case kitUniformUniform => first | rfl | k_is | decide +kernel)
    (case kitWeightedWeighted => first | rfl | k_is | decide +kernel)
    (case pgOptimal => k_is)
    (case hdOptimal => k_is)
    (case poOptimal => k_is)
    (case saOptimal => k_is)
    (case mkOptimal => k_is)
    (case kcOptimal => k_is)
    (case nOptimal_size => k_is)
    (case nOptimal_parts => k_is)
    (case nOptimal_kept => k_is)
    (case pgUniform => k_is)
    (case hdUniform => k_is)
    (case poUniform => k_is)
    (case saUniform => k_is)
    (case mkUniform => k_is)
    (case kcUniform => k_is)
    (case nUniform_size => k_is)
    (case nUniform_seen => k_is)
    (case nUniform_kept => k_is)
    (case pgWeighted => k_is)
    (case hdWeighted => k_is)
    (case poWeighted => k_is)
    (case saWeighted => k_is)
    (case mkWeighted => k_is)
    (case kcWeighted => k_is)
    (case nWeighted_size => k_is)
    (case nWeighted_total => k_is)
    (case nWeighted_kept => k_is)
    (case isaUniform => k_is)
    (case isgUniform => k_is)
    (case istUniform => k_is)
    (case ismUniform => k_is)
    (case isaWeighted => k_is)
    (case isgWeighted => k_is)
    (case istWeighted => k_is)
    (case ismWeighted => k_is)
    (case isaOptimal => k_is)
    (case isgOptimal => k_is)
    (case istOptimal => k_is)
    (case ismOptimal => k_is)
    (case kitWeightedUniform => first | rfl | k_is | decide +kernel)
    (case kitOptimalUniform => first | rfl | k_is | decide +kernel)
    (case kitOptimalWeighted => first | rfl | k_is | decide +kernel)
    (case z_abs => k_is)
    (case z_dict => k_is)
    (case z_int => k_is)
    (case z_isinstance => k_is)
    (case z_len => k_is)
    (case z_list => k_is)
    (case z_max => k_is)
    (case z_min => k_is)
    (case z_range => k_is)
    (case z_sorted => k_is)
    (case z_sum => k_is)
    (case z_super => k_is)
    (case z_tuple => k_is)
    (case v_ZERO => k_is)
    (case l_ZERO => k_is)
    (case g_gcd => k_is)
    (case g_lcm => k_is)
