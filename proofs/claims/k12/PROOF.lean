import PyProof.Rows.All
import Wide.All
import OpenK.AllK
import Wide.FinOn
import HandS.ForMost
import HandS.ForExc
import HandS.EndBits
import HandS.Wide
import HandS.IsInst
import HandS.ExcInit
import HandS.Nested
import KE.KExcSuper
import HandS.ExcIs
import HandS.ExcField
import HandS.Gcd
import HandS.Rev
import HandS.Walk
import HandS.Style
import HandS.FStr
import HandS.TryOnly
import KE.GoesEnumKw
import HandS.Text
import HandS.SortInts
import HandS.More
import HandS.Deep
import HandS.StrMore
import HandS.TryMany
import KE.SortData
import KE.SortKeyHeap
import HandS.RevRange
import HandS.Lambda
import HandS.EndTab
import PyProof.Rows.TupSub
import HandS.SortKw
import KE.KSortKey
import PySem.Challenge.RW_samphire_k12_moments_and_mixtures
set_option Elab.async false
set_option linter.all false
set_option maxRecDepth 100000

set_option exponentiation.threshold 100000
/-! ### an own exception whose __init__ begins with super().__init__(..) -/
namespace Sup
open PySem PySem.Spec PyProof.Rows L2 NdefX
/-- what the written part says of such a class (at C), of its __init__ (at f; its code at c, its cell of the class at cc) -/
structure SupC (P : Program) (K : PySem.W.Frag) (mg : Str → Option Value) (C f c cc : Addr) : Prop where
  T : OexC K C
  cd : ∃ cd, PySem.W.clsIn K C = some cd
  code : ∃ occ cdd vs sl file tf, K.lookup c = some ⟨occ, cdd, .fields vs, sl⟩ ∧ vs[2]? = some (.str file tf) ∧ ((P.main.file : Str) == file) = true
  cell : ∃ cl cld sl, K.lookup cc = some ⟨cl, cld, .cell (some (.ref C)), sl⟩
  sub : PySem.W.mroIn K C (.ref C) = some true
  subV : PySem.W.subIn K (.ref C) (.type "ValueError") = some true
  zs : mg "super" = none
  any : PySem.W.nsIn K PySem.cStatics "thirdparty.any" = some none
  sup : PySem.W.ks_superIn K C C "__init__" = some (some (.builtin "ValueError.__init__"))
  top : (P.main.scope.names.lookup ("super" : Str)).isSome = false
section
variable {CX : CXT} {P : Program} {w : World} {K : PySem.W.Frag} {mg : Str → Option Value} {base : Heap} {N ps : List Str} {F : NF} {f C cc : Addr} {k : Nat} {sp : Sp}
/-- the body's first statement -/
abbrev supSt (arg : Expr) (p0 p1 p2 p3 p4 : Pos) : Stmt := .Expr (.Call (.Attribute (.Call (.Name "super" p0) [] [] p1) "__init__" p2) [arg] [] p3) p4
theorem callW {M : Model} {A : Around} {E : Value → Shared → Prop} {s : Shared} {i : String} {u x : Addr} {pos : Pos} {env : Env} {e : Expr} {Q : Value → Shared → Prop} (he : starEach [e] env = (false, eval e env) :: starEach [] env)
    (h : wpAny M A (spliced (backTo pos (starEach [e] env))) (fun vs s₁ => PySem.W.KxsAt i u x s₁.heap ∧ wpAny M A (call (.ref u) vs) Q E s₁) E s) : wpAny M A (callWith pos (.ref u) [] (backTo pos (starEach [e] env)) []) Q E s := by
  rw [he] at h ⊢
  refine PySem.W.kxs_callWith (i := i) (x := x) rfl ?_
  exact PySem.Calls.evalArgs_plain h
theorem fn_super {oc : Value} {od : Option Addr} {osl : Array (Option Value)} {doc pm ctv : Value} {arg : Expr} {rest : List Stmt} {p0 p1 p2 p3 p4 : Pos} {p : Str} {ps' : List Str}
    (T : SupC P K mg C f F.c cc) (lk : K.lookup f = some ⟨oc, od, .func (F.fd doc pm ctv), osl⟩) (hcl : F.cl = [(("__class__" : Str), cc)]) (hcd : PySem.W.codeIn K (.ref F.c) F.qual = true) (S : NScope N ps ["__class__"] F.scope) (hps : ps = p :: ps')
    (hpar : ∃ ar, (F.params.posonlyargs ++ F.params.args).head? = some ar ∧ ar.arg = p) (hsu : F.scope.names.lookup ("super" : Str) = some .globalImplicit) (hbd : F.body = supSt arg p0 p1 p2 p3 p4 :: rest)
    (hsw : ∀ L : Addr, swapsWith (.Call (.Attribute (.Call (.Name "super" p0) [] [] p1) "__init__" p2) [arg] [] p3) none p4.line (envF F f L) = pure false)
    (hev : ∀ L : Addr, ∃ pl, eval (.Call (.Attribute (.Call (.Name "super" p0) [] [] p1) "__init__" p2) [arg] [] p3) (envF F f L) = (do
        let ov ← attributeBase (.Call (.Name "super" p0) [] [] p1) "__init__" (envF F f L) (eval (.Call (.Name "super" p0) [] [] p1) (envF F f L))
        standAt p2.atName
        let (f', first) ← holding [ov] (getMethod ov "__init__" pl)
        callWith p3 f' first (backTo p3 (starEach [arg] (envF F f L))) []))
    (hst : ∀ L : Addr, starEach [arg] (envF F f L) = (false, eval arg (envF F f L)) :: starEach [] (envF F f L))
    (len : ∀ vs H Q E, sp vs H Q E → vs.length = ps.length)
    (hbody : ∀ (A : Around) (outer : List Env) (s : Shared) (H : Hp) (vs : List V) (Q : VK) (E : XK), Room k (A.deeper (envF F f s.heap.objs.size)) → sp vs H Q E →
      ∃ a vs' ta t, vs = .ref a :: vs' ∧ H a = some (exo a C none) ∧ PA (ncx CX P w K mg base N F f A outer s H E) [arg] ta ∧ PSs (ncx CX P w K mg base N F f A outer s H E) rest t ∧
        ta (startF N vs [none]) H (fun ws H1 => ws.length ≤ 1000 ∧ H1 a = some (exo a C none) ∧ t { nx := fun _ H' => Q .non H', rt := Q } (startF N vs [none]) H1)) :
    FnOk P w K mg base CX (k + 1) f (F.fd doc pm ctv) ps sp := by
  refine ⟨len, fun A outer s H args us vs Q E hr e0 hb r hsp => ?_⟩
  have KX : K.In s.heap := e0.mod.kin.keeps fun b o e => (e0.bs b o e).1
  have hl := len _ _ _ _ hsp
  have lim : s.heap.NoLimit := e0.mod.nolimit.keeps fun b o e => (e0.bs b o e).1
  refine codeAny_call_function hr.depth (KX _ _ lk) rfl S.co S.gen rfl (PySem.W.codeRec_of KX hcd) (hb _ _ _ _ ?_)
  refine wpAny_newFunctionEnv S.nocell (fun ⟨n, _⟩ hy => S.par n (List.of_mem_zip hy).1) (fun h₁ hns hsb => ⟨lim.fresh _ hsb, ?_⟩) S.kind
  show codeAny _ _ (.func F.body (envF F f s.heap.objs.size)) _ _
  refine PySem.ks_codeAny_funcAt ?_
  have kp : ∀ b o, s.heap.get? b = some o → h₁.get? b = some o := fun b o e => hsb.extBut b o (Nat.ne_of_lt (Heap.lt_size e)) (Heap.get?_push_of_some _ e)
  obtain ⟨a, vs', ta, t, hvs, ha, hta, ht, hq⟩ := hbody A outer s H vs Q E (hr.deeper _) hsp
  obtain ⟨cl, cld, csl, hcell⟩ := T.cell
  have hbc : base.get? cc = some ⟨cl, cld, .cell (some (.ref C)), csl⟩ := e0.mod.kin _ _ hcell
  have hlook : ∀ {y : Str} {c : Addr}, F.cl.lookup y = some c → y = "__class__" ∧ c = cc := fun {y c} e => by
    rw [hcl] at e
    by_cases hy : y = "__class__"
    · subst hy
      rw [show List.lookup ("__class__" : Str) [(("__class__" : Str), cc)] = some cc by simp [List.lookup]] at e
      exact ⟨rfl, (Option.some.inj e).symm⟩
    · have hb : (y == ("__class__" : Str)) = false := by simpa using hy
      rw [show List.lookup y [(("__class__" : Str), cc)] = none by simp [List.lookup, hb]] at e
      cases e
  have hlk : F.cl.lookup ("__class__" : Str) = some cc := by rw [hcl]; simp [List.lookup]
  have CA : CellsAt F.cl ["__class__"] [none] s.heap H := {
    len := rfl
    all := fun y c e => by
      obtain ⟨_, rfl⟩ := hlook e
      exact ⟨(e0.bs _ _ hbc).2, _, ⟨_, (e0.bs _ _ hbc).1, rfl⟩⟩
    inj := fun x y c e1 e2 => (hlook e1).1.trans (hlook e2).1.symm
    has := fun i y e => by
      match i, e with
      | 0, e =>
        have ey : ("__class__" : Str) = y := Option.some.inj e
        subst ey
        exact ⟨cc, hlk, fun v hv => by simp at hv⟩ }
  have I : Inv (ncx CX P w K mg base N F f A outer s H E) [] (startF N vs [none]) H { s with heap := h₁, toks := s.toks + (ps.zip us).length } := inv_startN S hr.hd e0 hl r CA hns kp
  have kI : K.In h₁ := KX.keeps kp
  have hN0 : N[0]? = some p := by
    have q := S.pre
    rw [hps] at q
    have z : (N.take ((p :: ps').length + 1))[0]? = some p := by
      have z := congrArg (fun l : List Str => l[0]?) q
      exact z
    rw [List.getElem?_take_of_lt (by simp)] at z
    exact z
  have hs0 : (startF N vs [none])[0]? = some (some (.ref a)) := by rw [hvs]; rfl
  have hploc : F.scope.names.lookup p = some .local := S.par p (by rw [hps]; exact List.mem_cons_self)
  obtain ⟨m, hnm, hlm⟩ := id I.loc
  obtain ⟨u0, ru0, hu0⟩ := hlm 0 p (.ref a) hN0 hs0 (.inl hploc)
  have eu0 : u0 = Value.ref a := ru0
  subst eu0
  have hself : m p = some (.ref a) := by
    rcases hu0 with ⟨_, z⟩ | ⟨z, _⟩
    · exact z
    · have z' : F.scope.names.lookup p = some .cell ∨ F.scope.names.lookup p = some .free := z
      rw [hploc] at z'
      rcases z' with z' | z' <;> cases z'
  obtain ⟨occ, cdd, cvs, csl2, file, tf, hcode, hvs2, hfile⟩ := T.code
  obtain ⟨cdD, hcdD⟩ := T.cd
  have hD : ∃ oD, h₁.get? C = some oD ∧ oD.data = .cls cdD := by
    have hD := hcdD
    unfold PySem.W.clsIn at hD
    split at hD
    · rename_i c d cd' sl ho
      cases hD
      exact ⟨_, kI _ _ ho, rfl⟩
    · cases hD
  obtain ⟨oD, hD1, hD2⟩ := hD
  obtain ⟨nm, q, N', bs, bm, sn, sub, ab, col, dd, k0, k1, k2, k3, k5, hC, hbm⟩ := T.T.cls
  obtain ⟨ar, har1, har2⟩ := hpar
  have hkc : F.scope.names.lookup ("__class__" : Str) = some .free := S.frk _ (by simp)
  obtain ⟨mb, hb1, hb2⟩ := I.mod.blt
  rw [hbd]
  obtain ⟨pl, he⟩ := hev s.heap.objs.size
  refine PySem.ks_wpAt_execs_cons (PySem.ks_wpAt_Expr_any (PySem.ks_wpAt_MethodCall (pl := pl) (PySem.ks_wpAt_super_base (fd := F.fd doc pm ctv) hsu hkc (by decide) rfl (kI _ _ lk) rfl har1 rfl (kI _ _ hcode) rfl hvs2 hfile T.top ?_) he) I.quiet (hsw _))
  -- the names
  refine PySem.W.ks_loadName_global S.kind hsu (Calls.loadGlobal_builtin (by exact I.mod.glob.keeps I.bk) T.zs (by exact hb1.keeps I.bk) ((hb2 _ (by decide)).trans (by decide +kernel)) ⟨rfl, ?_⟩)
  refine wpAny_loadName_free S.kind hkc hlk ⟨_, kI _ _ hcell, rfl⟩ ?_
  refine wpAny_loadName_local S.kind (by rw [har2]; exact hploc) hnm (by rw [har2]; exact hself) ?_
  refine PySem.ks_wpAny_isType_cls hD1 hD2 ⟨rfl, ?_⟩
  obtain ⟨t1, hox⟩ := exo_at I.hok ha
  refine PySem.ks_wpAny_call_super hD1 hD2 hox rfl (fun c e => by cases e) (PySem.W.looks_mroIn kI T.sub) (fun h' hso k' => ?_)
  have I2 : Inv (ncx CX P w K mg base N F f A outer s H E) [] (startF N vs [none]) H { s with heap := h', toks := s.toks + (ps.zip us).length } := I.kept (t' := s.toks + (ps.zip us).length) k'
  have kI2 : K.In h' := kI.keeps k'
  have hox2 : h'.get? a = some ({ cls := .ref C, dict := none, data := .fields #[.ref t1, .none, .none, .none, .bool false, .none] } : Obj) := k' _ _ hox
  have IA : PySem.W.InstAt h' a ({ cls := .ref C, dict := none, data := .fields #[.ref t1, .none, .none, .none, .bool false, .none] } : Obj) C none := ⟨hox2, rfl, rfl, trivial⟩
  have hal : PySem.W.alongIn K "__init__" ((cdD.mro.dropWhile (· != .ref C)).drop 1) = some (some (.builtin "ValueError.__init__")) := by
    have z := T.sup
    unfold PySem.W.ks_superIn at z
    rw [hcdD] at z
    exact z
  refine PySem.W.kxs_getMethod PySem.W.kxs_ValueError hso (PySem.W.looks_opaque kI2 T.any) (l₀ := cdD.mro) (fun A Q E s k q => wpAny_bind ((PySem.W.looks_clsIn kI2 hcdD) A _ E s k (wpAny_pure q))) rfl kI2 hal (IA.type.andThen (PySem.W.looks_subIn kI2 T.subV)) (PySem.W.ks_ne kI2 IA hcdD) (by decide) ?_
  -- the bound __init__ at u
  have ku : ∀ b o, h'.get? b = some o → (h'.push (PySem.W.kxs_mw "ValueError.__init__" a)).get? b = some o := fun b o e => Heap.get?_push_of_some _ e
  have I3 : Inv (ncx CX P w K mg base N F f A outer s H E) [] (startF N vs [none]) H { s with heap := h'.push (PySem.W.kxs_mw "ValueError.__init__" a), toks := s.toks + (ps.zip us).length + 1 } := I2.kept (t' := s.toks + (ps.zip us).length + 1) ku
  have hu : (h'.push (PySem.W.kxs_mw "ValueError.__init__" a)).get? h'.objs.size = some (PySem.W.kxs_mw "ValueError.__init__" a) := Heap.get?_push_at rfl rfl
  have I4 : Inv (ncx CX P w K mg base N F f A outer s H E) [(h'.objs.size, PySem.W.kxs_mw "ValueError.__init__" a)] (startF N vs [none]) H { s with heap := h'.push (PySem.W.kxs_mw "ValueError.__init__" a), toks := s.toks + (ps.zip us).length + 1 } := I3.pins_of fun p hp => by
    have hp1 := List.mem_singleton.mp hp
    subst hp1
    exact ⟨hu, I2.hok.fresh (Nat.le_refl _), fun z => absurd (z ▸ I2.lt) (Nat.lt_irrefl _), I2.nofs (Nat.le_refl _), fun v z => by cases z⟩
  refine callW (i := "ValueError.__init__") (x := a) (hst _) ?_
  refine thn (hta.run p3 _ _ _ H _ I4 hq) fun ws' s5 ⟨ws, H5, I5, r5, hlen, ha5, ht5⟩ => ?_
  have hu5 : s5.heap.get? h'.objs.size = some (PySem.W.kxs_mw "ValueError.__init__" a) := (I5.pin _ (List.mem_append_right _ (List.mem_singleton.mpr rfl))).1
  refine ⟨hu5, ?_⟩
  obtain ⟨t5, hox5⟩ := exo_at I5.hok ha5
  have hws : ws'.length ≤ sizeLine := by
    rw [← Paired.length r5, sizeLine_eq]
    omega
  have I6 : Inv (ncx CX P w K mg base N F f A outer s H E) [] (startF N vs [none]) H5 s5 := I5.pins_of fun p hp => absurd hp (by simp)
  obtain ⟨h5, g5, d5, k5', os5⟩ := s5
  have hC5 := I5.kIn _ _ hC
  show wpAny _ _ (call (.ref h'.objs.size) ws') _ _ _
  refine wpAny_call (codeAny_of_tree ?_)
  show wpAny _ _ (callAny (.ref h'.objs.size) ⟨ws', []⟩) _ _ _
  simp only [callAny]
  refine wpAny_bind (wpAny_load hu5 ?_)
  simp only [PySem.W.kxs_mw, show (Value.type "method-wrapper" == Value.type "method" || Value.type "method-wrapper" == Value.type "builtin_function_or_method" || Value.type "method-wrapper" == Value.type "method-wrapper") = true by decide, if_true]
  refine PySem.W.KFB.if_so (by decide) ?_
  refine wpAny_bind (PySem.W.check_bound_init PySem.F.excBase_ValueError.toExcCallFacts hC5 hox5 rfl ?_)
  refine wpAny_bind (wpAny_pure (wpAny_pure ?_))
  refine ⟨plainId_quiet PySem.F.excBase_ValueError.init.plain _, codeAny_builtin PySem.F.excBase_ValueError.initEntry ?_⟩
  refine PySem.W.exc_init_tree (cls := .ref C) (t0 := t5) (dv := none) (c2 := .none) (c3 := .none) (b4 := .bool false) hox5 hws (fun h6 k6 e6 _ => ?_)
  have J := I6.write (t' := k5') (x := a) (e := a) (o := exo a C none) (by rw [ha5]; exact True.intro) (.inl rfl) k6 ⟨_, e6⟩ (exo_ok e6)
  have eu : upd H5 a (exo a C none) = H5 := by
    funext b
    by_cases hb : b = a
    · rw [hb, upd_same, ha5]
    · rw [upd_ne hb]
  rw [eu] at J
  refine PySem.wpAt_of_wpAny (wpAny_mono (ht.run [] _ (startF N vs [none]) H5 _ J ht5) (fun fl s' hs => ?_) fun e s' hs => hs)
  have fin : ∀ {σ' : L2.St} {H' : Hp} {v : V} {u : Value}, Inv (ncx CX P w K mg base N F f A outer s H E) [] σ' H' s' → L2.RelV v u → Q v H' → CE outer P w H s Q u s' :=
    fun {σ' H' v u} J rv q => ⟨v, H', J.os, J.bare, J.base, J.hok, rv, q⟩
  cases fl with
  | ret u =>
    obtain ⟨v, σ', H', J, rv, q⟩ := hs
    exact fin J rv q
  | next =>
    obtain ⟨σ', H', J, q⟩ := hs
    exact fin (v := V.non) (u := Value.none) J rfl q
  | brk =>
    obtain ⟨_, _, _, q⟩ := hs
    exact False.elim q
  | cont =>
    obtain ⟨_, _, _, q⟩ := hs
    exact False.elim q
end
/-! ### an exception without fields, made -/
section
variable {X : Cx}
theorem mk_endN {pins : List (Addr × Obj)} {σ : L2.St} {H1 H2 : Hp} {Q : XK} {hp hp2 h2 : Heap} {g1 g2 : Array GenState} {d1 d2 : Drawn} {t1 t2 : Nat} {os1 os2 : OsState} {a C : Addr} (T : Raises X (.ref C)) (I1 : Inv X pins σ H1 ⟨hp, g1, d1, t1, os1⟩)
    (ha : hp.objs.size ≤ a) (k : ∀ b o, hp.get? b = some o → hp2.get? b = some o) (un : Un (frs X.stack) [] (upd H1 a (exo a C none)) H2 hp2 h2) (hok : HOk X.prog X.w H2 h2) (ho : os2 = os1) (hb : AllBare g2)
    (ea : H2 a = some (exo a C none)) (q : Q (.ref C) none (del H2 a)) : MkP X pins σ Q (.ref a) ⟨h2, g2, d2, t2, os2⟩ := by
  obtain ⟨t0, hoe⟩ := exo_at hok ea
  have hn : H1 a = none := I1.hok.fresh ha
  obtain ⟨G, g1', g2'⟩ := restrict h2 fun b => decide (b ≠ a)
  have gk : ∀ b, b ≠ a → G.get? b = h2.get? b := fun b hb => g1' b (decide_eq_true hb)
  have ge : G.get? a = none := g2' a (by simp)
  have nha : ∀ {b : Addr} {o : Obj}, hp.get? b = some o → b ≠ a := fun {b o} z => Nat.ne_of_lt (Nat.lt_of_lt_of_le (Heap.lt_size z) ha)
  have up : ∀ {b : Addr}, b ≠ a → H1 b = none → upd H1 a (exo a C none) b = none := fun {b} hb n => by rw [upd_ne hb]; exact n
  have U : Un (frs X.stack) [] H1 (del H2 a) hp G := {
    keep := fun b o z n hf hx => by
      rw [gk b (nha z)]
      exact un.keep b o (k b o z) (up (nha z) n) hf hx
    slot := fun b o z n hf hx => by
      rw [gk b (nha z)]
      exact un.slot b o (k b o z) (up (nha z) n) hf hx
    free := fun b o z n hx => by
      rw [del_ne (nha z)]
      exact un.free b o (k b o z) (up (nha z) n) hx
    there := fun b o z hx => by
      rw [gk b (nha z)]
      exact un.there b o (k b o z) hx
    tups := fun b xs z => by
      rw [del_ne (ne_of_none z hn)]
      exact un.tups b xs (by rw [upd_ne (ne_of_none z hn)]; exact z)
    frzs := fun b o v z => by
      rw [del_ne (ne_of_none z hn)]
      exact un.frzs b o v (by rw [upd_ne (ne_of_none z hn)]; exact z)
    tbls := fun b ps z => by
      rw [del_ne (ne_of_none z hn)]
      exact un.tbls b ps (by rw [upd_ne (ne_of_none z hn)]; exact z) }
  have hok3 : HOk X.prog X.w (del H2 a) G := fun b o z => by
    have hba : b ≠ a := fun e => by
      rw [e, del_same] at z
      cases z
    rw [del_ne hba] at z
    have noa : ∀ {c : Addr}, H2 c = some (.own b) → c ≠ a := fun {c} hc => at_ne ea hc exo_own
    exact (hok b o z).stay (fun c v hc y => by
        have hca : c ≠ a := by
          rcases hc with hc | hc
          · rw [hc]
            exact hba
          · exact noa hc
        rw [gk c hca]
        exact y)
      (fun c hc => by rw [del_ne (noa hc)]; exact hc) (fun c xs hc => by rw [del_ne (at_ne ea hc exo_tup)]; exact hc)
  have J : Inv X pins σ (del H2 a) ⟨G, g2, d2, t2, os2⟩ := I1.call' (ch := []) ho U hok3 hb (fun b z => absurd z (by simp))
  refine ⟨a, _, _, ⟨G, g2, d2, t2, os2⟩, _, .ref C, none, rfl, J, fun b o z => ?_, ge, hoe, ⟨rfl, rfl⟩, rfl, rfl, del_same, rfl, hb, T, q⟩
  by_cases hba : b = a
  · rw [hba, ge] at z
    cases z
  · exact (gk b hba).symm.trans z
/-- C(), C's own __init__ keeping sp and making no field -/
def tMkN (C : Addr) (sp : Sp) : L2.St → Hp → XK → Prop := fun _ H Q => ∀ a, H a = none → sp [.ref a] (upd H a (exo a C none)) (fun v H2 => v = .non ∧ H2 a = some (exo a C none) ∧ Q (.ref C) none (del H2 a)) (fun _ _ _ => False)
theorem pmk_oexN {CX : CXT} {x : Str} {C fI : Addr} {k : Nat} {fd : FuncData} {ps : List Str} {sp : Sp} {p pos : Pos} (T : OexC X.K C) (iC : PySem.W.findIn X.K (.ref C) "__init__" = some (some (.ref fI))) (tI : PySem.W.typeIn X.K (.ref fI) = some (.type "function"))
    (F1 : FnOk X.prog X.w X.K X.mg X.base CX k fI fd ps sp) (hr : Room (k + 1) X.A) (hb : Binds X.K fd ps []) (hx : Passes CX X (fun _ _ _ => False)) (hg : Gl X x) (hm : X.mg x = some (.ref C))
    (hdb : (x == ("__debug__" : Str)) = false := by decide) : PMk X (.Call (.Name x p) [] [] pos) (tMkN C sp) := by
  intro pins s σ H1 Q I1 q1
  obtain ⟨nm, q, N, bs, bm, sn, sub, ab, col, dd, k0, k1, k2, k3, k5, hC, hbm⟩ := T.cls
  refine wpAny_Call_Name_kw (ld_glob I1 hg hm ?_ hdb)
  refine PySem.W.callWith_K0 I1.kIn T.kC ?_
  show wpAny _ _ (call (.ref C) []) _ _ _
  obtain ⟨hp, g, dr, tk, os⟩ := s
  have hsz : hp.objs.size ≤ hp.objs.size + 1 := Nat.le_succ _
  have hn : H1 (hp.objs.size + 1) = none := I1.hok.fresh hsz
  have hq := q1 (hp.objs.size + 1) hn
  have kk : ∀ b o, hp.get? b = some o → ((hp.push (PySem.W.kdv_tup [])).push (PySem.HandSPX.excO C hp.objs.size)).get? b = some o := fun b o e => Heap.get?_push_of_some _ (Heap.get?_push_of_some _ e)
  have hget : ((hp.push (PySem.W.kdv_tup [])).push (PySem.HandSPX.excO C hp.objs.size)).get? (hp.objs.size + 1) = some (PySem.HandSPX.excO C hp.objs.size) := by heap_get
  have I2 : Inv X pins σ (upd H1 (hp.objs.size + 1) (exo (hp.objs.size + 1) C none)) ⟨(hp.push (PySem.W.kdv_tup [])).push (PySem.HandSPX.excO C hp.objs.size), g, dr, tk, os⟩ :=
    I1.laid (t' := tk) (a := hp.objs.size + 1) (o := exo (hp.objs.size + 1) C none) (h' := (hp.push (PySem.W.kdv_tup [])).push (PySem.HandSPX.excO C hp.objs.size)) kk hsz (exo_ok hget)
  have r2 : Vals [V.ref (hp.objs.size + 1)] [Value.ref (hp.objs.size + 1)] := .cons rfl .nil
  have hl : ([Value.ref (hp.objs.size + 1)] ++ []).length = ps.length := by
    have e := r2.length
    rw [F1.len _ _ _ _ hq] at e
    exact e.symm
  refine wpAny_call (PySem.HandSPX.call_own PySem.F.excBase_ValueError (fun Y => PySem.HandSPX.refsVE_contains Y bm hbm) (I1.kIn _ _ hC) (PySem.W.looks_findIn I1.kIn iC) (fun self => PySem.W.bind_fn I1.kIn self tI) (Nat.zero_le _)
    (codeAny_mono (F1.run _ X.stack _ _ ⟨[Value.ref (hp.objs.size + 1)], []⟩ [Value.ref (hp.objs.size + 1)] _ _ (fun _ _ _ => False) (hr.make C [] []) (I2.env0.make C [] []) (hb _ [Value.ref (hp.objs.size + 1)] I2.kIn hl) r2 hq) fun r s' hq' => ?_))
  cases r with
  | error er => exact hx pins σ _ _ er s' I2 hq'
  | ok fl =>
    cases fl with
    | ret u =>
      obtain ⟨v, H2, os2, bare2, un2, hok2, rv, ev, ea, q2⟩ := hq'
      subst ev
      obtain ⟨h2, g2, d2, t2, os'⟩ := s'
      exact ⟨rv, mk_endN (raises_own T.exC T.tyC) I1 hsz kk un2 hok2 os2 bare2 ea q2⟩
    | next => exact False.elim hq'
    | brk => exact False.elim hq'
    | cont => exact False.elim hq'
end
/-! ### a call of a local name that holds a def, which may raise -/
section
variable {X : Cx} {CX : CXT} {k i : Nat} {f : Addr} {fd : FuncData} {ps : List Str} {sp : Sp} {E : L2.St → XK} {x : Str} {p pos : Pos} {e : Expr} {es : List Expr} {t : TA}
def tCallLS (i : Nat) (f : Addr) (sp : Sp) (E : L2.St → XK) (t : TA) : TE := fun σ H Q => σ[i]? = some (some (.ref f)) ∧ t σ H fun vs H1 => sp vs H1 Q (E σ)
theorem pe_callLS (F : FnOk X.prog X.w X.K X.mg X.base CX k f fd ps sp) (hr : Room k X.A) (hN : X.N[i]? = some x) (hv : Vis X.env.scope x) (hk : PySem.W.keepIn X.K (.ref f) = true) (hb : Binds X.K fd ps []) (hx : ∀ σ, PassesAt CX X σ (E σ)) (ha : PA X (e :: es) t)
    (hdb : (x == ("__debug__" : Str)) = false := by decide) (hcd : (x == ("__classdict__" : Str)) = false := by decide)
    (he : starEach (e :: es) X.env = (false, eval e X.env) :: starEach es X.env := by rfl) (hpl : (backTo pos (starEach es X.env)).any (·.1) = false := by rfl) : PE X (.Call (.Name x p) (e :: es) [] pos) (tCallLS i f sp E t) := by
  refine ⟨fun pins s σ H Q I h => ?_⟩
  obtain ⟨hs, ht⟩ := h
  refine wpAny_Call_Name_kw (thn ((pe_var (pos := p) hN hv hdb hcd).run pins s σ H (fun v H1 => v = .ref f ∧ H1 = H) I ⟨.ref f, hs, rfl, rfl⟩) fun u s1 ⟨v, H1, I1, r1, q1⟩ => ?_)
  obtain ⟨rfl, rfl⟩ := q1
  cases r1
  refine PySem.W.callWith_K (h₀ := X.base) I.ok.mod.kin hk (thn (ha.run pos pins s1 σ _ _ I1 ht) fun us s2 ⟨vs, H2, I2, r, q⟩ => ⟨I2.kIn, ?_⟩) he hpl
  exact run_fnS F hr hb (hx σ) I2 r q
end
/-! ### isinstance of a caught error of an own class without fields -/
def rIsX (K : PySem.W.Frag) (a : Addr) (cls : Value) (d : Option Addr) : List V → Hp → VK → Prop := fun xs H Q => ∃ (D : Addr) (c : V) (cv : Value) (b : Bool), cls = .ref D ∧ d = none ∧ ExcC K D ∧ xs = [.ref a, c] ∧ (∀ u, L2.RelV c u → u = cv) ∧ PySem.W.kitOne K (.ref D) cv = some b ∧ Q (.bl b) H
theorem call_isX {X : Cx} {a : Addr} {oe : Obj} {cls : Value} {d : Option Addr} {pn : List (Addr × Obj)} (hz : Zc cls d oe) (hf : ∃ vs, oe.data = .fields vs) : CallR (X.suite a ((a, oe) :: pn)) (.builtin "isinstance") (rIsX X.K a cls d) := by
  intro pins s σ H xs us Q I r h
  obtain ⟨D, c, cv, b, rfl, rfl, C, rfl, hc, e, q⟩ := h
  exact call_isE C hz hf pins s σ H [.ref a, c] us Q I r ⟨c, cv, b, rfl, hc, e, q⟩
/-! ### what a law's text says of an own exception -/
/-- ExcT C f c cc: the class at C over SamphireError .. over ValueError, with its own __init__ at f -/
structure ExcT (P : Program) (K : PySem.W.Frag) (mg : Str → Option Value) (name : Str) (C f c cc : Addr) : Prop where
  S : SupC P K mg C f c cc
  g : mg name = some (.ref C)
  iC : PySem.W.findIn K (.ref C) "__init__" = some (some (.ref f))
  tI : PySem.W.typeIn K (.ref f) = some (.type "function")
  is : ExcC K C
  te : PySem.W.exmOne K (.ref C) (.ref C) = some true
theorem ExcT.xf {P : Program} {K : PySem.W.Frag} {mg : Str → Option Value} {name : Str} {C f c cc : Addr} (T : ExcT P K mg name C f c cc) : XfC K C := ⟨T.is.hg, T.is.hk, T.is.hs, T.is.hd⟩
/-- the file that a code object tells -/
def flIs (cvs : List Value) (f : Str) : Bool := match cvs with | _ :: _ :: .str file _ :: _ => f == file | _ => false
/-- what k_is finds, put together -/
theorem excT_mk {P : Program} {K : PySem.W.Frag} {mg : Str → Option Value} {name : Str} {C f c cc : Addr} {nm q : Str} {N : Addr} {bs bm : List Value} {sn : List Str} {sub : List Value} {ab : Bool} {col : Option Bool} {dd : Option Addr} {m0 m1 m2 m3 m5 : Option Value}
    {occ : Value} {cdd : Option Addr} {cvs : List Value} {csl : Array (Option Value)} {ccl : Value} {ccd : Option Addr} {ccs : Array (Option Value)}
    (xL : K.lookup C = some (excClassObj nm q C N bs bm true sn sub ab col dd m0 m1 m2 m3 m5 "ValueError.__new__")) (rv : PySem.HandSPX.refsVE bm = true)
    (sa : PySem.W.findIn K (.ref C) "__setattr__" = some (some (.builtin "object.__setattr__"))) (sB : PySem.W.subIn K (.ref C) (.type "BaseException") = some true) (tC : PySem.W.typeIn K (.ref C) = some (.type "type")) (kC : PySem.W.keepIn K (.ref C) = true)
    (code : K.lookup c = some ⟨occ, cdd, .fields cvs.toArray, csl⟩) (hfile : flIs cvs P.main.file = true)
    (cell : K.lookup cc = some ⟨ccl, ccd, .cell (some (.ref C)), ccs⟩) (mro : PySem.W.mroIn K C (.ref C) = some true) (sV : PySem.W.subIn K (.ref C) (.type "ValueError") = some true) (zs : mg "super" = none)
    (any : PySem.W.nsIn K PySem.cStatics "thirdparty.any" = some none) (sup : PySem.W.ks_superIn K C C "__init__" = some (some (.builtin "ValueError.__init__"))) (top : (P.main.scope.names.lookup ("super" : Str)).isSome = false)
    (g : mg name = some (.ref C)) (iC : PySem.W.findIn K (.ref C) "__init__" = some (some (.ref f))) (tI : PySem.W.typeIn K (.ref f) = some (.type "function")) (is : ExcC K C) (isc : PySem.W.isClsIn K C = true) (sC : PySem.W.subIn K (.ref C) (.ref C) = some true) : ExcT P K mg name C f c cc where
  S := {
    T := ⟨⟨nm, q, N, bs, bm, sn, sub, ab, col, dd, m0, m1, m2, m3, m5, xL, rv⟩, sa, sB, tC, kC⟩
    cd := ⟨_, by unfold PySem.W.clsIn; rw [xL] <;> rfl⟩
    code := by
      match cvs, code, hfile with
      | a :: b :: .str file tf :: r, code, hfile => exact ⟨_, _, _, _, file, tf, code, rfl, hfile⟩
    cell := ⟨_, _, _, cell⟩
    sub := mro
    subV := sV
    zs := zs
    any := any
    sup := sup
    top := top }
  g := g
  iC := iC
  tI := tI
  is := is
  te := PySem.W.exm_ref sB is.hd tC sC
end Sup

/-! ### list(reversed(a list)) -/
namespace RL
open PySem PySem.Spec PyProof.Rows RT L2
section
variable {prog : Program} {w : World} {A : Around} {E : Value → Shared → Prop} {s : Shared}
theorem extend_rev {R : Result → Shared → Prop} {S it l : Addr} {items : Array Value} {res : Value} {c₀ : Nat} (hh : A.handled = none) (hit : s.heap.IsRevIter it l ((items.size : Int) - 1)) (hl : s.heap.IsList l items) (hne : l ≠ it) (hSi : S ≠ it) (hSl : S ≠ l) (hn : items.size ≤ sizeLine)
    (hS : s.heap.get? S = some { cls := .type "list", data := .seq #[] c₀ })
    (hR : ∀ s' acc' c', Moved (S :: [it]) (fun a b => b = a) s s' → s'.heap.get? S = some { cls := .type "list", dict := none, data := .seq acc' c', slots := #[] } → ItemsOf (fun i v => items[items.size - 1 - i]? = some v) acc' items.size → R (.ok (.ret res)) s') :
    wpAny (model prog w) A.in1 (Builtin.List.listExtendWith (.ref S) (.ref it) res)
      (fun fin s' => match fin with | .done f => R (.ok f) s' | .again c' => c'.quiet = true ∧ codeAny (model prog w) A c' R s') (fun e s' => R (.error e) s') s := by
  have W := (Walks.listRev (prog := prog) (w := w) (A := A.in1) hh it l hne items).toS
  have hSf : S ∉ [it, l] := by simp only [List.mem_cons, List.not_mem_nil, or_false, not_or]; exact ⟨hSi, hSl⟩
  have hT : s.TypeIs (.ref it) "list_reverseiterator" := Heap.IsRevIter.typeIs hit
  have h1 : Builtin.List.listSameRef (.ref S) (.ref it) = false := by simp [Builtin.List.listSameRef, hSi]
  unfold Builtin.List.listExtendWith
  refine wpAny_bind (wpAny_typeOf hT ?_)
  rw [if_neg (by rw [h1]; decide)]
  refine wpAny_bind (wpAny_pyIter_revIter hit ?_)
  refine wpAny_bind (wpAny_holding ?_)
  unfold Builtin.List.listLengthHint
  refine wpAny_bind (wpAny_specialOf hT nolen_lri ?_)
  show wpAny _ A.in1 (specialOf (Value.ref it) (Str.ofString "__length_hint__") >>= _) _ _ _
  refine wpAny_bind (wpAny_specialOf hT hint_lri ?_)
  generalize hid : ("list_reverseiterator.__length_hint__" : String) = id0
  wp_delta
  rw [show splitId id0 = some ("list_reverseiterator", "__length_hint__") from by subst hid; decide +kernel]
  subst hid
  refine wpAny_bind (wpAny_isInstance (b := true) hT (by rw [isSubtype_type]; kernel_rfl) ?_)
  refine wpAny_pure ?_
  rw [if_neg (by decide)]
  have e0 : ((items.size : Nat) : Int) - 1 - ((0 : Nat) : Int) = (items.size : Int) - 1 := by omega
  refine wpAny_pure ⟨plainId_quiet F.plain_extend_loop _, codeAny_extend_loopS W hn _ hSf _ items.size 0 _ _ _ rfl (Nat.zero_le _) ⟨Nat.zero_le _, by rw [e0]; exact hit, hl⟩ hS (ItemsOf.nil _) fun s' acc' c' hm hS' hacc => ?_⟩
  exact hR s' acc' c' hm hS' hacc
theorem init_rev {R : Result → Shared → Prop} {S it l : Addr} {items : Array Value} (hh : A.handled = none) (hit : s.heap.IsRevIter it l ((items.size : Int) - 1)) (hl : s.heap.IsList l items) (hne : l ≠ it) (hSi : S ≠ it) (hSl : S ≠ l) (hn : items.size ≤ sizeLine)
    (hS : s.heap.get? S = some { cls := .type "list", data := .seq #[] })
    (hR : ∀ (h' : Heap) (tk : Nat) (acc : Array Value) (c' : Nat), (∀ b o, b ≠ S → b ≠ it → s.heap.get? b = some o → h'.get? b = some o) → h'.get? S = some { cls := .type "list", dict := none, data := .seq acc c', slots := #[] } → ItemsOf (fun i v => items[items.size - 1 - i]? = some v) acc items.size → R (.ok (.ret .none)) { s with heap := h', toks := tk }) :
    wpAny (model prog w) A.in1 (Builtin.«list.__init__» ⟨[.ref S, .ref it], []⟩)
      (fun fin s' => match fin with | .done f => R (.ok f) s' | .again c' => c'.quiet = true ∧ codeAny (model prog w) A c' R s') (fun e s' => R (.error e) s') s := by
  show wpAny _ A.in1 (do let old ← Builtin.List.listItems (.ref S); Builtin.List.listUpdate (.ref S) (fun _ => #[]); letGo old.toList.reverse; Builtin.List.listExtendWith (.ref S) (.ref it) .none) _ _ s
  refine wpAny_bind ?_
  unfold Builtin.List.listItems
  refine wpAny_bind (wpAny_seqItems hS rfl (wpAny_pure ?_))
  show wpAny _ A.in1 (updateSeq S (fun _ => #[]) >>= fun _ => letGo (#[] : Array Value).toList.reverse >>= fun _ => Builtin.List.listExtendWith (.ref S) (.ref it) .none) _ _ s
  refine wpAny_bind (wpAny_updateSeq hS rfl ?_)
  have hS₂ := Heap.get?_update_self (Obj.mapSeq (fun _ => (#[] : Array Value))) hS rfl
  have oth : ∀ b o, b ≠ S → s.heap.get? b = some o → (s.heap.update S (Obj.mapSeq (fun _ => (#[] : Array Value)))).get? b = some o :=
    fun b o hb e => (Heap.get?_update_other _ _ (Ne.symm hb)).trans e
  refine wpAny_bind (wpAny_letGo ?_)
  refine extend_rev (s := { s with heap := s.heap.update S (Obj.mapSeq (fun _ => (#[] : Array Value))) }) hh (hit.at fun o e => oth it o hSi.symm e) (by obtain ⟨o, ho, x⟩ := hl; exact ⟨o, oth l o hSl.symm ho, x⟩) hne hSi hSl hn hS₂ fun s' acc' c' hm hS' hacc => ?_
  rw [Moved.eq_with hm]
  exact hR s'.heap s'.toks acc' c' (fun b o hb hb2 e => hm.heap b o (by simp [hb, hb2]) (oth b o hb e)) hS' hacc
theorem call_list_rev {it l : Addr} {items : Array Value} {Q : Value → Shared → Prop} (hh : A.handled = none) (hit : s.heap.IsRevIter it l ((items.size : Int) - 1)) (hl : s.heap.IsList l items) (hne : l ≠ it) (hn : items.size ≤ sizeLine)
    (hQ : ∀ (h' : Heap) (tk : Nat) (acc : Array Value) (c' : Nat), (∀ b o, b ≠ it → s.heap.get? b = some o → h'.get? b = some o) → h'.get? s.heap.objs.size = some { cls := .type "list", dict := none, data := .seq acc c', slots := #[] } → ItemsOf (fun i v => items[items.size - 1 - i]? = some v) acc items.size → Q (.ref s.heap.objs.size) { s with heap := h', toks := tk }) :
    wpAny (model prog w) A (call (.type "list") [.ref it]) Q E s := by
  refine callType_codes (Q₁ := fun obj s₁ => obj = .ref s.heap.objs.size ∧ s₁ = { s with heap := s.heap.push { cls := .type "list", data := .seq #[] } }) F.called_list (F.typeCall_list_1 _) F.entry_list_init
    (code_list_new _ ⟨rfl, rfl⟩) fun obj s₁ h₁ => ?_
  obtain ⟨rfl, rfl⟩ := h₁
  have hS : (s.heap.push { cls := .type "list", data := .seq #[] }).get? s.heap.objs.size = some { cls := .type "list", data := .seq #[] } := Heap.get?_push_size _ rfl
  obtain ⟨oi, hoi, _⟩ := id hit
  obtain ⟨ol, hol, _⟩ := id hl
  refine ⟨⟨_, hS, rfl⟩, F.args_list_init_2 _ _, init_rev (A := A.in1) (s := { s with heap := s.heap.push { cls := .type "list", data := .seq #[] } }) hh (hit.at fun o e => Heap.get?_push_of_some _ e) (hl.push _) hne (Nat.ne_of_gt (Heap.lt_size hoi)) (Nat.ne_of_gt (Heap.lt_size hol)) hn hS fun h' tk acc c' hk hS' hacc => ?_⟩
  exact ⟨rfl, hQ h' tk acc c' (fun b o hb e => hk b o (Nat.ne_of_lt (Heap.lt_size e)) hb (Heap.get?_push_of_some _ e)) hS' hacc⟩
end
section
variable {X : Cx}
/-- list(reversed(xs)): a new list -/
def tListRev (K : PySem.W.Frag) (te : TE) : TE := fun σ H Q => te σ H fun x H1 => ∃ a xs, x = .ref a ∧ SqL K H1 a xs ∧ ∀ p, H1 p = none → Q (.ref p) (upd H1 p (.lst xs.reverse))
theorem pe_listRev {e : Expr} {te : TE} {p p2 pos pos2 : Pos} (hc : X.calm = true) (hg : Gl X "list") (hm : X.mg "list" = none) (hg2 : Gl X "reversed") (hm2 : X.mg "reversed" = none) (he : PE X e te)
    (hs : starEach [e] X.env = (false, eval e X.env) :: starEach [] X.env := by rfl)
    (hs2 : starEach [.Call (.Name "reversed" p2) [e] [] pos2] X.env = (false, eval (.Call (.Name "reversed" p2) [e] [] pos2) X.env) :: starEach [] X.env := by rfl) :
    PE X (.Call (.Name "list" p) [.Call (.Name "reversed" p2) [e] [] pos2] [] pos) (tListRev X.K te) := by
  refine ⟨fun pins s σ H Q I h => ?_⟩
  refine Call_ (ld_blt I hg hm boot_list (PyProof.Rows.callWith_type1 (args_cons (Call_ (ld_blt I hg2 hm2 PyProof.Rows.boot_reversed (PyProof.Rows.callWith_type1 (args_cons (thn (he.run pins s σ H _ I h) fun u s1 ⟨v, H1, I1, r1, q1⟩ => args_nil ?_) hs) hs rfl))) hs2) hs2 rfl))
  obtain ⟨a, xs, ev, hq, q⟩ := q1
  subst ev
  obtain rfl : u = Value.ref a := r1
  obtain ⟨its, rv, p', hz⟩ := I1.list hq
  refine call_reversed_list p'.isList (args_nil ?_)
  have k0 : ∀ b o, s1.heap.get? b = some o → (s1.heap.push (revObj a ((its.toArray.size : Int) - 1))).get? b = some o := fun b o e => Heap.get?_push_of_some _ e
  have hl := p'.isList
  obtain ⟨ol, hol, _⟩ := id hl
  have hne : a ≠ s1.heap.objs.size := Nat.ne_of_lt (Heap.lt_size hol)
  have hn : its.toArray.size ≤ sizeLine := by rw [List.size_toArray, ← rv.length]; exact hz
  refine call_list_rev (s := { s1 with heap := s1.heap.push (revObj a ((its.toArray.size : Int) - 1)) }) (I1.ok.hd hc) ⟨_, Heap.get?_push_size _ rfl, rfl, rfl⟩ (hl.push _) hne hn fun h' tk acc c' hk hS' hi => ?_
  have hle : s1.heap.objs.size ≤ (s1.heap.push (revObj a ((its.toArray.size : Int) - 1))).objs.size := by simp [Heap.push]
  have ea : acc.toList.toArray = acc := by simp
  exact ⟨.ref (s1.heap.push (revObj a ((its.toArray.size : Int) - 1))).objs.size, upd H1 (s1.heap.push (revObj a ((its.toArray.size : Int) - 1))).objs.size (.lst xs.reverse), I1.laid (t' := tk) (fun c o e => hk c o (Nat.ne_of_lt (Heap.lt_size e)) (k0 c o e)) hle (show ObjOk X.prog X.w _ _ _ (.lst xs.reverse) from ⟨by rw [List.length_reverse]; exact hz, acc.toList, c', vals_rev rv hi, by rw [ea]; exact hS'⟩), rfl, q _ (I1.hok.fresh hle)⟩
end
end RL
/-! ### xs.extend(a tuple) -/
namespace RL
open PySem PySem.Spec PyProof.Rows RT L2
theorem meets_extend_tup (l : Addr) (items : Array Value) (n : Nat) (b : Addr) (items2 : Array Value) (n2 : Nat) (o : Obj) (hc : o.cls = .type "tuple") (hd : o.data = .seq items2 n2) (hs1 : items.size + items2.size ≤ sizeLine) :
    Meets (Builtin.«list.extend» ⟨[.ref l, .ref b], []⟩) (fun _ R s => s.heap.get? l = some { cls := .type "list", dict := none, data := .seq items n, slots := #[] } ∧ s.heap.get? b = some o ∧ R (.ok (.ret Value.none)) { s with heap := s.heap.update l (Obj.mapSeq fun x => x ++ items2), toks := s.toks }) :=
  .of_wp fun prog w A R s h => by
    obtain ⟨hl, hb, h⟩ := h
    show wpAny _ _ (Builtin.List.listExtendWith (.ref l) (.ref b) .none) _ _ _
    unfold Builtin.List.listExtendWith
    refine wpAny_bind (wpAny_typeOf ⟨o, hb, hc⟩ ?_)
    have h1 : (Builtin.List.listSameRef (.ref l) (.ref b) || Value.type "tuple" == Value.type "list" || Value.type "tuple" == Value.type "tuple") = true := by simp
    simp only [h1, if_true]
    refine wpAny_bind ?_
    unfold Builtin.List.listItems
    refine wpAny_bind (wpAny_seqItems hb hd (wpAny_pure ?_))
    refine wpAny_bind ?_
    refine wpAny_bind (wpAny_seqItems hl rfl (wpAny_pure ?_))
    have hlong : ¬ (!items.isEmpty && Builtin.List.listTooLong (items.size + items2.size)) = true := by
      rw [notLongL hs1, Bool.and_false]
      exact Bool.false_ne_true
    rw [if_neg hlong]
    show wpAny _ _ (updateSeq l (· ++ items2) >>= fun _ => ret .none) _ _ s
    refine wpAny_bind (wpAny_updateSeq hl rfl (hz := by omega) (_hz' := by rw [Array.size_append]; omega) ?_)
    exact wpAny_pure ⟨_, rfl, h⟩
section
variable {X : Cx}
def rExtT : V → List V → Hp → VK → Prop := fun x vs H Q => ∃ l b xs zs, x = .ref l ∧ vs = [.ref b] ∧ H l = some (.lst xs) ∧ H b = some (.tup zs) ∧ xs.length + zs.length ≤ sizeLine ∧ Q .non (upd H l (.lst (xs ++ zs)))
theorem mt_extendT : MtM X "list.extend" rExtT := by
  intro pins s σ H x vs v us Q I rx rv h
  obtain ⟨l, b, xs, zs, rfl, rfl, hH, hB, hz, q⟩ := h
  cases rx
  obtain ⟨u, rfl, ru⟩ := rv.one
  cases ru
  obtain ⟨z, its, n, r, hl, e⟩ := I.lstM hH
  obtain ⟨its2, r2, ⟨o, ho, hc, n2, hd⟩, hz2⟩ := I.tuple (SqT.of hB)
  have hl2 := r2.length
  refine call_meets PySem.F.slot_list_extend ⟨_, e, rfl⟩ PySem.F.entry_list_extend (PySem.F.args_list_extend_2 _ _)
    (meets_extend_tup l its.toArray n b its2.toArray n2 o hc hd (by rw [List.size_toArray, List.size_toArray]; omega)) ⟨e, ho, ?_⟩
  refine ⟨.non, _, I.lset (its' := its ++ its2) hH e (by simp) (r.append r2) ?_, rfl, q⟩
  rw [List.length_append]
  omega
end
end RL
/-! ### enumerate(a list, start=k) -/
namespace RL
open PySem PySem.Spec PyProof.Rows L2
section
variable {M : Model} {A : Around} {E : Value → Shared → Prop} {s : Shared} {env : Env}
theorem callWith_type_kwB {pos : Pos} {T : String} {first : List Value} {args : List (Bool × Sem Value)} {keywords : List (Option Str × Sem Value)} {Q : Value → Shared → Prop}
    (hplain : args.any (·.1) = false) (hkw : keywords.any (·.1.isNone) = false)
    (h : wpAny M A (evalArgs (.type T) true args keywords) (fun a s₁ => wpAny M A (call (.type T) (first ++ a.pos) a.kw) Q E s₁) E s) :
    wpAny M A (callWith pos (.type T) first args keywords) Q E s := by
  unfold callWith
  refine wpAny_bind (wpAny_holding (wpAny_mono h (fun a s₁ h₁ => wpAny_bind (wpAny_standAt ?_)) fun _ _ x => x))
  simp only [hplain, hkw, Bool.or_false]
  refine wpAny_bind (wpAny_pure ?_)
  exact wpAny_bind (wpAny_mono h₁ (fun r s₂ hr => wpAny_bind (wpAny_holding (wpAny_point (wpAny_pure hr)))) fun _ _ x => x)
theorem callWith_type_kw {pos : Pos} {T : String} {e : Expr} {rest : List Expr} {kws : List Keyword} {Q : Value → Shared → Prop}
    (h : wpAny M A (spliced (backTo pos (starEach (e :: rest) env))) (fun vs s₁ => wpAny M A (evalAll ((backToKw pos (keywordEach kws env)).map (·.2)))
      (fun kvs s₂ => wpAny M A (call (.type T) vs (((backToKw pos (keywordEach kws env)).filterMap (·.1)).zip kvs)) Q E s₂) E s₁) E s)
    (he : backTo pos (starEach (e :: rest) env) = (false, eval e env) :: backTo pos (starEach rest env))
    (hplain : (backTo pos (starEach (e :: rest) env)).any (·.1) = false)
    (hall : (backToKw pos (keywordEach kws env)).all (·.1.isSome) = true)
    (hkw : (backToKw pos (keywordEach kws env)).any (·.1.isNone) = false) :
    wpAny M A (callWith pos (.type T) [] (backTo pos (starEach (e :: rest) env)) (backToKw pos (keywordEach kws env))) Q E s := by
  refine callWith_type_kwB hplain hkw ?_
  rw [he] at h ⊢
  exact evalArgs_kwB hall h
end
/-- the list at a as it stands at each turn, each item in a new pair, counted from k -/
def IteS (K : PySem.W.Frag) (a : Addr) (k : Int) : It :=
  ⟨fun i H => ∃ (xs : List V) (x : V), SqL K H a xs ∧ xs[i]? = some x, fun i H v H' => ∃ T x, v = .ref T ∧ H T = none ∧ H' = upd H T (.tup [.int (k + (i : Nat)), x]) ∧ ∀ xs, SqL K H a xs → xs[i]? = some x, fun i H => ∃ xs : List V, SqL K H a xs ∧ xs.length = i⟩
theorem turn_enumS {P : Program} {w : World} {K : PySem.W.Frag} {elts : List Expr} {kk : Nat} {tpos : Pos} (a e it : Addr) (k : Int) :
    Turn P w K (.Tuple elts kk tpos) (IteS K a k) [e, it] e (fun i h => (∃ old, IsEnum h e it (k + ((i : Nat) : Int)) old) ∧ h.IsListIter it a i ∧ e ≠ it ∧ e ≠ a ∧ a ≠ it) where
  mem := by simp
  obj := fun i h st b hb => by
    obtain ⟨⟨old, he⟩, ⟨o, ho, hc, hd⟩, _⟩ := st
    have e' : b = e ∨ b = it := by simpa using hb
    rcases e' with z | z
    · rw [z]; exact ⟨_, he, fun v q => nomatch q⟩
    · rw [z]; exact ⟨o, ho, fun v q => by rw [hd] at q; cases q⟩
  keep := fun i h h' st k => let ⟨⟨old, he⟩, hi, hne⟩ := st; ⟨⟨old, k e (by simp) _ he⟩, hi.at fun o q => k it (by simp) o q, hne⟩
  item := by
    intro X hP hw hK hc i pins s σ H E I hf st hg
    subst hP hw hK
    obtain ⟨⟨old, he⟩, hit, hne, hea, hai⟩ := st
    obtain ⟨xs, x, hq, hx⟩ := hg
    obtain ⟨its, rv, p, hz⟩ := I.list hq
    obtain ⟨u, hu, ru⟩ := rv.get hx
    have hel : e < s.heap.objs.size := Heap.lt_size he
    have hil : it < s.heap.objs.size := by obtain ⟨_, q, _⟩ := hit; exact Heap.lt_size q
    have D := Draws.list (prog := X.prog) (w := X.w) (A := X.A.in1) (I.ok.hd hc) it a hai its.toArray
    have hlt : i < its.toArray.size := by
      have := (List.getElem?_eq_some_iff.mp hu).1
      simpa using this
    refine wpAny_pyNext_enum_itemC D he ⟨hit, p.isList⟩ hlt hne (by simp [hne, hea]) fun u' h' tk hu' ho hst' hT hsz hk => ?_
    have euu : u' = u := by
      have z : its.toArray[i]? = some u := by simpa using hu
      rw [z] at hu'
      exact (Option.some.inj hu').symm
    subst euu
    refine ⟨_, rfl, wpAny_letOwnedTupleGo_enum (s := { s with heap := h', toks := tk + 1 }) ho fun h'' he' sb => ?_⟩
    have hT2 : h''.get? s.heap.objs.size = some { cls := .type "tuple", data := .seq #[.int (k + (i : Nat)) tk, u'] } := (sb.2 _ (Nat.ne_of_gt hel)).trans hT
    have new : ObjOk X.prog X.w (upd H s.heap.objs.size (.tup [.int (k + (i : Nat)), x])) h'' s.heap.objs.size (.tup [.int (k + (i : Nat)), x]) :=
      ⟨by show 2 ≤ sizeLine; decide, [.int (k + (i : Nat)) tk, u'], .cons ⟨_, rfl⟩ (.cons ru .nil), ⟨_, hT2, rfl, _, rfl⟩⟩
    have I1 : Inv X pins σ (upd H s.heap.objs.size (.tup [.int (k + (i : Nat)), x])) { s with heap := h'', toks := tk + 1 } :=
      I.turnedNew (ch := [e, it]) (fun b ob hb q => (sb.2 b (fun z => hb (by simp [z]))).trans (hk b ob (fun z => hb (by simp [z])) (fun z => hb (by simp [z])) q)) hf (Nat.le_refl _) new
    refine ⟨.ref s.heap.objs.size, _, I1, rfl, ⟨_, x, rfl, I.hok.fresh (Nat.le_refl _), rfl, fun ys hy => by rw [I.list_inj hy hq]; exact hx⟩, ⟨⟨u', ?_⟩, hst'.1.at fun o q => (sb.2 it (Ne.symm hne)).trans q, hne, hea, hai⟩, fun b hb => ?_⟩
    · have e1 : k + ((i + 1 : Nat) : Int) = k + (i : Int) + 1 := by omega
      rw [e1]; exact he'
    · have hb' : b < s.heap.objs.size := by
        have e' : b = e ∨ b = it := by simpa using hb
        rcases e' with z | z
        · rw [z]; exact hel
        · rw [z]; exact hil
      rw [upd_ne (Nat.ne_of_lt hb')]
      exact (hf b hb).1
  done := by
    intro X hP hw hK hc i pins s σ H E I hf st hg
    subst hP hw hK
    obtain ⟨⟨old, he⟩, hit, hne, hea, hai⟩ := st
    obtain ⟨xs, hq, hx⟩ := hg
    obtain ⟨its, rv, p, hz⟩ := I.list hq
    obtain ⟨f0, f1, f2, f3, f4, f5⟩ := hf it (by simp)
    have hl := rv.length
    have D := Draws.list (prog := X.prog) (w := X.w) (A := X.A.in1) (I.ok.hd hc) it a hai its.toArray
    have en : i = its.toArray.size := by rw [List.size_toArray]; omega
    subst en
    exact wpAny_pyNext_enum_endD D he ⟨hit, p.isList⟩ fun h' eb => ⟨rfl, I.turned (t' := s.toks) (fun b o hb q => eb b o hb q) f0 f1 f3 f4 f5⟩
  self := fun A i s Q E st h => let ⟨⟨_, he⟩, _⟩ := st; wpAny_pyIter_enum he h
def iEnumS (K : PySem.W.Frag) (ta : TA) (tk : TA) : TI := fun σ H R => ta σ H fun vs H1 => tk σ H1 fun zs H2 => ∃ a xs k, vs = [.ref a] ∧ zs = [.int k] ∧ -(2 ^ 63) ≤ k ∧ k < 2 ^ 63 ∧ SqL K H2 a xs ∧ R (IteS K a k) H2
theorem pi_enumS {X : Cx} {e e2 : Expr} {ta tk : TA} {p pos tpos kp : Pos} {elts : List Expr} {kk : Nat} (hg : Gl X "enumerate") (hm : X.mg "enumerate" = none) (ha : PA X [e] ta) (hkw : PK X [⟨some ("start" : Str), e2, kp⟩] tk)
    (he : backTo pos (starEach [e] X.env) = (false, eval e X.env) :: backTo pos (starEach [] X.env) := by rfl) (hpl : (backTo pos (starEach [e] X.env)).any (·.1) = false := by rfl)
    (hall : (backToKw pos (keywordEach [⟨some ("start" : Str), e2, kp⟩] X.env)).all (·.1.isSome) = true := by rfl) (hnone : (backToKw pos (keywordEach [⟨some ("start" : Str), e2, kp⟩] X.env)).any (·.1.isNone) = false := by rfl)
    (hks : (backToKw pos (keywordEach [⟨some ("start" : Str), e2, kp⟩] X.env)).filterMap (·.1) = [("start" : Str)] := by rfl) :
    PI X (.Tuple elts kk tpos) (.Call (.Name "enumerate" p) [e] [⟨some ("start" : Str), e2, kp⟩] pos) (iEnumS X.K ta tk) := by
  refine ⟨fun pins s σ H R I h => ?_⟩
  refine wpAny_Call_Name_kw (ld_blt I hg hm boot_enumerate (callWith_type_kw (thn (ha.run pos pins s σ H _ I h) fun us s0 ⟨vs, H0, I0, r0, q0⟩ => thn (hkw.run pos pins s0 σ H0 _ I0 q0) fun ws s1 ⟨zs, H1, I1, r2, q1⟩ => ?_) he hpl hall hnone))
  rw [hks]
  obtain ⟨a, xs, k, ex, ez, hk0, hk1, hq, q⟩ := q1
  subst ex ez
  cases r0 with
  | cons r rr =>
    cases rr
    cases r
    cases r2 with
    | cons r3 rr3 =>
      cases rr3
      obtain ⟨t, rfl⟩ := r3
      obtain ⟨its, rv, p', hz⟩ := I1.list hq
      have hal : a < s1.heap.objs.size := by obtain ⟨_, z, _⟩ := p'.isList; exact Heap.lt_size z
      refine enum_begins_start (begins_list a its.toArray) p'.isList hk0 hk1 fun h' he' hit hsz hk => wpAny_pyIter_enum he' ?_
      have I2 : Inv X pins σ H1 { s1 with heap := h' } := I1.kept (t' := s1.toks) hk
      refine ⟨s1.heap.objs.size + 1, [s1.heap.objs.size + 1, s1.heap.objs.size], _, _, H1, rfl, I2, turn_enumS a (s1.heap.objs.size + 1) s1.heap.objs.size k, ⟨⟨.none, ?_⟩, ⟨_, hit, rfl, ?_⟩, Nat.succ_ne_self _, Nat.ne_of_gt (Nat.lt_succ_of_lt hal), Nat.ne_of_lt hal⟩, fun b hb => ?_, q⟩
      · rw [show k + ((0 : Nat) : Int) = k by omega]
        exact he'
      · rfl
      · have e' : b = s1.heap.objs.size + 1 ∨ b = s1.heap.objs.size := by simpa using hb
        have hle : s1.heap.objs.size ≤ b := by
          rcases e' with z | z
          · rw [z]; exact Nat.le_add_right _ _
          · rw [z]; exact Nat.le_refl _
        exact I1.fpOk hle (I1.hok.fresh hle)
end RL
/-! ### a text times an int -/
namespace RL
open PySem PySem.Spec PyProof.Rows L2
def repS (z : Str) (k : Nat) : Str := ⟨(List.replicate k z.cps).foldl (· ++ ·) #[]⟩
theorem foldl_size : ∀ (l : List (Array Nat)) (a : Array Nat), (l.foldl (· ++ ·) a).toList = a.toList ++ (l.map Array.toList).flatten
  | [], a => by simp
  | x :: r, a => by
    rw [List.foldl_cons, foldl_size r (a ++ x), Array.toList_append, List.map_cons, List.flatten_cons, List.append_assoc]
theorem repS_tl (z : Str) (k : Nat) : TL.tl (repS z k) = (List.replicate k z.cps.toList).flatten := by
  show ((List.replicate k z.cps).foldl (· ++ ·) #[]).toList = _
  rw [foldl_size, List.map_replicate]
  rfl
theorem repS_len (z : Str) (k : Nat) : (repS z k).length = k * z.length := by
  show (repS z k).cps.size = _
  rw [← Array.length_toList]
  have h := repS_tl z k
  unfold TL.tl at h
  rw [h]
  simp [List.length_flatten]
  rfl
def rMulS : R2 := fun x y H Q => ∃ (z : Str) (k : Nat), x = .str z ∧ y = .int (k : Int) ∧ 2 ≤ k ∧ k ≤ 100000 ∧ 1 ≤ z.length ∧ z.length ≤ 100 ∧ Q (.str (repS z k)) H
theorem op_mulS {X : Cx} : OpR X (binaryOp .Mult) rMulS := by
  intro pins s σ H x y v u Q I rx ry h
  obtain ⟨z, k, rfl, rfl, hk, hk2, hz, hz2, q⟩ := h
  obtain ⟨t, rfl⟩ := rx
  obtain ⟨t', rfl⟩ := ry
  have hle : z.length * k ≤ 10000000 := by
    have h1 : z.length * k ≤ 100 * k := Nat.mul_le_mul_right k hz2
    omega
  have hno : ((((k : Nat) : Int) == 1) || z.length == 0) = false := by
    have h1 : (((k : Nat) : Int) == 1) = false := by
      apply beq_false_of_ne
      omega
    have h2 : (z.length == 0) = false := by
      apply beq_false_of_ne
      omega
    rw [h1, h2]; rfl
  refine PySem.P.mul_str ?_ ?_ ?_ ?_
  · have h1 : ¬ (k : Int) < -(2 ^ 63 : Int) := by omega
    have h2 : ¬ (k : Int) ≥ 2 ^ 63 := by omega
    rw [decide_eq_false h1, decide_eq_false h2]; rfl
  · intro _ _
    have h3 : (1000 : Int) ≤ (2 ^ 63 - 1) / (k : Int) := by
      rw [Int.le_ediv_iff_mul_le (by omega)]
      omega
    omega
  · intro _ _
    rw [Int.toNat_natCast]
    have hs : 10000000 ≤ sizeLine := by decide
    unfold Builtin.Str.tooLong
    exact decide_eq_false (by omega)
  · rw [if_neg (by omega), if_neg (by rw [hno]; decide)]
    rw [Int.toNat_natCast]
    have hl := repS_len z k
    have hs : 10000000 ≤ sizeLine := by decide
    have hc : k * z.length = z.length * k := Nat.mul_comm _ _
    refine ⟨?_, ⟨.str (repS z k), H, I.tok _, ⟨_, rfl⟩, q⟩⟩
    show (repS z k).length ≤ sizeLine
    omega
end RL

/-! ### Z: single steps of readings, for walking by with_reducible refine -/
namespace Z
open PySem L2
/-- all but what stands at M is as it was -/
def Kp (M : List Addr) (H H' : Hp) : Prop := ∀ b o, b ∉ M → H b = some o → H' b = some o
theorem Kp.refl {M : List Addr} (H : Hp) : Kp M H H := fun _ _ _ h => h
theorem Kp.trans {M : List Addr} {H H1 H2 : Hp} (a : Kp M H H1) (b : Kp M H1 H2) : Kp M H H2 := fun c o n h => b c o n (a c o n h)
theorem Kp.new {M : List Addr} {H : Hp} {p : Addr} {o : HO} (h : H p = none) : Kp M H (upd H p o) := fun b u _ e => by
  rw [upd_ne (ne_of_none e h)]
  exact e
theorem Kp.put {M : List Addr} {H : Hp} {p : Addr} {o : HO} (h : p ∈ M) : Kp M H (upd H p o) := fun b u n e => by
  rw [upd_ne (fun q => n (by rw [q]; exact h))]
  exact e
theorem Kp.sub {M M' : List Addr} {H H' : Hp} (a : Kp M H H') (h : ∀ x, x ∈ M → x ∈ M') : Kp M' H H' := fun b o n e => a b o (fun z => n (h b z)) e
theorem Kp.same {H H' : Hp} (a : Kp [] H H') : Same H H' := fun b o e => a b o (by simp) e
theorem Kp.of_same {M : List Addr} {H H' : Hp} (a : Same H H') : Kp M H H' := fun b o _ e => a b o e
theorem Kp.none {M : List Addr} {H H' : Hp} (a : Kp M H H') {p : Addr} (n : p ∉ M) (h : H' p = Option.none) : H p = Option.none := by
  cases q : H p with
  | none => rfl
  | some o =>
    rw [a p o n q] at h
    cases h
/-- what was not there may be forgotten from M -/
theorem Kp.drop {M : List Addr} {H H' : Hp} {p : Addr} (a : Kp (p :: M) H H') (h : H p = Option.none) : Kp M H H' := fun b o n e => a b o (by
  intro z
  rcases List.mem_cons.mp z with z | z
  · rw [z, h] at e
    cases e
  · exact n z) e
theorem Kp.get {M : List Addr} {H H' : Hp} (a : Kp M H H') {b : Addr} {o : HO} (n : b ∉ M) (e : H b = some o) : H' b = some o := a b o n e
theorem Kp.seq {M : List Addr} {K : PySem.W.Frag} {H H' : Hp} (e : Kp M H H') {a : Addr} {xs : List V} (n : a ∉ M) (h : SqL K H a xs) : SqL K H' a xs := by
  rcases h with (h | ⟨o, h⟩) | h
  · exact .inl (.inl (e _ _ n h))
  · exact .inl (.inr ⟨o, e _ _ n h⟩)
  · exact .inr h
theorem Kp.tup {M : List Addr} {K : PySem.W.Frag} {H H' : Hp} (e : Kp M H H') {a : Addr} {xs : List V} (n : a ∉ M) (h : SqT K H a xs) : SqT K H' a xs := by
  rcases h with (h | ⟨o, h⟩) | h
  · exact .inl (.inl (e _ _ n h))
  · exact .inl (.inr ⟨o, e _ _ n h⟩)
  · exact .inr h
/-- what H0 does not know may change -/
theorem Kp.mut {M : List Addr} {H0 H H' : Hp} {l : Addr} {o : HO} (a : Kp M H0 H) (h : H0 l = Option.none) (e : H' = upd H l o) : Kp M H0 H' := fun b u n z => by
  rw [e, upd_ne (ne_of_none z h)]
  exact a b u n z
theorem Kp.then1 {M : List Addr} {H0 H H' : Hp} {l : Addr} (a : Kp M H0 H) (b : Kp [l] H H') (h : H0 l = Option.none) : Kp M H0 H' := fun c o n e => b c o (by
  intro z
  rw [List.mem_singleton.mp z, h] at e
  cases e) (a c o n e)
/-- a new instance and its dict -/
theorem Kp.made {M : List Addr} {H : Hp} {x dx : Addr} {o u : HO} (nx : H x = Option.none) (nd : H dx = Option.none) : Kp M H (upd (upd H dx u) x o) := fun c o n e => by
  rw [upd_ne (ne_of_none e nx), upd_ne (ne_of_none e nd)]
  exact e
theorem none2 {H : Hp} {x dx l : Addr} {o u : HO} (h : upd (upd H dx u) x o l = Option.none) : H l = Option.none := by
  unfold upd at h
  split at h
  · cases h
  · split at h
    · cases h
    · exact h
theorem nin1 {a b : Addr} (h : b ≠ a) : b ∉ [a] := by simpa using h
theorem nin0 {b : Addr} : b ∉ ([] : List Addr) := by simp
theorem lstL {K : PySem.W.Frag} {H : Hp} {a : Addr} {xs : List V} (h : H a = some (.lst xs)) : SqL K H a xs := .inl (.inl h)
theorem tupT {K : PySem.W.Frag} {H : Hp} {a : Addr} {xs : List V} (h : H a = some (.tup xs)) : SqT K H a xs := .inl (.inl h)

theorem cxK {CX : CXT} {P : Program} {w : World} {K : PySem.W.Frag} {mg : Str → Option Value} {base : Heap} {N : List Str} {qual : Str} {scope : Scope} {f : Addr} {cd : Value} {A : Around} {outer : List Env} {s : Shared} {H : Hp} {E : XK} : (cxOf CX P w K mg base N qual scope f cd A outer s H E).K = K := rfl
/-! named readings of rules -/
def rLenN (K : PySem.W.Frag) : List V → Hp → VK → Prop := fun xs H Q => ∃ p ys, xs = [.ref p] ∧ (SqL K H p ys ∨ SqT K H p ys) ∧ Q (.int ys.length) H
theorem c_len {X : Cx} : CallR X (.builtin "len") (rLenN X.K) := call_len_seq
def rListN (K : PySem.W.Frag) : List V → Hp → VK → Prop := fun xs H Q => ∃ p ys, xs = [.ref p] ∧ (SqL K H p ys ∨ SqT K H p ys) ∧ ∀ l, H l = none → Q (.ref l) (upd H l (.lst ys))
theorem c_list {X : Cx} : CallR X (.type "list") (rListN X.K) := call_list_of
def rTupN (K : PySem.W.Frag) : List V → Hp → VK → Prop := fun xs H Q => ∃ p ys, xs = [.ref p] ∧ ((SqL K H p ys ∧ ∀ l, H l = none → Q (.ref l) (upd H l (.tup ys))) ∨ (SqT K H p ys ∧ Q (.ref p) H))
theorem c_tuple {X : Cx} : CallR X (.type "tuple") (rTupN X.K) := call_tuple_of
def rInt1 : List V → Hp → VK → Prop := fun xs H Q => (∃ i, xs = [.int i] ∧ Q (.int i) H) ∨ ∃ k, xs = [.bl k] ∧ Q (.int (if k then 1 else 0)) H
theorem c_int {X : Cx} : CallR X (.type "int") rInt1 := call_int1
def rAbs : List V → Hp → VK → Prop := fun xs H Q => ∃ i, xs = [.int i] ∧ Q (.int (if i < 0 then -i else i)) H
theorem c_abs {X : Cx} : CallR X (.builtin "abs") rAbs := call_abs
def rIsN : R2 := fun x y H Q => y = .non ∧ Q (.bl (decide (x = .non))) H
theorem o_isN {X : Cx} : OpR X (compareOp .Is) rIsN := op_isN
def rNotN : R2 := fun x y H Q => y = .non ∧ Q (.bl (!decide (x = .non))) H
theorem o_notN {X : Cx} : OpR X (compareOp .IsNot) rNotN := op_notN
def rAddS : R2 := fun x y H Q => ∃ i j, x = .str i ∧ y = .str j ∧ i.length + j.length ≤ sizeLine ∧ Q (.str (i ++ j)) H
theorem o_addS {X : Cx} : OpR X (binaryOp .Add) rAddS := op_add_str
def rInSg : R2 := fun x y H Q => ∃ (c : Nat) (z : Str), x = .str ⟨#[c]⟩ ∧ y = .str z ∧ Q (.bl (decide (c ∈ z.cps.toList))) H
theorem o_inSg {X : Cx} : OpR X (compareOp .In) rInSg := op_in_sign
def rNinSg : R2 := fun x y H Q => ∃ (c : Nat) (z : Str), x = .str ⟨#[c]⟩ ∧ y = .str z ∧ Q (.bl (!decide (c ∈ z.cps.toList))) H
theorem o_ninSg {X : Cx} : OpR X (compareOp .NotIn) rNinSg := op_notIn_sign
/-- // by a divisor of any sign -/
def CDivA (_ j : Int) : Prop := j ≠ 0 ∧ j.natAbs.log2 < 9000
theorem op_fdivA {X : Cx} : OpR X (binaryOp .FloorDiv) (rI CDivA fun i j => .int (i.fdiv j)) := opI fun i j _ _ _ _ _ hc q => PyProof.Rows.floordiv_int hc.1 q (.inl (PyProof.noPylong_of_log2 hc.2))
theorem divA {i j : Int} {b : Nat} (h : j ≠ 0) (hb : j.natAbs < 2 ^ b) (h0 : 0 < b) (h9 : b ≤ 9000) : CDivA i j := ⟨h, Nat.lt_of_lt_of_le (PySem.Flt.log2_lt_of h0 hb) h9⟩
def rLenS : List V → Hp → VK → Prop := fun xs H Q => ∃ x : Str, xs = [.str x] ∧ x.cps.size ≤ 10000000 ∧ Q (.int (x.cps.size : Nat)) H
theorem c_lens {X : Cx} : CallR X (.builtin "len") rLenS := fun pins s σ H xs us Q I r h => call_len pins s σ H xs us Q I r (by obtain ⟨x, rfl, hz, q⟩ := h; exact ⟨.str x, _, rfl, ⟨Nat.le_trans hz (by decide), rfl⟩, q⟩)
def rPopQ : V → List V → Hp → VK → Prop := rPop
section
variable {σ : St} {H : Hp} {Q : VK} {v x y : V} {ta tb tc te : TE} {tA : TT} {D : Ends} {t u ts : TS} {r : R2} {K : PySem.W.Frag} {i : Nat} {A B : Prop}
/-! values -/
theorem var (h : σ[i]? = some (some v)) (q : Q v H) : tVar i σ H Q := ⟨v, h, q⟩
theorem cst (q : Q v H) : tC v σ H Q := q
theorem op (h : ta σ H fun x H1 => tb σ H1 fun y H2 => r x y H2 Q) : tOp r ta tb σ H Q := h
theorem un {r : V → Hp → VK → Prop} (h : ta σ H fun x H1 => r x H1 Q) : tUn r ta σ H Q := h
theorem i0 {g : Int → Int → V} {a b : Int} (q : Q (g a b) H) : rI0 g (.int a) (.int b) H Q := ⟨a, b, rfl, rfl, q⟩
theorem iC {C : Int → Int → Prop} {g : Int → Int → V} {a b : Int} (c : C a b) (q : Q (g a b) H) : rI C g (.int a) (.int b) H Q := ⟨a, b, rfl, rfl, c, q⟩
theorem iU {g : Int → V} {a : Int} (q : Q (g a) H) : rU g (.int a) H Q := ⟨a, rfl, q⟩
theorem eqII {a b : Int} (q : Q (.bl (decide (a = b))) H) : rEq (.int a) (.int b) H Q := ⟨rfl, by
  have e : decide (V.int a = V.int b) = decide (a = b) := by simp
  rw [e]; exact q⟩
theorem neII {a b : Int} (q : Q (.bl (!decide (a = b))) H) : rNe (.int a) (.int b) H Q := ⟨rfl, by
  have e : decide (V.int a = V.int b) = decide (a = b) := by simp
  rw [e]; exact q⟩
theorem eqSS {a b : Str} (q : Q (.bl (decide (a = b))) H) : rEq (.str a) (.str b) H Q := ⟨rfl, by
  have e : decide (V.str a = V.str b) = decide (a = b) := by simp
  rw [e]; exact q⟩
theorem neSS {a b : Str} (q : Q (.bl (!decide (a = b))) H) : rNe (.str a) (.str b) H Q := ⟨rfl, by
  have e : decide (V.str a = V.str b) = decide (a = b) := by simp
  rw [e]; exact q⟩
theorem eqBB {a b : Bool} (q : Q (.bl (decide (a = b))) H) : rEq (.bl a) (.bl b) H Q := ⟨rfl, by
  have e : decide (V.bl a = V.bl b) = decide (a = b) := by simp
  rw [e]; exact q⟩
theorem neBB {a b : Bool} (q : Q (.bl (!decide (a = b))) H) : rNe (.bl a) (.bl b) H Q := ⟨rfl, by
  have e : decide (V.bl a = V.bl b) = decide (a = b) := by simp
  rw [e]; exact q⟩
theorem bl {b : Bool} {q : Bool → Hp → Prop} (h : q b H) : ∃ k, V.bl b = .bl k ∧ q k H := ⟨b, rfl, h⟩
theorem bl' {b : Bool} {q : Bool → Prop} (h : q b) : ∃ k, V.bl b = .bl k ∧ q k := ⟨b, rfl, h⟩
theorem test {Q : Bool → Hp → Prop} (h : te σ H fun x H' => ∃ k, x = .bl k ∧ Q k H') : tTest te σ H Q := h
theorem tbb {Q : Bool → Hp → Prop} (h : te σ H fun x H' => ∃ k, x = .bl k ∧ Q k H') : tB te σ H Q := h
theorem tand {a b : TT} {Q : Bool → Hp → Prop} (h : a σ H fun c H1 => if c = true then b σ H1 Q else Q false H1) : tAnd a b σ H Q := h
theorem tor {a b : TT} {Q : Bool → Hp → Prop} (h : a σ H fun c H1 => if c = true then Q true H1 else b σ H1 Q) : tOr a b σ H Q := h
theorem tnot {a : TT} {Q : Bool → Hp → Prop} (h : a σ H fun c H1 => Q (!c) H1) : tNot a σ H Q := h
theorem tyes {Q : Bool → Hp → Prop} (h : Q true H) : tYes σ H Q := h
theorem andV (h : ta σ H fun x H1 => ∃ c, x = .bl c ∧ if c = true then tb σ H1 Q else Q (.bl false) H1) : tAndV ta tb σ H Q := h
theorem orV (h : ta σ H fun x H1 => ∃ c, x = .bl c ∧ if c = true then Q (.bl true) H1 else tb σ H1 Q) : tOrV ta tb σ H Q := h
theorem notV (h : ta σ H fun x H1 => ∃ c, x = .bl c ∧ Q (.bl (!c)) H1) : tNotV ta σ H Q := h
theorem ifE (h : tA σ H fun c H1 => if c = true then ta σ H1 Q else tb σ H1 Q) : L2.tIf tA ta tb σ H Q := h
theorem chain {r r' : R2} (h : ta σ H fun x H1 => tb σ H1 fun y H2 => r x y H2 fun z H3 => ∃ k, z = .bl k ∧ (if k = true then tc σ H3 fun w' H4 => r' y w' H4 Q else Q (.bl false) H3)) : tChain r r' ta tb tc σ H Q := h
/-! branches -/
theorem ite {p : Prop} [Decidable p] (h1 : p → A) (h2 : ¬p → B) : if decide p = true then A else B := by
  by_cases h : p
  · rw [decide_eq_true h, if_pos rfl]; exact h1 h
  · rw [decide_eq_false h, if_neg Bool.false_ne_true]; exact h2 h
theorem iteN {p : Prop} [Decidable p] (h1 : ¬p → A) (h2 : p → B) : if (!decide p) = true then A else B := by
  by_cases h : p
  · rw [decide_eq_true h]; exact h2 h
  · rw [decide_eq_false h]; exact h1 h
theorem iteB {b : Bool} (h1 : b = true → A) (h2 : b = false → B) : if b = true then A else B := by
  cases b with
  | true => exact h1 rfl
  | false => exact h2 rfl
theorem yes {p : Prop} [Decidable p] (h : p) (q : A) : if decide p = true then A else B := by rw [decide_eq_true h, if_pos rfl]; exact q
theorem no {p : Prop} [Decidable p] (h : ¬p) (q : B) : if decide p = true then A else B := by rw [decide_eq_false h, if_neg Bool.false_ne_true]; exact q
theorem yesN {p : Prop} [Decidable p] (h : ¬p) (q : A) : if (!decide p) = true then A else B := by rw [decide_eq_false h]; exact q
theorem noN {p : Prop} [Decidable p] (h : p) (q : B) : if (!decide p) = true then A else B := by rw [decide_eq_true h]; exact q
theorem yesB (q : A) : if true = true then A else B := q
theorem noNB (q : B) : if (!true) = true then A else B := q
theorem yesNB (q : A) : if (!false) = true then A else B := q
theorem noB (q : B) : if false = true then A else B := q
/-! calls -/
theorem nil {Q : List V → Hp → Prop} (q : Q [] H) : tNil σ H Q := q
theorem cons {Q : List V → Hp → Prop} {tr : TA} (h : ta σ H fun x H1 => tr σ H1 fun xs H2 => Q (x :: xs) H2) : tCons ta tr σ H Q := h
theorem cb {r : List V → Hp → VK → Prop} {a : TA} (h : a σ H fun vs H1 => r vs H1 Q) : tCB r a σ H Q := h
theorem call {sp : Sp} {dvs : List V} {E : XK} {a : TA} (h : a σ H fun vs H1 => sp (vs ++ dvs) H1 Q E) : tCall sp dvs E a σ H Q := h
theorem meth {C : Addr} {m : Str} {sp : Sp} {dvs : List V} {E : XK} {a : TA} (h : ta σ H fun x H1 => ∃ p dx fs, x = .ref p ∧ H1 p = some (.ins C dx fs) ∧ fs.lookup m = none ∧ a σ H1 fun vs H2 => sp (x :: (vs ++ dvs)) H2 Q E) : tMeth C m sp dvs E ta a σ H Q := h
theorem fld {f : Str} (h : ta σ H fun x H1 => ∃ a C dx fs v, x = .ref a ∧ H1 a = some (.ins C dx fs) ∧ Cls K C ∧ NoAttr K C f ∧ fs.lookup f = some v ∧ Q v H1) : tFld K ta f σ H Q := h
theorem int1 {a : Int} (q : Q (.int a) H) : rInt1 [.int a] H Q := .inl ⟨a, rfl, q⟩
theorem intb {b : Bool} (q : Q (.int (if b then 1 else 0)) H) : rInt1 [.bl b] H Q := .inr ⟨b, rfl, q⟩
theorem abs1 {a : Int} (q : Q (.int (if a < 0 then -a else a)) H) : rAbs [.int a] H Q := ⟨a, rfl, q⟩
theorem isN (q : Q (.bl (decide (x = .non))) H) : rIsN x .non H Q := ⟨rfl, q⟩
theorem notN (q : Q (.bl (!decide (x = .non))) H) : rNotN x .non H Q := ⟨rfl, q⟩
theorem addS {a b : Str} (h : a.length + b.length ≤ sizeLine) (q : Q (.str (a ++ b)) H) : rAddS (.str a) (.str b) H Q := ⟨a, b, rfl, rfl, h, q⟩
theorem inSg {c : Nat} {z : Str} (q : Q (.bl (decide (c ∈ z.cps.toList))) H) : rInSg (.str ⟨#[c]⟩) (.str z) H Q := ⟨c, z, rfl, rfl, q⟩
theorem ninSg {c : Nat} {z : Str} (q : Q (.bl (!decide (c ∈ z.cps.toList))) H) : rNinSg (.str ⟨#[c]⟩) (.str z) H Q := ⟨c, z, rfl, rfl, q⟩
/-- a new object -/
theorem new {o : HO} (h : ∀ p, H p = none → Q (.ref p) (upd H p o)) : ∀ p, H p = none → Q (.ref p) (upd H p o) := h
def TupN (Q : VK) (xs : List V) (H1 : Hp) : Prop := xs.length ≤ sizeLine ∧ ∀ p, H1 p = none → Q (.ref p) (upd H1 p (.tup xs))
def LstN (Q : VK) (xs : List V) (H1 : Hp) : Prop := xs.length ≤ sizeLine ∧ ∀ p, H1 p = none → Q (.ref p) (upd H1 p (.lst xs))
theorem tup {a : TA} (h : a σ H (TupN Q)) : tTup a σ H Q := h
theorem lst {a : TA} (h : a σ H (LstN Q)) : tLst a σ H Q := h
/-- a new object, the heap behind it a letter -/
theorem mk {o : HO} {H0 : Hp} {R : Addr → Hp → Prop} (h : ∀ p H1, H0 p = none → Kp [] H0 H1 → H1 p = some o → R p H1) : ∀ p, H0 p = none → R p (upd H0 p o) := fun p n => h p _ n (Kp.new n) upd_same
theorem tupK {xs : List V} (q : ∀ p H1, H p = none → Kp [] H H1 → H1 p = some (.tup xs) → Q (.ref p) H1) (h : xs.length ≤ 100000 := by simp) : TupN Q xs H := ⟨Nat.le_trans h (by decide), mk q⟩
theorem lstK {xs : List V} (q : ∀ p H1, H p = none → Kp [] H H1 → H1 p = some (.lst xs) → Q (.ref p) H1) (h : xs.length ≤ 100000 := by simp) : LstN Q xs H := ⟨Nat.le_trans h (by decide), mk q⟩
theorem sz {n m : Nat} (h : n ≤ m) (hm : m ≤ 10000000 := by decide) : n ≤ sizeLine := Nat.le_trans h (Nat.le_trans hm (by decide))
theorem szl {n m : Nat} (h : n ≤ m) (hm : m ≤ 10000000 := by decide) : n < sizeLine := Nat.lt_of_le_of_lt (Nat.le_trans h hm) (by decide)
/-! subscripts -/
theorem ixL {p : Addr} {xs : List V} {j : Int} (h : SqL K H p xs) (e : atI xs j = some v) (q : Q v H) : rIxL K (.ref p) (.int j) H Q := ⟨p, xs, j, v, rfl, rfl, h, e, q⟩
theorem ixT {p : Addr} {xs : List V} {j : Int} (h : SqT K H p xs) (e : atI xs j = some v) (q : Q v H) : rIxT K (.ref p) (.int j) H Q := ⟨p, xs, j, v, rfl, rfl, h, e, q⟩
theorem setL {p : Addr} {xs : List V} {k : Int} {j : Nat} {v : V} {q : Hp → Prop} (h : H p = some (.lst xs)) (e : ixN xs.length k = some j) (hq : q (upd H p (.lst (xs.set j v)))) : rSetL (.ref p) (.int k) v H q := ⟨p, xs, k, j, rfl, rfl, h, e, hq⟩
theorem gsub {to ti : TE} {t : TSet} {Q : St → Hp → Prop} (h : to σ H fun o H1 => ti σ H1 fun i H2 => t o i v H2 fun H3 => Q σ H3) : gSub to ti t v σ H Q := h
/-! statements -/
/-- a statement whose ways join ahead of the rest -/
def tSeqJ (t u : TS) : TS := tSeq t u
theorem pss_consJ {X : Cx} {st : Stmt} {rest : List Stmt} {t u : TS} (h1 : PS X st t) (h2 : PSs X rest u) : PSs X (st :: rest) (tSeqJ t u) := pss_cons h1 h2
theorem seqJ (J : St → Hp → Prop) (h2 : ∀ σ H, J σ H → u D σ H) (h1 : ∀ N : St → Hp → Prop, (∀ σ H, J σ H → N σ H) → t { D with nx := N } σ H) : tSeqJ t u D σ H := h1 (u D) h2
theorem seqJ' (h : tSeq t u D σ H) : tSeqJ t u D σ H := h
theorem seq (h : t { D with nx := u D } σ H) : tSeq t u D σ H := h
theorem asg {g : TG} (h : te σ H fun x H1 => g x σ H1 D.nx) : tAsg te g D σ H := h
theorem gname {Q : St → Hp → Prop} {σ' : St} (e : σ.set i (some v) = σ') (h : Q σ' H) : gName i v σ H Q := by
  subst e; exact h
def ParK (i j : Nat) (D : Ends) (σ : St) (vs : List V) (H1 : Hp) : Prop := ∃ v w, vs = [v, w] ∧ D.nx ((σ.set i (some v)).set j (some w)) H1
theorem par {i j : Nat} {a : TA} (h : a σ H (ParK i j D σ)) : tPar i j a D σ H := h
theorem par2 {i j : Nat} {v w : V} {σ' : St} (e : (σ.set i (some v)).set j (some w) = σ') (h : D.nx σ' H) : ParK i j D σ [v, w] H := ⟨v, w, rfl, by rw [e]; exact h⟩
theorem aug {ti : TIp} {x : V} (e : σ[i]? = some (some x)) (h : te σ H fun y H1 => ti x y H1 fun z H2 => D.nx (σ.set i (some z)) H2) : tAug i te ti D σ H := ⟨x, e, h⟩
theorem ipI' {f : Int → Int → Int} {a b : Int} (q : Q (.int (f a b)) H) : ipI f (.int a) (.int b) H Q := ⟨a, b, rfl, rfl, q⟩
theorem ifs {c : TT} (h : c σ H fun b H1 => if b = true then t D σ H1 else u D σ H1) : tIfS c t u D σ H := h
theorem ret (h : te σ H D.rt) : tRet te D σ H := h
theorem retN (h : D.rt .non H) : tRetN D σ H := h
theorem next (h : D.nx σ H) : tNext D σ H := h
theorem brk (h : D.bk σ H) : tBreak D σ H := h
theorem drop (h : te σ H fun _ H1 => D.nx σ H1) : tDrop te D σ H := h
theorem bm {T : String} {r : V → List V → Hp → VK → Prop} {to : TE} {a : TA} (h : to σ H fun x H1 => tyV K T x H1 ∧ a σ H1 fun xs H2 => r x xs H2 Q) : tBM K T r to a σ H Q := h
theorem bm0 {T : String} {r : V → List V → Hp → VK → Prop} {to : TE} (h : to σ H fun x H1 => tyV K T x H1 ∧ r x [] H1 Q) : tBM0 K T r to σ H Q := h
theorem app {l : Addr} {xs : List V} {y : V} (h : H l = some (.lst xs)) (z : xs.length < sizeLine) (q : Q .non (upd H l (.lst (xs ++ [y])))) : rAppend (.ref l) [y] H Q := ⟨l, xs, y, rfl, rfl, h, z, q⟩
theorem tyL {p : Addr} {xs : List V} (h : H p = some (.lst xs)) : tyV K "list" (.ref p) H := .inl ⟨rfl, _, SqL.of h⟩
theorem sfld {tv : TE} {f : Str} (h : tv σ H fun y H1 => ta σ H1 fun x H2 => ∃ a C dx fs, x = .ref a ∧ H2 a = some (.ins C dx fs) ∧ Cls K C ∧ NoAttr K C f ∧ fs.length < 1000 ∧ D.nx σ (upd H2 a (.ins C dx (putF f y fs)))) : sFld K ta tv f D σ H := h
theorem sfldaug {tv : TE} {rd : V → V → Hp → VK → Prop} {f : Str} (h : ta σ H fun x H1 => ∃ a C dx fs v, x = .ref a ∧ H1 a = some (.ins C dx fs) ∧ Cls K C ∧ NoAttr K C f ∧ fs.lookup f = some v ∧ tv σ H1 fun y H2 => rd v y H2 fun z H3 => ∃ dx' fs', H3 a = some (.ins C dx' fs') ∧ fs'.length < 1000 ∧ D.nx σ (upd H3 a (.ins C dx' (putF f z fs')))) : sFldAug K ta tv rd f D σ H := h
theorem radd {a b : Int} (q : Q (.int (a + b)) H) : rAdd (.int a) (.int b) H Q := ⟨a, b, rfl, rfl, q⟩
theorem make {C : Addr} {sp : Sp} {dvs : List V} {E : XK} {a : TA} (h : a σ H fun vs H1 => ∀ x dx, H1 x = none → H1 dx = none → dx ≠ x → sp (.ref x :: (vs ++ dvs)) (upd (upd H1 dx (.own x)) x (.ins C dx [])) (fun v H2 => v = .non ∧ Q (.ref x) H2) E) : tMake C sp dvs E a σ H Q := h
/-- while -/
def WhB (W : Nat → St → Hp → Prop) (m : Nat) (tb : TS) (D : Ends) (σ : St) (H1 : Hp) : Prop := ∃ N : St → Hp → Prop, (∀ σ' H', N σ' H' → ∃ m', m' < m ∧ W m' σ' H') ∧ tb { D with nx := N, ct := N, bk := D.nx } σ H1
theorem whb {W : Nat → St → Hp → Prop} {m : Nat} {tb : TS} (h : tb { D with nx := fun σ' H' => ∃ m', m' < m ∧ W m' σ' H', ct := fun σ' H' => ∃ m', m' < m ∧ W m' σ' H', bk := D.nx } σ H) : WhB W m tb D σ H := ⟨_, fun _ _ z => z, h⟩
theorem wh {c : TT} {tb : TS} (W : Nat → St → Hp → Prop) (m : Nat) (h0 : W m σ H) (hs : ∀ m σ H, W m σ H → c σ H fun b H1 => if b = true then WhB W m tb D σ H1 else D.nx σ H1) : tWhile c tb D σ H := ⟨W, ⟨m, h0⟩, hs⟩
/-- calls by values -/
theorem sumL {a : Addr} {ns : List Int} (h : SqL K H a (ns.map V.int)) (q : Q (.int ns.sum) H) : rSum K [.ref a] H Q := ⟨a, ns, rfl, h, q⟩
theorem gcd {a b : Int} (q : Q (.int ((Nat.gcd a.natAbs b.natAbs : Nat) : Int)) H) : rGcd [.int a, .int b] H Q := ⟨a, b, rfl, q⟩
theorem mkN {C : Addr} {sp : Sp} {Q : XK} (h : ∀ a, H a = none → sp [.ref a] (upd H a (exo a C none)) (fun v H2 => v = .non ∧ H2 a = some (exo a C none) ∧ Q (.ref C) none (del H2 a)) (fun _ _ _ => False)) : Sup.tMkN C sp σ H Q := h
theorem gtup {n : Nat} {t : TGs} {a : Addr} {xs : List V} {Q : St → Hp → Prop} (h : SqT K H a xs) (e : xs.length = n) (q : t xs σ H Q) : gTup K n t (.ref a) σ H Q := ⟨a, xs, rfl, h, e, q⟩
theorem gcons {t : TG} {u : TGs} {v : V} {r : List V} {Q : St → Hp → Prop} (q : t v σ H fun σ' H' => u r σ' H' Q) : gCons t u (v :: r) σ H Q := ⟨v, r, rfl, q⟩
theorem gnil {Q : St → Hp → Prop} (q : Q σ H) : gNil [] σ H Q := ⟨rfl, q⟩
theorem lenL {a : Addr} {xs : List V} (h : SqL K H a xs) (q : Q (.int xs.length) H) : rLenN K [.ref a] H Q := ⟨a, xs, rfl, .inl h, q⟩
theorem lenT {a : Addr} {xs : List V} (h : SqT K H a xs) (q : Q (.int xs.length) H) : rLenN K [.ref a] H Q := ⟨a, xs, rfl, .inr h, q⟩
theorem listL {a : Addr} {xs : List V} (h : SqL K H a xs) (q : ∀ p H1, H p = none → Kp [] H H1 → H1 p = some (.lst xs) → Q (.ref p) H1) : rListN K [.ref a] H Q := ⟨a, xs, rfl, .inl h, mk q⟩
theorem isi {A B : String} {x : V} {b : Bool} (ht : TyX K H x (.type A)) (hk : kitB A B = some b) (q : Q (.bl b) H) : rIsi K [x, .ty B] H Q := ⟨x, _, _, _, b, rfl, .ty _, ht, kit_ty hk, q⟩
theorem isiI {B : String} {a : Int} {b : Bool} (hk : kitB "int" B = some b) (q : Q (.bl b) H) : rIsi K [.int a, .ty B] H Q := isi (.base (.int _)) hk q
theorem atM {ns : List Int} {j : Nat} {x : Int} (h : ns[j]? = some x) : atI (ns.map V.int) (j : Int) = some (.int x) := atI_nat (by rw [List.getElem?_map, h]; rfl)
theorem ixN_nat {n j : Nat} (hj : j < n) : ixN n (j : Int) = some j := by
  unfold ixN
  rw [if_pos (by omega), if_pos (by omega)]
  simp
/-- a comprehension, a loop over range(n), over a list -/
def ForK (g : TG) (tb : TS) (D : Ends) (σ : St) (J : It) (H1 : Hp) : Prop := ∃ W : Nat → Nat → St → Hp → Prop, (∃ m, W 0 m σ H1) ∧ ∀ i m σ H, W i m σ H →
  (J.stop i H ∧ D.nx σ H) ∨ (J.go i H ∧ ∃ N : St → Hp → Prop, (∀ σ' H', N σ' H' → ∃ m', m' < m ∧ W (i + 1) m' σ' H') ∧ ∀ x H', J.yld i H x H' → g x σ H' fun σ2 H2 => tb { D with nx := N, ct := N, bk := D.nx } σ2 H2)
def LcK (g : TG) (tt : TT) (te : TE) (vs : List Nat) (σ : St) (Q : VK) (J : It) (H1 : Hp) : Prop := ∀ D, H1 D = none → ∃ W : Nat → Nat → Hp → Prop, (∃ m, W 0 m (upd H1 D (.lst []))) ∧ ∀ i m H, W i m H →
      (J.stop i H ∧ Q (.ref D) H) ∨ (J.go i H ∧ ∃ Nx : Hp → Prop, (∀ H', Nx H' → ∃ m', m' < m ∧ W (i + 1) m' H') ∧ ∀ x H', J.yld i H x H' → g x (wipe σ vs) H' fun σ2 H2 => wipe σ2 vs = wipe σ vs ∧ tt σ2 H2 fun b H3 => if b = true then te σ2 H3 fun y H4 => ∃ acc, H4 D = some (.lst acc) ∧ acc.length < sizeLine ∧ Nx (upd H4 D (.lst (acc ++ [y]))) else Nx H3)
def Rng1K (R : It → Hp → Prop) (vs : List V) (H1 : Hp) : Prop := ∃ j : Int, vs = [.int j] ∧ -(2 ^ 62) ≤ j ∧ j < 2 ^ 62 ∧ R (Itr 0 j.toNat) H1
def ListK (K : PySem.W.Frag) (R : It → Hp → Prop) (x : V) (H1 : Hp) : Prop := ∃ a, x = .ref a ∧ (∃ xs, SqL K H1 a xs) ∧ R (Itl K a) H1
theorem lc {wi : TI} {g : TG} {tt : TT} {vs : List Nat} (h : wi σ H (LcK g tt te vs σ Q)) : tLc wi g tt te vs σ H Q := h
theorem rng1 {a : TA} {R : It → Hp → Prop} (h : a σ H (Rng1K R)) : iRng1 a σ H R := h
theorem ilist {R : It → Hp → Prop} (h : ta σ H (ListK K R)) : iList K ta σ H R := h
theorem for_ {wi : TI} {g : TG} {tb : TS} (h : wi σ H (ForK g tb D σ)) : tFor wi g tb D σ H := h
/-- what one turn of a comprehension asks -/
def LcT (g : TG) (tt : TT) (te : TE) (vs : List Nat) (σ : St) (D : Addr) (P : Hp → Prop) (x : V) (H1 : Hp) : Prop := g x (wipe σ vs) H1 fun σ2 H2 => wipe σ2 vs = wipe σ vs ∧ tt σ2 H2 fun b H3 => if b = true then te σ2 H3 fun y H4 => ∃ acc, H4 D = some (.lst acc) ∧ acc.length < sizeLine ∧ P (upd H4 D (.lst (acc ++ [y]))) else P H3
theorem lcr {g : TG} {tt : TT} {vs : List Nat} {e : Int} (n : Nat) (he : e = (n : Int)) (hb : n < 4611686018427387904) (Pv : Addr → Nat → Hp → Prop) (h0 : ∀ D H1, H D = none → Kp [] H H1 → H1 D = some (.lst []) → Pv D 0 H1)
    (hs : ∀ D i H1, H D = none → i < n → Pv D i H1 → g (.int (i : Int)) (wipe σ vs) H1 fun σ2 H2 => wipe σ2 vs = wipe σ vs ∧ tt σ2 H2 fun b H3 => if b = true then te σ2 H3 fun y H4 => ∃ acc, H4 D = some (.lst acc) ∧ acc.length < sizeLine ∧ Pv D (i + 1) (upd H4 D (.lst (acc ++ [y]))) else Pv D (i + 1) H3)
    (hd : ∀ D H1, H D = none → Pv D n H1 → Q (.ref D) H1) : Rng1K (LcK g tt te vs σ Q) [.int e] H := by
  subst he
  refine ⟨(n : Int), rfl, by omega, by omega, fun D hD => ?_⟩
  rw [show ((n : Int)).toNat = n by simp]
  refine lc_range (lo := 0) (n := n) (Pv D) (h0 D _ hD (Kp.new hD) upd_same) (fun i H1 hi p => ?_) fun H1 p => hd D H1 hD p
  rw [show (0 : Int) + (i : Int) = (i : Int) by omega]
  exact hs D i H1 hD hi p
theorem lcl {g : TG} {tt : TT} {vs : List Nat} {a : Addr} (xs : List V) (hS : SqL K H a xs) (Pv : Addr → Nat → Hp → Prop) (h0 : ∀ D H1, H D = none → Kp [] H H1 → H1 D = some (.lst []) → Pv D 0 H1)
    (hl : ∀ D i H1, H D = none → i ≤ xs.length → Pv D i H1 → SqL K H1 a xs)
    (hs : ∀ D i x H1, H D = none → xs[i]? = some x → Pv D i H1 → g x (wipe σ vs) H1 fun σ2 H2 => wipe σ2 vs = wipe σ vs ∧ tt σ2 H2 fun b H3 => if b = true then te σ2 H3 fun y H4 => ∃ acc, H4 D = some (.lst acc) ∧ acc.length < sizeLine ∧ Pv D (i + 1) (upd H4 D (.lst (acc ++ [y]))) else Pv D (i + 1) H3)
    (hd : ∀ D H1, H D = none → Pv D xs.length H1 → Q (.ref D) H1) : ListK K (LcK g tt te vs σ Q) (.ref a) H :=
  ⟨a, rfl, ⟨xs, hS⟩, fun D hD => lc_list (K := K) (a := a) (xs := xs) (Pv D) (h0 D _ hD (Kp.new hD) upd_same) (fun i H1 hi p => hl D i H1 hD hi p) (fun i x H1 hx p => hs D i x H1 hD hx p) fun H1 p => hd D H1 hD p⟩
/-- over a tuple -/
def TupK (K : PySem.W.Frag) (R : It → Hp → Prop) (x : V) (H1 : Hp) : Prop := ∃ a, x = .ref a ∧ (∃ xs, SqT K H1 a xs) ∧ R (Itt K a) H1
theorem itup {R : It → Hp → Prop} (h : ta σ H (TupK K R)) : iTup K ta σ H R := h
theorem lct {g : TG} {tt : TT} {vs : List Nat} {a : Addr} (xs : List V) (hS : SqT K H a xs) (Pv : Addr → Nat → Hp → Prop) (h0 : ∀ D H1, H D = none → Kp [] H H1 → H1 D = some (.lst []) → Pv D 0 H1)
    (hl : ∀ D i H1, H D = none → i ≤ xs.length → Pv D i H1 → SqT K H1 a xs)
    (hs : ∀ D i x H1, H D = none → xs[i]? = some x → Pv D i H1 → g x (wipe σ vs) H1 fun σ2 H2 => wipe σ2 vs = wipe σ vs ∧ tt σ2 H2 fun b H3 => if b = true then te σ2 H3 fun y H4 => ∃ acc, H4 D = some (.lst acc) ∧ acc.length < sizeLine ∧ Pv D (i + 1) (upd H4 D (.lst (acc ++ [y]))) else Pv D (i + 1) H3)
    (hd : ∀ D H1, H D = none → Pv D xs.length H1 → Q (.ref D) H1) : TupK K (LcK g tt te vs σ Q) (.ref a) H :=
  ⟨a, rfl, ⟨xs, hS⟩, fun D hD => lc_tup (K := K) (a := a) (xs := xs) (Pv D) (h0 D _ hD (Kp.new hD) upd_same) (fun i H1 hi p => hl D i H1 hD hi p) (fun i x H1 hx p => hs D i x H1 hD hx p) fun H1 p => hd D H1 hD p⟩
theorem allL {a : Addr} {bs : List Bool} (h : SqL K H a (bs.map V.bl)) (q : Q (.bl (bs.all id)) H) : rAll K [.ref a] H Q := ⟨a, bs, rfl, h, q⟩
theorem anyL {a : Addr} {bs : List Bool} (h : SqL K H a (bs.map V.bl)) (q : Q (.bl (bs.any id)) H) : rAny K [.ref a] H Q := ⟨a, bs, rfl, h, q⟩
theorem forr {g : TG} {tb : TS} {e : Int} (n : Nat) (he : e = (n : Int)) (hb : n < 4611686018427387904) (Pv : Nat → St → Hp → Prop) (h0 : Pv 0 σ H)
    (hs : ∀ i σ H, i < n → Pv i σ H → g (.int (i : Int)) σ H fun σ2 H2 => tb { D with nx := Pv (i + 1), ct := Pv (i + 1), bk := D.nx } σ2 H2) (hd : ∀ σ H, Pv n σ H → D.nx σ H) : Rng1K (ForK g tb D σ) [.int e] H := by
  subst he
  refine ⟨(n : Int), rfl, by omega, by omega, ?_⟩
  rw [show ((n : Int)).toNat = n by simp]
  refine for_range (lo := 0) (n := n) Pv h0 (fun i σ H1 hi p => ?_) hd
  rw [show (0 : Int) + (i : Int) = (i : Int) by omega]
  exact hs i σ H1 hi p
theorem forl {g : TG} {tb : TS} {a : Addr} (xs : List V) (hS : SqL K H a xs) (Pv : Nat → St → Hp → Prop) (h0 : Pv 0 σ H) (hl : ∀ i σ H, i ≤ xs.length → Pv i σ H → SqL K H a xs)
    (hs : ∀ i x σ H, xs[i]? = some x → Pv i σ H → g x σ H fun σ2 H2 => tb { D with nx := Pv (i + 1), ct := Pv (i + 1), bk := D.nx } σ2 H2) (hd : ∀ σ H, Pv xs.length σ H → D.nx σ H) : ListK K (ForK g tb D σ) (.ref a) H :=
  ⟨a, rfl, ⟨xs, hS⟩, for_list (K := K) (a := a) (xs := xs) Pv h0 hl hs hd⟩
/-! texts -/
def StrK (R : It → Hp → Prop) (v : V) (H1 : Hp) : Prop := ∃ x, v = .str x ∧ R (Its x) H1
theorem istr {R : It → Hp → Prop} (h : ta σ H (StrK R)) : iStr ta σ H R := h
theorem fors {g : TG} {tb : TS} {x : Str} (Pv : Nat → St → Hp → Prop) (h0 : Pv 0 σ H)
    (hs : ∀ i c σ H, x.cps[i]? = some c → Pv i σ H → g (.str ⟨#[c]⟩) σ H fun σ2 H2 => tb { D with nx := Pv (i + 1), ct := Pv (i + 1), bk := D.nx } σ2 H2) (hd : ∀ σ H, Pv x.cps.size σ H → D.nx σ H) : StrK (ForK g tb D σ) (.str x) H :=
  ⟨x, rfl, for_it walk_str Pv h0 (fun _ _ _ _ _ => trivial) (fun i v σ H H' hi p y => by obtain ⟨rfl, c, hc, rfl⟩ := y; exact hs i c σ _ hc p) hd⟩
theorem lcs {g : TG} {tt : TT} {vs : List Nat} {x : Str} (Pv : Addr → Nat → Hp → Prop) (h0 : ∀ D H1, H D = none → Kp [] H H1 → H1 D = some (.lst []) → Pv D 0 H1)
    (hs : ∀ D i c H1, H D = none → x.cps[i]? = some c → Pv D i H1 → g (.str ⟨#[c]⟩) (wipe σ vs) H1 fun σ2 H2 => wipe σ2 vs = wipe σ vs ∧ tt σ2 H2 fun b H3 => if b = true then te σ2 H3 fun y H4 => ∃ acc, H4 D = some (.lst acc) ∧ acc.length < sizeLine ∧ Pv D (i + 1) (upd H4 D (.lst (acc ++ [y]))) else Pv D (i + 1) H3)
    (hd : ∀ D H1, H D = none → Pv D x.cps.size H1 → Q (.ref D) H1) : StrK (LcK g tt te vs σ Q) (.str x) H :=
  ⟨x, rfl, fun D hD => lc_it walk_str (Pv D) (h0 D _ hD (Kp.new hD) upd_same) (fun _ _ _ _ => trivial) (fun i v H H' hi p y => by obtain ⟨rfl, c, hc, rfl⟩ := y; exact hs D i c _ hD hc p) fun H1 p => hd D H1 hD p⟩
theorem lenS {x : Str} (hz : x.cps.size ≤ 10000000) (q : Q (.int (x.cps.size : Nat)) H) : rLenS [.str x] H Q := ⟨x, rfl, hz, q⟩
/-! enumerate -/
def EnumK (K : PySem.W.Frag) (R : It → Hp → Prop) (vs : List V) (H1 : Hp) : Prop := ∃ a xs, vs = [.ref a] ∧ SqL K H1 a xs ∧ R (Ite K a) H1
theorem ienum {a : TA} {R : It → Hp → Prop} (h : a σ H (EnumK K R)) : iEnum K a σ H R := h
theorem fore {g : TG} {tb : TS} {a : Addr} (xs : List V) (hS : SqL K H a xs) (Pv : Nat → St → Hp → Prop) (h0 : Pv 0 σ H) (hl : ∀ i σ H, i ≤ xs.length → Pv i σ H → SqL K H a xs)
    (hs : ∀ i x σ H H' T, xs[i]? = some x → Pv i σ H → H T = none → Kp [] H H' → H' T = some (.tup [.int (i : Nat), x]) → g (.ref T) σ H' fun σ2 H2 => tb { D with nx := Pv (i + 1), ct := Pv (i + 1), bk := D.nx } σ2 H2) (hd : ∀ σ H, Pv xs.length σ H → D.nx σ H) : EnumK K (ForK g tb D σ) [.ref a] H :=
  ⟨a, xs, rfl, hS, for_it (walk_enum (K := K) (a := a) (xs := xs)) Pv h0 hl (fun i v σ H H' hi p y => by
    obtain ⟨T, x, z, rfl, h1, rfl, h2, h3⟩ := y
    cases h2
    exact hs i z σ H _ T h3 p h1 (Kp.new h1) upd_same) hd⟩
/-! dicts -/
theorem dnew (h : ∀ p H1, H p = none → Kp [] H H1 → H1 p = some (.dK []) → Q (.ref p) H1) : tDNewK σ H Q := mk h
theorem din {ty td : TE} (h : ty σ H fun y H1 => td σ H1 fun x H2 => ∃ a o, x = .ref a ∧ DGet H2 a y o ∧ Q (.bl o.isSome) H2) : tDIn ty td σ H Q := h
theorem dput {td ty tv : TE} (h : tv σ H fun v H1 => td σ H1 fun x H2 => ty σ H2 fun y H3 => ∃ a H4, x = .ref a ∧ DPut H3 a y v H4 ∧ D.nx σ H4) : sDPut td ty tv D σ H := h
theorem dget2 {td ty tx : TE} (h : td σ H fun x H1 => ∃ a, x = .ref a ∧ IsD H1 a ∧ ty σ H1 fun y H2 => tx σ H2 fun z H3 => ∃ o, DGet H3 a y o ∧ Q (o.getD z) H3) : tDGet2 td ty tx σ H Q := h
theorem dget {td ty : TE} (h : td σ H fun x H1 => ty σ H1 fun y H2 => ∃ a v, x = .ref a ∧ DGet H2 a y (some v) ∧ Q v H2) : tDGet td ty σ H Q := h
/-! lists and tuples -/
theorem ixA {p : Addr} {xs : List V} {j : Int} (h : SqL K H p xs ∨ SqT K H p xs) (e : atI xs j = some v) (q : Q v H) : rIx K (.ref p) (.int j) H Q := h.elim (fun h => .inl (ixL h e q)) (fun h => .inr (.inl (ixT h e q)))
theorem lenA {a : Addr} {xs : List V} (h : SqL K H a xs ∨ SqT K H a xs) (q : Q (.int xs.length) H) : rLenN K [.ref a] H Q := ⟨a, xs, rfl, h, q⟩
theorem sl {r : V → Option Int → Option Int → Hp → VK → Prop} {tl th : TO} (h : ta σ H fun x H1 => tl σ H1 fun l H2 => th σ H2 fun u H3 => r x l u H3 Q) : tSl r ta tl th σ H Q := h
theorem slno {Q : Option Int → Hp → Prop} (h : Q none H) : tNoPart σ H Q := h
theorem slpart {Q : Option Int → Hp → Prop} (h : ta σ H fun x H1 => ∃ i, x = .int i ∧ Q (some i) H1) : tPart ta σ H Q := h
theorem bint {i : Int} {q : Int → Prop} (h : q i) : ∃ k, V.int i = .int k ∧ q k := ⟨i, rfl, h⟩
theorem slL {p : Addr} {xs : List V} {lo hi : Option Int} (h : SqL K H p xs) (q : ∀ d H1, H d = none → Kp [] H H1 → H1 d = some (.lst (cutV xs lo hi)) → Q (.ref d) H1) : rSlL K (.ref p) lo hi H Q := ⟨p, xs, rfl, h, mk q⟩
theorem cut_take {xs : List V} {k : Nat} (h : k ≤ xs.length) : cutV xs none (some (k : Int)) = xs.take k := by
  unfold cutV
  rw [HT.sIx_none, HT.sIx_nat, List.drop_zero, Nat.sub_zero, Nat.min_eq_left h]
theorem cut_drop {xs : List V} {k : Nat} (h : k ≤ xs.length) : cutV xs (some (k : Int)) none = xs.drop k := by
  unfold cutV
  rw [HT.sIx_none, HT.sIx_nat, Nat.min_eq_left h]
  exact List.take_of_length_le (by rw [List.length_drop] <;> omega)
theorem inq {neg : Bool} {p : Addr} {xs : List V} (h : SqL K H p xs ∨ SqT K H p xs) (fx : flatV x = true) (fs : xs.all flatV = true) (q : Q (.bl (if neg then !inV x xs else inV x xs)) H) : rIn K neg x (.ref p) H Q := ⟨p, xs, rfl, h, fx, fs, q⟩
theorem inV_strs {a : Str} {l : List Str} : inV (.str a) (l.map V.str) = decide (a ∈ l) := by
  unfold inV
  induction l with
  | nil => simp
  | cons b r ih =>
    rw [List.map_cons, List.any_cons, ih]
    show ((b == a) || _) = _
    by_cases e : b = a
    · subst e; simp
    · have e' : ¬ a = b := fun z => e z.symm
      simp [e, e']
theorem strs_flat {l : List Str} : (l.map V.str).all flatV = true := by simp [flatV]
theorem pop {l : Addr} {xs : List V} {y : V} (h : H l = some (.lst xs)) (e : xs[xs.length - 1]? = some y) (q : Q y (upd H l (.lst xs.dropLast))) : rPop (.ref l) [] H Q := ⟨l, xs, y, rfl, rfl, h, e, q⟩
def LRK (K : PySem.W.Frag) (Q : VK) (x : V) (H1 : Hp) : Prop := ∃ a xs, x = .ref a ∧ SqL K H1 a xs ∧ ∀ p, H1 p = none → Q (.ref p) (upd H1 p (.lst xs.reverse))
theorem listrev (h : ta σ H (LRK K Q)) : RL.tListRev K ta σ H Q := h
theorem lrk {a : Addr} {xs : List V} (hS : SqL K H a xs) (q : ∀ p H1, H p = none → Kp [] H H1 → H1 p = some (.lst xs.reverse) → Q (.ref p) H1) : LRK K Q (.ref a) H := ⟨a, xs, rfl, hS, mk q⟩
theorem popS {l : Addr} {xs : List V} {y : V} (h : H l = some (.lst (xs ++ [y]))) (q : Q y (upd H l (.lst xs))) : rPop (.ref l) [] H Q := ⟨l, _, y, rfl, rfl, h, by simp, by rw [List.dropLast_concat]; exact q⟩
theorem extT {l b : Addr} {xs zs : List V} (h : H l = some (.lst xs)) (h2 : H b = some (.tup zs)) (hz : xs.length + zs.length ≤ 10000000) (q : Q .non (upd H l (.lst (xs ++ zs)))) : RL.rExtT (.ref l) [.ref b] H Q := ⟨l, b, xs, zs, rfl, rfl, h, h2, Nat.le_trans hz (by decide), q⟩
theorem slT {p : Addr} {xs : List V} {k : Nat} (h : SqT K H p xs) (h0 : 0 < k) (h1 : k ≤ xs.length) (q : ∀ d H1, H d = none → Kp [] H H1 → H1 d = some (.tup (xs.drop k)) → Q (.ref d) H1) : rSlT K (.ref p) (some (k : Int)) none H Q := ⟨p, xs, rfl, h, fun z => by
  rw [HT.sIx_nat, Nat.min_eq_left h1] at z
  omega, mk (by rw [cut_drop h1]; exact q)⟩
theorem revl (h : ta σ H (LRK K Q)) : tRevL K ta σ H Q := h
theorem idx {a : Addr} {ys : List V} {y : V} (j : Nat) {z : V} (hS : SqL K H a ys) (fy : flatV y = true) (fs : ys.all flatV = true) (hz : ys[j]? = some z) (hy : eqV z y = true) (hn : ∀ (m : Nat) (z' : V), m < j → ys[m]? = some z' → eqV z' y = false) (q : Q (.int (j : Nat)) H) : rIndex K (.ref a) [y] H Q := ⟨a, ys, y, j, z, rfl, rfl, hS, fy, fs, hz, hy, hn, q⟩
theorem truL {p : Addr} {xs : List V} {q : Bool → Prop} (h : H p = some (.lst xs)) (hq : q (!xs.isEmpty)) : ∃ k, TruV K (.ref p) H k ∧ q k := ⟨_, .inl ⟨xs, lstL h, rfl⟩, hq⟩
theorem glst {n : Nat} {t : TGs} {a : Addr} {xs : List V} {Q : St → Hp → Prop} (h : SqL K H a xs) (e : xs.length = n) (q : t xs σ H Q) : gLst K n t (.ref a) σ H Q := ⟨a, xs, rfl, h, e, q⟩
def rSplitQ : V → List V → Hp → VK → Prop := fun x xs H Q => ∃ a b, x = .str a ∧ xs = [.str b] ∧ (b.length == 0) = false ∧ a.length + 2 ≤ sizeLine ∧ rNewStrs (Txt.split a b) H Q
theorem m_split {X : Cx} : MtR X "str.split" rSplitQ := mt_split
theorem split {a b : Str} (hb : (b.length == 0) = false) (hz : a.length ≤ 10000000) (q : ∀ p H1, H p = none → Kp [] H H1 → H1 p = some (.lst ((Txt.split a b).map V.str)) → Q (.ref p) H1) : rSplitQ (.str a) [.str b] H Q := ⟨a, b, rfl, rfl, hb, Nat.le_trans (Nat.add_le_add_right hz 2) (by decide), mk q⟩
def EnSK (K : PySem.W.Frag) (R : It → Hp → Prop) (vs zs : List V) (H2 : Hp) : Prop := ∃ a xs k, vs = [.ref a] ∧ zs = [.int k] ∧ -(2 ^ 63) ≤ k ∧ k < 2 ^ 63 ∧ SqL K H2 a xs ∧ R (RL.IteS K a k) H2
theorem ienumS {a b : TA} {R : It → Hp → Prop} (h : a σ H fun vs H1 => b σ H1 fun zs H2 => EnSK K R vs zs H2) : RL.iEnumS K a b σ H R := h
theorem walk_enumS {a : Addr} {xs : List V} {k : Int} : Walk (RL.IteS K a k) xs.length (fun H => SqL K H a xs) (YPair (fun i => some (.int (k + (i : Nat)))) (fun i => xs[i]?)) := by
  refine ⟨fun i _ hi q => ⟨xs, xs[i], q, by simp [hi]⟩, fun _ q => ⟨xs, q, rfl⟩, fun i H v H' _ q y => ?_⟩
  obtain ⟨T, x, h1, h2, h3, h4⟩ := y
  exact ⟨T, .int (k + (i : Nat)), x, h1, h2, h3, rfl, h4 xs q⟩
theorem fores {g : TG} {tb : TS} {a : Addr} {k : Int} (xs : List V) (hk0 : -(2 ^ 63) ≤ k) (hk1 : k < 2 ^ 63) (hS : SqL K H a xs) (Pv : Nat → St → Hp → Prop) (h0 : Pv 0 σ H) (hl : ∀ i σ H, i ≤ xs.length → Pv i σ H → SqL K H a xs)
    (hs : ∀ i x σ H H' T, xs[i]? = some x → Pv i σ H → H T = none → Kp [] H H' → H' T = some (.tup [.int (k + (i : Nat)), x]) → g (.ref T) σ H' fun σ2 H2 => tb { D with nx := Pv (i + 1), ct := Pv (i + 1), bk := D.nx } σ2 H2) (hd : ∀ σ H, Pv xs.length σ H → D.nx σ H) : EnSK K (ForK g tb D σ) [.ref a] [.int k] H :=
  ⟨a, xs, k, rfl, rfl, hk0, hk1, hS, for_it (walk_enumS (K := K) (a := a) (xs := xs) (k := k)) Pv h0 hl (fun i v σ H H' hi p y => by
    obtain ⟨T, x, z, rfl, h1, rfl, h2, h3⟩ := y
    cases h2
    exact hs i z σ H _ T h3 p h1 (Kp.new h1) upd_same) hd⟩
/-- an f-string of two parts or more -/
def tJoin (ts : List TE) : TE := fun σ H Q => tJs ts Str.empty σ H fun out H1 => Q (.str out) H1
theorem pe_joinedN {X : Cx} {v1 v2 : Expr} {rest : List Expr} {ts : List TE} {pos : Pos} (h : PJ X (v1 :: v2 :: rest) ts) : PE X (.JoinedStr (v1 :: v2 :: rest) pos) (tJoin ts) := pe_joined h
def rJoinQ (K : PySem.W.Frag) : V → List V → Hp → VK → Prop := fun x xs H Q => ∃ a p, ∃ ys : List Str, x = .str a ∧ xs = [.ref p] ∧ (SqL K H p (ys.map V.str) ∨ SqT K H p (ys.map V.str)) ∧ (ys.map (·.length)).sum + ys.length * a.length ≤ 16777216 ∧ Q (.str (Txt.join a ys)) H
theorem m_join {X : Cx} : MtR X "str.join" (rJoinQ X.K) := mt_join
theorem join {a : Str} {p : Addr} {ys : List Str} (h : SqL K H p (ys.map V.str)) (hz : (ys.map (·.length)).sum + ys.length * a.length ≤ 16777216) (q : Q (.str (Txt.join a ys)) H) : rJoinQ K (.str a) [.ref p] H Q := ⟨a, p, ys, rfl, rfl, .inl h, hz, q⟩
theorem lens_le {n : Nat} : ∀ {ys : List Str}, (∀ y ∈ ys, y.length ≤ n) → (ys.map (·.length)).sum ≤ n * ys.length
  | [], _ => by simp
  | y :: r, h => by
    have h1 := h y (by simp)
    have h2 := lens_le (n := n) (ys := r) fun z hz => h z (by simp [hz])
    rw [List.map_cons, List.sum_cons, List.length_cons, Nat.mul_add]
    omega
theorem mulS {x : Str} {k : Nat} (h1 : 2 ≤ k) (h2 : k ≤ 100000) (h3 : 1 ≤ x.length) (h4 : x.length ≤ 100) (q : Q (.str (RL.repS x k)) H) : RL.rMulS (.str x) (.int (k : Int)) H Q := ⟨x, k, rfl, rfl, h1, h2, h3, h4, q⟩
theorem cat {l b : Addr} {xs zs : List V} (h : H l = some (.lst xs)) (h2 : H b = some (.lst zs)) (hz : xs.length + zs.length ≤ 100000) (q : ∀ p H1, H p = none → Kp [] H H1 → H1 p = some (.lst (xs ++ zs)) → Q (.ref p) H1) : rCat (.ref l) (.ref b) H Q := ⟨l, b, xs, zs, rfl, rfl, h, h2, Nat.le_trans hz (by decide), mk q⟩
end
end Z

/-! ### zip of two lists of one length -/
namespace Z
open PySem L2
section
variable {σ : St} {H : Hp} {Q : VK} {te : TE} {D : Ends} {K : PySem.W.Frag}
def ZipK (K : PySem.W.Frag) (R : It → Hp → Prop) (vs : List V) (H1 : Hp) : Prop := ∃ a b xs ys, vs = [.ref a, .ref b] ∧ SqL K H1 a xs ∧ SqL K H1 b ys ∧ R (Itz K a b) H1
theorem izip {a : TA} {R : It → Hp → Prop} (h : a σ H (ZipK K R)) : iZip K a σ H R := h
theorem forz {g : TG} {tb : TS} {a b : Addr} (xs ys : List V) (hn : xs.length = ys.length) (hS : SqL K H a xs) (hS2 : SqL K H b ys) (Pv : Nat → St → Hp → Prop) (h0 : Pv 0 σ H) (hl : ∀ i σ H, i ≤ xs.length → Pv i σ H → SqL K H a xs ∧ SqL K H b ys)
    (hs : ∀ i x y σ H H' T, xs[i]? = some x → ys[i]? = some y → Pv i σ H → H T = none → Kp [] H H' → H' T = some (.tup [x, y]) → g (.ref T) σ H' fun σ2 H2 => tb { D with nx := Pv (i + 1), ct := Pv (i + 1), bk := D.nx } σ2 H2) (hd : ∀ σ H, Pv xs.length σ H → D.nx σ H) : ZipK K (ForK g tb D σ) [.ref a, .ref b] H :=
  ⟨a, b, xs, ys, rfl, hS, hS2, for_it (walk_zip (K := K) (a := a) (b := b) (xs := xs) (ys := ys) (n := xs.length) (by omega)) Pv h0 hl (fun i v σ H H' hi p y => by
    obtain ⟨T, x, z, rfl, h1, rfl, h2, h3⟩ := y
    exact hs i x z σ H _ T h2 h3 p h1 (Kp.new h1) upd_same) hd⟩
theorem lcz {g : TG} {tt : TT} {vs : List Nat} {a b : Addr} (xs ys : List V) (hn : xs.length = ys.length) (hS : SqL K H a xs) (hS2 : SqL K H b ys) (Pv : Addr → Nat → Hp → Prop) (h0 : ∀ D H1, H D = none → Kp [] H H1 → H1 D = some (.lst []) → Pv D 0 H1)
    (hl : ∀ D i H1, H D = none → Pv D i H1 → SqL K H1 a xs ∧ SqL K H1 b ys)
    (hs : ∀ D i x y H1 H1' T, H D = none → xs[i]? = some x → ys[i]? = some y → Pv D i H1 → H1 T = none → Kp [] H1 H1' → H1' T = some (.tup [x, y]) → g (.ref T) (wipe σ vs) H1' fun σ2 H2 => wipe σ2 vs = wipe σ vs ∧ tt σ2 H2 fun b H3 => if b = true then te σ2 H3 fun y H4 => ∃ acc, H4 D = some (.lst acc) ∧ acc.length < sizeLine ∧ Pv D (i + 1) (upd H4 D (.lst (acc ++ [y]))) else Pv D (i + 1) H3)
    (hd : ∀ D H1, H D = none → Pv D xs.length H1 → Q (.ref D) H1) : ZipK K (LcK g tt te vs σ Q) [.ref a, .ref b] H :=
  ⟨a, b, xs, ys, rfl, hS, hS2, fun D hD => lc_it (walk_zip (K := K) (a := a) (b := b) (xs := xs) (ys := ys) (n := xs.length) (by omega)) (Pv D) (h0 D _ hD (Kp.new hD) upd_same) (fun _ _ _ p => hl D _ _ hD p) (fun i v H H' hi p y => by
    obtain ⟨T, x, z, rfl, h1, rfl, h2, h3⟩ := y
    exact hs D i x z H _ T hD h2 h3 p h1 (Kp.new h1) upd_same) fun H1 p => hd D H1 hD p⟩
end
end Z

namespace Z
open PySem L2
/-- what is never reached -/
def tDead : TS := fun _ _ _ => False
theorem ps_dead {X : Cx} {s : Stmt} : PS X s tDead := ⟨fun _ _ _ _ _ _ h => h.elim⟩
theorem u65 {k : Nat} {A : Around} (hr : Room k A) : A.units + 65 < cLine := by have := hr.un; omega
end Z

namespace Z
open PySem L2
/-! range(lo, e) -/
def Rng2K (R : It → Hp → Prop) (vs : List V) (H1 : Hp) : Prop := ∃ i j : Int, vs = [.int i, .int j] ∧ (-(2 ^ 62) ≤ i ∧ i < 2 ^ 62 ∧ -(2 ^ 62) ≤ j ∧ j < 2 ^ 62) ∧ R (Itr i (j - i).toNat) H1
theorem irng2 {a : TA} {σ : L2.St} {H : Hp} {R : It → Hp → Prop} (h : a σ H (Rng2K R)) : iRng2 a σ H R := h
theorem forr2 {σ : L2.St} {H : Hp} {D : Ends} {g : TG} {tb : TS} {lo e : Int} (n : Nat) (he : (e - lo).toNat = n) (hb : -1000000 ≤ lo ∧ lo ≤ 1000000 ∧ -1000000 ≤ e ∧ e ≤ 1000000) (Pv : Nat → L2.St → Hp → Prop) (h0 : Pv 0 σ H)
    (hs : ∀ i σ H, i < n → Pv i σ H → g (.int (lo + (i : Int))) σ H fun σ2 H2 => tb { D with nx := Pv (i + 1), ct := Pv (i + 1), bk := D.nx } σ2 H2) (hd : ∀ σ H, Pv n σ H → D.nx σ H) : Rng2K (ForK g tb D σ) [.int lo, .int e] H := by
  refine ⟨lo, e, rfl, ⟨by omega, by omega, by omega, by omega⟩, ?_⟩
  rw [he]
  exact for_range (lo := lo) (n := n) Pv h0 (fun i σ H1 hi p => hs i σ H1 hi p) hd
end Z

namespace Z
open PySem L2
/-! reversed(range(n)) -/
def RevRK (R : It → Hp → Prop) (a b : Int) (H1 : Hp) : Prop := -(2 ^ 62) ≤ a ∧ a < 2 ^ 62 ∧ -(2 ^ 62) ≤ b ∧ b < 2 ^ 62 ∧ R (Itc (a + (((b - a).toNat : Nat) : Int) - 1) (-1) (b - a).toNat) H1
theorem irevr {tr : L2.St → Hp → (Int → Int → Hp → Prop) → Prop} {σ : L2.St} {H : Hp} {R : It → Hp → Prop} (h : tr σ H (RevRK R)) : iRevR tr σ H R := h
def Rg1K (R : Int → Int → Hp → Prop) (x : V) (H1 : Hp) : Prop := ∃ n : Int, x = .int n ∧ R 0 n H1
theorem rg1 {ta : TE} {σ : L2.St} {H : Hp} {R : Int → Int → Hp → Prop} (h : ta σ H (Rg1K R)) : tRg1 ta σ H R := h
theorem forrv {σ : L2.St} {H : Hp} {D : Ends} {g : TG} {tb : TS} {e : Int} (n : Nat) (he : e = (n : Int)) (hb : n < 4611686018427387904) (Pv : Nat → L2.St → Hp → Prop) (h0 : Pv 0 σ H)
    (hs : ∀ i σ H, i < n → Pv i σ H → g (.int ((n - 1 - i : Nat) : Int)) σ H fun σ2 H2 => tb { D with nx := Pv (i + 1), ct := Pv (i + 1), bk := D.nx } σ2 H2) (hd : ∀ σ H, Pv n σ H → D.nx σ H) : Rg1K (RevRK (ForK g tb D σ)) (.int e) H := by
  subst he
  refine ⟨(n : Int), rfl, by omega, by omega, by omega, by omega, ?_⟩
  rw [show ((n : Int) - 0).toNat = n by omega]
  refine for_rangeC Pv h0 (fun i σ H1 hi p => ?_) hd
  rw [show (0 + (n : Int) - 1 + (i : Int) * -1) = ((n - 1 - i : Nat) : Int) by omega]
  exact hs i σ H1 hi p
end Z

/-! ### sorted of data that are alike -/
namespace RL
open PySem PySem.Spec PyProof.Rows L2 PySem.W
def DBs := List (V × PyData)
def rSortedD (K : PySem.W.Frag) : List V → Hp → VK → Prop := fun vs H Q => ∃ (a : Addr) (bs : List (V × PyData)), vs = [V.ref a] ∧ SqL K H a (bs.map Prod.fst) ∧ (∀ b ∈ bs, Dp K H b.1 b.2) ∧ AllAlike (bs.map Prod.snd) ∧ Sortable (bs.map Prod.snd) ∧ (∀ b ∈ bs, b.2.depth ≤ 60) ∧
  ∀ p, H p = none → Q (.ref p) (upd H p (.lst ((bs.mergeSort (dataLe false Prod.snd)).map Prod.fst)))
theorem each_vals : ∀ {bs : List (V × PyData)} {us : List Value}, Vals (bs.map Prod.fst) us → EachIs (fun (v : Value) (b : V × PyData) => RelV b.1 v) us bs
  | [], us, h => by cases h; exact .nil
  | b :: r, us, h => by
    cases h with
    | cons h1 h2 => exact .cons h1 (each_vals h2)
theorem vals_each : ∀ {bs : List (V × PyData)} {us : List Value}, EachIs (fun (v : Value) (b : V × PyData) => RelV b.1 v) us bs → Vals (bs.map Prod.fst) us
  | _, _, .nil => .nil
  | _, _, .cons h1 h2 => .cons h1 (vals_each h2)
theorem each_and {α β : Type} {R : α → β → Prop} {P : β → Prop} {S : α → β → Prop} (hS : ∀ a b, R a b → P b → S a b) : ∀ {as : List α} {bs : List β}, EachIs R as bs → (∀ b ∈ bs, P b) → EachIs S as bs
  | _, _, .nil, _ => .nil
  | _, _, .cons h1 h2, hp => .cons (hS _ _ h1 (hp _ (by simp))) (each_and hS h2 fun b hb => hp b (by simp [hb]))
theorem cr_sortedD {X : Cx} (hu : X.A.units + 64 < cLine) : CallR X (.builtin "sorted") (rSortedD X.K) := by
  intro pins s σ H vs us Q I r h
  obtain ⟨a, bs, rfl, hs, hD, hal, hk, hd, q⟩ := h
  obtain ⟨its, rv, hl, hz⟩ := I.list hs
  rw [Vals.ref1 r]
  have e := each_vals rv
  have er : EachIs (fun (v : Value) (b : V × PyData) => ∃ as, Reads s.heap v b.2 as) its bs := each_and (P := fun (b : V × PyData) => Dp X.K H b.1 b.2) (fun v b h1 h2 => Dp.reads I _ _ _ h2 h1) e hD
  have hL : bs.length ≤ sizeLine := by rw [List.length_map] at hz; exact hz
  refine sorted_data (enc := Prod.snd) (R := fun (v : Value) (b : V × PyData) => RelV b.1 v) hl.isList e er hal hk hL (fun b hb => by have := hd b hb; omega) fun out hlen ho => ?_
  obtain ⟨ep, he'⟩ := PyProof.Rows.sortedAll_at s.heap its out.toArray
  have hlen2 : ((bs.mergeSort (dataLe false Prod.snd)).map Prod.fst).length ≤ sizeLine := by rw [List.length_map, List.length_mergeSort]; exact hL
  exact ⟨.ref _, upd H (s.heap.objs.size + 1) (.lst ((bs.mergeSort (dataLe false Prod.snd)).map Prod.fst)), I.laid (t' := s.toks) (fun _ _ => PyProof.Rows.sortedAll_old) (Nat.le_succ _) ⟨hlen2, out, ep, vals_each ho, he'⟩, rfl, q _ (I.hok.fresh (Nat.le_succ _))⟩
end RL

/-! ### sorted(xs, key=lambda x: x[0]) -/
namespace LamK
open PySem PySem.Spec PyProof.Rows L2 LamX PySem.W
/-- a lambda's names: its parameter alone, and globals -/
structure KeyS (scope : Scope) (x : Str) : Prop where
  kind : scope.kind = .function
  co : scope.isCoroutine = false
  gen : scope.isGenerator = false
  own : ∀ y ∈ scope.names, y.2 ≠ .cell ∧ y.2 ≠ .free
  loc : scope.names.lookup x = some .local
def keySB (scope : Scope) (x : Str) : Bool := decide (scope.kind = .function) && !scope.isCoroutine && !scope.isGenerator && (scope.names.all fun y => !decide (y.2 = .cell) && !decide (y.2 = .free)) && decide (scope.names.lookup x = some .local)
theorem keyS_by {scope : Scope} {x : Str} (h : keySB scope x = true) : KeyS scope x := by
  unfold keySB at h
  simp only [Bool.and_eq_true, Bool.not_eq_true', decide_eq_true_eq, decide_eq_false_iff_not, List.all_eq_true] at h
  obtain ⟨⟨⟨⟨h1, h2⟩, h3⟩, h4⟩, h5⟩ := h
  exact ⟨h1, h2, h3, h4, h5⟩
section
variable {prog : Program} {w : World} {A : Around} {s : Shared}
theorem key_call {f c' t : Addr} {name qual : Str} {params : Arguments} {scope : Scope} {cl : List (Str × Addr)} {pm ctv : Value} {x : Str} {j : Nat} {p1 p2 p3 : Pos} {its : Array Value} {u : Value} {k : PyData}
    (ho : s.heap.get? f = some (PySem.W.kla_obj name qual params (.Subscript (.Name x p1) (.Constant (.int 0) j p2) p3) scope cl pm c' ctv)) (hcd : s.heap.CodeRec (.ref c') qual) (hroom : A.depth < recursionLimit) (hl : s.heap.NoLimit)
    (hbind : bindArgs (PySem.W.kla_fn name qual params (.Subscript (.Name x p1) (.Constant (.int 0) j p2) p3) scope cl pm (.ref c') ctv) ⟨[.ref t], []⟩ = pure [(x, .ref t)])
    (S : KeyS scope x) (ht : IsTup s.heap t its) (hu : its[0]? = some u) (hk : Reads s.heap u k []) (hd : (x == ("__debug__" : Str)) = false) :
    wpAny (model prog w) A (call (.ref f) [.ref t]) (PySem.W.KeyPure k s) (fun _ _ => False) s := by
  refine wpAny_call (codeAny_mono (R := fun r s' => ∃ v, r = .ok (.ret v) ∧ PySem.W.KeyPure k s v s') ?_ fun r s' hq => ?_)
  · refine PySem.W.kla_callFunE hroom ho rfl S.co S.gen rfl hcd ?_
    rw [hbind]
    refine wpAny_pure (wpAny_newFunctionEnv (fun y hy => (S.own y hy).1) (fun y hy => ?_) (fun h₁ hns hsb => ⟨hl.fresh _ hsb, ?_⟩) S.kind)
    · rw [List.mem_singleton.mp hy]
      exact S.loc
    · have kp : ∀ b o, s.heap.get? b = some o → h₁.get? b = some o := fun b o e => hsb.extBut b o (Nat.ne_of_lt (Heap.lt_size e)) (Heap.get?_push_of_some _ e)
      have ht1 : IsTup h₁ t its := ht.keeps kp
      refine PySem.W.kla_codeExpr ?_
      refine Subscript_ ?_
      refine wpAny_Name (wpAny_loadName_local (v := .ref t) S.kind S.loc hns (by simp) ?_) hd
      refine wpAny_Constant_int ?_
      refine subscriptTail_builtinR (x := u) ht1.typeIs slot_tuple_getitem.lookup (getItem_tuple (j := 0) ht1 (by decide) (by decide) (seqIndex_of (by decide) (by have := (Array.getElem?_eq_some_iff.mp hu).1; omega)) hu ⟨rfl, ?_⟩)
      refine ⟨u, rfl, h₁, _, rfl, kp, PyProof.Rows.Reads.keeps kp hk⟩
  · obtain ⟨v, rfl, h⟩ := hq
    exact h
end
mutual
/-- data without lists and dicts -/
def noLst : PyData → Bool
  | .list _ => false
  | .dict _ => false
  | .tuple xs => noLstAll xs
  | .none => true
  | .bool _ => true
  | .int _ => true
  | .str _ => true
def noLstAll : List PyData → Bool
  | [] => true
  | d :: ds => noLst d && noLstAll ds
end
mutual
theorem reads_flat {h : Heap} : ∀ (d : PyData) {v : Value} {as : List Addr}, noLst d = true → Reads h v d as → as = []
  | .none, _, _, _, .none => rfl
  | .bool _, _, _, _, .bool _ => rfl
  | .int _, _, _, _, .int _ _ => rfl
  | .str _, _, _, _, .str _ _ => rfl
  | .list _, _, _, z, _ => by simp [noLst] at z
  | .dict _, _, _, z, _ => by simp [noLst] at z
  | .tuple xs, _, _, z, .tuple _ _ _ r => reads_flatAll xs (by simpa [noLst] using z) r
theorem reads_flatAll {h : Heap} : ∀ (ds : List PyData) {vs : List Value} {as : List Addr}, noLstAll ds = true → ReadsAll h vs ds as → as = []
  | [], _, _, _, .nil => rfl
  | d :: ds, _, _, z, .cons r rs => by
    have z' : noLst d = true ∧ noLstAll ds = true := by simpa [noLstAll] using z
    rw [reads_flat d z'.1 r, reads_flatAll ds z'.2 rs]
    rfl
end
/-- the rows at ts are tuples, the first items the keys ds -/
def KeyRows (K : PySem.W.Frag) (H : Hp) (bs : List (Addr × PyData)) : Prop := ∀ b ∈ bs, noLst b.2 = true ∧ b.2.depth ≤ 60 ∧ ∃ xs y, SqT K H b.1 xs ∧ xs[0]? = some y ∧ Dp K H y b.2
def KeyOk (ds : List PyData) : Prop := PySem.W.AllAlike ds ∧ PySem.W.Sortable ds
def tSortLam (K : PySem.W.Frag) (T : List (Addr × Str)) (t : TA) : TE := fun σ H Q => t σ H fun vs H1 => Tabs T H1 ∧ ∃ (a : Addr) (bs : List (Addr × PyData)), vs = [.ref a] ∧ SqL K H1 a (bs.map fun b => V.ref b.1) ∧ KeyRows K H1 bs ∧ KeyOk (bs.map Prod.snd) ∧
  ∀ H2 l, ExtN H1 H2 → Tabs T H2 → H2 l = none → Q (.ref l) (upd H2 l (.lst ((bs.mergeSort (PySem.W.dataLe false Prod.snd)).map fun b => V.ref b.1)))
theorem ext_rd {H H' : Hp} (e : ExtN H H') {a : Addr} {u : HO} (n : ∀ ps, u ≠ .tbl ps) (h : Rd H a u) : Rd H' a u := by
  rcases h with h | ⟨o, h⟩
  · exact .inl (e _ _ h n)
  · exact .inr ⟨o, e _ _ h fun ps z => by cases z⟩
theorem ext_seq {K : PySem.W.Frag} {H H' : Hp} (e : ExtN H H') {a : Addr} {xs : List V} (h : SqL K H a xs) : SqL K H' a xs := h.elim (fun h => .inl (ext_rd e (fun ps z => by cases z) h)) .inr
theorem ext_tup {K : PySem.W.Frag} {H H' : Hp} (e : ExtN H H') {a : Addr} {xs : List V} (h : SqT K H a xs) : SqT K H' a xs := h.elim (fun h => .inl (ext_rd e (fun ps z => by cases z) h)) .inr
mutual
theorem ext_dp {K : PySem.W.Frag} {H H' : Hp} (e : ExtN H H') : ∀ (d : PyData) {v : V}, Dp K H v d → Dp K H' v d
  | .none, _, .non => .non
  | .bool _, _, .bl b => .bl b
  | .int _, _, .int i => .int i
  | .str _, _, .str x => .str x
  | .list ds, _, .lst h r => .lst (ext_seq e h) (ext_dpAll e ds r)
  | .tuple ds, _, .tup h r => .tup (ext_tup e h) (ext_dpAll e ds r)
theorem ext_dpAll {K : PySem.W.Frag} {H H' : Hp} (e : ExtN H H') : ∀ (ds : List PyData) {vs : List V}, DpAll K H vs ds → DpAll K H' vs ds
  | [], _, .nil => .nil
  | d :: ds, _, .cons h r => .cons (ext_dp e d h) (ext_dpAll e ds r)
end
theorem ext_rows {K : PySem.W.Frag} {H H' : Hp} (e : ExtN H H') {bs : List (Addr × PyData)} (h : KeyRows K H bs) : KeyRows K H' bs := fun b hb => by
  obtain ⟨h1, h2, xs, y, h3, h4, h5⟩ := h b hb
  exact ⟨h1, h2, xs, y, ext_tup e h3, h4, ext_dp e _ h5⟩
theorem vals_refs : ∀ {bs : List (Addr × PyData)} {us : List Value}, Vals (bs.map fun b => V.ref b.1) us → us = bs.map fun b => Value.ref b.1
  | [], _, .nil => rfl
  | b :: bs, _, .cons r rs => by
    obtain rfl : _ = Value.ref b.1 := r
    rw [vals_refs rs]
    rfl
theorem refs_vals : ∀ bs : List (Addr × PyData), Vals (bs.map fun b => V.ref b.1) (bs.map fun b => Value.ref b.1)
  | [] => .nil
  | _ :: bs => .cons rfl (refs_vals bs)
def KeyAt (h : Heap) (v : Value) (b : Addr × PyData) : Prop := v = .ref b.1 ∧ ∃ its u, IsTup h b.1 its ∧ its[0]? = some u ∧ Reads h u b.2 []
theorem each_at {h : Heap} : ∀ {bs : List (Addr × PyData)}, (∀ b ∈ bs, KeyAt h (.ref b.1) b) → PySem.W.EachIs (KeyAt h) (bs.map fun b => Value.ref b.1) bs
  | [], _ => .nil
  | b :: bs, z => .cons (z b (by simp)) (each_at (bs := bs) fun x hx => z x (by simp [hx]))
theorem each_refs {h : Heap} : ∀ {us : List Value} {bs : List (Addr × PyData)}, PySem.W.EachIs (KeyAt h) us bs → us = bs.map fun b => Value.ref b.1
  | _, _, .nil => rfl
  | _, _, .cons r rs => by rw [r.1, each_refs rs]; rfl
theorem pe_sortLam {X : Cx} {T : List (Addr × Str)} {c P : Addr} {e : Expr} {t : TA} {x : Str} {j k : Nat} {params : Arguments} {scope : Scope} {lpos p1 p2 p3 kpos p pos : Pos} (hg : Gl X "sorted") (hm : X.mg "sorted" = none) (ha : PA X [e] t)
    (TB : TabB X.base X.mg c P) (hcode : X.env.code = .ref c) (hmT : (P, X.env.qual ++ "<lambda>") ∈ T) (hu : ∀ q ∈ T, q.1 = P → q.2 = X.env.qual ++ "<lambda>") (hr : Room k X.A) (S : KeyS scope x) (hdef : defaultsOf params X.env = ([], []))
    (hbind : ∀ (q : Str) (cl : List (Str × Addr)) (pm cv ctv v : Value), bindArgs (PySem.W.kla_fn "<lambda>" q params (.Subscript (.Name x p1) (.Constant (.int 0) j p2) p3) scope cl pm cv ctv) ⟨[v], []⟩ = pure [(x, v)])
    (hd : (x == ("__debug__" : Str)) = false := by decide) (hst : starEach [e] X.env = (false, eval e X.env) :: starEach [] X.env := by rfl) :
    PE X (.Call (.Name "sorted" p) [e] [⟨some "key", .Lambda params (.Subscript (.Name x p1) (.Constant (.int 0) j p2) p3) scope lpos, kpos⟩] pos) (tSortLam X.K T t) := by
  refine ⟨fun pins s σ H Q I h => ?_⟩
  refine wpAny_Call_Name_kw (ld_blt I hg hm PyProof.Rows.boot_sorted ?_ (by decide) (by decide))
  refine PyProof.Rows.callWith_kw ?_ (by rw [hst]; rfl) (by rw [hst]; rfl) (by rfl) (by rfl)
  refine thn (ha.run pos pins s σ H _ I h) fun us s1 ⟨vs, H1, I1, r1, q1⟩ => ?_
  obtain ⟨hT, a, bs, rfl, hS, hK, hO, q⟩ := q1
  obtain rfl := Vals.ref1 r1
  show wpAny _ _ (evalAll ((do let v ← eval (.Lambda params (.Subscript (.Name x p1) (.Constant (.int 0) j p2) p3) scope lpos) X.env; standAt pos; pure v) :: [])) _ _ s1
  refine wpAny_evalAll_cons (wpAny_bind (lam_make2 I1 TB hcode hmT hu hT hdef (fun y hy z => absurd z (S.own y hy).2) fun f c' pm ctv H2 s2 I2 eN T2 hf hfn hfr hco => ?_))
  refine wpAny_bind (wpAny_standAt (wpAny_pure ?_))
  refine wpAny_evalAll_nil ?_
  obtain ⟨⟨oc, us, t, hoc, hdc, hvc⟩, _, _⟩ := I2.hok c' _ hco
  have kS := ext_seq eN hS
  have kR := ext_rows eN hK
  obtain ⟨its, rv, hl, hz⟩ := I2.list kS
  obtain rfl := vals_refs rv
  rw [List.length_map] at hz
  have room := hr.dp
  have roomU := hr.un
  have dpt : X.A.in1.in1.depth = X.A.depth := rfl
  have lim := I2.nolimit
  refine PySem.W.sorted_key_data (b := false) (R := KeyAt s2.heap) (bs := bs) (f := .ref f) (fun b : Addr × PyData => b.2) hl.isList (each_at fun b hb => ⟨rfl, ?_⟩) hO.1 hO.2 hz (fun b hb => ?_) (ksk_s1 _ _) (fun _ => ksk_l1 _ _) (fun _ => ksk_t1 _ _) (fun v b ⟨ev, its, u, ht, hu, hk⟩ hb h tk kp => ?_) fun out cc h' tk kp fresh hD hlen eo => ?_
  · obtain ⟨h1, h2, xs, y, h3, h4, h5⟩ := kR b hb
    obtain ⟨its, rv, pt, _⟩ := I2.tuple h3
    obtain ⟨u, hu, ru⟩ := rv.get h4
    obtain ⟨as, rd⟩ := Dp.reads I2 _ _ _ h5 ru
    rw [reads_flat _ h1 rd] at rd
    exact ⟨_, u, pt, by simpa using hu, rd⟩
  · have := (kR b hb).2.1
    omega
  · subst ev
    refine key_call (s := { s2 with heap := h, toks := tk }) (kp _ _ hf) ⟨c', oc, us, t, rfl, kp _ _ hoc, hdc, hvc⟩ (by rw [dpt]; omega) (lim.keeps kp) (hbind _ _ _ _ _ _) S (ht.keeps kp) hu (PyProof.Rows.Reads.keeps kp hk) hd
  · obtain rfl := each_refs eo
    refine ⟨.ref (s2.heap.objs.size + 1), _, I2.laid (t' := tk) kp (Nat.le_succ _) (o := .lst ((bs.mergeSort (PySem.W.dataLe false Prod.snd)).map fun b => V.ref b.1)) ⟨?_, _, cc, refs_vals _, hD⟩, rfl, q _ _ eN T2 (I2.hok.fresh (Nat.le_succ _))⟩
    rw [List.length_map, List.length_mergeSort]
    exact hz
end LamK
namespace LamK
open PySem PySem.Spec PyProof.Rows L2 LamX
/-- a def that makes lambdas: its code object stands at c -/
def CodeFn (K : PySem.W.Frag) (f : Addr) (fd : FuncData) (st : Stmt) (x : Str) (c : Addr) : Prop :=
  ∃ (oc : Value) (od : Option Addr) (kV doc pm : Value) (an : Option Addr) (ct : Value) (osl : Array (Option Value)),
    fd = PySem.W.fnOf x x (defArgs st) (defBody st) (defScope st) .none kV doc pm an (.ref c) ct ∧ K.lookup f = some ⟨oc, od, .func fd, osl⟩ ∧ PySem.W.codeIn K (.ref c) x = true
/-- at l nothing is tracked, but for a table -/
def Nw (H : Hp) (l : Addr) : Prop := ∀ o, H l = some o → ∃ ps, o = .tbl ps
theorem Nw.of {H : Hp} {l : Addr} (h : H l = none) : Nw H l := fun o e => by rw [h] at e; cases e
theorem Nw.back {H H1 : Hp} {l : Addr} (h : Nw H1 l) (e : ExtN H H1) : Nw H l := fun o ho => by
  by_cases z : ∀ ps, o ≠ .tbl ps
  · obtain ⟨ps, q⟩ := h o (e l o ho z)
    exact absurd q (z ps)
  · simp only [Classical.not_forall, Classical.not_not, ne_eq] at z
    exact z
theorem Nw.ne {H : Hp} {l b : Addr} {o : HO} (h : Nw H l) (e : H b = some o) (n : ∀ ps, o ≠ .tbl ps) : b ≠ l := fun z => by
  rw [z] at e
  obtain ⟨ps, q⟩ := h o e
  exact n ps q
/-- what srt asks where the rows are read -/
def SrtK (K : PySem.W.Frag) (T : List (Addr × Str)) (Q : VK) : List V → Hp → Prop := fun vs H1 => Tabs T H1 ∧ ∃ (a : Addr) (bs : List (Addr × PyData)), vs = [.ref a] ∧ SqL K H1 a (bs.map fun b => V.ref b.1) ∧ KeyRows K H1 bs ∧ KeyOk (bs.map Prod.snd) ∧
  ∀ H2 l, ExtN H1 H2 → Tabs T H2 → H2 l = none → Q (.ref l) (upd H2 l (.lst ((bs.mergeSort (PySem.W.dataLe false Prod.snd)).map fun b => V.ref b.1)))
theorem srt {K : PySem.W.Frag} {T : List (Addr × Str)} {t : TA} {σ : L2.St} {H : Hp} {Q : VK} (h : t σ H (SrtK K T Q)) : tSortLam K T t σ H Q := h
theorem tabs_none {T : List (Addr × Str)} {H : Hp} {l : Addr} {o : HO} (t : Tabs T H) (h : H l = none) : Tabs T (upd H l o) := t.ext fun b u e => by rw [upd_ne (fun z => by rw [z, h] at e; cases e)]; exact e
theorem srtK {K : PySem.W.Frag} {T : List (Addr × Str)} {H : Hp} {Q : VK} {a : Addr} {bs : List (Addr × PyData)} (hT : Tabs T H) (hS : SqL K H a (bs.map fun b => V.ref b.1)) (hK : KeyRows K H bs) (hO : KeyOk (bs.map Prod.snd))
    (q : ∀ H3 l, ExtN H H3 → Tabs T H3 → Nw H l → H3 l = some (.lst ((bs.mergeSort (PySem.W.dataLe false Prod.snd)).map fun b => V.ref b.1)) → Q (.ref l) H3) : SrtK K T Q [.ref a] H :=
  ⟨hT, a, bs, rfl, hS, hK, hO, fun H2 l e t n => q _ l (fun b o h z => by
      have h2 := e b o h z
      rw [upd_ne (fun z => by rw [z, n] at h2; cases h2)]
      exact h2) (tabs_none t n) (Nw.back (Nw.of n) e) upd_same⟩
theorem ext_kp {H H' : Hp} (k : Z.Kp [] H H') : ExtN H H' := fun b o h _ => k b o (by simp) h
theorem ext_put {H H1 H2 : Hp} {l : Addr} (e : ExtN H H1) (k : Z.Kp [l] H1 H2) (n : Nw H l) : ExtN H H2 := fun b o h z => k b o (by
  intro y
  exact n.ne h z (List.mem_singleton.mp y)) (e b o h z)
theorem tabs_kp {T : List (Addr × Str)} {H H' : Hp} (t : Tabs T H) (k : Z.Kp [] H H') : Tabs T H' := t.ext fun b o h => k b o (by simp) h
/-- a list at l is written: tables stay -/
theorem tabs_put {T : List (Addr × Str)} {H H' : Hp} {l : Addr} {xs : List V} (t : Tabs T H) (k : Z.Kp [l] H H') (h : H l = some (.lst xs)) : Tabs T H' := fun p hp => by
  obtain ⟨ps, h1, h2, h3⟩ := t p hp
  have at' : ∀ {b : Addr} {o : HO}, H b = some o → o ≠ .lst xs → H' b = some o := fun {b o} e n => k b o (by
    intro y
    rw [List.mem_singleton.mp y, h] at e
    exact n (Option.some.inj e).symm) e
  exact ⟨ps, at' h1 (by simp), h2, fun pos cv hc => let ⟨c, e1, e2⟩ := h3 pos cv hc; ⟨c, e1, at' e2 (by unfold CodeO; simp)⟩⟩
theorem ext_get {H H' : Hp} (e : ExtN H H') {b : Addr} {o : HO} (h : H b = some o) (n : ∀ ps, o ≠ .tbl ps := by intro ps; simp) : H' b = some o := e b o h n
/-- o.m() within a try -/
def tMethX (C : Addr) (m : Str) (sp : Sp) (E : L2.St → XK) (ta : TE) : TE := fun σ H Q => ta σ H fun x H1 => ∃ a dx fs, x = .ref a ∧ H1 a = some (.ins C dx fs) ∧ fs.lookup m = none ∧ sp [x] H1 Q (E σ)
theorem pe_meth0X {X : Cx} {CX : CXT} {k : Nat} {f C : Addr} {fd : FuncData} {ps : List Str} {sp : Sp} {E : L2.St → XK} {m : Str} {pos apos : Pos} {o : Expr} {ta : TE} {pl : Sem Bool} (he : PE X o ta) (c : Cls X.K C) (hm : Meth X.K C m f) (F : FnOk X.prog X.w X.K X.mg X.base CX k f fd ps sp) (hr : Room k X.A) (hb : Binds X.K fd ps []) (hx : ∀ σ, PassesAt CX X σ (E σ))
    (ht : eval (.Call (.Attribute o m apos) [] [] pos) X.env = (do
      let ov ← eval o X.env
      standAt apos.atName
      let (f, first) ← holding [ov] (getMethod ov m pl)
      callWith pos f first (backTo pos (starEach [] X.env)) (backToKw pos (keywordEach [] X.env))) := by rfl) : PE X (.Call (.Attribute o m apos) [] [] pos) (tMethX C m sp E ta) := by
  refine ⟨fun pins s σ H Q I h => PySem.W.methodCall_KW (pl := pl) (thn (he.run pins s σ H _ I h) fun u s1 ⟨x, H1, I1, rx, a, dx, fs, ex, ea, l, q⟩ => ?_) ht⟩
  subst ex
  obtain rfl : u = Value.ref a := rx
  exact getmeth_ok I1 ea c hm l (PySem.W.callWith_K0 (first := [.ref a]) I1.kIn hm.kp (run_fnS (us := [.ref a]) (vs := [.ref a]) F hr hb (hx σ) I1 (.cons rfl .nil) q))
theorem methX {C : Addr} {m : Str} {sp : Sp} {E : L2.St → XK} {ta : TE} {σ : L2.St} {H : Hp} {Q : VK} (h : ta σ H fun x H1 => ∃ a dx fs, x = .ref a ∧ H1 a = some (.ins C dx fs) ∧ fs.lookup m = none ∧ sp [x] H1 Q (E σ)) : tMethX C m sp E ta σ H Q := h
end LamK

namespace GT
open PySem L2 Z
/-! dicts whose keys are tuples -/
def rListT : List V → Hp → VK → Prop := fun xs H Q => ∃ d kvs, xs = [V.ref d] ∧ Rd H d (.dT kvs) ∧ ∀ p bs, H p = none → IsKeys H kvs bs → Q (.ref p) (upd H p (.lst (bs.map V.ref)))
theorem c_listT {X : Cx} (hc : X.calm = true) : CallR X (.type "list") rListT := call_list_dT hc
theorem dnewT {Q : VK} {σ : L2.St} {H : Hp} (h : ∀ p H1, H p = none → Kp [] H H1 → H1 p = some (.dT []) → Q (.ref p) H1) : tDNewT σ H Q := mk h
/-- a key as data -/
def kD : Key → PyData
  | .inl i => .int i
  | .inr s => .str s
def keyD (k : List Key) : PyData := .tuple (k.map kD)
theorem dp_keys {K : PySem.W.Frag} {H : Hp} : ∀ k : List Key, DpAll K H (k.map kV) (k.map kD)
  | [] => .nil
  | .inl i :: r => .cons (.int i) (dp_keys r)
  | .inr s :: r => .cons (.str s) (dp_keys r)
theorem dp_key {K : PySem.W.Frag} {H : Hp} {b : Addr} {k : List Key} (h : H b = some (.tup (k.map kV))) : Dp K H (.ref b) (keyD k) := .tup (tupT h) (dp_keys k)
theorem keys_depth : ∀ k : List Key, PyData.depthAll (k.map kD) ≤ 1
  | [] => by simp [PyData.depthAll]
  | .inl i :: r => by
    have := keys_depth r
    simp [PyData.depthAll, kD, PyData.depth]
    omega
  | .inr s :: r => by
    have := keys_depth r
    simp [PyData.depthAll, kD, PyData.depth]
    omega
theorem keys_lay : ∀ k : List Key, (∀ s, Sum.inr s ∈ k → PyData.strOk s = true) → PyData.canLayAll0 (k.map kD) = true
  | [], _ => by simp [PyData.canLayAll0]
  | .inl i :: r, h => by
    have := keys_lay r fun s hs => h s (by simp [hs])
    simp [PyData.canLayAll0, kD, PyData.canLay0, this]
  | .inr s :: r, h => by
    have := keys_lay r fun s hs => h s (by simp [hs])
    simp [PyData.canLayAll0, kD, PyData.canLay0, this, h s]
theorem keys_flat : ∀ k : List Key, LamK.noLstAll (k.map kD) = true
  | [] => by simp [LamK.noLstAll]
  | .inl i :: r => by
    have := keys_flat r
    simp [LamK.noLstAll, LamK.noLst, kD, this]
  | .inr s :: r => by
    have := keys_flat r
    simp [LamK.noLstAll, LamK.noLst, kD, this]
end GT


namespace K12
open PySem L2 Z
def topS (i : Nat) : Stmt := PySem.Challenge.pw_samphire_k12_moments_and_mixtures.main.body.getD i (.Pass ⟨0, 0, 0, 0⟩)
abbrev s_lowest : Stmt := topS 8
abbrev N_lowest : List Str := ["p", "q", "common"]
theorem sc_lowest : FnScope N_lowest ["p", "q"] (defScope s_lowest) := ⟨rfl, rfl, rfl, by decide +kernel, rfl, by decide +kernel, by decide +kernel⟩
abbrev s_plus : Stmt := topS 9
abbrev N_plus : List Str := ["a", "b"]
theorem sc_plus : FnScope N_plus ["a", "b"] (defScope s_plus) := ⟨rfl, rfl, rfl, by decide +kernel, rfl, by decide +kernel, by decide +kernel⟩
abbrev s_minus : Stmt := topS 10
abbrev N_minus : List Str := ["a", "b"]
theorem sc_minus : FnScope N_minus ["a", "b"] (defScope s_minus) := ⟨rfl, rfl, rfl, by decide +kernel, rfl, by decide +kernel, by decide +kernel⟩
abbrev s_times : Stmt := topS 11
abbrev N_times : List Str := ["a", "b"]
theorem sc_times : FnScope N_times ["a", "b"] (defScope s_times) := ⟨rfl, rfl, rfl, by decide +kernel, rfl, by decide +kernel, by decide +kernel⟩
abbrev s_less : Stmt := topS 12
abbrev N_less : List Str := ["a", "b"]
theorem sc_less : FnScope N_less ["a", "b"] (defScope s_less) := ⟨rfl, rfl, rfl, by decide +kernel, rfl, by decide +kernel, by decide +kernel⟩
abbrev s_sum_of : Stmt := topS 13
abbrev N_sum_of : List Str := ["fractions", "total", "fraction"]
theorem sc_sum_of : FnScope N_sum_of ["fractions"] (defScope s_sum_of) := ⟨rfl, rfl, rfl, by decide +kernel, rfl, by decide +kernel, by decide +kernel⟩
abbrev s_check_chances : Stmt := topS 15
abbrev N_check_chances : List Str := ["chances", "chance"]
theorem sc_check_chances : FnScope N_check_chances ["chances"] (defScope s_check_chances) := ⟨rfl, rfl, rfl, by decide +kernel, rfl, by decide +kernel, by decide +kernel⟩
abbrev s_law_from : Stmt := topS 16
abbrev N_law_from : List Str := ["rows", "found", "outcome", "chance"]
theorem sc_law_from : FnScope N_law_from ["rows"] (defScope s_law_from) := ⟨rfl, rfl, rfl, by decide +kernel, rfl, by decide +kernel, by decide +kernel⟩
abbrev s_mean : Stmt := topS 17
abbrev N_mean : List Str := ["rows", "number", "chance"]
theorem sc_mean : FnScope N_mean ["rows"] (defScope s_mean) := ⟨rfl, rfl, rfl, by decide +kernel, rfl, by decide +kernel, by decide +kernel⟩
abbrev s_variance : Stmt := topS 18
abbrev N_variance : List Str := ["rows", "number", "chance"]
theorem sc_variance : FnScope N_variance ["rows"] (defScope s_variance) := ⟨rfl, rfl, rfl, by decide +kernel, rfl, by decide +kernel, by decide +kernel⟩
abbrev s_covariance : Stmt := topS 19
abbrev N_covariance : List Str := ["rows", "middle", "other_middle", "products", "number", "other", "chance"]
theorem sc_covariance : FnScope N_covariance ["rows"] (defScope s_covariance) := ⟨rfl, rfl, rfl, by decide +kernel, rfl, by decide +kernel, by decide +kernel⟩
abbrev s_mixed : Stmt := topS 20
abbrev N_mixed : List Str := ["laws", "chances", "rows", "part", "share", "outcome", "chance"]
theorem sc_mixed : FnScope N_mixed ["laws", "chances"] (defScope s_mixed) := ⟨rfl, rfl, rfl, by decide +kernel, rfl, by decide +kernel, by decide +kernel⟩
abbrev s_joined : Stmt := topS 21
abbrev N_joined : List Str := ["first", "second", "rows", "outcome", "chance", "other", "share"]
theorem sc_joined : FnScope N_joined ["first", "second"] (defScope s_joined) := ⟨rfl, rfl, rfl, by decide +kernel, rfl, by decide +kernel, by decide +kernel⟩
abbrev s__law_deck : Stmt := topS 23
abbrev N__law_deck : List Str := ["script"]
theorem sc__law_deck : FnScope N__law_deck ["script"] (defScope s__law_deck) := ⟨rfl, rfl, rfl, by decide +kernel, rfl, by decide +kernel, by decide +kernel⟩
abbrev s__law_draw : Stmt := topS 24
abbrev N__law_draw : List Str := ["deck", "most", "value", "cell"]
theorem sc__law_draw : FnScope N__law_draw ["deck", "most"] (defScope s__law_draw) := ⟨rfl, rfl, rfl, by decide +kernel, rfl, by decide +kernel, by decide +kernel⟩
abbrev s__law_low : Stmt := topS 25
abbrev N__law_low : List Str := ["p", "q", "first", "second", "turn"]
theorem sc__law_low : FnScope N__law_low ["p", "q"] (defScope s__law_low) := ⟨rfl, rfl, rfl, by decide +kernel, rfl, by decide +kernel, by decide +kernel⟩
abbrev s__law_plus : Stmt := topS 26
abbrev N__law_plus : List Str := ["one", "other"]
theorem sc__law_plus : FnScope N__law_plus ["one", "other"] (defScope s__law_plus) := ⟨rfl, rfl, rfl, by decide +kernel, rfl, by decide +kernel, by decide +kernel⟩
abbrev s__law_times : Stmt := topS 27
abbrev N__law_times : List Str := ["one", "other"]
theorem sc__law_times : FnScope N__law_times ["one", "other"] (defScope s__law_times) := ⟨rfl, rfl, rfl, by decide +kernel, rfl, by decide +kernel, by decide +kernel⟩
abbrev s__law_shares : Stmt := topS 29
abbrev N__law_shares : List Str := ["deck", "many", "numbers", "k", "number"]
theorem sc__law_shares : FnScope N__law_shares ["deck", "many"] (defScope s__law_shares) := ⟨rfl, rfl, rfl, by decide +kernel, rfl, by decide +kernel, by decide +kernel⟩
abbrev s__law_rows : Stmt := topS 30
abbrev N__law_rows : List Str := ["deck", "shares", "share"]
theorem sc__law_rows : FnScope N__law_rows ["deck"] (defScope s__law_rows) := ⟨rfl, rfl, rfl, by decide +kernel, rfl, by decide +kernel, by decide +kernel⟩
abbrev s__law_gathered : Stmt := topS 31
abbrev N__law_gathered : List Str := ["rows", "sums", "outcome", "chance"]
theorem sc__law_gathered : FnScope N__law_gathered ["rows"] (defScope s__law_gathered) := ⟨rfl, rfl, rfl, by decide +kernel, rfl, by decide +kernel, by decide +kernel⟩
abbrev s__law_mean : Stmt := topS 32
abbrev N__law_mean : List Str := ["rows", "total", "number", "chance"]
theorem sc__law_mean : FnScope N__law_mean ["rows"] (defScope s__law_mean) := ⟨rfl, rfl, rfl, by decide +kernel, rfl, by decide +kernel, by decide +kernel⟩
abbrev s__law_minus : Stmt := topS 33
abbrev N__law_minus : List Str := ["one", "other"]
theorem sc__law_minus : FnScope N__law_minus ["one", "other"] (defScope s__law_minus) := ⟨rfl, rfl, rfl, by decide +kernel, rfl, by decide +kernel, by decide +kernel⟩
abbrev s__law_spread : Stmt := topS 34
abbrev N__law_spread : List Str := ["rows", "squares", "middle", "number", "chance"]
theorem sc__law_spread : FnScope N__law_spread ["rows"] (defScope s__law_spread) := ⟨rfl, rfl, rfl, by decide +kernel, rfl, by decide +kernel, by decide +kernel⟩
abbrev s__law_refused : Stmt := topS 35
abbrev N__law_refused : List Str := ["laws", "chances", "e"]
theorem sc__law_refused : FnScope N__law_refused ["laws", "chances"] (defScope s__law_refused) := ⟨rfl, rfl, rfl, by decide +kernel, rfl, by decide +kernel, by decide +kernel⟩
abbrev s_law : Stmt := topS 36
abbrev N_law : List Str := ["script", "deck", "rows", "kept", "laws", "chances", "whole", "k", "told", "means", "inner", "other", "pairs", "triples", "products", "ones", "others", "number", "chance", "one", "pair", "second"]
theorem sc_law : FnScope N_law ["script"] (defScope s_law) := ⟨rfl, rfl, rfl, by decide +kernel, rfl, by decide +kernel, by decide +kernel⟩
abbrev s_ZeroDenominator_init : Stmt := inClass (topS 3) 0
abbrev N_ZeroDenominator_init : List Str := ["self", "__class__"]
theorem sc_ZeroDenominator_init : NdefX.NScope N_ZeroDenominator_init ["self"] ["__class__"] (defScope s_ZeroDenominator_init) := NdefX.nscope_by (by decide +kernel)
abbrev NF_ZeroDenominator (cc c : Addr) : NdefX.NF := ⟨"__init__", "ZeroDenominator.__init__", defArgs s_ZeroDenominator_init, defBody s_ZeroDenominator_init, defScope s_ZeroDenominator_init, [(("__class__" : Str), cc)], c⟩
abbrev s_InvalidLaw_init : Stmt := inClass (topS 4) 0
abbrev N_InvalidLaw_init : List Str := ["self", "__class__"]
theorem sc_InvalidLaw_init : NdefX.NScope N_InvalidLaw_init ["self"] ["__class__"] (defScope s_InvalidLaw_init) := NdefX.nscope_by (by decide +kernel)
abbrev NF_InvalidLaw (cc c : Addr) : NdefX.NF := ⟨"__init__", "InvalidLaw.__init__", defArgs s_InvalidLaw_init, defBody s_InvalidLaw_init, defScope s_InvalidLaw_init, [(("__class__" : Str), cc)], c⟩
structure T (P : Program) (K : PySem.W.Frag) (mg : Str → Option Value) (base : Heap) where
  a_lowest : Addr
  fd_lowest : FuncData
  F_lowest : Fun K "lowest" "lowest" s_lowest a_lowest fd_lowest
  b_lowest : Binds K fd_lowest ["p", "q"] []
  g_lowest : mg "lowest" = some (.ref a_lowest)
  a_plus : Addr
  fd_plus : FuncData
  F_plus : Fun K "plus" "plus" s_plus a_plus fd_plus
  b_plus : Binds K fd_plus ["a", "b"] []
  g_plus : mg "plus" = some (.ref a_plus)
  a_minus : Addr
  fd_minus : FuncData
  F_minus : Fun K "minus" "minus" s_minus a_minus fd_minus
  b_minus : Binds K fd_minus ["a", "b"] []
  g_minus : mg "minus" = some (.ref a_minus)
  a_times : Addr
  fd_times : FuncData
  F_times : Fun K "times" "times" s_times a_times fd_times
  b_times : Binds K fd_times ["a", "b"] []
  g_times : mg "times" = some (.ref a_times)
  a_less : Addr
  fd_less : FuncData
  F_less : Fun K "less" "less" s_less a_less fd_less
  b_less : Binds K fd_less ["a", "b"] []
  g_less : mg "less" = some (.ref a_less)
  a_sum_of : Addr
  fd_sum_of : FuncData
  F_sum_of : Fun K "sum_of" "sum_of" s_sum_of a_sum_of fd_sum_of
  b_sum_of : Binds K fd_sum_of ["fractions"] []
  g_sum_of : mg "sum_of" = some (.ref a_sum_of)
  a_check_chances : Addr
  fd_check_chances : FuncData
  F_check_chances : Fun K "check_chances" "check_chances" s_check_chances a_check_chances fd_check_chances
  b_check_chances : Binds K fd_check_chances ["chances"] []
  g_check_chances : mg "check_chances" = some (.ref a_check_chances)
  a_law_from : Addr
  fd_law_from : FuncData
  F_law_from : Fun K "law_from" "law_from" s_law_from a_law_from fd_law_from
  b_law_from : Binds K fd_law_from ["rows"] []
  g_law_from : mg "law_from" = some (.ref a_law_from)
  a_mean : Addr
  fd_mean : FuncData
  F_mean : Fun K "mean" "mean" s_mean a_mean fd_mean
  b_mean : Binds K fd_mean ["rows"] []
  g_mean : mg "mean" = some (.ref a_mean)
  a_variance : Addr
  fd_variance : FuncData
  F_variance : Fun K "variance" "variance" s_variance a_variance fd_variance
  b_variance : Binds K fd_variance ["rows"] []
  g_variance : mg "variance" = some (.ref a_variance)
  a_covariance : Addr
  fd_covariance : FuncData
  F_covariance : Fun K "covariance" "covariance" s_covariance a_covariance fd_covariance
  b_covariance : Binds K fd_covariance ["rows"] []
  g_covariance : mg "covariance" = some (.ref a_covariance)
  a_mixed : Addr
  fd_mixed : FuncData
  F_mixed : Fun K "mixed" "mixed" s_mixed a_mixed fd_mixed
  b_mixed : Binds K fd_mixed ["laws", "chances"] []
  g_mixed : mg "mixed" = some (.ref a_mixed)
  a_joined : Addr
  fd_joined : FuncData
  F_joined : Fun K "joined" "joined" s_joined a_joined fd_joined
  b_joined : Binds K fd_joined ["first", "second"] []
  g_joined : mg "joined" = some (.ref a_joined)
  a__law_deck : Addr
  fd__law_deck : FuncData
  F__law_deck : Fun K "_law_deck" "_law_deck" s__law_deck a__law_deck fd__law_deck
  b__law_deck : Binds K fd__law_deck ["script"] []
  g__law_deck : mg "_law_deck" = some (.ref a__law_deck)
  a__law_draw : Addr
  fd__law_draw : FuncData
  F__law_draw : Fun K "_law_draw" "_law_draw" s__law_draw a__law_draw fd__law_draw
  b__law_draw : Binds K fd__law_draw ["deck", "most"] []
  g__law_draw : mg "_law_draw" = some (.ref a__law_draw)
  a__law_low : Addr
  fd__law_low : FuncData
  F__law_low : Fun K "_law_low" "_law_low" s__law_low a__law_low fd__law_low
  b__law_low : Binds K fd__law_low ["p", "q"] []
  g__law_low : mg "_law_low" = some (.ref a__law_low)
  a__law_plus : Addr
  fd__law_plus : FuncData
  F__law_plus : Fun K "_law_plus" "_law_plus" s__law_plus a__law_plus fd__law_plus
  b__law_plus : Binds K fd__law_plus ["one", "other"] []
  g__law_plus : mg "_law_plus" = some (.ref a__law_plus)
  a__law_times : Addr
  fd__law_times : FuncData
  F__law_times : Fun K "_law_times" "_law_times" s__law_times a__law_times fd__law_times
  b__law_times : Binds K fd__law_times ["one", "other"] []
  g__law_times : mg "_law_times" = some (.ref a__law_times)
  a__law_shares : Addr
  fd__law_shares : FuncData
  F__law_shares : Fun K "_law_shares" "_law_shares" s__law_shares a__law_shares fd__law_shares
  b__law_shares : Binds K fd__law_shares ["deck", "many"] []
  g__law_shares : mg "_law_shares" = some (.ref a__law_shares)
  a__law_rows : Addr
  fd__law_rows : FuncData
  F__law_rows : Fun K "_law_rows" "_law_rows" s__law_rows a__law_rows fd__law_rows
  b__law_rows : Binds K fd__law_rows ["deck"] []
  g__law_rows : mg "_law_rows" = some (.ref a__law_rows)
  a__law_gathered : Addr
  fd__law_gathered : FuncData
  F__law_gathered : Fun K "_law_gathered" "_law_gathered" s__law_gathered a__law_gathered fd__law_gathered
  b__law_gathered : Binds K fd__law_gathered ["rows"] []
  g__law_gathered : mg "_law_gathered" = some (.ref a__law_gathered)
  a__law_mean : Addr
  fd__law_mean : FuncData
  F__law_mean : Fun K "_law_mean" "_law_mean" s__law_mean a__law_mean fd__law_mean
  b__law_mean : Binds K fd__law_mean ["rows"] []
  g__law_mean : mg "_law_mean" = some (.ref a__law_mean)
  a__law_minus : Addr
  fd__law_minus : FuncData
  F__law_minus : Fun K "_law_minus" "_law_minus" s__law_minus a__law_minus fd__law_minus
  b__law_minus : Binds K fd__law_minus ["one", "other"] []
  g__law_minus : mg "_law_minus" = some (.ref a__law_minus)
  a__law_spread : Addr
  fd__law_spread : FuncData
  F__law_spread : Fun K "_law_spread" "_law_spread" s__law_spread a__law_spread fd__law_spread
  b__law_spread : Binds K fd__law_spread ["rows"] []
  g__law_spread : mg "_law_spread" = some (.ref a__law_spread)
  a__law_refused : Addr
  fd__law_refused : FuncData
  F__law_refused : Fun K "_law_refused" "_law_refused" s__law_refused a__law_refused fd__law_refused
  b__law_refused : Binds K fd__law_refused ["laws", "chances"] []
  g__law_refused : mg "_law_refused" = some (.ref a__law_refused)
  a_law : Addr
  fd_law : FuncData
  F_law : Fun K "law" "law" s_law a_law fd_law
  b_law : Binds K fd_law ["script"] []
  g_law : mg "law" = some (.ref a_law)
  C_SamphireError : Addr
  mg_SamphireError : mg "SamphireError" = some (.ref C_SamphireError)
  C_ZeroDenominator : Addr
  a_ZeroDenominator_init : Addr
  c_ZeroDenominator : Addr
  cc_ZeroDenominator : Addr
  x_ZeroDenominator : Sup.ExcT P K mg "ZeroDenominator" C_ZeroDenominator a_ZeroDenominator_init c_ZeroDenominator cc_ZeroDenominator
  doc_ZeroDenominator : Value
  pm_ZeroDenominator : Value
  ctv_ZeroDenominator : Value
  oc_ZeroDenominator : Value
  od_ZeroDenominator : Option Addr
  osl_ZeroDenominator : Array (Option Value)
  lk_ZeroDenominator : K.lookup a_ZeroDenominator_init = some ⟨oc_ZeroDenominator, od_ZeroDenominator, .func ((NF_ZeroDenominator cc_ZeroDenominator c_ZeroDenominator).fd doc_ZeroDenominator pm_ZeroDenominator ctv_ZeroDenominator), osl_ZeroDenominator⟩
  hc_ZeroDenominator : PySem.W.codeIn K (.ref c_ZeroDenominator) "ZeroDenominator.__init__" = true
  bx_ZeroDenominator : Binds K ((NF_ZeroDenominator cc_ZeroDenominator c_ZeroDenominator).fd doc_ZeroDenominator pm_ZeroDenominator ctv_ZeroDenominator) ["self"] []
  C_InvalidLaw : Addr
  a_InvalidLaw_init : Addr
  c_InvalidLaw : Addr
  cc_InvalidLaw : Addr
  x_InvalidLaw : Sup.ExcT P K mg "InvalidLaw" C_InvalidLaw a_InvalidLaw_init c_InvalidLaw cc_InvalidLaw
  doc_InvalidLaw : Value
  pm_InvalidLaw : Value
  ctv_InvalidLaw : Value
  oc_InvalidLaw : Value
  od_InvalidLaw : Option Addr
  osl_InvalidLaw : Array (Option Value)
  lk_InvalidLaw : K.lookup a_InvalidLaw_init = some ⟨oc_InvalidLaw, od_InvalidLaw, .func ((NF_InvalidLaw cc_InvalidLaw c_InvalidLaw).fd doc_InvalidLaw pm_InvalidLaw ctv_InvalidLaw), osl_InvalidLaw⟩
  hc_InvalidLaw : PySem.W.codeIn K (.ref c_InvalidLaw) "InvalidLaw.__init__" = true
  bx_InvalidLaw : Binds K ((NF_InvalidLaw cc_InvalidLaw c_InvalidLaw).fd doc_InvalidLaw pm_InvalidLaw ctv_InvalidLaw) ["self"] []
  kit_InvalidLaw_SamphireError : PySem.W.kitOne K (.ref C_InvalidLaw) (.ref C_SamphireError) = some true
  z_abs : mg "abs" = none
  z_int : mg "int" = none
  z_isinstance : mg "isinstance" = none
  z_len : mg "len" = none
  z_list : mg "list" = none
  z_range : mg "range" = none
  z_sorted : mg "sorted" = none
  z_sum : mg "sum" = none
  z_super : mg "super" = none
  z_zip : mg "zip" = none
  k_ZERO : Addr
  g_ZERO : mg "ZERO" = some (.ref k_ZERO)
  q_ZERO : ∀ H, SqT K H k_ZERO [.int (0), .int (1)]
  k_ONE : Addr
  g_ONE : mg "ONE" = some (.ref k_ONE)
  q_ONE : ∀ H, SqT K H k_ONE [.int (1), .int (1)]
  g_gcd : mg "gcd" = some (.builtin "math.gcd")
  c_law_from : Addr
  P_law_from : Addr
  TB_law_from : LamX.TabB base mg c_law_from P_law_from
  L_law_from : LamK.CodeFn K a_law_from fd_law_from s_law_from "law_from" c_law_from
/-! ### the walk by single steps -/
local macro_rules | `(tactic| walk_at "z1") => `(tactic| first
  | with_reducible refine Z.seq ?_
  | with_reducible refine Z.asg ?_
  | ((with_reducible refine' Z.gname ?zv ?_); (case zv => first | (dsimp only [List.set]; done) | (dsimp only [List.set]; exact rfl)))
  | ((with_reducible refine' Z.var ?zv ?_); (case zv => exact rfl))
  | with_reducible refine Z.cst ?_
  | with_reducible refine Z.op ?_
  | with_reducible refine Z.un ?_
  | with_reducible refine Z.i0 ?_
  | with_reducible refine Z.iU ?_
  | with_reducible refine Z.eqII ?_
  | with_reducible refine Z.neII ?_
  | with_reducible refine Z.eqSS ?_
  | with_reducible refine Z.neSS ?_
  | with_reducible refine Z.eqBB ?_
  | with_reducible refine Z.neBB ?_
  | with_reducible refine Z.bl' ?_
  | with_reducible refine Z.test ?_
  | with_reducible refine Z.tbb ?_
  | with_reducible refine Z.tand ?_
  | with_reducible refine Z.tor ?_
  | with_reducible refine Z.tnot ?_
  | with_reducible refine Z.tyes ?_
  | with_reducible refine Z.andV ?_
  | with_reducible refine Z.orV ?_
  | with_reducible refine Z.notV ?_
  | with_reducible refine Z.ifE ?_
  | with_reducible refine Z.chain ?_
  | with_reducible refine Z.yesB ?_
  | with_reducible refine Z.noB ?_
  | with_reducible refine Z.noNB ?_
  | with_reducible refine Z.yesNB ?_
  | with_reducible refine Z.nil ?_
  | with_reducible refine Z.cons ?_
  | with_reducible refine Z.cb ?_
  | with_reducible refine Z.call ?_
  | with_reducible refine Z.meth ?_
  | with_reducible refine Z.fld ?_
  | with_reducible refine Z.int1 ?_
  | with_reducible refine Z.intb ?_
  | with_reducible refine Z.abs1 ?_
  | with_reducible refine Z.gcons ?_
  | with_reducible refine Z.gnil ?_
  | with_reducible refine Z.gcd ?_
  | ((with_reducible refine' Z.par2 ?zv ?_); (case zv => first | (dsimp only [List.set]; done) | (dsimp only [List.set]; exact rfl)))
  | with_reducible refine Z.isN ?_
  | with_reducible refine Z.notN ?_
  | with_reducible refine Z.inSg ?_
  | with_reducible refine Z.ninSg ?_
  | with_reducible refine Z.tup ?_
  | with_reducible refine Z.lst ?_
  | with_reducible refine Z.gsub ?_
  | with_reducible refine Z.par ?_
  | ((with_reducible refine' Z.aug ?zv ?_); (case zv => exact rfl))
  | with_reducible refine Z.ipI' ?_
  | with_reducible refine Z.ifs ?_
  | with_reducible refine Z.ret ?_
  | with_reducible refine Z.retN ?_
  | with_reducible refine Z.next ?_
  | with_reducible refine Z.brk ?_
  | with_reducible refine Z.drop ?_
  | with_reducible refine Z.bm ?_
  | with_reducible refine Z.bm0 ?_
  | with_reducible refine Z.sfld ?_
  | with_reducible refine Z.sfldaug ?_
  | with_reducible refine Z.radd ?_
  | with_reducible refine Z.make ?_
  | with_reducible refine Z.lc ?_
  | with_reducible refine Z.rng1 ?_
  | with_reducible refine Z.ilist ?_
  | with_reducible refine Z.itup ?_
  | with_reducible refine Z.for_ ?_
  | with_reducible refine Z.istr ?_
  | with_reducible refine Z.ienum ?_
  | with_reducible refine Z.izip ?_
  | with_reducible refine Z.irng2 ?_
  | with_reducible refine LamK.srt ?_
  | with_reducible refine Z.irevr ?_
  | with_reducible refine Z.rg1 ?_
  | with_reducible refine LamK.methX ?_
  | with_reducible refine Z.augs ?_
  | with_reducible refine Z.ienumS ?_
  | with_reducible refine Z.din ?_
  | with_reducible refine Z.dput ?_
  | with_reducible refine Z.dget ?_
  | with_reducible refine Z.dget2 ?_
  | with_reducible refine Z.sl ?_
  | with_reducible refine Z.slno ?_
  | with_reducible refine Z.slpart ?_
  | with_reducible refine Z.bint ?_
  | with_reducible refine Z.listrev ?_
  | with_reducible refine Z.revl ?_
  | dsimp only)
local macro_rules | `(tactic| walk_at "z0") => `(tactic| ((try simp only [Z.cxK]); (try dsimp only [L2.start, List.map, List.length, Nat.reduceAdd, Nat.reduceSub, List.replicate, List.cons_append, List.nil_append])))
local macro_rules | `(tactic| walk_at "z") => `(tactic| (repeat (walk_at "z1")))

/-! ### the deck of a law: _law_deck, _law_draw -/
def DeckOk (H : Hp) (a p : Addr) : Prop := ∃ (ns : List Int) (i : Nat) (r s : Int), H a = some (.lst [.ref p, .int (i : Int), .int r, .int s]) ∧ H p = some (.lst (ns.map V.int)) ∧ p ≠ a
theorem DeckOk.ne {H : Hp} {a p l : Addr} (d : DeckOk H a p) (h : H l = none) : a ≠ l ∧ p ≠ l := by
  obtain ⟨ns, i, r, s, ha, hp, _⟩ := d
  exact ⟨ne_of_none ha h, ne_of_none hp h⟩
theorem DeckOk.kp {M : List Addr} {H H' : Hp} {a p : Addr} (d : DeckOk H a p) (k : Kp M H H') (n1 : a ∉ M) (n2 : p ∉ M) : DeckOk H' a p := by
  obtain ⟨ns, i, r, s, ha, hp, hne⟩ := d
  exact ⟨ns, i, r, s, k _ _ n1 ha, k _ _ n2 hp, hne⟩
theorem DeckOk.kp0 {H H' : Hp} {a p : Addr} (d : DeckOk H a p) (k : Kp [] H H') : DeckOk H' a p := d.kp k nin0 nin0
theorem DeckOk.upd {H : Hp} {a p l : Addr} {o : HO} (d : DeckOk H a p) (n1 : a ≠ l) (n2 : p ≠ l) : DeckOk (upd H l o) a p := by
  obtain ⟨ns, i, r, s, ha, hp, hne⟩ := d
  exact ⟨ns, i, r, s, (upd_ne n1).trans ha, (upd_ne n2).trans hp, hne⟩
def spDeck (K : PySem.W.Frag) : Sp := fun vs H Q _ => ∃ (c : Addr) (ns : List Int), vs = [.ref c] ∧ SqL K H c (ns.map V.int) ∧ ∀ a p H', H a = none → H p = none → Kp [] H H' → DeckOk H' a p → Q (.ref a) H'
theorem ok__law_deck {P : Program} {w : World} {K : PySem.W.Frag} {mg : Str → Option Value} {base : Heap} (T : T P K mg base) : FnOk P w K mg base CX0 1 T.a__law_deck T.fd__law_deck ["script"] (spDeck K) := by
  refine T.F__law_deck.ok sc__law_deck (fun vs H Q E h => ?_) (fun cdv A outer s H vs Q E hr h => ?_)
  · obtain ⟨c, ns, rfl, _⟩ := h
    rfl
  · obtain ⟨c, ns, rfl, hS, q⟩ := h
    refine ⟨_, (pss_one (ps_ret (pe_lst (pa_cons (pe_callTy c_list (by rfl) T.z_list (by decide +kernel) (pa_cons (pv 0) pa_nil)) (pa_cons pe_int (pa_cons pe_int (pa_cons pe_int pa_nil))))))), ?_⟩
    walk_at "z0"
    walk_at "z"
    refine Z.listL hS fun p H1 np k1 e1 => ?_
    walk_at "z"
    refine Z.lstK (fun a H2 na k2 e2 => ?_)
    refine q a p H2 (k1.none nin0 na) np (k1.trans k2) ⟨ns, 0, 0, 7, e2, k2.get nin0 e1, ?_⟩
    exact ne_of_none e1 na
def spDraw (K : PySem.W.Frag) : Sp := fun vs H Q _ => ∃ (a p : Addr) (m : Int), vs = [.ref a, .int m] ∧ DeckOk H a p ∧ 1 ≤ m ∧ m < 18446744073709551616 ∧ ∀ H' v, 0 ≤ v → v < m → Kp [a] H H' → DeckOk H' a p → Q (.int v) H'
theorem at4 {p : Addr} {i r s : Int} (v : V) (j : Nat) (h : [V.ref p, .int i, .int r, .int s][j]? = some v) : atI [V.ref p, .int i, .int r, .int s] (j : Int) = some v := atI_nat h
theorem pow18 : (10 : Int) ^ (18 : Int).toNat = 1000000000000000000 := by decide
theorem ok__law_draw {P : Program} {w : World} {K : PySem.W.Frag} {mg : Str → Option Value} {base : Heap} (T : T P K mg base) : FnOk P w K mg base CX0 1 T.a__law_draw T.fd__law_draw ["deck", "most"] (spDraw K) := by
  refine T.F__law_draw.ok sc__law_draw (fun vs H Q E h => ?_) (fun cdv A outer s H vs Q E hr h => ?_)
  · obtain ⟨a, p, m, rfl, _⟩ := h
    rfl
  · obtain ⟨a, p, m, rfl, ⟨ns, i, r, s, ha, hp, hne⟩, hm1, hm2, q⟩ := h
    have hdiv : CDivW r m := wide_div (b := 64) (by omega) (by omega) (by decide) (by decide)
    refine ⟨_, (pss_cons (ps_if (pt_cmpR op_ge (pe_ix ix_list (pv 0) pe_int (fun _ _ => rfl)) (pv 1) (nomark _)) (pss_cons (ps_set (i := 2) sc__law_draw.nd rfl (by first | exact Or.inl rfl | exact Or.inr rfl) (pe_op op_mod (pe_callTy c_int (by rfl) T.z_int (by decide +kernel) (pa_cons (pe_ix ix_list (pv 0) pe_int (fun _ _ => rfl)) pa_nil)) (pv 1)))
      (pss_cons (ps_asg (pe_op op_fdivW (pe_ix ix_list (pv 0) pe_int (fun _ _ => rfl)) (pv 1)) (pg_sub (pv 0) pe_int set_list))
      (pss_one (ps_ret (pv 2))))) pss_nil)
      (pss_cons (ps_set (i := 3) sc__law_draw.nd rfl (by first | exact Or.inl rfl | exact Or.inr rfl) pe_int)
      (Z.pss_consJ (ps_if (pt_cmpR op_lt (pe_ix ix_list (pv 0) pe_int (fun _ _ => rfl)) (pe_callB c_len (by rfl) T.z_len (by decide +kernel) (pa_cons (pe_ix ix_list (pv 0) pe_int (fun _ _ => rfl)) pa_nil)) (nomark _)) (pss_one (ps_set (i := 3) sc__law_draw.nd rfl (by first | exact Or.inl rfl | exact Or.inr rfl) (pe_ix ix_list (pe_ix ix_list (pv 0) pe_int (fun _ _ => rfl)) (pe_ix ix_list (pv 0) pe_int (fun _ _ => rfl)) (fun _ _ => rfl)))) pss_nil)
      (pss_cons (ps_asg (pe_op op_add (pe_ix ix_list (pv 0) pe_int (fun _ _ => rfl)) pe_int) (pg_sub (pv 0) pe_int set_list))
      (pss_cons (ps_asg pe_int (pg_sub (pv 0) pe_int set_list))
      (pss_cons (ps_if (pt_cmpR op_ge (pv 3) (pe_op op_pow pe_int pe_int) (nomark _)) (pss_cons (ps_asg (pe_op op_fdivW (pv 3) (pv 1)) (pg_sub (pv 0) pe_int set_list))
      (pss_one (ps_ret (pe_op op_mod (pe_callTy c_int (by rfl) T.z_int (by decide +kernel) (pa_cons (pv 3) pa_nil)) (pv 1))))) pss_nil)
      (pss_cons (ps_asg (pe_op op_mod (pe_callTy c_int (by rfl) T.z_int (by decide +kernel) (pa_cons (pe_op op_add (pe_op op_add (pe_op op_mul (pe_ix ix_list (pv 0) pe_int (fun _ _ => rfl)) pe_int) (pe_op op_mul (pv 3) pe_int)) (pe_op op_mul (pe_ix ix_list (pv 0) pe_int (fun _ _ => rfl)) pe_int)) pa_nil)) pe_int) (pg_sub (pv 0) pe_int set_list))
      (pss_cons (ps_asg (pe_op op_mod (pe_callTy c_int (by rfl) T.z_int (by decide +kernel) (pa_cons (pe_op op_add (pe_op op_mul (pe_ix ix_list (pv 0) pe_int (fun _ _ => rfl)) pe_int) pe_int) pa_nil)) pe_int) (pg_sub (pv 0) pe_int set_list))
      (pss_one (ps_ret (pe_op op_mod (pe_callTy c_int (by rfl) T.z_int (by decide +kernel) (pa_cons (pe_op op_fdivW (pe_ix ix_list (pv 0) pe_int (fun _ _ => rfl)) pe_int) pa_nil)) (pv 1)))))))))))), ?_⟩
    walk_at "z0"
    walk_at "z"
    refine Z.ixL (lstL ha) (at4 _ 2 rfl) ?_
    walk_at "z"
    refine Z.ite (fun h1 => ?_) (fun h1 => ?_)
    · walk_at "z"
      refine Z.ixL (lstL ha) (at4 _ 2 rfl) ?_
      walk_at "z"
      refine Z.iC (by omega) ?_
      walk_at "z"
      refine Z.ixL (lstL ha) (at4 _ 2 rfl) ?_
      walk_at "z"
      refine Z.iC hdiv ?_
      walk_at "z"
      refine Z.setL ha (ixN_nat (j := 2) (by simp)) ?_
      walk_at "z"
      exact q _ _ (Int.emod_nonneg _ (by omega)) (Int.emod_lt_of_pos _ (by omega)) (Kp.put (by simp)) ⟨ns, i, r / m, s, upd_same, (upd_ne hne).trans hp, hne⟩
    · walk_at "z"
      refine Z.seqJ (fun σ' H' => ∃ c : Int, σ' = [some (.ref a), some (.int m), none, some (.int c)] ∧ H' = H) ?_ ?_
      · rintro σ' H' ⟨c, rfl, rfl⟩
        walk_at "z"
        refine Z.ixL (lstL ha) (at4 _ 1 rfl) ?_
        walk_at "z"
        refine Z.setL ha (ixN_nat (j := 1) (by simp)) ?_
        have ha1 : (upd H' a (.lst [.ref p, .int ((i + 1 : Nat) : Int), .int r, .int s])) a = some (.lst [.ref p, .int ((i + 1 : Nat) : Int), .int r, .int s]) := upd_same
        have hp1 : (upd H' a (.lst [.ref p, .int ((i + 1 : Nat) : Int), .int r, .int s])) p = some (.lst (ns.map V.int)) := (upd_ne hne).trans hp
        have k1 : Kp [a] H' (upd H' a (.lst [.ref p, .int ((i + 1 : Nat) : Int), .int r, .int s])) := Kp.put (by simp)
        dsimp only [List.set]
        rw [show ((i : Int) + 1) = ((i + 1 : Nat) : Int) by omega]
        revert ha1 hp1 k1
        generalize upd H' a (.lst [.ref p, .int ((i + 1 : Nat) : Int), .int r, .int s]) = H1
        intro ha1 hp1 k1
        walk_at "z"
        refine Z.setL ha1 (ixN_nat (j := 2) (by simp)) ?_
        dsimp only [List.set]
        have ha2 : (upd H1 a (.lst [.ref p, .int ((i + 1 : Nat) : Int), .int 0, .int s])) a = some (.lst [.ref p, .int ((i + 1 : Nat) : Int), .int 0, .int s]) := upd_same
        have hp2 : (upd H1 a (.lst [.ref p, .int ((i + 1 : Nat) : Int), .int 0, .int s])) p = some (.lst (ns.map V.int)) := (upd_ne hne).trans hp1
        have k2 : Kp [a] H' (upd H1 a (.lst [.ref p, .int ((i + 1 : Nat) : Int), .int 0, .int s])) := k1.trans (Kp.put (by simp))
        revert ha2 hp2 k2
        generalize upd H1 a (.lst [.ref p, .int ((i + 1 : Nat) : Int), .int 0, .int s]) = H2
        intro ha2 hp2 k2
        walk_at "z"
        refine Z.iC ⟨by decide, by decide, by decide⟩ ?_
        walk_at "z"
        refine Z.ite (fun h2 => ?_) (fun h2 => ?_)
        · walk_at "z"
          refine Z.iC hdiv ?_
          walk_at "z"
          refine Z.setL ha2 (ixN_nat (j := 2) (by simp)) ?_
          walk_at "z"
          refine Z.iC (by omega) ?_
          exact q _ _ (Int.emod_nonneg _ (by omega)) (Int.emod_lt_of_pos _ (by omega)) (k2.trans (Kp.put (by simp))) ⟨ns, i + 1, c / m, s, upd_same, (upd_ne hne).trans hp2, hne⟩
        · walk_at "z"
          refine Z.ixL (lstL ha2) (at4 _ 3 rfl) ?_
          walk_at "z"
          refine Z.iC (.inr (by decide)) ?_
          walk_at "z"
          refine Z.iC (.inr (by decide)) ?_
          walk_at "z"
          refine Z.ixL (lstL ha2) (at4 _ 1 rfl) ?_
          walk_at "z"
          refine Z.iC (.inr (by decide)) ?_
          walk_at "z"
          refine Z.iC (by decide) ?_
          walk_at "z"
          refine Z.setL ha2 (ixN_nat (j := 3) (by simp)) ?_
          dsimp only [List.set]
          generalize (s * 48271 + c * 69621 + ((i + 1 : Nat) : Int) * 911) % 2147483647 = s1
          have ha3 : (upd H2 a (.lst [.ref p, .int ((i + 1 : Nat) : Int), .int 0, .int s1])) a = some (.lst [.ref p, .int ((i + 1 : Nat) : Int), .int 0, .int s1]) := upd_same
          have hp3 : (upd H2 a (.lst [.ref p, .int ((i + 1 : Nat) : Int), .int 0, .int s1])) p = some (.lst (ns.map V.int)) := (upd_ne hne).trans hp2
          have k3 : Kp [a] H' (upd H2 a (.lst [.ref p, .int ((i + 1 : Nat) : Int), .int 0, .int s1])) := k2.trans (Kp.put (by simp))
          revert ha3 hp3 k3
          generalize upd H2 a (.lst [.ref p, .int ((i + 1 : Nat) : Int), .int 0, .int s1]) = H3
          intro ha3 hp3 k3
          walk_at "z"
          refine Z.ixL (lstL ha3) (at4 _ 3 rfl) ?_
          walk_at "z"
          refine Z.iC (.inr (by decide)) ?_
          walk_at "z"
          refine Z.iC (by decide) ?_
          walk_at "z"
          refine Z.setL ha3 (ixN_nat (j := 3) (by simp)) ?_
          dsimp only [List.set]
          generalize (s1 * 48271 + 12345) % 2147483647 = s2
          walk_at "z"
          refine Z.ixL (lstL upd_same) (at4 _ 3 rfl) ?_
          walk_at "z"
          refine Z.iC (wide_div (b := 64) (by decide) (by decide) (by decide) (by decide)) ?_
          walk_at "z"
          refine Z.iC (by omega) ?_
          exact q _ _ (Int.emod_nonneg _ (by omega)) (Int.emod_lt_of_pos _ (by omega)) (k3.trans (Kp.put (by simp))) ⟨ns, i + 1, 0, s2, upd_same, (upd_ne hne).trans hp3, hne⟩
      · intro N jn
        walk_at "z"
        refine Z.ixL (lstL ha) (at4 _ 1 rfl) ?_
        walk_at "z"
        refine Z.ixL (lstL ha) (at4 _ 0 rfl) ?_
        walk_at "z"
        refine Z.lenL (lstL hp) ?_
        walk_at "z"
        refine Z.ite (fun h2 => ?_) (fun h2 => ?_)
        · walk_at "z"
          refine Z.ixL (lstL ha) (at4 _ 0 rfl) ?_
          walk_at "z"
          refine Z.ixL (lstL ha) (at4 _ 1 rfl) ?_
          walk_at "z"
          have hi : i < ns.length := by
            rw [List.length_map] at h2
            omega
          refine Z.ixL (lstL hp) (atM (List.getElem?_eq_getElem hi)) ?_
          walk_at "z"
          exact jn _ _ ⟨_, rfl, rfl⟩
        · walk_at "z"
          exact jn _ _ ⟨_, rfl, rfl⟩

/-! ### sums of lists of ints -/
theorem sum_nonneg : ∀ {l : List Int}, (∀ n ∈ l, 0 ≤ n) → 0 ≤ l.sum
  | [], _ => by simp
  | a :: r, h => by
    have h1 := h a (by simp)
    have h2 := sum_nonneg (l := r) fun n hn => h n (by simp [hn])
    rw [List.sum_cons]
    omega
theorem sum_le {c : Int} : ∀ {l : List Int}, (∀ n ∈ l, n ≤ c) → l.sum ≤ c * l.length
  | [], _ => by simp
  | a :: r, h => by
    have h1 := h a (by simp)
    have h2 := sum_le (c := c) (l := r) fun n hn => h n (by simp [hn])
    rw [List.sum_cons, List.length_cons, show c * ((r.length + 1 : Nat) : Int) = c * r.length + c by rw [Int.natCast_add, Int.mul_add]; simp]
    omega
theorem sum_ge_mem : ∀ {l : List Int}, (∀ n ∈ l, 0 ≤ n) → ∀ x ∈ l, x ≤ l.sum
  | [], _, x, hx => by simp at hx
  | a :: r, h, x, hx => by
    have h1 := h a (by simp)
    have h3 := sum_nonneg (l := r) fun n hn => h n (by simp [hn])
    rw [List.sum_cons]
    rcases List.mem_cons.mp hx with e | e
    · omega
    · have h2 := sum_ge_mem (l := r) (fun n hn => h n (by simp [hn])) x e
      omega
theorem take_nonneg {l : List Int} (h : ∀ n ∈ l, 0 ≤ n) (i : Nat) : 0 ≤ (l.take i).sum := sum_nonneg fun n hn => h n (List.mem_of_mem_take hn)
/-! ### lists of ints as data -/
theorem layInts : ∀ ws : List Int, PyData.canLayAll0 (ws.map PyData.int) = true
  | [] => by simp [PyData.canLayAll0]
  | w :: r => by simp [PyData.canLayAll0, PyData.canLay0, layInts r]
theorem depthInts : ∀ ws : List Int, PyData.depthAll (ws.map PyData.int) = 0
  | [] => by simp [PyData.depthAll]
  | w :: r => by simp [PyData.depthAll, PyData.depth, depthInts r]
theorem shInts (ws : List Int) : SeqAt.shaped (.list (ws.map PyData.int)) = true := by
  simp [SeqAt.shaped, PyData.canLay0, PyData.depth, layInts, depthInts]
theorem dpInts {K : PySem.W.Frag} {H : Hp} : ∀ ws : List Int, DpAll K H (ws.map V.int) (ws.map PyData.int)
  | [] => .nil
  | w :: r => .cons (.int w) (dpInts r)
theorem dpI {K : PySem.W.Frag} {H : Hp} {a : Addr} {ws : List Int} (h : SqL K H a (ws.map V.int)) : Dp K H (.ref a) (.list (ws.map PyData.int)) := .lst h (dpInts ws)
theorem eqvI (ws : List Int) : PyData.eqv (.list (ws.map PyData.int)) (.list (ws.map PyData.int)) = true := SeqAt.eqv_refl _ (by simp [PyData.canLay0, layInts])
theorem neLL {K : PySem.W.Frag} {H : Hp} {Q : VK} {a b : Addr} {ws : List Int} (h1 : SqL K H a (ws.map V.int)) (h2 : SqL K H b (ws.map V.int)) (q : Q (.bl false) H) : rNeD K (.ref a) (.ref b) H Q :=
  ⟨_, _, dpI h1, dpI h2, shInts _, shInts _, by rw [eqvI]; exact q⟩
theorem eqLL {K : PySem.W.Frag} {H : Hp} {Q : VK} {a b : Addr} {ws : List Int} (h1 : SqL K H a (ws.map V.int)) (h2 : SqL K H b (ws.map V.int)) (q : Q (.bl true) H) : rEqD K (.ref a) (.ref b) H Q :=
  ⟨_, _, dpI h1, dpI h2, shInts _, shInts _, by rw [eqvI]; exact q⟩

/-! ### Euclid and lowest terms -/
def eStep (p : Nat × Nat) : Nat × Nat := if p.2 = 0 then p else (p.2, p.1 % p.2)
def euc : Nat → Nat × Nat → Nat × Nat
  | 0, p => p
  | i + 1, p => euc i (eStep p)
theorem euc_succ : ∀ (i : Nat) (p : Nat × Nat), euc (i + 1) p = eStep (euc i p)
  | 0, p => rfl
  | i + 1, p => euc_succ i (eStep p)
theorem eStep_gcd (p : Nat × Nat) : Nat.gcd (eStep p).1 (eStep p).2 = Nat.gcd p.1 p.2 := by
  unfold eStep
  split
  · rfl
  · show Nat.gcd p.2 (p.1 % p.2) = Nat.gcd p.1 p.2
    rw [Nat.gcd_comm p.1 p.2, Nat.gcd_rec p.2 p.1, Nat.gcd_comm]
theorem euc_gcd : ∀ (i : Nat) (p : Nat × Nat), Nat.gcd (euc i p).1 (euc i p).2 = Nat.gcd p.1 p.2
  | 0, p => rfl
  | i + 1, p => (euc_gcd i (eStep p)).trans (eStep_gcd p)
theorem eStep_zero {p : Nat × Nat} (h : p.2 = 0) : eStep p = p := if_pos h
theorem euc_zero : ∀ (i : Nat) {p : Nat × Nat}, p.2 = 0 → euc i p = p
  | 0, _, _ => rfl
  | i + 1, p, h => by
    show euc i (eStep p) = p
    rw [eStep_zero h]
    exact euc_zero i h
theorem eStep2 (p : Nat × Nat) : 2 * (eStep (eStep p)).2 ≤ p.2 := by
  obtain ⟨a, b⟩ := p
  by_cases hb : b = 0
  · rw [eStep_zero (p := (a, b)) hb, eStep_zero (p := (a, b)) hb]
    show 2 * b ≤ b
    omega
  · have e1 : eStep (a, b) = (b, a % b) := if_neg hb
    rw [e1]
    have hc : a % b < b := Nat.mod_lt _ (by omega)
    by_cases h0 : a % b = 0
    · rw [eStep_zero (p := (b, a % b)) h0]
      show 2 * (a % b) ≤ b
      omega
    · have e2 : eStep (b, a % b) = (a % b, b % (a % b)) := if_neg h0
      rw [e2]
      show 2 * (b % (a % b)) ≤ b
      have h1 : b % (a % b) < a % b := Nat.mod_lt _ (by omega)
      have h2 := Nat.div_add_mod b (a % b)
      have h3 : 1 ≤ b / (a % b) := Nat.div_pos (by omega) (by omega)
      have h4 : (a % b) * 1 ≤ (a % b) * (b / (a % b)) := Nat.mul_le_mul_left _ h3
      omega
theorem euc_end : ∀ (n : Nat) (p : Nat × Nat), p.2 < 2 ^ n → (euc (2 * n) p).2 = 0
  | 0, p, h => by
    have h' : p.2 < 1 := h
    show p.2 = 0
    omega
  | n + 1, p, h => by
    show (euc (2 * n) (eStep (eStep p))).2 = 0
    refine euc_end n _ ?_
    have := eStep2 p
    rw [Nat.pow_succ] at h
    omega
theorem euc_add : ∀ (i j : Nat) (p : Nat × Nat), euc (i + j) p = euc j (euc i p)
  | 0, j, p => by rw [Nat.zero_add]; rfl
  | i + 1, j, p => by
    rw [show i + 1 + j = (i + j) + 1 by omega]
    exact euc_add i j (eStep p)
theorem euc_5000 {p : Nat × Nat} (h : p.2 < 2 ^ 2400) : (euc 5000 p).2 = 0 := by
  rw [show (5000 : Nat) = 2 * 2400 + 200 from rfl, euc_add, euc_zero 200 (euc_end 2400 p h)]
  exact euc_end 2400 p h
def gN (p q : Int) : Nat := Nat.gcd p.natAbs q.natAbs
def gI (p q : Int) : Int := if q < 0 then -(gN p q : Int) else (gN p q : Int)
def lo (p q : Int) : Int × Int := (p.fdiv (gI p q), q.fdiv (gI p q))
theorem gN_pos {p q : Int} (h : q ≠ 0) : 0 < gN p q := Nat.gcd_pos_of_pos_right _ (by omega)
theorem gI_ne {p q : Int} (h : q ≠ 0) : gI p q ≠ 0 := by
  have := gN_pos (p := p) h
  unfold gI
  split <;> omega
theorem gN_le {p q : Int} (h : q ≠ 0) : gN p q ≤ q.natAbs := Nat.le_of_dvd (by omega) (Nat.gcd_dvd_right _ _)
theorem gI_abs (p q : Int) : (gI p q).natAbs = gN p q := by
  unfold gI
  split <;> omega
theorem dvdI {g : Nat} {p : Int} (h : g ∣ p.natAbs) : ∃ a : Int, p = (g : Int) * a ∧ p.natAbs = g * a.natAbs := by
  obtain ⟨c, hc⟩ := Int.ofNat_dvd_left.mpr h
  refine ⟨c, hc, ?_⟩
  rw [hc, Int.natAbs_mul]
  simp
/-- lowest terms: exactly divided, a denominator of at least 1, no common part -/
theorem lo_spec {p q : Int} (h : q ≠ 0) : ∃ a b : Int, lo p q = (a, b) ∧ 1 ≤ b ∧ Nat.gcd a.natAbs b.natAbs = 1 ∧ p = gI p q * a ∧ q = gI p q * b := by
  obtain ⟨a, ha, ha2⟩ := dvdI (Nat.gcd_dvd_left p.natAbs q.natAbs)
  obtain ⟨b, hb, hb2⟩ := dvdI (Nat.gcd_dvd_right p.natAbs q.natAbs)
  have hg := gN_pos (p := p) h
  have hcop : Nat.gcd a.natAbs b.natAbs = 1 := by
    have e := Nat.gcd_mul_left (gN p q) a.natAbs b.natAbs
    have e2 : gN p q * a.natAbs = p.natAbs := ha2.symm
    have e3 : gN p q * b.natAbs = q.natAbs := hb2.symm
    rw [e2, e3] at e
    have e4 : gN p q * 1 = gN p q * Nat.gcd a.natAbs b.natAbs := by rw [Nat.mul_one]; exact e
    exact (Nat.eq_of_mul_eq_mul_left hg e4).symm
  have ha' : p = (gN p q : Int) * a := ha
  have hb' : q = (gN p q : Int) * b := hb
  have gpos : (0 : Int) < (gN p q : Int) := by omega
  have hb0 : b ≠ 0 := fun z => by
    rw [z, Int.mul_zero] at hb'
    exact h hb'
  by_cases hq : q < 0
  · have eg : gI p q = -(gN p q : Int) := if_pos hq
    have hbn : b < 0 := by
      rcases Int.lt_or_le b 0 with z | z
      · exact z
      · have := Int.mul_nonneg (Int.le_of_lt gpos) z
        omega
    have ep : p = gI p q * -a := by rw [eg, Int.neg_mul_neg]; exact ha'
    have eq : q = gI p q * -b := by rw [eg, Int.neg_mul_neg]; exact hb'
    refine ⟨-a, -b, ?_, by omega, by rw [Int.natAbs_neg, Int.natAbs_neg]; exact hcop, ep, eq⟩
    have g0 := gI_ne (p := p) h
    unfold lo
    have f1 : p.fdiv (gI p q) = -a := by
      have := Int.mul_fdiv_cancel_left (-a) g0
      rw [← ep] at this
      exact this
    have f2 : q.fdiv (gI p q) = -b := by
      have := Int.mul_fdiv_cancel_left (-b) g0
      rw [← eq] at this
      exact this
    rw [f1, f2]
  · have eg : gI p q = (gN p q : Int) := if_neg hq
    have hbp : 0 < b := by
      rcases Int.lt_or_le 0 b with z | z
      · exact z
      · have := Int.mul_nonpos_of_nonneg_of_nonpos (Int.le_of_lt gpos) z
        omega
    have ep : p = gI p q * a := by rw [eg]; exact ha'
    have eq : q = gI p q * b := by rw [eg]; exact hb'
    refine ⟨a, b, ?_, by omega, hcop, ep, eq⟩
    have g0 := gI_ne (p := p) h
    unfold lo
    have f1 : p.fdiv (gI p q) = a := by
      have := Int.mul_fdiv_cancel_left a g0
      rw [← ep] at this
      exact this
    have f2 : q.fdiv (gI p q) = b := by
      have := Int.mul_fdiv_cancel_left b g0
      rw [← eq] at this
      exact this
    rw [f1, f2]
theorem lo_pos {p q : Int} (h : q ≠ 0) : 1 ≤ (lo p q).2 := by
  obtain ⟨a, b, e, h1, _⟩ := lo_spec (p := p) h
  rw [e]; exact h1
theorem lo_cop {p q : Int} (h : q ≠ 0) : Nat.gcd (lo p q).1.natAbs (lo p q).2.natAbs = 1 := by
  obtain ⟨a, b, e, _, h1, _⟩ := lo_spec (p := p) h
  rw [e]; exact h1
theorem abs_le_mul {g a : Int} (h : g ≠ 0) : a.natAbs ≤ (g * a).natAbs := by
  rw [Int.natAbs_mul]
  exact Nat.le_mul_of_pos_left _ (by omega)
theorem lo_abs1 {p q : Int} (h : q ≠ 0) : (lo p q).1.natAbs ≤ p.natAbs := by
  obtain ⟨a, b, e, _, _, h1, _⟩ := lo_spec (p := p) h
  rw [e]
  have := abs_le_mul (a := a) (gI_ne (p := p) h)
  rw [← h1] at this
  exact this
theorem lo_abs2 {p q : Int} (h : q ≠ 0) : (lo p q).2.natAbs ≤ q.natAbs := by
  obtain ⟨a, b, e, _, _, _, h1⟩ := lo_spec (p := p) h
  rw [e]
  have := abs_le_mul (a := b) (gI_ne (p := p) h)
  rw [← h1] at this
  exact this

/-! ### fractions: tuples of two ints -/
section frac
variable {K : PySem.W.Frag}
abbrev Fr := Int × Int
def frV (f : Fr) : List V := [.int f.1, .int f.2]
/-- at x there is no tuple -/
def NoTup (H : Hp) (x : Addr) : Prop := ∀ xs, ¬ Rd H x (.tup xs)
theorem NoTup.of {H : Hp} {x : Addr} {o : HO} (h : H x = some o) (n : ∀ xs, o ≠ .tup xs ∧ ∀ u, o ≠ .frz u (.tup xs)) : NoTup H x := fun xs r => by
  rcases r with r | ⟨u, r⟩
  · rw [h] at r; exact (n xs).1 (Option.some.inj r)
  · rw [h] at r; exact (n xs).2 u (Option.some.inj r)
theorem NoTup.lst {H : Hp} {x : Addr} {xs : List V} (h : H x = some (.lst xs)) : NoTup H x := NoTup.of h fun ys => ⟨by simp, by simp⟩
theorem NoTup.new {H : Hp} {x : Addr} (h : H x = none) : NoTup H x := fun xs r => by
  rcases r with r | ⟨u, r⟩ <;> rw [h] at r <;> cases r
theorem kpTup {K : PySem.W.Frag} {M : List Addr} {H H' : Hp} {a : Addr} {xs : List V} (h : SqT K H a xs) (k : Kp M H H') (n : ∀ x ∈ M, NoTup H x) : SqT K H' a xs := by
  rcases h with h | h
  · have na : a ∉ M := fun z => n a z xs h
    exact k.tup na (.inl h)
  · exact .inr h
/-- a fraction at a, a new one or one of the top -/
def FrAt (K : PySem.W.Frag) (H : Hp) (a : Addr) (f : Fr) : Prop := SqT K H a (frV f)
theorem FrAt.kp {M : List Addr} {H H' : Hp} {a : Addr} {f : Fr} (h : FrAt K H a f) (k : Kp M H H') (n : ∀ x ∈ M, NoTup H x) : FrAt K H' a f := kpTup h k n
theorem FrAt.kp0 {H H' : Hp} {a : Addr} {f : Fr} (h : FrAt K H a f) (k : Kp [] H H') : FrAt K H' a f := k.tup nin0 h
theorem FrAt.kpl {H H' : Hp} {a l : Addr} {f : Fr} {xs : List V} (h : FrAt K H a f) (k : Kp [l] H H') (e : H l = some (.lst xs)) : FrAt K H' a f := kpTup h k fun x hx => by
  rw [List.mem_singleton.mp hx]
  exact NoTup.lst e
theorem fr0 (f : Fr) : atI (frV f) 0 = some (.int f.1) := rfl
theorem fr1 (f : Fr) : atI (frV f) 1 = some (.int f.2) := rfl
/-- small enough for the machine's ints -/
def FrB (n : Nat) (f : Fr) : Prop := f.1.natAbs < 2 ^ n ∧ f.2.natAbs < 2 ^ n
theorem FrB.mono {n m : Nat} {f : Fr} (h : FrB n f) (l : n ≤ m) : FrB m f := ⟨Nat.lt_of_lt_of_le h.1 (Nat.pow_le_pow_right (by decide) l), Nat.lt_of_lt_of_le h.2 (Nat.pow_le_pow_right (by decide) l)⟩
theorem lo_B {n : Nat} {p q : Int} (h : q ≠ 0) (h1 : p.natAbs < 2 ^ n) (h2 : q.natAbs < 2 ^ n) : FrB n (lo p q) := ⟨Nat.lt_of_le_of_lt (lo_abs1 h) h1, Nat.lt_of_le_of_lt (lo_abs2 h) h2⟩
theorem add_B {n : Nat} {a b : Int} (h1 : a.natAbs < 2 ^ n) (h2 : b.natAbs < 2 ^ n) : (a + b).natAbs < 2 ^ (n + 1) := by
  rw [Nat.pow_succ]
  omega
theorem sub_B {n : Nat} {a b : Int} (h1 : a.natAbs < 2 ^ n) (h2 : b.natAbs < 2 ^ n) : (a - b).natAbs < 2 ^ (n + 1) := by
  rw [Nat.pow_succ]
  omega
theorem mul_B {n m : Nat} {a b : Int} (h1 : a.natAbs < 2 ^ n) (h2 : b.natAbs < 2 ^ m) : (a * b).natAbs < 2 ^ (n + m) := wide_lt h1 h2
theorem up_B {n m : Nat} {a : Int} (h : a.natAbs < 2 ^ n) (l : n ≤ m) : a.natAbs < 2 ^ m := Nat.lt_of_lt_of_le h (Nat.pow_le_pow_right (by decide) l)
theorem mul_ok {n : Nat} {a b : Int} (h1 : a.natAbs < 2 ^ n) (h2 : b.natAbs < 2 ^ n) (h0 : 0 < n := by omega) (h : n ≤ 400000 := by omega) : CMulW a b := wide_mul h1 h2 h0 h0 (by omega)
def fplus (f g : Fr) : Fr := lo (f.1 * g.2 + g.1 * f.2) (f.2 * g.2)
def fminus (f g : Fr) : Fr := lo (f.1 * g.2 - g.1 * f.2) (f.2 * g.2)
def ftimes (f g : Fr) : Fr := lo (f.1 * g.1) (f.2 * g.2)
def fover (f g : Fr) : Fr := lo (f.1 * g.2) (f.2 * g.1)
def fless (f g : Fr) : Bool := decide (f.1 * g.2 < g.1 * f.2)
theorem fplus_B {n m : Nat} {f g : Fr} (hf : FrB n f) (hg : FrB m g) (h1 : f.2 ≠ 0) (h2 : g.2 ≠ 0) : FrB (n + m + 1) (fplus f g) :=
  lo_B (Int.mul_ne_zero h1 h2) (add_B (mul_B hf.1 hg.2) (by rw [Nat.add_comm n m]; exact mul_B hg.1 hf.2)) (up_B (mul_B hf.2 hg.2) (by omega))
theorem fminus_B {n m : Nat} {f g : Fr} (hf : FrB n f) (hg : FrB m g) (h1 : f.2 ≠ 0) (h2 : g.2 ≠ 0) : FrB (n + m + 1) (fminus f g) :=
  lo_B (Int.mul_ne_zero h1 h2) (sub_B (mul_B hf.1 hg.2) (by rw [Nat.add_comm n m]; exact mul_B hg.1 hf.2)) (up_B (mul_B hf.2 hg.2) (by omega))
theorem ftimes_B {n m : Nat} {f g : Fr} (hf : FrB n f) (hg : FrB m g) (h1 : f.2 ≠ 0) (h2 : g.2 ≠ 0) : FrB (n + m) (ftimes f g) := lo_B (Int.mul_ne_zero h1 h2) (mul_B hf.1 hg.1) (mul_B hf.2 hg.2)
theorem fplus_pos {f g : Fr} (h1 : f.2 ≠ 0) (h2 : g.2 ≠ 0) : 1 ≤ (fplus f g).2 := lo_pos (Int.mul_ne_zero h1 h2)
/-! ### samphire.errors, samphire.ratios -/
def spZD (C : Addr) : Sp := fun vs H Q _ => ∃ a : Addr, vs = [.ref a] ∧ H a = some (exo a C none) ∧ Q .non H
theorem ok_ZeroDenominator_init {P : Program} {w : World} {K : PySem.W.Frag} {mg : Str → Option Value} {base : Heap} (T : T P K mg base) : FnOk P w K mg base CX0 1 T.a_ZeroDenominator_init ((NF_ZeroDenominator T.cc_ZeroDenominator T.c_ZeroDenominator).fd T.doc_ZeroDenominator T.pm_ZeroDenominator T.ctv_ZeroDenominator) ["self"] (spZD T.C_ZeroDenominator) := by
  refine Sup.fn_super (F := NF_ZeroDenominator T.cc_ZeroDenominator T.c_ZeroDenominator) (p := "self") (ps' := []) T.x_ZeroDenominator.S T.lk_ZeroDenominator rfl T.hc_ZeroDenominator sc_ZeroDenominator_init rfl ⟨_, rfl, rfl⟩ rfl rfl (fun _ => rfl) (fun _ => ⟨_, rfl⟩) (fun _ => rfl) (fun vs H Q E h => ?_) (fun A outer s H vs Q E hr h => ?_)
  · obtain ⟨a, rfl, _⟩ := h
    rfl
  · obtain ⟨a, rfl, ha, q⟩ := h
    exact ⟨a, [], _, _, rfl, ha, pa_cons pe_str pa_nil, pss_nil, by decide, ha, q⟩
def spLowest (K : PySem.W.Frag) (C : Addr) : Sp := fun vs H Q E => ∃ p q : Int, vs = [.int p, .int q] ∧ q.natAbs < 2 ^ 8000 ∧ (q = 0 → E (.ref C) none H) ∧ (q ≠ 0 → ∀ H' b, H b = none → Kp [] H H' → FrAt K H' b (lo p q) → Q (.ref b) H')
theorem del_upd {H : Hp} {a : Addr} {o : HO} (h : H a = none) : del (upd H a o) a = H := by
  funext b
  by_cases hb : b = a
  · rw [hb, del_same, h]
  · rw [del_ne hb, upd_ne hb]
theorem ok_lowest {P : Program} {w : World} {K : PySem.W.Frag} {mg : Str → Option Value} {base : Heap} (T : T P K mg base) : FnOk P w K mg base (L2.CX P w) 3 T.a_lowest T.fd_lowest ["p", "q"] (spLowest K T.C_ZeroDenominator) := by
  refine T.F_lowest.okX sc_lowest (fun vs H Q E h => ?_) (fun cdv A outer s H vs Q E hr h => ?_)
  · obtain ⟨p, q, rfl, _⟩ := h
    rfl
  · obtain ⟨p, q, rfl, hb, h0, h1⟩ := h
    refine ⟨_, (pss_cons (ps_if (pt_cmpR op_eq (pv 1) pe_int (nomark _)) (pss_one (ps_raise rfl (takes_of rfl rfl rfl rfl) (Sup.pmk_oexN T.x_ZeroDenominator.S.T T.x_ZeroDenominator.iC T.x_ZeroDenominator.tI (ok_ZeroDenominator_init T) (hr.mono (by decide)) (T.bx_ZeroDenominator) pass0 (by rfl) T.x_ZeroDenominator.g))) pss_nil)
      (pss_cons (ps_set (i := 2) sc_lowest.nd rfl (by first | exact Or.inl rfl | exact Or.inr rfl) (pe_callBfun cr_gcd (by rfl) T.g_gcd (pa_cons (pv 0) (pa_cons (pv 1) pa_nil))))
      (Z.pss_consJ (ps_if (pt_cmpR op_lt (pv 1) pe_int (nomark _)) (pss_one (ps_set (i := 2) sc_lowest.nd rfl (by first | exact Or.inl rfl | exact Or.inr rfl) (pe_un un_neg (pv 2)))) pss_nil)
      (pss_one (ps_ret (pe_tup (pa_cons (pe_op Z.op_fdivA (pv 0) (pv 2)) (pa_cons (pe_op Z.op_fdivA (pv 1) (pv 2)) pa_nil)))))))), ?_⟩
    walk_at "z0"
    walk_at "z"
    refine Z.ite (fun hq => ?_) (fun hq => ?_)
    · refine Z.mkN fun a na => ⟨a, rfl, upd_same, rfl, upd_same, ?_⟩
      rw [del_upd na]
      exact h0 hq
    · walk_at "z"
      have hg := gI_ne (p := p) hq
      have hdv : Z.CDivA p (gI p q) := Z.divA (b := 8000) hg (by rw [gI_abs]; exact Nat.lt_of_le_of_lt (gN_le hq) hb) (by decide) (by decide)
      have hdv2 : Z.CDivA q (gI p q) := hdv
      refine Z.seqJ (fun σ' H' => σ' = [some (.int p), some (.int q), some (.int (gI p q))] ∧ H' = H) ?_ ?_
      · rintro σ' H' ⟨rfl, rfl⟩
        walk_at "z"
        refine Z.iC hdv ?_
        walk_at "z"
        refine Z.iC hdv2 ?_
        refine Z.tupK (fun b H1 nb k1 e1 => ?_)
        exact h1 hq _ _ nb k1 (tupT e1)
      · intro N jn
        walk_at "z"
        refine Z.ite (fun h2 => ?_) (fun h2 => ?_)
        · walk_at "z"
          refine jn _ _ ⟨?_, rfl⟩
          unfold gI
          rw [if_pos h2]; rfl
        · walk_at "z"
          refine jn _ _ ⟨?_, rfl⟩
          unfold gI
          rw [if_neg h2]; rfl
/-- two fractions in, a fraction out -/
def spF2 (K : PySem.W.Frag) (o : Fr → Fr → Fr) : Sp := fun vs H Q _ => ∃ (a b : Addr) (f g : Fr), vs = [.ref a, .ref b] ∧ FrAt K H a f ∧ FrAt K H b g ∧ f.2 ≠ 0 ∧ g.2 ≠ 0 ∧ FrB 3900 f ∧ FrB 3900 g ∧ ∀ H' c, H c = none → Kp [] H H' → FrAt K H' c (o f g) → Q (.ref c) H'
theorem ok_plus {P : Program} {w : World} {K : PySem.W.Frag} {mg : Str → Option Value} {base : Heap} (T : T P K mg base) : FnOk P w K mg base CX0 4 T.a_plus T.fd_plus ["a", "b"] (spF2 K fplus) := by
  refine T.F_plus.ok sc_plus (fun vs H Q E h => ?_) (fun cdv A outer s H vs Q E hr h => ?_)
  · obtain ⟨a, b, f, g, rfl, _⟩ := h
    rfl
  · obtain ⟨a, b, f, g, rfl, ha, hb, hf, hg, Bf, Bg, q⟩ := h
    refine ⟨_, (pss_one (ps_ret (pe_call (ok_lowest T) (hr.mono (by decide)) (by rfl) T.g_lowest T.F_lowest.kp T.b_lowest .nil passL (pa_cons (pe_op op_add (pe_op op_mulW (pe_ix ix_tup (pv 0) pe_int (fun _ _ => rfl)) (pe_ix ix_tup (pv 1) pe_int (fun _ _ => rfl))) (pe_op op_mulW (pe_ix ix_tup (pv 1) pe_int (fun _ _ => rfl)) (pe_ix ix_tup (pv 0) pe_int (fun _ _ => rfl)))) (pa_cons (pe_op op_mulW (pe_ix ix_tup (pv 0) pe_int (fun _ _ => rfl)) (pe_ix ix_tup (pv 1) pe_int (fun _ _ => rfl))) pa_nil))))), ?_⟩
    walk_at "z0"
    walk_at "z"
    refine Z.ixT ha (fr0 f) ?_
    walk_at "z"
    refine Z.ixT hb (fr1 g) ?_
    walk_at "z"
    refine Z.iC (mul_ok Bf.1 Bg.2) ?_
    walk_at "z"
    refine Z.ixT hb (fr0 g) ?_
    walk_at "z"
    refine Z.ixT ha (fr1 f) ?_
    walk_at "z"
    refine Z.iC (mul_ok Bg.1 Bf.2) ?_
    walk_at "z"
    refine Z.ixT ha (fr1 f) ?_
    walk_at "z"
    refine Z.ixT hb (fr1 g) ?_
    walk_at "z"
    refine Z.iC (mul_ok Bf.2 Bg.2) ?_
    walk_at "z"
    exact ⟨_, _, rfl, up_B (mul_B Bf.2 Bg.2) (by decide), fun z => absurd z (Int.mul_ne_zero hf hg), fun _ H' c nc k e => q _ _ nc k e⟩
theorem ok_minus {P : Program} {w : World} {K : PySem.W.Frag} {mg : Str → Option Value} {base : Heap} (T : T P K mg base) : FnOk P w K mg base CX0 4 T.a_minus T.fd_minus ["a", "b"] (spF2 K fminus) := by
  refine T.F_minus.ok sc_minus (fun vs H Q E h => ?_) (fun cdv A outer s H vs Q E hr h => ?_)
  · obtain ⟨a, b, f, g, rfl, _⟩ := h
    rfl
  · obtain ⟨a, b, f, g, rfl, ha, hb, hf, hg, Bf, Bg, q⟩ := h
    refine ⟨_, (pss_one (ps_ret (pe_call (ok_lowest T) (hr.mono (by decide)) (by rfl) T.g_lowest T.F_lowest.kp T.b_lowest .nil passL (pa_cons (pe_op op_sub (pe_op op_mulW (pe_ix ix_tup (pv 0) pe_int (fun _ _ => rfl)) (pe_ix ix_tup (pv 1) pe_int (fun _ _ => rfl))) (pe_op op_mulW (pe_ix ix_tup (pv 1) pe_int (fun _ _ => rfl)) (pe_ix ix_tup (pv 0) pe_int (fun _ _ => rfl)))) (pa_cons (pe_op op_mulW (pe_ix ix_tup (pv 0) pe_int (fun _ _ => rfl)) (pe_ix ix_tup (pv 1) pe_int (fun _ _ => rfl))) pa_nil))))), ?_⟩
    walk_at "z0"
    walk_at "z"
    refine Z.ixT ha (fr0 f) ?_
    walk_at "z"
    refine Z.ixT hb (fr1 g) ?_
    walk_at "z"
    refine Z.iC (mul_ok Bf.1 Bg.2) ?_
    walk_at "z"
    refine Z.ixT hb (fr0 g) ?_
    walk_at "z"
    refine Z.ixT ha (fr1 f) ?_
    walk_at "z"
    refine Z.iC (mul_ok Bg.1 Bf.2) ?_
    walk_at "z"
    refine Z.ixT ha (fr1 f) ?_
    walk_at "z"
    refine Z.ixT hb (fr1 g) ?_
    walk_at "z"
    refine Z.iC (mul_ok Bf.2 Bg.2) ?_
    walk_at "z"
    exact ⟨_, _, rfl, up_B (mul_B Bf.2 Bg.2) (by decide), fun z => absurd z (Int.mul_ne_zero hf hg), fun _ H' c nc k e => q _ _ nc k e⟩
theorem ok_times {P : Program} {w : World} {K : PySem.W.Frag} {mg : Str → Option Value} {base : Heap} (T : T P K mg base) : FnOk P w K mg base CX0 4 T.a_times T.fd_times ["a", "b"] (spF2 K ftimes) := by
  refine T.F_times.ok sc_times (fun vs H Q E h => ?_) (fun cdv A outer s H vs Q E hr h => ?_)
  · obtain ⟨a, b, f, g, rfl, _⟩ := h
    rfl
  · obtain ⟨a, b, f, g, rfl, ha, hb, hf, hg, Bf, Bg, q⟩ := h
    refine ⟨_, (pss_one (ps_ret (pe_call (ok_lowest T) (hr.mono (by decide)) (by rfl) T.g_lowest T.F_lowest.kp T.b_lowest .nil passL (pa_cons (pe_op op_mulW (pe_ix ix_tup (pv 0) pe_int (fun _ _ => rfl)) (pe_ix ix_tup (pv 1) pe_int (fun _ _ => rfl))) (pa_cons (pe_op op_mulW (pe_ix ix_tup (pv 0) pe_int (fun _ _ => rfl)) (pe_ix ix_tup (pv 1) pe_int (fun _ _ => rfl))) pa_nil))))), ?_⟩
    walk_at "z0"
    walk_at "z"
    refine Z.ixT ha (fr0 f) ?_
    walk_at "z"
    refine Z.ixT hb (fr0 g) ?_
    walk_at "z"
    refine Z.iC (mul_ok Bf.1 Bg.1) ?_
    walk_at "z"
    refine Z.ixT ha (fr1 f) ?_
    walk_at "z"
    refine Z.ixT hb (fr1 g) ?_
    walk_at "z"
    refine Z.iC (mul_ok Bf.2 Bg.2) ?_
    walk_at "z"
    exact ⟨_, _, rfl, up_B (mul_B Bf.2 Bg.2) (by decide), fun z => absurd z (Int.mul_ne_zero hf hg), fun _ H' c nc k e => q _ _ nc k e⟩
def spLess (K : PySem.W.Frag) : Sp := fun vs H Q _ => ∃ (a b : Addr) (f g : Fr), vs = [.ref a, .ref b] ∧ FrAt K H a f ∧ FrAt K H b g ∧ FrB 3900 f ∧ FrB 3900 g ∧ Q (.bl (fless f g)) H
theorem ok_less {P : Program} {w : World} {K : PySem.W.Frag} {mg : Str → Option Value} {base : Heap} (T : T P K mg base) : FnOk P w K mg base CX0 1 T.a_less T.fd_less ["a", "b"] (spLess K) := by
  refine T.F_less.ok sc_less (fun vs H Q E h => ?_) (fun cdv A outer s H vs Q E hr h => ?_)
  · obtain ⟨a, b, f, g, rfl, _⟩ := h
    rfl
  · obtain ⟨a, b, f, g, rfl, ha, hb, Bf, Bg, q⟩ := h
    refine ⟨_, (pss_one (ps_ret (pe_cmpR op_lt (pe_op op_mulW (pe_ix ix_tup (pv 0) pe_int (fun _ _ => rfl)) (pe_ix ix_tup (pv 1) pe_int (fun _ _ => rfl))) (pe_op op_mulW (pe_ix ix_tup (pv 1) pe_int (fun _ _ => rfl)) (pe_ix ix_tup (pv 0) pe_int (fun _ _ => rfl))) (nomark _)))), ?_⟩
    walk_at "z0"
    walk_at "z"
    refine Z.ixT ha (fr0 f) ?_
    walk_at "z"
    refine Z.ixT hb (fr1 g) ?_
    walk_at "z"
    refine Z.iC (mul_ok Bf.1 Bg.2) ?_
    walk_at "z"
    refine Z.ixT hb (fr0 g) ?_
    walk_at "z"
    refine Z.ixT ha (fr1 f) ?_
    walk_at "z"
    refine Z.iC (mul_ok Bg.1 Bf.2) ?_
    walk_at "z"
    exact q
/-- lists of fractions -/
def FrsAt (K : PySem.W.Frag) (H : Hp) (as : List Addr) (fs : List Fr) : Prop := Paired (fun a f => FrAt K H a f) as fs
theorem FrsAt.kp {M : List Addr} {H H' : Hp} {as : List Addr} {fs : List Fr} (h : FrsAt K H as fs) (k : Kp M H H') (n : ∀ x ∈ M, NoTup H x) : FrsAt K H' as fs := by
  induction h with
  | nil => exact .nil
  | cons r t ih => exact .cons (FrAt.kp r k n) ih
theorem FrsAt.kp0 {H H' : Hp} {as : List Addr} {fs : List Fr} (h : FrsAt K H as fs) (k : Kp [] H H') : FrsAt K H' as fs := h.kp k fun _ h => by cases h
theorem FrsAt.kpl {H H' : Hp} {as : List Addr} {fs : List Fr} {l : Addr} {xs : List V} (h : FrsAt K H as fs) (k : Kp [l] H H') (e : H l = some (.lst xs)) : FrsAt K H' as fs := h.kp k fun x hx => by
  rw [List.mem_singleton.mp hx]
  exact NoTup.lst e
theorem FrsAt.get {H : Hp} : ∀ {as : List Addr} {fs : List Fr} {i : Nat} {v : V}, FrsAt K H as fs → (as.map V.ref)[i]? = some v → ∃ a f, v = .ref a ∧ fs[i]? = some f ∧ FrAt K H a f
  | _, _, i, v, .nil, h => by simp at h
  | _, _, 0, v, .cons r t, h => by
    simp at h
    exact ⟨_, _, h.symm, rfl, r⟩
  | _, _, i + 1, v, .cons r t, h => by
    obtain ⟨a, f, e1, e2, e3⟩ := FrsAt.get (i := i) t (by simpa using h)
    exact ⟨a, f, e1, by simpa using e2, e3⟩
theorem FrsAt.len {H : Hp} {as : List Addr} {fs : List Fr} (h : FrsAt K H as fs) : as.length = fs.length := Paired.length h
theorem FrsAt.snoc {H : Hp} {as : List Addr} {fs : List Fr} {a : Addr} {f : Fr} (h : FrsAt K H as fs) (r : FrAt K H a f) : FrsAt K H (as ++ [a]) (fs ++ [f]) := by
  induction h with
  | nil => exact .cons r .nil
  | cons r t ih => exact .cons r ih
theorem FrsAt.app {H : Hp} {as bs : List Addr} {fs gs : List Fr} (h : FrsAt K H as fs) (r : FrsAt K H bs gs) : FrsAt K H (as ++ bs) (fs ++ gs) := by
  induction h with
  | nil => exact r
  | cons r t ih => exact .cons r ih
theorem FrsAt.take {H : Hp} : ∀ {as : List Addr} {fs : List Fr} (i : Nat), FrsAt K H as fs → FrsAt K H (as.take i) (fs.take i)
  | _, _, 0, _ => by rw [List.take_zero, List.take_zero]; exact .nil
  | _, _, i + 1, .nil => by rw [List.take_nil, List.take_nil]; exact .nil
  | _, _, i + 1, .cons r t => .cons r (FrsAt.take i t)
theorem FrsAt.drop {H : Hp} : ∀ {as : List Addr} {fs : List Fr} (i : Nat), FrsAt K H as fs → FrsAt K H (as.drop i) (fs.drop i)
  | _, _, 0, h => h
  | _, _, i + 1, .nil => by rw [List.drop_nil, List.drop_nil]; exact .nil
  | _, _, i + 1, .cons r t => FrsAt.drop i t
/-- data -/
def frD (f : Fr) : PyData := .tuple [.int f.1, .int f.2]
theorem dpF {H : Hp} {a : Addr} {f : Fr} (h : FrAt K H a f) : Dp K H (.ref a) (frD f) := .tup h (.cons (.int _) (.cons (.int _) .nil))
theorem frD_sh (f : Fr) : SeqAt.shaped (frD f) = true := by
  simp [frD, SeqAt.shaped, PyData.canLay0, PyData.canLayAll0, PyData.depth, PyData.depthAll]
theorem frD_eq (f : Fr) : PyData.eqv (frD f) (frD f) = true := SeqAt.eqv_refl _ (by simp [frD, PyData.canLay0, PyData.canLayAll0])
theorem neFF {K : PySem.W.Frag} {H : Hp} {Q : VK} {a b : Addr} {f : Fr} (h1 : FrAt K H a f) (h2 : FrAt K H b f) (q : Q (.bl false) H) : rNeD K (.ref a) (.ref b) H Q :=
  ⟨_, _, dpF h1, dpF h2, frD_sh _, frD_sh _, by rw [frD_eq]; exact q⟩
theorem dpFs {K : PySem.W.Frag} {H : Hp} : ∀ {as : List Addr} {fs : List Fr}, FrsAt K H as fs → DpAll K H (as.map V.ref) (fs.map frD)
  | _, _, .nil => .nil
  | _, _, .cons r t => .cons (dpF r) (dpFs t)
theorem layFs : ∀ fs : List Fr, PyData.canLayAll0 (fs.map frD) = true
  | [] => by simp [PyData.canLayAll0]
  | f :: r => by simp [PyData.canLayAll0, frD, PyData.canLay0, layFs r]
theorem depthFs : ∀ fs : List Fr, PyData.depthAll (fs.map frD) ≤ 1
  | [] => by simp [PyData.depthAll]
  | f :: r => by
    have := depthFs r
    simp [PyData.depthAll, frD, PyData.depth]
    exact Nat.max_le.mpr ⟨by omega, this⟩
theorem shFs (fs : List Fr) : SeqAt.shaped (.list (fs.map frD)) = true := by
  have := depthFs fs
  simp only [SeqAt.shaped, PyData.canLay0, PyData.depth, layFs, Bool.true_and]
  exact decide_eq_true (by omega)
theorem neFL {K : PySem.W.Frag} {H : Hp} {Q : VK} {a b : Addr} {as : List Addr} {fs : List Fr} (h1 : H a = some (.lst (as.map V.ref))) (h2 : H b = some (.lst (as.map V.ref))) (h : FrsAt K H as fs) (q : Q (.bl false) H) : rNeD K (.ref a) (.ref b) H Q :=
  ⟨_, _, .lst (lstL h1) (dpFs h), .lst (lstL h2) (dpFs h), shFs _, shFs _, by rw [SeqAt.eqv_refl (.list (fs.map frD)) (by simp [PyData.canLay0, layFs])]; exact q⟩
end frac
/-- sums, from the left -/
def fsum (t : Fr) (fs : List Fr) : Fr := fs.foldl fplus t
theorem fsum_B : ∀ {fs : List Fr} {t : Fr} {n m : Nat}, FrB n t → t.2 ≠ 0 → (∀ f ∈ fs, FrB m f ∧ f.2 ≠ 0) → FrB (n + fs.length * (m + 1)) (fsum t fs) ∧ (fsum t fs).2 ≠ 0
  | [], t, n, m, h, h0, _ => by
    refine ⟨?_, h0⟩
    show FrB (n + 0 * (m + 1)) t
    rw [Nat.zero_mul]
    exact h
  | f :: r, t, n, m, h, h0, hf => by
    have h1 := hf f (by simp)
    have hp := fplus_pos h0 h1.2
    have ih := fsum_B (fs := r) (t := fplus t f) (n := n + m + 1) (m := m) (fplus_B h h1.1 h0 h1.2) (by omega) fun g hg => hf g (by simp [hg])
    refine ⟨?_, ih.2⟩
    have e : n + (f :: r).length * (m + 1) = n + m + 1 + r.length * (m + 1) := by
      rw [List.length_cons, Nat.add_mul]
      omega
    rw [e]
    exact ih.1
theorem fsum_take {t : Fr} {fs : List Fr} {i : Nat} {f : Fr} (h : fs[i]? = some f) : fsum t (fs.take (i + 1)) = fplus (fsum t (fs.take i)) f := by
  unfold fsum
  rw [List.take_add_one, h, List.foldl_append]
  rfl
def spSumOf (K : PySem.W.Frag) (m k : Nat) : Sp := fun vs H Q _ => ∃ (a : Addr) (as : List Addr) (fs : List Fr), vs = [.ref a] ∧ SqL K H a (as.map V.ref) ∧ FrsAt K H as fs ∧ (∀ f ∈ fs, FrB m f ∧ f.2 ≠ 0) ∧ fs.length ≤ k ∧ ∀ H' c, Kp [] H H' → FrAt K H' c (fsum (0, 1) fs) → Q (.ref c) H'
theorem ok_sum_of_any {P : Program} {w : World} {K : PySem.W.Frag} {mg : Str → Option Value} {base : Heap} (T : T P K mg base) (m k : Nat) (hm : m ≤ 3900) (hk : 1 + k * (m + 1) ≤ 3900) : FnOk P w K mg base CX0 5 T.a_sum_of T.fd_sum_of ["fractions"] (spSumOf K m k) := by
  refine T.F_sum_of.ok sc_sum_of (fun vs H Q E h => ?_) (fun cdv A outer s H vs Q E hr h => ?_)
  · obtain ⟨a, as, fs, rfl, _⟩ := h
    rfl
  · obtain ⟨a, as, fs, rfl, hS, hF, hB, hl, q⟩ := h
    refine ⟨_, (pss_cons (ps_set (i := 1) sc_sum_of.nd rfl (by first | exact Or.inl rfl | exact Or.inr rfl) (pe_glob (v := .ref T.k_ZERO) (by rfl) T.g_ZERO rfl))
      (pss_cons (ps_for PassesOwn.never rfl (pi_list (pv 0)) (pg_name (i := 2) sc_sum_of.nd rfl (by first | exact Or.inl rfl | exact Or.inr rfl)) (pss_one (ps_set (i := 1) sc_sum_of.nd rfl (by first | exact Or.inl rfl | exact Or.inr rfl) (pe_call (ok_plus T) (hr.mono (by decide)) (by rfl) T.g_plus T.F_plus.kp T.b_plus .nil pass0 (pa_cons (pv 1) (pa_cons (pv 2) pa_nil))))))
      (pss_one (ps_ret (pv 1))))), ?_⟩
    walk_at "z0"
    walk_at "z"
    refine Z.forl (as.map V.ref) hS (fun i σ' H' => ∃ c y, σ' = [some (.ref a), some (.ref c), y] ∧ Kp [] H H' ∧ FrAt K H' c (fsum (0, 1) (fs.take i))) ?_ ?_ ?_ ?_
    · exact ⟨T.k_ZERO, none, rfl, Kp.refl _, T.q_ZERO H⟩
    · rintro i σ' H' _ ⟨c, y, rfl, k2, _⟩
      exact k2.seq nin0 hS
    · rintro i v σ' H' hv ⟨c, y, rfl, k2, e2⟩
      obtain ⟨x, f, rfl, hf, hx⟩ := (hF.kp0 k2).get hv
      have hfB := hB f (List.mem_of_getElem? hf)
      have hB1 := fsum_B (fs := fs.take i) (t := (0, 1)) (n := 1) (m := m) ⟨by decide, by decide⟩ (by decide) fun g hg => hB g (List.mem_of_mem_take hg)
      have hle : 1 + (fs.take i).length * (m + 1) ≤ 3900 := Nat.le_trans (Nat.add_le_add_left (Nat.mul_le_mul_right _ (Nat.le_trans (by rw [List.length_take]; exact Nat.min_le_right _ _) hl)) 1) hk
      walk_at "z"
      refine ⟨c, x, _, f, rfl, e2, hx, hB1.2, hfB.2, hB1.1.mono hle, hfB.1.mono hm, fun H3 d nd k3 e3 => ?_⟩
      walk_at "z"
      exact ⟨d, _, rfl, k2.trans k3, by rw [fsum_take hf]; exact e3⟩
    · rintro σ' H' ⟨c, y, rfl, k2, e2⟩
      walk_at "z"
      rw [List.length_map, hF.len, List.take_length] at e2
      exact q _ _ k2 e2

/-! ### fractions as rational numbers -/
def rv (f : Int × Int) : Rat := (f.1 : Rat) / (f.2 : Rat)
theorem ratNe {q : Int} (h : q ≠ 0) : (q : Rat) ≠ 0 := fun z => h (by exact_mod_cast z)
theorem ratPos {q : Int} (h : 0 < q) : (0 : Rat) < (q : Rat) := by exact_mod_cast h
theorem div_eqR {a b c : Rat} (h : b ≠ 0) : a / b = c ↔ a = c * b := by
  constructor
  · rintro rfl
    rw [Rat.div_mul_cancel h]
  · rintro rfl
    rw [Rat.mul_div_cancel h]
theorem rv_lo {p q : Int} (h : q ≠ 0) : rv (lo p q) = (p : Rat) / (q : Rat) := by
  obtain ⟨a, b, e, h1, h2, h3, h4⟩ := lo_spec (p := p) h
  rw [e]
  have hb : (b : Rat) ≠ 0 := ratNe (by omega)
  have hg : (gI p q : Rat) ≠ 0 := ratNe (gI_ne h)
  have hq : (q : Rat) = (gI p q : Rat) * (b : Rat) := by exact_mod_cast h4
  have hp : (p : Rat) = (gI p q : Rat) * (a : Rat) := by exact_mod_cast h3
  show (a : Rat) / (b : Rat) = (p : Rat) / (q : Rat)
  rw [hp, hq]
  grind

/-- a fraction in lowest terms -/
def Low (f : Int × Int) : Prop := 1 ≤ f.2 ∧ Nat.gcd f.1.natAbs f.2.natAbs = 1
theorem lo_low {p q : Int} (h : q ≠ 0) : Low (lo p q) := ⟨lo_pos h, lo_cop h⟩
theorem Low.ne {f : Int × Int} (h : Low f) : f.2 ≠ 0 := by have := h.1; omega
theorem Low.pos {f : Int × Int} (h : Low f) : (0 : Rat) < (f.2 : Rat) := ratPos (by have := h.1; omega)
theorem rv_eqI {f g : Int × Int} (h1 : f.2 ≠ 0) (h2 : g.2 ≠ 0) : rv f = rv g ↔ f.1 * g.2 = g.1 * f.2 := by
  have a1 := ratNe h1
  have a2 := ratNe h2
  unfold rv
  constructor
  · intro h
    have h3 : (f.1 : Rat) * (g.2 : Rat) = (g.1 : Rat) * (f.2 : Rat) := by grind
    exact_mod_cast h3
  · intro h
    have h3 : (f.1 : Rat) * (g.2 : Rat) = (g.1 : Rat) * (f.2 : Rat) := by exact_mod_cast h
    grind
theorem low_eq {f g : Int × Int} (h1 : Low f) (h2 : Low g) (h : rv f = rv g) : f = g := by
  have h3 := (rv_eqI h1.ne h2.ne).mp h
  obtain ⟨a, b⟩ := f
  obtain ⟨c, d⟩ := g
  obtain ⟨hb, h1⟩ := h1
  obtain ⟨hd, h2⟩ := h2
  dsimp only at *
  have e1 : a.natAbs * d.natAbs = c.natAbs * b.natAbs := by rw [← Int.natAbs_mul, ← Int.natAbs_mul, h3]
  have d1 : b.natAbs ∣ d.natAbs := by
    have : b.natAbs ∣ a.natAbs * d.natAbs := ⟨c.natAbs, by rw [e1, Nat.mul_comm]⟩
    exact Nat.Coprime.dvd_of_dvd_mul_left (Nat.Coprime.symm h1) this
  have d2 : d.natAbs ∣ b.natAbs := by
    have : d.natAbs ∣ c.natAbs * b.natAbs := ⟨a.natAbs, by rw [← e1, Nat.mul_comm]⟩
    exact Nat.Coprime.dvd_of_dvd_mul_left (Nat.Coprime.symm h2) this
  have e2 := Nat.dvd_antisymm d1 d2
  have e3 : b = d := by omega
  subst e3
  have e4 : a = c := Int.eq_of_mul_eq_mul_right (by omega) h3
  rw [e4]
theorem rv_lt {f g : Int × Int} (h1 : 1 ≤ f.2) (h2 : 1 ≤ g.2) : f.1 * g.2 < g.1 * f.2 ↔ rv f < rv g := by
  have a1 : (0 : Rat) < (f.2 : Rat) := ratPos (by omega)
  have a2 : (0 : Rat) < (g.2 : Rat) := ratPos (by omega)
  have e1 : (f.1 : Rat) = rv f * (f.2 : Rat) := by unfold rv; rw [Rat.div_mul_cancel (ratNe (by omega))]
  have e2 : (g.1 : Rat) = rv g * (g.2 : Rat) := by unfold rv; rw [Rat.div_mul_cancel (ratNe (by omega))]
  have hp : (0 : Rat) < (f.2 : Rat) * (g.2 : Rat) := Rat.mul_pos a1 a2
  have k : f.1 * g.2 < g.1 * f.2 ↔ (f.1 : Rat) * (g.2 : Rat) < (g.1 : Rat) * (f.2 : Rat) := by
    constructor
    · intro h; exact_mod_cast h
    · intro h; exact_mod_cast h
  rw [k, e1, e2]
  have e3 : rv f * (f.2 : Rat) * (g.2 : Rat) = rv f * ((f.2 : Rat) * (g.2 : Rat)) := by grind
  have e4 : rv g * (g.2 : Rat) * (f.2 : Rat) = rv g * ((f.2 : Rat) * (g.2 : Rat)) := by grind
  rw [e3, e4]
  constructor
  · intro h
    by_cases z : rv f < rv g
    · exact z
    · by_cases z2 : rv f = rv g
      · rw [z2] at h; exact absurd h (Rat.lt_irrefl)
      · have z3 : rv g < rv f := by grind
        have := Rat.mul_lt_mul_of_pos_right z3 hp
        grind
  · intro h
    exact Rat.mul_lt_mul_of_pos_right h hp
theorem rv_pos {f : Int × Int} (h1 : 1 ≤ f.2) : 0 < f.1 ↔ 0 < rv f := by
  have := rv_lt (f := (0, 1)) (g := f) (by decide) h1
  have e : rv (0, 1) = 0 := by unfold rv; grind
  rw [e] at this
  rw [← this]
  show _ ↔ 0 * f.2 < f.1 * 1
  rw [Int.zero_mul, Int.mul_one]
theorem rv_int (n : Int) : rv (n, 1) = (n : Rat) := by unfold rv; grind

/-! ### thresholds -/
/-- the sum of the lesser ones of t and the weights -/
def cap (t : Rat) : List Rat → Rat
  | [] => 0
  | w :: r => (if w < t then w else t) + cap t r
structure Thr (ws : List Rat) (k : Nat) (t : Rat) : Prop where
  small : ws.length ≤ k → t = 0
  big : k < ws.length → 0 < t ∧ cap t ws = (k : Rat) * t
theorem cap_app (t : Rat) : ∀ a b : List Rat, cap t (a ++ b) = cap t a + cap t b
  | [], b => by show cap t b = 0 + cap t b; grind
  | w :: r, b => by
    show (if w < t then w else t) + cap t (r ++ b) = (if w < t then w else t) + cap t r + cap t b
    rw [cap_app t r b]
    grind
theorem cap_all {t : Rat} : ∀ {ws : List Rat}, (∀ w ∈ ws, t ≤ w) → cap t ws = (ws.length : Rat) * t
  | [], _ => by show (0 : Rat) = ((0 : Nat) : Rat) * t; grind
  | w :: r, h => by
    have h1 := h w (by simp)
    show (if w < t then w else t) + cap t r = _
    rw [cap_all (ws := r) fun z hz => h z (by simp [hz]), if_neg (by grind), List.length_cons]
    have e : ((r.length + 1 : Nat) : Rat) = (r.length : Rat) + 1 := by exact_mod_cast rfl
    rw [e]
    grind
theorem cap_ge {t : Rat} (ht : 0 ≤ t) : ∀ {ws : List Rat}, (∀ w ∈ ws, 0 < w) → 0 ≤ cap t ws
  | [], _ => by show (0 : Rat) ≤ 0; grind
  | w :: r, h => by
    have h1 := h w (by simp)
    have h2 := cap_ge ht (ws := r) fun z hz => h z (by simp [hz])
    show 0 ≤ (if w < t then w else t) + cap t r
    split <;> grind
theorem cap_one {s t w : Rat} (hs : 0 < s) (h : s < t) (hw : 0 < w) : (if w < t then w else t) * s ≤ (if w < s then w else s) * t ∧ (w < t → (if w < t then w else t) * s < (if w < s then w else s) * t) := by
  have ht : 0 < t := by grind
  by_cases h1 : w < s
  · have h2 : w < t := by grind
    rw [if_pos h1, if_pos h2]
    have := Rat.mul_lt_mul_of_pos_left h hw
    exact ⟨by grind, fun _ => this⟩
  · rw [if_neg h1]
    by_cases h2 : w < t
    · rw [if_pos h2]
      have := Rat.mul_lt_mul_of_pos_right h2 hs
      have e : s * t = t * s := Rat.mul_comm s t
      rw [e]
      exact ⟨by grind, fun _ => this⟩
    · rw [if_neg h2]
      exact ⟨by grind, fun z => absurd z h2⟩
theorem cap_cmp {s t : Rat} (hs : 0 < s) (h : s < t) : ∀ {ws : List Rat}, (∀ w ∈ ws, 0 < w) → cap t ws * s ≤ cap s ws * t ∧ (cap t ws * s = cap s ws * t → ∀ w ∈ ws, t ≤ w)
  | [], _ => ⟨by show (0 : Rat) * s ≤ 0 * t; grind, fun _ w hw => by cases hw⟩
  | w :: r, hp => by
    have h1 := cap_one hs h (hp w (by simp))
    have h2 := cap_cmp hs h (ws := r) fun z hz => hp z (by simp [hz])
    have e1 : cap t (w :: r) = (if w < t then w else t) + cap t r := rfl
    have e2 : cap s (w :: r) = (if w < s then w else s) + cap s r := rfl
    rw [e1, e2, Rat.add_mul, Rat.add_mul]
    generalize (if w < t then w else t) * s = a at *
    generalize (if w < s then w else s) * t = b at *
    generalize cap t r * s = c at *
    generalize cap s r * t = d at *
    refine ⟨by grind, fun e z hz => ?_⟩
    rcases List.mem_cons.mp hz with rfl | hz
    · by_cases hw : z < t
      · have := h1.2 hw
        grind
      · grind
    · exact h2.2 (by grind) z hz
theorem natR_lt {a b : Nat} (h : a < b) : (a : Rat) < (b : Rat) := by exact_mod_cast h
/-- above the threshold there is room -/
theorem thr_le {ws : List Rat} {k : Nat} {t s : Rat} (hp : ∀ w ∈ ws, 0 < w) (h : Thr ws k t) (hk : k < ws.length) (hs : 0 < s) (hc : cap s ws ≤ (k : Rat) * s) : t ≤ s := by
  by_cases z : t ≤ s
  · exact z
  · have hst : s < t := by grind
    obtain ⟨ht, e⟩ := h.big hk
    have h1 := cap_cmp hs hst hp
    have h2 : cap s ws * t ≤ (k : Rat) * s * t := Rat.mul_le_mul_of_nonneg_right hc (by grind)
    rw [e] at h1
    have h3 : (k : Rat) * t * s = (k : Rat) * s * t := by grind
    have h4 := h1.2 (by grind)
    have h5 := cap_all h4
    rw [e] at h5
    have h6 := Rat.mul_lt_mul_of_pos_right (natR_lt hk) ht
    grind
theorem thr_ge {ws : List Rat} {k : Nat} {t s : Rat} (hp : ∀ w ∈ ws, 0 < w) (h : Thr ws k t) (hk : k < ws.length) (hs : 0 < s) (hc : (k : Rat) * s ≤ cap s ws) : s ≤ t := by
  by_cases z : s ≤ t
  · exact z
  · have hst : t < s := by grind
    obtain ⟨ht, e⟩ := h.big hk
    have h1 := cap_cmp ht hst hp
    have h2 : (k : Rat) * s * t ≤ cap s ws * t := Rat.mul_le_mul_of_nonneg_right hc (by grind)
    rw [e] at h1
    have h3 : (k : Rat) * t * s = (k : Rat) * s * t := by grind
    have h4 := h1.2 (by grind)
    have h7 : ∀ w ∈ ws, t ≤ w := fun w hw => by have := h4 w hw; grind
    have h5 := cap_all h7
    rw [e] at h5
    have h6 := Rat.mul_lt_mul_of_pos_right (natR_lt hk) ht
    grind
theorem thr_uniq {ws : List Rat} {k : Nat} {t s : Rat} (hp : ∀ w ∈ ws, 0 < w) (h : Thr ws k t) (h2 : Thr ws k s) : t = s := by
  by_cases hk : k < ws.length
  · obtain ⟨hs, e⟩ := h2.big hk
    have a := thr_le hp h hk hs (by grind)
    have b := thr_ge hp h hk hs (by grind)
    grind
  · rw [h.small (by omega), h2.small (by omega)]
theorem thr_nonneg {ws : List Rat} {k : Nat} {t : Rat} (h : Thr ws k t) : 0 ≤ t := by
  by_cases hk : k < ws.length
  · have := (h.big hk).1; grind
  · rw [h.small (by omega)]; grind
theorem cap_perm {t : Rat} {a b : List Rat} (h : a.Perm b) : cap t a = cap t b := by
  induction h with
  | nil => rfl
  | cons x _ ih => show _ + cap t _ = _ + cap t _; rw [ih]
  | swap x y l => show _ + (_ + cap t l) = _ + (_ + cap t l); grind
  | trans _ _ h1 h2 => exact h1.trans h2
theorem Thr.perm {a b : List Rat} {k : Nat} {t : Rat} (h : Thr a k t) (p : a.Perm b) : Thr b k t := ⟨fun hl => h.small (by rw [p.length_eq]; exact hl), fun hl => by rw [← cap_perm p]; exact h.big (by rw [p.length_eq]; exact hl)⟩

/-! ### calculations with fractions, as rational numbers -/
theorem rv_fplus {f g : Fr} (h1 : f.2 ≠ 0) (h2 : g.2 ≠ 0) : rv (fplus f g) = rv f + rv g := by
  unfold fplus
  rw [rv_lo (Int.mul_ne_zero h1 h2)]
  have a1 := ratNe h1
  have a2 := ratNe h2
  have e1 : ((f.1 * g.2 + g.1 * f.2 : Int) : Rat) = (f.1 : Rat) * (g.2 : Rat) + (g.1 : Rat) * (f.2 : Rat) := by exact_mod_cast rfl
  have e2 : ((f.2 * g.2 : Int) : Rat) = (f.2 : Rat) * (g.2 : Rat) := by exact_mod_cast rfl
  rw [e1, e2]
  unfold rv
  grind
theorem rv_fminus {f g : Fr} (h1 : f.2 ≠ 0) (h2 : g.2 ≠ 0) : rv (fminus f g) = rv f - rv g := by
  unfold fminus
  rw [rv_lo (Int.mul_ne_zero h1 h2)]
  have a1 := ratNe h1
  have a2 := ratNe h2
  have e1 : ((f.1 * g.2 - g.1 * f.2 : Int) : Rat) = (f.1 : Rat) * (g.2 : Rat) - (g.1 : Rat) * (f.2 : Rat) := by exact_mod_cast rfl
  have e2 : ((f.2 * g.2 : Int) : Rat) = (f.2 : Rat) * (g.2 : Rat) := by exact_mod_cast rfl
  rw [e1, e2]
  unfold rv
  grind
theorem rv_ftimes {f g : Fr} (h1 : f.2 ≠ 0) (h2 : g.2 ≠ 0) : rv (ftimes f g) = rv f * rv g := by
  unfold ftimes
  rw [rv_lo (Int.mul_ne_zero h1 h2)]
  have a1 := ratNe h1
  have a2 := ratNe h2
  have e1 : ((f.1 * g.1 : Int) : Rat) = (f.1 : Rat) * (g.1 : Rat) := by exact_mod_cast rfl
  have e2 : ((f.2 * g.2 : Int) : Rat) = (f.2 : Rat) * (g.2 : Rat) := by exact_mod_cast rfl
  rw [e1, e2]
  unfold rv
  grind
theorem fless_iff {f g : Fr} (h1 : 1 ≤ f.2) (h2 : 1 ≤ g.2) : fless f g = decide (rv f < rv g) := by
  unfold fless
  rw [decide_eq_decide]
  exact rv_lt h1 h2
theorem fplus_low {f g : Fr} (h1 : f.2 ≠ 0) (h2 : g.2 ≠ 0) : Low (fplus f g) := lo_low (Int.mul_ne_zero h1 h2)
theorem rv_fsum : ∀ {fs : List Fr} {t : Fr}, Low t → (∀ f ∈ fs, f.2 ≠ 0) → rv (fsum t fs) = rv t + (fs.map rv).sum ∧ Low (fsum t fs)
  | [], t, h, _ => ⟨by show rv t = rv t + 0; grind, h⟩
  | f :: r, t, h, hf => by
    have h1 := hf f (by simp)
    have ih := rv_fsum (fs := r) (t := fplus t f) (fplus_low h.ne h1) fun g hg => hf g (by simp [hg])
    refine ⟨?_, ih.2⟩
    show rv (fsum (fplus t f) r) = _
    rw [ih.1, rv_fplus h.ne h1, List.map_cons, List.sum_cons]
    grind
theorem eqv_fr (f g : Fr) : PyData.eqv (frD f) (frD g) = decide (f = g) := by
  obtain ⟨a, b⟩ := f
  obtain ⟨c, d⟩ := g
  simp [frD, PyData.eqv, PyData.eqvAll, Prod.ext_iff]
  rfl
theorem eqF {K : PySem.W.Frag} {H : Hp} {Q : VK} {a b : Addr} {f g : Fr} (h1 : FrAt K H a f) (h2 : FrAt K H b g) (q : Q (.bl (decide (f = g))) H) : rEqD K (.ref a) (.ref b) H Q :=
  ⟨_, _, dpF h1, dpF h2, frD_sh _, frD_sh _, by rw [eqv_fr]; exact q⟩
theorem neF {K : PySem.W.Frag} {H : Hp} {Q : VK} {a b : Addr} {f g : Fr} (h1 : FrAt K H a f) (h2 : FrAt K H b g) (q : Q (.bl (!decide (f = g))) H) : rNeD K (.ref a) (.ref b) H Q :=
  ⟨_, _, dpF h1, dpF h2, frD_sh _, frD_sh _, by rw [eqv_fr]; exact q⟩

/-! ### samphire.laws: check_chances, law_from -/
section lawfrom
variable {K : PySem.W.Frag}
open LamX LamK
/-- the partial sums are small -/
def SumOk (fs : List Fr) : Prop := (∀ f ∈ fs, FrB 3900 f ∧ f.2 ≠ 0) ∧ ∀ i, FrB 3900 (fsum (0, 1) (fs.take i)) ∧ (fsum (0, 1) (fs.take i)).2 ≠ 0
def spSumG (K : PySem.W.Frag) : Sp := fun vs H Q _ => ∃ (a : Addr) (as : List Addr) (fs : List Fr), vs = [.ref a] ∧ SqL K H a (as.map V.ref) ∧ FrsAt K H as fs ∧ SumOk fs ∧ ∀ H' c, Kp [] H H' → FrAt K H' c (fsum (0, 1) fs) → Q (.ref c) H'
theorem ok_sum_of {P : Program} {w : World} {K : PySem.W.Frag} {mg : Str → Option Value} {base : Heap} (T : T P K mg base) : FnOk P w K mg base CX0 5 T.a_sum_of T.fd_sum_of ["fractions"] (spSumG K) := by
  refine T.F_sum_of.ok sc_sum_of (fun vs H Q E h => ?_) (fun cdv A outer s H vs Q E hr h => ?_)
  · obtain ⟨a, as, fs, rfl, _⟩ := h
    rfl
  · obtain ⟨a, as, fs, rfl, hS, hF, hB, q⟩ := h
    refine ⟨_, (pss_cons (ps_set (i := 1) sc_sum_of.nd rfl (by first | exact Or.inl rfl | exact Or.inr rfl) (pe_glob (v := .ref T.k_ZERO) (by rfl) T.g_ZERO rfl))
      (pss_cons (ps_for PassesOwn.never rfl (pi_list (pv 0)) (pg_name (i := 2) sc_sum_of.nd rfl (by first | exact Or.inl rfl | exact Or.inr rfl)) (pss_one (ps_set (i := 1) sc_sum_of.nd rfl (by first | exact Or.inl rfl | exact Or.inr rfl) (pe_call (ok_plus T) (hr.mono (by decide)) (by rfl) T.g_plus T.F_plus.kp T.b_plus .nil pass0 (pa_cons (pv 1) (pa_cons (pv 2) pa_nil))))))
      (pss_one (ps_ret (pv 1))))), ?_⟩
    walk_at "z0"
    walk_at "z"
    refine Z.forl (as.map V.ref) hS (fun i σ' H' => ∃ c y, σ' = [some (.ref a), some (.ref c), y] ∧ Kp [] H H' ∧ FrAt K H' c (fsum (0, 1) (fs.take i))) ?_ ?_ ?_ ?_
    · exact ⟨T.k_ZERO, none, rfl, Kp.refl _, T.q_ZERO H⟩
    · rintro i σ' H' _ ⟨c, y, rfl, k2, _⟩
      exact k2.seq nin0 hS
    · rintro i v σ' H' hv ⟨c, y, rfl, k2, e2⟩
      obtain ⟨x, f, rfl, hf, hx⟩ := (hF.kp0 k2).get hv
      have hfB := hB.1 f (List.mem_of_getElem? hf)
      have hB1 := hB.2 i
      walk_at "z"
      refine ⟨c, x, _, f, rfl, e2, hx, hB1.2, hfB.2, hB1.1, hfB.1, fun H3 d nd k3 e3 => ?_⟩
      walk_at "z"
      exact ⟨d, _, rfl, k2.trans k3, by rw [fsum_take hf]; exact e3⟩
    · rintro σ' H' ⟨c, y, rfl, k2, e2⟩
      walk_at "z"
      rw [List.length_map, hF.len, List.take_length] at e2
      exact q _ _ k2 e2
def chOkB (fs : List Fr) : Bool := (fs.all fun f => !fless f (0, 1)) && decide (fsum (0, 1) fs = (1, 1))
theorem ok_InvalidLaw_init {P : Program} {w : World} {K : PySem.W.Frag} {mg : Str → Option Value} {base : Heap} (T : T P K mg base) : FnOk P w K mg base CX0 1 T.a_InvalidLaw_init ((NF_InvalidLaw T.cc_InvalidLaw T.c_InvalidLaw).fd T.doc_InvalidLaw T.pm_InvalidLaw T.ctv_InvalidLaw) ["self"] (spZD T.C_InvalidLaw) := by
  refine Sup.fn_super (F := NF_InvalidLaw T.cc_InvalidLaw T.c_InvalidLaw) (p := "self") (ps' := []) T.x_InvalidLaw.S T.lk_InvalidLaw rfl T.hc_InvalidLaw sc_InvalidLaw_init rfl ⟨_, rfl, rfl⟩ rfl rfl (fun _ => rfl) (fun _ => ⟨_, rfl⟩) (fun _ => rfl) (fun vs H Q E h => ?_) (fun A outer s H vs Q E hr h => ?_)
  · obtain ⟨a, rfl, _⟩ := h
    rfl
  · obtain ⟨a, rfl, ha, q⟩ := h
    exact ⟨a, [], _, _, rfl, ha, pa_cons pe_str pa_nil, pss_nil, by decide, ha, q⟩
def spCheck (K : PySem.W.Frag) (C : Addr) : Sp := fun vs H Q E => ∃ (a : Addr) (as : List Addr) (fs : List Fr), vs = [.ref a] ∧ SqL K H a (as.map V.ref) ∧ FrsAt K H as fs ∧ SumOk fs ∧ (chOkB fs = true → ∀ H', Kp [] H H' → Q .non H') ∧ (chOkB fs = false → ∀ H', Kp [] H H' → E (.ref C) none H')
theorem ok_check_chances {P : Program} {w : World} {K : PySem.W.Frag} {mg : Str → Option Value} {base : Heap} (T : T P K mg base) : FnOk P w K mg base (L2.CX P w) 6 T.a_check_chances T.fd_check_chances ["chances"] (spCheck K T.C_InvalidLaw) := by
  refine T.F_check_chances.okX sc_check_chances (fun vs H Q E h => ?_) (fun cdv A outer s H vs Q E hr h => ?_)
  · obtain ⟨a, as, fs, rfl, _⟩ := h
    rfl
  · obtain ⟨a, as, fs, rfl, hS, hF, hB, q, qE⟩ := h
    refine ⟨_, (pss_cons (ps_for (passes_of rfl) rfl (pi_list (pv 0)) (pg_name (i := 1) sc_check_chances.nd rfl (by first | exact Or.inl rfl | exact Or.inr rfl)) (pss_one (ps_if (pt_val (pe_call (ok_less T) (hr.mono (by decide)) (by rfl) T.g_less T.F_less.kp T.b_less .nil pass0 (pa_cons (pv 1) (pa_cons (pe_glob (v := .ref T.k_ZERO) (by rfl) T.g_ZERO rfl) pa_nil)))) (pss_one (ps_raise rfl (takes_of rfl rfl rfl rfl) (Sup.pmk_oexN T.x_InvalidLaw.S.T T.x_InvalidLaw.iC T.x_InvalidLaw.tI (ok_InvalidLaw_init T) (hr.mono (by decide)) (T.bx_InvalidLaw) pass0 (by rfl) T.x_InvalidLaw.g))) pss_nil)))
      (pss_one (ps_if (pt_cmpR (op_neD hr.units) (pe_call (ok_sum_of T) (hr.mono (by decide)) (by rfl) T.g_sum_of T.F_sum_of.kp T.b_sum_of .nil pass0 (pa_cons (pv 0) pa_nil)) (pe_glob (v := .ref T.k_ONE) (by rfl) T.g_ONE rfl) (nomark _)) (pss_one (ps_raise rfl (takes_of rfl rfl rfl rfl) (Sup.pmk_oexN T.x_InvalidLaw.S.T T.x_InvalidLaw.iC T.x_InvalidLaw.tI (ok_InvalidLaw_init T) (hr.mono (by decide)) (T.bx_InvalidLaw) pass0 (by rfl) T.x_InvalidLaw.g))) pss_nil))), ?_⟩
    walk_at "z0"
    walk_at "z"
    refine Z.forl (as.map V.ref) hS (fun i σ' H' => ∃ y, σ' = [some (.ref a), y] ∧ H' = H ∧ ∀ f ∈ fs.take i, fless f (0, 1) = false) ?_ ?_ ?_ ?_
    · exact ⟨_, rfl, rfl, by simp⟩
    · rintro i σ' H' _ ⟨y, rfl, rfl, _⟩
      exact hS
    · rintro i v σ' H' hv ⟨y, rfl, rfl, hl⟩
      obtain ⟨x, f, rfl, hf, hx⟩ := hF.get hv
      have hfB := hB.1 f (List.mem_of_getElem? hf)
      walk_at "z"
      refine ⟨x, T.k_ZERO, f, (0, 1), rfl, hx, T.q_ZERO _, hfB.1, ⟨by decide, by decide⟩, ?_⟩
      cases hfl : fless f (0, 1) with
      | true =>
        walk_at "z"
        refine Z.mkN fun a na => ⟨a, rfl, upd_same, rfl, upd_same, ?_⟩
        rw [del_upd na]
        refine qE ?_ _ (Kp.refl _)
        unfold chOkB
        rw [show (fs.all fun f => !fless f (0, 1)) = false from by
          refine Bool.eq_false_iff.mpr fun z => ?_
          have := List.all_eq_true.mp z f (List.mem_of_getElem? hf)
          rw [hfl] at this
          cases this]
        rfl
      | false =>
        walk_at "z"
        refine ⟨_, rfl, rfl, fun g hg => ?_⟩
        rw [List.take_add_one, hf] at hg
        rcases List.mem_append.mp hg with hg | hg
        · exact hl g hg
        · obtain rfl : g = f := by simpa using hg
          exact hfl
    · rintro σ' H' ⟨y, rfl, rfl, hl⟩
      rw [List.length_map, hF.len, List.take_length] at hl
      have hall : (fs.all fun f => !fless f (0, 1)) = true := List.all_eq_true.mpr fun f hf => by rw [hl f hf]; rfl
      walk_at "z"
      refine ⟨a, as, fs, rfl, hS, hF, hB, fun H2 c k2 e2 => ?_⟩
      walk_at "z"
      refine neF (g := (1, 1)) e2 (T.q_ONE _) ?_
      unfold chOkB at q qE
      rw [hall, Bool.true_and] at q qE
      walk_at "z"
      refine Z.iteN (fun h1 => ?_) (fun h1 => ?_)
      · walk_at "z"
        refine Z.mkN fun a na => ⟨a, rfl, upd_same, rfl, upd_same, ?_⟩
        rw [del_upd na]
        exact qE (decide_eq_false h1) _ k2
      · walk_at "z"
        exact q (decide_eq_true h1) _ k2
end lawfrom

section lawfrom2
variable {K : PySem.W.Frag}
open LamX LamK
/-- a row of a law: the tuple at a, the outcome v, d as data, the chance at c -/
structure LRow where
  a : Addr
  v : V
  d : PyData
  c : Addr
  f : Fr
def LRow.dat (r : LRow) : PyData × Fr := (r.d, r.f)
def LRow.r (r : LRow) : V := .ref r.a
structure DOk (d : PyData) : Prop where
  flat : noLst d = true
  deep : d.depth ≤ 60
  sh : SeqAt.shaped d = true
structure LRowAt (K : PySem.W.Frag) (H : Hp) (r : LRow) : Prop where
  tup : SqT K H r.a [r.v, .ref r.c]
  dp : Dp K H r.v r.d
  fr : FrAt K H r.c r.f
  ok : DOk r.d
mutual
theorem dp_kp {M : List Addr} {H H' : Hp} (k : Kp M H H') (n : ∀ x ∈ M, NoTup H x) : ∀ (d : PyData) {v : V}, noLst d = true → Dp K H v d → Dp K H' v d
  | .none, _, _, .non => .non
  | .bool _, _, _, .bl b => .bl b
  | .int _, _, _, .int i => .int i
  | .str _, _, _, .str x => .str x
  | .list _, _, z, _ => by simp [noLst] at z
  | .dict _, _, z, _ => by simp [noLst] at z
  | .tuple ds, _, z, .tup h r => .tup (kpTup h k n) (dp_kpAll k n ds (by simpa [noLst] using z) r)
theorem dp_kpAll {M : List Addr} {H H' : Hp} (k : Kp M H H') (n : ∀ x ∈ M, NoTup H x) : ∀ (ds : List PyData) {vs : List V}, noLstAll ds = true → DpAll K H vs ds → DpAll K H' vs ds
  | [], _, _, .nil => .nil
  | d :: ds, _, z, .cons h r => by
    have z' : noLst d = true ∧ noLstAll ds = true := by simpa [noLstAll] using z
    exact .cons (dp_kp k n d z'.1 h) (dp_kpAll k n ds z'.2 r)
end
theorem LRowAt.ext {H H' : Hp} {r : LRow} (h : LRowAt K H r) (e : ExtN H H') : LRowAt K H' r := ⟨ext_tup e h.tup, ext_dp e _ h.dp, ext_tup e h.fr, h.ok⟩
theorem LRowAt.kpM {M : List Addr} {H H' : Hp} {r : LRow} (h : LRowAt K H r) (k : Kp M H H') (n : ∀ x ∈ M, NoTup H x) : LRowAt K H' r := ⟨kpTup h.tup k n, dp_kp k n _ h.ok.flat h.dp, FrAt.kp h.fr k n, h.ok⟩
theorem LRowAt.kp0 {H H' : Hp} {r : LRow} (h : LRowAt K H r) (k : Kp [] H H') : LRowAt K H' r := h.kpM k (by simp)
theorem LRowAt.kpl {H H' : Hp} {r : LRow} {l : Addr} {xs : List V} (h : LRowAt K H r) (k : Kp [l] H H') (e : H l = some (.lst xs)) : LRowAt K H' r := h.kpM k fun x hx => by
  rw [List.mem_singleton.mp hx]
  exact NoTup.lst e
/-- rows gathered: equal neighbours are added -/
def stp (acc : List (PyData × Fr)) (x : PyData × Fr) : List (PyData × Fr) := match acc.getLast? with
  | some y => if PyData.eqv y.1 x.1 = true then acc.dropLast ++ [(x.1, fplus y.2 x.2)] else acc ++ [x]
  | none => [x]
theorem stp_nil (x : PyData × Fr) : stp [] x = [x] := rfl
theorem stp_last (o : List (PyData × Fr)) (y x : PyData × Fr) : stp (o ++ [y]) x = if PyData.eqv y.1 x.1 = true then o ++ [(x.1, fplus y.2 x.2)] else o ++ [y] ++ [x] := by
  unfold stp
  rw [List.getLast?_concat, List.dropLast_concat]
def srtd (rs : List LRow) : List LRow := rs.mergeSort (PySem.W.dataLe false LRow.d)
def lawOf (rs : List LRow) : List (PyData × Fr) := (((srtd rs).map LRow.dat).foldl stp []).filter fun x => !decide (x.2 = (0, 1))
/-- all that is added on the way is small -/
def StpOk (rs : List LRow) : Prop := ∀ i, ∀ y ∈ (((srtd rs).map LRow.dat).take i).foldl stp [], FrB 3900 y.2 ∧ y.2.2 ≠ 0
theorem srtd_refs (rs : List LRow) : ((rs.map fun r => (r.a, r.d)).mergeSort (PySem.W.dataLe false Prod.snd)).map (fun b => V.ref b.1) = (srtd rs).map LRow.r := by
  unfold srtd
  have e := List.map_mergeSort (r := PySem.W.dataLe false LRow.d) (s := PySem.W.dataLe false Prod.snd) (f := fun r : LRow => (r.a, r.d)) (l := rs) (fun _ _ _ _ => rfl)
  rw [← e, List.map_map]
  rfl
theorem mem_srtd {rs : List LRow} {r : LRow} : r ∈ srtd rs ↔ r ∈ rs := (List.mergeSort_perm rs _).mem_iff
structure LawIn (K : PySem.W.Frag) (H : Hp) (rs : List LRow) : Prop where
  at_ : ∀ r ∈ rs, LRowAt K H r
  key : KeyOk (rs.map LRow.d)
  sum : SumOk (rs.map LRow.f)
  stp : StpOk rs
  len : rs.length ≤ 100000
abbrev LQ : Str := "law_from.<locals>.<lambda>"
def spLawFrom (K : PySem.W.Frag) (C P : Addr) : Sp := fun vs H Q E => ∃ (a : Addr) (rs : List LRow), vs = [.ref a] ∧ Tabs [(P, LQ)] H ∧ SqL K H a (rs.map LRow.r) ∧ LawIn K H rs ∧ (chOkB (rs.map LRow.f) = false → ∀ H', Kp [] H H' → E (.ref C) none H') ∧
  (chOkB (rs.map LRow.f) = true → ∀ (H' : Hp) (b : Addr) (out : List LRow), Nw H b → ExtN H H' → Tabs [(P, LQ)] H' → H' b = some (.lst (out.map LRow.r)) → (∀ r ∈ out, LRowAt K H' r) → out.map LRow.dat = lawOf rs → Q (.ref b) H')
theorem frs_of {H : Hp} : ∀ {rs : List LRow}, (∀ r ∈ rs, LRowAt K H r) → FrsAt K H (rs.map LRow.c) (rs.map LRow.f)
  | [], _ => .nil
  | r :: rs, h => .cons (h r (by simp)).fr (frs_of fun x hx => h x (by simp [hx]))
theorem keyrows_of {H : Hp} {rs : List LRow} (h : ∀ r ∈ rs, LRowAt K H r) : KeyRows K H (rs.map fun r => (r.a, r.d)) := fun b hb => by
  obtain ⟨r, hr, rfl⟩ := List.mem_map.mp hb
  have hA := h r hr
  exact ⟨hA.ok.flat, hA.ok.deep, _, _, hA.tup, rfl, hA.dp⟩
theorem seq_kpl {H H' : Hp} {a l : Addr} {xs ys : List V} (h : SqL K H a xs) (k : Kp [l] H H') (n : a ≠ l) : SqL K H' a xs := k.seq (nin1 n) h
/-- found, as it stands -/
structure Fnd (K : PySem.W.Frag) (H : Hp) (F : Addr) (D : List (PyData × Fr)) (out : List LRow) : Prop where
  here : H F = some (.lst (out.map LRow.r))
  rows : ∀ r ∈ out, LRowAt K H r
  dat : out.map LRow.dat = D
theorem Fnd.ext {H H' : Hp} {F : Addr} {D : List (PyData × Fr)} {out : List LRow} (f : Fnd K H F D out) (e : ExtN H H') : Fnd K H' F D out := ⟨ext_get e f.here, fun r hr => (f.rows r hr).ext e, f.dat⟩
theorem Fnd.kp0 {H H' : Hp} {F : Addr} {D : List (PyData × Fr)} {out : List LRow} (f : Fnd K H F D out) (k : Kp [] H H') : Fnd K H' F D out := f.ext (ext_kp k)
theorem Fnd.put {H H' : Hp} {F : Addr} {D D' : List (PyData × Fr)} {out out' : List LRow} (f : Fnd K H F D out) (k : Kp [F] H H') (e : H' F = some (.lst (out'.map LRow.r))) (h : ∀ r ∈ out', LRowAt K H r) (d : out'.map LRow.dat = D') : Fnd K H' F D' out' := ⟨e, fun r hr => (h r hr).kpl k f.here, d⟩
theorem ixN_last {n : Nat} : ixN (n + 1) (-1) = some n := by
  unfold ixN
  rw [if_neg (by decide), if_pos (by omega)]
  congr 1
  omega
theorem rmap_snoc (o : List LRow) (y : LRow) : (o ++ [y]).map LRow.r = o.map LRow.r ++ [.ref y.a] := by rw [List.map_append]; rfl
theorem dat_len {out : List LRow} {D : List (PyData × Fr)} (h : out.map LRow.dat = D) : out.length = D.length := by rw [← h, List.length_map]
theorem stp_len {acc : List (PyData × Fr)} {x : PyData × Fr} : (stp acc x).length ≤ acc.length + 1 := by
  unfold stp
  cases h : acc.getLast? with
  | none =>
    rw [List.getLast?_eq_none_iff.mp h]
    simp
  | some y =>
    dsimp only
    split <;> simp
theorem fold_len : ∀ {xs acc : List (PyData × Fr)}, (xs.foldl stp acc).length ≤ acc.length + xs.length
  | [], acc => by simp
  | x :: xs, acc => by
    have h1 := stp_len (acc := acc) (x := x)
    have h2 := fold_len (xs := xs) (acc := stp acc x)
    rw [List.foldl_cons, List.length_cons]
    omega
theorem fold_snoc {xs : List (PyData × Fr)} {i : Nat} {x : PyData × Fr} (h : xs[i]? = some x) : (xs.take (i + 1)).foldl stp [] = stp ((xs.take i).foldl stp []) x := by
  rw [List.take_add_one, h, List.foldl_append]
  rfl
theorem ok_law_from {P : Program} {w : World} {K : PySem.W.Frag} {mg : Str → Option Value} {base : Heap} (T : T P K mg base) : FnOk P w K mg base (L2.CX P w) 7 T.a_law_from T.fd_law_from ["rows"] (spLawFrom K T.C_InvalidLaw T.P_law_from) := by
  obtain ⟨oc, od, kV, doc, pm, an, ct, osl, efd, lk, hcd⟩ := T.L_law_from
  have lk' := lk
  rw [efd] at lk' ⊢
  refine fn_of lk' hcd sc_law_from (fun vs H Q E h => ?_) (fun A outer s H vs Q E hr h => ?_)
  · obtain ⟨a, rs, rfl, _⟩ := h
    rfl
  · obtain ⟨a, rs, rfl, hT, hS, hL, qE, q⟩ := h
    refine ⟨_, (pss_cons (ps_expr (pe_call (ok_check_chances T) (hr.mono (by decide)) (by rfl) T.g_check_chances T.F_check_chances.kp T.b_check_chances .nil (passes_call (takes_of rfl rfl rfl rfl) (fun _ _ _ _ h => h)) (pa_cons (pe_lc (own := [("outcome", 2), ("chance", 3)]) (g := gTup K 2 (gCons (gName 2) (gCons (gName 3) gNil))) rfl sc_law_from.nd (pi_list (pv 0)) (blkOk_by (own := [("outcome", 2), ("chance", 3)]) (N := N_law_from) (sc := defScope s_law_from) (by decide +kernel)) (fun _ _ _ _ _ => (pg_tup rfl (pgs_cons (pg_name (i := 2) sc_law_from.nd rfl (by first | exact Or.inl rfl | exact Or.inr rfl)) (pgs_cons (pg_name (i := 3) sc_law_from.nd rfl (by first | exact Or.inl rfl | exact Or.inr rfl)) pgs_nil)))) (fun _ _ _ _ _ => pts_nil) (fun _ _ _ _ _ => (pv 3))) pa_nil)))
      (pss_cons (ps_set (i := 1) sc_law_from.nd rfl (by first | exact Or.inl rfl | exact Or.inr rfl) (pe_lst pa_nil))
      (pss_cons (ps_for (passes_of rfl) rfl (pi_list (LamK.pe_sortLam (T := [(T.P_law_from, "law_from.<locals>.<lambda>")]) (by rfl) T.z_sorted (pa_cons (pv 0) pa_nil) T.TB_law_from (by rfl) (by simp; rfl) (by intro q hq _; rw [List.mem_singleton.mp hq]; rfl) hr (LamK.keyS_by (by decide +kernel)) (by rfl) (fun _ _ _ _ _ _ => by rfl))) (pg_tup rfl (pgs_cons (pg_name (i := 2) sc_law_from.nd rfl (by first | exact Or.inl rfl | exact Or.inr rfl)) (pgs_cons (pg_name (i := 3) sc_law_from.nd rfl (by first | exact Or.inl rfl | exact Or.inr rfl)) pgs_nil))) (pss_one (ps_if (PW.pt (pw_and (pt_truth (pv 1) (by intro _; rfl)) (pw_and1 (pt_cmpR (op_eqD hr.units) (pe_ix ix_tup (pe_ix ix_list (pv 1) (pe_un un_neg pe_int) (fun _ _ => rfl)) pe_int (fun _ _ => rfl)) (pv 2) (nomark _))))) (pss_one (ps_asg (pe_tup (pa_cons (pv 2) (pa_cons (pe_call (ok_plus T) (hr.mono (by decide)) (by rfl) T.g_plus T.F_plus.kp T.b_plus .nil pass0 (pa_cons (pe_ix ix_tup (pe_ix ix_list (pv 1) (pe_un un_neg pe_int) (fun _ _ => rfl)) pe_int (fun _ _ => rfl)) (pa_cons (pv 3) pa_nil))) pa_nil))) (pg_sub (pv 1) (pe_un un_neg pe_int) set_list))) (pss_one (ps_expr (pe_bm PySem.F.plainAttrs_list PySem.F.slot_list_append PySem.F.type_list_append mt_append (pv 1) (pa_cons (pe_tup (pa_cons (pv 2) (pa_cons (pv 3) pa_nil))) pa_nil)))))))
      (pss_one (ps_ret (pe_lc (own := [("outcome", 2), ("chance", 3)]) (g := gTup K 2 (gCons (gName 2) (gCons (gName 3) gNil))) rfl sc_law_from.nd (pi_list (pv 1)) (blkOk_by (own := [("outcome", 2), ("chance", 3)]) (N := N_law_from) (sc := defScope s_law_from) (by decide +kernel)) (fun _ _ _ _ _ => (pg_tup rfl (pgs_cons (pg_name (i := 2) sc_law_from.nd rfl (by first | exact Or.inl rfl | exact Or.inr rfl)) (pgs_cons (pg_name (i := 3) sc_law_from.nd rfl (by first | exact Or.inl rfl | exact Or.inr rfl)) pgs_nil)))) (fun _ _ _ _ _ => (pts_one (pt_cmpR (op_neD hr.units : OpR _ _ (rNeD K)) (pv 3) (pe_glob (v := .ref T.k_ZERO) (by rfl) T.g_ZERO rfl) (nomark _)))) (fun _ _ _ _ _ => (pe_tup (pa_cons (pv 2) (pa_cons (pv 3) pa_nil)))))))))), ?_⟩
    walk_at "z0"
    walk_at "z"
    refine Z.lcl (rs.map LRow.r) hS (fun D i H1 => Kp [] H H1 ∧ H1 D = some (.lst ((rs.take i).map fun r => V.ref r.c))) ?_ ?_ ?_ ?_
    · intro D H1 nD k1 e1
      exact ⟨k1, e1⟩
    · rintro D i H1 nD hi ⟨k1, e1⟩
      exact k1.seq nin0 hS
    · rintro D i x H1 nD hx ⟨k1, e1⟩
      rw [List.getElem?_map] at hx
      obtain ⟨r, hr2, rfl⟩ := Option.map_eq_some_iff.mp hx
      have hA := (hL.at_ r (List.mem_of_getElem? hr2)).kp0 k1
      have hlen := hL.len
      dsimp only [wipe, List.set]
      refine Z.gtup hA.tup rfl ?_
      walk_at "z"
      refine ⟨rfl, ?_⟩
      walk_at "z"
      refine ⟨_, e1, Z.szl (m := 100000) (by rw [List.length_map, List.length_take]; omega), k1.mut nD rfl, ?_⟩
      rw [upd_same, List.take_add_one, hr2, List.map_append]
      rfl
    · rintro D H1 nD ⟨k1, e1⟩
      rw [List.length_map, List.take_length] at e1
      have hF1 := (frs_of hL.at_).kp0 k1
      refine ⟨D, rs.map LRow.c, rs.map LRow.f, rfl, lstL (by rw [e1, List.map_map]; rfl), hF1, hL.sum, fun ok H2 k2 => ?_, fun bad H2 k2 => qE bad _ (k1.trans k2)⟩
      have q := q ok
      walk_at "z"
      refine Z.lstK (fun F H3 nF k3 e3 => ?_)
      walk_at "z"
      have k03 := (k1.trans k2).trans k3
      have nF0 : H F = none := (k1.trans k2).none nin0 nF
      have hA3 : ∀ r ∈ rs, LRowAt K H3 r := fun r hr => (hL.at_ r hr).kp0 k03
      refine srtK (bs := rs.map fun r => (r.a, r.d)) (tabs_kp hT k03) (by rw [List.map_map]; exact k03.seq nin0 hS) (keyrows_of hA3) (by rw [List.map_map]; exact hL.key) fun H4 l e4 T4 nl el => ?_
      rw [srtd_refs] at el
      have hA4 : ∀ r ∈ srtd rs, LRowAt K H4 r := fun r hr => (hA3 r (mem_srtd.mp hr)).ext e4
      have hlF : F ≠ l := nl.ne e3 (by simp)
      have hlen : (srtd rs).length = rs.length := (List.mergeSort_perm rs _).length_eq
      have e04 : ExtN H H4 := (ext_kp k03).trans e4
      have hnF : Nw H F := Nw.of nF0
      have hsl : SqL K H4 l ((srtd rs).map LRow.r) := lstL el
      have hlenR := hL.len
      refine Z.forl ((srtd rs).map LRow.r) hsl (fun i σ' H' => ∃ y2 y3 out, σ' = [some (.ref a), some (.ref F), y2, y3] ∧ ExtN H H' ∧ Tabs [(T.P_law_from, LQ)] H' ∧ H' l = some (.lst ((srtd rs).map LRow.r)) ∧ (∀ r ∈ srtd rs, LRowAt K H' r) ∧ Fnd K H' F ((((srtd rs).map LRow.dat).take i).foldl stp []) out) ?_ ?_ ?_ ?_
      · exact ⟨_, _, [], rfl, e04, T4, el, hA4, ext_get e4 e3, by simp, rfl⟩
      · rintro i σ' H' hi ⟨y2, y3, out, rfl, e5, T5, l5, A5, F5⟩
        exact lstL l5
      · rintro i v σ' H' hv ⟨y2, y3, out, rfl, e5, T5, l5, A5, F5⟩
        rw [List.getElem?_map] at hv
        obtain ⟨r, hr2, rfl⟩ := Option.map_eq_some_iff.mp hv
        have hrm := List.mem_of_getElem? hr2
        have hA := A5 r hrm
        have hi : i < (srtd rs).length := (List.getElem?_eq_some_iff.mp hr2).1
        have hxd : ((srtd rs).map LRow.dat)[i]? = some r.dat := by rw [List.getElem?_map, hr2]; rfl
        have hfs := fold_snoc hxd
        have hol : out.length ≤ i := by
          have h1 := dat_len F5.dat
          have h2 := fold_len (xs := ((srtd rs).map LRow.dat).take i) (acc := [])
          rw [List.length_take] at h2
          simp only [List.length_nil] at h2
          omega
        have hfB := hL.sum.1 r.f (List.mem_map_of_mem (mem_srtd.mp hrm))
        have hpost : ∀ {H6 : Hp} (out' : List LRow), ExtN H H6 → Tabs [(T.P_law_from, LQ)] H6 → H6 l = some (.lst ((srtd rs).map LRow.r)) → (∀ r ∈ srtd rs, LRowAt K H6 r) → ∀ {out6 : List LRow} {D6 : List (PyData × Fr)}, Fnd K H6 F D6 out6 → (∀ r ∈ out', LRowAt K H6 r) → out'.map LRow.dat = stp ((((srtd rs).map LRow.dat).take i).foldl stp []) r.dat →
            ∃ y2 y3 out, [some (V.ref a), some (.ref F), some r.v, some (.ref r.c)] = [some (.ref a), some (.ref F), y2, y3] ∧ ExtN H (upd H6 F (.lst (out'.map LRow.r))) ∧ Tabs [(T.P_law_from, LQ)] (upd H6 F (.lst (out'.map LRow.r))) ∧ (upd H6 F (.lst (out'.map LRow.r))) l = some (.lst ((srtd rs).map LRow.r)) ∧ (∀ r ∈ srtd rs, LRowAt K (upd H6 F (.lst (out'.map LRow.r))) r) ∧ Fnd K (upd H6 F (.lst (out'.map LRow.r))) F ((((srtd rs).map LRow.dat).take (i + 1)).foldl stp []) out := fun {H6} out' e6 T6 l6 A6 {out6 D6} F6 ho hd => by
          have kF : Kp [F] H6 (upd H6 F (.lst (out'.map LRow.r))) := Kp.put (by simp)
          exact ⟨_, _, out', rfl, ext_put e6 kF hnF, tabs_put T6 kF F6.here, (upd_ne hlF.symm).trans l6, fun r hr => (A6 r hr).kpl kF F6.here, F6.put kF upd_same ho (by rw [hd, hfs])⟩
        refine Z.gtup hA.tup rfl ?_
        walk_at "z"
        refine Z.truL F5.here ?_
        rcases List.eq_nil_or_concat out with rfl | ⟨o, y, hoy⟩
        · rw [show (!(List.map LRow.r []).isEmpty) = false from rfl]
          walk_at "z"
          refine ⟨Z.tyL F5.here, ?_⟩
          walk_at "z"
          refine Z.tupK (fun t H6 nt k6 e6 => ?_)
          have F6 := F5.kp0 k6
          walk_at "z"
          refine Z.app F6.here (Z.szl (m := 100000) (by simp)) ?_
          walk_at "z"
          refine hpost [⟨t, r.v, r.d, r.c, r.f⟩] (e5.trans (ext_kp k6)) (tabs_kp T5 k6) (k6.get nin0 l5) (fun r hr => (A5 r hr).kp0 k6) F6 (fun x hx => ?_) ?_
          · rw [List.mem_singleton.mp hx]
            have hA6 := hA.kp0 k6
            exact ⟨tupT e6, hA6.dp, hA6.fr, hA6.ok⟩
          · rw [← F5.dat]
            rfl
        · rw [List.concat_eq_append] at hoy
          subst hoy
          have hD := F5.dat
          rw [List.map_append, List.map_cons, List.map_nil] at hD
          have hy := F5.rows y (by simp)
          have hyB := hL.stp i (y.d, y.f) (by rw [← hD]; simp [LRow.dat])
          have F5h := F5.here
          rw [rmap_snoc] at F5h ⊢
          rw [show (!(List.map LRow.r o ++ [V.ref y.a]).isEmpty) = true by simp]
          walk_at "z"
          refine Z.ixL (lstL F5h) (atI_last _ _) ?_
          walk_at "z"
          refine Z.ixT hy.tup (v := y.v) rfl ?_
          walk_at "z"
          refine ⟨y.d, r.d, hy.dp, hA.dp, hy.ok.sh, hA.ok.sh, ?_⟩
          cases hev : PyData.eqv y.d r.d with
          | true =>
            walk_at "z"
            refine Z.ixL (lstL F5h) (atI_last _ _) ?_
            walk_at "z"
            refine Z.ixT hy.tup (v := .ref y.c) rfl ?_
            walk_at "z"
            refine ⟨y.c, r.c, y.f, r.f, rfl, hy.fr, hA.fr, hyB.2, hfB.2, hyB.1, hfB.1, fun H6 s ns k6 e6 => ?_⟩
            walk_at "z"
            refine Z.tupK (fun t H7 nt k7 e7 => ?_)
            have k57 := k6.trans k7
            have F7 := F5.kp0 k57
            have F7h := F7.here
            rw [rmap_snoc] at F7h
            walk_at "z"
            refine Z.setL F7h (by rw [List.length_append]; exact ixN_last) ?_
            rw [show (List.map LRow.r o ++ [V.ref y.a]).set (List.map LRow.r o).length (.ref t) = (o ++ [(⟨t, r.v, r.d, s, fplus y.f r.f⟩ : LRow)]).map LRow.r by rw [rmap_snoc, List.set_append_right _ _ (Nat.le_refl _), Nat.sub_self]; rfl]
            refine hpost (o ++ [⟨t, r.v, r.d, s, fplus y.f r.f⟩]) (e5.trans (ext_kp k57)) (tabs_kp T5 k57) (k57.get nin0 l5) (fun r hr => (A5 r hr).kp0 k57) F7 (fun x hx => ?_) ?_
            · rcases List.mem_append.mp hx with hx | hx
              · exact F7.rows x (by simp [hx])
              · rw [List.mem_singleton.mp hx]
                have hA7 := hA.kp0 k57
                exact ⟨tupT e7, hA7.dp, e6.kp0 k7, hA7.ok⟩
            · rw [← hD, stp_last, if_pos (show PyData.eqv y.dat.1 r.dat.1 = true from hev), List.map_append]
              rfl
          | false =>
            walk_at "z"
            refine ⟨Z.tyL F5h, ?_⟩
            walk_at "z"
            refine Z.tupK (fun t H6 nt k6 e6 => ?_)
            have F6 := F5.kp0 k6
            walk_at "z"
            refine Z.app F6.here (Z.szl (m := 100000) (by rw [List.length_map]; omega)) ?_
            walk_at "z"
            rw [show (o ++ [y]).map LRow.r ++ [V.ref t] = (o ++ [y] ++ [(⟨t, r.v, r.d, r.c, r.f⟩ : LRow)]).map LRow.r by rw [List.map_append (l₁ := o ++ [y])]; rfl]
            refine hpost (o ++ [y] ++ [⟨t, r.v, r.d, r.c, r.f⟩]) (e5.trans (ext_kp k6)) (tabs_kp T5 k6) (k6.get nin0 l5) (fun r hr => (A5 r hr).kp0 k6) F6 (fun x hx => ?_) ?_
            · rcases List.mem_append.mp hx with hx | hx
              · exact F6.rows x hx
              · rw [List.mem_singleton.mp hx]
                have hA6 := hA.kp0 k6
                exact ⟨tupT e6, hA6.dp, hA6.fr, hA6.ok⟩
            · rw [← hD, stp_last, if_neg (show ¬ PyData.eqv y.dat.1 r.dat.1 = true by show ¬ PyData.eqv y.d r.d = true; rw [hev]; exact Bool.false_ne_true), List.map_append (l₁ := o ++ [y]), List.map_append]
              rfl
      · rintro σ' H' ⟨y2, y3, out, rfl, e5, T5, l5, A5, F5⟩
        rw [List.length_map, ← List.length_map (f := LRow.dat), List.take_length] at F5
        have hol : out.length ≤ rs.length := by
          have h1 := dat_len F5.dat
          have h2 := fold_len (xs := (srtd rs).map LRow.dat) (acc := [])
          rw [List.length_map] at h2
          simp only [List.length_nil] at h2
          omega
        walk_at "z"
        refine Z.lcl (out.map LRow.r) (lstL F5.here) (fun D2 i H6 => ∃ res : List LRow, Kp [] H' H6 ∧ H6 D2 = some (.lst (res.map LRow.r)) ∧ (∀ r ∈ res, LRowAt K H6 r) ∧ res.map LRow.dat = ((out.take i).map LRow.dat).filter fun x => !decide (x.2 = (0, 1))) ?_ ?_ ?_ ?_
        · intro D2 H6 nD2 k6 e6
          exact ⟨[], k6, e6, by simp, by simp⟩
        · rintro D2 i H6 nD2 hi ⟨res, k6, e6, A6, hd6⟩
          exact lstL (k6.get nin0 F5.here)
        · rintro D2 i x H6 nD2 hx ⟨res, k6, e6, A6, hd6⟩
          rw [List.getElem?_map] at hx
          obtain ⟨r, hr2, rfl⟩ := Option.map_eq_some_iff.mp hx
          have hA := (F5.rows r (List.mem_of_getElem? hr2)).kp0 k6
          have hrl : res.length ≤ i := by
            have h1 := dat_len hd6
            have h2 := List.length_filter_le (fun x : PyData × Fr => !decide (x.2 = (0, 1))) ((out.take i).map LRow.dat)
            rw [List.length_map, List.length_take] at h2
            omega
          have hi : i < out.length := (List.getElem?_eq_some_iff.mp hr2).1
          dsimp only [wipe, List.set]
          refine Z.gtup hA.tup rfl ?_
          walk_at "z"
          refine ⟨rfl, ?_⟩
          walk_at "z"
          refine neF (g := (0, 1)) hA.fr (T.q_ZERO _) ?_
          walk_at "z"
          refine Z.iteN (fun h1 => ?_) (fun h1 => ?_)
          · walk_at "z"
            refine Z.tupK (fun t H7 nt k7 e7 => ?_)
            have e7D := k7.get nin0 e6
            refine ⟨_, e7D, Z.szl (m := 100000) (by rw [List.length_map]; omega), res ++ [⟨t, r.v, r.d, r.c, r.f⟩], (k6.trans k7).mut nD2 rfl, by rw [upd_same, rmap_snoc], fun x hx => ?_, ?_⟩
            · have kD : Kp [D2] H7 (upd H7 D2 (.lst (res.map LRow.r ++ [.ref t]))) := Kp.put (by simp)
              rcases List.mem_append.mp hx with hx | hx
              · exact ((A6 x hx).kp0 k7).kpl kD e7D
              · rw [List.mem_singleton.mp hx]
                have hA7 := hA.kp0 k7
                exact LRowAt.kpl (r := ⟨t, r.v, r.d, r.c, r.f⟩) ⟨tupT e7, hA7.dp, hA7.fr, hA7.ok⟩ kD e7D
            · rw [List.map_append, hd6, List.take_add_one, hr2, List.map_append, List.filter_append]
              congr 1
              show [r.dat] = [r.dat].filter _
              rw [List.filter_cons_of_pos (by simp [LRow.dat, h1]), List.filter_nil]
          · walk_at "z"
            refine ⟨res, k6, e6, A6, ?_⟩
            rw [hd6, List.take_add_one, hr2, List.map_append, List.filter_append]
            show _ = _ ++ [r.dat].filter _
            rw [List.filter_cons_of_neg (by simp [LRow.dat, h1]), List.filter_nil, List.append_nil]
        · rintro D2 H6 nD2 ⟨res, k6, e6, A6, hd6⟩
          rw [List.length_map, List.take_length, F5.dat] at hd6
          walk_at "z"
          exact q H6 D2 res (Nw.back (Nw.of nD2) e5) (e5.trans (ext_kp k6)) (tabs_kp T5 k6) e6 A6 hd6
end lawfrom2

def spLow (K : PySem.W.Frag) : Sp := fun vs H Q _ => ∃ p q : Int, vs = [.int p, .int q] ∧ q ≠ 0 ∧ q.natAbs < 2 ^ 2400 ∧ ∀ H' b, H b = none → Kp [] H H' → H' b = some (.tup (frV (lo p q))) → Q (.ref b) H'
theorem abs_if (i : Int) : (if i < 0 then -i else i) = (i.natAbs : Int) := by
  split <;> omega
theorem ok__law_low {P : Program} {w : World} {K : PySem.W.Frag} {mg : Str → Option Value} {base : Heap} (T : T P K mg base) : FnOk P w K mg base CX0 1 T.a__law_low T.fd__law_low ["p", "q"] (spLow K) := by
  refine T.F__law_low.ok sc__law_low (fun vs H Q E h => ?_) (fun cdv A outer s H vs Q E hr h => ?_)
  · obtain ⟨p, q, rfl, _⟩ := h
    rfl
  · obtain ⟨p, q, rfl, hq, hb, q1⟩ := h
    have hg := gI_ne (p := p) hq
    have hdv : Z.CDivA p (gI p q) := Z.divA (b := 2400) hg (by rw [gI_abs]; exact Nat.lt_of_le_of_lt (gN_le hq) hb) (by decide) (by decide)
    have hdv2 : Z.CDivA q (gI p q) := hdv
    refine ⟨_, (pss_cons (ps_set (i := 2) sc__law_low.nd rfl (by first | exact Or.inl rfl | exact Or.inr rfl) (pe_callB c_abs (by rfl) T.z_abs (by decide +kernel) (pa_cons (pv 0) pa_nil)))
      (pss_cons (ps_set (i := 3) sc__law_low.nd rfl (by first | exact Or.inl rfl | exact Or.inr rfl) (pe_callB c_abs (by rfl) T.z_abs (by decide +kernel) (pa_cons (pv 1) pa_nil)))
      (Z.pss_consJ (ps_for PassesOwn.never rfl (pi_range1 (by rfl) T.z_range (pa_cons pe_int pa_nil)) (pg_name (i := 4) sc__law_low.nd rfl (by first | exact Or.inl rfl | exact Or.inr rfl)) (pss_cons (ps_if (pt_cmpR op_eq (pv 3) pe_int (nomark _)) (pss_one ps_break) pss_nil)
      (pss_one (ps_par (i := 2) (j := 3) rfl sc__law_low.nd rfl rfl (by decide) rfl rfl (pa_cons (pv 3) (pa_cons (pe_op op_mod (pe_callTy c_int (by rfl) T.z_int (by decide +kernel) (pa_cons (pv 2) pa_nil)) (pv 3)) pa_nil)) (by rfl)))))
      (Z.pss_consJ (ps_if (pt_cmpR op_lt (pv 1) pe_int (nomark _)) (pss_one (ps_set (i := 2) sc__law_low.nd rfl (by first | exact Or.inl rfl | exact Or.inr rfl) (pe_op op_sub pe_int (pv 2)))) pss_nil)
      (pss_one (ps_ret (pe_tup (pa_cons (pe_op Z.op_fdivA (pv 0) (pv 2)) (pa_cons (pe_op Z.op_fdivA (pv 1) (pv 2)) pa_nil))))))))), ?_⟩
    walk_at "z0"
    walk_at "z"
    rw [abs_if, abs_if]
    refine Z.seqJ (fun σ' H' => ∃ y z : Option V, σ' = [some (.int p), some (.int q), some (.int (gN p q : Int)), y, z] ∧ H' = H) ?_ ?_
    · rintro σ' H' ⟨y, z, rfl, rfl⟩
      refine Z.seqJ (fun σ' H'' => ∃ y z : Option V, σ' = [some (.int p), some (.int q), some (.int (gI p q)), y, z] ∧ H'' = H') ?_ ?_
      · rintro σ' H'' ⟨y, z, rfl, rfl⟩
        walk_at "z"
        refine Z.iC hdv ?_
        walk_at "z"
        refine Z.iC hdv2 ?_
        refine Z.tupK (fun b H1 nb k1 e1 => ?_)
        exact q1 _ _ nb k1 e1
      · intro N jn
        walk_at "z"
        refine Z.ite (fun h2 => ?_) (fun h2 => ?_)
        · walk_at "z"
          refine jn _ _ ⟨y, z, ?_, rfl⟩
          unfold gI
          rw [if_pos h2, Int.zero_sub]
        · walk_at "z"
          refine jn _ _ ⟨y, z, ?_, rfl⟩
          unfold gI
          rw [if_neg h2]
    · intro N jn
      walk_at "z"
      refine Z.forr 5000 ?_ (by decide) (fun i σ' H' => ∃ z : Option V, σ' = [some (.int p), some (.int q), some (.int ((euc i (p.natAbs, q.natAbs)).1 : Int)), some (.int ((euc i (p.natAbs, q.natAbs)).2 : Int)), z] ∧ H' = H) ?_ ?_ ?_
      · rfl
      · exact ⟨_, rfl, rfl⟩
      · rintro i σ' H' hi ⟨z, rfl, rfl⟩
        walk_at "z"
        refine Z.ite (fun h2 => ?_) (fun h2 => ?_)
        · walk_at "z"
          have h0 : (euc i (p.natAbs, q.natAbs)).2 = 0 := by omega
          have eg := euc_gcd i (p.natAbs, q.natAbs)
          rw [h0, Nat.gcd_zero_right] at eg
          rw [eg]
          exact jn _ _ ⟨_, _, rfl, rfl⟩
        · walk_at "z"
          refine Z.iC (by omega) ?_
          walk_at "z"
          have es : euc (i + 1) (p.natAbs, q.natAbs) = ((euc i (p.natAbs, q.natAbs)).2, (euc i (p.natAbs, q.natAbs)).1 % (euc i (p.natAbs, q.natAbs)).2) := by
            rw [euc_succ]
            exact if_neg (by omega)
          refine ⟨some (.int (i : Int)), ?_, rfl⟩
          rw [es]
          rfl
      · rintro σ' H' ⟨z, rfl, rfl⟩
        have h0 := euc_5000 (p := (p.natAbs, q.natAbs)) hb
        have eg := euc_gcd 5000 (p.natAbs, q.natAbs)
        rw [h0, Nat.gcd_zero_right] at eg
        walk_at "z"
        rw [eg]
        exact jn _ _ ⟨_, _, rfl, rfl⟩

/-- two fractions in, a fraction out; smaller ones -/
def spG2 (K : PySem.W.Frag) (o : Fr → Fr → Fr) : Sp := fun vs H Q _ => ∃ (a b : Addr) (f g : Fr), vs = [.ref a, .ref b] ∧ FrAt K H a f ∧ FrAt K H b g ∧ 1 ≤ f.2 ∧ 1 ≤ g.2 ∧ (∃ n m, FrB n f ∧ FrB m g ∧ n + m ≤ 1900) ∧ ∀ H' c, H c = none → Kp [] H H' → FrAt K H' c (o f g) → Q (.ref c) H'
theorem ok__law_plus {P : Program} {w : World} {K : PySem.W.Frag} {mg : Str → Option Value} {base : Heap} (T : T P K mg base) : FnOk P w K mg base CX0 2 T.a__law_plus T.fd__law_plus ["one", "other"] (spG2 K fplus) := by
  refine T.F__law_plus.ok sc__law_plus (fun vs H Q E h => ?_) (fun cdv A outer s H vs Q E hr h => ?_)
  · obtain ⟨a, b, f, g, rfl, _⟩ := h
    rfl
  · obtain ⟨a, b, f, g, rfl, ha, hb, hf, hg, ⟨n, m, Bf0, Bg0, hnm⟩, q⟩ := h
    have Bf : FrB 1900 f := Bf0.mono (by omega)
    have Bg : FrB 1900 g := Bg0.mono (by omega)
    refine ⟨_, (pss_one (ps_ret (pe_call (ok__law_low T) (hr.mono (by decide)) (by rfl) T.g__law_low T.F__law_low.kp T.b__law_low .nil pass0 (pa_cons (pe_op op_add (pe_op op_mulW (pe_ix ix_tup (pv 0) pe_int (fun _ _ => rfl)) (pe_ix ix_tup (pv 1) pe_int (fun _ _ => rfl))) (pe_op op_mulW (pe_ix ix_tup (pv 1) pe_int (fun _ _ => rfl)) (pe_ix ix_tup (pv 0) pe_int (fun _ _ => rfl)))) (pa_cons (pe_op op_mulW (pe_ix ix_tup (pv 0) pe_int (fun _ _ => rfl)) (pe_ix ix_tup (pv 1) pe_int (fun _ _ => rfl))) pa_nil))))), ?_⟩
    walk_at "z0"
    walk_at "z"
    refine Z.ixT ha (fr0 f) ?_
    walk_at "z"
    refine Z.ixT hb (fr1 g) ?_
    walk_at "z"
    refine Z.iC (mul_ok Bf.1 Bg.2) ?_
    walk_at "z"
    refine Z.ixT hb (fr0 g) ?_
    walk_at "z"
    refine Z.ixT ha (fr1 f) ?_
    walk_at "z"
    refine Z.iC (mul_ok Bg.1 Bf.2) ?_
    walk_at "z"
    refine Z.ixT ha (fr1 f) ?_
    walk_at "z"
    refine Z.ixT hb (fr1 g) ?_
    walk_at "z"
    refine Z.iC (mul_ok Bf.2 Bg.2) ?_
    walk_at "z"
    have h0 := Int.mul_pos (show 0 < f.2 by omega) (show 0 < g.2 by omega)
    exact ⟨_, _, rfl, by omega, up_B (mul_B Bf0.2 Bg0.2) (by omega), fun H' c nc k e => q _ _ nc k (tupT e)⟩
theorem ok__law_times {P : Program} {w : World} {K : PySem.W.Frag} {mg : Str → Option Value} {base : Heap} (T : T P K mg base) : FnOk P w K mg base CX0 2 T.a__law_times T.fd__law_times ["one", "other"] (spG2 K ftimes) := by
  refine T.F__law_times.ok sc__law_times (fun vs H Q E h => ?_) (fun cdv A outer s H vs Q E hr h => ?_)
  · obtain ⟨a, b, f, g, rfl, _⟩ := h
    rfl
  · obtain ⟨a, b, f, g, rfl, ha, hb, hf, hg, ⟨n, m, Bf0, Bg0, hnm⟩, q⟩ := h
    have Bf : FrB 1900 f := Bf0.mono (by omega)
    have Bg : FrB 1900 g := Bg0.mono (by omega)
    refine ⟨_, (pss_one (ps_ret (pe_call (ok__law_low T) (hr.mono (by decide)) (by rfl) T.g__law_low T.F__law_low.kp T.b__law_low .nil pass0 (pa_cons (pe_op op_mulW (pe_ix ix_tup (pv 0) pe_int (fun _ _ => rfl)) (pe_ix ix_tup (pv 1) pe_int (fun _ _ => rfl))) (pa_cons (pe_op op_mulW (pe_ix ix_tup (pv 0) pe_int (fun _ _ => rfl)) (pe_ix ix_tup (pv 1) pe_int (fun _ _ => rfl))) pa_nil))))), ?_⟩
    walk_at "z0"
    walk_at "z"
    refine Z.ixT ha (fr0 f) ?_
    walk_at "z"
    refine Z.ixT hb (fr0 g) ?_
    walk_at "z"
    refine Z.iC (mul_ok Bf.1 Bg.1) ?_
    walk_at "z"
    refine Z.ixT ha (fr1 f) ?_
    walk_at "z"
    refine Z.ixT hb (fr1 g) ?_
    walk_at "z"
    refine Z.iC (mul_ok Bf.2 Bg.2) ?_
    walk_at "z"
    have h0 := Int.mul_pos (show 0 < f.2 by omega) (show 0 < g.2 by omega)
    exact ⟨_, _, rfl, by omega, up_B (mul_B Bf0.2 Bg0.2) (by omega), fun H' c nc k e => q _ _ nc k (tupT e)⟩

section gath
variable {K : PySem.W.Frag}
open GT
theorem key_ok {k : List Key} (hk : ∀ s, Sum.inr s ∈ k → PyData.strOk s = true) : DOk (keyD k) := by
  have h1 := keys_depth k
  have h2 := keys_lay k hk
  have h3 := keys_flat k
  refine ⟨by unfold keyD; simp [LamK.noLst, h3], by unfold keyD; simp [PyData.depth]; omega, ?_⟩
  unfold keyD
  simp only [SeqAt.shaped, PyData.canLay0, PyData.depth, h2, Bool.true_and]
  exact decide_eq_true (by omega)
abbrev KF := List Key × Fr
section gen
variable {κ : Type} [DecidableEq κ]
def gval (acc : List (κ × Fr)) (k : κ) : Option Fr := (acc.find? fun x => decide (x.1 = k)).map (·.2)
def gput (acc : List (κ × Fr)) (k : κ) (g : Fr) : List (κ × Fr) := if (acc.any fun x => decide (x.1 = k)) = true then acc.map (fun x => if x.1 = k then (x.1, g) else x) else acc ++ [(k, g)]
def gstp (acc : List (κ × Fr)) (x : κ × Fr) : List (κ × Fr) := gput acc x.1 (fplus ((gval acc x.1).getD (0, 1)) x.2)
def gsum (xs : List (κ × Fr)) : List (κ × Fr) := xs.foldl gstp []
end gen
def gathOf (xs : List KF) : List KF := ((gsum xs).mergeSort (PySem.W.dataLe false fun x => keyD x.1)).filter fun x => !decide (x.2 = (0, 1))
theorem gsum_snoc {xs : List KF} {i : Nat} {x : KF} (h : xs[i]? = some x) : gsum (xs.take (i + 1)) = gstp (gsum (xs.take i)) x := by
  unfold gsum
  rw [List.take_add_one, h, List.foldl_append]
  rfl
/-- what a dict of fractions holds -/
def KvAt (K : PySem.W.Frag) (H : Hp) : List (List Key × V) → List KF → Prop := Paired fun kv x => kv.1 = x.1 ∧ ∃ c, kv.2 = .ref c ∧ FrAt K H c x.2
theorem KvAt.mono {H H' : Hp} (f : ∀ c g, FrAt K H c g → FrAt K H' c g) {kvs : List (List Key × V)} {acc : List KF} (h : KvAt K H kvs acc) : KvAt K H' kvs acc := by
  unfold KvAt at h ⊢
  induction h with
  | nil => exact .nil
  | cons r t ih =>
    obtain ⟨e, c, e2, hc⟩ := r
    exact .cons ⟨e, c, e2, f _ _ hc⟩ ih
theorem KvAt.val {H : Hp} {k : List Key} : ∀ {kvs : List (List Key × V)} {acc : List KF}, KvAt K H kvs acc → (valV kvs k = none ∧ gval acc k = none) ∨ ∃ c g, valV kvs k = some (.ref c) ∧ gval acc k = some g ∧ FrAt K H c g
  | [], [], .nil => .inl ⟨rfl, rfl⟩
  | kv :: kvs, x :: acc, .cons ⟨e, c, e2, hc⟩ t => by
    by_cases hk : kv.1 = k
    · refine .inr ⟨c, x.2, ?_, ?_, hc⟩
      · rw [valV_pos hk, e2]
      · unfold gval
        rw [List.find?_cons_of_pos (by rw [← e]; simpa using hk)]
        rfl
    · have ih := KvAt.val (k := k) t
      rw [valV_neg hk]
      have e3 : gval (x :: acc) k = gval acc k := by
        unfold gval
        rw [List.find?_cons_of_neg (by rw [← e]; simpa using hk)]
      rw [e3]
      exact ih
theorem KvAt.any {H : Hp} {k : List Key} : ∀ {kvs : List (List Key × V)} {acc : List KF}, KvAt K H kvs acc → (kvs.any fun kv => decide (kv.1 = k)) = (acc.any fun x => decide (x.1 = k))
  | [], [], .nil => rfl
  | kv :: kvs, x :: acc, .cons ⟨e, _⟩ t => by rw [List.any_cons, List.any_cons, KvAt.any t, e]
theorem KvAt.len {H : Hp} {kvs : List (List Key × V)} {acc : List KF} (h : KvAt K H kvs acc) : kvs.length = acc.length := Paired.length h
theorem KvAt.put {H : Hp} {k : List Key} {d : Addr} {g : Fr} (hd : FrAt K H d g) {kvs : List (List Key × V)} {acc : List KF} (h : KvAt K H kvs acc) : KvAt K H (putK kvs k (.ref d)) (gput acc k g) := by
  unfold putK gput
  rw [h.any (k := k)]
  split
  · rename_i ha
    clear ha
    unfold KvAt at h ⊢
    induction h with
    | nil => exact .nil
    | cons r t ih =>
      rename_i kv x _ _
      obtain ⟨e, c, e2, hc⟩ := r
      rw [List.map_cons, List.map_cons]
      refine .cons ?_ ih
      by_cases hk : kv.1 = k
      · rw [if_pos hk, if_pos (by rw [← e]; exact hk)]
        exact ⟨e, d, rfl, hd⟩
      · rw [if_neg hk, if_neg (by rw [← e]; exact hk)]
        exact ⟨e, c, e2, hc⟩
  · rename_i ha
    clear ha
    unfold KvAt at h ⊢
    induction h with
    | nil => exact .cons ⟨rfl, d, rfl, hd⟩ .nil
    | cons r t ih => exact .cons r ih
end gath

section gath2
variable {K : PySem.W.Frag}
open GT
section gen
variable {κ : Type} [DecidableEq κ]
theorem gval_mem {acc : List (κ × Fr)} {k : κ} {g : Fr} (h : gval acc k = some g) : (k, g) ∈ acc := by
  unfold gval at h
  obtain ⟨x, hx, rfl⟩ := Option.map_eq_some_iff.mp h
  have h1 := List.find?_some hx
  have h2 := List.mem_of_find?_eq_some hx
  obtain rfl : x.1 = k := by simpa using h1
  exact h2
theorem gval_none {acc : List (κ × Fr)} {k : κ} (h : ¬ (acc.any fun x => decide (x.1 = k)) = true) : ∀ x ∈ acc, x.1 ≠ k := fun x hx e => h (List.any_eq_true.mpr ⟨x, hx, by simpa using e⟩)
theorem gput_nodup {acc : List (κ × Fr)} {k : κ} {g : Fr} (h : (acc.map Prod.fst).Nodup) : ((gput acc k g).map Prod.fst).Nodup := by
  unfold gput
  split
  · rw [List.map_map]
    rw [show (Prod.fst ∘ fun x : κ × Fr => if x.1 = k then (x.1, g) else x) = Prod.fst from by funext x; dsimp only [Function.comp]; split <;> rfl]
    exact h
  · rename_i ha
    rw [List.map_append, List.map_cons, List.map_nil]
    refine List.nodup_append.mpr ⟨h, by simp, fun a ha2 b hb => ?_⟩
    obtain ⟨x, hx, rfl⟩ := List.mem_map.mp ha2
    rw [List.mem_singleton.mp hb]
    exact gval_none ha x hx
theorem gsum_nodup : ∀ {xs acc : List (κ × Fr)}, (acc.map Prod.fst).Nodup → ((xs.foldl gstp acc).map Prod.fst).Nodup
  | [], _, h => h
  | x :: xs, acc, h => gsum_nodup (xs := xs) (gput_nodup h)
theorem gput_len {acc : List (κ × Fr)} {k : κ} {g : Fr} : (gput acc k g).length ≤ acc.length + 1 := by
  unfold gput
  split
  · rw [List.length_map]; omega
  · simp
theorem gsum_len : ∀ {xs acc : List (κ × Fr)}, (xs.foldl gstp acc).length ≤ acc.length + xs.length
  | [], _ => by simp
  | x :: xs, acc => by
    have h1 := gput_len (acc := acc) (k := x.1) (g := fplus ((gval acc x.1).getD (0, 1)) x.2)
    have h2 := gsum_len (xs := xs) (acc := gstp acc x)
    unfold gstp at h2
    rw [List.foldl_cons, List.length_cons]
    unfold gstp
    omega
theorem gval_of : ∀ {acc : List (κ × Fr)} {x : κ × Fr}, (acc.map Prod.fst).Nodup → x ∈ acc → gval acc x.1 = some x.2
  | y :: acc, x, h, hx => by
    rw [List.map_cons, List.nodup_cons] at h
    unfold gval
    rcases List.mem_cons.mp hx with rfl | hx
    · rw [List.find?_cons_of_pos (by simp)]
      rfl
    · have hne : y.1 ≠ x.1 := fun e => h.1 (by rw [e]; exact List.mem_map_of_mem hx)
      rw [List.find?_cons_of_neg (by simpa using hne)]
      exact gval_of h.2 hx
end gen
/-- a row whose outcome is a tuple: a the row, b the outcome, c the chance -/
structure GRow where
  a : Addr
  b : Addr
  k : List Key
  c : Addr
  f : Fr
def GRow.r (g : GRow) : V := .ref g.a
def GRow.kf (g : GRow) : KF := (g.k, g.f)
structure GRowAt (K : PySem.W.Frag) (H : Hp) (g : GRow) : Prop where
  tup : SqT K H g.a [.ref g.b, .ref g.c]
  key : H g.b = some (.tup (g.k.map kV))
  fr : FrAt K H g.c g.f
  ok : ∀ s, Sum.inr s ∈ g.k → PyData.strOk s = true
theorem tup_kpM {M : List Addr} {H H' : Hp} {b : Addr} {xs : List V} (h : H b = some (.tup xs)) (k : Kp M H H') (n : ∀ x ∈ M, NoTup H x) : H' b = some (.tup xs) := k.get (fun z => n b z xs (.inl h)) h
theorem GRowAt.kpM {M : List Addr} {H H' : Hp} {g : GRow} (h : GRowAt K H g) (k : Kp M H H') (n : ∀ x ∈ M, NoTup H x) : GRowAt K H' g := ⟨kpTup h.tup k n, tup_kpM h.key k n, FrAt.kp h.fr k n, h.ok⟩
theorem GRowAt.kp0 {H H' : Hp} {g : GRow} (h : GRowAt K H g) (k : Kp [] H H') : GRowAt K H' g := h.kpM k (by simp)
theorem noT {H : Hp} {l : Addr} {o : HO} (e : H l = some o) (n : ∀ xs, o ≠ .tup xs ∧ ∀ u, o ≠ .frz u (.tup xs)) : ∀ x ∈ [l], NoTup H x := fun x hx => by
  rw [List.mem_singleton.mp hx]
  exact NoTup.of e n
structure GathOk (xs : List KF) : Prop where
  len : xs.length ≤ 1000
  fr : ∀ x ∈ xs, 1 ≤ x.2.2 ∧ FrB 900 x.2
  sums : ∀ i, ∀ y ∈ gsum (xs.take i), 1 ≤ y.2.2 ∧ FrB 900 y.2
  alike : PySem.W.AllAlike ((gsum xs).map fun x => keyD x.1)
  sorts : PySem.W.Sortable ((gsum xs).map fun x => keyD x.1)
  keys : ∀ x ∈ gsum xs, ∀ s, Sum.inr s ∈ x.1 → PyData.strOk s = true
def spGathered (K : PySem.W.Frag) : Sp := fun vs H Q _ => ∃ (a : Addr) (gs : List GRow), vs = [.ref a] ∧ SqL K H a (gs.map GRow.r) ∧ (∀ g ∈ gs, GRowAt K H g) ∧ GathOk (gs.map GRow.kf) ∧
  ∀ (H' : Hp) (d : Addr) (out : List GRow), H d = none → Kp [] H H' → H' d = some (.lst (out.map GRow.r)) → (∀ g ∈ out, GRowAt K H' g) → out.map GRow.kf = gathOf (gs.map GRow.kf) → Q (.ref d) H'
/-- keys and sums side by side -/
theorem keys_side {H : Hp} : ∀ {kvs : List (List Key × V)} {acc : List KF} {bs : List Addr}, KvAt K H kvs acc → ∀ {H' : Hp}, IsKeys H' kvs bs → ∃ L : List (KF × Addr), L.map Prod.fst = acc ∧ L.map Prod.snd = bs ∧ ∀ x ∈ L, H' x.2 = some (.tup (x.1.1.map kV))
  | [], [], [], .nil, _, .nil => ⟨[], rfl, rfl, by simp⟩
  | kv :: kvs, x :: acc, b :: bs, .cons ⟨e, _⟩ t, H', .cons h2 t2 => by
    obtain ⟨L, e1, e2, e3⟩ := keys_side (kvs := kvs) (acc := acc) (bs := bs) t t2
    refine ⟨(x, b) :: L, by rw [List.map_cons, e1], by rw [List.map_cons, e2], fun y hy => ?_⟩
    rcases List.mem_cons.mp hy with rfl | hy
    · show H' b = _
      rw [← e]
      exact h2
    · exact e3 y hy
theorem ok__law_gathered {P : Program} {w : World} {K : PySem.W.Frag} {mg : Str → Option Value} {base : Heap} (T : T P K mg base) : FnOk P w K mg base CX0 3 T.a__law_gathered T.fd__law_gathered ["rows"] (spGathered K) := by
  refine T.F__law_gathered.ok sc__law_gathered (fun vs H Q E h => ?_) (fun cdv A outer s H vs Q E hr h => ?_)
  · obtain ⟨a, gs, rfl, _⟩ := h
    rfl
  · obtain ⟨a, gs, rfl, hS, hA, hG, q⟩ := h
    refine ⟨_, (pss_cons (ps_set (i := 1) sc__law_gathered.nd rfl (by first | exact Or.inl rfl | exact Or.inr rfl) pe_dnewT)
      (pss_cons (ps_for PassesOwn.never rfl (pi_list (pv 0)) (pg_tup rfl (pgs_cons (pg_name (i := 2) sc__law_gathered.nd rfl (by first | exact Or.inl rfl | exact Or.inr rfl)) (pgs_cons (pg_name (i := 3) sc__law_gathered.nd rfl (by first | exact Or.inl rfl | exact Or.inr rfl)) pgs_nil))) (pss_one (ps_dput (hu_of hr) (pv 1) (pv 2) (pe_call (ok__law_plus T) (hr.mono (by decide)) (by rfl) T.g__law_plus T.F__law_plus.kp T.b__law_plus .nil pass0 (pa_cons (pe_dget2 (Nat.lt_of_le_of_lt (Nat.add_le_add_left (by decide) _) (hu_of hr)) (pv 1) (pv 2) (pe_tup (pa_cons pe_int (pa_cons pe_int pa_nil))) ⟨by rfl, by rfl, by rfl, by rfl⟩) (pa_cons (pv 3) pa_nil))) rfl)))
      (pss_one (ps_ret (pe_lc (own := [("outcome", 2)]) (g := gName 2) rfl sc__law_gathered.nd (pi_list (pe_callB ((RL.cr_sortedD hr.units) : CallR _ _ (RL.rSortedD K)) (by rfl) T.z_sorted (by decide +kernel) (pa_cons (pe_callTy ((GT.c_listT rfl) : CallR _ _ (GT.rListT)) (by rfl) T.z_list (by decide +kernel) (pa_cons (pv 1) pa_nil)) pa_nil))) (blkOk_by (own := [("outcome", 2)]) (N := N__law_gathered) (sc := defScope s__law_gathered) (by decide +kernel)) (fun _ _ _ _ _ => (pg_name (i := 2) sc__law_gathered.nd rfl (by first | exact Or.inl rfl | exact Or.inr rfl))) (fun _ _ _ _ _ => (pts_one (pt_cmpR (op_neD hr.units : OpR _ _ (rNeD K)) (pe_dget (hu_of hr) (pv 1) (pv 2) (fun _ _ => rfl)) (pe_tup (pa_cons pe_int (pa_cons pe_int pa_nil))) (nomark _)))) (fun _ _ _ _ _ => (pe_tup (pa_cons (pv 2) (pa_cons (pe_dget (hu_of hr) (pv 1) (pv 2) (fun _ _ => rfl)) pa_nil))))))))), ?_⟩
    walk_at "z0"
    walk_at "z"
    refine dnewT (fun D H1 nD k1 e1 => ?_)
    walk_at "z"
    refine Z.forl (gs.map GRow.r) (k1.seq nin0 hS) (fun i σ' H' => ∃ (y2 y3 : Option V) (kvs : List (List Key × V)), σ' = [some (.ref a), some (.ref D), y2, y3] ∧ Kp [] H H' ∧ H' D = some (.dT kvs) ∧ KvAt K H' kvs (gsum ((gs.map GRow.kf).take i))) ?_ ?_ ?_ ?_
    · exact ⟨_, _, [], rfl, k1, e1, .nil⟩
    · rintro i σ' H2 hi ⟨y2, y3, kvs, rfl, k2, e2, V2⟩
      exact k2.seq nin0 hS
    · rintro i v σ' H2 hv ⟨y2, y3, kvs, rfl, k2, e2, V2⟩
      rw [List.getElem?_map] at hv
      obtain ⟨g, hg, rfl⟩ := Option.map_eq_some_iff.mp hv
      have hgm := List.mem_of_getElem? hg
      have hA2 := (hA g hgm).kp0 k2
      have hgk : (gs.map GRow.kf)[i]? = some g.kf := by rw [List.getElem?_map, hg]; rfl
      have hgB := hG.fr g.kf (List.mem_map_of_mem hgm)
      have hil : i < gs.length := (List.getElem?_eq_some_iff.mp hg).1
      have hgl := hG.len
      rw [List.length_map] at hgl
      have hkl : kvs.length ≤ i := by
        have h1 := V2.len
        have h2 := gsum_len (xs := (gs.map GRow.kf).take i) (acc := [])
        rw [List.length_take] at h2
        unfold gsum at h1
        simp only [List.length_nil] at h2
        omega
      refine Z.gtup hA2.tup rfl ?_
      walk_at "z"
      refine ⟨D, rfl, .inr ⟨kvs, .inl e2⟩, ?_⟩
      walk_at "z"
      refine Z.tupK (fun z H3 nz k3 e3 => ?_)
      refine ⟨_, DGet.t (k3.get nin0 e2) (hA2.kp0 k3).key, ?_⟩
      obtain ⟨c0, hc0, hF0, hB0⟩ : ∃ c0, (valV kvs g.k).getD (.ref z) = .ref c0 ∧ FrAt K H3 c0 ((gval (gsum ((gs.map GRow.kf).take i)) g.k).getD (0, 1)) ∧ (1 ≤ ((gval (gsum ((gs.map GRow.kf).take i)) g.k).getD (0, 1)).2 ∧ FrB 900 ((gval (gsum ((gs.map GRow.kf).take i)) g.k).getD (0, 1))) := by
        rcases V2.val (k := g.k) with ⟨h1, h2⟩ | ⟨c, f, h1, h2, h3⟩
        · rw [h1, h2]
          exact ⟨z, rfl, tupT e3, by decide, by decide, by decide⟩
        · rw [h1, h2]
          exact ⟨c, rfl, h3.kp0 k3, hG.sums i _ (gval_mem h2)⟩
      rw [hc0]
      walk_at "z"
      refine ⟨c0, g.c, _, g.f, rfl, hF0, (hA2.kp0 k3).fr, hB0.1, hgB.1, ⟨900, 900, hB0.2, hgB.2, by decide⟩, fun H4 d nd k4 e4 => ?_⟩
      walk_at "z"
      have k34 := k3.trans k4
      have e4D := k34.get nin0 e2
      refine ⟨D, _, rfl, DPut.t (k := g.k) e4D (hA2.kp0 k34).key (Z.szl (m := 1000) (by omega)), ?_⟩
      have k5 : Kp [D] H4 (upd H4 D (.dT (putK kvs g.k (.ref d)))) := Kp.put (by simp)
      have nt := noT e4D (fun xs => ⟨by simp, by simp⟩)
      refine ⟨_, _, _, rfl, (k2.trans k34).mut nD rfl, upd_same, ?_⟩
      rw [gsum_snoc hgk]
      exact (KvAt.mono (fun c f h => h.kp0 k34) V2 |> KvAt.put e4).mono fun c f h => h.kp k5 nt
    · rintro σ' H2 ⟨y2, y3, kvs, rfl, k2, e2, V2⟩
      rw [List.length_map, ← List.length_map (f := GRow.kf), List.take_length] at V2
      walk_at "z"
      refine ⟨D, kvs, rfl, .inl e2, fun p bs np hbs => ?_⟩
      obtain ⟨L, hL1, hL2, hL3⟩ := keys_side V2 hbs
      have hnd : ((gsum (gs.map GRow.kf)).map Prod.fst).Nodup := gsum_nodup (acc := []) (by simp)
      have hLl : L.length ≤ 1000 := by
        have h1 := congrArg List.length hL1
        have h2 := gsum_len (xs := gs.map GRow.kf) (acc := [])
        have h3 := hG.len
        unfold gsum at h1
        rw [List.length_map] at h1
        simp only [List.length_nil] at h2
        omega
      have kp : Kp [] H2 (upd H2 p (.lst (bs.map V.ref))) := Kp.new np
      have ep : upd H2 p (.lst (bs.map V.ref)) p = some (.lst (bs.map V.ref)) := upd_same
      generalize upd H2 p (.lst (bs.map V.ref)) = H3 at kp ep ⊢
      have hL4 : ∀ x ∈ L, H3 x.2 = some (.tup (x.1.1.map kV)) := fun x hx => kp.get nin0 (hL3 x hx)
      walk_at "z"
      refine ⟨p, L.map (fun x => (V.ref x.2, keyD x.1.1)), rfl, lstL (by rw [ep, ← hL2, List.map_map, List.map_map]; rfl), fun b hb => ?_, ?_, ?_, fun b hb => ?_, fun l nl => ?_⟩
      · obtain ⟨x, hx, rfl⟩ := List.mem_map.mp hb
        exact dp_key (hL4 x hx)
      · have e := hG.alike
        rw [← hL1, List.map_map] at e
        rw [List.map_map]
        exact e
      · have e := hG.sorts
        rw [← hL1, List.map_map] at e
        rw [List.map_map]
        exact e
      · obtain ⟨x, hx, rfl⟩ := List.mem_map.mp hb
        have := keys_depth x.1.1
        show (keyD x.1.1).depth ≤ 60
        unfold keyD
        simp [PyData.depth]
        omega
      · have es : ((L.map fun x : KF × Addr => (V.ref x.2, keyD x.1.1)).mergeSort (PySem.W.dataLe false Prod.snd)).map Prod.fst = (L.mergeSort (PySem.W.dataLe false fun x : KF × Addr => keyD x.1.1)).map fun x => V.ref x.2 := by
          rw [← List.map_mergeSort (r := PySem.W.dataLe false fun x : KF × Addr => keyD x.1.1) (s := PySem.W.dataLe false Prod.snd) (f := fun x : KF × Addr => (V.ref x.2, keyD x.1.1)) (fun _ _ _ _ => rfl), List.map_map]
          rfl
        have es2 : (L.mergeSort (PySem.W.dataLe false fun x : KF × Addr => keyD x.1.1)).map Prod.fst = (gsum (gs.map GRow.kf)).mergeSort (PySem.W.dataLe false fun x => keyD x.1) := by
          rw [List.map_mergeSort (r := PySem.W.dataLe false fun x : KF × Addr => keyD x.1.1) (s := PySem.W.dataLe false fun x : KF => keyD x.1) (f := Prod.fst) (fun _ _ _ _ => rfl), hL1]
        rw [es]
        have hmem : ∀ x ∈ L.mergeSort (PySem.W.dataLe false fun x : KF × Addr => keyD x.1.1), x ∈ L := fun x hx => (List.mergeSort_perm L _).mem_iff.mp hx
        have hLS : (L.mergeSort (PySem.W.dataLe false fun x : KF × Addr => keyD x.1.1)).length = L.length := (List.mergeSort_perm L _).length_eq
        generalize L.mergeSort (PySem.W.dataLe false fun x : KF × Addr => keyD x.1.1) = LS at es2 hmem hLS ⊢
        have kl : Kp [] H3 (upd H3 l (.lst (LS.map fun x => V.ref x.2))) := Kp.new nl
        have el : upd H3 l (.lst (LS.map fun x => V.ref x.2)) l = some (.lst (LS.map fun x => V.ref x.2)) := upd_same
        generalize upd H3 l (.lst (LS.map fun x => V.ref x.2)) = H4 at kl el ⊢
        have k24 := kp.trans kl
        have e4D := k24.get nin0 e2
        have V4 : KvAt K H4 kvs (gsum (gs.map GRow.kf)) := KvAt.mono (fun c f h => h.kp0 k24) V2
        refine Z.lcl (LS.map fun x => V.ref x.2) (lstL el) (fun D2 i H' => ∃ res : List GRow, Kp [] H4 H' ∧ H' D2 = some (.lst (res.map GRow.r)) ∧ (∀ g ∈ res, GRowAt K H' g) ∧ res.map GRow.kf = ((LS.take i).map Prod.fst).filter fun x => !decide (x.2 = (0, 1))) ?_ ?_ ?_ ?_
        · intro D2 H5 nD2 k5 e5
          exact ⟨[], k5, e5, by simp, by simp⟩
        · rintro D2 i H5 nD2 hi ⟨res, k5, e5, A5, d5⟩
          exact lstL (k5.get nin0 el)
        · rintro D2 i v H5 nD2 hv ⟨res, k5, e5, A5, d5⟩
          rw [List.getElem?_map] at hv
          obtain ⟨x, hx, rfl⟩ := Option.map_eq_some_iff.mp hv
          have hxL := hmem x (List.mem_of_getElem? hx)
          have hxa : x.1 ∈ gsum (gs.map GRow.kf) := by rw [← hL1]; exact List.mem_map_of_mem hxL
          have hil : i < LS.length := (List.getElem?_eq_some_iff.mp hx).1
          have hrl : res.length ≤ i := by
            have h1 := congrArg List.length d5
            have h2 := List.length_filter_le (fun x : KF => !decide (x.2 = (0, 1))) ((LS.take i).map Prod.fst)
            rw [List.length_map, List.length_take] at h2
            rw [List.length_map] at h1
            omega
          have hok : ∀ s, Sum.inr s ∈ x.1.1 → PyData.strOk s = true := hG.keys x.1 hxa
          have hkey : H5 x.2 = some (.tup (x.1.1.map kV)) := (kl.trans k5).get nin0 (hL4 x hxL)
          have hval := gval_of hnd hxa
          obtain ⟨c, hc, hF⟩ : ∃ c, valV kvs x.1.1 = some (.ref c) ∧ FrAt K H5 c x.1.2 := by
            rcases (KvAt.mono (fun c f h => h.kp0 k5) V4 : KvAt K H5 kvs _).val (k := x.1.1) with ⟨_, h2⟩ | ⟨c, f, h1, h2, h3⟩
            · rw [hval] at h2
              cases h2
            · rw [hval] at h2
              cases h2
              exact ⟨c, h1, h3⟩
          have e5D := k5.get nin0 e4D
          have hget : ∀ {H6 : Hp}, Kp [] H5 H6 → DGet H6 D (.ref x.2) (some (.ref c)) := fun {H6} k => by
            rw [← hc]
            exact DGet.t (k.get nin0 e5D) (k.get nin0 hkey)
          dsimp only [wipe, List.set]
          walk_at "z"
          refine ⟨rfl, ?_⟩
          walk_at "z"
          refine ⟨D, _, rfl, hget (Kp.refl _), ?_⟩
          walk_at "z"
          refine Z.tupK (fun z H6 nz k6 e6 => ?_)
          refine neF (g := (0, 1)) (hF.kp0 k6) (tupT e6) ?_
          walk_at "z"
          have e6D := k6.get nin0 e5
          have A6 : ∀ g ∈ res, GRowAt K H6 g := fun g hg => (A5 g hg).kp0 k6
          refine Z.iteN (fun h1 => ?_) (fun h1 => ?_)
          · walk_at "z"
            refine ⟨D, _, rfl, hget k6, ?_⟩
            walk_at "z"
            refine Z.tupK (fun t H7 nt k7 e7 => ?_)
            have e7D := k7.get nin0 e6D
            have hrow : GRowAt K H7 ⟨t, x.2, x.1.1, c, x.1.2⟩ := ⟨tupT e7, (k6.trans k7).get nin0 hkey, hF.kp0 (k6.trans k7), hok⟩
            refine ⟨_, e7D, Z.szl (m := 100000) (by rw [List.length_map]; omega), res ++ [⟨t, x.2, x.1.1, c, x.1.2⟩], (k5.trans (k6.trans k7)).mut nD2 rfl, by rw [upd_same, List.map_append]; rfl, fun g hg => ?_, ?_⟩
            · have kD : Kp [D2] H7 (upd H7 D2 (.lst (res.map GRow.r ++ [.ref t]))) := Kp.put (by simp)
              have nt2 := noT e7D (fun xs => ⟨by simp, by simp⟩)
              rcases List.mem_append.mp hg with hg | hg
              · exact ((A6 g hg).kp0 k7).kpM kD nt2
              · rw [List.mem_singleton.mp hg]
                exact hrow.kpM kD nt2
            · rw [List.map_append, d5, List.take_add_one, hx, List.map_append, List.filter_append]
              congr 1
              show [(x.1.1, x.1.2)] = [x.1].filter _
              rw [List.filter_cons_of_pos (by simp [h1]), List.filter_nil]
          · walk_at "z"
            refine ⟨res, k5.trans k6, e6D, A6, ?_⟩
            rw [d5, List.take_add_one, hx, List.map_append, List.filter_append]
            show _ = _ ++ [x.1].filter _
            rw [List.filter_cons_of_neg (by simp [h1]), List.filter_nil, List.append_nil]
        · rintro D2 H5 nD2 ⟨res, k5, e5, A5, d5⟩
          rw [List.length_map, List.take_length, es2] at d5
          walk_at "z"
          have k25 := k2.trans (k24.trans k5)
          exact q H5 D2 res ((k2.trans k24).none nin0 nD2) k25 e5 A5 d5
end gath2

section gath3
variable {κ : Type} [DecidableEq κ]
/-- the sum of the chances of a key -/
def sK (xs : List (κ × Fr)) (k : κ) : Rat := ((xs.filter fun x => decide (x.1 = k)).map fun x => rv x.2).sum
theorem ratsum_app : ∀ a b : List Rat, (a ++ b).sum = a.sum + b.sum
  | [], b => by show b.sum = 0 + b.sum; grind
  | x :: a, b => by
    rw [List.cons_append, List.sum_cons, List.sum_cons, ratsum_app a b]
    grind
theorem ratsum_perm {a b : List Rat} (h : a.Perm b) : a.sum = b.sum := by
  induction h with
  | nil => rfl
  | cons x _ ih => rw [List.sum_cons, List.sum_cons, ih]
  | swap x y l =>
    rw [List.sum_cons, List.sum_cons, List.sum_cons, List.sum_cons]
    grind
  | trans _ _ h1 h2 => exact h1.trans h2
theorem sK_perm {xs ys : List (κ × Fr)} (h : xs.Perm ys) (k : κ) : sK xs k = sK ys k := ratsum_perm ((h.filter _).map _)
theorem sK_nil (k : κ) : sK ([] : List (κ × Fr)) k = 0 := rfl
theorem sK_snoc (xs : List (κ × Fr)) (x : κ × Fr) (k : κ) : sK (xs ++ [x]) k = sK xs k + if x.1 = k then rv x.2 else 0 := by
  unfold sK
  rw [List.filter_append, List.map_append, ratsum_app]
  by_cases h : x.1 = k
  · rw [if_pos h, List.filter_cons_of_pos (by simpa using h)]
    show _ + (rv x.2 + 0) = _
    grind
  · rw [if_neg h, List.filter_cons_of_neg (by simpa using h)]
    rfl
theorem sK_none {xs : List (κ × Fr)} {k : κ} (h : k ∉ xs.map Prod.fst) : sK xs k = 0 := by
  unfold sK
  rw [List.filter_eq_nil_iff.mpr]
  · rfl
  · intro x hx e
    exact h (by rw [← of_decide_eq_true e]; exact List.mem_map_of_mem hx)
/-- each key once, with the sum of its chances -/
structure Norm (xs R : List (κ × Fr)) : Prop where
  a : ∀ x ∈ R, x.1 ∈ xs.map Prod.fst ∧ Low x.2 ∧ rv x.2 = sK xs x.1
  b : ∀ k ∈ xs.map Prod.fst, ∃ x ∈ R, x.1 = k
theorem Norm.mem {xs R : List (κ × Fr)} (h : Norm xs R) {x : κ × Fr} : x ∈ R ↔ x.1 ∈ xs.map Prod.fst ∧ Low x.2 ∧ rv x.2 = sK xs x.1 := by
  refine ⟨h.a x, fun ⟨h1, h2, h3⟩ => ?_⟩
  obtain ⟨y, hy, e⟩ := h.b _ h1
  obtain ⟨_, l2, l3⟩ := h.a y hy
  have e2 : y.2 = x.2 := low_eq l2 h2 (by rw [l3, h3, e])
  have e3 : y = x := Prod.ext e e2
  rwa [← e3]
theorem Norm.perm {xs ys R : List (κ × Fr)} (h : Norm xs R) (p : xs.Perm ys) : Norm ys R :=
  ⟨fun x hx => ⟨(p.map Prod.fst).mem_iff.mp (h.a x hx).1, (h.a x hx).2.1, by rw [(h.a x hx).2.2, sK_perm p]⟩, fun k hk => h.b k ((p.map Prod.fst).mem_iff.mpr hk)⟩
theorem Norm.permR {xs R R' : List (κ × Fr)} (h : Norm xs R) (p : R.Perm R') : Norm xs R' := ⟨fun x hx => h.a x (p.mem_iff.mpr hx), fun k hk => let ⟨x, hx, e⟩ := h.b k hk; ⟨x, p.mem_iff.mp hx, e⟩⟩
theorem norm_nil : Norm ([] : List (κ × Fr)) [] := ⟨by simp, by simp⟩
theorem gval_some {acc : List (κ × Fr)} {k : κ} (h : (acc.any fun x => decide (x.1 = k)) = true) : ∃ g, gval acc k = some g ∧ (k, g) ∈ acc := by
  obtain ⟨x, hx, e⟩ := List.any_eq_true.mp h
  unfold gval
  cases hf : acc.find? fun x => decide (x.1 = k) with
  | none =>
    have := List.find?_eq_none.mp hf x hx
    exact absurd e this
  | some y =>
    have h1 := List.find?_some hf
    have h2 := List.mem_of_find?_eq_some hf
    have h3 : y.1 = k := of_decide_eq_true h1
    exact ⟨y.2, rfl, by rw [← h3]; exact h2⟩
theorem gval_nil {acc : List (κ × Fr)} {k : κ} (h : ¬ (acc.any fun x => decide (x.1 = k)) = true) : gval acc k = none := by
  unfold gval
  rw [List.find?_eq_none.mpr fun x hx e => gval_none h x hx (of_decide_eq_true e)]
  rfl
theorem fplus_zero {f : Fr} (h : f.2 ≠ 0) : rv (fplus (0, 1) f) = rv f := by
  rw [rv_fplus (by decide) h]
  have e0 : rv (0, 1) = 0 := by unfold rv; grind
  rw [e0]
  grind
theorem norm_step {ps acc : List (κ × Fr)} {x : κ × Fr} (h : Norm ps acc) (hn : (acc.map Prod.fst).Nodup) (hx : x.2.2 ≠ 0) : Norm (ps ++ [x]) (gstp acc x) := by
  have hk : ∀ k, k ∈ (ps ++ [x]).map Prod.fst ↔ k ∈ ps.map Prod.fst ∨ k = x.1 := fun k => by
    rw [List.map_append, List.mem_append]
    simp
  unfold gstp gput
  by_cases ha : (acc.any fun y => decide (y.1 = x.1)) = true
  · rw [if_pos ha]
    obtain ⟨g, hg, hm⟩ := gval_some ha
    obtain ⟨g1, g2, g3⟩ := h.a _ hm
    rw [hg]
    refine ⟨fun y hy => ?_, fun k hkm => ?_⟩
    · obtain ⟨z, hz, rfl⟩ := List.mem_map.mp hy
      obtain ⟨z1, z2, z3⟩ := h.a z hz
      by_cases e : z.1 = x.1
      · rw [if_pos e]
        refine ⟨(hk _).mpr (.inl z1), fplus_low g2.ne hx, ?_⟩
        show rv (fplus g x.2) = _
        rw [rv_fplus g2.ne hx, sK_snoc, if_pos e.symm, g3, e]
      · rw [if_neg e]
        refine ⟨(hk _).mpr (.inl z1), z2, ?_⟩
        rw [sK_snoc, if_neg (fun q => e q.symm), z3]
        grind
    · rcases (hk k).mp hkm with h1 | rfl
      · obtain ⟨z, hz, e⟩ := h.b k h1
        refine ⟨_, List.mem_map_of_mem hz, ?_⟩
        split
        · exact e
        · exact e
      · refine ⟨_, List.mem_map_of_mem hm, ?_⟩
        rw [if_pos rfl]
  · rw [if_neg ha, gval_nil ha]
    have hno : x.1 ∉ ps.map Prod.fst := fun z => by
      obtain ⟨y, hy, e⟩ := h.b _ z
      exact gval_none ha y hy e
    refine ⟨fun y hy => ?_, fun k hkm => ?_⟩
    · rcases List.mem_append.mp hy with hy | hy
      · obtain ⟨y1, y2, y3⟩ := h.a y hy
        refine ⟨(hk _).mpr (.inl y1), y2, ?_⟩
        rw [sK_snoc, if_neg (fun e => hno (by rw [e]; exact y1)), y3]
        grind
      · rw [List.mem_singleton.mp hy]
        refine ⟨(hk _).mpr (.inr rfl), fplus_low (by decide) hx, ?_⟩
        show rv (fplus (0, 1) x.2) = sK (ps ++ [x]) x.1
        rw [fplus_zero hx, sK_snoc, if_pos rfl, sK_none hno]
        grind
    · rcases (hk k).mp hkm with h1 | rfl
      · obtain ⟨z, hz, e⟩ := h.b k h1
        exact ⟨z, List.mem_append_left _ hz, e⟩
      · exact ⟨(x.1, fplus (0, 1) x.2), List.mem_append_right _ (by simp), rfl⟩
theorem norm_fold : ∀ {xs ps acc : List (κ × Fr)}, Norm ps acc → (acc.map Prod.fst).Nodup → (∀ x ∈ xs, x.2.2 ≠ 0) → Norm (ps ++ xs) (xs.foldl gstp acc)
  | [], ps, acc, h, _, _ => by rw [List.append_nil]; exact h
  | x :: xs, ps, acc, h, hn, hx => by
    rw [List.foldl_cons, show ps ++ x :: xs = (ps ++ [x]) ++ xs by simp]
    exact norm_fold (norm_step h hn (hx x (by simp))) (gput_nodup hn) fun y hy => hx y (by simp [hy])
theorem norm_gsum {xs : List (κ × Fr)} (hx : ∀ x ∈ xs, x.2.2 ≠ 0) : Norm xs (gsum xs) := by
  have := norm_fold (xs := xs) (ps := []) (acc := []) norm_nil (by simp) hx
  rwa [List.nil_append] at this
/-- an order of the keys -/
structure KOrd (le : κ → κ → Bool) : Prop where
  trans : ∀ a b c, le a b = true → le b c = true → le a c = true
  total : ∀ a b, le a b = true ∨ le b a = true
  anti : ∀ a b, le a b = true → le b a = true → a = b
def Asc (le : κ → κ → Bool) (R : List (κ × Fr)) : Prop := R.Pairwise fun a b => le a.1 b.1 = true ∧ a.1 ≠ b.1
theorem Asc.nodup {le : κ → κ → Bool} {R : List (κ × Fr)} (h : Asc le R) : R.Nodup := List.Pairwise.imp (fun {a b} h e => h.2 (by rw [e])) h
theorem norm_eq {le : κ → κ → Bool} (O : KOrd le) {xs R R' : List (κ × Fr)} (h : Norm xs R) (h' : Norm xs R') (s : Asc le R) (s' : Asc le R') : R = R' := by
  have hm : ∀ x, x ∈ R ↔ x ∈ R' := fun x => h.mem.trans h'.mem.symm
  refine List.Perm.eq_of_pairwise (le := fun a b : κ × Fr => le a.1 b.1 = true) (fun a b ha hb h1 h2 => ?_) (List.Pairwise.imp (fun {a b} h => h.1) s) (List.Pairwise.imp (fun {a b} h => h.1) s') ((List.perm_ext_iff_of_nodup s.nodup s'.nodup).mpr hm)
  have e := O.anti _ _ h1 h2
  obtain ⟨_, a2, a3⟩ := h.a a ha
  obtain ⟨_, b2, b3⟩ := h'.a b hb
  exact Prod.ext e (low_eq a2 b2 (by rw [a3, b3, e]))
/-- equal neighbours added -/
def stpG (acc : List (κ × Fr)) (x : κ × Fr) : List (κ × Fr) := match acc.getLast? with
  | some y => if y.1 = x.1 then acc.dropLast ++ [(x.1, fplus y.2 x.2)] else acc ++ [x]
  | none => [x]
theorem stpG_last (o : List (κ × Fr)) (y x : κ × Fr) : stpG (o ++ [y]) x = if y.1 = x.1 then o ++ [(x.1, fplus y.2 x.2)] else o ++ [y] ++ [x] := by
  unfold stpG
  rw [List.getLast?_concat, List.dropLast_concat]
theorem stpG_step {le : κ → κ → Bool} (O : KOrd le) {ps acc : List (κ × Fr)} {x : κ × Fr} (h : Norm ps acc) (s : Asc le acc) (hx : Low x.2) (hle : ∀ y ∈ ps, le y.1 x.1 = true) : Norm (ps ++ [x]) (stpG acc x) ∧ Asc le (stpG acc x) := by
  have hk : ∀ k, k ∈ (ps ++ [x]).map Prod.fst ↔ k ∈ ps.map Prod.fst ∨ k = x.1 := fun k => by
    rw [List.map_append, List.mem_append]
    simp
  have hle' : ∀ k ∈ ps.map Prod.fst, le k x.1 = true := fun k hk => by
    obtain ⟨y, hy, rfl⟩ := List.mem_map.mp hk
    exact hle y hy
  have hnew : x.1 ∉ ps.map Prod.fst → Norm (ps ++ [x]) (acc ++ [x]) ∧ Asc le (acc ++ [x]) := fun hno => by
    refine ⟨⟨fun y hy => ?_, fun k hkm => ?_⟩, List.pairwise_append.mpr ⟨s, by simp, fun a ha b hb => ?_⟩⟩
    · rcases List.mem_append.mp hy with hy | hy
      · obtain ⟨y1, y2, y3⟩ := h.a y hy
        refine ⟨(hk _).mpr (.inl y1), y2, ?_⟩
        rw [sK_snoc, if_neg (fun e => hno (by rw [e]; exact y1)), y3]
        grind
      · rw [List.mem_singleton.mp hy]
        refine ⟨(hk _).mpr (.inr rfl), hx, ?_⟩
        rw [sK_snoc, if_pos rfl, sK_none hno]
        grind
    · rcases (hk k).mp hkm with h1 | rfl
      · obtain ⟨z, hz, e⟩ := h.b k h1
        exact ⟨z, List.mem_append_left _ hz, e⟩
      · exact ⟨x, List.mem_append_right _ (by simp), rfl⟩
    · rw [List.mem_singleton.mp hb]
      have ha1 := (h.a a ha).1
      exact ⟨hle' _ ha1, fun e => hno (by rw [← e]; exact ha1)⟩
  rcases List.eq_nil_or_concat acc with rfl | ⟨o, y, hoy⟩
  · refine hnew fun z => ?_
    obtain ⟨y, hy, _⟩ := h.b _ z
    cases hy
  · rw [List.concat_eq_append] at hoy
    subst hoy
    rw [stpG_last]
    obtain ⟨s1, _, s3⟩ := List.pairwise_append.mp s
    obtain ⟨y1, y2, y3⟩ := h.a y (by simp)
    by_cases e : y.1 = x.1
    · rw [if_pos e]
      refine ⟨⟨fun z hz => ?_, fun k hkm => ?_⟩, List.pairwise_append.mpr ⟨s1, by simp, fun a ha b hb => ?_⟩⟩
      · rcases List.mem_append.mp hz with hz | hz
        · obtain ⟨z1, z2, z3⟩ := h.a z (by simp [hz])
          refine ⟨(hk _).mpr (.inl z1), z2, ?_⟩
          rw [sK_snoc, if_neg (fun q => (s3 z hz y (by simp)).2 (by rw [e, q])), z3]
          grind
        · rw [List.mem_singleton.mp hz]
          refine ⟨(hk _).mpr (.inr rfl), fplus_low y2.ne hx.ne, ?_⟩
          show rv (fplus y.2 x.2) = sK (ps ++ [x]) x.1
          rw [rv_fplus y2.ne hx.ne, sK_snoc, if_pos rfl, y3, e]
      · rcases (hk k).mp hkm with h1 | rfl
        · obtain ⟨z, hz, e2⟩ := h.b k h1
          rcases List.mem_append.mp hz with hz | hz
          · exact ⟨z, List.mem_append_left _ hz, e2⟩
          · refine ⟨(x.1, fplus y.2 x.2), List.mem_append_right _ (by simp), ?_⟩
            rw [List.mem_singleton.mp hz] at e2
            show x.1 = k
            rw [← e, e2]
        · exact ⟨(x.1, fplus y.2 x.2), List.mem_append_right _ (by simp), rfl⟩
      · rw [List.mem_singleton.mp hb]
        have := s3 a ha y (by simp)
        rw [e] at this
        exact this
    · rw [if_neg e]
      refine hnew fun z => ?_
      obtain ⟨u, hu, e2⟩ := h.b _ z
      rcases List.mem_append.mp hu with hu | hu
      · have h1 := s3 u hu y (by simp)
        have h2 := hle' _ y1
        rw [e2] at h1
        exact e (O.anti _ _ h2 h1.1)
      · rw [List.mem_singleton.mp hu] at e2
        exact e e2
theorem stpG_fold {le : κ → κ → Bool} (O : KOrd le) : ∀ {xs ps acc : List (κ × Fr)}, Norm ps acc → Asc le acc → (∀ x ∈ xs, Low x.2) → (ps ++ xs).Pairwise (fun a b => le a.1 b.1 = true) → Norm (ps ++ xs) (xs.foldl stpG acc) ∧ Asc le (xs.foldl stpG acc)
  | [], ps, acc, h, s, _, _ => by rw [List.append_nil]; exact ⟨h, s⟩
  | x :: xs, ps, acc, h, s, hx, hp => by
    have hle : ∀ y ∈ ps, le y.1 x.1 = true := fun y hy => (List.pairwise_append.mp hp).2.2 y hy x (by simp)
    obtain ⟨h1, h2⟩ := stpG_step O h s (hx x (by simp)) hle
    rw [show ps ++ x :: xs = (ps ++ [x]) ++ xs by simp] at hp ⊢
    rw [List.foldl_cons]
    exact stpG_fold O h1 h2 (fun y hy => hx y (by simp [hy])) hp
/-- sums in a dict, sorted, are the sorted rows with equal neighbours added -/
theorem gath_both {le : κ → κ → Bool} (O : KOrd le) {xs : List (κ × Fr)} (hx : ∀ x ∈ xs, Low x.2) : (xs.mergeSort fun a b => le a.1 b.1).foldl stpG [] = (gsum xs).mergeSort fun a b => le a.1 b.1 := by
  have T : ∀ a b c : κ × Fr, le a.1 b.1 = true → le b.1 c.1 = true → le a.1 c.1 = true := fun a b c => O.trans a.1 b.1 c.1
  have U : ∀ a b : κ × Fr, (le a.1 b.1 || le b.1 a.1) = true := fun a b => Bool.or_eq_true_iff.mpr (O.total a.1 b.1)
  have p1 := List.mergeSort_perm xs fun a b : κ × Fr => le a.1 b.1
  have p2 := List.mergeSort_perm (gsum xs) fun a b : κ × Fr => le a.1 b.1
  have q1 := List.pairwise_mergeSort (le := fun a b : κ × Fr => le a.1 b.1) T U xs
  have q2 := List.pairwise_mergeSort (le := fun a b : κ × Fr => le a.1 b.1) T U (gsum xs)
  obtain ⟨n1, s1⟩ := stpG_fold O (xs := xs.mergeSort fun a b => le a.1 b.1) (ps := []) (acc := []) norm_nil .nil (fun x h => hx x (p1.mem_iff.mp h)) (by rw [List.nil_append]; exact q1)
  rw [List.nil_append] at n1
  have n2 := (norm_gsum fun x h => (hx x h).ne).permR p2.symm
  refine norm_eq O (n1.perm p1) n2 s1 ?_
  have hn : (gsum xs).Pairwise fun a b => a.1 ≠ b.1 := List.pairwise_map.mp (gsum_nodup (xs := xs) (acc := []) (by simp))
  have hn2 : ((gsum xs).mergeSort fun a b : κ × Fr => le a.1 b.1).Pairwise fun a b => a.1 ≠ b.1 := (p2.pairwise_iff (fun {a b} h => h.symm)).mpr hn
  exact List.Pairwise.and q2 hn2
end gath3

section gath4
open GT
def leK (a b : List Key) : Bool := PySem.W.dataLe false keyD a b
theorem toks_inj : ∀ {a b : List Key}, PySem.W.keyToksAll (a.map kD) = PySem.W.keyToksAll (b.map kD) → a = b
  | [], [], _ => rfl
  | [], x :: b, h => by simp [PySem.W.keyToksAll] at h
  | x :: a, [], h => by simp [PySem.W.keyToksAll] at h
  | x :: a, y :: b, h => by
    have hx : ∀ (z : Key) (r : List Key), PySem.W.keyToksAll ((z :: r).map kD) = .inl 1 :: (match z with | .inl i => Sum.inl i | .inr s => Sum.inr s.cps.toList) :: PySem.W.keyToksAll (r.map kD) := fun z r => by
      cases z <;> simp [PySem.W.keyToksAll, PySem.W.keyToks, kD]
    rw [hx, hx] at h
    have h1 := (List.cons.inj (List.cons.inj h).2).1
    have h2 := toks_inj (List.cons.inj (List.cons.inj h).2).2
    have e : x = y := by
      cases x with
      | inl i => cases y with
        | inl j => rw [Sum.inl.inj h1]
        | inr s => cases h1
      | inr s => cases y with
        | inl j => cases h1
        | inr t =>
          have h3 : s.cps.toList = t.cps.toList := Sum.inr.inj h1
          have h4 : s.cps = t.cps := Array.toList_inj.mp h3
          have h5 : s = t := by
            obtain ⟨c⟩ := s
            obtain ⟨d⟩ := t
            cases h4
            rfl
          rw [h5]
    rw [e, h2]
theorem leK_ord : KOrd leK := by
  have T := PySem.W.sortLe_total (PyProof.Rows.listOrd PyProof.Rows.itemOrd) false fun k : List Key => PySem.W.keyToks (keyD k)
  refine ⟨T.trans, T.total, fun a b h1 h2 => ?_⟩
  have e1 : (!PyProof.Rows.lexLt PyProof.Rows.itemOrd (PySem.W.keyToks (keyD b)) (PySem.W.keyToks (keyD a))) = true := h1
  have e2 : (!PyProof.Rows.lexLt PyProof.Rows.itemOrd (PySem.W.keyToks (keyD a)) (PySem.W.keyToks (keyD b))) = true := h2
  rw [Bool.not_eq_true'] at e1 e2
  have e3 := PyProof.Rows.lex_total (O := PyProof.Rows.itemOrd) _ _ e2 e1
  unfold keyD at e3
  simp only [PySem.W.keyToks] at e3
  exact toks_inj e3
theorem eqv_kD (a b : Key) : PyData.eqv (kD a) (kD b) = decide (a = b) := by
  cases a with
  | inl i => cases b with
    | inl j =>
      simp [kD, PyData.eqv]
      rfl
    | inr t => simp [kD, PyData.eqv]
  | inr s => cases b with
    | inl j => simp [kD, PyData.eqv]
    | inr t =>
      simp [kD, PyData.eqv]
      rfl
theorem eqvAll_keys : ∀ a b : List Key, PyData.eqvAll (a.map kD) (b.map kD) = decide (a = b)
  | [], [] => by simp [PyData.eqvAll]
  | [], y :: b => by simp [PyData.eqvAll]
  | x :: a, [] => by simp [PyData.eqvAll]
  | x :: a, y :: b => by
    rw [List.map_cons, List.map_cons, PyData.eqvAll, eqv_kD, eqvAll_keys a b]
    by_cases h1 : x = y
    · by_cases h2 : a = b
      · simp [h1, h2]
      · simp [h1, h2]
    · simp [h1]
theorem eqv_keys (a b : List Key) : PyData.eqv (keyD a) (keyD b) = decide (a = b) := by
  unfold keyD
  rw [PyData.eqv]
  exact eqvAll_keys a b
/-- a row as data -/
def emb (x : KF) : PyData × Fr := (keyD x.1, x.2)
theorem stp_emb (acc : List KF) (x : KF) : stp (acc.map emb) (emb x) = (stpG acc x).map emb := by
  rcases List.eq_nil_or_concat acc with rfl | ⟨o, y, hoy⟩
  · rfl
  · rw [List.concat_eq_append] at hoy
    subst hoy
    rw [stpG_last, List.map_append, List.map_cons, List.map_nil, stp_last]
    by_cases h : y.1 = x.1
    · rw [if_pos h, if_pos (show PyData.eqv (emb y).1 (emb x).1 = true from (eqv_keys y.1 x.1).trans (decide_eq_true h)), List.map_append]
      rfl
    · rw [if_neg h, if_neg (show ¬ PyData.eqv (emb y).1 (emb x).1 = true from fun z => h (of_decide_eq_true ((eqv_keys y.1 x.1).symm.trans z))), List.map_append, List.map_append]
      rfl
theorem fold_emb : ∀ (xs acc : List KF), (xs.map emb).foldl stp (acc.map emb) = (xs.foldl stpG acc).map emb
  | [], _ => rfl
  | x :: xs, acc => by rw [List.map_cons, List.foldl_cons, List.foldl_cons, stp_emb, fold_emb xs]
theorem srtd_emb {rs : List LRow} {xs : List KF} (h : rs.map LRow.dat = xs.map emb) : (srtd rs).map LRow.dat = (xs.mergeSort fun a b => leK a.1 b.1).map emb := by
  unfold srtd
  rw [List.map_mergeSort (r := PySem.W.dataLe false LRow.d) (s := PySem.W.dataLe false Prod.fst) (f := LRow.dat) (fun _ _ _ _ => rfl), h]
  rw [← List.map_mergeSort (r := fun a b : KF => leK a.1 b.1) (s := PySem.W.dataLe false Prod.fst) (f := emb) (fun _ _ _ _ => rfl)]
/-- law_from, by a dict -/
theorem law_gath {rs : List LRow} {xs : List KF} (h : rs.map LRow.dat = xs.map emb) (hx : ∀ x ∈ xs, Low x.2) : lawOf rs = (gathOf xs).map emb := by
  unfold lawOf
  rw [srtd_emb h]
  have e := fold_emb (xs.mergeSort fun a b => leK a.1 b.1) []
  rw [List.map_nil] at e
  rw [e, gath_both leK_ord hx]
  unfold gathOf
  rw [List.filter_map]
  rfl
end gath4

section mean12
variable {K : PySem.W.Frag}
/-- a pair of fractions: the tuple at a, the number at b, the chance at c -/
structure PRow where
  a : Addr
  b : Addr
  c : Addr
  g : Fr
  f : Fr
def PRow.r (p : PRow) : V := .ref p.a
def PRow.tm (p : PRow) : Fr := ftimes p.g p.f
structure PRowAt (K : PySem.W.Frag) (H : Hp) (p : PRow) : Prop where
  tup : SqT K H p.a [.ref p.b, .ref p.c]
  num : FrAt K H p.b p.g
  fr : FrAt K H p.c p.f
theorem PRowAt.kpM {M : List Addr} {H H' : Hp} {p : PRow} (h : PRowAt K H p) (k : Kp M H H') (n : ∀ x ∈ M, NoTup H x) : PRowAt K H' p := ⟨kpTup h.tup k n, FrAt.kp h.num k n, FrAt.kp h.fr k n⟩
theorem PRowAt.kp0 {H H' : Hp} {p : PRow} (h : PRowAt K H p) (k : Kp [] H H') : PRowAt K H' p := h.kpM k (by simp)
theorem PRowAt.kpl {H H' : Hp} {p : PRow} {l : Addr} {xs : List V} (h : PRowAt K H p) (k : Kp [l] H H') (e : H l = some (.lst xs)) : PRowAt K H' p := h.kpM k fun x hx => by
  rw [List.mem_singleton.mp hx]
  exact NoTup.lst e
def meanF (ps : List PRow) : Fr := fsum (0, 1) (ps.map PRow.tm)
structure MeanOk (ps : List PRow) : Prop where
  one : ∀ p ∈ ps, p.g.2 ≠ 0 ∧ p.f.2 ≠ 0 ∧ FrB 3900 p.g ∧ FrB 3900 p.f
  sum : SumOk (ps.map PRow.tm)
  len : ps.length ≤ 1000
def spMean (K : PySem.W.Frag) : Sp := fun vs H Q _ => ∃ (a : Addr) (ps : List PRow), vs = [.ref a] ∧ SqL K H a (ps.map PRow.r) ∧ (∀ p ∈ ps, PRowAt K H p) ∧ MeanOk ps ∧ ∀ H' c, Kp [] H H' → FrAt K H' c (meanF ps) → Q (.ref c) H'
theorem ok_mean {P : Program} {w : World} {K : PySem.W.Frag} {mg : Str → Option Value} {base : Heap} (T : T P K mg base) : FnOk P w K mg base CX0 6 T.a_mean T.fd_mean ["rows"] (spMean K) := by
  refine T.F_mean.ok sc_mean (fun vs H Q E h => ?_) (fun cdv A outer s H vs Q E hr h => ?_)
  · obtain ⟨a, ps, rfl, _⟩ := h
    rfl
  · obtain ⟨a, ps, rfl, hS, hA, hM, q⟩ := h
    refine ⟨_, (pss_one (ps_ret (pe_call (ok_sum_of T) (hr.mono (by decide)) (by rfl) T.g_sum_of T.F_sum_of.kp T.b_sum_of .nil pass0 (pa_cons (pe_lc (own := [("number", 1), ("chance", 2)]) (g := gTup K 2 (gCons (gName 1) (gCons (gName 2) gNil))) rfl sc_mean.nd (pi_list (pv 0)) (blkOk_by (own := [("number", 1), ("chance", 2)]) (N := N_mean) (sc := defScope s_mean) (by decide +kernel)) (fun _ _ _ _ _ => (pg_tup rfl (pgs_cons (pg_name (i := 1) sc_mean.nd rfl (by first | exact Or.inl rfl | exact Or.inr rfl)) (pgs_cons (pg_name (i := 2) sc_mean.nd rfl (by first | exact Or.inl rfl | exact Or.inr rfl)) pgs_nil)))) (fun _ _ _ _ _ => pts_nil) (fun _ _ _ _ _ => (pe_call (ok_times T) (hr.mono (by decide)) (by rfl) T.g_times T.F_times.kp T.b_times .nil pass0 (pa_cons (pv 1) (pa_cons (pv 2) pa_nil))))) pa_nil)))), ?_⟩
    walk_at "z0"
    walk_at "z"
    refine Z.lcl (ps.map PRow.r) hS (fun D i H' => ∃ as : List Addr, Kp [] H H' ∧ H' D = some (.lst (as.map V.ref)) ∧ FrsAt K H' as ((ps.take i).map PRow.tm)) ?_ ?_ ?_ ?_
    · intro D H1 nD k1 e1
      exact ⟨[], k1, e1, .nil⟩
    · rintro D i H1 nD hi ⟨as, k1, e1, F1⟩
      exact k1.seq nin0 hS
    · rintro D i v H1 nD hv ⟨as, k1, e1, F1⟩
      rw [List.getElem?_map] at hv
      obtain ⟨p, hp, rfl⟩ := Option.map_eq_some_iff.mp hv
      have hpm := List.mem_of_getElem? hp
      have hpA := (hA p hpm).kp0 k1
      obtain ⟨o1, o2, o3, o4⟩ := hM.one p hpm
      have hil : i < ps.length := (List.getElem?_eq_some_iff.mp hp).1
      have hl := hM.len
      dsimp only [wipe, List.set]
      refine Z.gtup hpA.tup rfl ?_
      walk_at "z"
      refine ⟨rfl, ?_⟩
      walk_at "z"
      refine ⟨p.b, p.c, p.g, p.f, rfl, hpA.num, hpA.fr, o1, o2, o3, o4, fun H2 y ny k2 e2 => ?_⟩
      have e2D := k2.get nin0 e1
      refine ⟨_, e2D, Z.szl (m := 1000) (by rw [List.length_map, F1.len, List.length_map, List.length_take]; omega), as ++ [y], (k1.trans k2).mut nD rfl, by rw [upd_same, List.map_append]; rfl, ?_⟩
      rw [List.take_add_one, hp, List.map_append]
      exact ((F1.kp0 k2).snoc e2).kpl (Kp.put (by simp)) e2D
    · rintro D H1 nD ⟨as, k1, e1, F1⟩
      rw [List.length_map, List.take_length] at F1
      refine ⟨D, as, _, rfl, lstL e1, F1, hM.sum, fun H2 c k2 e2 => ?_⟩
      walk_at "z"
      exact q H2 c (k1.trans k2) e2
structure LMeanOk (ps : List PRow) : Prop where
  one : ∀ p ∈ ps, 1 ≤ p.g.2 ∧ 1 ≤ p.f.2 ∧ FrB 900 p.g ∧ FrB 900 p.f
  sum : ∀ i p, ps[i]? = some p → ∃ n m, FrB n (fsum (0, 1) ((ps.take i).map PRow.tm)) ∧ FrB m p.tm ∧ n + m ≤ 1900
theorem tm_pos {p : PRow} (h1 : 1 ≤ p.g.2) (h2 : 1 ≤ p.f.2) : 1 ≤ p.tm.2 := by
  unfold PRow.tm ftimes
  exact lo_pos (Int.mul_ne_zero (by omega) (by omega))
def spLMean (K : PySem.W.Frag) : Sp := fun vs H Q _ => ∃ (a : Addr) (ps : List PRow), vs = [.ref a] ∧ SqL K H a (ps.map PRow.r) ∧ (∀ p ∈ ps, PRowAt K H p) ∧ LMeanOk ps ∧ ∀ H' c, Kp [] H H' → FrAt K H' c (meanF ps) → Q (.ref c) H'
theorem ok__law_mean {P : Program} {w : World} {K : PySem.W.Frag} {mg : Str → Option Value} {base : Heap} (T : T P K mg base) : FnOk P w K mg base CX0 3 T.a__law_mean T.fd__law_mean ["rows"] (spLMean K) := by
  refine T.F__law_mean.ok sc__law_mean (fun vs H Q E h => ?_) (fun cdv A outer s H vs Q E hr h => ?_)
  · obtain ⟨a, ps, rfl, _⟩ := h
    rfl
  · obtain ⟨a, ps, rfl, hS, hA, hM, q⟩ := h
    refine ⟨_, (pss_cons (ps_set (i := 1) sc__law_mean.nd rfl (by first | exact Or.inl rfl | exact Or.inr rfl) (pe_tup (pa_cons pe_int (pa_cons pe_int pa_nil))))
      (pss_cons (ps_for PassesOwn.never rfl (pi_list (pv 0)) (pg_tup rfl (pgs_cons (pg_name (i := 2) sc__law_mean.nd rfl (by first | exact Or.inl rfl | exact Or.inr rfl)) (pgs_cons (pg_name (i := 3) sc__law_mean.nd rfl (by first | exact Or.inl rfl | exact Or.inr rfl)) pgs_nil))) (pss_one (ps_set (i := 1) sc__law_mean.nd rfl (by first | exact Or.inl rfl | exact Or.inr rfl) (pe_call (ok__law_plus T) (hr.mono (by decide)) (by rfl) T.g__law_plus T.F__law_plus.kp T.b__law_plus .nil pass0 (pa_cons (pv 1) (pa_cons (pe_call (ok__law_times T) (hr.mono (by decide)) (by rfl) T.g__law_times T.F__law_times.kp T.b__law_times .nil pass0 (pa_cons (pv 2) (pa_cons (pv 3) pa_nil))) pa_nil))))))
      (pss_one (ps_ret (pv 1))))), ?_⟩
    walk_at "z0"
    walk_at "z"
    refine Z.tupK (fun b H1 nb k1 e1 => ?_)
    walk_at "z"
    refine Z.forl (ps.map PRow.r) (k1.seq nin0 hS) (fun i σ' H' => ∃ c y2 y3, σ' = [some (.ref a), some (.ref c), y2, y3] ∧ Kp [] H H' ∧ FrAt K H' c (fsum (0, 1) ((ps.take i).map PRow.tm))) ?_ ?_ ?_ ?_
    · exact ⟨b, _, _, rfl, k1, tupT e1⟩
    · rintro i σ' H' _ ⟨c, y2, y3, rfl, k2, _⟩
      exact k2.seq nin0 hS
    · rintro i v σ' H2 hv ⟨c, y2, y3, rfl, k2, e2⟩
      rw [List.getElem?_map] at hv
      obtain ⟨p, hp, rfl⟩ := Option.map_eq_some_iff.mp hv
      have hpm := List.mem_of_getElem? hp
      have hpA := (hA p hpm).kp0 k2
      obtain ⟨o1, o2, o3, o4⟩ := hM.one p hpm
      obtain ⟨n, m, b1, b2, hnm⟩ := hM.sum i p hp
      have hlow := rv_fsum (fs := (ps.take i).map PRow.tm) (t := (0, 1)) ⟨by decide, by decide⟩ fun g hg => by
        obtain ⟨z, hz, rfl⟩ := List.mem_map.mp hg
        have hz1 := hM.one z (List.mem_of_mem_take hz)
        have := tm_pos hz1.1 hz1.2.1
        omega
      refine Z.gtup hpA.tup rfl ?_
      walk_at "z"
      refine ⟨p.b, p.c, p.g, p.f, rfl, hpA.num, hpA.fr, o1, o2, ⟨900, 900, o3, o4, by decide⟩, fun H3 y ny k3 e3 => ?_⟩
      walk_at "z"
      refine ⟨c, y, _, p.tm, rfl, e2.kp0 k3, e3, hlow.2.1, tm_pos o1 o2, ⟨n, m, b1, b2, hnm⟩, fun H4 d nd k4 e4 => ?_⟩
      walk_at "z"
      refine ⟨d, _, _, rfl, k2.trans (k3.trans k4), ?_⟩
      have hf : (ps.map PRow.tm)[i]? = some p.tm := by rw [List.getElem?_map, hp]; rfl
      rw [List.map_take, fsum_take hf, ← List.map_take]
      exact e4
    · rintro σ' H' ⟨c, y2, y3, rfl, k2, e2⟩
      walk_at "z"
      rw [List.length_map, List.take_length] at e2
      exact q _ _ k2 e2
end mean12

section cov12
variable {K : PySem.W.Frag}
/-- a triple of fractions: two numbers and a chance -/
structure TRow where
  a : Addr
  b : Addr
  o : Addr
  c : Addr
  x : Fr
  y : Fr
  f : Fr
def TRow.r (p : TRow) : V := .ref p.a
structure TRowAt (K : PySem.W.Frag) (H : Hp) (p : TRow) : Prop where
  tup : SqT K H p.a [.ref p.b, .ref p.o, .ref p.c]
  one : FrAt K H p.b p.x
  two : FrAt K H p.o p.y
  fr : FrAt K H p.c p.f
theorem TRowAt.kpM {M : List Addr} {H H' : Hp} {p : TRow} (h : TRowAt K H p) (k : Kp M H H') (n : ∀ x ∈ M, NoTup H x) : TRowAt K H' p := ⟨kpTup h.tup k n, FrAt.kp h.one k n, FrAt.kp h.two k n, FrAt.kp h.fr k n⟩
theorem TRowAt.kp0 {H H' : Hp} {p : TRow} (h : TRowAt K H p) (k : Kp [] H H') : TRowAt K H' p := h.kpM k (by simp)
theorem TRowAt.kpl {H H' : Hp} {p : TRow} {l : Addr} {xs : List V} (h : TRowAt K H p) (k : Kp [l] H H') (e : H l = some (.lst xs)) : TRowAt K H' p := h.kpM k fun x hx => by
  rw [List.mem_singleton.mp hx]
  exact NoTup.lst e
/-- pairs as values: (number, chance) -/
def PRow.v (p : PRow) : Fr × Fr := (p.g, p.f)
def TRow.v (p : TRow) : Fr × Fr × Fr := (p.x, p.y, p.f)
def tmV (z : Fr × Fr) : Fr := ftimes z.1 z.2
def meanV (zs : List (Fr × Fr)) : Fr := fsum (0, 1) (zs.map tmV)
theorem meanF_v (ps : List PRow) : meanF ps = meanV (ps.map PRow.v) := by
  unfold meanF meanV
  rw [List.map_map]
  rfl
structure MeanV (zs : List (Fr × Fr)) : Prop where
  one : ∀ z ∈ zs, z.1.2 ≠ 0 ∧ z.2.2 ≠ 0 ∧ FrB 3900 z.1 ∧ FrB 3900 z.2
  sum : SumOk (zs.map tmV)
  len : zs.length ≤ 1000
theorem MeanV.to {ps : List PRow} {zs : List (Fr × Fr)} (h : MeanV zs) (e : ps.map PRow.v = zs) : MeanOk ps := by
  subst e
  refine ⟨fun p hp => h.one p.v (List.mem_map_of_mem hp), ?_, ?_⟩
  · have := h.sum
    rw [List.map_map] at this
    exact this
  · have := h.len
    rwa [List.length_map] at this
/-- lists of pairs -/
def PRows (K : PySem.W.Frag) (H : Hp) (D : Addr) (zs : List (Fr × Fr)) : Prop := ∃ ps : List PRow, H D = some (.lst (ps.map PRow.r)) ∧ (∀ p ∈ ps, PRowAt K H p) ∧ ps.map PRow.v = zs
theorem PRows.kp0 {H H' : Hp} {D : Addr} {zs : List (Fr × Fr)} (h : PRows K H D zs) (k : Kp [] H H') : PRows K H' D zs := let ⟨ps, e, A, v⟩ := h; ⟨ps, k.get nin0 e, fun p hp => (A p hp).kp0 k, v⟩
theorem PRows.new {H : Hp} {D : Addr} (h : H D = some (.lst [])) : PRows K H D [] := ⟨[], h, by simp, rfl⟩
theorem PRows.snoc {H : Hp} {D t b c : Addr} {xs : List V} {zs : List (Fr × Fr)} {g f : Fr} (h : PRows K H D zs) (e : H D = some (.lst xs)) (et : H t = some (.tup [.ref b, .ref c])) (hg : FrAt K H b g) (hf : FrAt K H c f) : PRows K (upd H D (.lst (xs ++ [.ref t]))) D (zs ++ [(g, f)]) := by
  obtain ⟨ps, e1, A, rfl⟩ := h
  rw [e] at e1
  cases e1
  have kD : Kp [D] H (upd H D (.lst (ps.map PRow.r ++ [.ref t]))) := Kp.put (by simp)
  refine ⟨ps ++ [⟨t, b, c, g, f⟩], by rw [upd_same, List.map_append]; rfl, fun p hp => ?_, by rw [List.map_append]; rfl⟩
  rcases List.mem_append.mp hp with hp | hp
  · exact (A p hp).kpl kD e
  · rw [List.mem_singleton.mp hp]
    exact PRowAt.kpl (p := ⟨t, b, c, g, f⟩) ⟨tupT et, hg, hf⟩ kD e
theorem PRows.len {H : Hp} {D : Addr} {zs : List (Fr × Fr)} {xs : List V} (h : PRows K H D zs) (e : H D = some (.lst xs)) : xs.length = zs.length := by
  obtain ⟨ps, e1, A, rfl⟩ := h
  rw [e] at e1
  cases e1
  rw [List.length_map, List.length_map]
theorem PRows.here {H : Hp} {D : Addr} {zs : List (Fr × Fr)} (h : PRows K H D zs) : ∃ xs, H D = some (.lst xs) ∧ xs.length = zs.length := by
  obtain ⟨ps, e1, A, rfl⟩ := h
  exact ⟨_, e1, by rw [List.length_map, List.length_map]⟩
/-- products of deviations -/
def devV (m o : Fr) (z : Fr × Fr × Fr) : Fr × Fr := (ftimes (fminus z.1 m) (fminus z.2.1 o), z.2.2)
def oneV (z : Fr × Fr × Fr) : Fr × Fr := (z.1, z.2.2)
def twoV (z : Fr × Fr × Fr) : Fr × Fr := (z.2.1, z.2.2)
def covV (zs : List (Fr × Fr × Fr)) : Fr := meanV (zs.map (devV (meanV (zs.map oneV)) (meanV (zs.map twoV))))
structure CovOk (zs : List (Fr × Fr × Fr)) : Prop where
  one : MeanV (zs.map oneV)
  two : MeanV (zs.map twoV)
  dev : MeanV (zs.map (devV (meanV (zs.map oneV)) (meanV (zs.map twoV))))
  nums : ∀ z ∈ zs, z.1.2 ≠ 0 ∧ z.2.1.2 ≠ 0 ∧ FrB 3000 z.1 ∧ FrB 3000 z.2.1
  mids : FrB 800 (meanV (zs.map oneV)) ∧ (meanV (zs.map oneV)).2 ≠ 0 ∧ FrB 800 (meanV (zs.map twoV)) ∧ (meanV (zs.map twoV)).2 ≠ 0
def spCov (K : PySem.W.Frag) : Sp := fun vs H Q _ => ∃ (a : Addr) (ts : List TRow), vs = [.ref a] ∧ SqL K H a (ts.map TRow.r) ∧ (∀ t ∈ ts, TRowAt K H t) ∧ CovOk (ts.map TRow.v) ∧ ∀ H' c, Kp [] H H' → FrAt K H' c (covV (ts.map TRow.v)) → Q (.ref c) H'
theorem fminus_ne {f g : Fr} (h1 : f.2 ≠ 0) (h2 : g.2 ≠ 0) : (fminus f g).2 ≠ 0 := by
  unfold fminus
  have := lo_pos (p := f.1 * g.2 - g.1 * f.2) (Int.mul_ne_zero h1 h2)
  omega
theorem ok_covariance {P : Program} {w : World} {K : PySem.W.Frag} {mg : Str → Option Value} {base : Heap} (T : T P K mg base) : FnOk P w K mg base CX0 7 T.a_covariance T.fd_covariance ["rows"] (spCov K) := by
  refine T.F_covariance.ok sc_covariance (fun vs H Q E h => ?_) (fun cdv A outer s H vs Q E hr h => ?_)
  · obtain ⟨a, ts, rfl, _⟩ := h
    rfl
  · obtain ⟨a, ts, rfl, hS, hA, hC, q⟩ := h
    have hlen : ts.length ≤ 1000 := by
      have := hC.one.len
      rwa [List.length_map, List.length_map] at this
    refine ⟨_, (pss_cons (ps_set (i := 1) sc_covariance.nd rfl (by first | exact Or.inl rfl | exact Or.inr rfl) (pe_call (ok_mean T) (hr.mono (by decide)) (by rfl) T.g_mean T.F_mean.kp T.b_mean .nil pass0 (pa_cons (pe_lc (own := [("number", 4), ("other", 5), ("chance", 6)]) (g := gTup K 3 (gCons (gName 4) (gCons (gName 5) (gCons (gName 6) gNil)))) rfl sc_covariance.nd (pi_list (pv 0)) (blkOk_by (own := [("number", 4), ("other", 5), ("chance", 6)]) (N := N_covariance) (sc := defScope s_covariance) (by decide +kernel)) (fun _ _ _ _ _ => (pg_tup rfl (pgs_cons (pg_name (i := 4) sc_covariance.nd rfl (by first | exact Or.inl rfl | exact Or.inr rfl)) (pgs_cons (pg_name (i := 5) sc_covariance.nd rfl (by first | exact Or.inl rfl | exact Or.inr rfl)) (pgs_cons (pg_name (i := 6) sc_covariance.nd rfl (by first | exact Or.inl rfl | exact Or.inr rfl)) pgs_nil))))) (fun _ _ _ _ _ => pts_nil) (fun _ _ _ _ _ => (pe_tup (pa_cons (pv 4) (pa_cons (pv 6) pa_nil))))) pa_nil)))
      (pss_cons (ps_set (i := 2) sc_covariance.nd rfl (by first | exact Or.inl rfl | exact Or.inr rfl) (pe_call (ok_mean T) (hr.mono (by decide)) (by rfl) T.g_mean T.F_mean.kp T.b_mean .nil pass0 (pa_cons (pe_lc (own := [("number", 4), ("other", 5), ("chance", 6)]) (g := gTup K 3 (gCons (gName 4) (gCons (gName 5) (gCons (gName 6) gNil)))) rfl sc_covariance.nd (pi_list (pv 0)) (blkOk_by (own := [("number", 4), ("other", 5), ("chance", 6)]) (N := N_covariance) (sc := defScope s_covariance) (by decide +kernel)) (fun _ _ _ _ _ => (pg_tup rfl (pgs_cons (pg_name (i := 4) sc_covariance.nd rfl (by first | exact Or.inl rfl | exact Or.inr rfl)) (pgs_cons (pg_name (i := 5) sc_covariance.nd rfl (by first | exact Or.inl rfl | exact Or.inr rfl)) (pgs_cons (pg_name (i := 6) sc_covariance.nd rfl (by first | exact Or.inl rfl | exact Or.inr rfl)) pgs_nil))))) (fun _ _ _ _ _ => pts_nil) (fun _ _ _ _ _ => (pe_tup (pa_cons (pv 5) (pa_cons (pv 6) pa_nil))))) pa_nil)))
      (pss_cons (ps_set (i := 3) sc_covariance.nd rfl (by first | exact Or.inl rfl | exact Or.inr rfl) (pe_lst pa_nil))
      (pss_cons (ps_for PassesOwn.never rfl (pi_list (pv 0)) (pg_tup rfl (pgs_cons (pg_name (i := 4) sc_covariance.nd rfl (by first | exact Or.inl rfl | exact Or.inr rfl)) (pgs_cons (pg_name (i := 5) sc_covariance.nd rfl (by first | exact Or.inl rfl | exact Or.inr rfl)) (pgs_cons (pg_name (i := 6) sc_covariance.nd rfl (by first | exact Or.inl rfl | exact Or.inr rfl)) pgs_nil)))) (pss_one (ps_expr (pe_bm PySem.F.plainAttrs_list PySem.F.slot_list_append PySem.F.type_list_append mt_append (pv 3) (pa_cons (pe_tup (pa_cons (pe_call (ok_times T) (hr.mono (by decide)) (by rfl) T.g_times T.F_times.kp T.b_times .nil pass0 (pa_cons (pe_call (ok_minus T) (hr.mono (by decide)) (by rfl) T.g_minus T.F_minus.kp T.b_minus .nil pass0 (pa_cons (pv 4) (pa_cons (pv 1) pa_nil))) (pa_cons (pe_call (ok_minus T) (hr.mono (by decide)) (by rfl) T.g_minus T.F_minus.kp T.b_minus .nil pass0 (pa_cons (pv 5) (pa_cons (pv 2) pa_nil))) pa_nil))) (pa_cons (pv 6) pa_nil))) pa_nil)))))
      (pss_one (ps_ret (pe_call (ok_mean T) (hr.mono (by decide)) (by rfl) T.g_mean T.F_mean.kp T.b_mean .nil pass0 (pa_cons (pv 3) pa_nil)))))))), ?_⟩
    walk_at "z0"
    walk_at "z"
    refine Z.lcl (ts.map TRow.r) hS (fun D i H' => Kp [] H H' ∧ PRows K H' D (((ts.map TRow.v).take i).map oneV)) ?_ ?_ ?_ ?_
    · intro D H1 nD k1 e1
      exact ⟨k1, PRows.new e1⟩
    · rintro D i H1 nD hi ⟨k1, _⟩
      exact k1.seq nin0 hS
    · rintro D i v H1 nD hv ⟨k1, P1⟩
      rw [List.getElem?_map] at hv
      obtain ⟨t, ht, rfl⟩ := Option.map_eq_some_iff.mp hv
      have hil : i < ts.length := (List.getElem?_eq_some_iff.mp ht).1
      have htA := (hA t (List.mem_of_getElem? ht)).kp0 k1
      dsimp only [wipe, List.set]
      refine Z.gtup htA.tup rfl ?_
      walk_at "z"
      refine ⟨rfl, ?_⟩
      walk_at "z"
      refine Z.tupK (fun u H2 nu k2 e2 => ?_)
      have P2 := P1.kp0 k2
      obtain ⟨xs, hx, hxl⟩ := P2.here
      refine ⟨xs, hx, Z.szl (m := 1000) (by rw [hxl, List.length_map, List.length_take, List.length_map]; omega), (k1.trans k2).mut nD rfl, ?_⟩
      have htv : (ts.map TRow.v)[i]? = some t.v := by rw [List.getElem?_map, ht]; rfl
      rw [List.take_add_one, htv, List.map_append]
      exact P2.snoc hx e2 (htA.kp0 k2).one (htA.kp0 k2).fr
    · rintro D H1 nD ⟨k1, P1⟩
      rw [List.length_map, ← List.length_map (f := TRow.v), List.take_length] at P1
      obtain ⟨ps, eD, pA, pv⟩ := P1
      refine ⟨D, ps, rfl, lstL eD, pA, hC.one.to pv, fun H2 m k2 e2 => ?_⟩
      rw [meanF_v, pv] at e2
      have k02 := k1.trans k2
      walk_at "z"
      refine Z.lcl (ts.map TRow.r) (k02.seq nin0 hS) (fun D i H' => Kp [] H2 H' ∧ PRows K H' D (((ts.map TRow.v).take i).map twoV)) ?_ ?_ ?_ ?_
      · intro D H3 nD k3 e3
        exact ⟨k3, PRows.new e3⟩
      · rintro D i H3 nD hi ⟨k3, _⟩
        exact k3.seq nin0 (k02.seq nin0 hS)
      · rintro D i v H3 nD hv ⟨k3, P3⟩
        rw [List.getElem?_map] at hv
        obtain ⟨t, ht, rfl⟩ := Option.map_eq_some_iff.mp hv
        have hil : i < ts.length := (List.getElem?_eq_some_iff.mp ht).1
        have htA := ((hA t (List.mem_of_getElem? ht)).kp0 k02).kp0 k3
        dsimp only [wipe, List.set]
        refine Z.gtup htA.tup rfl ?_
        walk_at "z"
        refine ⟨rfl, ?_⟩
        walk_at "z"
        refine Z.tupK (fun u H4 nu k4 e4 => ?_)
        have P4 := P3.kp0 k4
        obtain ⟨xs, hx, hxl⟩ := P4.here
        refine ⟨xs, hx, Z.szl (m := 1000) (by rw [hxl, List.length_map, List.length_take, List.length_map]; omega), (k3.trans k4).mut nD rfl, ?_⟩
        have htv : (ts.map TRow.v)[i]? = some t.v := by rw [List.getElem?_map, ht]; rfl
        rw [List.take_add_one, htv, List.map_append]
        exact P4.snoc hx e4 (htA.kp0 k4).two (htA.kp0 k4).fr
      · rintro D2 H3 nD2 ⟨k3, P3⟩
        rw [List.length_map, ← List.length_map (f := TRow.v), List.take_length] at P3
        obtain ⟨ps2, eD2, pA2, pv2⟩ := P3
        refine ⟨D2, ps2, rfl, lstL eD2, pA2, hC.two.to pv2, fun H4 o k4 e4 => ?_⟩
        rw [meanF_v, pv2] at e4
        have k24 := k3.trans k4
        have k04 := k02.trans k24
        have em := e2.kp0 k24
        walk_at "z"
        refine Z.lstK (fun R H5 nR k5 e5 => ?_)
        walk_at "z"
        have k05 := k04.trans k5
        refine Z.forl (ts.map TRow.r) (k05.seq nin0 hS) (fun i σ' H' => ∃ y4 y5 y6, σ' = [some (.ref a), some (.ref m), some (.ref o), some (.ref R), y4, y5, y6] ∧ Kp [] H4 H' ∧ PRows K H' R (((ts.map TRow.v).take i).map (devV (meanV ((ts.map TRow.v).map oneV)) (meanV ((ts.map TRow.v).map twoV))))) ?_ ?_ ?_ ?_
        · exact ⟨_, _, _, rfl, k5, PRows.new e5⟩
        · rintro i σ' H' _ ⟨y4, y5, y6, rfl, k6, _⟩
          exact (k04.trans k6).seq nin0 hS
        · rintro i v σ' H6 hv ⟨y4, y5, y6, rfl, k6, P6⟩
          rw [List.getElem?_map] at hv
          obtain ⟨t, ht, rfl⟩ := Option.map_eq_some_iff.mp hv
          have htm := List.mem_of_getElem? ht
          have hil : i < ts.length := (List.getElem?_eq_some_iff.mp ht).1
          have htA := ((hA t htm).kp0 k04).kp0 k6
          obtain ⟨n1, n2, n3, n4⟩ := hC.nums t.v (List.mem_map_of_mem htm)
          obtain ⟨m1, m2, m3, m4⟩ := hC.mids
          obtain ⟨xs6, hx6, _⟩ := P6.here
          refine Z.gtup htA.tup rfl ?_
          walk_at "z"
          refine ⟨Z.tyL hx6, ?_⟩
          walk_at "z"
          have eM : FrAt K H6 m (meanV ((ts.map TRow.v).map oneV)) := em.kp0 k6
          have eO : FrAt K H6 o (meanV ((ts.map TRow.v).map twoV)) := e4.kp0 k6
          refine ⟨t.b, m, t.x, _, rfl, htA.one, eM, n1, m2, n3.mono (by decide), m1.mono (by decide), fun H7 c1 nc1 k7 e7 => ?_⟩
          walk_at "z"
          refine ⟨t.o, o, t.y, _, rfl, (htA.kp0 k7).two, eO.kp0 k7, n2, m4, n4.mono (by decide), m3.mono (by decide), fun H8 c2 nc2 k8 e8 => ?_⟩
          walk_at "z"
          refine ⟨c1, c2, _, _, rfl, e7.kp0 k8, e8, fminus_ne n1 m2, fminus_ne n2 m4, (fminus_B n3 m1 n1 m2).mono (by decide), (fminus_B n4 m3 n2 m4).mono (by decide), fun H9 c3 nc3 k9 e9 => ?_⟩
          walk_at "z"
          refine Z.tupK (fun u H10 nu k10 e10 => ?_)
          have k610 := k7.trans (k8.trans (k9.trans k10))
          have P10 := P6.kp0 k610
          have hx10 := k610.get nin0 hx6
          walk_at "z"
          refine Z.app hx10 (Z.szl (m := 1000) (by rw [P10.len hx10, List.length_map, List.length_take, List.length_map]; omega)) ?_
          walk_at "z"
          have htv : (ts.map TRow.v)[i]? = some t.v := by rw [List.getElem?_map, ht]; rfl
          refine ⟨_, _, _, rfl, (k6.trans k610).mut nR rfl, ?_⟩
          rw [List.take_add_one, htv, List.map_append]
          exact P10.snoc hx10 e10 (e9.kp0 k10) (htA.kp0 k610).fr
        · rintro σ' H6 ⟨y4, y5, y6, rfl, k6, P6⟩
          rw [List.length_map, ← List.length_map (f := TRow.v), List.take_length] at P6
          obtain ⟨ps3, eR, pA3, pv3⟩ := P6
          walk_at "z"
          refine ⟨R, ps3, rfl, lstL eR, pA3, hC.dev.to pv3, fun H7 c k7 e7 => ?_⟩
          rw [meanF_v, pv3] at e7
          walk_at "z"
          exact q H7 c ((k04.trans k6).trans k7) e7
def dupV (z : Fr × Fr) : Fr × Fr × Fr := (z.1, z.1, z.2)
def spVar (K : PySem.W.Frag) : Sp := fun vs H Q _ => ∃ (a : Addr) (ps : List PRow), vs = [.ref a] ∧ SqL K H a (ps.map PRow.r) ∧ (∀ p ∈ ps, PRowAt K H p) ∧ CovOk ((ps.map PRow.v).map dupV) ∧ ∀ H' c, Kp [] H H' → FrAt K H' c (covV ((ps.map PRow.v).map dupV)) → Q (.ref c) H'
theorem ok_variance {P : Program} {w : World} {K : PySem.W.Frag} {mg : Str → Option Value} {base : Heap} (T : T P K mg base) : FnOk P w K mg base CX0 8 T.a_variance T.fd_variance ["rows"] (spVar K) := by
  refine T.F_variance.ok sc_variance (fun vs H Q E h => ?_) (fun cdv A outer s H vs Q E hr h => ?_)
  · obtain ⟨a, ps, rfl, _⟩ := h
    rfl
  · obtain ⟨a, ps, rfl, hS, hA, hC, q⟩ := h
    have hlen : ps.length ≤ 1000 := by
      have := hC.one.len
      rwa [List.length_map, List.length_map, List.length_map] at this
    refine ⟨_, (pss_one (ps_ret (pe_call (ok_covariance T) (hr.mono (by decide)) (by rfl) T.g_covariance T.F_covariance.kp T.b_covariance .nil pass0 (pa_cons (pe_lc (own := [("number", 1), ("chance", 2)]) (g := gTup K 2 (gCons (gName 1) (gCons (gName 2) gNil))) rfl sc_variance.nd (pi_list (pv 0)) (blkOk_by (own := [("number", 1), ("chance", 2)]) (N := N_variance) (sc := defScope s_variance) (by decide +kernel)) (fun _ _ _ _ _ => (pg_tup rfl (pgs_cons (pg_name (i := 1) sc_variance.nd rfl (by first | exact Or.inl rfl | exact Or.inr rfl)) (pgs_cons (pg_name (i := 2) sc_variance.nd rfl (by first | exact Or.inl rfl | exact Or.inr rfl)) pgs_nil)))) (fun _ _ _ _ _ => pts_nil) (fun _ _ _ _ _ => (pe_tup (pa_cons (pv 1) (pa_cons (pv 1) (pa_cons (pv 2) pa_nil)))))) pa_nil)))), ?_⟩
    walk_at "z0"
    walk_at "z"
    refine Z.lcl (ps.map PRow.r) hS (fun D i H' => ∃ ts : List TRow, Kp [] H H' ∧ H' D = some (.lst (ts.map TRow.r)) ∧ (∀ t ∈ ts, TRowAt K H' t) ∧ ts.map TRow.v = ((ps.map PRow.v).take i).map dupV) ?_ ?_ ?_ ?_
    · intro D H1 nD k1 e1
      exact ⟨[], k1, e1, by simp, by simp⟩
    · rintro D i H1 nD hi ⟨ts, k1, _⟩
      exact k1.seq nin0 hS
    · rintro D i v H1 nD hv ⟨ts, k1, e1, A1, v1⟩
      rw [List.getElem?_map] at hv
      obtain ⟨p, hp, rfl⟩ := Option.map_eq_some_iff.mp hv
      have hil : i < ps.length := (List.getElem?_eq_some_iff.mp hp).1
      have hpA := (hA p (List.mem_of_getElem? hp)).kp0 k1
      have htl : ts.length ≤ i := by
        have := congrArg List.length v1
        rw [List.length_map, List.length_map, List.length_take] at this
        omega
      dsimp only [wipe, List.set]
      refine Z.gtup hpA.tup rfl ?_
      walk_at "z"
      refine ⟨rfl, ?_⟩
      walk_at "z"
      refine Z.tupK (fun u H2 nu k2 e2 => ?_)
      have e2D := k2.get nin0 e1
      have kD : Kp [D] H2 (upd H2 D (.lst (ts.map TRow.r ++ [.ref u]))) := Kp.put (by simp)
      refine ⟨_, e2D, Z.szl (m := 1000) (by rw [List.length_map]; omega), ts ++ [⟨u, p.b, p.b, p.c, p.g, p.g, p.f⟩], (k1.trans k2).mut nD rfl, by rw [upd_same, List.map_append]; rfl, fun t ht => ?_, ?_⟩
      · rcases List.mem_append.mp ht with ht | ht
        · exact ((A1 t ht).kp0 k2).kpl kD e2D
        · rw [List.mem_singleton.mp ht]
          exact TRowAt.kpl (p := ⟨u, p.b, p.b, p.c, p.g, p.g, p.f⟩) ⟨tupT e2, (hpA.kp0 k2).num, (hpA.kp0 k2).num, (hpA.kp0 k2).fr⟩ kD e2D
      · have hpv : (ps.map PRow.v)[i]? = some p.v := by rw [List.getElem?_map, hp]; rfl
        rw [List.map_append, v1, List.take_add_one, hpv, List.map_append]
        rfl
    · rintro D H1 nD ⟨ts, k1, e1, A1, v1⟩
      rw [List.length_map, ← List.length_map (f := PRow.v), List.take_length] at v1
      refine ⟨D, ts, rfl, lstL e1, A1, by rw [v1]; exact hC, fun H2 c k2 e2 => ?_⟩
      rw [v1] at e2
      walk_at "z"
      exact q H2 c (k1.trans k2) e2
end cov12

/-- one less other, by the negative one -/
def fneg (g : Fr) : Fr := (0 - g.1, g.2)
theorem fneg_B {n : Nat} {g : Fr} (h : FrB n g) : FrB n (fneg g) := ⟨by have := h.1; unfold fneg; show (0 - g.1).natAbs < _; omega, h.2⟩
theorem rv_fneg (g : Fr) : rv (fneg g) = - rv g := by
  unfold rv fneg
  have e : ((0 - g.1 : Int) : Rat) = - (g.1 : Rat) := by
    have : ((0 - g.1 : Int) : Rat) = (0 : Rat) - (g.1 : Rat) := by exact_mod_cast rfl
    rw [this]; grind
  show ((0 - g.1 : Int) : Rat) / _ = _
  rw [e]
  grind
def fsub (f g : Fr) : Fr := fplus f (fneg g)
theorem rv_fsub {f g : Fr} (h1 : f.2 ≠ 0) (h2 : g.2 ≠ 0) : rv (fsub f g) = rv f - rv g := by
  unfold fsub
  rw [rv_fplus h1 (show (fneg g).2 ≠ 0 from h2), rv_fneg]
  grind
theorem fsub_low {f g : Fr} (h1 : f.2 ≠ 0) (h2 : g.2 ≠ 0) : Low (fsub f g) := fplus_low h1 (show (fneg g).2 ≠ 0 from h2)
theorem fsub_B {n m : Nat} {f g : Fr} (hf : FrB n f) (hg : FrB m g) (h1 : f.2 ≠ 0) (h2 : g.2 ≠ 0) : FrB (n + m + 1) (fsub f g) := fplus_B hf (fneg_B hg) h1 (show (fneg g).2 ≠ 0 from h2)
theorem ok__law_minus {P : Program} {w : World} {K : PySem.W.Frag} {mg : Str → Option Value} {base : Heap} (T : T P K mg base) : FnOk P w K mg base CX0 3 T.a__law_minus T.fd__law_minus ["one", "other"] (spG2 K fsub) := by
  refine T.F__law_minus.ok sc__law_minus (fun vs H Q E h => ?_) (fun cdv A outer s H vs Q E hr h => ?_)
  · obtain ⟨a, b, f, g, rfl, _⟩ := h
    rfl
  · obtain ⟨a, b, f, g, rfl, ha, hb, hf, hg, ⟨n, m, Bf0, Bg0, hnm⟩, q⟩ := h
    refine ⟨_, (pss_one (ps_ret (pe_call (ok__law_plus T) (hr.mono (by decide)) (by rfl) T.g__law_plus T.F__law_plus.kp T.b__law_plus .nil pass0 (pa_cons (pv 0) (pa_cons (pe_tup (pa_cons (pe_op op_sub pe_int (pe_ix ix_tup (pv 1) pe_int (fun _ _ => rfl))) (pa_cons (pe_ix ix_tup (pv 1) pe_int (fun _ _ => rfl)) pa_nil))) pa_nil))))), ?_⟩
    walk_at "z0"
    walk_at "z"
    refine Z.ixT hb (fr0 g) ?_
    walk_at "z"
    refine Z.ixT hb (fr1 g) ?_
    walk_at "z"
    refine Z.tupK (fun t H1 nt k1 e1 => ?_)
    refine ⟨a, t, f, fneg g, rfl, ha.kp0 k1, tupT e1, hf, hg, ⟨n, m, Bf0, fneg_B Bg0, hnm⟩, fun H2 c nc k2 e2 => ?_⟩
    exact q H2 c (k1.none nin0 nc) (k1.trans k2) e2

section mix12
variable {K : PySem.W.Frag}
open LamX hiding takes0
open LamK
structure LMeanV (zs : List (Fr × Fr)) : Prop where
  one : ∀ z ∈ zs, 1 ≤ z.1.2 ∧ 1 ≤ z.2.2 ∧ FrB 900 z.1 ∧ FrB 900 z.2
  sum : ∀ i z, zs[i]? = some z → ∃ n m, FrB n (fsum (0, 1) ((zs.take i).map tmV)) ∧ FrB m (tmV z) ∧ n + m ≤ 1900
theorem LMeanV.to {ps : List PRow} {zs : List (Fr × Fr)} (h : LMeanV zs) (e : ps.map PRow.v = zs) : LMeanOk ps := by
  subst e
  refine ⟨fun p hp => h.one p.v (List.mem_map_of_mem hp), fun i p hp => ?_⟩
  have := h.sum i p.v (by rw [List.getElem?_map, hp]; rfl)
  rw [← List.map_take, List.map_map] at this
  exact this
def sqV (z : Fr × Fr) : Fr × Fr := (ftimes z.1 z.1, z.2)
def spreadV (zs : List (Fr × Fr)) : Fr := fsub (meanV (zs.map sqV)) (ftimes (meanV zs) (meanV zs))
structure SpreadOk (zs : List (Fr × Fr)) : Prop where
  sq : LMeanV (zs.map sqV)
  one : LMeanV zs
  len : zs.length ≤ 1000
  big : ∃ n m, FrB n (meanV (zs.map sqV)) ∧ FrB m (ftimes (meanV zs) (meanV zs)) ∧ n + m ≤ 1900
  mid : FrB 900 (meanV zs) ∧ 1 ≤ (meanV zs).2 ∧ 1 ≤ (meanV (zs.map sqV)).2
def spSpread (K : PySem.W.Frag) : Sp := fun vs H Q _ => ∃ (a : Addr) (ps : List PRow), vs = [.ref a] ∧ SqL K H a (ps.map PRow.r) ∧ (∀ p ∈ ps, PRowAt K H p) ∧ SpreadOk (ps.map PRow.v) ∧ ∀ H' c, Kp [] H H' → FrAt K H' c (spreadV (ps.map PRow.v)) → Q (.ref c) H'
theorem ok__law_spread {P : Program} {w : World} {K : PySem.W.Frag} {mg : Str → Option Value} {base : Heap} (T : T P K mg base) : FnOk P w K mg base CX0 4 T.a__law_spread T.fd__law_spread ["rows"] (spSpread K) := by
  refine T.F__law_spread.ok sc__law_spread (fun vs H Q E h => ?_) (fun cdv A outer s H vs Q E hr h => ?_)
  · obtain ⟨a, ps, rfl, _⟩ := h
    rfl
  · obtain ⟨a, ps, rfl, hS, hA, hC, q⟩ := h
    have hlen : ps.length ≤ 1000 := by
      have := hC.len
      rwa [List.length_map] at this
    refine ⟨_, (pss_cons (ps_set (i := 1) sc__law_spread.nd rfl (by first | exact Or.inl rfl | exact Or.inr rfl) (pe_call (ok__law_mean T) (hr.mono (by decide)) (by rfl) T.g__law_mean T.F__law_mean.kp T.b__law_mean .nil pass0 (pa_cons (pe_lc (own := [("number", 3), ("chance", 4)]) (g := gTup K 2 (gCons (gName 3) (gCons (gName 4) gNil))) rfl sc__law_spread.nd (pi_list (pv 0)) (blkOk_by (own := [("number", 3), ("chance", 4)]) (N := N__law_spread) (sc := defScope s__law_spread) (by decide +kernel)) (fun _ _ _ _ _ => (pg_tup rfl (pgs_cons (pg_name (i := 3) sc__law_spread.nd rfl (by first | exact Or.inl rfl | exact Or.inr rfl)) (pgs_cons (pg_name (i := 4) sc__law_spread.nd rfl (by first | exact Or.inl rfl | exact Or.inr rfl)) pgs_nil)))) (fun _ _ _ _ _ => pts_nil) (fun _ _ _ _ _ => (pe_tup (pa_cons (pe_call (ok__law_times T) (hr.mono (by decide)) (by rfl) T.g__law_times T.F__law_times.kp T.b__law_times .nil pass0 (pa_cons (pv 3) (pa_cons (pv 3) pa_nil))) (pa_cons (pv 4) pa_nil))))) pa_nil)))
      (pss_cons (ps_set (i := 2) sc__law_spread.nd rfl (by first | exact Or.inl rfl | exact Or.inr rfl) (pe_call (ok__law_mean T) (hr.mono (by decide)) (by rfl) T.g__law_mean T.F__law_mean.kp T.b__law_mean .nil pass0 (pa_cons (pv 0) pa_nil)))
      (pss_one (ps_ret (pe_call (ok__law_minus T) (hr.mono (by decide)) (by rfl) T.g__law_minus T.F__law_minus.kp T.b__law_minus .nil pass0 (pa_cons (pv 1) (pa_cons (pe_call (ok__law_times T) (hr.mono (by decide)) (by rfl) T.g__law_times T.F__law_times.kp T.b__law_times .nil pass0 (pa_cons (pv 2) (pa_cons (pv 2) pa_nil))) pa_nil))))))), ?_⟩
    walk_at "z0"
    walk_at "z"
    refine Z.lcl (ps.map PRow.r) hS (fun D i H' => Kp [] H H' ∧ PRows K H' D (((ps.map PRow.v).take i).map sqV)) ?_ ?_ ?_ ?_
    · intro D H1 nD k1 e1
      exact ⟨k1, PRows.new e1⟩
    · rintro D i H1 nD hi ⟨k1, _⟩
      exact k1.seq nin0 hS
    · rintro D i v H1 nD hv ⟨k1, P1⟩
      rw [List.getElem?_map] at hv
      obtain ⟨p, hp, rfl⟩ := Option.map_eq_some_iff.mp hv
      have hil : i < ps.length := (List.getElem?_eq_some_iff.mp hp).1
      have hpm := List.mem_of_getElem? hp
      have hpA := (hA p hpm).kp0 k1
      obtain ⟨o1, o2, o3, o4⟩ := hC.one.one p.v (List.mem_map_of_mem hpm)
      dsimp only [wipe, List.set]
      refine Z.gtup hpA.tup rfl ?_
      walk_at "z"
      refine ⟨rfl, ?_⟩
      walk_at "z"
      refine ⟨p.b, p.b, p.g, p.g, rfl, hpA.num, hpA.num, o1, o1, ⟨900, 900, o3, o3, by decide⟩, fun H2 y ny k2 e2 => ?_⟩
      walk_at "z"
      refine Z.tupK (fun u H3 nu k3 e3 => ?_)
      have P3 := (P1.kp0 k2).kp0 k3
      obtain ⟨xs, hx, hxl⟩ := P3.here
      refine ⟨xs, hx, Z.szl (m := 1000) (by rw [hxl, List.length_map, List.length_take, List.length_map]; omega), (k1.trans (k2.trans k3)).mut nD rfl, ?_⟩
      have hpv : (ps.map PRow.v)[i]? = some p.v := by rw [List.getElem?_map, hp]; rfl
      rw [List.take_add_one, hpv, List.map_append]
      exact P3.snoc hx e3 (e2.kp0 k3) ((hpA.kp0 k2).kp0 k3).fr
    · rintro D H1 nD ⟨k1, P1⟩
      rw [List.length_map, ← List.length_map (f := PRow.v), List.take_length] at P1
      obtain ⟨qs, eD, qA, qv⟩ := P1
      refine ⟨D, qs, rfl, lstL eD, qA, hC.sq.to qv, fun H2 c k2 e2 => ?_⟩
      rw [meanF_v, qv] at e2
      have k02 := k1.trans k2
      walk_at "z"
      refine ⟨a, ps, rfl, k02.seq nin0 hS, fun p hp => (hA p hp).kp0 k02, hC.one.to rfl, fun H3 m k3 e3 => ?_⟩
      rw [meanF_v] at e3
      obtain ⟨m1, m2, m3⟩ := hC.mid
      walk_at "z"
      refine ⟨m, m, _, _, rfl, e3, e3, m2, m2, ⟨900, 900, m1, m1, by decide⟩, fun H4 s ns k4 e4 => ?_⟩
      have hs1 : 1 ≤ (ftimes (meanV (ps.map PRow.v)) (meanV (ps.map PRow.v))).2 := by
        unfold ftimes
        exact lo_pos (Int.mul_ne_zero (by omega) (by omega))
      obtain ⟨n, m', b1, b2, hnm⟩ := hC.big
      walk_at "z"
      refine ⟨c, s, _, _, rfl, (e2.kp0 k3).kp0 k4, e4, m3, hs1, ⟨n, m', b1, b2, hnm⟩, fun H5 d nd k5 e5 => ?_⟩
      walk_at "z"
      exact q H5 d (k02.trans (k3.trans (k4.trans k5))) e5
/-! mixed -/
abbrev DF := PyData × Fr
/-- what law_from asks of its rows, as data -/
structure LawD (xs : List DF) : Prop where
  key : KeyOk (xs.map Prod.fst)
  sum : SumOk (xs.map Prod.snd)
  stp : ∀ i, ∀ y ∈ ((xs.mergeSort (PySem.W.dataLe false Prod.fst)).take i).foldl stp [], FrB 3900 y.2 ∧ y.2.2 ≠ 0
  len : xs.length ≤ 100000
def lawDF (xs : List DF) : List DF := ((xs.mergeSort (PySem.W.dataLe false Prod.fst)).foldl stp []).filter fun x => !decide (x.2 = (0, 1))
theorem srtd_dat (rs : List LRow) : (srtd rs).map LRow.dat = (rs.map LRow.dat).mergeSort (PySem.W.dataLe false Prod.fst) := by
  unfold srtd
  exact List.map_mergeSort (r := PySem.W.dataLe false LRow.d) (s := PySem.W.dataLe false Prod.fst) (f := LRow.dat) (fun _ _ _ _ => rfl)
theorem lawOf_D (rs : List LRow) : lawOf rs = lawDF (rs.map LRow.dat) := by
  unfold lawOf lawDF
  rw [srtd_dat]
theorem LawD.to {H : Hp} {rs : List LRow} {xs : List DF} (h : LawD xs) (e : rs.map LRow.dat = xs) (hA : ∀ r ∈ rs, LRowAt K H r) : LawIn K H rs := by
  subst e
  have e1 : (rs.map LRow.dat).map Prod.fst = rs.map LRow.d := by rw [List.map_map]; rfl
  have e2 : (rs.map LRow.dat).map Prod.snd = rs.map LRow.f := by rw [List.map_map]; rfl
  refine ⟨hA, by rw [← e1]; exact h.key, by rw [← e2]; exact h.sum, fun i y hy => ?_, by have := h.len; rwa [List.length_map] at this⟩
  rw [srtd_dat] at hy
  exact h.stp i y hy
/-- a law's rows at a, to be mixed -/
structure Part where
  a : Addr
  rs : List LRow
def Part.r (p : Part) : V := .ref p.a
structure PartAt (K : PySem.W.Frag) (H : Hp) (p : Part) : Prop where
  seq : SqL K H p.a (p.rs.map LRow.r)
  rows : ∀ r ∈ p.rs, LRowAt K H r
theorem PartAt.kp0 {H H' : Hp} {p : Part} (h : PartAt K H p) (k : Kp [] H H') : PartAt K H' p := ⟨k.seq nin0 h.seq, fun r hr => (h.rows r hr).kp0 k⟩
def scaleD (s : Fr) (p : Part) : List DF := p.rs.map fun r => (r.d, ftimes s r.f)
def mixD (ps : List Part) (fs : List Fr) : List DF := (ps.zip fs).flatMap fun x => scaleD x.2 x.1
def mixT (ps : List Part) (fs : List Fr) (i : Nat) : List DF := ((ps.zip fs).take i).flatMap fun x => scaleD x.2 x.1
theorem mixT_snoc {ps : List Part} {fs : List Fr} {i : Nat} {p : Part} {f : Fr} (h1 : ps[i]? = some p) (h2 : fs[i]? = some f) : mixT ps fs (i + 1) = mixT ps fs i ++ scaleD f p := by
  unfold mixT
  rw [List.take_add_one, (List.getElem?_zip_eq_some (z := (p, f))).mpr ⟨h1, h2⟩, List.flatMap_append]
  show _ ++ (scaleD f p ++ []) = _
  rw [List.append_nil]
theorem mixT_all {ps : List Part} {fs : List Fr} (h : ps.length = fs.length) : mixT ps fs ps.length = mixD ps fs := by
  unfold mixT mixD
  rw [List.take_of_length_le (by rw [List.length_zip, h, Nat.min_self]; exact Nat.le_refl _)]
def spMixed (K : PySem.W.Frag) (C P : Addr) : Sp := fun vs H Q E => ∃ (a b : Addr) (cs : List Addr) (fs : List Fr), vs = [.ref a, .ref b] ∧ SqL K H b (cs.map V.ref) ∧ FrsAt K H cs fs ∧ SumOk fs ∧ (chOkB fs = false → ∀ H', Kp [] H H' → E (.ref C) none H') ∧
  (chOkB fs = true → ∃ ps : List Part, Tabs [(P, LQ)] H ∧ SqL K H a (ps.map Part.r) ∧ (∀ p ∈ ps, PartAt K H p) ∧ ps.length = fs.length ∧ (∀ f ∈ fs, FrB 1900 f) ∧ (∀ p ∈ ps, (∀ r ∈ p.rs, r.f.2 ≠ 0 ∧ FrB 1900 r.f) ∧ p.rs.length ≤ 100) ∧ ps.length ≤ 100 ∧ LawD (mixD ps fs) ∧ chOkB ((mixD ps fs).map Prod.snd) = true ∧
    ∀ (H' : Hp) (d : Addr) (out : List LRow), Nw H d → ExtN H H' → Tabs [(P, LQ)] H' → H' d = some (.lst (out.map LRow.r)) → (∀ r ∈ out, LRowAt K H' r) → out.map LRow.dat = lawDF (mixD ps fs) → Q (.ref d) H')
theorem ok_mixed {P : Program} {w : World} {K : PySem.W.Frag} {mg : Str → Option Value} {base : Heap} (T : T P K mg base) : FnOk P w K mg base (L2.CX P w) 8 T.a_mixed T.fd_mixed ["laws", "chances"] (spMixed K T.C_InvalidLaw T.P_law_from) := by
  refine T.F_mixed.okX sc_mixed (fun vs H Q E h => ?_) (fun cdv A outer s H vs Q E hr h => ?_)
  · obtain ⟨a, b, cs, fs, rfl, _⟩ := h
    rfl
  · obtain ⟨a, b, cs, fs, rfl, hS, hF, hB, qE, q⟩ := h
    refine ⟨_, (pss_cons (ps_expr (pe_call (ok_check_chances T) (hr.mono (by decide)) (by rfl) T.g_check_chances T.F_check_chances.kp T.b_check_chances .nil (passes_call (takes_of rfl rfl rfl rfl) (fun _ _ _ _ h => h)) (pa_cons (pv 1) pa_nil)))
      (pss_cons (ps_set (i := 2) sc_mixed.nd rfl (by first | exact Or.inl rfl | exact Or.inr rfl) (pe_lst pa_nil))
      (pss_cons (ps_for (passes_of rfl) rfl (pi_zip (by rfl) T.z_zip (pa_cons (pv 0) (pa_cons (pv 1) pa_nil))) (pg_tup rfl (pgs_cons (pg_name (i := 3) sc_mixed.nd rfl (by first | exact Or.inl rfl | exact Or.inr rfl)) (pgs_cons (pg_name (i := 4) sc_mixed.nd rfl (by first | exact Or.inl rfl | exact Or.inr rfl)) pgs_nil))) (pss_one (ps_expr (pe_bm PySem.F.plainAttrs_list PySem.F.slot_list_extend PySem.F.type_list_extend mt_extend (pv 2) (pa_cons (pe_lc (own := [("outcome", 5), ("chance", 6)]) (g := gTup K 2 (gCons (gName 5) (gCons (gName 6) gNil))) rfl sc_mixed.nd (pi_list (pv 3)) (blkOk_by (own := [("outcome", 5), ("chance", 6)]) (N := N_mixed) (sc := defScope s_mixed) (by decide +kernel)) (fun _ _ _ _ _ => (pg_tup rfl (pgs_cons (pg_name (i := 5) sc_mixed.nd rfl (by first | exact Or.inl rfl | exact Or.inr rfl)) (pgs_cons (pg_name (i := 6) sc_mixed.nd rfl (by first | exact Or.inl rfl | exact Or.inr rfl)) pgs_nil)))) (fun _ _ _ _ _ => pts_nil) (fun _ _ _ _ _ => (pe_tup (pa_cons (pv 5) (pa_cons (pe_call (ok_times T) (hr.mono (by decide)) (by rfl) T.g_times T.F_times.kp T.b_times .nil pass0 (pa_cons (pv 4) (pa_cons (pv 6) pa_nil))) pa_nil))))) pa_nil)))))
      (pss_one (ps_ret (pe_call (ok_law_from T) (hr.mono (by decide)) (by rfl) T.g_law_from T.F_law_from.kp T.b_law_from .nil (passes_call (takes_of rfl rfl rfl rfl) (fun _ _ _ _ h => h)) (pa_cons (pv 2) pa_nil))))))), ?_⟩
    walk_at "z0"
    walk_at "z"
    refine ⟨b, cs, fs, rfl, hS, hF, hB, fun ok H1 k1 => ?_, fun bad H1 k1 => qE bad H1 k1⟩
    obtain ⟨ps, hT, hP, hA, hpl, hfB, hrB, hl, hD, hch, q⟩ := q ok
    walk_at "z"
    refine Z.lstK (fun R H2 nR k2 e2 => ?_)
    have k02 := k1.trans k2
    walk_at "z"
    have kR0 : H R = none := k1.none nin0 nR
    refine Z.forz (ps.map Part.r) (cs.map V.ref) (by rw [List.length_map, List.length_map, hF.len]; exact hpl) (k02.seq nin0 hP) (k02.seq nin0 hS) (fun i σ' H' => ∃ (y3 y4 : Option V) (rs : List LRow), σ' = [some (.ref a), some (.ref b), some (.ref R), y3, y4, none, none] ∧ Kp [] H H' ∧ H' R = some (.lst (rs.map LRow.r)) ∧ (∀ r ∈ rs, LRowAt K H' r) ∧ rs.map LRow.dat = mixT ps fs i ∧ rs.length ≤ 100 * i) ?_ ?_ ?_ ?_
    · exact ⟨_, _, [], rfl, k02, e2, by simp, rfl, by simp⟩
    · rintro i σ' H' hi ⟨y3, y4, rs, rfl, k3, _⟩
      exact ⟨k3.seq nin0 hP, k3.seq nin0 hS⟩
    · rintro i v1 v2 σ' H3 H4 T2 hv1 hv2 ⟨y3, y4, rs, rfl, k3, e3, A3, d3, l3⟩ nT k4 e4
      rw [List.getElem?_map] at hv1
      obtain ⟨p, hp, rfl⟩ := Option.map_eq_some_iff.mp hv1
      have hpm := List.mem_of_getElem? hp
      have k04 := k3.trans k4
      obtain ⟨c, f, rfl, hf, hcF⟩ := (hF.kp0 k04).get hv2
      have hPA := (hA p hpm).kp0 k04
      obtain ⟨hr1, hr2⟩ := hrB p hpm
      have hff := hB.1 f (List.mem_of_getElem? hf)
      have hfm := hfB f (List.mem_of_getElem? hf)
      have hil : i < ps.length := (List.getElem?_eq_some_iff.mp hp).1
      refine Z.gtup (tupT e4) rfl ?_
      have e4R := k4.get nin0 e3
      walk_at "z"
      refine ⟨Z.tyL e4R, ?_⟩
      walk_at "z"
      refine Z.lcl (p.rs.map LRow.r) hPA.seq (fun D j H' => ∃ qs : List LRow, Kp [] H4 H' ∧ H' D = some (.lst (qs.map LRow.r)) ∧ (∀ r ∈ qs, LRowAt K H' r) ∧ qs.map LRow.dat = (scaleD f p).take j ∧ qs.length = j) ?_ ?_ ?_ ?_
      · intro D H5 nD k5 e5
        exact ⟨[], k5, e5, by simp, by simp, rfl⟩
      · rintro D j H5 nD hj ⟨qs, k5, _⟩
        exact k5.seq nin0 hPA.seq
      · rintro D j v H5 nD hv ⟨qs, k5, e5, A5, d5, l5⟩
        rw [List.getElem?_map] at hv
        obtain ⟨r, hr3, rfl⟩ := Option.map_eq_some_iff.mp hv
        have hrm := List.mem_of_getElem? hr3
        have hjl : j < p.rs.length := (List.getElem?_eq_some_iff.mp hr3).1
        have hrA := (hPA.rows r hrm).kp0 k5
        obtain ⟨r1, r2⟩ := hr1 r hrm
        dsimp only [wipe, List.set]
        refine Z.gtup hrA.tup rfl ?_
        walk_at "z"
        refine ⟨rfl, ?_⟩
        walk_at "z"
        refine ⟨c, r.c, f, r.f, rfl, hcF.kp0 k5, hrA.fr, hff.2, r1, hff.1, r2.mono (by decide), fun H6 y ny k6 e6 => ?_⟩
        walk_at "z"
        refine Z.tupK (fun u H7 nu k7 e7 => ?_)
        have e7D := (k6.trans k7).get nin0 e5
        have kD : Kp [D] H7 (upd H7 D (.lst (qs.map LRow.r ++ [.ref u]))) := Kp.put (by simp)
        refine ⟨_, e7D, Z.szl (m := 1000) (by rw [List.length_map]; omega), qs ++ [⟨u, r.v, r.d, y, ftimes f r.f⟩], (k5.trans (k6.trans k7)).mut nD rfl, by rw [upd_same, rmap_snoc], fun x hx => ?_, ?_, by rw [List.length_append, l5]; rfl⟩
        · rcases List.mem_append.mp hx with hx | hx
          · exact ((A5 x hx).kp0 (k6.trans k7)).kpl kD e7D
          · rw [List.mem_singleton.mp hx]
            have hA7 := hrA.kp0 (k6.trans k7)
            exact LRowAt.kpl (r := ⟨u, r.v, r.d, y, ftimes f r.f⟩) ⟨tupT e7, hA7.dp, e6.kp0 k7, hA7.ok⟩ kD e7D
        · have hs : (scaleD f p)[j]? = some (r.d, ftimes f r.f) := by unfold scaleD; rw [List.getElem?_map, hr3]; rfl
          rw [List.map_append, d5, List.take_add_one, hs]
          rfl
      · rintro D H5 nD ⟨qs, k5, e5, A5, d5, l5⟩
        rw [List.length_map] at d5 l5
        rw [List.take_of_length_le (by unfold scaleD; rw [List.length_map]; exact Nat.le_refl _)] at d5
        have e5R := k5.get nin0 e4R
        walk_at "z"
        refine ⟨R, D, _, _, rfl, rfl, e5R, e5, Nat.le_trans (show _ ≤ 100000 by rw [List.length_map, List.length_map, l5]; omega) (by decide), ?_⟩
        have kR : Kp [R] H5 (upd H5 R (.lst (rs.map LRow.r ++ qs.map LRow.r))) := Kp.put (by simp)
        walk_at "z"
        refine ⟨_, _, rs ++ qs, rfl, (k04.trans k5).mut kR0 rfl, by rw [upd_same, List.map_append], fun x hx => ?_, ?_, ?_⟩
        · rcases List.mem_append.mp hx with hx | hx
          · exact ((A3 x hx).kp0 (k4.trans k5)).kpl kR e5R
          · exact (A5 x hx).kpl kR e5R
        · rw [List.map_append, d3, d5, mixT_snoc hp hf]
        · rw [List.length_append, l5]
          omega
    · rintro σ' H3 ⟨y3, y4, rs, rfl, k3, e3, A3, d3, l3⟩
      rw [List.length_map, mixT_all hpl] at d3
      walk_at "z"
      have eD : (rs.map LRow.dat).map Prod.snd = rs.map LRow.f := by rw [List.map_map]; rfl
      refine ⟨R, rs, rfl, tabs_kp hT k3, lstL e3, hD.to d3 A3, fun bad => ?_, fun _ H4 d out nd x4 T4 h4 A4 D4 => ?_⟩
      · rw [← eD, d3, hch] at bad
        cases bad
      · walk_at "z"
        refine q H4 d out (Nw.back nd (ext_kp k3)) ((ext_kp k3).trans x4) T4 h4 A4 ?_
        rw [D4, lawOf_D, d3]
end mix12

section join12
variable {K : PySem.W.Frag}
/-- a row of two laws together: the tuple at a, the pair at t -/
structure JRow where
  a : Addr
  t : Addr
  b : Addr
  o : Addr
  c : Addr
  x : Fr
  y : Fr
  f : Fr
def JRow.r (p : JRow) : V := .ref p.a
def JRow.v (p : JRow) : Fr × Fr × Fr := (p.x, p.y, p.f)
structure JRowAt (K : PySem.W.Frag) (H : Hp) (p : JRow) : Prop where
  tup : SqT K H p.a [.ref p.t, .ref p.c]
  pair : SqT K H p.t [.ref p.b, .ref p.o]
  one : FrAt K H p.b p.x
  two : FrAt K H p.o p.y
  fr : FrAt K H p.c p.f
theorem JRowAt.kpM {M : List Addr} {H H' : Hp} {p : JRow} (h : JRowAt K H p) (k : Kp M H H') (n : ∀ x ∈ M, NoTup H x) : JRowAt K H' p := ⟨kpTup h.tup k n, kpTup h.pair k n, FrAt.kp h.one k n, FrAt.kp h.two k n, FrAt.kp h.fr k n⟩
theorem JRowAt.kp0 {H H' : Hp} {p : JRow} (h : JRowAt K H p) (k : Kp [] H H') : JRowAt K H' p := h.kpM k (by simp)
theorem JRowAt.kpl {H H' : Hp} {p : JRow} {l : Addr} {xs : List V} (h : JRowAt K H p) (k : Kp [l] H H') (e : H l = some (.lst xs)) : JRowAt K H' p := h.kpM k fun x hx => by
  rw [List.mem_singleton.mp hx]
  exact NoTup.lst e
def joinOne (z : Fr × Fr) (ys : List (Fr × Fr)) : List (Fr × Fr × Fr) := ys.map fun y => (z.1, y.1, ftimes z.2 y.2)
def joinV (zs ys : List (Fr × Fr)) : List (Fr × Fr × Fr) := zs.flatMap fun z => joinOne z ys
theorem joinV_snoc {zs ys : List (Fr × Fr)} {i : Nat} {z : Fr × Fr} (h : zs[i]? = some z) : joinV (zs.take (i + 1)) ys = joinV (zs.take i) ys ++ joinOne z ys := by
  unfold joinV
  rw [List.take_add_one, h, List.flatMap_append]
  show _ ++ (joinOne z ys ++ []) = _
  rw [List.append_nil]
def spJoined (K : PySem.W.Frag) : Sp := fun vs H Q _ => ∃ (a b : Addr) (ps qs : List PRow), vs = [.ref a, .ref b] ∧ SqL K H a (ps.map PRow.r) ∧ (∀ p ∈ ps, PRowAt K H p) ∧ SqL K H b (qs.map PRow.r) ∧ (∀ p ∈ qs, PRowAt K H p) ∧ ps.length ≤ 100 ∧ qs.length ≤ 100 ∧ (∀ p ∈ ps, p.f.2 ≠ 0 ∧ FrB 3900 p.f) ∧ (∀ p ∈ qs, p.f.2 ≠ 0 ∧ FrB 3900 p.f) ∧
  ∀ (H' : Hp) (d : Addr) (out : List JRow), H d = none → Kp [] H H' → H' d = some (.lst (out.map JRow.r)) → (∀ p ∈ out, JRowAt K H' p) → out.map JRow.v = joinV (ps.map PRow.v) (qs.map PRow.v) → Q (.ref d) H'
theorem ok_joined {P : Program} {w : World} {K : PySem.W.Frag} {mg : Str → Option Value} {base : Heap} (T : T P K mg base) : FnOk P w K mg base CX0 5 T.a_joined T.fd_joined ["first", "second"] (spJoined K) := by
  refine T.F_joined.ok sc_joined (fun vs H Q E h => ?_) (fun cdv A outer s H vs Q E hr h => ?_)
  · obtain ⟨a, b, ps, qs, rfl, _⟩ := h
    rfl
  · obtain ⟨a, b, ps, qs, rfl, hS, hA, hS2, hA2, hl1, hl2, hB1, hB2, q⟩ := h
    refine ⟨_, (pss_cons (ps_set (i := 2) sc_joined.nd rfl (by first | exact Or.inl rfl | exact Or.inr rfl) (pe_lst pa_nil))
      (pss_cons (ps_for PassesOwn.never rfl (pi_list (pv 0)) (pg_tup rfl (pgs_cons (pg_name (i := 3) sc_joined.nd rfl (by first | exact Or.inl rfl | exact Or.inr rfl)) (pgs_cons (pg_name (i := 4) sc_joined.nd rfl (by first | exact Or.inl rfl | exact Or.inr rfl)) pgs_nil))) (pss_one (ps_expr (pe_bm PySem.F.plainAttrs_list PySem.F.slot_list_extend PySem.F.type_list_extend mt_extend (pv 2) (pa_cons (pe_lc (own := [("other", 5), ("share", 6)]) (g := gTup K 2 (gCons (gName 5) (gCons (gName 6) gNil))) rfl sc_joined.nd (pi_list (pv 1)) (blkOk_by (own := [("other", 5), ("share", 6)]) (N := N_joined) (sc := defScope s_joined) (by decide +kernel)) (fun _ _ _ _ _ => (pg_tup rfl (pgs_cons (pg_name (i := 5) sc_joined.nd rfl (by first | exact Or.inl rfl | exact Or.inr rfl)) (pgs_cons (pg_name (i := 6) sc_joined.nd rfl (by first | exact Or.inl rfl | exact Or.inr rfl)) pgs_nil)))) (fun _ _ _ _ _ => pts_nil) (fun _ _ _ _ _ => (pe_tup (pa_cons (pe_tup (pa_cons (pv 3) (pa_cons (pv 5) pa_nil))) (pa_cons (pe_call (ok_times T) (hr.mono (by decide)) (by rfl) T.g_times T.F_times.kp T.b_times .nil pass0 (pa_cons (pv 4) (pa_cons (pv 6) pa_nil))) pa_nil))))) pa_nil)))))
      (pss_one (ps_ret (pv 2))))), ?_⟩
    walk_at "z0"
    walk_at "z"
    refine Z.lstK (fun R H1 nR k1 e1 => ?_)
    walk_at "z"
    refine Z.forl (ps.map PRow.r) (k1.seq nin0 hS) (fun i σ' H' => ∃ (y3 y4 : Option V) (js : List JRow), σ' = [some (.ref a), some (.ref b), some (.ref R), y3, y4, none, none] ∧ Kp [] H H' ∧ H' R = some (.lst (js.map JRow.r)) ∧ (∀ p ∈ js, JRowAt K H' p) ∧ js.map JRow.v = joinV ((ps.map PRow.v).take i) (qs.map PRow.v) ∧ js.length ≤ 100 * i) ?_ ?_ ?_ ?_
    · exact ⟨_, _, [], rfl, k1, e1, by simp, rfl, by simp⟩
    · rintro i σ' H' hi ⟨y3, y4, js, rfl, k2, _⟩
      exact k2.seq nin0 hS
    · rintro i v σ' H2 hv ⟨y3, y4, js, rfl, k2, e2, A2, d2, l2⟩
      rw [List.getElem?_map] at hv
      obtain ⟨p, hp, rfl⟩ := Option.map_eq_some_iff.mp hv
      have hpm := List.mem_of_getElem? hp
      have hil : i < ps.length := (List.getElem?_eq_some_iff.mp hp).1
      have hpA := (hA p hpm).kp0 k2
      obtain ⟨b1, b2⟩ := hB1 p hpm
      refine Z.gtup hpA.tup rfl ?_
      walk_at "z"
      refine ⟨Z.tyL e2, ?_⟩
      walk_at "z"
      refine Z.lcl (qs.map PRow.r) (k2.seq nin0 hS2) (fun D j H' => ∃ ks : List JRow, Kp [] H2 H' ∧ H' D = some (.lst (ks.map JRow.r)) ∧ (∀ p ∈ ks, JRowAt K H' p) ∧ ks.map JRow.v = (joinOne p.v (qs.map PRow.v)).take j ∧ ks.length = j) ?_ ?_ ?_ ?_
      · intro D H3 nD k3 e3
        exact ⟨[], k3, e3, by simp, by simp, rfl⟩
      · rintro D j H3 nD hj ⟨ks, k3, _⟩
        exact k3.seq nin0 (k2.seq nin0 hS2)
      · rintro D j v H3 nD hv ⟨ks, k3, e3, A3, d3, l3⟩
        rw [List.getElem?_map] at hv
        obtain ⟨z, hz, rfl⟩ := Option.map_eq_some_iff.mp hv
        have hzm := List.mem_of_getElem? hz
        have hjl : j < qs.length := (List.getElem?_eq_some_iff.mp hz).1
        have hzA := ((hA2 z hzm).kp0 k2).kp0 k3
        have hpA3 := hpA.kp0 k3
        obtain ⟨c1, c2⟩ := hB2 z hzm
        dsimp only [wipe, List.set]
        refine Z.gtup hzA.tup rfl ?_
        walk_at "z"
        refine ⟨rfl, ?_⟩
        walk_at "z"
        refine Z.tupK (fun t H4 nt k4 e4 => ?_)
        walk_at "z"
        refine ⟨p.c, z.c, p.f, z.f, rfl, (hpA3.kp0 k4).fr, (hzA.kp0 k4).fr, b1, c1, b2, c2, fun H5 y ny k5 e5 => ?_⟩
        walk_at "z"
        refine Z.tupK (fun u H6 nu k6 e6 => ?_)
        have k36 := k4.trans (k5.trans k6)
        have e6D := k36.get nin0 e3
        have kD : Kp [D] H6 (upd H6 D (.lst (ks.map JRow.r ++ [.ref u]))) := Kp.put (by simp)
        refine ⟨_, e6D, Z.szl (m := 1000) (by rw [List.length_map]; omega), ks ++ [⟨u, t, p.b, z.b, y, p.g, z.g, ftimes p.f z.f⟩], (k3.trans k36).mut nD rfl, by rw [upd_same, List.map_append]; rfl, fun x hx => ?_, ?_, by rw [List.length_append, l3]; rfl⟩
        · rcases List.mem_append.mp hx with hx | hx
          · exact ((A3 x hx).kp0 k36).kpl kD e6D
          · rw [List.mem_singleton.mp hx]
            exact JRowAt.kpl (p := ⟨u, t, p.b, z.b, y, p.g, z.g, ftimes p.f z.f⟩) ⟨tupT e6, tupT ((k5.trans k6).get nin0 e4), (hpA3.kp0 k36).num, (hzA.kp0 k36).num, e5.kp0 k6⟩ kD e6D
        · have hs : (joinOne p.v (qs.map PRow.v))[j]? = some (p.g, z.g, ftimes p.f z.f) := by unfold joinOne; rw [List.getElem?_map, List.getElem?_map, hz]; rfl
          rw [List.map_append, d3, List.take_add_one, hs]
          rfl
      · rintro D H3 nD ⟨ks, k3, e3, A3, d3, l3⟩
        rw [List.length_map] at d3 l3
        rw [List.take_of_length_le (by unfold joinOne; rw [List.length_map, List.length_map]; exact Nat.le_refl _)] at d3
        have e3R := k3.get nin0 e2
        walk_at "z"
        refine ⟨R, D, _, _, rfl, rfl, e3R, e3, Nat.le_trans (show _ ≤ 100000 by rw [List.length_map, List.length_map, l3]; omega) (by decide), ?_⟩
        have kR : Kp [R] H3 (upd H3 R (.lst (js.map JRow.r ++ ks.map JRow.r))) := Kp.put (by simp)
        walk_at "z"
        have hpv : (ps.map PRow.v)[i]? = some p.v := by rw [List.getElem?_map, hp]; rfl
        refine ⟨_, _, js ++ ks, rfl, (k2.trans k3).mut nR rfl, by rw [upd_same, List.map_append], fun x hx => ?_, ?_, ?_⟩
        · rcases List.mem_append.mp hx with hx | hx
          · exact ((A2 x hx).kp0 k3).kpl kR e3R
          · exact (A3 x hx).kpl kR e3R
        · rw [List.map_append, d2, d3, joinV_snoc hpv]
        · rw [List.length_append, l3]
          omega
    · rintro σ' H2 ⟨y3, y4, js, rfl, k2, e2, A2, d2, l2⟩
      rw [List.length_map, ← List.length_map (f := PRow.v), List.take_length] at d2
      walk_at "z"
      exact q H2 R js nR k2 e2 A2 d2
end join12

section draw12
variable {K : PySem.W.Frag}
open LamX hiding takes0
open LamK
/-- drawn numbers, at least one of them above zero -/
structure NsOk (ns : List Int) : Prop where
  each : ∀ n ∈ ns, 0 ≤ n ∧ n ≤ 4
  sum : 0 < ns.sum
  len : 1 ≤ ns.length ∧ ns.length ≤ 4
def shF (ns : List Int) : List Fr := ns.map fun n => lo n ns.sum
theorem DeckOk.nt {H : Hp} {a p : Addr} (d : DeckOk H a p) : ∀ x ∈ [a], NoTup H x := fun x hx => by
  rw [List.mem_singleton.mp hx]
  obtain ⟨ns, i, r, s, h, _⟩ := d
  exact NoTup.lst h
theorem sumN_le {ns : List Int} (h : ∀ n ∈ ns, 0 ≤ n ∧ n ≤ 4) : 0 ≤ ns.sum ∧ ns.sum ≤ 4 * ns.length := by
  induction ns with
  | nil => simp
  | cons n r ih =>
    have h1 := h n (by simp)
    have h2 := ih fun m hm => h m (by simp [hm])
    rw [List.sum_cons, List.length_cons]
    omega
def spShares (K : PySem.W.Frag) : Sp := fun vs H Q _ => ∃ (a p : Addr) (many : Nat), vs = [.ref a, .int (many : Int)] ∧ DeckOk H a p ∧ 1 ≤ many ∧ many ≤ 4 ∧
  ∀ (H' : Hp) (d : Addr) (cs : List Addr) (ns : List Int), H d = none → Kp [a] H H' → DeckOk H' a p → H' d = some (.lst (cs.map V.ref)) → FrsAt K H' cs (shF ns) → NsOk ns → ns.length = many → Q (.ref d) H'
theorem ok__law_shares {P : Program} {w : World} {K : PySem.W.Frag} {mg : Str → Option Value} {base : Heap} (T : T P K mg base) : FnOk P w K mg base CX0 2 T.a__law_shares T.fd__law_shares ["deck", "many"] (spShares K) := by
  refine T.F__law_shares.ok sc__law_shares (fun vs H Q E h => ?_) (fun cdv A outer s H vs Q E hr h => ?_)
  · obtain ⟨a, p, many, rfl, _⟩ := h
    rfl
  · obtain ⟨a, p, many, rfl, hd, hm1, hm2, q⟩ := h
    refine ⟨_, (pss_cons (ps_set (i := 2) sc__law_shares.nd rfl (by first | exact Or.inl rfl | exact Or.inr rfl) (pe_lc (own := [("k", 3)]) (g := gName 3) rfl sc__law_shares.nd (pi_range1 (by rfl) T.z_range (pa_cons (pv 1) pa_nil)) (blkOk_by (own := [("k", 3)]) (N := N__law_shares) (sc := defScope s__law_shares) (by decide +kernel)) (fun _ _ _ _ _ => (pg_name (i := 3) sc__law_shares.nd rfl (by first | exact Or.inl rfl | exact Or.inr rfl))) (fun _ _ _ _ _ => pts_nil) (fun _ _ _ _ _ => (pe_op op_mulW (pe_call (ok__law_draw T) (hr.mono (by decide)) (by rfl) T.g__law_draw T.F__law_draw.kp T.b__law_draw .nil pass0 (pa_cons (pv 0) (pa_cons pe_int pa_nil))) (pe_callTy c_int (by rfl) T.z_int (by decide +kernel) (pa_cons (pe_cmpR op_gt (pe_call (ok__law_draw T) (hr.mono (by decide)) (by rfl) T.g__law_draw T.F__law_draw.kp T.b__law_draw .nil pass0 (pa_cons (pv 0) (pa_cons pe_int pa_nil))) pe_int (nomark _)) pa_nil))))))
      (Z.pss_consJ (ps_if (pt_cmpR op_eq (pe_callB (cr_sum rfl) (by rfl) T.z_sum (by decide +kernel) (pa_cons (pv 2) pa_nil)) pe_int (nomark _)) (pss_one (ps_asg pe_int (pg_sub (pv 2) pe_int set_list))) pss_nil)
      (pss_one (ps_ret (pe_lc (own := [("number", 4)]) (g := gName 4) rfl sc__law_shares.nd (pi_list (pv 2)) (blkOk_by (own := [("number", 4)]) (N := N__law_shares) (sc := defScope s__law_shares) (by decide +kernel)) (fun _ _ _ _ _ => (pg_name (i := 4) sc__law_shares.nd rfl (by first | exact Or.inl rfl | exact Or.inr rfl))) (fun _ _ _ _ _ => pts_nil) (fun _ _ _ _ _ => (pe_call (ok__law_low T) (hr.mono (by decide)) (by rfl) T.g__law_low T.F__law_low.kp T.b__law_low .nil pass0 (pa_cons (pv 4) (pa_cons (pe_callB ((cr_sum rfl) : CallR _ _ (rSum K)) (by rfl) T.z_sum (by decide +kernel) (pa_cons (pv 2) pa_nil)) pa_nil))))))))), ?_⟩
    walk_at "z0"
    walk_at "z"
    refine Z.lcr many rfl (by omega) (fun D i H' => ∃ ns : List Int, Kp [a] H H' ∧ DeckOk H' a p ∧ H' D = some (.lst (ns.map V.int)) ∧ ns.length = i ∧ ∀ n ∈ ns, 0 ≤ n ∧ n ≤ 4) ?_ ?_ ?_
    · intro D H1 nD k1 e1
      exact ⟨[], k1.sub (by simp), hd.kp0 k1, e1, rfl, by simp⟩
    · rintro D i H1 nD hi ⟨ns, k1, d1, e1, l1, b1⟩
      have haD := (hd.ne nD).1
      dsimp only [wipe, List.set]
      walk_at "z"
      refine ⟨rfl, ?_⟩
      walk_at "z"
      refine ⟨a, p, 5, rfl, d1, by decide, by decide, fun H2 u u0 u5 k2 d2 => ?_⟩
      walk_at "z"
      refine ⟨a, p, 4, rfl, d2, by decide, by decide, fun H3 w w0 w4 k3 d3 => ?_⟩
      walk_at "z"
      have hx : 0 ≤ u * (if decide (w > 0) = true then 1 else 0) ∧ u * (if decide (w > 0) = true then 1 else 0) ≤ 4 := by
        by_cases h : w > 0
        · rw [decide_eq_true h, if_pos rfl, Int.mul_one]
          omega
        · rw [decide_eq_false h, if_neg Bool.false_ne_true, Int.mul_zero]
          omega
      refine Z.iC (mul_ok (n := 10) (by omega) (by split <;> decide)) ?_
      have e3D := (k2.trans k3).get (nin1 haD.symm) e1
      refine ⟨_, e3D, Z.szl (m := 1000) (by rw [List.length_map]; omega), ns ++ [_], (k1.trans (k2.trans k3)).mut nD rfl, d3.upd haD (hd.ne nD).2, by rw [upd_same, List.map_append]; rfl, by rw [List.length_append, l1]; rfl, fun n hn => ?_⟩
      rcases List.mem_append.mp hn with hn | hn
      · exact b1 n hn
      · rw [List.mem_singleton.mp hn]
        exact hx
    · rintro D H1 nD ⟨ns, k1, d1, e1, l1, b1⟩
      have haD := hd.ne nD
      walk_at "z"
      refine Z.seqJ (fun σ' H' => ∃ ms : List Int, σ' = [some (.ref a), some (.int (many : Int)), some (.ref D), none, none] ∧ Kp [a] H H' ∧ DeckOk H' a p ∧ H' D = some (.lst (ms.map V.int)) ∧ NsOk ms ∧ ms.length = many) ?_ ?_
      · rintro σ' H2 ⟨ms, rfl, k2, d2, e2, hN, l2⟩
        walk_at "z"
        refine Z.lcl (ms.map V.int) (lstL e2) (fun D2 i H' => ∃ cs : List Addr, Kp [] H2 H' ∧ H' D2 = some (.lst (cs.map V.ref)) ∧ FrsAt K H' cs ((shF ms).take i)) ?_ ?_ ?_ ?_
        · intro D2 H3 nD2 k3 e3
          exact ⟨[], k3, e3, .nil⟩
        · rintro D2 i H3 nD2 hi ⟨cs, k3, _⟩
          exact lstL (k3.get nin0 e2)
        · rintro D2 i v H3 nD2 hv ⟨cs, k3, e3, F3⟩
          rw [List.getElem?_map] at hv
          obtain ⟨n, hn, rfl⟩ := Option.map_eq_some_iff.mp hv
          have hil : i < ms.length := (List.getElem?_eq_some_iff.mp hn).1
          have hs := sumN_le hN.each
          have hs0 := hN.sum
          have hl4 := hN.len
          dsimp only [wipe, List.set]
          walk_at "z"
          refine ⟨rfl, ?_⟩
          walk_at "z"
          refine Z.sumL (ns := ms) (lstL (k3.get nin0 e2)) ?_
          walk_at "z"
          refine ⟨n, ms.sum, rfl, by omega, Nat.lt_of_le_of_lt (show ms.sum.natAbs ≤ 16 by omega) (by decide), fun H4 c nc k4 e4 => ?_⟩
          have e4D := k4.get nin0 e3
          refine ⟨_, e4D, Z.szl (m := 1000) (by rw [List.length_map, F3.len, List.length_take]; omega), cs ++ [c], (k3.trans k4).mut nD2 rfl, by rw [upd_same, List.map_append]; rfl, ?_⟩
          have hsh : (shF ms)[i]? = some (lo n ms.sum) := by unfold shF; rw [List.getElem?_map, hn]; rfl
          rw [List.take_add_one, hsh]
          exact ((F3.kp0 k4).snoc (tupT e4)).kpl (Kp.put (by simp)) e4D
        · rintro D2 H3 nD2 ⟨cs, k3, e3, F3⟩
          rw [List.length_map, ← List.length_map (f := fun n => lo n ms.sum)] at F3
          rw [show (shF ms).take (ms.map fun n => lo n ms.sum).length = shF ms from List.take_of_length_le (by unfold shF; exact Nat.le_refl _)] at F3
          walk_at "z"
          have nD0 : H D2 = none := by
            have h1 : D2 ∉ [a] := by
              intro z
              rw [List.mem_singleton.mp z] at nD2
              obtain ⟨_, _, _, _, h, _⟩ := d2
              rw [nD2] at h
              cases h
            exact k2.none h1 nD2
          exact q H3 D2 cs ms nD0 (k2.trans (k3.sub (by simp))) (d2.kp0 k3) e3 F3 hN l2
      · intro N jn
        walk_at "z"
        refine Z.sumL (ns := ns) (lstL e1) ?_
        walk_at "z"
        have hs := sumN_le b1
        refine Z.ite (fun h1 => ?_) (fun h1 => ?_)
        · walk_at "z"
          refine Z.setL e1 (ixN_nat (j := 0) (by rw [List.length_map]; omega)) ?_
          have kD : Kp [D] H1 (upd H1 D (.lst ((ns.map V.int).set 0 (.int 1)))) := Kp.put (by simp)
          walk_at "z"
          refine jn _ _ ⟨ns.set 0 1, rfl, k1.mut nD rfl, d1.upd haD.1 haD.2, by rw [upd_same, List.map_set], ⟨fun n hn => ?_, ?_, ?_⟩, by rw [List.length_set]; exact l1⟩
          · rcases List.mem_or_eq_of_mem_set hn with hn | rfl
            · exact b1 n hn
            · omega
          · cases ns with
            | nil => simp at l1; omega
            | cons m r =>
              have hr := (sumN_le fun n hn => b1 n (List.mem_cons_of_mem _ hn)).1
              show 0 < (1 :: r).sum
              rw [List.sum_cons]
              omega
          · rw [List.length_set]
            omega
        · walk_at "z"
          exact jn _ _ ⟨ns, rfl, k1, d1, e1, ⟨b1, by omega, by omega⟩, l1⟩
end draw12

section rows12
variable {K : PySem.W.Frag}
open LamX hiding takes0
open LamK
def keyOf (f : Fr) : List Key := [.inl f.1, .inl f.2]
theorem keyOf_V (f : Fr) : (keyOf f).map kV = frV f := rfl
/-- a drawn number -/
def NumOk (g : Fr) : Prop := ∃ u v : Int, g = lo u v ∧ -7 ≤ u ∧ u ≤ 7 ∧ 1 ≤ v ∧ v ≤ 4
def spRows (K : PySem.W.Frag) : Sp := fun vs H Q _ => ∃ (a p : Addr), vs = [.ref a] ∧ DeckOk H a p ∧
  ∀ (H' : Hp) (d : Addr) (gs : List GRow) (xs : List Fr) (ns : List Int), H d = none → Kp [a] H H' → DeckOk H' a p → H' d = some (.lst (gs.map GRow.r)) → (∀ g ∈ gs, GRowAt K H' g) → gs.map GRow.kf = (xs.map keyOf).zip (shF ns) → xs.length = ns.length → (∀ x ∈ xs, NumOk x) → NsOk ns → Q (.ref d) H'
theorem zip_take {α β : Type} {xs : List α} {ys : List β} {i : Nat} (h : xs.length = i) {y : β} (hy : ys[i]? = some y) (x : α) : (xs ++ [x]).zip (ys.take (i + 1)) = xs.zip (ys.take i) ++ [(x, y)] := by
  rw [List.take_add_one, hy, List.zip_append (by rw [List.length_take, h]; have := (List.getElem?_eq_some_iff.mp hy).1; omega)]
  rfl
theorem ok__law_rows {P : Program} {w : World} {K : PySem.W.Frag} {mg : Str → Option Value} {base : Heap} (T : T P K mg base) : FnOk P w K mg base CX0 3 T.a__law_rows T.fd__law_rows ["deck"] (spRows K) := by
  refine T.F__law_rows.ok sc__law_rows (fun vs H Q E h => ?_) (fun cdv A outer s H vs Q E hr h => ?_)
  · obtain ⟨a, p, rfl, _⟩ := h
    rfl
  · obtain ⟨a, p, rfl, hd, q⟩ := h
    refine ⟨_, (pss_cons (ps_set (i := 1) sc__law_rows.nd rfl (by first | exact Or.inl rfl | exact Or.inr rfl) (pe_call (ok__law_shares T) (hr.mono (by decide)) (by rfl) T.g__law_shares T.F__law_shares.kp T.b__law_shares .nil pass0 (pa_cons (pv 0) (pa_cons (pe_op op_add pe_int (pe_call (ok__law_draw T) (hr.mono (by decide)) (by rfl) T.g__law_draw T.F__law_draw.kp T.b__law_draw .nil pass0 (pa_cons (pv 0) (pa_cons pe_int pa_nil)))) pa_nil))))
      (pss_one (ps_ret (pe_lc (own := [("share", 2)]) (g := gName 2) rfl sc__law_rows.nd (pi_list (pv 1)) (blkOk_by (own := [("share", 2)]) (N := N__law_rows) (sc := defScope s__law_rows) (by decide +kernel)) (fun _ _ _ _ _ => (pg_name (i := 2) sc__law_rows.nd rfl (by first | exact Or.inl rfl | exact Or.inr rfl))) (fun _ _ _ _ _ => pts_nil) (fun _ _ _ _ _ => (pe_tup (pa_cons (pe_call (ok__law_low T) (hr.mono (by decide)) (by rfl) T.g__law_low T.F__law_low.kp T.b__law_low .nil pass0 (pa_cons (pe_op op_sub (pe_call (ok__law_draw T) (hr.mono (by decide)) (by rfl) T.g__law_draw T.F__law_draw.kp T.b__law_draw .nil pass0 (pa_cons (pv 0) (pa_cons pe_int pa_nil))) pe_int) (pa_cons (pe_op op_add pe_int (pe_call (ok__law_draw T) (hr.mono (by decide)) (by rfl) T.g__law_draw T.F__law_draw.kp T.b__law_draw .nil pass0 (pa_cons (pv 0) (pa_cons pe_int pa_nil)))) pa_nil))) (pa_cons (pv 2) pa_nil)))))))), ?_⟩
    walk_at "z0"
    walk_at "z"
    refine ⟨a, p, 4, rfl, hd, by decide, by decide, fun H1 m m0 m4 k1 d1 => ?_⟩
    walk_at "z"
    obtain ⟨m, rfl⟩ : ∃ j : Nat, m = (j : Int) := ⟨m.toNat, by omega⟩
    rw [show (1 : Int) + (m : Int) = ((1 + m : Nat) : Int) by omega]
    refine ⟨a, p, 1 + m, rfl, d1, by omega, by omega, fun H2 s cs ns ns0 k2 d2 e2 F2 hN hl => ?_⟩
    have hs0 : H s = none := k1.none (fun z => by
      rw [List.mem_singleton.mp z] at ns0
      obtain ⟨_, _, _, _, h, _⟩ := d1
      rw [ns0] at h
      cases h) ns0
    have k02 := k1.trans k2
    walk_at "z"
    have hcl : cs.length = ns.length := by rw [F2.len]; unfold shF; rw [List.length_map]
    have nas : s ≠ a := fun z => by
      obtain ⟨_, _, _, _, h, _⟩ := hd
      rw [z] at hs0
      rw [hs0] at h
      cases h
    refine Z.lcl (cs.map V.ref) (lstL e2) (fun D i H' => ∃ (gs : List GRow) (xs : List Fr), Kp [a] H2 H' ∧ DeckOk H' a p ∧ H' D = some (.lst (gs.map GRow.r)) ∧ (∀ g ∈ gs, GRowAt K H' g) ∧ gs.map GRow.kf = (xs.map keyOf).zip ((shF ns).take i) ∧ xs.length = i ∧ (∀ x ∈ xs, NumOk x) ∧ gs.length = i) ?_ ?_ ?_ ?_
    · intro D H3 nD k3 e3
      exact ⟨[], [], k3.sub (by simp), d2.kp0 k3, e3, by simp, rfl, rfl, by simp, rfl⟩
    · rintro D i H3 nD hi ⟨gs, xs, k3, _⟩
      exact k3.seq (nin1 nas) (lstL e2)
    · rintro D i v H3 nD hv ⟨gs, xs, k3, d3, e3, A3, v3, l3, o3, g3⟩
      have haD := d2.ne nD
      obtain ⟨c, f, rfl, hf, hcF⟩ := (F2.kp k3 d2.nt).get hv
      have hil : i < cs.length := by
        have := (List.getElem?_eq_some_iff.mp hv).1
        rwa [List.length_map] at this
      have hl4 := hN.len
      dsimp only [wipe, List.set]
      walk_at "z"
      refine ⟨rfl, ?_⟩
      walk_at "z"
      refine ⟨a, p, 15, rfl, d3, by decide, by decide, fun H4 u u0 u15 k4 d4 => ?_⟩
      walk_at "z"
      refine ⟨a, p, 4, rfl, d4, by decide, by decide, fun H5 w w0 w4 k5 d5 => ?_⟩
      walk_at "z"
      refine ⟨u - 7, 1 + w, rfl, by omega, Nat.lt_of_le_of_lt (show (1 + w).natAbs ≤ 4 by omega) (by decide), fun H6 b nb k6 e6 => ?_⟩
      walk_at "z"
      refine Z.tupK (fun t H7 nt k7 e7 => ?_)
      have k45 := k4.trans k5
      have k67 := k6.trans k7
      have e7D := k67.get nin0 (k45.get (nin1 haD.1.symm) e3)
      have kD : Kp [D] H7 (upd H7 D (.lst (gs.map GRow.r ++ [.ref t]))) := Kp.put (by simp)
      have ntD := noT e7D (fun xs => ⟨by simp, by simp⟩)
      have k37 : Kp [a] H3 H7 := k45.trans (k67.sub (by simp))
      have hnew : GRowAt K H7 ⟨t, b, keyOf (lo (u - 7) (1 + w)), c, f⟩ := ⟨tupT e7, k7.get nin0 e6, hcF.kp k37 d3.nt, by simp [keyOf]⟩
      refine ⟨_, e7D, Z.szl (m := 1000) (by rw [List.length_map]; omega), gs ++ [⟨t, b, keyOf (lo (u - 7) (1 + w)), c, f⟩], xs ++ [lo (u - 7) (1 + w)], (k3.trans k37).mut nD rfl, (d5.kp0 k67).upd haD.1 haD.2, by rw [upd_same, List.map_append]; rfl, fun g hg => ?_, ?_, by rw [List.length_append, l3]; rfl, fun x hx => ?_, by rw [List.length_append, g3]; rfl⟩
      · rcases List.mem_append.mp hg with hg | hg
        · exact (((A3 g hg).kpM k37 d3.nt)).kpM kD ntD
        · rw [List.mem_singleton.mp hg]
          exact hnew.kpM kD ntD
      · rw [List.map_append, v3, List.map_append]
        rw [show (xs.map keyOf ++ [lo (u - 7) (1 + w)].map keyOf) = xs.map keyOf ++ [keyOf (lo (u - 7) (1 + w))] from rfl, zip_take (by rw [List.length_map]; exact l3) hf]
        rfl
      · rcases List.mem_append.mp hx with hx | hx
        · exact o3 x hx
        · rw [List.mem_singleton.mp hx]
          exact ⟨u - 7, 1 + w, rfl, by omega, by omega, by omega, by omega⟩
    · rintro D H3 nD ⟨gs, xs, k3, d3, e3, A3, v3, l3, o3, g3⟩
      rw [List.length_map] at v3 l3
      rw [show (shF ns).take cs.length = shF ns from List.take_of_length_le (by unfold shF; rw [List.length_map]; omega)] at v3
      walk_at "z"
      have nD0 : H D = none := k02.none (fun z => by
        rw [List.mem_singleton.mp z] at nD
        obtain ⟨_, _, _, _, h, _⟩ := d2
        rw [nD] at h
        cases h) nD
      exact q H3 D gs xs ns nD0 (k02.trans k3) d3 e3 A3 v3 (by omega) o3 hN
def spRefusedM (K : PySem.W.Frag) : Sp := fun vs H Q _ => ∃ (a b : Addr) (cs : List Addr) (fs : List Fr), vs = [.ref a, .ref b] ∧ SqL K H b (cs.map V.ref) ∧ FrsAt K H cs fs ∧ SumOk fs ∧ chOkB fs = false ∧ ∀ H', Kp [] H H' → Q (.bl true) H'
theorem ok__law_refused {P : Program} {w : World} {K : PySem.W.Frag} {mg : Str → Option Value} {base : Heap} (T : T P K mg base) : FnOk P w K mg base CX0 9 T.a__law_refused T.fd__law_refused ["laws", "chances"] (spRefusedM K) := by
  refine T.F__law_refused.ok sc__law_refused (fun vs H Q E h => ?_) (fun cdv A outer s H vs Q E hr h => ?_)
  · obtain ⟨a, b, cs, fs, rfl, _⟩ := h
    rfl
  · obtain ⟨a, b, cs, fs, rfl, hS, hF, hB, hbad, q⟩ := h
    refine ⟨_, (pss_cons (ps_try_as (i := 2) rfl rfl sc__law_refused.nd rfl rfl ⟨by rfl, by decide, .inl T.x_InvalidLaw.g⟩ takes0 (fun W pn xe tk po => (pss_one (ps_expr (pe_callS (ok_mixed T) (hr.mono (by decide)) (by rfl) T.g_mixed T.F_mixed.kp T.b_mixed (fun σ => passAt tk σ) (pa_cons (pv 0) (pa_cons (pv 1) pa_nil)))))) (fun a oe cls d pn hz hf => (pss_one (ps_ret (pe_callB (Sup.call_isX hz hf) (by rfl) T.z_isinstance (by decide +kernel) (pa_cons (pv 2) (pa_cons (pe_glob (v := .ref T.C_SamphireError) (by rfl) T.mg_SamphireError rfl) pa_nil)))))))
      (pss_one (ps_ret pe_bl))), ?_⟩
    walk_at "z0"
    walk_at "z"
    unfold tCallS
    walk_at "z"
    refine ⟨a, b, cs, fs, rfl, hS, hF, hB, fun _ H1 k1 => ⟨true, T.x_InvalidLaw.te, fun _ x nx => ?_, fun z => nomatch z⟩, fun ok => ?_⟩
    · walk_at "z"
      refine ⟨_, _, _, true, rfl, rfl, T.x_InvalidLaw.is, rfl, fun u hu => hu, T.kit_InvalidLaw_SamphireError, ?_⟩
      exact q H1 k1
    · rw [hbad] at ok
      cases ok
end rows12

section alg12
/-! sums over rows, as rational numbers -/
def sR {α : Type} (f : α → Rat) (l : List α) : Rat := (l.map f).sum
theorem sR_nil {α : Type} (f : α → Rat) : sR f [] = 0 := rfl
theorem sR_cons {α : Type} (f : α → Rat) (a : α) (l : List α) : sR f (a :: l) = f a + sR f l := by unfold sR; rw [List.map_cons, List.sum_cons]
theorem sR_app {α : Type} (f : α → Rat) (a b : List α) : sR f (a ++ b) = sR f a + sR f b := by unfold sR; rw [List.map_append, ratsum_app]
theorem sR_map {α β : Type} (f : β → Rat) (g : α → β) (l : List α) : sR f (l.map g) = sR (fun a => f (g a)) l := by unfold sR; rw [List.map_map]; rfl
theorem sR_congr {α : Type} {f g : α → Rat} {l : List α} (h : ∀ a ∈ l, f a = g a) : sR f l = sR g l := by
  unfold sR
  rw [List.map_congr_left h]
theorem sR_flat {α β : Type} (f : β → Rat) (g : α → List β) : ∀ l : List α, sR f (l.flatMap g) = sR (fun a => sR f (g a)) l
  | [] => rfl
  | a :: l => by rw [List.flatMap_cons, sR_app, sR_cons, sR_flat f g l]
theorem sR_mul {α : Type} (k : Rat) (f : α → Rat) : ∀ l : List α, sR (fun a => k * f a) l = k * sR f l
  | [] => by rw [sR_nil, sR_nil]; grind
  | a :: l => by rw [sR_cons, sR_cons, sR_mul k f l]; grind
theorem sR_add {α : Type} (f g : α → Rat) : ∀ l : List α, sR (fun a => f a + g a) l = sR f l + sR g l
  | [] => by rw [sR_nil, sR_nil, sR_nil]; grind
  | a :: l => by rw [sR_cons, sR_cons, sR_cons, sR_add f g l]; grind
theorem sR_perm {α : Type} (f : α → Rat) {a b : List α} (h : a.Perm b) : sR f a = sR f b := ratsum_perm (h.map f)
theorem tmV_low {z : Fr × Fr} (h1 : z.1.2 ≠ 0) (h2 : z.2.2 ≠ 0) : Low (tmV z) ∧ rv (tmV z) = rv z.1 * rv z.2 := ⟨lo_low (Int.mul_ne_zero h1 h2), rv_ftimes h1 h2⟩
theorem rv_zero : rv (0, 1) = 0 := by unfold rv; grind
theorem low01 : Low ((0, 1) : Fr) := ⟨by decide, by decide⟩
theorem rv_meanV {zs : List (Fr × Fr)} (h : ∀ z ∈ zs, z.1.2 ≠ 0 ∧ z.2.2 ≠ 0) : Low (meanV zs) ∧ rv (meanV zs) = sR (fun z => rv z.1 * rv z.2) zs := by
  have h1 := rv_fsum (fs := zs.map tmV) low01 fun f hf => by
    obtain ⟨z, hz, rfl⟩ := List.mem_map.mp hf
    exact (tmV_low (h z hz).1 (h z hz).2).1.ne
  refine ⟨h1.2, ?_⟩
  unfold meanV
  rw [h1.1, rv_zero, List.map_map]
  show 0 + sR (fun z => rv (tmV z)) zs = _
  rw [sR_congr (g := fun z => rv z.1 * rv z.2) fun z hz => (tmV_low (h z hz).1 (h z hz).2).2]
  grind
theorem fminus_low {f g : Fr} (h1 : f.2 ≠ 0) (h2 : g.2 ≠ 0) : Low (fminus f g) := lo_low (Int.mul_ne_zero h1 h2)
/-- deviations multiplied -/
theorem dev_sum (m o : Rat) (zs : List (Fr × Fr × Fr)) : sR (fun z => (rv z.1 - m) * (rv z.2.1 - o) * rv z.2.2) zs = sR (fun z => rv z.1 * rv z.2.1 * rv z.2.2) zs - o * sR (fun z => rv z.1 * rv z.2.2) zs - m * sR (fun z => rv z.2.1 * rv z.2.2) zs + m * o * sR (fun z => rv z.2.2) zs := by
  induction zs with
  | nil => simp only [sR_nil]; grind
  | cons z r ih => simp only [sR_cons]; rw [ih]; grind
def NeZ (zs : List (Fr × Fr × Fr)) : Prop := ∀ z ∈ zs, z.1.2 ≠ 0 ∧ z.2.1.2 ≠ 0 ∧ z.2.2.2 ≠ 0
theorem rv_one' {zs : List (Fr × Fr × Fr)} (h : NeZ zs) : Low (meanV (zs.map oneV)) ∧ rv (meanV (zs.map oneV)) = sR (fun z => rv z.1 * rv z.2.2) zs := by
  have h1 := rv_meanV (zs := zs.map oneV) fun z hz => by
    obtain ⟨y, hy, rfl⟩ := List.mem_map.mp hz
    exact ⟨(h y hy).1, (h y hy).2.2⟩
  exact ⟨h1.1, h1.2.trans (sR_map _ _ _)⟩
theorem rv_two {zs : List (Fr × Fr × Fr)} (h : NeZ zs) : Low (meanV (zs.map twoV)) ∧ rv (meanV (zs.map twoV)) = sR (fun z => rv z.2.1 * rv z.2.2) zs := by
  have h1 := rv_meanV (zs := zs.map twoV) fun z hz => by
    obtain ⟨y, hy, rfl⟩ := List.mem_map.mp hz
    exact ⟨(h y hy).2.1, (h y hy).2.2⟩
  exact ⟨h1.1, h1.2.trans (sR_map _ _ _)⟩
/-- the covariance, by its definition, where the chances add up to one -/
theorem rv_cov {zs : List (Fr × Fr × Fr)} (h : NeZ zs) (h1 : sR (fun z => rv z.2.2) zs = 1) : Low (covV zs) ∧ rv (covV zs) = sR (fun z => rv z.1 * rv z.2.1 * rv z.2.2) zs - sR (fun z => rv z.1 * rv z.2.2) zs * sR (fun z => rv z.2.1 * rv z.2.2) zs := by
  obtain ⟨a1, a2⟩ := rv_one' h
  obtain ⟨b1, b2⟩ := rv_two h
  unfold covV
  have hd : ∀ z ∈ zs, (ftimes (fminus z.1 (meanV (zs.map oneV))) (fminus z.2.1 (meanV (zs.map twoV)))).2 ≠ 0 ∧ rv (ftimes (fminus z.1 (meanV (zs.map oneV))) (fminus z.2.1 (meanV (zs.map twoV)))) = (rv z.1 - rv (meanV (zs.map oneV))) * (rv z.2.1 - rv (meanV (zs.map twoV))) := fun z hz => by
    obtain ⟨c1, c2, _⟩ := h z hz
    have f1 := fminus_ne c1 a1.ne
    have f2 := fminus_ne c2 b1.ne
    refine ⟨?_, ?_⟩
    · unfold ftimes
      exact (lo_low (Int.mul_ne_zero f1 f2)).ne
    · rw [rv_ftimes f1 f2, rv_fminus c1 a1.ne, rv_fminus c2 b1.ne]
  have hm := rv_meanV (zs := zs.map (devV (meanV (zs.map oneV)) (meanV (zs.map twoV)))) fun y hy => by
    obtain ⟨z, hz, rfl⟩ := List.mem_map.mp hy
    exact ⟨(hd z hz).1, (h z hz).2.2⟩
  refine ⟨hm.1, ?_⟩
  rw [hm.2, sR_map]
  rw [sR_congr (g := fun z => (rv z.1 - rv (meanV (zs.map oneV))) * (rv z.2.1 - rv (meanV (zs.map twoV))) * rv z.2.2) fun z hz => by
    show rv (ftimes _ _) * rv z.2.2 = _
    rw [(hd z hz).2]]
  rw [dev_sum, h1, a2, b2]
  grind
/-- by mean of squares less square of mean -/
theorem rv_spread {zs : List (Fr × Fr)} (h : ∀ z ∈ zs, z.1.2 ≠ 0 ∧ z.2.2 ≠ 0) : Low (spreadV zs) ∧ rv (spreadV zs) = sR (fun z => rv z.1 * rv z.1 * rv z.2) zs - sR (fun z => rv z.1 * rv z.2) zs * sR (fun z => rv z.1 * rv z.2) zs := by
  obtain ⟨a1, a2⟩ := rv_meanV h
  have hq : ∀ z ∈ zs.map sqV, z.1.2 ≠ 0 ∧ z.2.2 ≠ 0 := fun y hy => by
    obtain ⟨z, hz, rfl⟩ := List.mem_map.mp hy
    exact ⟨(lo_low (Int.mul_ne_zero (h z hz).1 (h z hz).1)).ne, (h z hz).2⟩
  obtain ⟨b1, b2⟩ := rv_meanV hq
  have hs : (ftimes (meanV zs) (meanV zs)).2 ≠ 0 := (lo_low (Int.mul_ne_zero a1.ne a1.ne)).ne
  unfold spreadV
  refine ⟨fsub_low b1.ne hs, ?_⟩
  rw [rv_fsub b1.ne hs, rv_ftimes a1.ne a1.ne, b2, a2, sR_map]
  rw [sR_congr (g := fun z => rv z.1 * rv z.1 * rv z.2) fun z hz => by
    show rv (ftimes z.1 z.1) * rv z.2 = _
    rw [rv_ftimes (h z hz).1 (h z hz).1]]
theorem var_spread {zs : List (Fr × Fr)} (h : ∀ z ∈ zs, z.1.2 ≠ 0 ∧ z.2.2 ≠ 0) (h1 : sR (fun z => rv z.2) zs = 1) : covV (zs.map dupV) = spreadV zs := by
  have hz : NeZ (zs.map dupV) := fun y hy => by
    obtain ⟨z, hz, rfl⟩ := List.mem_map.mp hy
    exact ⟨(h z hz).1, (h z hz).1, (h z hz).2⟩
  obtain ⟨a1, a2⟩ := rv_cov hz (by rw [sR_map]; exact h1)
  obtain ⟨b1, b2⟩ := rv_spread h
  refine low_eq a1 b1 ?_
  rw [a2, b2, sR_map, sR_map, sR_map]
  rfl
/-- numbers that are drawn independently have covariance zero -/
theorem cov_joined {zs ys : List (Fr × Fr)} (h : ∀ z ∈ zs, z.1.2 ≠ 0 ∧ z.2.2 ≠ 0) (g : ∀ z ∈ ys, z.1.2 ≠ 0 ∧ z.2.2 ≠ 0) (h1 : sR (fun z => rv z.2) zs = 1) (g1 : sR (fun z => rv z.2) ys = 1) : covV (joinV zs ys) = (0, 1) := by
  have key : ∀ (u v : Fr → Rat), sR (fun j : Fr × Fr × Fr => u j.1 * v j.2.1 * rv j.2.2) (joinV zs ys) = sR (fun z => u z.1 * rv z.2) zs * sR (fun y => v y.1 * rv y.2) ys := fun u v => by
    unfold joinV
    rw [sR_flat]
    rw [sR_congr (g := fun z => sR (fun y => v y.1 * rv y.2) ys * (u z.1 * rv z.2)) fun z hz => by
      unfold joinOne
      rw [sR_map]
      rw [sR_congr (g := fun y => (u z.1 * rv z.2) * (v y.1 * rv y.2)) fun y hy => by
        show u z.1 * v y.1 * rv (ftimes z.2 y.2) = _
        rw [rv_ftimes (h z hz).2 (g y hy).2]
        grind]
      rw [sR_mul]
      grind]
    rw [sR_mul]
    grind
  have hz : NeZ (joinV zs ys) := fun j hj => by
    unfold joinV joinOne at hj
    obtain ⟨z, hz, hj⟩ := List.mem_flatMap.mp hj
    obtain ⟨y, hy, rfl⟩ := List.mem_map.mp hj
    exact ⟨(h z hz).1, (g y hy).1, (lo_low (Int.mul_ne_zero (h z hz).2 (g y hy).2)).ne⟩
  have one1 : ∀ l : List (Fr × Fr), sR (fun z => (fun _ : Fr => (1 : Rat)) z.1 * rv z.2) l = sR (fun z => rv z.2) l := fun l => sR_congr fun z _ => by show 1 * rv z.2 = _; grind
  have k1 := key (fun _ => 1) (fun _ => 1)
  have k2 := key rv (fun _ => 1)
  have k3 := key (fun _ => 1) rv
  have k4 := key rv rv
  rw [one1, one1, h1, g1] at k1
  rw [one1, g1] at k2
  rw [one1, h1] at k3
  have e1 : sR (fun j : Fr × Fr × Fr => rv j.2.2) (joinV zs ys) = 1 := by
    rw [← sR_congr (f := fun j : Fr × Fr × Fr => 1 * 1 * rv j.2.2) fun j _ => by grind]
    rw [k1]
    grind
  have e2 : sR (fun j : Fr × Fr × Fr => rv j.1 * rv j.2.2) (joinV zs ys) = sR (fun z => rv z.1 * rv z.2) zs := by
    rw [← sR_congr (f := fun j : Fr × Fr × Fr => rv j.1 * 1 * rv j.2.2) fun j _ => by grind]
    rw [k2]
    grind
  have e3 : sR (fun j : Fr × Fr × Fr => rv j.2.1 * rv j.2.2) (joinV zs ys) = sR (fun z => rv z.1 * rv z.2) ys := by
    rw [← sR_congr (f := fun j : Fr × Fr × Fr => 1 * rv j.2.1 * rv j.2.2) fun j _ => by grind]
    rw [k3]
    grind
  obtain ⟨a1, a2⟩ := rv_cov hz e1
  refine low_eq a1 low01 ?_
  rw [a2, k4, e2, e3, rv_zero]
  grind
end alg12

section gsum12
variable {κ : Type} [DecidableEq κ]
/-- a function of the keys, in the mean: gathering changes nothing -/
theorem gput_sum (φ : κ → Rat) {k : κ} {g g' : Fr} : ∀ {acc : List (κ × Fr)}, (acc.map Prod.fst).Nodup → gval acc k = some g → sR (fun x => φ x.1 * rv x.2) (acc.map fun x => if x.1 = k then (x.1, g') else x) = sR (fun x => φ x.1 * rv x.2) acc + φ k * (rv g' - rv g)
  | [], _, h => by simp [gval] at h
  | y :: acc, hn, h => by
    rw [List.map_cons, List.nodup_cons] at hn
    rw [List.map_cons, sR_cons, sR_cons]
    by_cases e : y.1 = k
    · rw [if_pos e]
      have hg : y.2 = g := by
        unfold gval at h
        rw [List.find?_cons_of_pos (by simpa using e)] at h
        exact Option.some.inj h
      have hno : ∀ x ∈ acc, x.1 ≠ k := fun x hx e2 => hn.1 (by rw [e, ← e2]; exact List.mem_map_of_mem hx)
      have hmap : acc.map (fun x => if x.1 = k then (x.1, g') else x) = acc := by
        conv => rhs; rw [← List.map_id acc]
        exact List.map_congr_left fun x hx => by rw [if_neg (hno x hx)]; rfl
      rw [hmap, ← hg, ← e]
      show φ y.1 * rv g' + _ = _
      grind
    · rw [if_neg e]
      have h2 : gval acc k = some g := by
        unfold gval at h ⊢
        rwa [List.find?_cons_of_neg (by simpa using e)] at h
      rw [gput_sum φ hn.2 h2]
      grind
theorem gstp_sum (φ : κ → Rat) {acc : List (κ × Fr)} {x : κ × Fr} (hn : (acc.map Prod.fst).Nodup) (ha : ∀ y ∈ acc, y.2.2 ≠ 0) (hx : x.2.2 ≠ 0) : sR (fun x => φ x.1 * rv x.2) (gstp acc x) = sR (fun x => φ x.1 * rv x.2) acc + φ x.1 * rv x.2 := by
  unfold gstp gput
  by_cases h : (acc.any fun y => decide (y.1 = x.1)) = true
  · rw [if_pos h]
    obtain ⟨g, hg, hm⟩ := gval_some h
    rw [gput_sum φ hn hg, hg]
    show _ + φ x.1 * (rv (fplus g x.2) - rv g) = _
    rw [rv_fplus (ha _ hm) hx]
    grind
  · rw [if_neg h, gval_nil h, sR_app, sR_cons, sR_nil]
    show _ + (φ x.1 * rv (fplus (0, 1) x.2) + 0) = _
    rw [fplus_zero hx]
    grind
theorem gstp_ne {acc : List (κ × Fr)} {x : κ × Fr} (ha : ∀ y ∈ acc, y.2.2 ≠ 0) (hx : x.2.2 ≠ 0) : ∀ y ∈ gstp acc x, y.2.2 ≠ 0 := fun y hy => by
  have hg : ((gval acc x.1).getD (0, 1)).2 ≠ 0 := by
    cases e : gval acc x.1 with
    | none => show ((0, 1) : Fr).2 ≠ 0; decide
    | some g => exact ha _ (gval_mem e)
  have hp := (fplus_low hg hx).ne
  unfold gstp gput at hy
  split at hy
  · obtain ⟨z, hz, rfl⟩ := List.mem_map.mp hy
    split
    · exact hp
    · exact ha z hz
  · rcases List.mem_append.mp hy with hy | hy
    · exact ha y hy
    · rw [List.mem_singleton.mp hy]
      exact hp
theorem gfold_sum (φ : κ → Rat) : ∀ {xs acc : List (κ × Fr)}, (acc.map Prod.fst).Nodup → (∀ y ∈ acc, y.2.2 ≠ 0) → (∀ x ∈ xs, x.2.2 ≠ 0) → sR (fun x => φ x.1 * rv x.2) (xs.foldl gstp acc) = sR (fun x => φ x.1 * rv x.2) acc + sR (fun x => φ x.1 * rv x.2) xs
  | [], acc, _, _, _ => by rw [sR_nil]; show sR _ acc = _; grind
  | x :: xs, acc, hn, ha, hx => by
    rw [List.foldl_cons, gfold_sum (acc := gstp acc x) φ (gput_nodup hn) (gstp_ne ha (hx x (by simp))) fun y hy => hx y (by simp [hy]), gstp_sum φ hn ha (hx x (by simp)), sR_cons]
    grind
theorem gsum_sum (φ : κ → Rat) {xs : List (κ × Fr)} (hx : ∀ x ∈ xs, x.2.2 ≠ 0) : sR (fun x => φ x.1 * rv x.2) (gsum xs) = sR (fun x => φ x.1 * rv x.2) xs := by
  unfold gsum
  rw [gfold_sum φ (by simp) (by simp) hx, sR_nil]
  grind
theorem sR_drop (φ : κ → Rat) : ∀ l : List (κ × Fr), sR (fun x => φ x.1 * rv x.2) (l.filter fun x => !decide (x.2 = (0, 1))) = sR (fun x => φ x.1 * rv x.2) l
  | [] => rfl
  | x :: l => by
    by_cases h : x.2 = (0, 1)
    · rw [List.filter_cons_of_neg (by simp [h]), sR_drop φ l, sR_cons, h, rv_zero]
      grind
    · rw [List.filter_cons_of_pos (by simp [h]), sR_cons, sR_cons, sR_drop φ l]
theorem gath_sum (φ : List Key → Rat) {xs : List KF} (hx : ∀ x ∈ xs, x.2.2 ≠ 0) : sR (fun x => φ x.1 * rv x.2) (gathOf xs) = sR (fun x => φ x.1 * rv x.2) xs := by
  unfold gathOf
  rw [sR_drop φ, sR_perm _ (List.mergeSort_perm _ _), gsum_sum φ hx]
/-- what gathered rows are -/
theorem gath_mem {xs : List KF} (hx : ∀ x ∈ xs, x.2.2 ≠ 0) {y : KF} (hy : y ∈ gathOf xs) : y.1 ∈ xs.map Prod.fst ∧ Low y.2 ∧ rv y.2 = sK xs y.1 ∧ y.2 ≠ (0, 1) := by
  unfold gathOf at hy
  obtain ⟨h1, h2⟩ := List.mem_filter.mp hy
  have h3 := (List.mergeSort_perm _ _).mem_iff.mp h1
  obtain ⟨a, b, c⟩ := (norm_gsum hx).a y h3
  exact ⟨a, b, c, by simpa using h2⟩
theorem gath_len {xs : List KF} : (gathOf xs).length ≤ xs.length := by
  unfold gathOf
  refine Nat.le_trans (List.length_filter_le _ _) ?_
  rw [(List.mergeSort_perm _ _).length_eq]
  have := gsum_len (xs := xs) (acc := [])
  rw [List.length_nil, Nat.zero_add] at this
  exact this
end gsum12

theorem castNe {n : Nat} (h : 1 ≤ n) : (n : Rat) ≠ 0 := by
  have := ratNe (q := (n : Int)) (by omega)
  have e : ((n : Int) : Rat) = (n : Rat) := by exact_mod_cast rfl
  rwa [e] at this
/-! ### common denominators -/
def DenB (D n : Nat) (x : Rat) : Prop := ∃ z : Int, x * (D : Rat) = (z : Rat) ∧ z.natAbs ≤ 2 ^ n
theorem DenB.mono {D n m : Nat} {x : Rat} (h : DenB D n x) (l : n ≤ m) : DenB D m x := let ⟨z, h1, h2⟩ := h; ⟨z, h1, Nat.le_trans h2 (Nat.pow_le_pow_right (by decide) l)⟩
theorem DenB.add {D n : Nat} {x y : Rat} (h : DenB D n x) (g : DenB D n y) : DenB D (n + 1) (x + y) := by
  obtain ⟨z, h1, h2⟩ := h
  obtain ⟨t, g1, g2⟩ := g
  refine ⟨z + t, ?_, ?_⟩
  · have e : ((z + t : Int) : Rat) = (z : Rat) + (t : Rat) := by exact_mod_cast rfl
    rw [e, ← h1, ← g1]; grind
  · rw [Nat.pow_succ]; omega
theorem DenB.neg {D n : Nat} {x : Rat} (h : DenB D n x) : DenB D n (-x) := by
  obtain ⟨z, h1, h2⟩ := h
  refine ⟨-z, ?_, by omega⟩
  have e : ((-z : Int) : Rat) = -(z : Rat) := by exact_mod_cast rfl
  rw [e, ← h1]; grind
theorem DenB.sub {D n : Nat} {x y : Rat} (h : DenB D n x) (g : DenB D n y) : DenB D (n + 1) (x - y) := by
  have := h.add g.neg
  rw [show x - y = x + -y by grind]
  exact this
theorem DenB.mul {D E n m : Nat} {x y : Rat} (h : DenB D n x) (g : DenB E m y) : DenB (D * E) (n + m) (x * y) := by
  obtain ⟨z, h1, h2⟩ := h
  obtain ⟨t, g1, g2⟩ := g
  refine ⟨z * t, ?_, ?_⟩
  · have e : ((z * t : Int) : Rat) = (z : Rat) * (t : Rat) := by exact_mod_cast rfl
    have e2 : ((D * E : Nat) : Rat) = (D : Rat) * (E : Rat) := by exact_mod_cast rfl
    rw [e, e2, ← h1, ← g1]; grind
  · rw [Int.natAbs_mul, Nat.pow_add]
    exact Nat.mul_le_mul h2 g2
theorem DenB.int {D d n : Nat} {z : Int} (hD : D ≤ 2 ^ d) (h : z.natAbs ≤ 2 ^ n) : DenB D (n + d) (z : Rat) := by
  refine ⟨z * (D : Int), by exact_mod_cast rfl, ?_⟩
  rw [Int.natAbs_mul, Int.natAbs_natCast, Nat.pow_add]
  exact Nat.mul_le_mul h hD
theorem DenB.up {D E n e : Nat} {x : Rat} (h : DenB D n x) (hE : E ≤ 2 ^ e) : DenB (D * E) (n + e) x := by
  obtain ⟨z, h1, h2⟩ := h
  refine ⟨z * (E : Int), ?_, ?_⟩
  · have e : ((z * (E : Int) : Int) : Rat) = (z : Rat) * (E : Rat) := by exact_mod_cast rfl
    have e2 : ((D * E : Nat) : Rat) = (D : Rat) * (E : Rat) := by exact_mod_cast rfl
    rw [e, e2, ← h1]; grind
  · rw [Int.natAbs_mul, Int.natAbs_natCast, Nat.pow_add]
    exact Nat.mul_le_mul h2 hE
theorem DenB.div6 {D n k : Nat} {x : Rat} (h : DenB D n x) (hk : k = 1 ∨ k = 2 ∨ k = 3 ∨ k = 6) : DenB (D * 6) (n + 3) (x / (k : Rat)) := by
  obtain ⟨z, h1, h2⟩ := h
  obtain ⟨q, hq, hq6⟩ : ∃ q : Nat, k * q = 6 ∧ q ≤ 6 := by
    rcases hk with rfl | rfl | rfl | rfl
    · exact ⟨6, rfl, by decide⟩
    · exact ⟨3, rfl, by decide⟩
    · exact ⟨2, rfl, by decide⟩
    · exact ⟨1, rfl, by decide⟩
  refine ⟨z * (q : Int), ?_, ?_⟩
  · have e : ((z * (q : Int) : Int) : Rat) = (z : Rat) * (q : Rat) := by exact_mod_cast rfl
    have e2 : ((D * 6 : Nat) : Rat) = (D : Rat) * ((k : Rat) * (q : Rat)) := by rw [← hq]; exact_mod_cast rfl
    have hk0 := castNe (n := k) (by omega)
    rw [e, e2, ← h1]; grind
  · rw [Int.natAbs_mul, Int.natAbs_natCast, Nat.pow_add]
    exact Nat.mul_le_mul h2 (Nat.le_trans hq6 (by decide))
theorem DenB.sum3 {D n : Nat} : ∀ {l : List Rat}, l.length ≤ 3 → (∀ x ∈ l, DenB D n x) → DenB D (n + 2) l.sum
  | [], _, _ => ⟨0, by show (0 : Rat) * _ = ((0 : Int) : Rat); grind, by simp⟩
  | [a], _, h => by
    rw [show [a].sum = a by show a + 0 = a; grind]
    exact (h a (by simp)).mono (by omega)
  | [a, b], _, h => by
    rw [show [a, b].sum = a + b by show a + (b + 0) = a + b; grind]
    exact ((h a (by simp)).add (h b (by simp))).mono (by omega)
  | [a, b, c], _, h => by
    rw [show [a, b, c].sum = (a + b) + c by show a + (b + (c + 0)) = _; grind]
    exact ((h a (by simp)).add (h b (by simp))).add ((h c (by simp)).mono (by omega))
  | _ :: _ :: _ :: _ :: r, h, _ => by simp at h
theorem DenB.sumN {D n : Nat} : ∀ {l : List Rat}, (∀ x ∈ l, DenB D n x) → ∃ z : Int, l.sum * (D : Rat) = (z : Rat) ∧ z.natAbs ≤ l.length * 2 ^ n
  | [], _ => ⟨0, by show (0 : Rat) * _ = ((0 : Int) : Rat); grind, by simp⟩
  | a :: r, h => by
    obtain ⟨z, h1, h2⟩ := h a (by simp)
    obtain ⟨t, g1, g2⟩ := DenB.sumN (l := r) fun x hx => h x (by simp [hx])
    refine ⟨z + t, ?_, ?_⟩
    · have e : ((z + t : Int) : Rat) = (z : Rat) + (t : Rat) := by exact_mod_cast rfl
      rw [List.sum_cons, e, ← h1, ← g1]; grind
    · rw [List.length_cons, Nat.add_mul]; omega
theorem DenB.sum64 {D n : Nat} {l : List Rat} (hl : l.length ≤ 64) (h : ∀ x ∈ l, DenB D n x) : DenB D (n + 6) l.sum := by
  obtain ⟨z, h1, h2⟩ := DenB.sumN h
  refine ⟨z, h1, Nat.le_trans h2 ?_⟩
  rw [Nat.pow_add, Nat.mul_comm]
  exact Nat.mul_le_mul (Nat.le_refl _) (Nat.le_trans hl (by decide))
/-- what a common denominator says of a fraction in lowest terms -/
theorem den_B {D n d k : Nat} {f : Fr} (hL : Low f) (h : DenB D n (rv f)) (hD1 : 1 ≤ D) (hD : D ≤ 2 ^ d) (hd : d < k) (hn : n < k) : FrB k f := by
  obtain ⟨z, h1, h2⟩ := h
  obtain ⟨p, q⟩ := f
  have hq1 : 1 ≤ q := hL.1
  have hco : Nat.gcd p.natAbs q.natAbs = 1 := hL.2
  have hq0 : (q : Rat) ≠ 0 := ratNe (by omega)
  have e : p * (D : Int) = z * q := by
    have : (p : Rat) * (D : Rat) = (z : Rat) * (q : Rat) := by
      rw [← h1]; unfold rv; grind
    exact_mod_cast this
  have e2 : p.natAbs * D = z.natAbs * q.natAbs := by
    have := congrArg Int.natAbs e
    rwa [Int.natAbs_mul, Int.natAbs_mul, Int.natAbs_natCast] at this
  have hdv : q.natAbs ∣ D := by
    have h3 : q.natAbs ∣ p.natAbs * D := ⟨z.natAbs, by rw [e2, Nat.mul_comm]⟩
    exact Nat.Coprime.dvd_of_dvd_mul_left (show Nat.Coprime q.natAbs p.natAbs from (Nat.gcd_comm _ _).trans hco) h3
  obtain ⟨c, hc⟩ := hdv
  have hc1 : 1 ≤ c := by
    rcases Nat.eq_zero_or_pos c with z | z
    · rw [z] at hc; omega
    · exact z
  have hp : p.natAbs ≤ z.natAbs := by
    rw [hc, ← Nat.mul_assoc, Nat.mul_right_comm] at e2
    have h5 : p.natAbs * c = z.natAbs := Nat.eq_of_mul_eq_mul_right (show 0 < q.natAbs by omega) e2
    rw [← h5]
    exact Nat.le_mul_of_pos_right _ hc1
  have hq : q.natAbs ≤ D := Nat.le_of_dvd hD1 ⟨c, hc⟩
  exact ⟨Nat.lt_of_le_of_lt hp (Nat.lt_of_le_of_lt h2 (Nat.pow_lt_pow_right (by decide) hn)), Nat.lt_of_le_of_lt hq (Nat.lt_of_le_of_lt hD (Nat.pow_lt_pow_right (by decide) hd))⟩
/-! products of a list -/
def prodN : List Nat → Nat
  | [] => 1
  | x :: r => x * prodN r
theorem prodN_le {b : Nat} : ∀ {l : List Nat}, (∀ x ∈ l, 1 ≤ x ∧ x ≤ 2 ^ b) → 1 ≤ prodN l ∧ prodN l ≤ 2 ^ (b * l.length)
  | [], _ => by simp [prodN]
  | x :: r, h => by
    have h1 := h x (by simp)
    have h2 := prodN_le (l := r) fun z hz => h z (by simp [hz])
    refine ⟨Nat.mul_le_mul h1.1 h2.1, ?_⟩
    show x * prodN r ≤ _
    rw [List.length_cons, Nat.mul_add, Nat.mul_one, Nat.add_comm, Nat.pow_add]
    exact Nat.mul_le_mul h1.2 h2.2
theorem prodN_mem : ∀ {l : List Nat} {x : Nat}, x ∈ l → ∃ c, prodN l = x * c
  | [], _, h => by cases h
  | y :: r, x, h => by
    rcases List.mem_cons.mp h with rfl | h
    · exact ⟨prodN r, rfl⟩
    · obtain ⟨c, hc⟩ := prodN_mem h
      exact ⟨y * c, by show y * prodN r = _; rw [hc]; exact Nat.mul_left_comm _ _ _⟩
/-- p / x, where x divides D -/
theorem den_frac {D d n : Nat} {p x : Int} {c : Nat} (hx : 1 ≤ x) (hD : D = x.natAbs * c) (hD1 : 1 ≤ D) (hDd : D ≤ 2 ^ d) (hp : p.natAbs ≤ 2 ^ n) : DenB D (n + d) ((p : Rat) / (x : Rat)) := by
  refine ⟨p * (c : Int), ?_, ?_⟩
  · have e : ((p * (c : Int) : Int) : Rat) = (p : Rat) * (c : Rat) := by exact_mod_cast rfl
    have hx0 : (x : Rat) ≠ 0 := ratNe (by omega)
    have e2 : (D : Rat) = (x : Rat) * (c : Rat) := by
      have : (D : Int) = x * (c : Int) := by
        rw [hD, Int.natCast_mul]
        congr 1
        omega
      exact_mod_cast this
    rw [e, e2]; grind
  · rw [Int.natAbs_mul, Int.natAbs_natCast, Nat.pow_add]
    refine Nat.mul_le_mul hp (Nat.le_trans ?_ hDd)
    rw [hD]
    exact Nat.le_mul_of_pos_left _ (by omega)
/-! the denominators of all orders -/

section bound12
/-- the terms of a mean have a common denominator -/
structure TermsOk (D n d : Nat) (zs : List (Fr × Fr)) : Prop where
  ne : ∀ z ∈ zs, 1 ≤ z.1.2 ∧ 1 ≤ z.2.2 ∧ FrB 900 z.1 ∧ FrB 900 z.2
  den : ∀ z ∈ zs, DenB D n (rv z.1 * rv z.2)
  len : zs.length ≤ 64
  D1 : 1 ≤ D
  D2 : D ≤ 2 ^ d
theorem TermsOk.part {D n d : Nat} {zs : List (Fr × Fr)} (h : TermsOk D n d zs) (i : Nat) : Low (fsum (0, 1) ((zs.take i).map tmV)) ∧ DenB D (n + 6) (rv (fsum (0, 1) ((zs.take i).map tmV))) := by
  have h1 := rv_meanV (zs := zs.take i) fun z hz => by
    have := h.ne z (List.mem_of_mem_take hz)
    omega
  refine ⟨h1.1, ?_⟩
  have h2 : rv (fsum (0, 1) ((zs.take i).map tmV)) = sR (fun z => rv z.1 * rv z.2) (zs.take i) := h1.2
  rw [h2]
  unfold sR
  refine DenB.sum64 (by rw [List.length_map, List.length_take]; have := h.len; omega) fun x hx => ?_
  obtain ⟨z, hz, rfl⟩ := List.mem_map.mp hx
  exact h.den z (List.mem_of_mem_take hz)
theorem TermsOk.mean {D n d : Nat} {zs : List (Fr × Fr)} (h : TermsOk D n d zs) : Low (meanV zs) ∧ DenB D (n + 6) (rv (meanV zs)) := by
  have := h.part zs.length
  rwa [List.take_length] at this
theorem TermsOk.tm {D n d k : Nat} {zs : List (Fr × Fr)} (h : TermsOk D n d zs) (hk : n + 6 < k) (hd : d < k) {z : Fr × Fr} (hz : z ∈ zs) : Low (tmV z) ∧ FrB k (tmV z) := by
  have h1 := h.ne z hz
  have h2 := tmV_low (z := z) (by omega) (by omega)
  refine ⟨h2.1, den_B h2.1 (by rw [h2.2]; exact h.den z hz) h.D1 h.D2 hd (by omega)⟩
theorem TermsOk.partB {D n d k : Nat} {zs : List (Fr × Fr)} (h : TermsOk D n d zs) (hk : n + 6 < k) (hd : d < k) (i : Nat) : FrB k (fsum (0, 1) ((zs.take i).map tmV)) := den_B (h.part i).1 (h.part i).2 h.D1 h.D2 hd hk
theorem TermsOk.meanV {D n d : Nat} {zs : List (Fr × Fr)} (h : TermsOk D n d zs) (hk : n + 6 < 900) (hd : d < 900) : MeanV zs := by
  refine ⟨fun z hz => ?_, ⟨fun f hf => ?_, fun i => ?_⟩, by have := h.len; omega⟩
  · have h1 := h.ne z hz
    exact ⟨by omega, by omega, h1.2.2.1.mono (by decide), h1.2.2.2.mono (by decide)⟩
  · obtain ⟨z, hz, rfl⟩ := List.mem_map.mp hf
    have h1 := h.tm hk hd hz
    exact ⟨h1.2.mono (by decide), h1.1.ne⟩
  · rw [← List.map_take]
    exact ⟨(h.partB hk hd i).mono (by decide), (h.part i).1.ne⟩
theorem TermsOk.lmeanV {D n d : Nat} {zs : List (Fr × Fr)} (h : TermsOk D n d zs) (hk : n + 6 < 900) (hd : d < 900) : LMeanV zs := by
  refine ⟨fun z hz => h.ne z hz, fun i z hz => ⟨900, 900, h.partB hk hd i, (h.tm hk hd (List.mem_of_getElem? hz)).2, by decide⟩⟩
theorem TermsOk.meanB {D n d k : Nat} {zs : List (Fr × Fr)} (h : TermsOk D n d zs) (hk : n + 6 < k) (hd : d < k) : FrB k (K12.meanV zs) := den_B h.mean.1 h.mean.2 h.D1 h.D2 hd hk
/-- triples whose numbers have the denominator A and whose chances have C -/
structure TripOk (A a e C c g : Nat) (zs : List (Fr × Fr × Fr)) : Prop where
  pos : ∀ z ∈ zs, 1 ≤ z.1.2 ∧ 1 ≤ z.2.1.2 ∧ 1 ≤ z.2.2.2 ∧ FrB 100 z.1 ∧ FrB 100 z.2.1 ∧ FrB 100 z.2.2
  one : ∀ z ∈ zs, DenB A a (rv z.1)
  two : ∀ z ∈ zs, DenB A a (rv z.2.1)
  ch : ∀ z ∈ zs, DenB C c (rv z.2.2)
  len : zs.length ≤ 64
  A1 : 1 ≤ A ∧ A ≤ 2 ^ e
  C1 : 1 ≤ C ∧ C ≤ 2 ^ g
  fit : a ≤ 20 ∧ e ≤ 20 ∧ c ≤ 40 ∧ g ≤ 40
theorem TripOk.cov {A a e C c g : Nat} {zs : List (Fr × Fr × Fr)} (h : TripOk A a e C c g zs) : CovOk zs := by
  obtain ⟨f1, f2, f3, f4⟩ := h.fit
  have hAC1 : 1 ≤ A * C := Nat.mul_le_mul h.A1.1 h.C1.1
  have hAC2 : A * C ≤ 2 ^ (e + g) := by rw [Nat.pow_add]; exact Nat.mul_le_mul h.A1.2 h.C1.2
  have t1 : TermsOk (A * C) (a + c) (e + g) (zs.map oneV) := ⟨fun y hy => by
      obtain ⟨z, hz, rfl⟩ := List.mem_map.mp hy
      obtain ⟨p1, p2, p3, p4, p5, p6⟩ := h.pos z hz
      exact ⟨p1, p3, p4.mono (by decide), p6.mono (by decide)⟩, fun y hy => by
      obtain ⟨z, hz, rfl⟩ := List.mem_map.mp hy
      exact (h.one z hz).mul (h.ch z hz), by rw [List.length_map]; exact h.len, hAC1, hAC2⟩
  have t2 : TermsOk (A * C) (a + c) (e + g) (zs.map twoV) := ⟨fun y hy => by
      obtain ⟨z, hz, rfl⟩ := List.mem_map.mp hy
      obtain ⟨p1, p2, p3, p4, p5, p6⟩ := h.pos z hz
      exact ⟨p2, p3, p5.mono (by decide), p6.mono (by decide)⟩, fun y hy => by
      obtain ⟨z, hz, rfl⟩ := List.mem_map.mp hy
      exact (h.two z hz).mul (h.ch z hz), by rw [List.length_map]; exact h.len, hAC1, hAC2⟩
  have m1 := t1.mean
  have m2 := t2.mean
  have b1 := t1.meanB (k := 150) (by omega) (by omega)
  have b2 := t2.meanB (k := 150) (by omega) (by omega)
  have hdev : ∀ z ∈ zs, DenB (A * C) (a + c + g + 7) (rv z.1 - rv (meanV (zs.map oneV))) ∧ DenB (A * C) (a + c + g + 7) (rv z.2.1 - rv (meanV (zs.map twoV))) := fun z hz =>
    ⟨((((h.one z hz).up h.C1.2).mono (by omega : a + g ≤ a + c + g + 6)).sub (m1.2.mono (by omega))).mono (by omega), ((((h.two z hz).up h.C1.2).mono (by omega : a + g ≤ a + c + g + 6)).sub (m2.2.mono (by omega))).mono (by omega)⟩
  have t3 : TermsOk (A * C * (A * C) * C) ((a + c + g + 7) + (a + c + g + 7) + c) ((e + g) + (e + g) + g) (zs.map (devV (meanV (zs.map oneV)) (meanV (zs.map twoV)))) := by
    refine ⟨fun y hy => ?_, fun y hy => ?_, by rw [List.length_map]; exact h.len, Nat.mul_le_mul (Nat.mul_le_mul hAC1 hAC1) h.C1.1, ?_⟩
    · obtain ⟨z, hz, rfl⟩ := List.mem_map.mp hy
      obtain ⟨p1, p2, p3, p4, p5, p6⟩ := h.pos z hz
      have n1 := fminus_ne (f := z.1) (by omega) m1.1.ne
      have n2 := fminus_ne (f := z.2.1) (by omega) m2.1.ne
      refine ⟨(lo_low (Int.mul_ne_zero n1 n2)).1, p3, ?_, p6.mono (by decide)⟩
      exact (ftimes_B (fminus_B p4 b1 (by omega) m1.1.ne) (fminus_B p5 b2 (by omega) m2.1.ne) n1 n2).mono (by decide)
    · obtain ⟨z, hz, rfl⟩ := List.mem_map.mp hy
      obtain ⟨p1, p2, p3, p4, p5, p6⟩ := h.pos z hz
      have n1 := fminus_ne (f := z.1) (by omega) m1.1.ne
      have n2 := fminus_ne (f := z.2.1) (by omega) m2.1.ne
      show DenB _ _ (rv (ftimes _ _) * rv z.2.2)
      rw [rv_ftimes n1 n2, rv_fminus (by omega) m1.1.ne, rv_fminus (by omega) m2.1.ne]
      exact ((hdev z hz).1.mul (hdev z hz).2).mul (h.ch z hz)
    · rw [Nat.pow_add, Nat.pow_add]
      exact Nat.mul_le_mul (Nat.mul_le_mul hAC2 hAC2) h.C1.2
  refine ⟨t1.meanV (by omega) (by omega), t2.meanV (by omega) (by omega), t3.meanV (by omega) (by omega), fun z hz => ?_, b1.mono (by decide), m1.1.ne, b2.mono (by decide), m2.1.ne⟩
  obtain ⟨p1, p2, p3, p4, p5, p6⟩ := h.pos z hz
  exact ⟨by omega, by omega, p4.mono (by decide), p5.mono (by decide)⟩
end bound12

section ok12
open GT LamK
/-- keys of two numbers, chances with the denominator D -/
structure XsOk (D n d : Nat) (xs : List KF) : Prop where
  key : ∀ x ∈ xs, ∃ g : Fr, x.1 = keyOf g
  low : ∀ x ∈ xs, Low x.2 ∧ FrB 900 x.2
  den : ∀ x ∈ xs, DenB D n (rv x.2)
  len : xs.length ≤ 64
  D1 : 1 ≤ D ∧ D ≤ 2 ^ d
  fit : n + 6 < 900 ∧ d < 900
theorem XsOk.take {D n d : Nat} {xs : List KF} (h : XsOk D n d xs) (i : Nat) : XsOk D n d (xs.take i) := ⟨fun x hx => h.key x (List.mem_of_mem_take hx), fun x hx => h.low x (List.mem_of_mem_take hx), fun x hx => h.den x (List.mem_of_mem_take hx), by rw [List.length_take]; have := h.len; omega, h.D1, h.fit⟩
theorem XsOk.perm {D n d : Nat} {xs ys : List KF} (h : XsOk D n d xs) (p : xs.Perm ys) : XsOk D n d ys := ⟨fun x hx => h.key x (p.mem_iff.mpr hx), fun x hx => h.low x (p.mem_iff.mpr hx), fun x hx => h.den x (p.mem_iff.mpr hx), by rw [← p.length_eq]; exact h.len, h.D1, h.fit⟩
theorem XsOk.sK {D n d : Nat} {xs : List KF} (h : XsOk D n d xs) (k : List Key) : DenB D (n + 6) (sK xs k) := by
  unfold K12.sK
  refine DenB.sum64 (by rw [List.length_map]; exact Nat.le_trans (List.length_filter_le _ _) h.len) fun x hx => ?_
  obtain ⟨z, hz, rfl⟩ := List.mem_map.mp hx
  exact h.den z (List.mem_filter.mp hz).1
theorem XsOk.norm {D n d : Nat} {xs R : List KF} (h : XsOk D n d xs) (hn : Norm xs R) {y : KF} (hy : y ∈ R) : Low y.2 ∧ FrB 900 y.2 ∧ DenB D (n + 6) (rv y.2) ∧ ∃ g : Fr, y.1 = keyOf g := by
  obtain ⟨a, b, c⟩ := hn.a y hy
  have hd : DenB D (n + 6) (rv y.2) := by rw [c]; exact h.sK _
  obtain ⟨x, hx, e⟩ := List.mem_map.mp a
  exact ⟨b, den_B b hd h.D1.1 h.D1.2 h.fit.2 h.fit.1, hd, let ⟨g, hg⟩ := h.key x hx; ⟨g, by rw [← e, hg]⟩⟩
theorem keys_alike {l : List PyData} (h : ∀ d ∈ l, ∃ g : Fr, d = keyD (keyOf g)) : PySem.W.AllAlike l ∧ PySem.W.Sortable l := by
  refine ⟨fun d hd d' hd' => ?_, .inl fun d hd => ?_⟩
  · obtain ⟨g, rfl⟩ := h d hd
    obtain ⟨g', rfl⟩ := h d' hd'
    rfl
  · obtain ⟨g, rfl⟩ := h d hd
    exact ⟨_, _, rfl⟩
theorem XsOk.gath {D n d : Nat} {xs : List KF} (h : XsOk D n d xs) : GathOk xs := by
  have hne : ∀ x ∈ xs, x.2.2 ≠ 0 := fun x hx => (h.low x hx).1.ne
  have hN := norm_gsum hne
  have hal := keys_alike (l := (gsum xs).map fun x => keyD x.1) fun d hd => by
    obtain ⟨y, hy, rfl⟩ := List.mem_map.mp hd
    obtain ⟨_, _, _, g, hg⟩ := h.norm hN hy
    exact ⟨g, by rw [hg]⟩
  refine ⟨by have := h.len; omega, fun x hx => ⟨(h.low x hx).1.1, (h.low x hx).2⟩, fun i y hy => ?_, hal.1, hal.2, fun y hy s hs => ?_⟩
  · have h2 := (h.take i).norm (norm_gsum fun x hx => hne x (List.mem_of_mem_take hx)) hy
    exact ⟨h2.1.1, h2.2.1⟩
  · obtain ⟨_, _, _, g, hg⟩ := h.norm hN hy
    rw [hg] at hs
    simp [keyOf] at hs
theorem fs_sumOk {D n d : Nat} {fs : List Fr} (hl : fs.length ≤ 64) (h : ∀ f ∈ fs, Low f ∧ DenB D n (rv f)) (D1 : 1 ≤ D ∧ D ≤ 2 ^ d) (hn : n + 6 < 900) (hd : d < 900) : SumOk fs := by
  refine ⟨fun f hf => ?_, fun i => ?_⟩
  · obtain ⟨a, b⟩ := h f hf
    exact ⟨(den_B (k := 900) a b D1.1 D1.2 hd (by omega)).mono (by decide), a.ne⟩
  · have h1 := rv_fsum (fs := fs.take i) low01 fun f hf => (h f (List.mem_of_mem_take hf)).1.ne
    refine ⟨(den_B (k := 900) h1.2 ?_ D1.1 D1.2 hd hn).mono (by decide), h1.2.ne⟩
    rw [h1.1, rv_zero]
    have e : (0 : Rat) + ((fs.take i).map rv).sum = ((fs.take i).map rv).sum := by grind
    rw [e]
    refine DenB.sum64 (by rw [List.length_map, List.length_take]; omega) fun x hx => ?_
    obtain ⟨f, hf, rfl⟩ := List.mem_map.mp hx
    exact (h f (List.mem_of_mem_take hf)).2
theorem XsOk.law {D n d : Nat} {xs : List KF} (h : XsOk D n d xs) : LawD (xs.map emb) := by
  have hal := keys_alike (l := (xs.map emb).map Prod.fst) fun d hd => by
    rw [List.map_map] at hd
    obtain ⟨y, hy, rfl⟩ := List.mem_map.mp hd
    obtain ⟨g, hg⟩ := h.key y hy
    exact ⟨g, by show keyD y.1 = _; rw [hg]⟩
  have e2 : (xs.map emb).map Prod.snd = xs.map Prod.snd := by rw [List.map_map]; rfl
  refine ⟨hal, ?_, fun i y hy => ?_, by rw [List.length_map]; have := h.len; omega⟩
  · rw [e2]
    refine fs_sumOk (by rw [List.length_map]; exact h.len) (fun f hf => ?_) h.D1 h.fit.1 h.fit.2
    obtain ⟨x, hx, rfl⟩ := List.mem_map.mp hf
    exact ⟨(h.low x hx).1, h.den x hx⟩
  · rw [← List.map_mergeSort (r := fun a b : KF => leK a.1 b.1) (s := PySem.W.dataLe false Prod.fst) (f := emb) (fun _ _ _ _ => rfl), ← List.map_take] at hy
    have e := fold_emb ((xs.mergeSort fun a b => leK a.1 b.1).take i) []
    rw [List.map_nil] at e
    rw [e] at hy
    obtain ⟨z, hz, rfl⟩ := List.mem_map.mp hy
    have p := List.mergeSort_perm xs fun a b : KF => leK a.1 b.1
    have T : ∀ a b c : KF, leK a.1 b.1 = true → leK b.1 c.1 = true → leK a.1 c.1 = true := fun a b c => leK_ord.trans a.1 b.1 c.1
    have U : ∀ a b : KF, (leK a.1 b.1 || leK b.1 a.1) = true := fun a b => Bool.or_eq_true_iff.mpr (leK_ord.total a.1 b.1)
    have q1 := List.pairwise_mergeSort (le := fun a b : KF => leK a.1 b.1) T U xs
    have hx := (h.perm p.symm).take i
    have hN := (stpG_fold leK_ord (xs := (xs.mergeSort fun a b => leK a.1 b.1).take i) (ps := []) (acc := []) norm_nil .nil (fun x hx2 => (hx.low x hx2).1) (by rw [List.nil_append]; exact q1.sublist (List.take_sublist _ _))).1
    rw [List.nil_append] at hN
    have h2 := hx.norm hN hz
    exact ⟨h2.2.1.mono (by decide), h2.1.ne⟩
/-- law_from and the dict agree -/
theorem lawDF_gath {xs : List KF} (hx : ∀ x ∈ xs, Low x.2) : lawDF (xs.map emb) = (gathOf xs).map emb := by
  unfold lawDF
  rw [← List.map_mergeSort (r := fun a b : KF => leK a.1 b.1) (s := PySem.W.dataLe false Prod.fst) (f := emb) (fun _ _ _ _ => rfl)]
  have e := fold_emb (xs.mergeSort fun a b => leK a.1 b.1) []
  rw [List.map_nil] at e
  rw [e, gath_both leK_ord hx]
  unfold gathOf
  rw [List.filter_map]
  rfl
end ok12

section facts12
open LamK
/-- the rows of a law of numbers: chances with the denominator D that add up to one -/
structure LawZ (D n d : Nat) (zs : List (Fr × Fr)) : Prop where
  num : ∀ z ∈ zs, NumOk z.1
  ch : ∀ z ∈ zs, Low z.2 ∧ DenB D n (rv z.2) ∧ 0 ≤ rv z.2
  sum : sR (fun z => rv z.2) zs = 1
  len : zs.length ≤ 16
  D1 : 1 ≤ D ∧ D ≤ 2 ^ d
theorem num_ok {g : Fr} (h : NumOk g) : Low g ∧ FrB 4 g ∧ DenB 12 7 (rv g) := by
  obtain ⟨u, v, rfl, h1, h2, h3, h4⟩ := h
  have hv : v ≠ 0 := by omega
  refine ⟨lo_low hv, lo_B hv (by omega) (by omega), ?_⟩
  rw [rv_lo hv]
  obtain ⟨k, hk, hk12⟩ : ∃ k : Int, v * k = 12 ∧ 1 ≤ k ∧ k ≤ 12 := by
    rcases (show v = 1 ∨ v = 2 ∨ v = 3 ∨ v = 4 by omega) with rfl | rfl | rfl | rfl
    · exact ⟨12, rfl, by decide, by decide⟩
    · exact ⟨6, rfl, by decide, by decide⟩
    · exact ⟨4, rfl, by decide, by decide⟩
    · exact ⟨3, rfl, by decide, by decide⟩
  refine ⟨u * k, ?_, ?_⟩
  · have e : ((u * k : Int) : Rat) = (u : Rat) * (k : Rat) := by exact_mod_cast rfl
    have e2 : ((12 : Nat) : Rat) = (v : Rat) * (k : Rat) := by
      have : ((12 : Int) : Rat) = (v : Rat) * (k : Rat) := by exact_mod_cast hk.symm
      exact this
    have hr := ratNe hv
    rw [e, e2]
    grind
  · rw [Int.natAbs_mul]
    have : u.natAbs * k.natAbs ≤ 7 * 12 := Nat.mul_le_mul (by omega) (by omega)
    exact Nat.le_trans this (by decide)
theorem share_sum {S : Int} (hS : S ≠ 0) : ∀ ns : List Int, sR (fun n => rv (lo n S)) ns = (ns.sum : Rat) / (S : Rat)
  | [] => by
    rw [sR_nil, List.sum_nil]
    have : ((0 : Int) : Rat) = 0 := by exact_mod_cast rfl
    rw [this]
    grind
  | n :: r => by
    rw [sR_cons, share_sum hS r, rv_lo hS, List.sum_cons]
    have e : ((n + r.sum : Int) : Rat) = (n : Rat) + (r.sum : Rat) := by exact_mod_cast rfl
    rw [e]
    grind
theorem shF_ok {ns : List Int} (h : NsOk ns) : (∀ f ∈ shF ns, Low f ∧ FrB 5 f ∧ DenB ns.sum.toNat 2 (rv f) ∧ 0 ≤ rv f) ∧ sR rv (shF ns) = 1 ∧ (1 ≤ ns.sum.toNat ∧ ns.sum.toNat ≤ 2 ^ 4) := by
  have hs := sumN_le h.each
  have h0 := h.sum
  have hl := h.len
  have hS : ns.sum ≠ 0 := by omega
  refine ⟨fun f hf => ?_, ?_, by omega, by omega⟩
  · unfold shF at hf
    obtain ⟨n, hn, rfl⟩ := List.mem_map.mp hf
    have hb := h.each n hn
    refine ⟨lo_low hS, lo_B hS (by omega) (by omega), ⟨n, ?_, by omega⟩, ?_⟩
    · rw [rv_lo hS]
      have e : ((ns.sum.toNat : Nat) : Rat) = (ns.sum : Rat) := by
        have : ((ns.sum.toNat : Nat) : Int) = ns.sum := by omega
        exact_mod_cast congrArg (fun z : Int => (z : Rat)) this
      rw [e]
      have hr := ratNe hS
      grind
    · rw [rv_lo hS]
      have hp : (0 : Rat) < (ns.sum : Rat) := ratPos h0
      have hn0 : (0 : Rat) ≤ (n : Rat) := by exact_mod_cast hb.1
      rw [Rat.div_def]
      exact Rat.mul_nonneg hn0 (Rat.le_of_lt (Rat.inv_pos.mpr hp))
  · unfold shF
    rw [sR_map, share_sum hS]
    have hr := ratNe hS
    grind
/-- chances that are none below zero and add up to one are taken -/
theorem ch_taken {fs : List Fr} (h : ∀ f ∈ fs, Low f ∧ 0 ≤ rv f) (h1 : sR rv fs = 1) : chOkB fs = true := by
  unfold chOkB
  have hs := rv_fsum (fs := fs) low01 fun f hf => (h f hf).1.ne
  have e : fsum (0, 1) fs = (1, 1) := by
    refine low_eq hs.2 ⟨by decide, by decide⟩ ?_
    have h2 : (fs.map rv).sum = 1 := h1
    rw [hs.1, rv_zero, h2]
    have : rv (1, 1) = 1 := by unfold rv; grind
    rw [this]
    grind
  rw [e, decide_eq_true rfl, Bool.and_true]
  refine List.all_eq_true.mpr fun f hf => ?_
  rw [fless_iff (h f hf).1.1 (by decide), rv_zero]
  rw [decide_eq_false (Rat.not_lt.mpr (h f hf).2)]
  rfl
/-- chances with another sum are refused -/
theorem ch_refused {fs : List Fr} (h : ∀ f ∈ fs, f.2 ≠ 0) (h1 : sR rv fs ≠ 1) : chOkB fs = false := by
  unfold chOkB
  have hs := rv_fsum (fs := fs) low01 h
  rw [decide_eq_false (fun e => h1 ?_), Bool.and_false]
  have h2 : rv (fsum (0, 1) fs) = 1 := by rw [e]; unfold rv; grind
  rw [hs.1, rv_zero] at h2
  have : sR rv fs = (fs.map rv).sum := rfl
  rw [this]
  grind
theorem LawZ.terms {D n d : Nat} {zs : List (Fr × Fr)} (h : LawZ D n d zs) (hn : n ≤ 40) (hd : d ≤ 40) : TermsOk (12 * D) (7 + n) (4 + d) zs := by
  refine ⟨fun z hz => ?_, fun z hz => (num_ok (h.num z hz)).2.2.mul (h.ch z hz).2.1, by have := h.len; omega, Nat.mul_le_mul (by decide : 1 ≤ 12) h.D1.1, ?_⟩
  · have h1 := num_ok (h.num z hz)
    obtain ⟨a, b, _⟩ := h.ch z hz
    exact ⟨h1.1.1, a.1, h1.2.1.mono (by decide), (den_B (k := 41) a b h.D1.1 h.D1.2 (by omega) (by omega)).mono (by decide)⟩
  · rw [Nat.pow_add]
    exact Nat.mul_le_mul (by decide) h.D1.2
theorem LawZ.trip {D n d : Nat} {zs : List (Fr × Fr)} (h : LawZ D n d zs) (hn : n ≤ 40) (hd : d ≤ 40) : TripOk 12 7 4 D n d (zs.map dupV) := by
  refine ⟨fun y hy => ?_, fun y hy => ?_, fun y hy => ?_, fun y hy => ?_, by rw [List.length_map]; have := h.len; omega, by decide, h.D1, by omega⟩
  all_goals obtain ⟨z, hz, rfl⟩ := List.mem_map.mp hy
  · have h1 := num_ok (h.num z hz)
    obtain ⟨a, b, _⟩ := h.ch z hz
    exact ⟨h1.1.1, h1.1.1, a.1, h1.2.1.mono (by decide), h1.2.1.mono (by decide), (den_B (k := 41) a b h.D1.1 h.D1.2 (by omega) (by omega)).mono (by decide)⟩
  · exact (num_ok (h.num z hz)).2.2
  · exact (num_ok (h.num z hz)).2.2
  · exact (h.ch z hz).2.1
theorem LawZ.ne {D n d : Nat} {zs : List (Fr × Fr)} (h : LawZ D n d zs) : ∀ z ∈ zs, z.1.2 ≠ 0 ∧ z.2.2 ≠ 0 := fun z hz => ⟨(num_ok (h.num z hz)).1.ne, (h.ch z hz).1.ne⟩
theorem LawZ.spread {D n d : Nat} {zs : List (Fr × Fr)} (h : LawZ D n d zs) (hn : n ≤ 40) (hd : d ≤ 40) : SpreadOk zs := by
  have t := h.terms hn hd
  have t2 : TermsOk (12 * 12 * D) (7 + 7 + n) (4 + 4 + d) (zs.map sqV) := by
    refine ⟨fun y hy => ?_, fun y hy => ?_, by rw [List.length_map]; exact t.len, Nat.mul_le_mul (by decide : 1 ≤ 12 * 12) h.D1.1, ?_⟩
    · obtain ⟨z, hz, rfl⟩ := List.mem_map.mp hy
      obtain ⟨o1, o2, o3, o4⟩ := t.ne z hz
      have h1 := num_ok (h.num z hz)
      exact ⟨(lo_low (Int.mul_ne_zero h1.1.ne h1.1.ne)).1, o2, (ftimes_B h1.2.1 h1.2.1 h1.1.ne h1.1.ne).mono (by decide), o4⟩
    · obtain ⟨z, hz, rfl⟩ := List.mem_map.mp hy
      have h1 := num_ok (h.num z hz)
      show DenB _ _ (rv (ftimes z.1 z.1) * rv z.2)
      rw [rv_ftimes h1.1.ne h1.1.ne]
      exact (h1.2.2.mul h1.2.2).mul (h.ch z hz).2.1
    · rw [Nat.pow_add, Nat.pow_add]
      exact Nat.mul_le_mul (by decide) h.D1.2
  have m := t.mean
  have b := t.meanB (k := 150) (by omega) (by omega)
  exact ⟨t2.lmeanV (by omega) (by omega), t.lmeanV (by omega) (by omega), by have := h.len; omega, ⟨150, 300, t2.meanB (by omega) (by omega), (ftimes_B b b m.1.ne m.1.ne).mono (by decide), by decide⟩, b.mono (by decide), m.1.1, t2.mean.1.1⟩
/-- variance and the law's own spread are one -/
theorem LawZ.var {D n d : Nat} {zs : List (Fr × Fr)} (h : LawZ D n d zs) : covV (zs.map dupV) = spreadV zs := var_spread h.ne h.sum
end facts12

section facts12b
open LamK
def kfOf (z : Fr × Fr) : KF := (keyOf z.1, z.2)
def numOf (k : List Key) : Fr := match k with
  | [.inl p, .inl q] => (p, q)
  | _ => (0, 1)
def zOf (x : KF) : Fr × Fr := (numOf x.1, x.2)
theorem num_key (g : Fr) : numOf (keyOf g) = g := rfl
theorem zOf_kf (z : Fr × Fr) : zOf (kfOf z) = z := rfl
theorem LawZ.xs {D n d : Nat} {zs : List (Fr × Fr)} (h : LawZ D n d zs) (hn : n ≤ 40) (hd : d ≤ 40) : XsOk D n d (zs.map kfOf) := by
  refine ⟨fun x hx => ?_, fun x hx => ?_, fun x hx => ?_, by rw [List.length_map]; have := h.len; omega, h.D1, by omega, by omega⟩
  all_goals obtain ⟨z, hz, rfl⟩ := List.mem_map.mp hx
  · exact ⟨z.1, rfl⟩
  · obtain ⟨a, b, _⟩ := h.ch z hz
    exact ⟨a, (den_B (k := 41) a b h.D1.1 h.D1.2 (by omega) (by omega)).mono (by decide)⟩
  · exact (h.ch z hz).2.1
theorem ratsum_nonneg : ∀ {l : List Rat}, (∀ x ∈ l, 0 ≤ x) → 0 ≤ l.sum
  | [], _ => by show (0 : Rat) ≤ 0; exact Rat.le_refl
  | x :: l, h => by
    have h1 := h x (by simp)
    have h2 := ratsum_nonneg (l := l) fun y hy => h y (by simp [hy])
    rw [List.sum_cons]
    grind
/-- the gathered law -/
def gathZ (zs : List (Fr × Fr)) : List (Fr × Fr) := (gathOf (zs.map kfOf)).map zOf
theorem gathZ_kf {zs : List (Fr × Fr)} (hl : ∀ z ∈ zs, z.2.2 ≠ 0) : (gathZ zs).map kfOf = gathOf (zs.map kfOf) := by
  unfold gathZ
  rw [List.map_map]
  conv => rhs; rw [← List.map_id (gathOf (zs.map kfOf))]
  refine List.map_congr_left fun x hx => ?_
  obtain ⟨a, _⟩ := gath_mem (xs := zs.map kfOf) (fun y hy => by obtain ⟨z, hz, rfl⟩ := List.mem_map.mp hy; exact hl z hz) hx
  obtain ⟨y, hy, e⟩ := List.mem_map.mp a
  obtain ⟨z, hz, rfl⟩ := List.mem_map.mp hy
  show (keyOf (numOf x.1), x.2) = x
  rw [← e]
  show (keyOf z.1, x.2) = x
  have e2 : keyOf z.1 = x.1 := e
  rw [e2]
theorem gathZ_sum {zs : List (Fr × Fr)} (hl : ∀ z ∈ zs, z.2.2 ≠ 0) (φ : Fr → Rat) : sR (fun z => φ z.1 * rv z.2) (gathZ zs) = sR (fun z => φ z.1 * rv z.2) zs := by
  unfold gathZ
  rw [sR_map]
  have h := gath_sum (fun k => φ (numOf k)) (xs := zs.map kfOf) fun y hy => by obtain ⟨z, hz, rfl⟩ := List.mem_map.mp hy; exact hl z hz
  rw [sR_map] at h
  exact h
theorem gathZ_one {zs : List (Fr × Fr)} (hl : ∀ z ∈ zs, z.2.2 ≠ 0) : sR (fun z => rv z.2) (gathZ zs) = sR (fun z => rv z.2) zs := by
  have h := gathZ_sum hl fun _ => 1
  have e : ∀ l : List (Fr × Fr), sR (fun z => (fun _ : Fr => (1 : Rat)) z.1 * rv z.2) l = sR (fun z => rv z.2) l := fun l => sR_congr fun z _ => by show 1 * rv z.2 = _; grind
  rwa [e, e] at h
theorem gathZ_len (zs : List (Fr × Fr)) : (gathZ zs).length ≤ zs.length := by
  unfold gathZ
  rw [List.length_map]
  have := gath_len (xs := zs.map kfOf)
  rwa [List.length_map] at this
theorem LawZ.gath {D n d : Nat} {zs : List (Fr × Fr)} (h : LawZ D n d zs) (hn : n ≤ 40) (hd : d ≤ 40) : LawZ D (n + 6) d (gathZ zs) := by
  have hl : ∀ z ∈ zs, z.2.2 ≠ 0 := fun z hz => (h.ne z hz).2
  have hx : ∀ x ∈ zs.map kfOf, x.2.2 ≠ 0 := fun y hy => by obtain ⟨z, hz, rfl⟩ := List.mem_map.mp hy; exact hl z hz
  refine ⟨fun z hz => ?_, fun z hz => ?_, by rw [gathZ_one hl]; exact h.sum, Nat.le_trans (gathZ_len zs) h.len, h.D1⟩
  all_goals
    unfold gathZ at hz
    obtain ⟨x, hxm, rfl⟩ := List.mem_map.mp hz
    obtain ⟨a, b, c, _⟩ := gath_mem hx hxm
  · obtain ⟨y, hy, e⟩ := List.mem_map.mp a
    obtain ⟨w, hw, rfl⟩ := List.mem_map.mp hy
    have e2 : keyOf w.1 = x.1 := e
    show NumOk (numOf x.1)
    rw [← e2]
    exact h.num w hw
  · refine ⟨b, ?_, ?_⟩
    · show DenB D (n + 6) (rv x.2)
      rw [c]
      exact (h.xs hn hd).sK _
    · show 0 ≤ rv x.2
      rw [c]
      unfold sK
      refine ratsum_nonneg fun r hr => ?_
      obtain ⟨y, hy, rfl⟩ := List.mem_map.mp hr
      obtain ⟨w, hw, rfl⟩ := List.mem_map.mp (List.mem_filter.mp hy).1
      exact (h.ch w hw).2.2
/-- laws mixed by shares -/
def wholeZ (ls : List (List (Fr × Fr))) (fs : List Fr) : List (Fr × Fr) := (ls.zip fs).flatMap fun x => x.1.map fun z => (z.1, ftimes x.2 z.2)
theorem whole_sum (φ : Fr → Rat) {ls : List (List (Fr × Fr))} {fs : List Fr} (hf : ∀ f ∈ fs, f.2 ≠ 0) (hl : ∀ l ∈ ls, ∀ z ∈ l, z.2.2 ≠ 0) : sR (fun z => φ z.1 * rv z.2) (wholeZ ls fs) = sR (fun x => rv x.2 * sR (fun z => φ z.1 * rv z.2) x.1) (ls.zip fs) := by
  unfold wholeZ
  rw [sR_flat]
  refine sR_congr fun x hx => ?_
  have h1 := hf x.2 (List.of_mem_zip hx).2
  have h2 := hl x.1 (List.of_mem_zip hx).1
  rw [sR_map, ← sR_mul]
  refine sR_congr fun z hz => ?_
  show φ z.1 * rv (ftimes x.2 z.2) = _
  rw [rv_ftimes h1 (h2 z hz)]
  grind
theorem zip_fs (fs : List Fr) (f : Fr → Rat) : ∀ ls : List (List (Fr × Fr)), ls.length = fs.length → sR (fun x => f x.2) (ls.zip fs) = sR f fs := by
  induction fs with
  | nil => intro ls h; cases ls with
    | nil => rfl
    | cons a r => simp at h
  | cons g r ih => intro ls h; cases ls with
    | nil => simp at h
    | cons a l =>
      rw [List.zip_cons_cons, sR_cons, sR_cons, ih l (by simpa using h)]
end facts12b

section facts12c
open LamK
theorem whole_len : ∀ (ls : List (List (Fr × Fr))) (fs : List Fr), (∀ l ∈ ls, l.length ≤ 4) → (wholeZ ls fs).length ≤ 4 * ls.length
  | [], fs, _ => by unfold wholeZ; simp
  | l :: ls, [], _ => by unfold wholeZ; simp
  | l :: ls, f :: fs, h => by
    have h1 := h l (by simp)
    have h2 := whole_len ls fs fun x hx => h x (by simp [hx])
    unfold wholeZ at h2 ⊢
    rw [List.zip_cons_cons, List.flatMap_cons, List.length_append, List.length_map, List.length_cons]
    show l.length + _ ≤ _
    omega
/-- what is known of the laws that are mixed -/
structure MixOk (Ss : List Nat) (T : Nat) (ls : List (List (Fr × Fr))) (fs : List Fr) : Prop where
  laws : ∀ l ∈ ls, l.length ≤ 4 ∧ ∃ S, S ∈ Ss ∧ LawZ S 8 4 l
  den : Ss.length ≤ 4 ∧ ∀ S ∈ Ss, 1 ≤ S ∧ S ≤ 2 ^ 4
  shares : ∀ f ∈ fs, Low f ∧ FrB 5 f ∧ DenB T 2 (rv f) ∧ 0 ≤ rv f
  one : sR rv fs = 1
  T1 : 1 ≤ T ∧ T ≤ 2 ^ 4
  len : ls.length = fs.length ∧ ls.length ≤ 4
theorem MixOk.P {Ss : List Nat} {T : Nat} {ls : List (List (Fr × Fr))} {fs : List Fr} (h : MixOk Ss T ls fs) : 1 ≤ prodN Ss ∧ prodN Ss ≤ 2 ^ 16 := by
  have h1 := prodN_le h.den.2
  exact ⟨h1.1, Nat.le_trans h1.2 (Nat.pow_le_pow_right (by decide) (by have := h.den.1; omega))⟩
theorem den_up {Ss : List Nat} {S T n : Nat} {x : Rat} (hP : 1 ≤ prodN Ss ∧ prodN Ss ≤ 2 ^ 16) (hS : S ∈ Ss) (h1 : 1 ≤ S) (h : DenB (T * S) n x) : DenB (T * prodN Ss) (n + 16) x := by
  obtain ⟨c, hc⟩ := prodN_mem hS
  have hcl : c ≤ 2 ^ 16 := by
    have : c ≤ prodN Ss := by rw [hc]; exact Nat.le_mul_of_pos_left _ h1
    omega
  have := h.up hcl
  rwa [Nat.mul_assoc, ← hc] at this
theorem MixOk.whole {Ss : List Nat} {T : Nat} {ls : List (List (Fr × Fr))} {fs : List Fr} (h : MixOk Ss T ls fs) : LawZ (T * prodN Ss) 26 20 (wholeZ ls fs) := by
  have hP := h.P
  have hfn : ∀ f ∈ fs, f.2 ≠ 0 := fun f hf => (h.shares f hf).1.ne
  have hln : ∀ l ∈ ls, ∀ z ∈ l, z.2.2 ≠ 0 := fun l hl z hz => by
    obtain ⟨_, S, _, hz2⟩ := h.laws l hl
    exact (hz2.ne z hz).2
  have mem : ∀ z ∈ wholeZ ls fs, ∃ l f w, l ∈ ls ∧ f ∈ fs ∧ w ∈ l ∧ z = (w.1, ftimes f w.2) := fun z hz => by
    unfold wholeZ at hz
    obtain ⟨x, hx, hz⟩ := List.mem_flatMap.mp hz
    obtain ⟨w, hw, rfl⟩ := List.mem_map.mp hz
    exact ⟨x.1, x.2, w, (List.of_mem_zip hx).1, (List.of_mem_zip hx).2, hw, rfl⟩
  refine ⟨fun z hz => ?_, fun z hz => ?_, ?_, ?_, Nat.mul_le_mul h.T1.1 hP.1, ?_⟩
  · obtain ⟨l, f, w, hl, hf, hw, rfl⟩ := mem z hz
    obtain ⟨_, S, _, hL⟩ := h.laws l hl
    exact hL.num w hw
  · obtain ⟨l, f, w, hl, hf, hw, rfl⟩ := mem z hz
    obtain ⟨_, S, hS, hL⟩ := h.laws l hl
    obtain ⟨a1, a2, a3, a4⟩ := h.shares f hf
    obtain ⟨b1, b2, b3⟩ := hL.ch w hw
    have e := rv_ftimes a1.ne b1.ne
    refine ⟨lo_low (Int.mul_ne_zero a1.ne b1.ne), ?_, ?_⟩
    · show DenB _ _ (rv (ftimes f w.2))
      rw [e]
      exact den_up hP hS (h.den.2 S hS).1 (a3.mul b2)
    · show 0 ≤ rv (ftimes f w.2)
      rw [e]
      exact Rat.mul_nonneg a4 b3
  · have e : ∀ l : List (Fr × Fr), sR (fun z => (fun _ : Fr => (1 : Rat)) z.1 * rv z.2) l = sR (fun z => rv z.2) l := fun l => sR_congr fun z _ => by show 1 * rv z.2 = _; grind
    have h1 := whole_sum (fun _ => 1) hfn hln
    rw [e] at h1
    rw [h1, sR_congr (g := fun x : List (Fr × Fr) × Fr => rv x.2) fun x hx => ?_, zip_fs fs rv ls h.len.1, h.one]
    obtain ⟨_, S, _, hL⟩ := h.laws x.1 (List.of_mem_zip hx).1
    rw [e, hL.sum]
    grind
  · have := whole_len ls fs fun l hl => (h.laws l hl).1
    have := h.len.2
    omega
  · rw [show (20 : Nat) = 4 + 16 from rfl, Nat.pow_add]
    exact Nat.mul_le_mul h.T1.2 hP.2
def meansZ (ls : List (List (Fr × Fr))) (fs : List Fr) : List (Fr × Fr) := (ls.zip fs).map fun x => (meanV x.1, x.2)
def varsZ (ls : List (List (Fr × Fr))) (fs : List Fr) : List (Fr × Fr) := (ls.zip fs).map fun x => (covV (x.1.map dupV), x.2)
/-- the mean of a mixture is the mean of the means -/
theorem MixOk.mean {Ss : List Nat} {T : Nat} {ls : List (List (Fr × Fr))} {fs : List Fr} (h : MixOk Ss T ls fs) : meanV (gathZ (wholeZ ls fs)) = meanV (meansZ ls fs) ∧ rv (meanV (meansZ ls fs)) = sR (fun x => rv x.2 * rv (meanV x.1)) (ls.zip fs) ∧ sR (fun z => rv z.1 * rv z.2) (gathZ (wholeZ ls fs)) = sR (fun x => rv x.2 * rv (meanV x.1)) (ls.zip fs) := by
  have hW := h.whole
  have hG := hW.gath (by decide) (by decide)
  have hfn : ∀ f ∈ fs, f.2 ≠ 0 := fun f hf => (h.shares f hf).1.ne
  have hln : ∀ l ∈ ls, ∀ z ∈ l, z.2.2 ≠ 0 := fun l hl z hz => by
    obtain ⟨_, S, _, hz2⟩ := h.laws l hl
    exact (hz2.ne z hz).2
  have hm : ∀ l ∈ ls, Low (meanV l) ∧ rv (meanV l) = sR (fun z => rv z.1 * rv z.2) l := fun l hl => by
    obtain ⟨_, S, _, hL⟩ := h.laws l hl
    exact rv_meanV hL.ne
  obtain ⟨a1, a2⟩ := rv_meanV hG.ne
  have hmz : ∀ z ∈ meansZ ls fs, z.1.2 ≠ 0 ∧ z.2.2 ≠ 0 := fun z hz => by
    obtain ⟨x, hx, rfl⟩ := List.mem_map.mp hz
    exact ⟨(hm x.1 (List.of_mem_zip hx).1).1.ne, hfn x.2 (List.of_mem_zip hx).2⟩
  obtain ⟨b1, b2⟩ := rv_meanV hmz
  have e3 : sR (fun z => rv z.1 * rv z.2) (gathZ (wholeZ ls fs)) = sR (fun x => rv x.2 * rv (meanV x.1)) (ls.zip fs) := by
    rw [gathZ_sum (fun z hz => (hW.ne z hz).2) rv, whole_sum rv hfn hln]
    exact sR_congr fun x hx => by rw [(hm x.1 (List.of_mem_zip hx).1).2]
  have e4 : rv (meanV (meansZ ls fs)) = sR (fun x => rv x.2 * rv (meanV x.1)) (ls.zip fs) := by
    rw [b2]
    unfold meansZ
    rw [sR_map]
    exact sR_congr fun x _ => by show rv (meanV x.1) * rv x.2 = _; grind
  exact ⟨low_eq a1 b1 (by rw [a2, e3, e4]), e4, e3⟩
/-- its variance, the mean of the variances and the variance of the means together -/
theorem MixOk.var {Ss : List Nat} {T : Nat} {ls : List (List (Fr × Fr))} {fs : List Fr} (h : MixOk Ss T ls fs) : covV ((gathZ (wholeZ ls fs)).map dupV) = fplus (meanV (varsZ ls fs)) (spreadV (meansZ ls fs)) := by
  have hW := h.whole
  have hG := hW.gath (by decide) (by decide)
  have hfn : ∀ f ∈ fs, f.2 ≠ 0 := fun f hf => (h.shares f hf).1.ne
  have hln : ∀ l ∈ ls, ∀ z ∈ l, z.2.2 ≠ 0 := fun l hl z hz => by
    obtain ⟨_, S, _, hz2⟩ := h.laws l hl
    exact (hz2.ne z hz).2
  have hm : ∀ l ∈ ls, Low (meanV l) ∧ rv (meanV l) = sR (fun z => rv z.1 * rv z.2) l := fun l hl => by
    obtain ⟨_, S, _, hL⟩ := h.laws l hl
    exact rv_meanV hL.ne
  have hv : ∀ l ∈ ls, Low (covV (l.map dupV)) ∧ rv (covV (l.map dupV)) = sR (fun z => rv z.1 * rv z.1 * rv z.2) l - rv (meanV l) * rv (meanV l) := fun l hl => by
    obtain ⟨_, S, _, hL⟩ := h.laws l hl
    rw [hL.var]
    obtain ⟨c1, c2⟩ := rv_spread hL.ne
    exact ⟨c1, by rw [c2, (hm l hl).2]⟩
  obtain ⟨_, m2, m3⟩ := h.mean
  rw [hG.var]
  obtain ⟨a1, a2⟩ := rv_spread hG.ne
  have hmz : ∀ z ∈ meansZ ls fs, z.1.2 ≠ 0 ∧ z.2.2 ≠ 0 := fun z hz => by
    obtain ⟨x, hx, rfl⟩ := List.mem_map.mp hz
    exact ⟨(hm x.1 (List.of_mem_zip hx).1).1.ne, hfn x.2 (List.of_mem_zip hx).2⟩
  have hvz : ∀ z ∈ varsZ ls fs, z.1.2 ≠ 0 ∧ z.2.2 ≠ 0 := fun z hz => by
    obtain ⟨x, hx, rfl⟩ := List.mem_map.mp hz
    exact ⟨(hv x.1 (List.of_mem_zip hx).1).1.ne, hfn x.2 (List.of_mem_zip hx).2⟩
  obtain ⟨b1, b2⟩ := rv_spread hmz
  obtain ⟨c1, c2⟩ := rv_meanV hvz
  obtain ⟨d1, d2⟩ := rv_meanV hmz
  have q1 : sR (fun z => rv z.1 * rv z.1 * rv z.2) (gathZ (wholeZ ls fs)) = sR (fun x => rv x.2 * sR (fun z => rv z.1 * rv z.1 * rv z.2) x.1) (ls.zip fs) := by
    rw [gathZ_sum (fun z hz => (hW.ne z hz).2) (fun g => rv g * rv g), whole_sum (fun g => rv g * rv g) hfn hln]
  have q2 : sR (fun z => rv z.1 * rv z.2) (varsZ ls fs) = sR (fun x => rv x.2 * sR (fun z => rv z.1 * rv z.1 * rv z.2) x.1) (ls.zip fs) + -1 * sR (fun x => rv x.2 * (rv (meanV x.1) * rv (meanV x.1))) (ls.zip fs) := by
    unfold varsZ
    rw [sR_map, ← sR_mul, ← sR_add]
    refine sR_congr fun x hx => ?_
    show rv (covV (x.1.map dupV)) * rv x.2 = _
    rw [(hv x.1 (List.of_mem_zip hx).1).2]
    grind
  have q3 : sR (fun z => rv z.1 * rv z.1 * rv z.2) (meansZ ls fs) = sR (fun x => rv x.2 * (rv (meanV x.1) * rv (meanV x.1))) (ls.zip fs) := by
    unfold meansZ
    rw [sR_map]
    exact sR_congr fun x _ => by show rv (meanV x.1) * rv (meanV x.1) * rv x.2 = _; grind
  refine low_eq a1 (fplus_low c1.ne b1.ne) ?_
  rw [a2, rv_fplus c1.ne b1.ne, c2, b2, ← d2, m2, m3, q1, q2, q3]
  grind
end facts12c

section facts12d
theorem LawZ.meanD {S : Nat} {l : List (Fr × Fr)} (h : LawZ S 8 4 l) : Low (meanV l) ∧ DenB (12 * S) 21 (rv (meanV l)) ∧ FrB 150 (meanV l) :=
  ⟨(h.terms (by decide) (by decide)).mean.1, (h.terms (by decide) (by decide)).mean.2, (h.terms (by decide) (by decide)).meanB (by decide) (by decide)⟩
theorem LawZ.sqD {S : Nat} {l : List (Fr × Fr)} (h : LawZ S 8 4 l) : DenB (144 * S) 28 (sR (fun z => rv z.1 * rv z.1 * rv z.2) l) := by
  unfold sR
  refine DenB.sum64 (n := 22) (by rw [List.length_map]; have := h.len; omega) fun x hx => ?_
  obtain ⟨z, hz, rfl⟩ := List.mem_map.mp hx
  have h1 := (num_ok (h.num z hz)).2.2
  exact (h1.mul h1).mul (h.ch z hz).2.1
theorem LawZ.covD {S : Nat} {l : List (Fr × Fr)} (h : LawZ S 8 4 l) : Low (covV (l.map dupV)) ∧ DenB (144 * S * S) 43 (rv (covV (l.map dupV))) ∧ FrB 150 (covV (l.map dupV)) := by
  rw [h.var]
  obtain ⟨a, b⟩ := rv_spread h.ne
  have hm := h.meanD
  have hm2 : rv (meanV l) = sR (fun z => rv z.1 * rv z.2) l := (rv_meanV h.ne).2
  have d1 : DenB (144 * S * S) 42 (sR (fun z => rv z.1 * rv z.1 * rv z.2) l) := (h.sqD.up h.D1.2).mono (by decide)
  have d2 : DenB (144 * S * S) 42 (sR (fun z => rv z.1 * rv z.2) l * sR (fun z => rv z.1 * rv z.2) l) := by
    have := hm.2.1.mul hm.2.1
    rw [hm2] at this
    rwa [show 12 * S * (12 * S) = 144 * S * S by rw [Nat.mul_mul_mul_comm, Nat.mul_assoc 144]] at this
  have d3 : DenB (144 * S * S) 43 (rv (spreadV l)) := by rw [b]; exact d1.sub d2
  refine ⟨a, d3, den_B (d := 16) a d3 (Nat.mul_le_mul (Nat.mul_le_mul (by decide : 1 ≤ 144) h.D1.1) h.D1.1) ?_ (by decide) (by decide)⟩
  rw [show (2 : Nat) ^ 16 = 2 ^ 8 * 2 ^ 4 * 2 ^ 4 by decide]
  exact Nat.mul_le_mul (Nat.mul_le_mul (by decide) h.D1.2) h.D1.2
theorem MixOk.meansT {Ss : List Nat} {T : Nat} {ls : List (List (Fr × Fr))} {fs : List Fr} (h : MixOk Ss T ls fs) : TermsOk (12 * T * prodN Ss) 39 24 (meansZ ls fs) := by
  have hP := h.P
  refine ⟨fun y hy => ?_, fun y hy => ?_, ?_, Nat.mul_le_mul (Nat.mul_le_mul (by decide : 1 ≤ 12) h.T1.1) hP.1, ?_⟩
  · obtain ⟨x, hx, rfl⟩ := List.mem_map.mp hy
    obtain ⟨_, S, _, hL⟩ := h.laws x.1 (List.of_mem_zip hx).1
    obtain ⟨a1, a2, a3, a4⟩ := h.shares x.2 (List.of_mem_zip hx).2
    exact ⟨hL.meanD.1.1, a1.1, hL.meanD.2.2.mono (by decide), a2.mono (by decide)⟩
  · obtain ⟨x, hx, rfl⟩ := List.mem_map.mp hy
    obtain ⟨_, S, hS, hL⟩ := h.laws x.1 (List.of_mem_zip hx).1
    obtain ⟨a1, a2, a3, a4⟩ := h.shares x.2 (List.of_mem_zip hx).2
    have h1 := hL.meanD.2.1.mul a3
    rw [show 12 * S * T = 12 * T * S by rw [Nat.mul_right_comm]] at h1
    exact den_up hP hS (h.den.2 S hS).1 h1
  · unfold meansZ
    rw [List.length_map, List.length_zip]
    have := h.len.2
    omega
  · rw [show (2 : Nat) ^ 24 = 2 ^ 4 * 2 ^ 4 * 2 ^ 16 by decide]
    exact Nat.mul_le_mul (Nat.mul_le_mul (by decide) h.T1.2) hP.2
theorem den_up2 {Ss : List Nat} {S T n : Nat} {x : Rat} (hP : 1 ≤ prodN Ss ∧ prodN Ss ≤ 2 ^ 16) (hS : S ∈ Ss) (h1 : 1 ≤ S) (h : DenB (144 * S * S * T) n x) : DenB (144 * T * prodN Ss * prodN Ss) (n + 32) x := by
  rw [show 144 * S * S * T = 144 * T * S * S by rw [Nat.mul_right_comm (144 * S), Nat.mul_right_comm 144]] at h
  have h2 := den_up (T := 144 * T * S) hP hS h1 h
  rw [Nat.mul_right_comm] at h2
  exact den_up (T := 144 * T * prodN Ss) hP hS h1 h2
theorem MixOk.varsT {Ss : List Nat} {T : Nat} {ls : List (List (Fr × Fr))} {fs : List Fr} (h : MixOk Ss T ls fs) : TermsOk (144 * T * prodN Ss * prodN Ss) 77 44 (varsZ ls fs) ∧ TermsOk (144 * T * prodN Ss * prodN Ss) 77 44 ((meansZ ls fs).map sqV) := by
  have hP := h.P
  have hD1 : 1 ≤ 144 * T * prodN Ss * prodN Ss := Nat.mul_le_mul (Nat.mul_le_mul (Nat.mul_le_mul (by decide : 1 ≤ 144) h.T1.1) hP.1) hP.1
  have hD2 : 144 * T * prodN Ss * prodN Ss ≤ 2 ^ 44 := by
    rw [show (2 : Nat) ^ 44 = 2 ^ 8 * 2 ^ 4 * 2 ^ 16 * 2 ^ 16 by decide]
    exact Nat.mul_le_mul (Nat.mul_le_mul (Nat.mul_le_mul (by decide) h.T1.2) hP.2) hP.2
  have hl : (ls.zip fs).length ≤ 64 := by
    rw [List.length_zip]
    have := h.len.2
    omega
  constructor
  · refine ⟨fun y hy => ?_, fun y hy => ?_, by unfold varsZ; rw [List.length_map]; exact hl, hD1, hD2⟩
    · obtain ⟨x, hx, rfl⟩ := List.mem_map.mp hy
      obtain ⟨_, S, _, hL⟩ := h.laws x.1 (List.of_mem_zip hx).1
      obtain ⟨a1, a2, a3, a4⟩ := h.shares x.2 (List.of_mem_zip hx).2
      exact ⟨hL.covD.1.1, a1.1, hL.covD.2.2.mono (by decide), a2.mono (by decide)⟩
    · obtain ⟨x, hx, rfl⟩ := List.mem_map.mp hy
      obtain ⟨_, S, hS, hL⟩ := h.laws x.1 (List.of_mem_zip hx).1
      obtain ⟨a1, a2, a3, a4⟩ := h.shares x.2 (List.of_mem_zip hx).2
      exact den_up2 hP hS (h.den.2 S hS).1 (hL.covD.2.1.mul a3)
  · refine ⟨fun y hy => ?_, fun y hy => ?_, by unfold meansZ; rw [List.length_map, List.length_map]; exact hl, hD1, hD2⟩
    · obtain ⟨w, hw, rfl⟩ := List.mem_map.mp hy
      obtain ⟨x, hx, rfl⟩ := List.mem_map.mp hw
      obtain ⟨_, S, _, hL⟩ := h.laws x.1 (List.of_mem_zip hx).1
      obtain ⟨a1, a2, a3, a4⟩ := h.shares x.2 (List.of_mem_zip hx).2
      have hm := hL.meanD
      exact ⟨(lo_low (Int.mul_ne_zero hm.1.ne hm.1.ne)).1, a1.1, (ftimes_B hm.2.2 hm.2.2 hm.1.ne hm.1.ne).mono (by decide), a2.mono (by decide)⟩
    · obtain ⟨w, hw, rfl⟩ := List.mem_map.mp hy
      obtain ⟨x, hx, rfl⟩ := List.mem_map.mp hw
      obtain ⟨_, S, hS, hL⟩ := h.laws x.1 (List.of_mem_zip hx).1
      obtain ⟨a1, a2, a3, a4⟩ := h.shares x.2 (List.of_mem_zip hx).2
      have hm := hL.meanD
      have h1 := (hm.2.1.mul hm.2.1).mul a3
      rw [show 12 * S * (12 * S) = 144 * S * S by rw [Nat.mul_mul_mul_comm, Nat.mul_assoc 144]] at h1
      show DenB _ _ (rv (ftimes (meanV x.1) (meanV x.1)) * rv x.2)
      rw [rv_ftimes hm.1.ne hm.1.ne]
      exact (den_up2 hP hS (h.den.2 S hS).1 h1).mono (by decide)
theorem MixOk.spread {Ss : List Nat} {T : Nat} {ls : List (List (Fr × Fr))} {fs : List Fr} (h : MixOk Ss T ls fs) : SpreadOk (meansZ ls fs) ∧ FrB 500 (spreadV (meansZ ls fs)) ∧ 1 ≤ (spreadV (meansZ ls fs)).2 ∧ FrB 150 (meanV (varsZ ls fs)) ∧ 1 ≤ (meanV (varsZ ls fs)).2 := by
  have t := h.meansT
  obtain ⟨v, q⟩ := h.varsT
  have m := t.mean
  have b := t.meanB (k := 150) (by decide) (by decide)
  have bq := q.meanB (k := 150) (by decide) (by decide)
  have bm := ftimes_B b b m.1.ne m.1.ne
  have hs := (lo_low (p := (meanV (meansZ ls fs)).1 * (meanV (meansZ ls fs)).1) (Int.mul_ne_zero m.1.ne m.1.ne)).ne
  refine ⟨⟨q.lmeanV (by decide) (by decide), t.lmeanV (by decide) (by decide), by have := t.len; omega, ⟨150, 300, bq, bm, by decide⟩, b.mono (by decide), m.1.1, q.mean.1.1⟩, ?_, ?_, v.meanB (by decide) (by decide), v.mean.1.1⟩
  · unfold spreadV
    exact (fsub_B bq bm q.mean.1.ne hs).mono (by decide)
  · unfold spreadV
    exact (fsub_low q.mean.1.ne hs).1
end facts12d

section conv12
variable {K : PySem.W.Frag}
open LamX hiding takes0
open LamK
/-! one object, read in several ways -/
theorem frV_key {H : Hp} {b : Addr} {g : Fr} (h : H b = some (.tup ((keyOf g).map kV))) : FrAt K H b g := tupT h
/-- a gathered row as a pair of fractions -/
def GRow.p (x : GRow) : PRow := ⟨x.a, x.b, x.c, numOf x.k, x.f⟩
def GRow.l (x : GRow) : LRow := ⟨x.a, .ref x.b, GT.keyD x.k, x.c, x.f⟩
def NumKey (k : List Key) : Prop := ∃ g : Fr, k = keyOf g
theorem GRowAt.p {H : Hp} {x : GRow} (h : GRowAt K H x) (hk : NumKey x.k) : PRowAt K H x.p := by
  obtain ⟨g, hg⟩ := hk
  refine ⟨h.tup, ?_, h.fr⟩
  show FrAt K H x.b (numOf x.k)
  have h2 := h.key
  rw [hg] at h2 ⊢
  exact frV_key h2
theorem GRowAt.l {H : Hp} {x : GRow} (h : GRowAt K H x) : LRowAt K H x.l := ⟨h.tup, GT.dp_key h.key, h.fr, key_ok h.ok⟩
theorem grow_p (gs : List GRow) : gs.map GRow.r = (gs.map GRow.p).map PRow.r := by rw [List.map_map]; rfl
theorem grow_l (gs : List GRow) : gs.map GRow.r = (gs.map GRow.l).map LRow.r := by rw [List.map_map]; rfl
theorem grow_pv (gs : List GRow) : (gs.map GRow.p).map PRow.v = (gs.map GRow.kf).map zOf := by rw [List.map_map, List.map_map]; rfl
theorem grow_ld (gs : List GRow) : (gs.map GRow.l).map LRow.dat = (gs.map GRow.kf).map emb := by rw [List.map_map, List.map_map]; rfl
/-- a row of law_from whose outcome is a number, as a pair -/
theorem lrow_p {H : Hp} {r : LRow} (h : LRowAt K H r) {g : Fr} (hd : r.d = GT.keyD (keyOf g)) : ∃ b, r.v = .ref b ∧ PRowAt K H ⟨r.a, b, r.c, g, r.f⟩ := by
  have hp := h.dp
  rw [hd] at hp
  unfold GT.keyD at hp
  obtain ⟨v, ev⟩ : ∃ v, r.v = v := ⟨_, rfl⟩
  rw [ev] at hp
  cases hp with
  | tup hs hr =>
    rename_i b xs
    have e : xs = frV g := by
      cases hr with
      | cons h1 t1 => cases t1 with
        | cons h2 t2 => cases t2 with
          | nil =>
            cases h1
            cases h2
            rfl
    subst e
    refine ⟨b, ev, ?_, hs, h.fr⟩
    have := h.tup
    rw [ev] at this
    exact this
/-- told rows as pairs -/
theorem lrows_p {H : Hp} : ∀ {rs : List LRow} {zs : List (Fr × Fr)}, (∀ r ∈ rs, LRowAt K H r) → rs.map LRow.dat = (zs.map kfOf).map emb → ∃ ps : List PRow, rs.map LRow.r = ps.map PRow.r ∧ (∀ p ∈ ps, PRowAt K H p) ∧ ps.map PRow.v = zs
  | [], [], _, _ => ⟨[], rfl, by simp, rfl⟩
  | [], z :: zs, _, h => by simp at h
  | r :: rs, [], _, h => by simp at h
  | r :: rs, z :: zs, hA, h => by
    rw [List.map_cons, List.map_cons, List.map_cons] at h
    obtain ⟨h1, h2⟩ := List.cons.inj h
    obtain ⟨ps, e1, e2, e3⟩ := lrows_p (rs := rs) (zs := zs) (fun x hx => hA x (by simp [hx])) h2
    have hd : r.d = GT.keyD (keyOf z.1) := congrArg Prod.fst h1
    have hf : r.f = z.2 := congrArg Prod.snd h1
    obtain ⟨b, eb, hp⟩ := lrow_p (hA r (by simp)) hd
    refine ⟨⟨r.a, b, r.c, z.1, r.f⟩ :: ps, by rw [List.map_cons, List.map_cons, e1]; rfl, fun p hp2 => ?_, ?_⟩
    · rcases List.mem_cons.mp hp2 with rfl | hp2
      · exact hp
      · exact e2 p hp2
    · rw [List.map_cons, e3]
      show (z.1, r.f) :: zs = z :: zs
      rw [hf]
/-- gathered rows as numbers -/
theorem gath_numKey {zs : List (Fr × Fr)} (hl : ∀ z ∈ zs, z.2.2 ≠ 0) {gs : List GRow} (e : gs.map GRow.kf = gathOf (zs.map kfOf)) : (∀ x ∈ gs, NumKey x.k) ∧ (gs.map GRow.p).map PRow.v = gathZ zs := by
  refine ⟨fun x hx => ?_, by rw [grow_pv, e]; rfl⟩
  have hm : x.kf ∈ gathOf (zs.map kfOf) := by rw [← e]; exact List.mem_map_of_mem hx
  obtain ⟨a, _⟩ := gath_mem (xs := zs.map kfOf) (fun y hy => by obtain ⟨z, hz, rfl⟩ := List.mem_map.mp hy; exact hl z hz) hm
  obtain ⟨y, hy, e2⟩ := List.mem_map.mp a
  obtain ⟨z, _, rfl⟩ := List.mem_map.mp hy
  exact ⟨z.1, e2.symm⟩
end conv12

section obj12
variable {K : PySem.W.Frag}
open LamX hiding takes0
open LamK
def rowZ (z : Fr × Fr) : PyData := .tuple [frD z.1, frD z.2]
theorem dpP {H : Hp} {p : PRow} (h : PRowAt K H p) : Dp K H p.r (rowZ p.v) := .tup h.tup (.cons (dpF h.num) (.cons (dpF h.fr) .nil))
theorem dpPs {H : Hp} : ∀ {ps : List PRow}, (∀ p ∈ ps, PRowAt K H p) → DpAll K H (ps.map PRow.r) ((ps.map PRow.v).map rowZ)
  | [], _ => .nil
  | p :: ps, h => .cons (dpP (h p (by simp))) (dpPs fun x hx => h x (by simp [hx]))
theorem layZ : ∀ zs : List (Fr × Fr), PyData.canLayAll0 (zs.map rowZ) = true
  | [] => by simp [PyData.canLayAll0]
  | z :: r => by simp [PyData.canLayAll0, rowZ, PyData.canLay0, frD, layZ r]
theorem depthZ : ∀ zs : List (Fr × Fr), PyData.depthAll (zs.map rowZ) ≤ 2
  | [] => by simp [PyData.depthAll]
  | z :: r => by
    have := depthZ r
    simp [PyData.depthAll, rowZ, PyData.depth, frD]
    exact Nat.max_le.mpr ⟨by omega, this⟩
theorem neP {H : Hp} {Q : VK} {a b : Addr} {zs : List (Fr × Fr)} (h : PRows K H a zs) (g : PRows K H b zs) (q : Q (.bl false) H) : rNeD K (.ref a) (.ref b) H Q := by
  obtain ⟨ps, e1, A1, v1⟩ := h
  obtain ⟨qs, e2, A2, v2⟩ := g
  have d1 := dpPs A1
  have d2 := dpPs A2
  rw [v1] at d1
  rw [v2] at d2
  have sh : SeqAt.shaped (.list (zs.map rowZ)) = true := by
    have h3 := depthZ zs
    simp only [SeqAt.shaped, PyData.canLay0, PyData.depth, layZ, Bool.true_and]
    exact decide_eq_true (by omega)
  exact ⟨_, _, .lst (lstL e1) d1, .lst (lstL e2) d2, sh, sh, by
    rw [SeqAt.eqv_refl (.list (zs.map rowZ)) (by simp only [PyData.canLay0]; exact layZ zs)]
    exact q⟩
/-- a gathered law: its list at a -/
structure LO where
  a : Addr
  gs : List GRow
  S : Nat
def LO.r (o : LO) : V := .ref o.a
def LO.z (o : LO) : List (Fr × Fr) := (o.gs.map GRow.p).map PRow.v
structure LOAt (K : PySem.W.Frag) (H : Hp) (o : LO) : Prop where
  here : H o.a = some (.lst (o.gs.map GRow.r))
  rows : ∀ g ∈ o.gs, GRowAt K H g
  num : ∀ g ∈ o.gs, NumKey g.k
  law : LawZ o.S 8 4 o.z
  len : o.z.length ≤ 4
theorem LOAt.kp0 {H H' : Hp} {o : LO} (h : LOAt K H o) (k : Kp [] H H') : LOAt K H' o := ⟨k.get nin0 h.here, fun g hg => (h.rows g hg).kp0 k, h.num, h.law, h.len⟩
theorem deck_ne {H : Hp} {a p b : Addr} (d : DeckOk H a p) {rs : List Addr} (h : H b = some (.lst (rs.map V.ref))) : b ≠ a := fun z => by
  obtain ⟨_, i, r, s, ha, _⟩ := d
  rw [z, ha] at h
  have h1 := HO.lst.inj (Option.some.inj h)
  cases rs with
  | nil => simp at h1
  | cons x rs => cases rs with
    | nil => simp at h1
    | cons y rs => simp at h1
theorem LOAt.kpd {H H' : Hp} {o : LO} {a p : Addr} (h : LOAt K H o) (d : DeckOk H a p) (k : Kp [a] H H') : LOAt K H' o :=
  ⟨k.get (nin1 (deck_ne d (rs := o.gs.map GRow.a) (by rw [h.here, List.map_map]; rfl))) h.here, fun g hg => (h.rows g hg).kpM k d.nt, h.num, h.law, h.len⟩
theorem LOAt.put {H : Hp} {o : LO} {D : Addr} {xs ys : List V} (h : LOAt K H o) (e : H D = some (.lst xs)) (n : o.a ≠ D) : LOAt K (upd H D (.lst ys)) o :=
  have kD : Kp [D] H (upd H D (.lst ys)) := Kp.put (by simp)
  ⟨(upd_ne n).trans h.here, fun g hg => (h.rows g hg).kpM kD (noT e fun xs => ⟨by simp, by simp⟩), h.num, h.law, h.len⟩
theorem LOAt.ps {H : Hp} {o : LO} (h : LOAt K H o) : PRows K H o.a o.z := ⟨o.gs.map GRow.p, by rw [h.here, grow_p], fun p hp => by
  obtain ⟨g, hg, rfl⟩ := List.mem_map.mp hp
  exact (h.rows g hg).p (h.num g hg), rfl⟩
/-- lists of rows whose outcomes are numbers -/
structure GZ (K : PySem.W.Frag) (H : Hp) (l : Addr) (gs : List GRow) (zs : List (Fr × Fr)) : Prop where
  here : H l = some (.lst (gs.map GRow.r))
  rows : ∀ g ∈ gs, GRowAt K H g ∧ NumKey g.k
  vals : (gs.map GRow.p).map PRow.v = zs
theorem GZ.kp0 {H H' : Hp} {l : Addr} {gs : List GRow} {zs : List (Fr × Fr)} (h : GZ K H l gs zs) (k : Kp [] H H') : GZ K H' l gs zs := ⟨k.get nin0 h.here, fun g hg => ⟨(h.rows g hg).1.kp0 k, (h.rows g hg).2⟩, h.vals⟩
theorem GZ.len {H : Hp} {l : Addr} {gs : List GRow} {zs : List (Fr × Fr)} (h : GZ K H l gs zs) : gs.length = zs.length := by rw [← h.vals, List.length_map, List.length_map]
theorem GZ.kf {H : Hp} {l : Addr} {gs : List GRow} {zs : List (Fr × Fr)} (h : GZ K H l gs zs) : gs.map GRow.kf = zs.map kfOf := by
  rw [← h.vals, List.map_map, List.map_map]
  refine List.map_congr_left fun g hg => ?_
  obtain ⟨x, hx⟩ := (h.rows g hg).2
  show (g.k, g.f) = (keyOf (numOf g.k), g.f)
  rw [hx]
  rfl
theorem GZ.ps {H : Hp} {l : Addr} {gs : List GRow} {zs : List (Fr × Fr)} (h : GZ K H l gs zs) : PRows K H l zs := ⟨gs.map GRow.p, by rw [h.here, grow_p], fun p hp => by
  obtain ⟨g, hg, rfl⟩ := List.mem_map.mp hp
  exact (h.rows g hg).1.p (h.rows g hg).2, h.vals⟩
theorem LOAt.gz {H : Hp} {o : LO} (h : LOAt K H o) : GZ K H o.a o.gs o.z := ⟨h.here, fun g hg => ⟨h.rows g hg, h.num g hg⟩, rfl⟩
def scaleZ (f : Fr) (zs : List (Fr × Fr)) : List (Fr × Fr) := zs.map fun z => (z.1, ftimes f z.2)
def wholeT (ls : List (List (Fr × Fr))) (fs : List Fr) (i : Nat) : List (Fr × Fr) := ((ls.zip fs).take i).flatMap fun x => scaleZ x.2 x.1
theorem wholeT_snoc {ls : List (List (Fr × Fr))} {fs : List Fr} {i : Nat} {l : List (Fr × Fr)} {f : Fr} (h1 : ls[i]? = some l) (h2 : fs[i]? = some f) : wholeT ls fs (i + 1) = wholeT ls fs i ++ scaleZ f l := by
  unfold wholeT
  rw [List.take_add_one, (List.getElem?_zip_eq_some (z := (l, f))).mpr ⟨h1, h2⟩, List.flatMap_append]
  show _ ++ (scaleZ f l ++ []) = _
  rw [List.append_nil]
theorem wholeT_all {ls : List (List (Fr × Fr))} {fs : List Fr} (h : ls.length = fs.length) : wholeT ls fs ls.length = wholeZ ls fs := by
  unfold wholeT wholeZ
  rw [List.take_of_length_le (by rw [List.length_zip, h, Nat.min_self]; exact Nat.le_refl _)]
  rfl
end obj12

section ext12
variable {K : PySem.W.Frag}
open LamX hiding takes0
open LamK
theorem FrAt.ext {H H' : Hp} {a : Addr} {f : Fr} (h : FrAt K H a f) (e : ExtN H H') : FrAt K H' a f := ext_tup e h
theorem FrsAt.ext {H H' : Hp} {as : List Addr} {fs : List Fr} (h : FrsAt K H as fs) (e : ExtN H H') : FrsAt K H' as fs := by
  induction h with
  | nil => exact .nil
  | cons r t ih => exact .cons (FrAt.ext r e) ih
theorem PRowAt.ext {H H' : Hp} {p : PRow} (h : PRowAt K H p) (e : ExtN H H') : PRowAt K H' p := ⟨ext_tup e h.tup, FrAt.ext h.num e, FrAt.ext h.fr e⟩
theorem GRowAt.ext {H H' : Hp} {g : GRow} (h : GRowAt K H g) (e : ExtN H H') : GRowAt K H' g := ⟨ext_tup e h.tup, ext_get e h.key, FrAt.ext h.fr e, h.ok⟩
theorem PRows.ext {H H' : Hp} {D : Addr} {zs : List (Fr × Fr)} (h : PRows K H D zs) (e : ExtN H H') : PRows K H' D zs := let ⟨ps, x, A, v⟩ := h; ⟨ps, ext_get e x, fun p hp => (A p hp).ext e, v⟩
theorem GZ.ext {H H' : Hp} {l : Addr} {gs : List GRow} {zs : List (Fr × Fr)} (h : GZ K H l gs zs) (e : ExtN H H') : GZ K H' l gs zs := ⟨ext_get e h.here, fun g hg => ⟨(h.rows g hg).1.ext e, (h.rows g hg).2⟩, h.vals⟩
theorem LOAt.ext {H H' : Hp} {o : LO} (h : LOAt K H o) (e : ExtN H H') : LOAt K H' o := ⟨ext_get e h.here, fun g hg => (h.rows g hg).ext e, h.num, h.law, h.len⟩
theorem DeckOk.ext {H H' : Hp} {a p : Addr} (d : DeckOk H a p) (e : ExtN H H') : DeckOk H' a p := let ⟨ns, i, r, s, ha, hp, hne⟩ := d; ⟨ns, i, r, s, ext_get e ha, ext_get e hp, hne⟩
def LO.part (o : LO) : Part := ⟨o.a, o.gs.map GRow.l⟩
theorem LOAt.part {H : Hp} {o : LO} (h : LOAt K H o) : PartAt K H o.part := ⟨lstL (by show H o.a = some (.lst ((o.gs.map GRow.l).map LRow.r)); rw [h.here, grow_l]), fun r hr => by
  obtain ⟨g, hg, rfl⟩ := List.mem_map.mp hr
  exact (h.rows g hg).l⟩
theorem part_r (os : List LO) : os.map LO.r = (os.map LO.part).map Part.r := by rw [List.map_map]; rfl
theorem mix_whole : ∀ (os : List LO) (fs : List Fr), (∀ o ∈ os, ∀ g ∈ o.gs, NumKey g.k) → mixD (os.map LO.part) fs = ((wholeZ (os.map LO.z) fs).map kfOf).map emb
  | [], fs, _ => by unfold mixD wholeZ; simp
  | o :: os, [], _ => by unfold mixD wholeZ; simp
  | o :: os, f :: fs, h => by
    have ih := mix_whole os fs fun x hx => h x (by simp [hx])
    unfold mixD wholeZ at ih ⊢
    rw [List.map_cons, List.map_cons, List.zip_cons_cons, List.zip_cons_cons, List.flatMap_cons, List.flatMap_cons, List.map_append, List.map_append, ih]
    congr 1
    show scaleD f o.part = _
    unfold scaleD LO.part LO.z
    rw [List.map_map, List.map_map, List.map_map, List.map_map, List.map_map]
    refine List.map_congr_left fun g hg => ?_
    obtain ⟨x, hx⟩ := h o (by simp) g hg
    show (GT.keyD g.k, ftimes f g.f) = (GT.keyD (keyOf (numOf g.k)), ftimes f g.f)
    rw [hx]
    rfl
end ext12

section ref12
def halfF (f : Fr) : Fr := ftimes f (1, 2)
theorem rv_half' : rv (1, 2) = 1 / 2 := by unfold rv; grind
theorem rv_third : rv (1, 3) = 1 / 3 := by unfold rv; grind
theorem half_bad {T : Nat} {fs : List Fr} (h : ∀ f ∈ fs, Low f ∧ FrB 5 f ∧ DenB T 2 (rv f) ∧ 0 ≤ rv f) (h1 : sR rv fs = 1) (hT : 1 ≤ T ∧ T ≤ 2 ^ 4) (hl : fs.length ≤ 4) : SumOk (fs.map halfF) ∧ chOkB (fs.map halfF) = false := by
  have hh : ∀ f ∈ fs, Low (halfF f) ∧ rv (halfF f) = rv f * (1 / 2) := fun f hf => by
    obtain ⟨a, _, _, _⟩ := h f hf
    refine ⟨lo_low (Int.mul_ne_zero a.ne (by decide)), ?_⟩
    unfold halfF
    rw [rv_ftimes a.ne (by decide), rv_half']
  have hd2 : DenB 2 0 (1 / 2) := ⟨1, by have : ((1 : Int) : Rat) = 1 := by exact_mod_cast rfl
                                        have e2 : ((2 : Nat) : Rat) = 2 := by exact_mod_cast rfl
                                        rw [this, e2]; grind, by decide⟩
  refine ⟨fs_sumOk (D := T * 2) (n := 2) (d := 5) (by rw [List.length_map]; omega) (fun g hg => ?_) ⟨by omega, by omega⟩ (by decide) (by decide), ch_refused (fun g hg => ?_) ?_⟩
  · obtain ⟨f, hf, rfl⟩ := List.mem_map.mp hg
    refine ⟨(hh f hf).1, ?_⟩
    rw [(hh f hf).2]
    exact (h f hf).2.2.1.mul hd2
  · obtain ⟨f, hf, rfl⟩ := List.mem_map.mp hg
    exact (hh f hf).1.ne
  · rw [sR_map, sR_congr (g := fun f => (1 / 2) * rv f) fun f hf => by rw [(hh f hf).2]; grind, sR_mul, h1]
    grind
theorem more_bad {T n : Nat} {fs : List Fr} (h : ∀ f ∈ fs, Low f ∧ FrB 5 f ∧ DenB T 2 (rv f) ∧ 0 ≤ rv f) (h1 : sR rv fs = 1) (hT : 1 ≤ T ∧ T ≤ 2 ^ 4) (hl : fs.length ≤ 4) (hn : n ≤ 4) : SumOk (fs ++ List.replicate n (0, 1) ++ [(1, 3)]) ∧ chOkB (fs ++ List.replicate n (0, 1) ++ [(1, 3)]) = false := by
  have mem : ∀ g ∈ fs ++ List.replicate n ((0, 1) : Fr) ++ [(1, 3)], g ∈ fs ∨ g = (0, 1) ∨ g = (1, 3) := fun g hg => by
    rcases List.mem_append.mp hg with hg | hg
    · rcases List.mem_append.mp hg with hg | hg
      · exact .inl hg
      · exact .inr (.inl (List.eq_of_mem_replicate hg))
    · exact .inr (.inr (List.mem_singleton.mp hg))
  have low : ∀ g ∈ fs ++ List.replicate n ((0, 1) : Fr) ++ [(1, 3)], Low g ∧ DenB (T * 3) 4 (rv g) := fun g hg => by
    rcases mem g hg with hg | rfl | rfl
    · obtain ⟨a, _, b, _⟩ := h g hg
      exact ⟨a, b.up (by decide : 3 ≤ 2 ^ 2)⟩
    · exact ⟨low01, ⟨0, by rw [rv_zero]; have : ((0 : Int) : Rat) = 0 := by exact_mod_cast rfl
                           rw [this]; grind, by decide⟩⟩
    · refine ⟨⟨by decide, by decide⟩, ⟨(T : Int), ?_, by omega⟩⟩
      rw [rv_third]
      have e : ((T * 3 : Nat) : Rat) = (T : Rat) * 3 := by exact_mod_cast rfl
      have e2 : (((T : Nat) : Int) : Rat) = (T : Rat) := by exact_mod_cast rfl
      rw [e, e2]
      grind
  refine ⟨fs_sumOk (D := T * 3) (n := 4) (d := 6) (by rw [List.length_append, List.length_append, List.length_replicate]; simp; omega) low ⟨by omega, by omega⟩ (by decide) (by decide), ch_refused (fun g hg => (low g hg).1.ne) ?_⟩
  have hz : sR rv (List.replicate n ((0, 1) : Fr)) = 0 := by
    induction n with
    | zero => rfl
    | succ k ih =>
      rw [List.replicate_succ, sR_cons, rv_zero]
      have := ih (by omega) (fun g hg => by
        rcases List.mem_append.mp hg with hg | hg
        · rcases List.mem_append.mp hg with hg | hg
          · exact .inl hg
          · exact .inr (.inl (List.eq_of_mem_replicate hg))
        · exact .inr (.inr (List.mem_singleton.mp hg))) (fun g hg => low g (by
        rcases List.mem_append.mp hg with hg | hg
        · rcases List.mem_append.mp hg with hg | hg
          · simp [hg]
          · rw [List.eq_of_mem_replicate hg]; simp
        · simp [List.mem_singleton.mp hg]))
      rw [this]
      grind
  rw [sR_app, sR_app, hz, h1, sR_cons, sR_nil, rv_third]
  grind
end ref12
section ref12b
theorem join_len : ∀ (zs ys : List (Fr × Fr)), (joinV zs ys).length = zs.length * ys.length
  | [], ys => by unfold joinV; simp
  | z :: zs, ys => by
    have ih := join_len zs ys
    unfold joinV at ih ⊢
    rw [List.flatMap_cons, List.length_append, ih, List.length_cons, Nat.succ_mul]
    unfold joinOne
    rw [List.length_map, Nat.add_comm]
theorem trip_join {D E n m d e : Nat} {zs ys : List (Fr × Fr)} (h : LawZ D n d zs) (g : LawZ E m e ys) (hn : n + m ≤ 40) (hd : d + e ≤ 40) (hl : ys.length ≤ 4) : TripOk 12 7 4 (D * E) (n + m) (d + e) (joinV zs ys) := by
  have mem : ∀ j ∈ joinV zs ys, ∃ z y, z ∈ zs ∧ y ∈ ys ∧ j = (z.1, y.1, ftimes z.2 y.2) := fun j hj => by
    unfold joinV joinOne at hj
    obtain ⟨z, hz, hj⟩ := List.mem_flatMap.mp hj
    obtain ⟨y, hy, rfl⟩ := List.mem_map.mp hj
    exact ⟨z, y, hz, hy, rfl⟩
  have hD : 1 ≤ D * E ∧ D * E ≤ 2 ^ (d + e) := ⟨Nat.mul_le_mul h.D1.1 g.D1.1, by rw [Nat.pow_add]; exact Nat.mul_le_mul h.D1.2 g.D1.2⟩
  have ch : ∀ z ∈ zs, ∀ y ∈ ys, Low (ftimes z.2 y.2) ∧ DenB (D * E) (n + m) (rv (ftimes z.2 y.2)) := fun z hz y hy => by
    obtain ⟨a1, a2, _⟩ := h.ch z hz
    obtain ⟨b1, b2, _⟩ := g.ch y hy
    refine ⟨lo_low (Int.mul_ne_zero a1.ne b1.ne), ?_⟩
    rw [rv_ftimes a1.ne b1.ne]
    exact a2.mul b2
  refine ⟨fun j hj => ?_, fun j hj => ?_, fun j hj => ?_, fun j hj => ?_, ?_, by decide, hD, by omega⟩
  · obtain ⟨z, y, hz, hy, rfl⟩ := mem j hj
    have h1 := num_ok (h.num z hz)
    have h2 := num_ok (g.num y hy)
    obtain ⟨c1, c2⟩ := ch z hz y hy
    exact ⟨h1.1.1, h2.1.1, c1.1, h1.2.1.mono (by decide), h2.2.1.mono (by decide), (den_B (k := 41) c1 c2 hD.1 hD.2 (by omega) (by omega)).mono (by decide)⟩
  · obtain ⟨z, y, hz, hy, rfl⟩ := mem j hj
    exact (num_ok (h.num z hz)).2.2
  · obtain ⟨z, y, hz, hy, rfl⟩ := mem j hj
    exact (num_ok (g.num y hy)).2.2
  · obtain ⟨z, y, hz, hy, rfl⟩ := mem j hj
    exact (ch z hz y hy).2
  · rw [join_len]
    have := Nat.mul_le_mul h.len hl
    omega
end ref12b
section ref12c
def prodV (z : Fr × Fr × Fr) : Fr × Fr := (ftimes z.1 z.2.1, z.2.2)
/-- rows with second numbers -/
structure SecOk (D n d : Nat) (zs : List (Fr × Fr)) (ws : List (Fr × Fr × Fr)) : Prop where
  one : ws.map oneV = zs
  two : ∀ z ∈ ws, NumOk z.2.1
  law : LawZ D n d zs
theorem SecOk.at {D n d : Nat} {zs : List (Fr × Fr)} {ws : List (Fr × Fr × Fr)} (h : SecOk D n d zs ws) {z : Fr × Fr × Fr} (hz : z ∈ ws) : NumOk z.1 ∧ NumOk z.2.1 ∧ Low z.2.2 ∧ DenB D n (rv z.2.2) := by
  have hm : oneV z ∈ zs := by rw [← h.one]; exact List.mem_map_of_mem hz
  exact ⟨h.law.num _ hm, h.two z hz, (h.law.ch _ hm).1, (h.law.ch _ hm).2.1⟩
theorem SecOk.len {D n d : Nat} {zs : List (Fr × Fr)} {ws : List (Fr × Fr × Fr)} (h : SecOk D n d zs ws) : ws.length ≤ 16 := by
  have := h.law.len
  rw [← h.one, List.length_map] at this
  exact this
theorem SecOk.trip {D n d : Nat} {zs : List (Fr × Fr)} {ws : List (Fr × Fr × Fr)} (h : SecOk D n d zs ws) (hn : n ≤ 40) (hd : d ≤ 40) : TripOk 12 7 4 D n d ws := by
  refine ⟨fun z hz => ?_, fun z hz => (num_ok (h.at hz).1).2.2, fun z hz => (num_ok (h.at hz).2.1).2.2, fun z hz => (h.at hz).2.2.2, by have := h.len; omega, by decide, h.law.D1, by omega⟩
  obtain ⟨a, b, c, e⟩ := h.at hz
  have h1 := num_ok a
  have h2 := num_ok b
  exact ⟨h1.1.1, h2.1.1, c.1, h1.2.1.mono (by decide), h2.2.1.mono (by decide), (den_B (k := 41) c e h.law.D1.1 h.law.D1.2 (by omega) (by omega)).mono (by decide)⟩
theorem SecOk.ne {D n d : Nat} {zs : List (Fr × Fr)} {ws : List (Fr × Fr × Fr)} (h : SecOk D n d zs ws) : NeZ ws := fun z hz => by
  obtain ⟨a, b, c, _⟩ := h.at hz
  exact ⟨(num_ok a).1.ne, (num_ok b).1.ne, c.ne⟩
theorem SecOk.terms2 {D n d : Nat} {zs : List (Fr × Fr)} {ws : List (Fr × Fr × Fr)} (h : SecOk D n d zs ws) (hn : n ≤ 40) (hd : d ≤ 40) : TermsOk (12 * D) (7 + n) (4 + d) (ws.map twoV) ∧ TermsOk (12 * 12 * D) (7 + 7 + n) (4 + 4 + d) (ws.map prodV) := by
  have hl := h.len
  constructor
  · refine ⟨fun y hy => ?_, fun y hy => ?_, by rw [List.length_map]; omega, Nat.mul_le_mul (by decide : 1 ≤ 12) h.law.D1.1, by rw [Nat.pow_add]; exact Nat.mul_le_mul (by decide) h.law.D1.2⟩
    all_goals
      obtain ⟨z, hz, rfl⟩ := List.mem_map.mp hy
      obtain ⟨a, b, c, e⟩ := h.at hz
      have h2 := num_ok b
    · exact ⟨h2.1.1, c.1, h2.2.1.mono (by decide), (den_B (k := 41) c e h.law.D1.1 h.law.D1.2 (by omega) (by omega)).mono (by decide)⟩
    · exact h2.2.2.mul e
  · refine ⟨fun y hy => ?_, fun y hy => ?_, by rw [List.length_map]; omega, Nat.mul_le_mul (by decide : 1 ≤ 12 * 12) h.law.D1.1, by rw [Nat.pow_add, Nat.pow_add]; exact Nat.mul_le_mul (by decide) h.law.D1.2⟩
    all_goals
      obtain ⟨z, hz, rfl⟩ := List.mem_map.mp hy
      obtain ⟨a, b, c, e⟩ := h.at hz
      have h1 := num_ok a
      have h2 := num_ok b
    · exact ⟨(lo_low (Int.mul_ne_zero h1.1.ne h2.1.ne)).1, c.1, (ftimes_B h1.2.1 h2.2.1 h1.1.ne h2.1.ne).mono (by decide), (den_B (k := 41) c e h.law.D1.1 h.law.D1.2 (by omega) (by omega)).mono (by decide)⟩
    · show DenB _ _ (rv (ftimes z.1 z.2.1) * rv z.2.2)
      rw [rv_ftimes h1.1.ne h2.1.ne]
      exact (h1.2.2.mul h2.2.2).mul e
theorem SecOk.cov {D n d : Nat} {zs : List (Fr × Fr)} {ws : List (Fr × Fr × Fr)} (h : SecOk D n d zs ws) : covV ws = fsub (meanV (ws.map prodV)) (ftimes (meanV (ws.map oneV)) (meanV (ws.map twoV))) := by
  have hN := h.ne
  have h1 : sR (fun z : Fr × Fr × Fr => rv z.2.2) ws = 1 := by
    have := h.law.sum
    rw [← h.one, sR_map] at this
    exact this
  obtain ⟨a1, a2⟩ := rv_cov hN h1
  obtain ⟨b1, b2⟩ := rv_one' hN
  obtain ⟨c1, c2⟩ := rv_two hN
  have hp := rv_meanV (zs := ws.map prodV) fun y hy => by
    obtain ⟨z, hz, rfl⟩ := List.mem_map.mp hy
    obtain ⟨x1, x2, x3⟩ := hN z hz
    exact ⟨(lo_low (Int.mul_ne_zero x1 x2)).ne, x3⟩
  have hq : (ftimes (meanV (ws.map oneV)) (meanV (ws.map twoV))).2 ≠ 0 := (lo_low (Int.mul_ne_zero b1.ne c1.ne)).ne
  refine low_eq a1 (fsub_low hp.1.ne hq) ?_
  rw [a2, rv_fsub hp.1.ne hq, rv_ftimes b1.ne c1.ne, b2, c2, hp.2, sR_map]
  rw [sR_congr (f := fun a => rv (prodV a).1 * rv (prodV a).2) (g := fun z => rv z.1 * rv z.2.1 * rv z.2.2) fun z hz => by
    obtain ⟨x1, x2, x3⟩ := hN z hz
    show rv (ftimes z.1 z.2.1) * rv z.2.2 = _
    rw [rv_ftimes x1 x2]]
end ref12c

section law12
variable {K : PySem.W.Frag}
open LamX hiding takes0
open LamK
def spLaw (K : PySem.W.Frag) (P : Addr) : Sp := fun vs H Q _ => ∃ (a : Addr) (ns : List Int), vs = [.ref a] ∧ SqL K H a (ns.map V.int) ∧ ns.length ≤ 63 ∧ (∀ z ∈ ns, Builtin.Int.intBits z ≤ 1048576) ∧ Tabs [(P, LQ)] H ∧ ∀ H', Q (.bl true) H'
theorem spLaw_in {K : PySem.W.Frag} {P : Addr} (H : Hp) (a : Addr) (ns : List Int) (h1 : ns.length ≤ 63) (h2 : ∀ z ∈ ns, Builtin.Int.intBits z ≤ 1048576) (hP : H P = some (.tbl #[])) (hS : SqL K H a (ns.map V.int)) : spLaw K P [.ref a] H (fun v _ => v = .bl true) fun _ _ _ => False :=
  ⟨a, ns, rfl, hS, h1, h2, fun p hp => by rw [List.mem_singleton.mp hp]; exact TabS.nil hP, fun _ => rfl⟩
theorem deck_tabs {T : List (Addr × Str)} {H H' : Hp} {a p : Addr} (t : Tabs T H) (d : DeckOk H a p) (k : Kp [a] H H') : Tabs T H' := let ⟨_, _, _, _, ha, _⟩ := d; tabs_put t k ha
/-- rows of drawn numbers -/
theorem drawn_law {gs : List GRow} {xs : List Fr} {ns : List Int} (e : gs.map GRow.kf = (xs.map keyOf).zip (shF ns)) (hl : xs.length = ns.length) (hx : ∀ x ∈ xs, NumOk x) (hN : NsOk ns) : ∃ zs : List (Fr × Fr), LawZ ns.sum.toNat 2 4 zs ∧ zs.length ≤ 4 ∧ gs.map GRow.kf = zs.map kfOf ∧ (∀ g ∈ gs, NumKey g.k) ∧ (gs.map GRow.p).map PRow.v = zs := by
  obtain ⟨h1, h2, h3⟩ := shF_ok hN
  have hsl : (shF ns).length = ns.length := by unfold shF; rw [List.length_map]
  have ek : (xs.map keyOf).zip (shF ns) = (xs.zip (shF ns)).map kfOf := by
    rw [List.zip_map_left]
    rfl
  rw [ek] at e
  have hlz : (xs.zip (shF ns)).length ≤ 4 := by
    rw [List.length_zip, hsl]
    have := hN.len
    omega
  refine ⟨xs.zip (shF ns), ⟨fun z hz => hx _ (List.of_mem_zip hz).1, fun z hz => ?_, ?_, by omega, h3⟩, hlz, e, fun g hg => ?_, ?_⟩
  · obtain ⟨a, _, b, c⟩ := h1 _ (List.of_mem_zip hz).2
    exact ⟨a, b, c⟩
  · have e2 : sR (fun z : Fr × Fr => rv z.2) (xs.zip (shF ns)) = sR rv ((xs.zip (shF ns)).map Prod.snd) := (sR_map rv Prod.snd _).symm
    rw [e2, List.map_snd_zip (by omega)]
    exact h2
  · have hm : g.kf ∈ (xs.zip (shF ns)).map kfOf := by rw [← e]; exact List.mem_map_of_mem hg
    obtain ⟨z, _, ez⟩ := List.mem_map.mp hm
    exact ⟨z.1, (congrArg Prod.fst ez).symm⟩
  · rw [grow_pv, e, List.map_map]
    conv => rhs; rw [← List.map_id (xs.zip (shF ns))]
    exact List.map_congr_left fun z _ => rfl
set_option maxHeartbeats 4000000 in
theorem ok_law {P : Program} {w : World} {K : PySem.W.Frag} {mg : Str → Option Value} {base : Heap} (T : T P K mg base) : FnOk P w K mg base CX0 10 T.a_law T.fd_law ["script"] (spLaw K T.P_law_from) := by
  refine T.F_law.ok sc_law (fun vs H Q E h => ?_) (fun cdv A outer s H vs Q E hr h => ?_)
  · obtain ⟨c, ns, rfl, _⟩ := h
    rfl
  · obtain ⟨c, ns, rfl, hS, hl, hbit, hT, q⟩ := h
    refine ⟨_, (pss_cons (ps_set (i := 1) sc_law.nd rfl (by first | exact Or.inl rfl | exact Or.inr rfl) (pe_call (ok__law_deck T) (hr.mono (by decide)) (by rfl) T.g__law_deck T.F__law_deck.kp T.b__law_deck .nil pass0 (pa_cons (pv 0) pa_nil)))
      (pss_cons (ps_set (i := 2) sc_law.nd rfl (by first | exact Or.inl rfl | exact Or.inr rfl) (pe_call (ok__law_rows T) (hr.mono (by decide)) (by rfl) T.g__law_rows T.F__law_rows.kp T.b__law_rows .nil pass0 (pa_cons (pv 1) pa_nil)))
      (pss_cons (ps_set (i := 3) sc_law.nd rfl (by first | exact Or.inl rfl | exact Or.inr rfl) (pe_callTy c_list (by rfl) T.z_list (by decide +kernel) (pa_cons (pv 2) pa_nil)))
      (pss_cons (ps_if (PW.pt (pw_or (pt_cmpR (op_neD hr.units) (pe_call (ok_mean T) (hr.mono (by decide)) (by rfl) T.g_mean T.F_mean.kp T.b_mean .nil pass0 (pa_cons (pv 2) pa_nil)) (pe_call (ok__law_mean T) (hr.mono (by decide)) (by rfl) T.g__law_mean T.F__law_mean.kp T.b__law_mean .nil pass0 (pa_cons (pv 2) pa_nil)) (nomark _)) (pw_or (pt_cmpR (op_neD hr.units) (pe_call (ok_variance T) (hr.mono (by decide)) (by rfl) T.g_variance T.F_variance.kp T.b_variance .nil pass0 (pa_cons (pv 2) pa_nil)) (pe_call (ok__law_spread T) (hr.mono (by decide)) (by rfl) T.g__law_spread T.F__law_spread.kp T.b__law_spread .nil pass0 (pa_cons (pv 2) pa_nil)) (nomark _)) (pw_or1 (pt_cmpR (op_neD hr.units) (pv 2) (pv 3) (nomark _)))))) (pss_one (ps_ret pe_bl)) pss_nil)
      (pss_cons (ps_set (i := 4) sc_law.nd rfl (by first | exact Or.inl rfl | exact Or.inr rfl) (pe_lc (own := [("k", 7)]) (g := gName 7) rfl sc_law.nd (pi_range1 (by rfl) T.z_range (pa_cons (pe_op op_add pe_int (pe_call (ok__law_draw T) (hr.mono (by decide)) (by rfl) T.g__law_draw T.F__law_draw.kp T.b__law_draw .nil pass0 (pa_cons (pv 1) (pa_cons pe_int pa_nil)))) pa_nil)) (blkOk_by (own := [("k", 7)]) (N := N_law) (sc := defScope s_law) (by decide +kernel)) (fun _ _ _ _ _ => (pg_name (i := 7) sc_law.nd rfl (by first | exact Or.inl rfl | exact Or.inr rfl))) (fun _ _ _ _ _ => pts_nil) (fun _ _ _ _ _ => (pe_call (ok__law_gathered T) (hr.mono (by decide)) (by rfl) T.g__law_gathered T.F__law_gathered.kp T.b__law_gathered .nil pass0 (pa_cons (pe_call (ok__law_rows T) (hr.mono (by decide)) (by rfl) T.g__law_rows T.F__law_rows.kp T.b__law_rows .nil pass0 (pa_cons (pv 1) pa_nil)) pa_nil)))))
      (pss_cons (ps_set (i := 5) sc_law.nd rfl (by first | exact Or.inl rfl | exact Or.inr rfl) (pe_call (ok__law_shares T) (hr.mono (by decide)) (by rfl) T.g__law_shares T.F__law_shares.kp T.b__law_shares .nil pass0 (pa_cons (pv 1) (pa_cons (pe_callB c_len (by rfl) T.z_len (by decide +kernel) (pa_cons (pv 4) pa_nil)) pa_nil))))
      (pss_cons (ps_set (i := 6) sc_law.nd rfl (by first | exact Or.inl rfl | exact Or.inr rfl) (pe_lst pa_nil))
      (pss_cons (ps_for PassesOwn.never rfl (pi_range1 (by rfl) T.z_range (pa_cons (pe_callB c_len (by rfl) T.z_len (by decide +kernel) (pa_cons (pv 4) pa_nil)) pa_nil)) (pg_name (i := 7) sc_law.nd rfl (by first | exact Or.inl rfl | exact Or.inr rfl)) (pss_one (ps_set (i := 6) sc_law.nd rfl (by first | exact Or.inl rfl | exact Or.inr rfl) (pe_op op_cat (pv 6) (pe_lc (own := [("number", 17), ("chance", 18)]) (g := gTup K 2 (gCons (gName 17) (gCons (gName 18) gNil))) rfl sc_law.nd (pi_list (pe_ix ix_list (pv 4) (pv 7) (fun _ _ => rfl))) (blkOk_by (own := [("number", 17), ("chance", 18)]) (N := N_law) (sc := defScope s_law) (by decide +kernel)) (fun _ _ _ _ _ => (pg_tup rfl (pgs_cons (pg_name (i := 17) sc_law.nd rfl (by first | exact Or.inl rfl | exact Or.inr rfl)) (pgs_cons (pg_name (i := 18) sc_law.nd rfl (by first | exact Or.inl rfl | exact Or.inr rfl)) pgs_nil)))) (fun _ _ _ _ _ => pts_nil) (fun _ _ _ _ _ => (pe_tup (pa_cons (pv 17) (pa_cons (pe_call (ok__law_times T) (hr.mono (by decide)) (by rfl) T.g__law_times T.F__law_times.kp T.b__law_times .nil pass0 (pa_cons (pe_ix (ix_list : IxR _ (rIxL K)) (pv 5) (pv 7) (fun _ _ => rfl)) (pa_cons (pv 18) pa_nil))) pa_nil)))))))))
      (pss_cons (ps_set (i := 8) sc_law.nd rfl (by first | exact Or.inl rfl | exact Or.inr rfl) (pe_call (ok_mixed T) (hr.mono (by decide)) (by rfl) T.g_mixed T.F_mixed.kp T.b_mixed .nil passL (pa_cons (pv 4) (pa_cons (pv 5) pa_nil))))
      (pss_cons (ps_if (pt_cmpR (op_neD hr.units) (pv 8) (pe_call (ok__law_gathered T) (hr.mono (by decide)) (by rfl) T.g__law_gathered T.F__law_gathered.kp T.b__law_gathered .nil pass0 (pa_cons (pv 6) pa_nil)) (nomark _)) (pss_one (ps_ret pe_bl)) pss_nil)
      (pss_cons (ps_setLc (i := 9) (own := [("k", 7)]) (g := gName 7) rfl sc_law.nd rfl rfl (sw_true rfl rfl rfl (by decide +kernel)) (pi_range1 (by rfl) T.z_range (pa_cons (pe_callB c_len (by rfl) T.z_len (by decide +kernel) (pa_cons (pv 4) pa_nil)) pa_nil)) (blkOk_by (own := [("k", 7)]) (N := N_law) (sc := defScope s_law) (by decide +kernel)) (fun _ _ _ _ _ => (pg_name (i := 7) sc_law.nd rfl (by first | exact Or.inl rfl | exact Or.inr rfl))) (fun _ _ _ _ _ => pts_nil) (fun _ _ _ _ _ => (pe_tup (pa_cons (pe_call (ok_mean T) (hr.mono (by decide)) (by rfl) T.g_mean T.F_mean.kp T.b_mean .nil pass0 (pa_cons (pe_ix (ix_list : IxR _ (rIxL K)) (pv 4) (pv 7) (fun _ _ => rfl)) pa_nil)) (pa_cons (pe_ix (ix_list : IxR _ (rIxL K)) (pv 5) (pv 7) (fun _ _ => rfl)) pa_nil)))))
      (pss_cons (ps_set (i := 10) sc_law.nd rfl (by first | exact Or.inl rfl | exact Or.inr rfl) (pe_call (ok__law_mean T) (hr.mono (by decide)) (by rfl) T.g__law_mean T.F__law_mean.kp T.b__law_mean .nil pass0 (pa_cons (pe_lc (own := [("k", 7)]) (g := gName 7) rfl sc_law.nd (pi_range1 (by rfl) T.z_range (pa_cons (pe_callB c_len (by rfl) T.z_len (by decide +kernel) (pa_cons (pv 4) pa_nil)) pa_nil)) (blkOk_by (own := [("k", 7)]) (N := N_law) (sc := defScope s_law) (by decide +kernel)) (fun _ _ _ _ _ => (pg_name (i := 7) sc_law.nd rfl (by first | exact Or.inl rfl | exact Or.inr rfl))) (fun _ _ _ _ _ => pts_nil) (fun _ _ _ _ _ => (pe_tup (pa_cons (pe_call (ok_variance T) (hr.mono (by decide)) (by rfl) T.g_variance T.F_variance.kp T.b_variance .nil pass0 (pa_cons (pe_ix (ix_list : IxR _ (rIxL K)) (pv 4) (pv 7) (fun _ _ => rfl)) pa_nil)) (pa_cons (pe_ix (ix_list : IxR _ (rIxL K)) (pv 5) (pv 7) (fun _ _ => rfl)) pa_nil))))) pa_nil)))
      (pss_cons (ps_if (PW.pt (pw_or (pt_cmpR (op_neD hr.units) (pe_call (ok_mean T) (hr.mono (by decide)) (by rfl) T.g_mean T.F_mean.kp T.b_mean .nil pass0 (pa_cons (pv 8) pa_nil)) (pe_call (ok__law_mean T) (hr.mono (by decide)) (by rfl) T.g__law_mean T.F__law_mean.kp T.b__law_mean .nil pass0 (pa_cons (pv 9) pa_nil)) (nomark _)) (pw_or1 (pt_cmpR (op_neD hr.units) (pe_call (ok_variance T) (hr.mono (by decide)) (by rfl) T.g_variance T.F_variance.kp T.b_variance .nil pass0 (pa_cons (pv 8) pa_nil)) (pe_call (ok__law_plus T) (hr.mono (by decide)) (by rfl) T.g__law_plus T.F__law_plus.kp T.b__law_plus .nil pass0 (pa_cons (pv 10) (pa_cons (pe_call (ok__law_spread T) (hr.mono (by decide)) (by rfl) T.g__law_spread T.F__law_spread.kp T.b__law_spread .nil pass0 (pa_cons (pv 9) pa_nil)) pa_nil))) (nomark _))))) (pss_one (ps_ret pe_bl)) pss_nil)
      (pss_cons (ps_if (pt_not (pt_val (pe_call (ok__law_refused T) (hr.mono (by decide)) (by rfl) T.g__law_refused T.F__law_refused.kp T.b__law_refused .nil pass0 (pa_cons (pv 4) (pa_cons (pe_lc (own := [("chance", 18)]) (g := gName 18) rfl sc_law.nd (pi_list (pv 5)) (blkOk_by (own := [("chance", 18)]) (N := N_law) (sc := defScope s_law) (by decide +kernel)) (fun _ _ _ _ _ => (pg_name (i := 18) sc_law.nd rfl (by first | exact Or.inl rfl | exact Or.inr rfl))) (fun _ _ _ _ _ => pts_nil) (fun _ _ _ _ _ => (pe_call (ok__law_times T) (hr.mono (by decide)) (by rfl) T.g__law_times T.F__law_times.kp T.b__law_times .nil pass0 (pa_cons (pv 18) (pa_cons (pe_tup (pa_cons pe_int (pa_cons pe_int pa_nil))) pa_nil))))) pa_nil))))) (pss_one (ps_ret pe_bl)) pss_nil)
      (pss_cons (ps_if (pt_not (pt_val (pe_call (ok__law_refused T) (hr.mono (by decide)) (by rfl) T.g__law_refused T.F__law_refused.kp T.b__law_refused .nil pass0 (pa_cons (pe_op op_cat (pv 4) (pv 4)) (pa_cons (pe_op op_cat (pe_op op_cat (pv 5) (pe_lc (own := [("one", 19)]) (g := gName 19) rfl sc_law.nd (pi_list (pe_slice sl_list (pv 5) (po_some pe_int) po_none)) (blkOk_by (own := [("one", 19)]) (N := N_law) (sc := defScope s_law) (by decide +kernel)) (fun _ _ _ _ _ => (pg_name (i := 19) sc_law.nd rfl (by first | exact Or.inl rfl | exact Or.inr rfl))) (fun _ _ _ _ _ => pts_nil) (fun _ _ _ _ _ => (pe_tup (pa_cons pe_int (pa_cons pe_int pa_nil)))))) (pe_lst (pa_cons (pe_tup (pa_cons pe_int (pa_cons pe_int pa_nil))) pa_nil))) pa_nil))))) (pss_one (ps_ret pe_bl)) pss_nil)
      (pss_cons (ps_set (i := 11) sc_law.nd rfl (by first | exact Or.inl rfl | exact Or.inr rfl) (pe_ix ix_list (pv 4) (pe_call (ok__law_draw T) (hr.mono (by decide)) (by rfl) T.g__law_draw T.F__law_draw.kp T.b__law_draw .nil pass0 (pa_cons (pv 1) (pa_cons (pe_callB c_len (by rfl) T.z_len (by decide +kernel) (pa_cons (pv 4) pa_nil)) pa_nil))) (fun _ _ => rfl)))
      (pss_cons (ps_setLc (i := 12) (own := [("pair", 20), ("chance", 18)]) (g := gTup K 2 (gCons (gName 20) (gCons (gName 18) gNil))) rfl sc_law.nd rfl rfl (sw_true rfl rfl rfl (by decide +kernel)) (pi_list (pe_call (ok_joined T) (hr.mono (by decide)) (by rfl) T.g_joined T.F_joined.kp T.b_joined .nil pass0 (pa_cons (pv 8) (pa_cons (pv 11) pa_nil)))) (blkOk_by (own := [("pair", 20), ("chance", 18)]) (N := N_law) (sc := defScope s_law) (by decide +kernel)) (fun _ _ _ _ _ => (pg_tup rfl (pgs_cons (pg_name (i := 20) sc_law.nd rfl (by first | exact Or.inl rfl | exact Or.inr rfl)) (pgs_cons (pg_name (i := 18) sc_law.nd rfl (by first | exact Or.inl rfl | exact Or.inr rfl)) pgs_nil)))) (fun _ _ _ _ _ => pts_nil) (fun _ _ _ _ _ => (pe_tup (pa_cons (pe_ix (ix_tup : IxR _ (rIxT K)) (pv 20) pe_int (fun _ _ => rfl)) (pa_cons (pe_ix (ix_tup : IxR _ (rIxT K)) (pv 20) pe_int (fun _ _ => rfl)) (pa_cons (pv 18) pa_nil))))))
      (pss_cons (ps_if (pt_cmpR (op_neD hr.units) (pe_call (ok_covariance T) (hr.mono (by decide)) (by rfl) T.g_covariance T.F_covariance.kp T.b_covariance .nil pass0 (pa_cons (pv 12) pa_nil)) (pe_tup (pa_cons pe_int (pa_cons pe_int pa_nil))) (nomark _)) (pss_one (ps_ret pe_bl)) pss_nil)
      (pss_cons (ps_setLc (i := 13) (own := [("number", 17), ("chance", 18)]) (g := gTup K 2 (gCons (gName 17) (gCons (gName 18) gNil))) rfl sc_law.nd rfl rfl (sw_true rfl rfl rfl (by decide +kernel)) (pi_list (pv 2)) (blkOk_by (own := [("number", 17), ("chance", 18)]) (N := N_law) (sc := defScope s_law) (by decide +kernel)) (fun _ _ _ _ _ => (pg_tup rfl (pgs_cons (pg_name (i := 17) sc_law.nd rfl (by first | exact Or.inl rfl | exact Or.inr rfl)) (pgs_cons (pg_name (i := 18) sc_law.nd rfl (by first | exact Or.inl rfl | exact Or.inr rfl)) pgs_nil)))) (fun _ _ _ _ _ => pts_nil) (fun _ _ _ _ _ => (pe_tup (pa_cons (pv 17) (pa_cons (pe_call (ok__law_low T) (hr.mono (by decide)) (by rfl) T.g__law_low T.F__law_low.kp T.b__law_low .nil pass0 (pa_cons (pe_op op_sub (pe_call (ok__law_draw T) (hr.mono (by decide)) (by rfl) T.g__law_draw T.F__law_draw.kp T.b__law_draw .nil pass0 (pa_cons (pv 1) (pa_cons pe_int pa_nil))) pe_int) (pa_cons (pe_op op_add pe_int (pe_call (ok__law_draw T) (hr.mono (by decide)) (by rfl) T.g__law_draw T.F__law_draw.kp T.b__law_draw .nil pass0 (pa_cons (pv 1) (pa_cons pe_int pa_nil)))) pa_nil))) (pa_cons (pv 18) pa_nil))))))
      (pss_cons (ps_set (i := 14) sc_law.nd rfl (by first | exact Or.inl rfl | exact Or.inr rfl) (pe_call (ok__law_mean T) (hr.mono (by decide)) (by rfl) T.g__law_mean T.F__law_mean.kp T.b__law_mean .nil pass0 (pa_cons (pe_lc (own := [("number", 17), ("second", 21), ("chance", 18)]) (g := gTup K 3 (gCons (gName 17) (gCons (gName 21) (gCons (gName 18) gNil)))) rfl sc_law.nd (pi_list (pv 13)) (blkOk_by (own := [("number", 17), ("second", 21), ("chance", 18)]) (N := N_law) (sc := defScope s_law) (by decide +kernel)) (fun _ _ _ _ _ => (pg_tup rfl (pgs_cons (pg_name (i := 17) sc_law.nd rfl (by first | exact Or.inl rfl | exact Or.inr rfl)) (pgs_cons (pg_name (i := 21) sc_law.nd rfl (by first | exact Or.inl rfl | exact Or.inr rfl)) (pgs_cons (pg_name (i := 18) sc_law.nd rfl (by first | exact Or.inl rfl | exact Or.inr rfl)) pgs_nil))))) (fun _ _ _ _ _ => pts_nil) (fun _ _ _ _ _ => (pe_tup (pa_cons (pe_call (ok__law_times T) (hr.mono (by decide)) (by rfl) T.g__law_times T.F__law_times.kp T.b__law_times .nil pass0 (pa_cons (pv 17) (pa_cons (pv 21) pa_nil))) (pa_cons (pv 18) pa_nil))))) pa_nil)))
      (pss_cons (ps_set (i := 15) sc_law.nd rfl (by first | exact Or.inl rfl | exact Or.inr rfl) (pe_call (ok__law_mean T) (hr.mono (by decide)) (by rfl) T.g__law_mean T.F__law_mean.kp T.b__law_mean .nil pass0 (pa_cons (pe_lc (own := [("number", 17), ("second", 21), ("chance", 18)]) (g := gTup K 3 (gCons (gName 17) (gCons (gName 21) (gCons (gName 18) gNil)))) rfl sc_law.nd (pi_list (pv 13)) (blkOk_by (own := [("number", 17), ("second", 21), ("chance", 18)]) (N := N_law) (sc := defScope s_law) (by decide +kernel)) (fun _ _ _ _ _ => (pg_tup rfl (pgs_cons (pg_name (i := 17) sc_law.nd rfl (by first | exact Or.inl rfl | exact Or.inr rfl)) (pgs_cons (pg_name (i := 21) sc_law.nd rfl (by first | exact Or.inl rfl | exact Or.inr rfl)) (pgs_cons (pg_name (i := 18) sc_law.nd rfl (by first | exact Or.inl rfl | exact Or.inr rfl)) pgs_nil))))) (fun _ _ _ _ _ => pts_nil) (fun _ _ _ _ _ => (pe_tup (pa_cons (pv 17) (pa_cons (pv 18) pa_nil))))) pa_nil)))
      (pss_cons (ps_set (i := 16) sc_law.nd rfl (by first | exact Or.inl rfl | exact Or.inr rfl) (pe_call (ok__law_mean T) (hr.mono (by decide)) (by rfl) T.g__law_mean T.F__law_mean.kp T.b__law_mean .nil pass0 (pa_cons (pe_lc (own := [("number", 17), ("second", 21), ("chance", 18)]) (g := gTup K 3 (gCons (gName 17) (gCons (gName 21) (gCons (gName 18) gNil)))) rfl sc_law.nd (pi_list (pv 13)) (blkOk_by (own := [("number", 17), ("second", 21), ("chance", 18)]) (N := N_law) (sc := defScope s_law) (by decide +kernel)) (fun _ _ _ _ _ => (pg_tup rfl (pgs_cons (pg_name (i := 17) sc_law.nd rfl (by first | exact Or.inl rfl | exact Or.inr rfl)) (pgs_cons (pg_name (i := 21) sc_law.nd rfl (by first | exact Or.inl rfl | exact Or.inr rfl)) (pgs_cons (pg_name (i := 18) sc_law.nd rfl (by first | exact Or.inl rfl | exact Or.inr rfl)) pgs_nil))))) (fun _ _ _ _ _ => pts_nil) (fun _ _ _ _ _ => (pe_tup (pa_cons (pv 21) (pa_cons (pv 18) pa_nil))))) pa_nil)))
      (pss_one (ps_ret (pe_cmpR (op_eqD hr.units) (pe_call (ok_covariance T) (hr.mono (by decide)) (by rfl) T.g_covariance T.F_covariance.kp T.b_covariance .nil pass0 (pa_cons (pv 13) pa_nil)) (pe_call (ok__law_minus T) (hr.mono (by decide)) (by rfl) T.g__law_minus T.F__law_minus.kp T.b__law_minus .nil pass0 (pa_cons (pv 14) (pa_cons (pe_call (ok__law_times T) (hr.mono (by decide)) (by rfl) T.g__law_times T.F__law_times.kp T.b__law_times .nil pass0 (pa_cons (pv 15) (pa_cons (pv 16) pa_nil))) pa_nil))) (nomark _)))))))))))))))))))))))))), ?_⟩
    walk_at "z0"
    walk_at "z"
    refine ⟨c, ns, rfl, hS, fun a p H1 na np k1 d1 => ?_⟩
    have T1 := tabs_kp hT k1
    walk_at "z"
    refine ⟨a, p, rfl, d1, fun H2 r gs xs ms nr k2 d2 e2 A2 v2 l2 o2 N2 => ?_⟩
    have T2 := deck_tabs T1 d1 k2
    obtain ⟨zs, hZ, hzl, hkf, hnk, hpv⟩ := drawn_law v2 l2 o2 N2
    walk_at "z"
    refine Z.listL (lstL e2) fun kp H3 nkp k3 e3 => ?_
    have e3r := k3.get nin0 e2
    have A3 : ∀ g ∈ gs, GRowAt K H3 g := fun g hg => (A2 g hg).kp0 k3
    have P3 : ∀ p ∈ gs.map GRow.p, PRowAt K H3 p := fun p hp => by
      obtain ⟨g, hg, rfl⟩ := List.mem_map.mp hp
      exact (A3 g hg).p (hnk g hg)
    have hS3 : SqL K H3 r ((gs.map GRow.p).map PRow.r) := by rw [← grow_p]; exact lstL e3r
    have ht := hZ.terms (by decide) (by decide)
    walk_at "z"
    refine ⟨r, gs.map GRow.p, rfl, hS3, P3, (ht.meanV (by decide) (by decide)).to hpv, fun H4 m1 k4 f4 => ?_⟩
    rw [meanF_v, hpv] at f4
    walk_at "z"
    refine ⟨r, gs.map GRow.p, rfl, k4.seq nin0 hS3, fun p hp => (P3 p hp).kp0 k4, (ht.lmeanV (by decide) (by decide)).to hpv, fun H5 m2 k5 f5 => ?_⟩
    rw [meanF_v, hpv] at f5
    walk_at "z"
    refine neF (f4.kp0 k5) f5 ?_
    rw [decide_eq_true rfl]
    walk_at "z"
    have k35 := k4.trans k5
    refine ⟨r, gs.map GRow.p, rfl, k35.seq nin0 hS3, fun p hp => (P3 p hp).kp0 k35, by rw [hpv]; exact (hZ.trip (by decide) (by decide)).cov, fun H6 s1 k6 f6 => ?_⟩
    rw [hpv, hZ.var] at f6
    walk_at "z"
    have k36 := k35.trans k6
    refine ⟨r, gs.map GRow.p, rfl, k36.seq nin0 hS3, fun p hp => (P3 p hp).kp0 k36, by rw [hpv]; exact hZ.spread (by decide) (by decide), fun H7 s2 k7 f7 => ?_⟩
    rw [hpv] at f7
    walk_at "z"
    refine neF (f6.kp0 k7) f7 ?_
    rw [decide_eq_true rfl]
    walk_at "z"
    have k37 := k36.trans k7
    have PR : PRows K H7 r zs := PRows.kp0 ⟨gs.map GRow.p, by rw [e3r, grow_p], P3, hpv⟩ k37
    have PK : PRows K H7 kp zs := PRows.kp0 ⟨gs.map GRow.p, by rw [e3, grow_p], P3, hpv⟩ k37
    refine neP PR PK ?_
    walk_at "z"
    have d7 := (d2.kp0 k3).kp0 k37
    have T7 := tabs_kp (tabs_kp T2 k3) k37
    refine ⟨a, p, 4, rfl, d7, by decide, by decide, fun H8 m m0 m4 k8 d8 => ?_⟩
    have T8 := deck_tabs T7 d7 k8
    walk_at "z"
    obtain ⟨m, rfl⟩ : ∃ j : Nat, m = (j : Int) := ⟨m.toNat, by omega⟩
    rw [show (1 : Int) + (m : Int) = ((1 + m : Nat) : Int) by omega]
    obtain ⟨nl, hnl, hnl1, hnl4⟩ : ∃ nl : Nat, 1 + m = nl ∧ 1 ≤ nl ∧ nl ≤ 4 := ⟨1 + m, rfl, by omega, by omega⟩
    rw [hnl]
    refine Z.lcr nl rfl (by omega) (fun D i H' => ∃ os : List LO, Kp [a] H8 H' ∧ DeckOk H' a p ∧ H' D = some (.lst (os.map LO.r)) ∧ (∀ o ∈ os, LOAt K H' o ∧ o.a ≠ D) ∧ os.length = i ∧ ∀ o ∈ os, 1 ≤ o.S ∧ o.S ≤ 2 ^ 4) ?_ ?_ ?_
    · intro D H9 nD k9 e9
      exact ⟨[], k9.sub (by simp), d8.kp0 k9, e9, by simp, rfl, by simp⟩
    · rintro D i H9 nD hi ⟨os, k9, d9, e9, A9, l9, b9⟩
      have haD := d8.ne nD
      dsimp only [wipe, List.set]
      walk_at "z"
      refine ⟨rfl, ?_⟩
      walk_at "z"
      refine ⟨a, p, rfl, d9, fun H10 t hs ys js nt k10 d10 e10 A10 v10 l10 o10 N10 => ?_⟩
      obtain ⟨ws, hW, hwl, hwkf, hwnk, hwpv⟩ := drawn_law v10 l10 o10 N10
      walk_at "z"
      refine ⟨t, hs, rfl, lstL e10, A10, by rw [hwkf]; exact (hW.xs (by decide) (by decide)).gath, fun H11 u out nu k11 e11 A11 v11 => ?_⟩
      rw [hwkf] at v11
      obtain ⟨hn11, hp11⟩ := gath_numKey (fun z hz => (hW.ne z hz).2) v11
      have e9D := k11.get nin0 (k10.get (nin1 haD.1.symm) e9)
      have hlaw : LOAt K H11 ⟨u, out, js.sum.toNat⟩ := by
        have hg := hW.gath (by decide) (by decide)
        rw [← hp11] at hg
        exact ⟨e11, A11, hn11, hg, by show ((out.map GRow.p).map PRow.v).length ≤ 4; rw [hp11]; exact Nat.le_trans (gathZ_len ws) hwl⟩
      have hA11 : ∀ o ∈ os, LOAt K H11 o := fun o ho => ((A9 o ho).1.kpd d9 k10).kp0 k11
      have hk : Kp [a] H9 H11 := k10.trans (k11.sub (by simp))
      have neu : u ≠ D := (ne_of_none (k10.get (nin1 haD.1.symm) e9) nu).symm
      refine ⟨_, e9D, Z.szl (m := 1000) (by rw [List.length_map]; omega), os ++ [⟨u, out, js.sum.toNat⟩], (k9.trans hk).mut nD rfl, (d10.kp0 k11).upd haD.1 haD.2, by rw [upd_same, List.map_append]; rfl, fun o ho => ?_, by rw [List.length_append, l9]; rfl, fun o ho => ?_⟩
      · rcases List.mem_append.mp ho with ho | ho
        · exact ⟨(hA11 o ho).put e9D (A9 o ho).2, (A9 o ho).2⟩
        · rw [List.mem_singleton.mp ho]
          exact ⟨hlaw.put e9D neu, neu⟩
      · rcases List.mem_append.mp ho with ho | ho
        · exact b9 o ho
        · rw [List.mem_singleton.mp ho]
          exact (shF_ok N10).2.2
    · rintro D H9 nD ⟨os, k9, d9, e9, A9, l9, b9⟩
      have A9' : ∀ o ∈ os, LOAt K H9 o := fun o ho => (A9 o ho).1
      have T9 := deck_tabs T8 d8 k9
      have k79 : Kp [a] H7 H9 := k8.trans k9
      have PR9 : PRows K H9 r zs := by
        obtain ⟨ps, x1, x2, x3⟩ := PR
        exact ⟨ps, k79.get (nin1 (deck_ne d7 (rs := ps.map PRow.a) (by rw [x1, List.map_map]; rfl))) x1, fun p hp => (x2 p hp).kpM k79 d7.nt, x3⟩
      walk_at "z"
      refine Z.lenL (lstL e9) ?_
      rw [List.length_map, l9]
      walk_at "z"
      refine ⟨a, p, nl, rfl, d9, hnl1, hnl4, fun H10 f cs js nf k10 d10 e10 F10 N10 jl => ?_⟩
      have T10 := deck_tabs T9 d9 k10
      have A10 : ∀ o ∈ os, LOAt K H10 o := fun o ho => (A9' o ho).kpd d9 k10
      have neDa : D ≠ a := deck_ne d9 (rs := os.map LO.a) (by rw [e9, List.map_map]; rfl)
      have e10D := k10.get (nin1 neDa) e9
      have PR10 : PRows K H10 r zs := by
        obtain ⟨ps, x1, x2, x3⟩ := PR9
        exact ⟨ps, k10.get (nin1 (deck_ne d9 (rs := ps.map PRow.a) (by rw [x1, List.map_map]; rfl))) x1, fun p hp => (x2 p hp).kpM k10 d9.nt, x3⟩
      obtain ⟨sh1, sh2, sh3⟩ := shF_ok N10
      have hM : MixOk (os.map LO.S) js.sum.toNat (os.map LO.z) (shF js) := by
        refine ⟨fun l hl => ?_, ⟨by rw [List.length_map]; omega, fun S hS => ?_⟩, sh1, sh2, sh3, ?_, by rw [List.length_map]; omega⟩
        · obtain ⟨o, ho, rfl⟩ := List.mem_map.mp hl
          exact ⟨(A10 o ho).len, o.S, List.mem_map_of_mem ho, (A10 o ho).law⟩
        · obtain ⟨o, ho, rfl⟩ := List.mem_map.mp hS
          exact b9 o ho
        · unfold shF
          rw [List.length_map, List.length_map, l9, jl]
      walk_at "z"
      have hbnd : ∀ o ∈ os, ∀ z ∈ o.z, 1 ≤ z.2.2 ∧ FrB 41 z.2 := fun o ho z hz => by
        have hL := (A10 o ho).law
        obtain ⟨x1, x2, _⟩ := hL.ch z hz
        exact ⟨x1.1, den_B x1 x2 hL.D1.1 hL.D1.2 (by decide) (by decide)⟩
      refine Z.lstK (fun W0 H11 nW0 k11 e11 => ?_)
      walk_at "z"
      refine Z.lenL (lstL (k11.get nin0 e10D)) ?_
      rw [List.length_map, l9]
      refine Z.forr nl rfl (by omega) (fun i σ' H' => ∃ (w : Addr) (hs : List GRow) (y8 : Option V), σ' = [some (.ref c), some (.ref a), some (.ref r), some (.ref kp), some (.ref D), some (.ref f), some (.ref w), y8, none, none, none, none, none, none, none, none, none, none, none, none, none, none] ∧ Kp [] H10 H' ∧ GZ K H' w hs (wholeT (os.map LO.z) (shF js) i) ∧ hs.length ≤ 4 * i) ?_ ?_ ?_
      · exact ⟨W0, [], none, rfl, k11, ⟨e11, by simp, rfl⟩, by simp⟩
      · rintro i σ' H12 hi ⟨w, hs, y8, rfl, k12, G12, l12⟩
        have hio : i < os.length := by omega
        have ho : os[i]? = some os[i] := List.getElem?_eq_getElem hio
        have hom := List.mem_of_getElem? ho
        generalize os[i] = o at ho hom
        have hfl : (shF js).length = nl := by unfold shF; rw [List.length_map, jl]
        have hf : (shF js)[i]? = some (shF js)[i] := List.getElem?_eq_getElem (by omega)
        have hfm := List.mem_of_getElem? hf
        generalize (shF js)[i] = fi at hf hfm
        have hci : i < cs.length := by rw [F10.len, hfl]; exact hi
        have hc : cs[i]? = some cs[i] := List.getElem?_eq_getElem hci
        generalize hcg : cs[i] = ci at hc
        have hcF : FrAt K H10 ci fi := by
          obtain ⟨x, g, ex, eg, hx⟩ := F10.get (i := i) (v := .ref ci) (by rw [List.getElem?_map, hc]; rfl)
          cases ex
          rw [hf] at eg
          cases eg
          exact hx
        have A12 := (A10 o hom).kp0 k12
        have e12D := k12.get nin0 e10D
        have e12f := k12.get nin0 e10
        walk_at "z"
        refine Z.ixL (v := .ref o.a) (lstL e12D) (atI_nat (by rw [List.getElem?_map, ho]; rfl)) ?_
        walk_at "z"
        have hlo : o.gs.length ≤ 4 := by rw [A12.gz.len]; exact A12.len
        refine Z.lcl (o.gs.map GRow.r) (lstL A12.here) (fun E j H' => ∃ qs : List GRow, Kp [] H12 H' ∧ GZ K H' E qs (scaleZ fi (o.z.take j)) ∧ qs.length = j) ?_ ?_ ?_ ?_
        · intro E H13 nE k13 e13
          exact ⟨[], k13, ⟨e13, by simp, rfl⟩, rfl⟩
        · rintro E j H13 nE hj ⟨qs, k13, _⟩
          exact lstL (k13.get nin0 A12.here)
        · rintro E j v H13 nE hv ⟨qs, k13, G13, l13⟩
          rw [List.getElem?_map] at hv
          obtain ⟨g, hg, rfl⟩ := Option.map_eq_some_iff.mp hv
          have hgm := List.mem_of_getElem? hg
          have hgA := (A12.rows g hgm).kp0 k13
          have hgn := A12.num g hgm
          have hjl : j < o.gs.length := (List.getElem?_eq_some_iff.mp hg).1
          have hz : o.z[j]? = some g.p.v := by unfold LO.z; rw [List.getElem?_map, List.getElem?_map, hg]; rfl
          obtain ⟨q1, q2⟩ := hbnd o hom g.p.v (List.mem_of_getElem? hz)
          obtain ⟨s1, s2, _, _⟩ := sh1 fi hfm
          dsimp only [wipe, List.set]
          refine Z.gtup hgA.tup rfl ?_
          walk_at "z"
          refine ⟨rfl, ?_⟩
          walk_at "z"
          refine Z.ixL (v := .ref ci) (lstL (k13.get nin0 e12f)) (atI_nat (by rw [List.getElem?_map, hc]; rfl)) ?_
          walk_at "z"
          refine ⟨ci, g.c, fi, g.f, rfl, (hcF.kp0 k12).kp0 k13, hgA.fr, s1.1, q1, ⟨5, 41, s2, q2, by decide⟩, fun H14 y ny k14 e14 => ?_⟩
          walk_at "z"
          refine Z.tupK (fun t H15 nt k15 e15 => ?_)
          have k35 := k14.trans k15
          have G15 := G13.kp0 k35
          have kE : Kp [E] H15 (upd H15 E (.lst (qs.map GRow.r ++ [.ref t]))) := Kp.put (by simp)
          have ntE := noT G15.here fun xs => ⟨by simp, by simp⟩
          refine ⟨_, G15.here, Z.szl (m := 1000) (by rw [List.length_map]; omega), qs ++ [⟨t, g.b, g.k, y, ftimes fi g.f⟩], (k13.trans k35).mut nE rfl, ⟨by rw [upd_same, List.map_append]; rfl, fun x hx => ?_, ?_⟩, by rw [List.length_append, l13]; rfl⟩
          · rcases List.mem_append.mp hx with hx | hx
            · exact ⟨(G15.rows x hx).1.kpM kE ntE, (G15.rows x hx).2⟩
            · rw [List.mem_singleton.mp hx]
              have hgA5 := hgA.kp0 k35
              exact ⟨GRowAt.kpM (g := ⟨t, g.b, g.k, y, ftimes fi g.f⟩) ⟨tupT e15, hgA5.key, e14.kp0 k15, hgA5.ok⟩ kE ntE, hgn⟩
          · rw [List.map_append, List.map_append, G15.vals, List.take_add_one, hz]
            unfold scaleZ
            rw [List.map_append]
            rfl
        · rintro E H13 nE ⟨qs, k13, G13, l13⟩
          rw [List.length_map] at G13 l13
          rw [show o.z.take o.gs.length = o.z from List.take_of_length_le (by rw [A12.gz.len]; exact Nat.le_refl _)] at G13
          have Gw := G12.kp0 k13
          refine Z.cat Gw.here G13.here (by rw [List.length_map, List.length_map]; omega) (fun w2 H14 nw k14 e14 => ?_)
          walk_at "z"
          have Gw4 := Gw.kp0 k14
          have Gq4 := G13.kp0 k14
          refine ⟨w2, hs ++ qs, _, rfl, k12.trans (k13.trans k14), ⟨by rw [e14, List.map_append], fun x hx => ?_, ?_⟩, by rw [List.length_append]; omega⟩
          · rcases List.mem_append.mp hx with hx | hx
            · exact Gw4.rows x hx
            · exact Gq4.rows x hx
          · have hoz : (os.map LO.z)[i]? = some o.z := by rw [List.getElem?_map, ho]; rfl
            rw [List.map_append, List.map_append, Gw4.vals, Gq4.vals, wholeT_snoc hoz hf]
      · rintro σ' H12 ⟨w, hs, y8, rfl, k12, G12, l12⟩
        rw [show nl = (os.map LO.z).length by rw [List.length_map, l9], wholeT_all hM.len.1] at G12
        walk_at "z"
        have k912 := k12
        have T12 := tabs_kp T10 k12
        have A12 : ∀ o ∈ os, LOAt K H12 o := fun o ho => (A10 o ho).kp0 k12
        have hWZ := hM.whole
        have hXs := hWZ.xs (by decide) (by decide)
        have hmix := mix_whole os (shF js) fun o ho => (A10 o ho).num
        have hwl : ∀ z ∈ wholeZ (os.map LO.z) (shF js), z.2.2 ≠ 0 := fun z hz => (hWZ.ne z hz).2
        have hfl : (shF js).length = nl := by unfold shF; rw [List.length_map, jl]
        have hch : chOkB (shF js) = true := ch_taken (fun f hf => ⟨(sh1 f hf).1, (sh1 f hf).2.2.2⟩) sh2
        refine ⟨D, f, cs, shF js, rfl, lstL (k12.get nin0 e10), F10.kp0 k12, fs_sumOk (D := js.sum.toNat) (n := 2) (d := 4) (by omega) (fun g hg => ⟨(sh1 g hg).1, (sh1 g hg).2.2.1⟩) sh3 (by decide) (by decide), fun bad => ?_, fun _ => ⟨os.map LO.part, T12, by rw [← part_r]; exact lstL (k12.get nin0 e10D), fun x hx => ?_, by rw [List.length_map, l9, hfl], fun g hg => (sh1 g hg).2.1.mono (by decide), fun x hx => ?_, by rw [List.length_map]; omega, ?_, ?_, fun H13 tl out ntl x13 T13 e13 A13 v13 => ?_⟩⟩
        · rw [hch] at bad
          cases bad
        · obtain ⟨o, ho, rfl⟩ := List.mem_map.mp hx
          exact (A12 o ho).part
        · obtain ⟨o, ho, rfl⟩ := List.mem_map.mp hx
          refine ⟨fun r hr => ?_, ?_⟩
          · obtain ⟨g, hg, rfl⟩ := List.mem_map.mp hr
            have hz : g.p.v ∈ o.z := by unfold LO.z; exact List.mem_map_of_mem (List.mem_map_of_mem hg)
            obtain ⟨q1, q2⟩ := hbnd o ho _ hz
            exact ⟨by have : 1 ≤ g.f.2 := q1; show g.f.2 ≠ 0; omega, q2.mono (by decide)⟩
          · show (o.gs.map GRow.l).length ≤ 100
            rw [List.length_map, (A12 o ho).gz.len]
            have := (A12 o ho).len
            omega
        · rw [hmix]
          exact hXs.law
        · rw [hmix]
          refine ch_taken (fun g hg => ?_) ?_
          · rw [List.map_map, List.map_map] at hg
            obtain ⟨z, hz, rfl⟩ := List.mem_map.mp hg
            exact ⟨(hWZ.ch z hz).1, (hWZ.ch z hz).2.2⟩
          · rw [List.map_map, List.map_map, sR_map]
            exact hWZ.sum
        · rw [hmix, lawDF_gath (fun x hx => (hXs.low x hx).1), ← gathZ_kf hwl] at v13
          obtain ⟨tp, te, tA, tv⟩ := lrows_p A13 v13
          have PT : PRows K H13 tl (gathZ (wholeZ (os.map LO.z) (shF js))) := ⟨tp, by rw [e13, te], tA, tv⟩
          have G13 := G12.ext x13
          walk_at "z"
          have hGk := G13.kf
          refine ⟨w, hs, rfl, lstL G13.here, fun g hg => (G13.rows g hg).1, by rw [hGk]; exact hXs.gath, fun H14 gt gout ngt k14 e14 A14 v14 => ?_⟩
          rw [hGk] at v14
          obtain ⟨gn, gv⟩ := gath_numKey hwl v14
          have PG : PRows K H14 gt (gathZ (wholeZ (os.map LO.z) (shF js))) := ⟨gout.map GRow.p, by rw [e14, grow_p], fun p hp => by
            obtain ⟨g, hg, rfl⟩ := List.mem_map.mp hp
            exact (A14 g hg).p (gn g hg), gv⟩
          have PT14 := PT.kp0 k14
          walk_at "z"
          refine neP PT14 PG ?_
          walk_at "z"
          have x14 : ExtN H12 H14 := x13.trans (ext_kp k14)
          have T14 := tabs_kp T13 k14
          have A14' : ∀ o ∈ os, LOAt K H14 o := fun o ho => (A12 o ho).ext x14
          have F14 : FrsAt K H14 cs (shF js) := (F10.kp0 k12).ext x14
          have e14D : H14 D = some (.lst (os.map LO.r)) := ext_get x14 (k12.get nin0 e10D)
          have e14f : H14 f = some (.lst (cs.map V.ref)) := ext_get x14 (k12.get nin0 e10)
          have d14 : DeckOk H14 a p := (d10.kp0 k12).ext x14
          have PR14 : PRows K H14 r zs := (PR10.kp0 k12).ext x14
          have hz14 : ∀ i, i < nl → ∃ o ci fi, os[i]? = some o ∧ o ∈ os ∧ cs[i]? = some ci ∧ (shF js)[i]? = some fi ∧ FrAt K H14 ci fi := fun i hi => by
            have hf : (shF js)[i]? = some (shF js)[i] := List.getElem?_eq_getElem (by omega)
            have hci : i < cs.length := by rw [F10.len, hfl]; exact hi
            have ho : os[i]? = some os[i] := List.getElem?_eq_getElem (by omega)
            obtain ⟨x, g, ex, eg, hx⟩ := F14.get (i := i) (v := .ref cs[i]) (by rw [List.getElem?_map, List.getElem?_eq_getElem hci]; rfl)
            cases ex
            exact ⟨_, _, g, ho, List.mem_of_getElem? ho, List.getElem?_eq_getElem hci, eg, hx⟩
          have hzip : ∀ (i : Nat) (o : LO) (fi : Fr), os[i]? = some o → (shF js)[i]? = some fi → ((os.map LO.z).zip (shF js))[i]? = some (o.z, fi) := fun i o fi ho hf => (List.getElem?_zip_eq_some (z := (o.z, fi))).mpr ⟨by rw [List.getElem?_map, ho]; rfl, hf⟩
          have hzl : ((os.map LO.z).zip (shF js)).length = nl := by rw [List.length_zip, List.length_map]; omega
          refine Z.lenL (lstL e14D) ?_
          rw [List.length_map, l9]
          refine Z.lcr nl rfl (by omega) (fun E i H' => Kp [] H14 H' ∧ PRows K H' E ((meansZ (os.map LO.z) (shF js)).take i)) ?_ ?_ ?_
          · intro E H15 nE k15 e15
            exact ⟨k15, PRows.new e15⟩
          · rintro E i H15 nE hi ⟨k15, P15⟩
            obtain ⟨o, ci, fi, ho, hom, hc, hf, hcF⟩ := hz14 i hi
            have hA := (A14' o hom).kp0 k15
            have hLt := hA.law.terms (by decide) (by decide)
            dsimp only [wipe, List.set]
            walk_at "z"
            refine ⟨rfl, ?_⟩
            walk_at "z"
            refine Z.ixL (v := .ref o.a) (lstL (k15.get nin0 e14D)) (atI_nat (by rw [List.getElem?_map, ho]; rfl)) ?_
            walk_at "z"
            refine ⟨o.a, o.gs.map GRow.p, rfl, by rw [← grow_p]; exact lstL hA.here, fun p hp => ?_, (hLt.meanV (by decide) (by decide)).to rfl, fun H16 mm k16 f16 => ?_⟩
            · obtain ⟨g, hg, rfl⟩ := List.mem_map.mp hp
              exact (hA.rows g hg).p (hA.num g hg)
            rw [meanF_v] at f16
            walk_at "z"
            refine Z.ixL (v := .ref ci) (lstL ((k15.trans k16).get nin0 e14f)) (atI_nat (by rw [List.getElem?_map, hc]; rfl)) ?_
            walk_at "z"
            refine Z.tupK (fun t H17 nt k17 e17 => ?_)
            have k57 := k16.trans k17
            have P17 := P15.kp0 k57
            obtain ⟨xs7, hx7, hxl7⟩ := P17.here
            refine ⟨xs7, hx7, Z.szl (m := 1000) (by rw [hxl7, List.length_take]; omega), (k15.trans k57).mut nE rfl, ?_⟩
            have hmz : (meansZ (os.map LO.z) (shF js))[i]? = some (meanV o.z, fi) := by unfold meansZ; rw [List.getElem?_map, hzip i o fi ho hf]; rfl
            rw [List.take_add_one, hmz]
            exact P17.snoc hx7 e17 (f16.kp0 k17) ((hcF.kp0 k15).kp0 k57)
          · rintro E H15 nE ⟨k15, P15⟩
            rw [List.take_of_length_le (by unfold meansZ; rw [List.length_map, hzl]; exact Nat.le_refl _)] at P15
            walk_at "z"
            refine Z.lenL (lstL (k15.get nin0 e14D)) ?_
            rw [List.length_map, l9]
            refine Z.lcr nl rfl (by omega) (fun E2 i H' => Kp [] H15 H' ∧ PRows K H' E2 ((varsZ (os.map LO.z) (shF js)).take i)) ?_ ?_ ?_
            · intro E2 H16 nE2 k16 e16
              exact ⟨k16, PRows.new e16⟩
            · rintro E2 i H16 nE2 hi ⟨k16, P16⟩
              obtain ⟨o, ci, fi, ho, hom, hc, hf, hcF⟩ := hz14 i hi
              have k46 := k15.trans k16
              have hA := (A14' o hom).kp0 k46
              dsimp only [wipe, List.set]
              walk_at "z"
              refine ⟨rfl, ?_⟩
              walk_at "z"
              refine Z.ixL (v := .ref o.a) (lstL (k46.get nin0 e14D)) (atI_nat (by rw [List.getElem?_map, ho]; rfl)) ?_
              walk_at "z"
              refine ⟨o.a, o.gs.map GRow.p, rfl, by rw [← grow_p]; exact lstL hA.here, fun p hp => ?_, (hA.law.trip (by decide) (by decide)).cov, fun H17 mm k17 f17 => ?_⟩
              · obtain ⟨g, hg, rfl⟩ := List.mem_map.mp hp
                exact (hA.rows g hg).p (hA.num g hg)
              walk_at "z"
              refine Z.ixL (v := .ref ci) (lstL ((k46.trans k17).get nin0 e14f)) (atI_nat (by rw [List.getElem?_map, hc]; rfl)) ?_
              walk_at "z"
              refine Z.tupK (fun t H18 nt k18 e18 => ?_)
              have k68 := k17.trans k18
              have P18 := P16.kp0 k68
              obtain ⟨xs8, hx8, hxl8⟩ := P18.here
              refine ⟨xs8, hx8, Z.szl (m := 1000) (by rw [hxl8, List.length_take]; omega), (k16.trans k68).mut nE2 rfl, ?_⟩
              have hvz : (varsZ (os.map LO.z) (shF js))[i]? = some (covV (o.z.map dupV), fi) := by unfold varsZ; rw [List.getElem?_map, hzip i o fi ho hf]; rfl
              rw [List.take_add_one, hvz]
              exact P18.snoc hx8 e18 (f17.kp0 k18) ((hcF.kp0 k46).kp0 k68)
            · rintro E2 H16 nE2 ⟨k16, P16⟩
              rw [List.take_of_length_le (by unfold varsZ; rw [List.length_map, hzl]; exact Nat.le_refl _)] at P16
              obtain ⟨vt, mt⟩ := hM.varsT
              obtain ⟨vps, ve, vA, vv⟩ := P16
              refine ⟨E2, vps, rfl, lstL ve, vA, (vt.lmeanV (by decide) (by decide)).to vv, fun H17 inn k17 f17 => ?_⟩
              rw [meanF_v, vv] at f17
              have k47 := k15.trans (k16.trans k17)
              have PT17 := PT14.kp0 k47
              have PM17 := P15.kp0 (k16.trans k17)
              obtain ⟨tps, te7, tA7, tv7⟩ := PT17
              obtain ⟨mps, me7, mA7, mv7⟩ := PM17
              have hG := hWZ.gath (by decide) (by decide)
              have hGt := hG.terms (by decide) (by decide)
              obtain ⟨sp1, sp2, sp3, sp4, sp5⟩ := hM.spread
              obtain ⟨mm1, _, _⟩ := hM.mean
              have mvar := hM.var
              walk_at "z"
              refine ⟨tl, tps, rfl, lstL te7, tA7, (hGt.meanV (by decide) (by decide)).to tv7, fun H18 c1 k18 f18 => ?_⟩
              rw [meanF_v, tv7, mm1] at f18
              walk_at "z"
              refine ⟨E, mps, rfl, lstL (k18.get nin0 me7), fun p hp => (mA7 p hp).kp0 k18, (hM.meansT.lmeanV (by decide) (by decide)).to mv7, fun H19 c2 k19 f19 => ?_⟩
              rw [meanF_v, mv7] at f19
              walk_at "z"
              refine neF (f18.kp0 k19) f19 ?_
              rw [decide_eq_true rfl]
              walk_at "z"
              have k79 := k18.trans k19
              refine ⟨tl, tps, rfl, lstL (k79.get nin0 te7), fun p hp => (tA7 p hp).kp0 k79, by rw [tv7]; exact (hG.trip (by decide) (by decide)).cov, fun H20 c3 k20 f20 => ?_⟩
              rw [tv7, mvar] at f20
              have k70 := k79.trans k20
              walk_at "z"
              refine ⟨E, mps, rfl, lstL (k70.get nin0 me7), fun p hp => (mA7 p hp).kp0 k70, by rw [mv7]; exact sp1, fun H21 c4 k21 f21 => ?_⟩
              rw [mv7] at f21
              walk_at "z"
              refine ⟨inn, c4, _, _, rfl, f17.kp0 (k70.trans k21), f21, sp5, sp3, ⟨150, 500, sp4, sp2, by decide⟩, fun H22 c5 nc5 k22 f22 => ?_⟩
              walk_at "z"
              refine neF (f20.kp0 (k21.trans k22)) f22 ?_
              rw [decide_eq_true rfl]
              walk_at "z"
              have k42 : Kp [] H14 H22 := k47.trans (k70.trans (k21.trans k22))
              obtain ⟨hb1, hb2⟩ := half_bad sh1 sh2 sh3 (by omega)
              refine Z.lcl (cs.map V.ref) (lstL (k42.get nin0 e14f)) (fun E3 i H' => ∃ as : List Addr, Kp [] H22 H' ∧ H' E3 = some (.lst (as.map V.ref)) ∧ FrsAt K H' as (((shF js).map halfF).take i)) ?_ ?_ ?_ ?_
              · intro E3 H23 nE3 k23 e23
                exact ⟨[], k23, e23, .nil⟩
              · rintro E3 i H23 nE3 hi ⟨as, k23, _⟩
                exact lstL (k23.get nin0 (k42.get nin0 e14f))
              · rintro E3 i v H23 nE3 hv ⟨as, k23, e23, F23⟩
                obtain ⟨x, g, rfl, hg, hx⟩ := ((F14.kp0 k42).kp0 k23).get hv
                have hgm := List.mem_of_getElem? hg
                have hil : i < (shF js).length := (List.getElem?_eq_some_iff.mp hg).1
                obtain ⟨q1, q2, _, _⟩ := sh1 g hgm
                dsimp only [wipe, List.set]
                walk_at "z"
                refine ⟨rfl, ?_⟩
                walk_at "z"
                refine Z.tupK (fun t H24 nt k24 e24 => ?_)
                refine ⟨x, t, g, (1, 2), rfl, hx.kp0 k24, tupT e24, q1.1, by decide, ⟨5, 5, q2, ⟨by decide, by decide⟩, by decide⟩, fun H25 y ny k25 e25 => ?_⟩
                have k35 := k24.trans k25
                have e25D := k35.get nin0 e23
                refine ⟨_, e25D, Z.szl (m := 1000) (by rw [List.length_map, F23.len, List.length_take, List.length_map]; omega), as ++ [y], (k23.trans k35).mut nE3 rfl, by rw [upd_same, List.map_append]; rfl, ?_⟩
                have hh : ((shF js).map halfF)[i]? = some (halfF g) := by rw [List.getElem?_map, hg]; rfl
                rw [List.take_add_one, hh]
                exact ((F23.kp0 k35).snoc e25).kpl (Kp.put (by simp)) e25D
              · rintro E3 H23 nE3 ⟨as, k23, e23, F23⟩
                rw [show ((shF js).map halfF).take (cs.map V.ref).length = (shF js).map halfF from List.take_of_length_le (by rw [List.length_map, List.length_map, F10.len]; exact Nat.le_refl _)] at F23
                walk_at "z"
                refine ⟨D, E3, as, _, rfl, lstL e23, F23, hb1, hb2, fun H24 k24 => ?_⟩
                walk_at "z"
                have k44 := k42.trans (k23.trans k24)
                have e24D := k44.get nin0 e14D
                have e24f := k44.get nin0 e14f
                have F24 : FrsAt K H24 cs (shF js) := F14.kp0 k44
                refine Z.cat e24D e24D (by rw [List.length_map]; omega) (fun LL H25 nLL k25 e25 => ?_)
                walk_at "z"
                refine Z.slL (lstL (k25.get nin0 e24f)) (fun sl H26 nsl k26 e26 => ?_)
                walk_at "z"
                rw [show ((1 : Int)) = ((1 : Nat) : Int) from rfl, cut_drop (by rw [List.length_map, F10.len]; omega)] at e26
                refine Z.lcl ((cs.map V.ref).drop 1) (lstL e26) (fun E4 i H' => ∃ as : List Addr, Kp [] H26 H' ∧ H' E4 = some (.lst (as.map V.ref)) ∧ FrsAt K H' as (List.replicate i (0, 1))) ?_ ?_ ?_ ?_
                · intro E4 H27 nE4 k27 e27
                  exact ⟨[], k27, e27, .nil⟩
                · rintro E4 i H27 nE4 hi ⟨as, k27, _⟩
                  exact lstL (k27.get nin0 e26)
                · rintro E4 i v H27 nE4 hv ⟨as, k27, e27, F27⟩
                  have hil : i < cs.length := by
                    have := (List.getElem?_eq_some_iff.mp hv).1
                    rw [List.length_drop, List.length_map] at this
                    omega
                  have hcl := F10.len
                  dsimp only [wipe, List.set]
                  walk_at "z"
                  refine ⟨rfl, ?_⟩
                  walk_at "z"
                  refine Z.tupK (fun t H28 nt k28 e28 => ?_)
                  have e28D := k28.get nin0 e27
                  refine ⟨_, e28D, Z.szl (m := 1000) (by rw [List.length_map, F27.len, List.length_replicate]; omega), as ++ [t], (k27.trans k28).mut nE4 rfl, by rw [upd_same, List.map_append]; rfl, ?_⟩
                  rw [List.replicate_succ']
                  exact ((F27.kp0 k28).snoc (tupT e28)).kpl (Kp.put (by simp)) e28D
                · rintro E4 H27 nE4 ⟨as4, k27, e27, F27⟩
                  have hrl : ((cs.map V.ref).drop 1).length ≤ 4 := by
                    rw [List.length_drop, List.length_map, F10.len]
                    omega
                  generalize ((cs.map V.ref).drop 1).length = nz at F27 hrl
                  obtain ⟨mb1, mb2⟩ := more_bad (n := nz) sh1 sh2 sh3 (by omega) hrl
                  have k47' : Kp [] H24 H27 := k25.trans (k26.trans k27)
                  refine Z.cat (k47'.get nin0 e24f) e27 (by rw [List.length_map, List.length_map, F27.len, List.length_replicate, F10.len]; omega) (fun q1 H28 nq1 k28 e28 => ?_)
                  walk_at "z"
                  refine Z.tupK (fun t H29 nt k29 e29 => ?_)
                  walk_at "z"
                  refine Z.lstK (fun q2 H30 nq2 k30 e30 => ?_)
                  refine Z.cat ((k29.trans k30).get nin0 e28) e30 (by rw [List.length_append, List.length_map, List.length_map, F27.len, List.length_replicate, F10.len]; show _ + 1 ≤ _; omega) (fun q3 H31 nq3 k31 e31 => ?_)
                  walk_at "z"
                  have k81 : Kp [] H28 H31 := k29.trans (k30.trans k31)
                  have k71 : Kp [] H27 H31 := k28.trans k81
                  have FF : FrsAt K H31 (cs ++ as4 ++ [t]) (shF js ++ List.replicate nz (0, 1) ++ [(1, 3)]) := (((F24.kp0 k47').kp0 k71).app (F27.kp0 k71)).app (.cons (show FrAt K H31 t (1, 3) from tupT ((k30.trans k31).get nin0 e29)) .nil)
                  refine ⟨LL, q3, cs ++ as4 ++ [t], _, rfl, lstL (by rw [e31, List.map_append, List.map_append]; rfl), FF, mb1, mb2, fun H32 k32 => ?_⟩
                  walk_at "z"
                  have k14' : Kp [] H14 H32 := k44.trans (k47'.trans (k71.trans k32))
                  have d32 := d14.kp0 k14'
                  have e32D := k14'.get nin0 e14D
                  refine Z.lenL (lstL e32D) ?_
                  rw [List.length_map, l9]
                  walk_at "z"
                  refine ⟨a, p, (nl : Int), rfl, d32, by omega, by omega, fun H33 v v0 v1 k33 d33 => ?_⟩
                  walk_at "z"
                  obtain ⟨v, rfl⟩ : ∃ j : Nat, v = (j : Int) := ⟨v.toNat, by omega⟩
                  obtain ⟨oo, _, _, hoo, hoom, _, _, _⟩ := hz14 v (by omega)
                  have e33D := k33.get (nin1 neDa) e32D
                  refine Z.ixL (v := .ref oo.a) (lstL e33D) (atI_nat (by rw [List.getElem?_map, hoo]; rfl)) ?_
                  walk_at "z"
                  have k22' : Kp [] H22 H32 := (k23.trans k24).trans (k47'.trans (k71.trans k32))
                  have k17' : Kp [] H17 H32 := (k70.trans (k21.trans k22)).trans k22'
                  have te32 := k17'.get nin0 te7
                  have te33 := k33.get (nin1 (deck_ne d32 (rs := tps.map PRow.a) (by rw [te32, List.map_map]; rfl))) te32
                  have tA33 : ∀ x ∈ tps, PRowAt K H33 x := fun x hx => ((tA7 x hx).kp0 k17').kpM k33 d32.nt
                  have Ao := ((A14' oo hoom).kp0 k14').kpd d32 k33
                  have htl : tps.length ≤ 16 := by
                    have h1 := hG.len
                    rw [← tv7, List.length_map] at h1
                    exact h1
                  have hol : oo.gs.length ≤ 4 := by rw [Ao.gz.len]; exact Ao.len
                  have htj := trip_join hG Ao.law (by decide) (by decide) Ao.len
                  refine ⟨tl, oo.a, tps, oo.gs.map GRow.p, rfl, lstL te33, tA33, by rw [← grow_p]; exact lstL Ao.here, fun x hx => ?_, by omega, by rw [List.length_map]; omega, fun x hx => ?_, fun x hx => ?_, fun H34 jl2 jo nj k34 e34 A34 v34 => ?_⟩
                  · obtain ⟨g, hg, rfl⟩ := List.mem_map.mp hx
                    exact (Ao.rows g hg).p (Ao.num g hg)
                  · have hz : x.v ∈ gathZ (wholeZ (os.map LO.z) (shF js)) := by rw [← tv7]; exact List.mem_map_of_mem hx
                    obtain ⟨x1, x2, _⟩ := hG.ch _ hz
                    exact ⟨x1.ne, (den_B (k := 41) x1 x2 hG.D1.1 hG.D1.2 (by decide) (by decide)).mono (by decide)⟩
                  · have hz : x.v ∈ oo.z := by unfold LO.z; exact List.mem_map_of_mem hx
                    obtain ⟨q1, q2⟩ := hbnd oo hoom _ hz
                    exact ⟨by have : 1 ≤ x.f.2 := q1; omega, q2.mono (by decide)⟩
                  rw [tv7] at v34
                  refine Z.lcl (jo.map JRow.r) (lstL e34) (fun E5 i H' => ∃ ts : List TRow, Kp [] H34 H' ∧ H' E5 = some (.lst (ts.map TRow.r)) ∧ (∀ t ∈ ts, TRowAt K H' t) ∧ ts.map TRow.v = (jo.map JRow.v).take i) ?_ ?_ ?_ ?_
                  · intro E5 H35 nE5 k35 e35
                    exact ⟨[], k35, e35, by simp, by simp⟩
                  · rintro E5 i H35 nE5 hi ⟨ts, k35, _⟩
                    exact lstL (k35.get nin0 e34)
                  · rintro E5 i w2 H35 nE5 hv ⟨ts, k35, e35, A35, v35⟩
                    rw [List.getElem?_map] at hv
                    obtain ⟨x, hx, rfl⟩ := Option.map_eq_some_iff.mp hv
                    have hil : i < jo.length := (List.getElem?_eq_some_iff.mp hx).1
                    have hxA := (A34 x (List.mem_of_getElem? hx)).kp0 k35
                    have htl2 : ts.length ≤ i := by
                      have := congrArg List.length v35
                      rw [List.length_map, List.length_take] at this
                      omega
                    have hjl : jo.length ≤ 64 := by
                      have h1 := congrArg List.length v34
                      rw [List.length_map] at h1
                      rw [h1]
                      exact htj.len
                    dsimp only [wipe, List.set]
                    refine Z.gtup hxA.tup rfl ?_
                    walk_at "z"
                    refine ⟨rfl, ?_⟩
                    walk_at "z"
                    refine Z.ixT hxA.pair (v := .ref x.b) rfl ?_
                    walk_at "z"
                    refine Z.ixT hxA.pair (v := .ref x.o) rfl ?_
                    walk_at "z"
                    refine Z.tupK (fun t H36 nt k36 e36 => ?_)
                    have e36D := k36.get nin0 e35
                    have kE : Kp [E5] H36 (upd H36 E5 (.lst (ts.map TRow.r ++ [.ref t]))) := Kp.put (by simp)
                    refine ⟨_, e36D, Z.szl (m := 1000) (by rw [List.length_map]; omega), ts ++ [⟨t, x.b, x.o, x.c, x.x, x.y, x.f⟩], (k35.trans k36).mut nE5 rfl, by rw [upd_same, List.map_append]; rfl, fun y hy => ?_, ?_⟩
                    · rcases List.mem_append.mp hy with hy | hy
                      · exact ((A35 y hy).kp0 k36).kpl kE e36D
                      · rw [List.mem_singleton.mp hy]
                        have hxA6 := hxA.kp0 k36
                        exact TRowAt.kpl (p := ⟨t, x.b, x.o, x.c, x.x, x.y, x.f⟩) ⟨tupT e36, hxA6.one, hxA6.two, hxA6.fr⟩ kE e36D
                    · have hjv : (jo.map JRow.v)[i]? = some x.v := by rw [List.getElem?_map, hx]; rfl
                      rw [List.map_append, v35, List.take_add_one, hjv]
                      rfl
                  · rintro E5 H35 nE5 ⟨ts, k35, e35, A35, v35⟩
                    rw [List.length_map, ← List.length_map (f := JRow.v), List.take_length, v34] at v35
                    walk_at "z"
                    refine ⟨E5, ts, rfl, lstL e35, A35, by rw [v35]; exact htj.cov, fun H36 cv k36 f36 => ?_⟩
                    rw [v35, show covV (joinV (gathZ (wholeZ (os.map LO.z) (shF js))) ((oo.gs.map GRow.p).map PRow.v)) = (0, 1) from cov_joined hG.ne Ao.law.ne hG.sum Ao.law.sum] at f36
                    walk_at "z"
                    refine Z.tupK (fun t H37 nt k37 e37 => ?_)
                    refine neF (g := (0, 1)) (f36.kp0 k37) (tupT e37) ?_
                    rw [decide_eq_true rfl]
                    walk_at "z"
                    have PR32 := PR14.kp0 k14'
                    have d37 := (d33.kp0 k34).kp0 (k35.trans (k36.trans k37))
                    have PR33 : PRows K H33 r zs := by
                      obtain ⟨ps, x1, x2, x3⟩ := PR32
                      exact ⟨ps, k33.get (nin1 (deck_ne d32 (rs := ps.map PRow.a) (by rw [x1, List.map_map]; rfl))) x1, fun x hx => (x2 x hx).kpM k33 d32.nt, x3⟩
                    have PR37 := (PR33.kp0 k34).kp0 (k35.trans (k36.trans k37))
                    obtain ⟨rps, re, rA, rv9⟩ := PR37
                    have hrl : rps.length ≤ 16 := by
                      have h1 := hZ.len
                      rw [← rv9, List.length_map] at h1
                      exact h1
                    have nra : r ≠ a := deck_ne d37 (rs := rps.map PRow.a) (by rw [re, List.map_map]; rfl)
                    refine Z.lcl (rps.map PRow.r) (lstL re) (fun E6 i H' => ∃ ts : List TRow, Kp [a] H37 H' ∧ DeckOk H' a p ∧ H' E6 = some (.lst (ts.map TRow.r)) ∧ (∀ t ∈ ts, TRowAt K H' t ∧ NumOk t.y) ∧ (ts.map TRow.v).map oneV = (rps.map PRow.v).take i) ?_ ?_ ?_ ?_
                    · intro E6 H38 nE6 k38 e38
                      exact ⟨[], k38.sub (by simp), d37.kp0 k38, e38, by simp, by simp⟩
                    · rintro E6 i H38 nE6 hi ⟨ts, k38, _⟩
                      exact k38.seq (nin1 nra) (lstL re)
                    · rintro E6 i w2 H38 nE6 hv ⟨ts, k38, d38, e38, A38, v38⟩
                      have haE := d37.ne nE6
                      rw [List.getElem?_map] at hv
                      obtain ⟨x, hx, rfl⟩ := Option.map_eq_some_iff.mp hv
                      have hil : i < rps.length := (List.getElem?_eq_some_iff.mp hx).1
                      have hxA := (rA x (List.mem_of_getElem? hx)).kpM k38 d37.nt
                      have htl2 : ts.length ≤ i := by
                        have := congrArg List.length v38
                        rw [List.length_map, List.length_map, List.length_take] at this
                        omega
                      dsimp only [wipe, List.set]
                      refine Z.gtup hxA.tup rfl ?_
                      walk_at "z"
                      refine ⟨rfl, ?_⟩
                      walk_at "z"
                      refine ⟨a, p, 9, rfl, d38, by decide, by decide, fun H39 u u0 u9 k39 d39 => ?_⟩
                      walk_at "z"
                      refine ⟨a, p, 3, rfl, d39, by decide, by decide, fun H40 w9 w0 w3 k40 d40 => ?_⟩
                      walk_at "z"
                      refine ⟨u - 4, 1 + w9, rfl, by omega, Nat.lt_of_le_of_lt (show (1 + w9).natAbs ≤ 4 by omega) (by decide), fun H41 b2 nb2 k41 e41 => ?_⟩
                      walk_at "z"
                      refine Z.tupK (fun t H42 nt k42' e42 => ?_)
                      have k39' := k39.trans k40
                      have k41' := k41.trans k42'
                      have kall : Kp [a] H38 H42 := k39'.trans (k41'.sub (by simp))
                      have e42D := k41'.get nin0 (k39'.get (nin1 haE.1.symm) e38)
                      have kE : Kp [E6] H42 (upd H42 E6 (.lst (ts.map TRow.r ++ [.ref t]))) := Kp.put (by simp)
                      have hxA2 := hxA.kpM kall d38.nt
                      refine ⟨_, e42D, Z.szl (m := 1000) (by rw [List.length_map]; omega), ts ++ [⟨t, x.b, b2, x.c, x.g, lo (u - 4) (1 + w9), x.f⟩], (k38.trans kall).mut nE6 rfl, (d40.kp0 k41').upd haE.1 haE.2, by rw [upd_same, List.map_append]; rfl, fun y hy => ?_, ?_⟩
                      · rcases List.mem_append.mp hy with hy | hy
                        · exact ⟨((A38 y hy).1.kpM kall d38.nt).kpl kE e42D, (A38 y hy).2⟩
                        · rw [List.mem_singleton.mp hy]
                          exact ⟨TRowAt.kpl (p := ⟨t, x.b, b2, x.c, x.g, lo (u - 4) (1 + w9), x.f⟩) ⟨tupT e42, hxA2.num, FrAt.kp0 (tupT e41) k42', hxA2.fr⟩ kE e42D, ⟨u - 4, 1 + w9, rfl, by omega, by omega, by omega, by omega⟩⟩
                      · have hpv2 : (rps.map PRow.v)[i]? = some x.v := by rw [List.getElem?_map, hx]; rfl
                        rw [List.map_append, List.map_append, v38, List.take_add_one, hpv2]
                        rfl
                    rintro E6 H38 nE6 ⟨ts6, k38, d38, e38, A38, v38⟩
                    rw [List.length_map, ← List.length_map (f := PRow.v), List.take_length, rv9] at v38
                    have hSec : SecOk ms.sum.toNat 2 4 zs (ts6.map TRow.v) := ⟨v38, fun z hz => by
                      obtain ⟨t, ht, rfl⟩ := List.mem_map.mp hz
                      exact (A38 t ht).2, hZ⟩
                    have B38 : ∀ t ∈ ts6, TRowAt K H38 t := fun t ht => (A38 t ht).1
                    have hl6 : ts6.length ≤ 16 := by
                      have := hSec.len
                      rwa [List.length_map] at this
                    obtain ⟨tt2, tt3⟩ := hSec.terms2 (by decide) (by decide)
                    have tt1 := hZ.terms (by decide) (by decide)
                    walk_at "z"
                    refine Z.lcl (ts6.map TRow.r) (lstL e38) (fun E i H' => Kp [] H38 H' ∧ PRows K H' E (((ts6.map TRow.v).take i).map prodV)) ?_ ?_ ?_ ?_
                    · intro E H1' nE k1' e1'
                      exact ⟨k1', PRows.new e1'⟩
                    · rintro E i H1' nE hi ⟨k1', _⟩
                      exact lstL (k1'.get nin0 e38)
                    · rintro E i w9 H1' nE hv ⟨k1', P1'⟩
                      rw [List.getElem?_map] at hv
                      obtain ⟨t, ht, rfl⟩ := Option.map_eq_some_iff.mp hv
                      have hil : i < ts6.length := (List.getElem?_eq_some_iff.mp ht).1
                      have htA := (B38 t (List.mem_of_getElem? ht)).kp0 k1'
                      have htv : (ts6.map TRow.v)[i]? = some t.v := by rw [List.getElem?_map, ht]; rfl
                      dsimp only [wipe, List.set]
                      refine Z.gtup htA.tup rfl ?_
                      walk_at "z"
                      refine ⟨rfl, ?_⟩
                      walk_at "z"
                      have hzw := hSec.at (z := t.v) (List.mem_of_getElem? htv)
                      have g1 := num_ok hzw.1
                      have g2 := num_ok hzw.2.1
                      refine ⟨t.b, t.o, t.x, t.y, rfl, htA.one, htA.two, g1.1.1, g2.1.1, ⟨4, 4, g1.2.1, g2.2.1, by decide⟩, fun H3' y' ny' k3' e3' => ?_⟩
                      walk_at "z"
                      refine Z.tupK (fun u H2' nu k2' e2' => ?_)
                      have k23' := k3'.trans k2'
                      have P2' := P1'.kp0 k23'
                      obtain ⟨xs', hx', hxl'⟩ := P2'.here
                      refine ⟨xs', hx', Z.szl (m := 1000) (by rw [hxl', List.length_map, List.length_take, List.length_map]; omega), (k1'.trans k23').mut nE rfl, ?_⟩
                      rw [List.take_add_one, htv, List.map_append]
                      exact P2'.snoc hx' e2' (e3'.kp0 k2') (htA.kp0 k23').fr
                    rintro E7a H5a nE7a ⟨k5a, P5a⟩
                    rw [List.length_map, ← List.length_map (f := TRow.v), List.take_length] at P5a
                    obtain ⟨q5a, qe5a, qA5a, qv5a⟩ := P5a
                    refine ⟨E7a, q5a, rfl, lstL qe5a, qA5a, (tt3.lmeanV (by decide) (by decide)).to qv5a, fun H6a m6a k6a f6a => ?_⟩
                    rw [meanF_v, qv5a] at f6a
                    walk_at "z"
                    have Ka := k5a.trans k6a
                    have eA := Ka.get nin0 e38
                    have BA : ∀ t ∈ ts6, TRowAt K H6a t := fun t ht => (B38 t ht).kp0 Ka
                    refine Z.lcl (ts6.map TRow.r) (lstL eA) (fun E i H' => Kp [] H6a H' ∧ PRows K H' E (((ts6.map TRow.v).take i).map oneV)) ?_ ?_ ?_ ?_
                    · intro E H1' nE k1' e1'
                      exact ⟨k1', PRows.new e1'⟩
                    · rintro E i H1' nE hi ⟨k1', _⟩
                      exact lstL (k1'.get nin0 eA)
                    · rintro E i w9 H1' nE hv ⟨k1', P1'⟩
                      rw [List.getElem?_map] at hv
                      obtain ⟨t, ht, rfl⟩ := Option.map_eq_some_iff.mp hv
                      have hil : i < ts6.length := (List.getElem?_eq_some_iff.mp ht).1
                      have htA := (BA t (List.mem_of_getElem? ht)).kp0 k1'
                      have htv : (ts6.map TRow.v)[i]? = some t.v := by rw [List.getElem?_map, ht]; rfl
                      dsimp only [wipe, List.set]
                      refine Z.gtup htA.tup rfl ?_
                      walk_at "z"
                      refine ⟨rfl, ?_⟩
                      walk_at "z"
                      refine Z.tupK (fun u H2' nu k2' e2' => ?_)
                      have P2' := P1'.kp0 k2'
                      obtain ⟨xs', hx', hxl'⟩ := P2'.here
                      refine ⟨xs', hx', Z.szl (m := 1000) (by rw [hxl', List.length_map, List.length_take, List.length_map]; omega), (k1'.trans k2').mut nE rfl, ?_⟩
                      rw [List.take_add_one, htv, List.map_append]
                      exact P2'.snoc hx' e2' (htA.kp0 k2').one (htA.kp0 k2').fr
                    rintro E7b H5b nE7b ⟨k5b, P5b⟩
                    rw [List.length_map, ← List.length_map (f := TRow.v), List.take_length] at P5b
                    obtain ⟨q5b, qe5b, qA5b, qv5b⟩ := P5b
                    refine ⟨E7b, q5b, rfl, lstL qe5b, qA5b, (by rw [v38]; exact tt1.lmeanV (by decide) (by decide) : LMeanV ((ts6.map TRow.v).map oneV)).to qv5b, fun H6b m6b k6b f6b => ?_⟩
                    rw [meanF_v, qv5b] at f6b
                    walk_at "z"
                    have Kb := k5b.trans k6b
                    have eB := Kb.get nin0 eA
                    have BB : ∀ t ∈ ts6, TRowAt K H6b t := fun t ht => (BA t ht).kp0 Kb
                    refine Z.lcl (ts6.map TRow.r) (lstL eB) (fun E i H' => Kp [] H6b H' ∧ PRows K H' E (((ts6.map TRow.v).take i).map twoV)) ?_ ?_ ?_ ?_
                    · intro E H1' nE k1' e1'
                      exact ⟨k1', PRows.new e1'⟩
                    · rintro E i H1' nE hi ⟨k1', _⟩
                      exact lstL (k1'.get nin0 eB)
                    · rintro E i w9 H1' nE hv ⟨k1', P1'⟩
                      rw [List.getElem?_map] at hv
                      obtain ⟨t, ht, rfl⟩ := Option.map_eq_some_iff.mp hv
                      have hil : i < ts6.length := (List.getElem?_eq_some_iff.mp ht).1
                      have htA := (BB t (List.mem_of_getElem? ht)).kp0 k1'
                      have htv : (ts6.map TRow.v)[i]? = some t.v := by rw [List.getElem?_map, ht]; rfl
                      dsimp only [wipe, List.set]
                      refine Z.gtup htA.tup rfl ?_
                      walk_at "z"
                      refine ⟨rfl, ?_⟩
                      walk_at "z"
                      refine Z.tupK (fun u H2' nu k2' e2' => ?_)
                      have P2' := P1'.kp0 k2'
                      obtain ⟨xs', hx', hxl'⟩ := P2'.here
                      refine ⟨xs', hx', Z.szl (m := 1000) (by rw [hxl', List.length_map, List.length_take, List.length_map]; omega), (k1'.trans k2').mut nE rfl, ?_⟩
                      rw [List.take_add_one, htv, List.map_append]
                      exact P2'.snoc hx' e2' (htA.kp0 k2').two (htA.kp0 k2').fr
                    rintro E7c H5c nE7c ⟨k5c, P5c⟩
                    rw [List.length_map, ← List.length_map (f := TRow.v), List.take_length] at P5c
                    obtain ⟨q5c, qe5c, qA5c, qv5c⟩ := P5c
                    refine ⟨E7c, q5c, rfl, lstL qe5c, qA5c, (tt2.lmeanV (by decide) (by decide)).to qv5c, fun H6c m6c k6c f6c => ?_⟩
                    rw [meanF_v, qv5c] at f6c
                    walk_at "z"
                    have Kc := k5c.trans k6c
                    have eC := Kc.get nin0 eB
                    have BC : ∀ t ∈ ts6, TRowAt K H6c t := fun t ht => (BB t ht).kp0 Kc
                    refine ⟨E6, ts6, rfl, lstL eC, BC, (hSec.trip (by decide) (by decide)).cov, fun H70 cvv k70' f70 => ?_⟩
                    rw [hSec.cov] at f70
                    walk_at "z"
                    have o1 := tt1.mean.1
                    have o1b := tt1.meanB (k := 150) (by decide) (by decide)
                    rw [← v38] at o1 o1b
                    have o2 := tt2.mean.1
                    have o2b := tt2.meanB (k := 150) (by decide) (by decide)
                    have o3 := tt3.mean.1
                    have o3b := tt3.meanB (k := 150) (by decide) (by decide)
                    refine ⟨m6b, m6c, _, _, rfl, (f6b.kp0 Kc).kp0 k70', f6c.kp0 k70', o1.1, o2.1, ⟨150, 150, o1b, o2b, by decide⟩, fun H71 mm7 nm7 k71' f71 => ?_⟩
                    walk_at "z"
                    have hq := (lo_low (p := (meanV ((ts6.map TRow.v).map oneV)).1 * (meanV ((ts6.map TRow.v).map twoV)).1) (Int.mul_ne_zero o1.ne o2.ne)).1
                    refine ⟨m6a, mm7, _, _, rfl, (((f6a.kp0 Kb).kp0 Kc).kp0 k70').kp0 k71', f71, o3.1, hq, ⟨150, 300, o3b, ftimes_B o1b o2b o1.ne o2.ne, by decide⟩, fun H72 fin7 nf7 k72' f72 => ?_⟩
                    walk_at "z"
                    refine eqF (f70.kp0 (k71'.trans k72')) f72 ?_
                    rw [decide_eq_true rfl]
                    exact q _
end law12

set_option maxHeartbeats 4000000 in
theorem all_mk {l : PySem.W.OpenLaw} {w : World} {K : PySem.W.Frag} {h : Heap} {mg : Str → Option Value} {fa : Addr} {ts : List Addr} (X : K.In h) (G : h.Ns mainGlobals mg) (hts : ∀ P ∈ ts, h.get? P = some (PySem.W.tabObj #[])) (hfa : mg "law" = some (.ref fa))
    {CSamphireError : Addr}
    {CZeroDenominator fZeroDenominator cZeroDenominator ccZeroDenominator : Addr}
    {CInvalidLaw fInvalidLaw cInvalidLaw ccInvalidLaw : Addr}
    {od1 an1 : Option Addr} {sl1 : Array (Option Value)} {oc1 kV1 dc1 pm1 cd1 ct1 : Value} {f1 : Addr}
    {od2 an2 : Option Addr} {sl2 : Array (Option Value)} {oc2 kV2 dc2 pm2 cd2 ct2 : Value} {f2 : Addr}
    {od3 an3 : Option Addr} {sl3 : Array (Option Value)} {oc3 kV3 dc3 pm3 cd3 ct3 : Value} {f3 : Addr}
    {od4 an4 : Option Addr} {sl4 : Array (Option Value)} {oc4 kV4 dc4 pm4 cd4 ct4 : Value} {f4 : Addr}
    {od5 an5 : Option Addr} {sl5 : Array (Option Value)} {oc5 kV5 dc5 pm5 cd5 ct5 : Value} {f5 : Addr}
    {od6 an6 : Option Addr} {sl6 : Array (Option Value)} {oc6 kV6 dc6 pm6 cd6 ct6 : Value} {f6 : Addr}
    {od7 an7 : Option Addr} {sl7 : Array (Option Value)} {oc7 kV7 dc7 pm7 cd7 ct7 : Value} {f7 : Addr}
    {od8 an8 : Option Addr} {sl8 : Array (Option Value)} {oc8 kV8 dc8 pm8 ct8 : Value} {f8 : Addr}
    {tc8 tP8 : Addr} {toc8 : Value} {tod8 : Option Addr} {tcv8 : List Value} {tsl8 : Array (Option Value)}
    {od9 an9 : Option Addr} {sl9 : Array (Option Value)} {oc9 kV9 dc9 pm9 cd9 ct9 : Value} {f9 : Addr}
    {od10 an10 : Option Addr} {sl10 : Array (Option Value)} {oc10 kV10 dc10 pm10 cd10 ct10 : Value} {f10 : Addr}
    {od11 an11 : Option Addr} {sl11 : Array (Option Value)} {oc11 kV11 dc11 pm11 cd11 ct11 : Value} {f11 : Addr}
    {od12 an12 : Option Addr} {sl12 : Array (Option Value)} {oc12 kV12 dc12 pm12 cd12 ct12 : Value} {f12 : Addr}
    {od13 an13 : Option Addr} {sl13 : Array (Option Value)} {oc13 kV13 dc13 pm13 cd13 ct13 : Value} {f13 : Addr}
    {od14 an14 : Option Addr} {sl14 : Array (Option Value)} {oc14 kV14 dc14 pm14 cd14 ct14 : Value} {f14 : Addr}
    {od15 an15 : Option Addr} {sl15 : Array (Option Value)} {oc15 kV15 dc15 pm15 cd15 ct15 : Value} {f15 : Addr}
    {od16 an16 : Option Addr} {sl16 : Array (Option Value)} {oc16 kV16 dc16 pm16 cd16 ct16 : Value} {f16 : Addr}
    {od17 an17 : Option Addr} {sl17 : Array (Option Value)} {oc17 kV17 dc17 pm17 cd17 ct17 : Value} {f17 : Addr}
    {od18 an18 : Option Addr} {sl18 : Array (Option Value)} {oc18 kV18 dc18 pm18 cd18 ct18 : Value} {f18 : Addr}
    {od19 an19 : Option Addr} {sl19 : Array (Option Value)} {oc19 kV19 dc19 pm19 cd19 ct19 : Value} {f19 : Addr}
    {od20 an20 : Option Addr} {sl20 : Array (Option Value)} {oc20 kV20 dc20 pm20 cd20 ct20 : Value} {f20 : Addr}
    {od21 an21 : Option Addr} {sl21 : Array (Option Value)} {oc21 kV21 dc21 pm21 cd21 ct21 : Value} {f21 : Addr}
    {od22 an22 : Option Addr} {sl22 : Array (Option Value)} {oc22 kV22 dc22 pm22 cd22 ct22 : Value} {f22 : Addr}
    {od23 an23 : Option Addr} {sl23 : Array (Option Value)} {oc23 kV23 dc23 pm23 cd23 ct23 : Value} {f23 : Addr}
    {od24 an24 : Option Addr} {sl24 : Array (Option Value)} {oc24 kV24 dc24 pm24 cd24 ct24 : Value} {f24 : Addr}
    {od25 an25 : Option Addr} {sl25 : Array (Option Value)} {oc25 kV25 dc25 pm25 cd25 ct25 : Value} {f25 : Addr}
    {od26 an26 : Option Addr} {sl26 : Array (Option Value)} {oc26 kV26 dc26 pm26 cd26 ct26 : Value} {f26 : Addr}
    {nmZeroDenominator qZeroDenominator : Str} {NZeroDenominator : Addr} {bsZeroDenominator : List Value} {snZeroDenominator : List Str} {subZeroDenominator : List Value} {abZeroDenominator : Bool} {colZeroDenominator : Option Bool} {ddZeroDenominator : Option Addr} {m0ZeroDenominator m1ZeroDenominator m2ZeroDenominator m3ZeroDenominator m5ZeroDenominator : Option Value} {occZeroDenominator : Value} {cddZeroDenominator : Option Addr} {cvsZeroDenominator : List Value} {cslZeroDenominator : Array (Option Value)} {cclZeroDenominator : Value} {ccdZeroDenominator : Option Addr} {ccsZeroDenominator : Array (Option Value)} {ocZeroDenominator : Value} {odZeroDenominator : Option Addr} {oslZeroDenominator : Array (Option Value)} {docZeroDenominator pmZeroDenominator ctvZeroDenominator : Value}
    {nmInvalidLaw qInvalidLaw : Str} {NInvalidLaw : Addr} {bsInvalidLaw : List Value} {snInvalidLaw : List Str} {subInvalidLaw : List Value} {abInvalidLaw : Bool} {colInvalidLaw : Option Bool} {ddInvalidLaw : Option Addr} {m0InvalidLaw m1InvalidLaw m2InvalidLaw m3InvalidLaw m5InvalidLaw : Option Value} {occInvalidLaw : Value} {cddInvalidLaw : Option Addr} {cvsInvalidLaw : List Value} {cslInvalidLaw : Array (Option Value)} {cclInvalidLaw : Value} {ccdInvalidLaw : Option Addr} {ccsInvalidLaw : Array (Option Value)} {ocInvalidLaw : Value} {odInvalidLaw : Option Addr} {oslInvalidLaw : Array (Option Value)} {docInvalidLaw pmInvalidLaw ctvInvalidLaw : Value}
    {k_ZERO : Addr} {od_ZERO : Option Addr} {nn_ZERO : Nat} {sl_ZERO : Array (Option Value)} {t0_ZERO t1_ZERO : Tok}
    {k_ONE : Addr} {od_ONE : Option Addr} {nn_ONE : Nat} {sl_ONE : Array (Option Value)} {t0_ONE t1_ONE : Tok}
    (a1 : PySem.W.nsIn K mainGlobals "lowest" = some (some (.ref f1)))
    (l1 : K.lookup f1 = some ⟨oc1, od1, .func (PySem.W.fnOf "lowest" "lowest" (defArgs s_lowest) (defBody s_lowest) (defScope s_lowest) .none kV1 dc1 pm1 an1 cd1 ct1), sl1⟩)
    (c1 : PySem.W.codeIn K cd1 "lowest" = true)
    (k1 : PySem.W.keepIn K (.ref f1) = true)
    (a2 : PySem.W.nsIn K mainGlobals "plus" = some (some (.ref f2)))
    (l2 : K.lookup f2 = some ⟨oc2, od2, .func (PySem.W.fnOf "plus" "plus" (defArgs s_plus) (defBody s_plus) (defScope s_plus) .none kV2 dc2 pm2 an2 cd2 ct2), sl2⟩)
    (c2 : PySem.W.codeIn K cd2 "plus" = true)
    (k2 : PySem.W.keepIn K (.ref f2) = true)
    (a3 : PySem.W.nsIn K mainGlobals "minus" = some (some (.ref f3)))
    (l3 : K.lookup f3 = some ⟨oc3, od3, .func (PySem.W.fnOf "minus" "minus" (defArgs s_minus) (defBody s_minus) (defScope s_minus) .none kV3 dc3 pm3 an3 cd3 ct3), sl3⟩)
    (c3 : PySem.W.codeIn K cd3 "minus" = true)
    (k3 : PySem.W.keepIn K (.ref f3) = true)
    (a4 : PySem.W.nsIn K mainGlobals "times" = some (some (.ref f4)))
    (l4 : K.lookup f4 = some ⟨oc4, od4, .func (PySem.W.fnOf "times" "times" (defArgs s_times) (defBody s_times) (defScope s_times) .none kV4 dc4 pm4 an4 cd4 ct4), sl4⟩)
    (c4 : PySem.W.codeIn K cd4 "times" = true)
    (k4 : PySem.W.keepIn K (.ref f4) = true)
    (a5 : PySem.W.nsIn K mainGlobals "less" = some (some (.ref f5)))
    (l5 : K.lookup f5 = some ⟨oc5, od5, .func (PySem.W.fnOf "less" "less" (defArgs s_less) (defBody s_less) (defScope s_less) .none kV5 dc5 pm5 an5 cd5 ct5), sl5⟩)
    (c5 : PySem.W.codeIn K cd5 "less" = true)
    (k5 : PySem.W.keepIn K (.ref f5) = true)
    (a6 : PySem.W.nsIn K mainGlobals "sum_of" = some (some (.ref f6)))
    (l6 : K.lookup f6 = some ⟨oc6, od6, .func (PySem.W.fnOf "sum_of" "sum_of" (defArgs s_sum_of) (defBody s_sum_of) (defScope s_sum_of) .none kV6 dc6 pm6 an6 cd6 ct6), sl6⟩)
    (c6 : PySem.W.codeIn K cd6 "sum_of" = true)
    (k6 : PySem.W.keepIn K (.ref f6) = true)
    (a7 : PySem.W.nsIn K mainGlobals "check_chances" = some (some (.ref f7)))
    (l7 : K.lookup f7 = some ⟨oc7, od7, .func (PySem.W.fnOf "check_chances" "check_chances" (defArgs s_check_chances) (defBody s_check_chances) (defScope s_check_chances) .none kV7 dc7 pm7 an7 cd7 ct7), sl7⟩)
    (c7 : PySem.W.codeIn K cd7 "check_chances" = true)
    (k7 : PySem.W.keepIn K (.ref f7) = true)
    (a8 : PySem.W.nsIn K mainGlobals "law_from" = some (some (.ref f8)))
    (l8 : K.lookup f8 = some ⟨oc8, od8, .func (PySem.W.fnOf "law_from" "law_from" (defArgs s_law_from) (defBody s_law_from) (defScope s_law_from) .none kV8 dc8 pm8 an8 (.ref tc8) ct8), sl8⟩)
    (c8 : PySem.W.codeIn K (.ref tc8) "law_from" = true)
    (k8 : PySem.W.keepIn K (.ref f8) = true)
    (tl8 : K.lookup tc8 = some ⟨toc8, tod8, .fields tcv8.toArray, tsl8⟩)
    (tp8 : tcv8[11]? = some (.ref tP8))
    (th8 : PySem.W.codeHdIn K tc8 tP8 = true) (tn8 : K.lookup tP8 = none)
    (tm8 : tP8 ∈ ts)
    (a9 : PySem.W.nsIn K mainGlobals "mean" = some (some (.ref f9)))
    (l9 : K.lookup f9 = some ⟨oc9, od9, .func (PySem.W.fnOf "mean" "mean" (defArgs s_mean) (defBody s_mean) (defScope s_mean) .none kV9 dc9 pm9 an9 cd9 ct9), sl9⟩)
    (c9 : PySem.W.codeIn K cd9 "mean" = true)
    (k9 : PySem.W.keepIn K (.ref f9) = true)
    (a10 : PySem.W.nsIn K mainGlobals "variance" = some (some (.ref f10)))
    (l10 : K.lookup f10 = some ⟨oc10, od10, .func (PySem.W.fnOf "variance" "variance" (defArgs s_variance) (defBody s_variance) (defScope s_variance) .none kV10 dc10 pm10 an10 cd10 ct10), sl10⟩)
    (c10 : PySem.W.codeIn K cd10 "variance" = true)
    (k10 : PySem.W.keepIn K (.ref f10) = true)
    (a11 : PySem.W.nsIn K mainGlobals "covariance" = some (some (.ref f11)))
    (l11 : K.lookup f11 = some ⟨oc11, od11, .func (PySem.W.fnOf "covariance" "covariance" (defArgs s_covariance) (defBody s_covariance) (defScope s_covariance) .none kV11 dc11 pm11 an11 cd11 ct11), sl11⟩)
    (c11 : PySem.W.codeIn K cd11 "covariance" = true)
    (k11 : PySem.W.keepIn K (.ref f11) = true)
    (a12 : PySem.W.nsIn K mainGlobals "mixed" = some (some (.ref f12)))
    (l12 : K.lookup f12 = some ⟨oc12, od12, .func (PySem.W.fnOf "mixed" "mixed" (defArgs s_mixed) (defBody s_mixed) (defScope s_mixed) .none kV12 dc12 pm12 an12 cd12 ct12), sl12⟩)
    (c12 : PySem.W.codeIn K cd12 "mixed" = true)
    (k12 : PySem.W.keepIn K (.ref f12) = true)
    (a13 : PySem.W.nsIn K mainGlobals "joined" = some (some (.ref f13)))
    (l13 : K.lookup f13 = some ⟨oc13, od13, .func (PySem.W.fnOf "joined" "joined" (defArgs s_joined) (defBody s_joined) (defScope s_joined) .none kV13 dc13 pm13 an13 cd13 ct13), sl13⟩)
    (c13 : PySem.W.codeIn K cd13 "joined" = true)
    (k13 : PySem.W.keepIn K (.ref f13) = true)
    (a14 : PySem.W.nsIn K mainGlobals "_law_deck" = some (some (.ref f14)))
    (l14 : K.lookup f14 = some ⟨oc14, od14, .func (PySem.W.fnOf "_law_deck" "_law_deck" (defArgs s__law_deck) (defBody s__law_deck) (defScope s__law_deck) .none kV14 dc14 pm14 an14 cd14 ct14), sl14⟩)
    (c14 : PySem.W.codeIn K cd14 "_law_deck" = true)
    (k14 : PySem.W.keepIn K (.ref f14) = true)
    (a15 : PySem.W.nsIn K mainGlobals "_law_draw" = some (some (.ref f15)))
    (l15 : K.lookup f15 = some ⟨oc15, od15, .func (PySem.W.fnOf "_law_draw" "_law_draw" (defArgs s__law_draw) (defBody s__law_draw) (defScope s__law_draw) .none kV15 dc15 pm15 an15 cd15 ct15), sl15⟩)
    (c15 : PySem.W.codeIn K cd15 "_law_draw" = true)
    (k15 : PySem.W.keepIn K (.ref f15) = true)
    (a16 : PySem.W.nsIn K mainGlobals "_law_low" = some (some (.ref f16)))
    (l16 : K.lookup f16 = some ⟨oc16, od16, .func (PySem.W.fnOf "_law_low" "_law_low" (defArgs s__law_low) (defBody s__law_low) (defScope s__law_low) .none kV16 dc16 pm16 an16 cd16 ct16), sl16⟩)
    (c16 : PySem.W.codeIn K cd16 "_law_low" = true)
    (k16 : PySem.W.keepIn K (.ref f16) = true)
    (a17 : PySem.W.nsIn K mainGlobals "_law_plus" = some (some (.ref f17)))
    (l17 : K.lookup f17 = some ⟨oc17, od17, .func (PySem.W.fnOf "_law_plus" "_law_plus" (defArgs s__law_plus) (defBody s__law_plus) (defScope s__law_plus) .none kV17 dc17 pm17 an17 cd17 ct17), sl17⟩)
    (c17 : PySem.W.codeIn K cd17 "_law_plus" = true)
    (k17 : PySem.W.keepIn K (.ref f17) = true)
    (a18 : PySem.W.nsIn K mainGlobals "_law_times" = some (some (.ref f18)))
    (l18 : K.lookup f18 = some ⟨oc18, od18, .func (PySem.W.fnOf "_law_times" "_law_times" (defArgs s__law_times) (defBody s__law_times) (defScope s__law_times) .none kV18 dc18 pm18 an18 cd18 ct18), sl18⟩)
    (c18 : PySem.W.codeIn K cd18 "_law_times" = true)
    (k18 : PySem.W.keepIn K (.ref f18) = true)
    (a19 : PySem.W.nsIn K mainGlobals "_law_shares" = some (some (.ref f19)))
    (l19 : K.lookup f19 = some ⟨oc19, od19, .func (PySem.W.fnOf "_law_shares" "_law_shares" (defArgs s__law_shares) (defBody s__law_shares) (defScope s__law_shares) .none kV19 dc19 pm19 an19 cd19 ct19), sl19⟩)
    (c19 : PySem.W.codeIn K cd19 "_law_shares" = true)
    (k19 : PySem.W.keepIn K (.ref f19) = true)
    (a20 : PySem.W.nsIn K mainGlobals "_law_rows" = some (some (.ref f20)))
    (l20 : K.lookup f20 = some ⟨oc20, od20, .func (PySem.W.fnOf "_law_rows" "_law_rows" (defArgs s__law_rows) (defBody s__law_rows) (defScope s__law_rows) .none kV20 dc20 pm20 an20 cd20 ct20), sl20⟩)
    (c20 : PySem.W.codeIn K cd20 "_law_rows" = true)
    (k20 : PySem.W.keepIn K (.ref f20) = true)
    (a21 : PySem.W.nsIn K mainGlobals "_law_gathered" = some (some (.ref f21)))
    (l21 : K.lookup f21 = some ⟨oc21, od21, .func (PySem.W.fnOf "_law_gathered" "_law_gathered" (defArgs s__law_gathered) (defBody s__law_gathered) (defScope s__law_gathered) .none kV21 dc21 pm21 an21 cd21 ct21), sl21⟩)
    (c21 : PySem.W.codeIn K cd21 "_law_gathered" = true)
    (k21 : PySem.W.keepIn K (.ref f21) = true)
    (a22 : PySem.W.nsIn K mainGlobals "_law_mean" = some (some (.ref f22)))
    (l22 : K.lookup f22 = some ⟨oc22, od22, .func (PySem.W.fnOf "_law_mean" "_law_mean" (defArgs s__law_mean) (defBody s__law_mean) (defScope s__law_mean) .none kV22 dc22 pm22 an22 cd22 ct22), sl22⟩)
    (c22 : PySem.W.codeIn K cd22 "_law_mean" = true)
    (k22 : PySem.W.keepIn K (.ref f22) = true)
    (a23 : PySem.W.nsIn K mainGlobals "_law_minus" = some (some (.ref f23)))
    (l23 : K.lookup f23 = some ⟨oc23, od23, .func (PySem.W.fnOf "_law_minus" "_law_minus" (defArgs s__law_minus) (defBody s__law_minus) (defScope s__law_minus) .none kV23 dc23 pm23 an23 cd23 ct23), sl23⟩)
    (c23 : PySem.W.codeIn K cd23 "_law_minus" = true)
    (k23 : PySem.W.keepIn K (.ref f23) = true)
    (a24 : PySem.W.nsIn K mainGlobals "_law_spread" = some (some (.ref f24)))
    (l24 : K.lookup f24 = some ⟨oc24, od24, .func (PySem.W.fnOf "_law_spread" "_law_spread" (defArgs s__law_spread) (defBody s__law_spread) (defScope s__law_spread) .none kV24 dc24 pm24 an24 cd24 ct24), sl24⟩)
    (c24 : PySem.W.codeIn K cd24 "_law_spread" = true)
    (k24 : PySem.W.keepIn K (.ref f24) = true)
    (a25 : PySem.W.nsIn K mainGlobals "_law_refused" = some (some (.ref f25)))
    (l25 : K.lookup f25 = some ⟨oc25, od25, .func (PySem.W.fnOf "_law_refused" "_law_refused" (defArgs s__law_refused) (defBody s__law_refused) (defScope s__law_refused) .none kV25 dc25 pm25 an25 cd25 ct25), sl25⟩)
    (c25 : PySem.W.codeIn K cd25 "_law_refused" = true)
    (k25 : PySem.W.keepIn K (.ref f25) = true)
    (a26 : PySem.W.nsIn K mainGlobals "law" = some (some (.ref f26)))
    (l26 : K.lookup f26 = some ⟨oc26, od26, .func (PySem.W.fnOf "law" "law" (defArgs s_law) (defBody s_law) (defScope s_law) .none kV26 dc26 pm26 an26 cd26 ct26), sl26⟩)
    (c26 : PySem.W.codeIn K cd26 "law" = true)
    (k26 : PySem.W.keepIn K (.ref f26) = true)
    (aCSamphireError : PySem.W.nsIn K mainGlobals "SamphireError" = some (some (.ref CSamphireError)))
    (aCZeroDenominator : PySem.W.nsIn K mainGlobals "ZeroDenominator" = some (some (.ref CZeroDenominator)))
    (iCZeroDenominator : PySem.W.findIn K (.ref CZeroDenominator) "__init__" = some (some (.ref fZeroDenominator)))
    (tIZeroDenominator : PySem.W.typeIn K (.ref fZeroDenominator) = some (.type "function"))
    (lkZeroDenominator : K.lookup fZeroDenominator = some ⟨ocZeroDenominator, odZeroDenominator, .func ((NF_ZeroDenominator ccZeroDenominator cZeroDenominator).fd docZeroDenominator pmZeroDenominator ctvZeroDenominator), oslZeroDenominator⟩)
    (hcZeroDenominator : PySem.W.codeIn K (.ref cZeroDenominator) "ZeroDenominator.__init__" = true)
    (xLZeroDenominator : K.lookup CZeroDenominator = some (excClassObj nmZeroDenominator qZeroDenominator CZeroDenominator NZeroDenominator bsZeroDenominator [.ref CSamphireError, .type "ValueError", .type "Exception", .type "BaseException", .type "object"] true snZeroDenominator subZeroDenominator abZeroDenominator colZeroDenominator ddZeroDenominator m0ZeroDenominator m1ZeroDenominator m2ZeroDenominator m3ZeroDenominator m5ZeroDenominator "ValueError.__new__"))
    (saZeroDenominator : PySem.W.findIn K (.ref CZeroDenominator) "__setattr__" = some (some (.builtin "object.__setattr__")))
    (sBZeroDenominator : PySem.W.subIn K (.ref CZeroDenominator) (.type "BaseException") = some true)
    (tCZeroDenominator : PySem.W.typeIn K (.ref CZeroDenominator) = some (.type "type"))
    (kCZeroDenominator : PySem.W.keepIn K (.ref CZeroDenominator) = true)
    (coZeroDenominator : K.lookup cZeroDenominator = some ⟨occZeroDenominator, cddZeroDenominator, .fields cvsZeroDenominator.toArray, cslZeroDenominator⟩)
    (flZeroDenominator : Sup.flIs cvsZeroDenominator l.prog.main.file = true)
    (ceZeroDenominator : K.lookup ccZeroDenominator = some ⟨cclZeroDenominator, ccdZeroDenominator, .cell (some (.ref CZeroDenominator)), ccsZeroDenominator⟩)
    (mrZeroDenominator : PySem.W.mroIn K CZeroDenominator (.ref CZeroDenominator) = some true)
    (sVZeroDenominator : PySem.W.subIn K (.ref CZeroDenominator) (.type "ValueError") = some true)
    (anZeroDenominator : PySem.W.nsIn K PySem.cStatics "thirdparty.any" = some none)
    (suZeroDenominator : PySem.W.ks_superIn K CZeroDenominator CZeroDenominator "__init__" = some (some (.builtin "ValueError.__init__")))
    (tpZeroDenominator : (l.prog.main.scope.names.lookup ("super" : Str)).isSome = false)
    (hgZeroDenominator : PySem.W.findIn K (.ref CZeroDenominator) "__getattribute__" = some (some (.builtin "BaseException.__getattribute__")))
    (hkZeroDenominator : PySem.W.findIn K (.ref CZeroDenominator) "__getattr__" = some none)
    (hdZeroDenominator : PySem.W.hasDictIn K CZeroDenominator = true)
    (haZeroDenominator : PySem.W.findIn K (.ref CZeroDenominator) "__class__" = some (some (.builtin "object.__class__")))
    (hnZeroDenominator : PySem.W.specialIn K (.builtin "object.__class__") "__get__" = some (some (.builtin "getset_descriptor.__get__")))
    (htZeroDenominator : PySem.W.takesIn K (.builtin "object.__class__") = some true)
    (hmZeroDenominator : PySem.W.mroIn K CZeroDenominator (.type "object") = some true)
    (icZeroDenominator : PySem.W.isClsIn K CZeroDenominator = true)
    (sCZeroDenominator : PySem.W.subIn K (.ref CZeroDenominator) (.ref CZeroDenominator) = some true)
    (aCInvalidLaw : PySem.W.nsIn K mainGlobals "InvalidLaw" = some (some (.ref CInvalidLaw)))
    (iCInvalidLaw : PySem.W.findIn K (.ref CInvalidLaw) "__init__" = some (some (.ref fInvalidLaw)))
    (tIInvalidLaw : PySem.W.typeIn K (.ref fInvalidLaw) = some (.type "function"))
    (lkInvalidLaw : K.lookup fInvalidLaw = some ⟨ocInvalidLaw, odInvalidLaw, .func ((NF_InvalidLaw ccInvalidLaw cInvalidLaw).fd docInvalidLaw pmInvalidLaw ctvInvalidLaw), oslInvalidLaw⟩)
    (hcInvalidLaw : PySem.W.codeIn K (.ref cInvalidLaw) "InvalidLaw.__init__" = true)
    (xLInvalidLaw : K.lookup CInvalidLaw = some (excClassObj nmInvalidLaw qInvalidLaw CInvalidLaw NInvalidLaw bsInvalidLaw [.ref CSamphireError, .type "ValueError", .type "Exception", .type "BaseException", .type "object"] true snInvalidLaw subInvalidLaw abInvalidLaw colInvalidLaw ddInvalidLaw m0InvalidLaw m1InvalidLaw m2InvalidLaw m3InvalidLaw m5InvalidLaw "ValueError.__new__"))
    (saInvalidLaw : PySem.W.findIn K (.ref CInvalidLaw) "__setattr__" = some (some (.builtin "object.__setattr__")))
    (sBInvalidLaw : PySem.W.subIn K (.ref CInvalidLaw) (.type "BaseException") = some true)
    (tCInvalidLaw : PySem.W.typeIn K (.ref CInvalidLaw) = some (.type "type"))
    (kCInvalidLaw : PySem.W.keepIn K (.ref CInvalidLaw) = true)
    (coInvalidLaw : K.lookup cInvalidLaw = some ⟨occInvalidLaw, cddInvalidLaw, .fields cvsInvalidLaw.toArray, cslInvalidLaw⟩)
    (flInvalidLaw : Sup.flIs cvsInvalidLaw l.prog.main.file = true)
    (ceInvalidLaw : K.lookup ccInvalidLaw = some ⟨cclInvalidLaw, ccdInvalidLaw, .cell (some (.ref CInvalidLaw)), ccsInvalidLaw⟩)
    (mrInvalidLaw : PySem.W.mroIn K CInvalidLaw (.ref CInvalidLaw) = some true)
    (sVInvalidLaw : PySem.W.subIn K (.ref CInvalidLaw) (.type "ValueError") = some true)
    (anInvalidLaw : PySem.W.nsIn K PySem.cStatics "thirdparty.any" = some none)
    (suInvalidLaw : PySem.W.ks_superIn K CInvalidLaw CInvalidLaw "__init__" = some (some (.builtin "ValueError.__init__")))
    (tpInvalidLaw : (l.prog.main.scope.names.lookup ("super" : Str)).isSome = false)
    (hgInvalidLaw : PySem.W.findIn K (.ref CInvalidLaw) "__getattribute__" = some (some (.builtin "BaseException.__getattribute__")))
    (hkInvalidLaw : PySem.W.findIn K (.ref CInvalidLaw) "__getattr__" = some none)
    (hdInvalidLaw : PySem.W.hasDictIn K CInvalidLaw = true)
    (haInvalidLaw : PySem.W.findIn K (.ref CInvalidLaw) "__class__" = some (some (.builtin "object.__class__")))
    (hnInvalidLaw : PySem.W.specialIn K (.builtin "object.__class__") "__get__" = some (some (.builtin "getset_descriptor.__get__")))
    (htInvalidLaw : PySem.W.takesIn K (.builtin "object.__class__") = some true)
    (hmInvalidLaw : PySem.W.mroIn K CInvalidLaw (.type "object") = some true)
    (icInvalidLaw : PySem.W.isClsIn K CInvalidLaw = true)
    (sCInvalidLaw : PySem.W.subIn K (.ref CInvalidLaw) (.ref CInvalidLaw) = some true)
    (kitInvalidLawSamphireError : PySem.W.kitOne K (.ref CInvalidLaw) (.ref CSamphireError) = some true)
    (z_abs : PySem.W.nsIn K mainGlobals "abs" = some none)
    (z_int : PySem.W.nsIn K mainGlobals "int" = some none)
    (z_isinstance : PySem.W.nsIn K mainGlobals "isinstance" = some none)
    (z_len : PySem.W.nsIn K mainGlobals "len" = some none)
    (z_list : PySem.W.nsIn K mainGlobals "list" = some none)
    (z_range : PySem.W.nsIn K mainGlobals "range" = some none)
    (z_sorted : PySem.W.nsIn K mainGlobals "sorted" = some none)
    (z_sum : PySem.W.nsIn K mainGlobals "sum" = some none)
    (z_super : PySem.W.nsIn K mainGlobals "super" = some none)
    (z_zip : PySem.W.nsIn K mainGlobals "zip" = some none)
    (v_ZERO : PySem.W.nsIn K mainGlobals "ZERO" = some (some (.ref k_ZERO)))
    (l_ZERO : K.lookup k_ZERO = some ⟨.type "tuple", od_ZERO, .seq #[.int (0) t0_ZERO, .int (1) t1_ZERO] nn_ZERO, sl_ZERO⟩)
    (v_ONE : PySem.W.nsIn K mainGlobals "ONE" = some (some (.ref k_ONE)))
    (l_ONE : K.lookup k_ONE = some ⟨.type "tuple", od_ONE, .seq #[.int (1) t0_ONE, .int (1) t1_ONE] nn_ONE, sl_ONE⟩)
    (g_gcd : PySem.W.nsIn K mainGlobals "gcd" = some (some (.builtin "math.gcd"))) :
    LamX.LawAtS l w K (CX0) 10 63 "script" mg fa h := by
  have e : f26 = fa := by
    have e := hfa.symm.trans (PySem.W.mg_of X G a26)
    cases e
    rfl
  subst e
  have mk : ∀ base : Heap, (∀ p ∈ [(tc8, tP8)], LamX.TabB base mg p.1 p.2) → ∃ t : T l.prog K mg base, t.a_law = f26 ∧ t.fd_law = PySem.W.fnOf "law" "law" (defArgs s_law) (defBody s_law) (defScope s_law) .none kV26 dc26 pm26 an26 cd26 ct26 ∧ t.P_law_from = tP8 := fun base hTB => ⟨{
    a_lowest := f1, fd_lowest := _, F_lowest := fun_mk (st := s_lowest) l1 c1 k1, b_lowest := (fun_mk (st := s_lowest) l1 c1 k1).binds (ps := ["p", "q"]) (fun _ _ _ _ _ _ us hl => match us, hl with | [_, _], _ => rfl),
    g_lowest := PySem.W.mg_of X G a1,
    a_plus := f2, fd_plus := _, F_plus := fun_mk (st := s_plus) l2 c2 k2, b_plus := (fun_mk (st := s_plus) l2 c2 k2).binds (ps := ["a", "b"]) (fun _ _ _ _ _ _ us hl => match us, hl with | [_, _], _ => rfl),
    g_plus := PySem.W.mg_of X G a2,
    a_minus := f3, fd_minus := _, F_minus := fun_mk (st := s_minus) l3 c3 k3, b_minus := (fun_mk (st := s_minus) l3 c3 k3).binds (ps := ["a", "b"]) (fun _ _ _ _ _ _ us hl => match us, hl with | [_, _], _ => rfl),
    g_minus := PySem.W.mg_of X G a3,
    a_times := f4, fd_times := _, F_times := fun_mk (st := s_times) l4 c4 k4, b_times := (fun_mk (st := s_times) l4 c4 k4).binds (ps := ["a", "b"]) (fun _ _ _ _ _ _ us hl => match us, hl with | [_, _], _ => rfl),
    g_times := PySem.W.mg_of X G a4,
    a_less := f5, fd_less := _, F_less := fun_mk (st := s_less) l5 c5 k5, b_less := (fun_mk (st := s_less) l5 c5 k5).binds (ps := ["a", "b"]) (fun _ _ _ _ _ _ us hl => match us, hl with | [_, _], _ => rfl),
    g_less := PySem.W.mg_of X G a5,
    a_sum_of := f6, fd_sum_of := _, F_sum_of := fun_mk (st := s_sum_of) l6 c6 k6, b_sum_of := (fun_mk (st := s_sum_of) l6 c6 k6).binds (ps := ["fractions"]) (fun _ _ _ _ _ _ us hl => match us, hl with | [_], _ => rfl),
    g_sum_of := PySem.W.mg_of X G a6,
    a_check_chances := f7, fd_check_chances := _, F_check_chances := fun_mk (st := s_check_chances) l7 c7 k7, b_check_chances := (fun_mk (st := s_check_chances) l7 c7 k7).binds (ps := ["chances"]) (fun _ _ _ _ _ _ us hl => match us, hl with | [_], _ => rfl),
    g_check_chances := PySem.W.mg_of X G a7,
    c_law_from := tc8, P_law_from := tP8, TB_law_from := hTB (tc8, tP8) (by simp), L_law_from := ⟨_, _, _, _, _, _, _, _, rfl, l8, c8⟩,
    a_law_from := f8, fd_law_from := _, F_law_from := fun_mk (st := s_law_from) l8 c8 k8, b_law_from := (fun_mk (st := s_law_from) l8 c8 k8).binds (ps := ["rows"]) (fun _ _ _ _ _ _ us hl => match us, hl with | [_], _ => rfl),
    g_law_from := PySem.W.mg_of X G a8,
    a_mean := f9, fd_mean := _, F_mean := fun_mk (st := s_mean) l9 c9 k9, b_mean := (fun_mk (st := s_mean) l9 c9 k9).binds (ps := ["rows"]) (fun _ _ _ _ _ _ us hl => match us, hl with | [_], _ => rfl),
    g_mean := PySem.W.mg_of X G a9,
    a_variance := f10, fd_variance := _, F_variance := fun_mk (st := s_variance) l10 c10 k10, b_variance := (fun_mk (st := s_variance) l10 c10 k10).binds (ps := ["rows"]) (fun _ _ _ _ _ _ us hl => match us, hl with | [_], _ => rfl),
    g_variance := PySem.W.mg_of X G a10,
    a_covariance := f11, fd_covariance := _, F_covariance := fun_mk (st := s_covariance) l11 c11 k11, b_covariance := (fun_mk (st := s_covariance) l11 c11 k11).binds (ps := ["rows"]) (fun _ _ _ _ _ _ us hl => match us, hl with | [_], _ => rfl),
    g_covariance := PySem.W.mg_of X G a11,
    a_mixed := f12, fd_mixed := _, F_mixed := fun_mk (st := s_mixed) l12 c12 k12, b_mixed := (fun_mk (st := s_mixed) l12 c12 k12).binds (ps := ["laws", "chances"]) (fun _ _ _ _ _ _ us hl => match us, hl with | [_, _], _ => rfl),
    g_mixed := PySem.W.mg_of X G a12,
    a_joined := f13, fd_joined := _, F_joined := fun_mk (st := s_joined) l13 c13 k13, b_joined := (fun_mk (st := s_joined) l13 c13 k13).binds (ps := ["first", "second"]) (fun _ _ _ _ _ _ us hl => match us, hl with | [_, _], _ => rfl),
    g_joined := PySem.W.mg_of X G a13,
    a__law_deck := f14, fd__law_deck := _, F__law_deck := fun_mk (st := s__law_deck) l14 c14 k14, b__law_deck := (fun_mk (st := s__law_deck) l14 c14 k14).binds (ps := ["script"]) (fun _ _ _ _ _ _ us hl => match us, hl with | [_], _ => rfl),
    g__law_deck := PySem.W.mg_of X G a14,
    a__law_draw := f15, fd__law_draw := _, F__law_draw := fun_mk (st := s__law_draw) l15 c15 k15, b__law_draw := (fun_mk (st := s__law_draw) l15 c15 k15).binds (ps := ["deck", "most"]) (fun _ _ _ _ _ _ us hl => match us, hl with | [_, _], _ => rfl),
    g__law_draw := PySem.W.mg_of X G a15,
    a__law_low := f16, fd__law_low := _, F__law_low := fun_mk (st := s__law_low) l16 c16 k16, b__law_low := (fun_mk (st := s__law_low) l16 c16 k16).binds (ps := ["p", "q"]) (fun _ _ _ _ _ _ us hl => match us, hl with | [_, _], _ => rfl),
    g__law_low := PySem.W.mg_of X G a16,
    a__law_plus := f17, fd__law_plus := _, F__law_plus := fun_mk (st := s__law_plus) l17 c17 k17, b__law_plus := (fun_mk (st := s__law_plus) l17 c17 k17).binds (ps := ["one", "other"]) (fun _ _ _ _ _ _ us hl => match us, hl with | [_, _], _ => rfl),
    g__law_plus := PySem.W.mg_of X G a17,
    a__law_times := f18, fd__law_times := _, F__law_times := fun_mk (st := s__law_times) l18 c18 k18, b__law_times := (fun_mk (st := s__law_times) l18 c18 k18).binds (ps := ["one", "other"]) (fun _ _ _ _ _ _ us hl => match us, hl with | [_, _], _ => rfl),
    g__law_times := PySem.W.mg_of X G a18,
    a__law_shares := f19, fd__law_shares := _, F__law_shares := fun_mk (st := s__law_shares) l19 c19 k19, b__law_shares := (fun_mk (st := s__law_shares) l19 c19 k19).binds (ps := ["deck", "many"]) (fun _ _ _ _ _ _ us hl => match us, hl with | [_, _], _ => rfl),
    g__law_shares := PySem.W.mg_of X G a19,
    a__law_rows := f20, fd__law_rows := _, F__law_rows := fun_mk (st := s__law_rows) l20 c20 k20, b__law_rows := (fun_mk (st := s__law_rows) l20 c20 k20).binds (ps := ["deck"]) (fun _ _ _ _ _ _ us hl => match us, hl with | [_], _ => rfl),
    g__law_rows := PySem.W.mg_of X G a20,
    a__law_gathered := f21, fd__law_gathered := _, F__law_gathered := fun_mk (st := s__law_gathered) l21 c21 k21, b__law_gathered := (fun_mk (st := s__law_gathered) l21 c21 k21).binds (ps := ["rows"]) (fun _ _ _ _ _ _ us hl => match us, hl with | [_], _ => rfl),
    g__law_gathered := PySem.W.mg_of X G a21,
    a__law_mean := f22, fd__law_mean := _, F__law_mean := fun_mk (st := s__law_mean) l22 c22 k22, b__law_mean := (fun_mk (st := s__law_mean) l22 c22 k22).binds (ps := ["rows"]) (fun _ _ _ _ _ _ us hl => match us, hl with | [_], _ => rfl),
    g__law_mean := PySem.W.mg_of X G a22,
    a__law_minus := f23, fd__law_minus := _, F__law_minus := fun_mk (st := s__law_minus) l23 c23 k23, b__law_minus := (fun_mk (st := s__law_minus) l23 c23 k23).binds (ps := ["one", "other"]) (fun _ _ _ _ _ _ us hl => match us, hl with | [_, _], _ => rfl),
    g__law_minus := PySem.W.mg_of X G a23,
    a__law_spread := f24, fd__law_spread := _, F__law_spread := fun_mk (st := s__law_spread) l24 c24 k24, b__law_spread := (fun_mk (st := s__law_spread) l24 c24 k24).binds (ps := ["rows"]) (fun _ _ _ _ _ _ us hl => match us, hl with | [_], _ => rfl),
    g__law_spread := PySem.W.mg_of X G a24,
    a__law_refused := f25, fd__law_refused := _, F__law_refused := fun_mk (st := s__law_refused) l25 c25 k25, b__law_refused := (fun_mk (st := s__law_refused) l25 c25 k25).binds (ps := ["laws", "chances"]) (fun _ _ _ _ _ _ us hl => match us, hl with | [_, _], _ => rfl),
    g__law_refused := PySem.W.mg_of X G a25,
    a_law := f26, fd_law := _, F_law := fun_mk (st := s_law) l26 c26 k26, b_law := (fun_mk (st := s_law) l26 c26 k26).binds (ps := ["script"]) (fun _ _ _ _ _ _ us hl => match us, hl with | [_], _ => rfl),
    g_law := PySem.W.mg_of X G a26,
    C_SamphireError := CSamphireError, mg_SamphireError := PySem.W.mg_of X G aCSamphireError,
    C_ZeroDenominator := CZeroDenominator, a_ZeroDenominator_init := fZeroDenominator, c_ZeroDenominator := cZeroDenominator, cc_ZeroDenominator := ccZeroDenominator, doc_ZeroDenominator := docZeroDenominator, pm_ZeroDenominator := pmZeroDenominator, ctv_ZeroDenominator := ctvZeroDenominator, oc_ZeroDenominator := ocZeroDenominator, od_ZeroDenominator := odZeroDenominator, osl_ZeroDenominator := oslZeroDenominator, lk_ZeroDenominator := lkZeroDenominator, hc_ZeroDenominator := hcZeroDenominator,
    x_ZeroDenominator := Sup.excT_mk xLZeroDenominator rfl saZeroDenominator sBZeroDenominator tCZeroDenominator kCZeroDenominator coZeroDenominator flZeroDenominator ceZeroDenominator mrZeroDenominator sVZeroDenominator (PySem.W.mg_none_of X G z_super) anZeroDenominator suZeroDenominator tpZeroDenominator (PySem.W.mg_of X G aCZeroDenominator) iCZeroDenominator tIZeroDenominator ⟨hgZeroDenominator, hkZeroDenominator, sBZeroDenominator, hdZeroDenominator, haZeroDenominator, hnZeroDenominator, htZeroDenominator, hmZeroDenominator⟩ icZeroDenominator sCZeroDenominator,
    bx_ZeroDenominator := .all (fun us hl => match us, hl with | [_], _ => rfl),
    C_InvalidLaw := CInvalidLaw, a_InvalidLaw_init := fInvalidLaw, c_InvalidLaw := cInvalidLaw, cc_InvalidLaw := ccInvalidLaw, doc_InvalidLaw := docInvalidLaw, pm_InvalidLaw := pmInvalidLaw, ctv_InvalidLaw := ctvInvalidLaw, oc_InvalidLaw := ocInvalidLaw, od_InvalidLaw := odInvalidLaw, osl_InvalidLaw := oslInvalidLaw, lk_InvalidLaw := lkInvalidLaw, hc_InvalidLaw := hcInvalidLaw,
    x_InvalidLaw := Sup.excT_mk xLInvalidLaw rfl saInvalidLaw sBInvalidLaw tCInvalidLaw kCInvalidLaw coInvalidLaw flInvalidLaw ceInvalidLaw mrInvalidLaw sVInvalidLaw (PySem.W.mg_none_of X G z_super) anInvalidLaw suInvalidLaw tpInvalidLaw (PySem.W.mg_of X G aCInvalidLaw) iCInvalidLaw tIInvalidLaw ⟨hgInvalidLaw, hkInvalidLaw, sBInvalidLaw, hdInvalidLaw, haInvalidLaw, hnInvalidLaw, htInvalidLaw, hmInvalidLaw⟩ icInvalidLaw sCInvalidLaw,
    bx_InvalidLaw := .all (fun us hl => match us, hl with | [_], _ => rfl),
    kit_InvalidLaw_SamphireError := kitInvalidLawSamphireError,
    z_abs := PySem.W.mg_none_of X G z_abs,
    z_int := PySem.W.mg_none_of X G z_int,
    z_isinstance := PySem.W.mg_none_of X G z_isinstance,
    z_len := PySem.W.mg_none_of X G z_len,
    z_list := PySem.W.mg_none_of X G z_list,
    z_range := PySem.W.mg_none_of X G z_range,
    z_sorted := PySem.W.mg_none_of X G z_sorted,
    z_sum := PySem.W.mg_none_of X G z_sum,
    z_super := PySem.W.mg_none_of X G z_super,
    z_zip := PySem.W.mg_none_of X G z_zip,
    k_ZERO := k_ZERO, g_ZERO := PySem.W.mg_of X G v_ZERO, q_ZERO := fun H => .inr ⟨_, _, _, l_ZERO, rfl, rfl, (show 2 ≤ sizeLine by decide), (.cons ⟨_, rfl⟩ (.cons ⟨_, rfl⟩ .nil))⟩,
    k_ONE := k_ONE, g_ONE := PySem.W.mg_of X G v_ONE, q_ONE := fun H => .inr ⟨_, _, _, l_ONE, rfl, rfl, (show 2 ≤ sizeLine by decide), (.cons ⟨_, rfl⟩ (.cons ⟨_, rfl⟩ .nil))⟩,
    g_gcd := PySem.W.mg_of X G g_gcd }, rfl, rfl, rfl⟩
  refine ⟨PySem.W.fnOf "law" "law" (defArgs s_law) (defBody s_law) (defScope s_law) .none kV26 dc26 pm26 an26 cd26 ct26, [(tc8, tP8)], spLaw K tP8, List.forall_mem_cons.mpr ⟨hts _ tm8, fun _ h => nomatch h⟩, List.forall_mem_cons.mpr ⟨tn8, fun _ h => nomatch h⟩, List.forall_mem_cons.mpr ⟨PySem.W.codeHd_of_K X th8, fun _ h => nomatch h⟩, fun s v => .of_eq rfl, fun H a ns h1 h2 hT hS => spLaw_in H a ns h1 h2 (hT (tc8, tP8) (by simp)) hS, fun base KX G' hTB => ?_⟩
  obtain ⟨t, e1, e2, e3⟩ := mk base hTB
  have z := ok_law (w := w) t
  rw [e1, e2, e3] at z
  exact z

end K12
open PySem PySem.W PyProof.Rows in
set_option maxRecDepth 100000 in
set_option maxHeartbeats 0 in
theorem PySem.Challenge.cw_samphire_k12_moments_and_mixtures_holds : PySem.Challenge.rw_samphire_k12_moments_and_mixtures.Holds := by
  w_on; o_law; k_head; (case hw => w_witness2)
  k_fill
  refine LamX.walk_ofTs (l := PySem.Challenge.rw_samphire_k12_moments_and_mixtures) (n := 63) (k := 10) (x := "script") (CX := fun w => L2.CX0) rfl (by decide) rfl ⟨rfl, by decide, by decide⟩ (fun w h Y => PySem.W.km_in_of Y) ?F (fun _ _ _ _ _ h => h)
  case F =>
    intro w mg fa h Y KX G hmg
    have hts := PySem.W.km_tabs_of Y
    refine' K12.all_mk KX G hts hmg ?a1 ?l1 ?c1 ?k1 ?a2 ?l2 ?c2 ?k2 ?a3 ?l3 ?c3 ?k3 ?a4 ?l4 ?c4 ?k4 ?a5 ?l5 ?c5 ?k5 ?a6 ?l6 ?c6 ?k6 ?a7 ?l7 ?c7 ?k7 ?a8 ?l8 ?c8 ?k8 ?tl8 ?tp8 ?th8 ?tn8 ?tm8 ?a9 ?l9 ?c9 ?k9 ?a10 ?l10 ?c10 ?k10 ?a11 ?l11 ?c11 ?k11 ?a12 ?l12 ?c12 ?k12 ?a13 ?l13 ?c13 ?k13 ?a14 ?l14 ?c14 ?k14 ?a15 ?l15 ?c15 ?k15 ?a16 ?l16 ?c16 ?k16 ?a17 ?l17 ?c17 ?k17 ?a18 ?l18 ?c18 ?k18 ?a19 ?l19 ?c19 ?k19 ?a20 ?l20 ?c20 ?k20 ?a21 ?l21 ?c21 ?k21 ?a22 ?l22 ?c22 ?k22 ?a23 ?l23 ?c23 ?k23 ?a24 ?l24 ?c24 ?k24 ?a25 ?l25 ?c25 ?k25 ?a26 ?l26 ?c26 ?k26 ?aCSamphireError ?aCZeroDenominator ?iCZeroDenominator ?tIZeroDenominator ?lkZeroDenominator ?hcZeroDenominator ?xLZeroDenominator ?saZeroDenominator ?sBZeroDenominator ?tCZeroDenominator ?kCZeroDenominator ?coZeroDenominator ?flZeroDenominator ?ceZeroDenominator ?mrZeroDenominator ?sVZeroDenominator ?anZeroDenominator ?suZeroDenominator ?tpZeroDenominator ?hgZeroDenominator ?hkZeroDenominator ?hdZeroDenominator ?haZeroDenominator ?hnZeroDenominator ?htZeroDenominator ?hmZeroDenominator ?icZeroDenominator ?sCZeroDenominator ?aCInvalidLaw ?iCInvalidLaw ?tIInvalidLaw ?lkInvalidLaw ?hcInvalidLaw ?xLInvalidLaw ?saInvalidLaw ?sBInvalidLaw ?tCInvalidLaw ?kCInvalidLaw ?coInvalidLaw ?flInvalidLaw ?ceInvalidLaw ?mrInvalidLaw ?sVInvalidLaw ?anInvalidLaw ?suInvalidLaw ?tpInvalidLaw ?hgInvalidLaw ?hkInvalidLaw ?hdInvalidLaw ?haInvalidLaw ?hnInvalidLaw ?htInvalidLaw ?hmInvalidLaw ?icInvalidLaw ?sCInvalidLaw ?kitInvalidLawSamphireError ?z_abs ?z_int ?z_isinstance ?z_len ?z_list ?z_range ?z_sorted ?z_sum ?z_super ?z_zip ?v_ZERO ?l_ZERO ?v_ONE ?l_ONE ?g_gcd
    (case aCSamphireError => k_is)
    (case aCZeroDenominator => k_is)
    (case aCInvalidLaw => k_is)
    (case a1 => k_is)
    (case l1 => k_is)
    (case c1 => k_is)
    (case k1 => k_is)
    (case a2 => k_is)
    (case l2 => k_is)
    (case c2 => k_is)
    (case k2 => k_is)
    (case a3 => k_is)
    (case l3 => k_is)
    (case c3 => k_is)
    (case k3 => k_is)
    (case a4 => k_is)
    (case l4 => k_is)
    (case c4 => k_is)
    (case k4 => k_is)
    (case a5 => k_is)
    (case l5 => k_is)
    (case c5 => k_is)
    (case k5 => k_is)
    (case a6 => k_is)
    (case l6 => k_is)
    (case c6 => k_is)
    (case k6 => k_is)
    (case a7 => k_is)
    (case l7 => k_is)
    (case c7 => k_is)
    (case k7 => k_is)
    (case a8 => k_is)
    (case l8 => k_is)
    (case c8 => k_is)
    (case k8 => k_is)
    (case tl8 => k_is)
    (case tp8 => first | rfl | kernel_rfl)
    (case th8 => first | kernel_rfl | decide +kernel)
    (case tn8 => first | rfl | kernel_rfl)
    (case tm8 => simp)
    (case a9 => k_is)
    (case l9 => k_is)
    (case c9 => k_is)
    (case k9 => k_is)
    (case a10 => k_is)
    (case l10 => k_is)
    (case c10 => k_is)
    (case k10 => k_is)
    (case a11 => k_is)
    (case l11 => k_is)
    (case c11 => k_is)
    (case k11 => k_is)
    (case a12 => k_is)
    (case l12 => k_is)
    (case c12 => k_is)
    (case k12 => k_is)
    (case a13 => k_is)
    (case l13 => k_is)
    (case c13 => k_is)
    (case k13 => k_is)
    (case a14 => k_is)
    (case l14 => k_is)
    (case c14 => k_is)
    (case k14 => k_is)
    (case a15 => k_is)
    (case l15 => k_is)
    (case c15 => k_is)
    (case k15 => k_is)
    (case a16 => k_is)
    (case l16 => k_is)
    (case c16 => k_is)
    (case k16 => k_is)
    (case a17 => k_is)
    (case l17 => k_is)
    (case c17 => k_is)
    (case k17 => k_is)
    (case a18 => k_is)
    (case l18 => k_is)
    (case c18 => k_is)
    (case k18 => k_is)
    (case a19 => k_is)
    (case l19 => k_is)
    (case c19 => k_is)
    (case k19 => k_is)
    (case a20 => k_is)
    (case l20 => k_is)
    (case c20 => k_is)
    (case k20 => k_is)
    (case a21 => k_is)
    (case l21 => k_is)
    (case c21 => k_is)
    (case k21 => k_is)
    (case a22 => k_is)
    (case l22 => k_is)
    (case c22 => k_is)
    (case k22 => k_is)
    (case a23 => k_is)
    (case l23 => k_is)
    (case c23 => k_is)
    (case k23 => k_is)
    (case a24 => k_is)
    (case l24 => k_is)
    (case c24 => k_is)
    (case k24 => k_is)
    (case a25 => k_is)
    (case l25 => k_is)
    (case c25 => k_is)
    (case k25 => k_is)
    (case a26 => k_is)
    (case l26 => k_is)
    (case c26 => k_is)
    (case k26 => k_is)
    (case iCZeroDenominator => k_is)
    (case tIZeroDenominator => k_is)
    (case lkZeroDenominator => k_is)
    (case hcZeroDenominator => k_is)
    (case xLZeroDenominator => k_is)
    (case saZeroDenominator => k_is)
    (case sBZeroDenominator => k_is)
    (case tCZeroDenominator => k_is)
    (case kCZeroDenominator => k_is)
    (case coZeroDenominator => k_is)
    (case flZeroDenominator => first | rfl | decide +kernel)
    (case ceZeroDenominator => k_is)
    (case mrZeroDenominator => first | rfl | k_is)
    (case sVZeroDenominator => k_is)
    (case anZeroDenominator => k_is)
    (case suZeroDenominator => ks_is)
    (case tpZeroDenominator => first | rfl | decide +kernel)
    (case hgZeroDenominator => k_is)
    (case hkZeroDenominator => k_is)
    (case hdZeroDenominator => k_is)
    (case haZeroDenominator => k_is)
    (case hnZeroDenominator => k_is)
    (case htZeroDenominator => k_is)
    (case hmZeroDenominator => k_is)
    (case icZeroDenominator => k_is)
    (case sCZeroDenominator => first | rfl | k_is)
    (case iCInvalidLaw => k_is)
    (case tIInvalidLaw => k_is)
    (case lkInvalidLaw => k_is)
    (case hcInvalidLaw => k_is)
    (case xLInvalidLaw => k_is)
    (case saInvalidLaw => k_is)
    (case sBInvalidLaw => k_is)
    (case tCInvalidLaw => k_is)
    (case kCInvalidLaw => k_is)
    (case coInvalidLaw => k_is)
    (case flInvalidLaw => first | rfl | decide +kernel)
    (case ceInvalidLaw => k_is)
    (case mrInvalidLaw => first | rfl | k_is)
    (case sVInvalidLaw => k_is)
    (case anInvalidLaw => k_is)
    (case suInvalidLaw => ks_is)
    (case tpInvalidLaw => first | rfl | decide +kernel)
    (case hgInvalidLaw => k_is)
    (case hkInvalidLaw => k_is)
    (case hdInvalidLaw => k_is)
    (case haInvalidLaw => k_is)
    (case hnInvalidLaw => k_is)
    (case htInvalidLaw => k_is)
    (case hmInvalidLaw => k_is)
    (case icInvalidLaw => k_is)
    (case sCInvalidLaw => first | rfl | k_is)
    (case kitInvalidLawSamphireError => first | rfl | k_is | decide +kernel)
    (case z_abs => k_is)
    (case z_int => k_is)
    (case z_isinstance => k_is)
    (case z_len => k_is)
    (case z_list => k_is)
    (case z_range => k_is)
    (case z_sorted => k_is)
    (case z_sum => k_is)
    (case z_super => k_is)
    (case z_zip => k_is)
    (case v_ZERO => k_is)
    (case l_ZERO => k_is)
    (case v_ONE => k_is)
    (case l_ONE => k_is)
    (case g_gcd => k_is)
