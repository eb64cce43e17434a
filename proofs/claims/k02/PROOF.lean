import PyProof.Rows.All
import Wide.All
import OpenK.AllK
import Wide.FinOn
import HandS.ForMost
import HandS.ForExc
import HandS.EndBits
import HandS.Wide
import HandS.IsInst
import HandS.ExcInit
import HandS.Nested
import KE.KExcSuper
import HandS.ExcIs
import HandS.ExcField
import HandS.Gcd
import HandS.Rev
import HandS.Walk
import HandS.Style
import PySem.Challenge.RW_samphire_k02_conditions_hold
set_option Elab.async false
set_option linter.all false
set_option maxRecDepth 100000

/-! ### an own exception whose __init__ begins with super().__init__(..) -/
namespace Sup
open PySem PySem.Spec PyProof.Rows L2 NdefX
/-- what the written part says of such a class (at C), of its __init__ (at f; its code at c, its cell of the class at cc) -/
structure SupC (P : Program) (K : PySem.W.Frag) (mg : Str → Option Value) (C f c cc : Addr) : Prop where
  T : OexC K C
  cd : ∃ cd, PySem.W.clsIn K C = some cd
  code : ∃ occ cdd vs sl file tf, K.lookup c = some ⟨occ, cdd, .fields vs, sl⟩ ∧ vs[2]? = some (.str file tf) ∧ ((P.main.file : Str) == file) = true
  cell : ∃ cl cld sl, K.lookup cc = some ⟨cl, cld, .cell (some (.ref C)), sl⟩
  sub : PySem.W.mroIn K C (.ref C) = some true
  subV : PySem.W.subIn K (.ref C) (.type "ValueError") = some true
  zs : mg "super" = none
  any : PySem.W.nsIn K PySem.cStatics "thirdparty.any" = some none
  sup : PySem.W.ks_superIn K C C "__init__" = some (some (.builtin "ValueError.__init__"))
  top : (P.main.scope.names.lookup ("super" : Str)).isSome = false
section
variable {CX : CXT} {P : Program} {w : World} {K : PySem.W.Frag} {mg : Str → Option Value} {base : Heap} {N ps : List Str} {F : NF} {f C cc : Addr} {k : Nat} {sp : Sp}
/-- the body's first statement -/
abbrev supSt (arg : Expr) (p0 p1 p2 p3 p4 : Pos) : Stmt := .Expr (.Call (.Attribute (.Call (.Name "super" p0) [] [] p1) "__init__" p2) [arg] [] p3) p4
theorem callW {M : Model} {A : Around} {E : Value → Shared → Prop} {s : Shared} {i : String} {u x : Addr} {pos : Pos} {env : Env} {e : Expr} {Q : Value → Shared → Prop} (he : starEach [e] env = (false, eval e env) :: starEach [] env)
    (h : wpAny M A (spliced (backTo pos (starEach [e] env))) (fun vs s₁ => PySem.W.KxsAt i u x s₁.heap ∧ wpAny M A (call (.ref u) vs) Q E s₁) E s) : wpAny M A (callWith pos (.ref u) [] (backTo pos (starEach [e] env)) []) Q E s := by
  rw [he] at h ⊢
  refine PySem.W.kxs_callWith (i := i) (x := x) rfl ?_
  exact PySem.Calls.evalArgs_plain h
theorem fn_super {oc : Value} {od : Option Addr} {osl : Array (Option Value)} {doc pm ctv : Value} {arg : Expr} {rest : List Stmt} {p0 p1 p2 p3 p4 : Pos} {p : Str} {ps' : List Str}
    (T : SupC P K mg C f F.c cc) (lk : K.lookup f = some ⟨oc, od, .func (F.fd doc pm ctv), osl⟩) (hcl : F.cl = [(("__class__" : Str), cc)]) (hcd : PySem.W.codeIn K (.ref F.c) F.qual = true) (S : NScope N ps ["__class__"] F.scope) (hps : ps = p :: ps')
    (hpar : ∃ ar, (F.params.posonlyargs ++ F.params.args).head? = some ar ∧ ar.arg = p) (hsu : F.scope.names.lookup ("super" : Str) = some .globalImplicit) (hbd : F.body = supSt arg p0 p1 p2 p3 p4 :: rest)
    (hsw : ∀ L : Addr, swapsWith (.Call (.Attribute (.Call (.Name "super" p0) [] [] p1) "__init__" p2) [arg] [] p3) none p4.line (envF F f L) = pure false)
    (hev : ∀ L : Addr, ∃ pl, eval (.Call (.Attribute (.Call (.Name "super" p0) [] [] p1) "__init__" p2) [arg] [] p3) (envF F f L) = (do
        let ov ← attributeBase (.Call (.Name "super" p0) [] [] p1) "__init__" (envF F f L) (eval (.Call (.Name "super" p0) [] [] p1) (envF F f L))
        standAt p2.atName
        let (f', first) ← holding [ov] (getMethod ov "__init__" pl)
        callWith p3 f' first (backTo p3 (starEach [arg] (envF F f L))) []))
    (hst : ∀ L : Addr, starEach [arg] (envF F f L) = (false, eval arg (envF F f L)) :: starEach [] (envF F f L))
    (len : ∀ vs H Q E, sp vs H Q E → vs.length = ps.length)
    (hbody : ∀ (A : Around) (outer : List Env) (s : Shared) (H : Hp) (vs : List V) (Q : VK) (E : XK), Room k (A.deeper (envF F f s.heap.objs.size)) → sp vs H Q E →
      ∃ a vs' ta t, vs = .ref a :: vs' ∧ H a = some (exo a C none) ∧ PA (ncx CX P w K mg base N F f A outer s H E) [arg] ta ∧ PSs (ncx CX P w K mg base N F f A outer s H E) rest t ∧
        ta (startF N vs [none]) H (fun ws H1 => ws.length ≤ 1000 ∧ H1 a = some (exo a C none) ∧ t { nx := fun _ H' => Q .non H', rt := Q } (startF N vs [none]) H1)) :
    FnOk P w K mg base CX (k + 1) f (F.fd doc pm ctv) ps sp := by
  refine ⟨len, fun A outer s H args us vs Q E hr e0 hb r hsp => ?_⟩
  have KX : K.In s.heap := e0.mod.kin.keeps fun b o e => (e0.bs b o e).1
  have hl := len _ _ _ _ hsp
  have lim : s.heap.NoLimit := e0.mod.nolimit.keeps fun b o e => (e0.bs b o e).1
  refine codeAny_call_function hr.depth (KX _ _ lk) rfl S.co S.gen rfl (PySem.W.codeRec_of KX hcd) (hb _ _ _ _ ?_)
  refine wpAny_newFunctionEnv S.nocell (fun ⟨n, _⟩ hy => S.par n (List.of_mem_zip hy).1) (fun h₁ hns hsb => ⟨lim.fresh _ hsb, ?_⟩) S.kind
  show codeAny _ _ (.func F.body (envF F f s.heap.objs.size)) _ _
  refine PySem.ks_codeAny_funcAt ?_
  have kp : ∀ b o, s.heap.get? b = some o → h₁.get? b = some o := fun b o e => hsb.extBut b o (Nat.ne_of_lt (Heap.lt_size e)) (Heap.get?_push_of_some _ e)
  obtain ⟨a, vs', ta, t, hvs, ha, hta, ht, hq⟩ := hbody A outer s H vs Q E (hr.deeper _) hsp
  obtain ⟨cl, cld, csl, hcell⟩ := T.cell
  have hbc : base.get? cc = some ⟨cl, cld, .cell (some (.ref C)), csl⟩ := e0.mod.kin _ _ hcell
  have hlook : ∀ {y : Str} {c : Addr}, F.cl.lookup y = some c → y = "__class__" ∧ c = cc := fun {y c} e => by
    rw [hcl] at e
    by_cases hy : y = "__class__"
    · subst hy
      rw [show List.lookup ("__class__" : Str) [(("__class__" : Str), cc)] = some cc by simp [List.lookup]] at e
      exact ⟨rfl, (Option.some.inj e).symm⟩
    · have hb : (y == ("__class__" : Str)) = false := by simpa using hy
      rw [show List.lookup y [(("__class__" : Str), cc)] = none by simp [List.lookup, hb]] at e
      cases e
  have hlk : F.cl.lookup ("__class__" : Str) = some cc := by rw [hcl]; simp [List.lookup]
  have CA : CellsAt F.cl ["__class__"] [none] s.heap H := {
    len := rfl
    all := fun y c e => by
      obtain ⟨_, rfl⟩ := hlook e
      exact ⟨(e0.bs _ _ hbc).2, _, ⟨_, (e0.bs _ _ hbc).1, rfl⟩⟩
    inj := fun x y c e1 e2 => (hlook e1).1.trans (hlook e2).1.symm
    has := fun i y e => by
      match i, e with
      | 0, e =>
        have ey : ("__class__" : Str) = y := Option.some.inj e
        subst ey
        exact ⟨cc, hlk, fun v hv => by simp at hv⟩ }
  have I : Inv (ncx CX P w K mg base N F f A outer s H E) [] (startF N vs [none]) H { s with heap := h₁, toks := s.toks + (ps.zip us).length } := inv_startN S hr.hd e0 hl r CA hns kp
  have kI : K.In h₁ := KX.keeps kp
  have hN0 : N[0]? = some p := by
    have q := S.pre
    rw [hps] at q
    have z : (N.take ((p :: ps').length + 1))[0]? = some p := by
      have z := congrArg (fun l : List Str => l[0]?) q
      exact z
    rw [List.getElem?_take_of_lt (by simp)] at z
    exact z
  have hs0 : (startF N vs [none])[0]? = some (some (.ref a)) := by rw [hvs]; rfl
  have hploc : F.scope.names.lookup p = some .local := S.par p (by rw [hps]; exact List.mem_cons_self)
  obtain ⟨m, hnm, hlm⟩ := id I.loc
  obtain ⟨u0, ru0, hu0⟩ := hlm 0 p (.ref a) hN0 hs0 (.inl hploc)
  have eu0 : u0 = Value.ref a := ru0
  subst eu0
  have hself : m p = some (.ref a) := by
    rcases hu0 with ⟨_, z⟩ | ⟨z, _⟩
    · exact z
    · have z' : F.scope.names.lookup p = some .cell ∨ F.scope.names.lookup p = some .free := z
      rw [hploc] at z'
      rcases z' with z' | z' <;> cases z'
  obtain ⟨occ, cdd, cvs, csl2, file, tf, hcode, hvs2, hfile⟩ := T.code
  obtain ⟨cdD, hcdD⟩ := T.cd
  have hD : ∃ oD, h₁.get? C = some oD ∧ oD.data = .cls cdD := by
    have hD := hcdD
    unfold PySem.W.clsIn at hD
    split at hD
    · rename_i c d cd' sl ho
      cases hD
      exact ⟨_, kI _ _ ho, rfl⟩
    · cases hD
  obtain ⟨oD, hD1, hD2⟩ := hD
  obtain ⟨nm, q, N', bs, bm, sn, sub, ab, col, dd, k0, k1, k2, k3, k5, hC, hbm⟩ := T.T.cls
  obtain ⟨ar, har1, har2⟩ := hpar
  have hkc : F.scope.names.lookup ("__class__" : Str) = some .free := S.frk _ (by simp)
  obtain ⟨mb, hb1, hb2⟩ := I.mod.blt
  rw [hbd]
  obtain ⟨pl, he⟩ := hev s.heap.objs.size
  refine PySem.ks_wpAt_execs_cons (PySem.ks_wpAt_Expr_any (PySem.ks_wpAt_MethodCall (pl := pl) (PySem.ks_wpAt_super_base (fd := F.fd doc pm ctv) hsu hkc (by decide) rfl (kI _ _ lk) rfl har1 rfl (kI _ _ hcode) rfl hvs2 hfile T.top ?_) he) I.quiet (hsw _))
  -- the names
  refine PySem.W.ks_loadName_global S.kind hsu (Calls.loadGlobal_builtin (by exact I.mod.glob.keeps I.bk) T.zs (by exact hb1.keeps I.bk) ((hb2 _ (by decide)).trans (by decide +kernel)) ⟨rfl, ?_⟩)
  refine wpAny_loadName_free S.kind hkc hlk ⟨_, kI _ _ hcell, rfl⟩ ?_
  refine wpAny_loadName_local S.kind (by rw [har2]; exact hploc) hnm (by rw [har2]; exact hself) ?_
  refine PySem.ks_wpAny_isType_cls hD1 hD2 ⟨rfl, ?_⟩
  obtain ⟨t1, hox⟩ := exo_at I.hok ha
  refine PySem.ks_wpAny_call_super hD1 hD2 hox rfl (fun c e => by cases e) (PySem.W.looks_mroIn kI T.sub) (fun h' hso k' => ?_)
  have I2 : Inv (ncx CX P w K mg base N F f A outer s H E) [] (startF N vs [none]) H { s with heap := h', toks := s.toks + (ps.zip us).length } := I.kept (t' := s.toks + (ps.zip us).length) k'
  have kI2 : K.In h' := kI.keeps k'
  have hox2 : h'.get? a = some ({ cls := .ref C, dict := none, data := .fields #[.ref t1, .none, .none, .none, .bool false, .none] } : Obj) := k' _ _ hox
  have IA : PySem.W.InstAt h' a ({ cls := .ref C, dict := none, data := .fields #[.ref t1, .none, .none, .none, .bool false, .none] } : Obj) C none := ⟨hox2, rfl, rfl, trivial⟩
  have hal : PySem.W.alongIn K "__init__" ((cdD.mro.dropWhile (· != .ref C)).drop 1) = some (some (.builtin "ValueError.__init__")) := by
    have z := T.sup
    unfold PySem.W.ks_superIn at z
    rw [hcdD] at z
    exact z
  refine PySem.W.kxs_getMethod PySem.W.kxs_ValueError hso (PySem.W.looks_opaque kI2 T.any) (l₀ := cdD.mro) (fun A Q E s k q => wpAny_bind ((PySem.W.looks_clsIn kI2 hcdD) A _ E s k (wpAny_pure q))) rfl kI2 hal (IA.type.andThen (PySem.W.looks_subIn kI2 T.subV)) (PySem.W.ks_ne kI2 IA hcdD) (by decide) ?_
  -- the bound __init__ at u
  have ku : ∀ b o, h'.get? b = some o → (h'.push (PySem.W.kxs_mw "ValueError.__init__" a)).get? b = some o := fun b o e => Heap.get?_push_of_some _ e
  have I3 : Inv (ncx CX P w K mg base N F f A outer s H E) [] (startF N vs [none]) H { s with heap := h'.push (PySem.W.kxs_mw "ValueError.__init__" a), toks := s.toks + (ps.zip us).length + 1 } := I2.kept (t' := s.toks + (ps.zip us).length + 1) ku
  have hu : (h'.push (PySem.W.kxs_mw "ValueError.__init__" a)).get? h'.objs.size = some (PySem.W.kxs_mw "ValueError.__init__" a) := Heap.get?_push_at rfl rfl
  have I4 : Inv (ncx CX P w K mg base N F f A outer s H E) [(h'.objs.size, PySem.W.kxs_mw "ValueError.__init__" a)] (startF N vs [none]) H { s with heap := h'.push (PySem.W.kxs_mw "ValueError.__init__" a), toks := s.toks + (ps.zip us).length + 1 } := I3.pins_of fun p hp => by
    have hp1 := List.mem_singleton.mp hp
    subst hp1
    exact ⟨hu, I2.hok.fresh (Nat.le_refl _), fun z => absurd (z ▸ I2.lt) (Nat.lt_irrefl _), I2.nofs (Nat.le_refl _), fun v z => by cases z⟩
  refine callW (i := "ValueError.__init__") (x := a) (hst _) ?_
  refine thn (hta.run p3 _ _ _ H _ I4 hq) fun ws' s5 ⟨ws, H5, I5, r5, hlen, ha5, ht5⟩ => ?_
  have hu5 : s5.heap.get? h'.objs.size = some (PySem.W.kxs_mw "ValueError.__init__" a) := (I5.pin _ (List.mem_append_right _ (List.mem_singleton.mpr rfl))).1
  refine ⟨hu5, ?_⟩
  obtain ⟨t5, hox5⟩ := exo_at I5.hok ha5
  have hws : ws'.length ≤ sizeLine := by
    rw [← Paired.length r5, sizeLine_eq]
    omega
  have I6 : Inv (ncx CX P w K mg base N F f A outer s H E) [] (startF N vs [none]) H5 s5 := I5.pins_of fun p hp => absurd hp (by simp)
  obtain ⟨h5, g5, d5, k5', os5⟩ := s5
  have hC5 := I5.kIn _ _ hC
  show wpAny _ _ (call (.ref h'.objs.size) ws') _ _ _
  refine wpAny_call (codeAny_of_tree ?_)
  show wpAny _ _ (callAny (.ref h'.objs.size) ⟨ws', []⟩) _ _ _
  simp only [callAny]
  refine wpAny_bind (wpAny_load hu5 ?_)
  simp only [PySem.W.kxs_mw, show (Value.type "method-wrapper" == Value.type "method" || Value.type "method-wrapper" == Value.type "builtin_function_or_method" || Value.type "method-wrapper" == Value.type "method-wrapper") = true by decide, if_true]
  refine PySem.W.KFB.if_so (by decide) ?_
  refine wpAny_bind (PySem.W.check_bound_init PySem.F.excBase_ValueError.toExcCallFacts hC5 hox5 rfl ?_)
  refine wpAny_bind (wpAny_pure (wpAny_pure ?_))
  refine ⟨plainId_quiet PySem.F.excBase_ValueError.init.plain _, codeAny_builtin PySem.F.excBase_ValueError.initEntry ?_⟩
  refine PySem.W.exc_init_tree (cls := .ref C) (t0 := t5) (dv := none) (c2 := .none) (c3 := .none) (b4 := .bool false) hox5 hws (fun h6 k6 e6 _ => ?_)
  have J := I6.write (t' := k5') (x := a) (e := a) (o := exo a C none) (by rw [ha5]; exact True.intro) (.inl rfl) k6 ⟨_, e6⟩ (exo_ok e6)
  have eu : upd H5 a (exo a C none) = H5 := by
    funext b
    by_cases hb : b = a
    · rw [hb, upd_same, ha5]
    · rw [upd_ne hb]
  rw [eu] at J
  refine PySem.wpAt_of_wpAny (wpAny_mono (ht.run [] _ (startF N vs [none]) H5 _ J ht5) (fun fl s' hs => ?_) fun e s' hs => hs)
  have fin : ∀ {σ' : L2.St} {H' : Hp} {v : V} {u : Value}, Inv (ncx CX P w K mg base N F f A outer s H E) [] σ' H' s' → L2.RelV v u → Q v H' → CE outer P w H s Q u s' :=
    fun {σ' H' v u} J rv q => ⟨v, H', J.os, J.bare, J.base, J.hok, rv, q⟩
  cases fl with
  | ret u =>
    obtain ⟨v, σ', H', J, rv, q⟩ := hs
    exact fin J rv q
  | next =>
    obtain ⟨σ', H', J, q⟩ := hs
    exact fin (v := V.non) (u := Value.none) J rfl q
  | brk =>
    obtain ⟨_, _, _, q⟩ := hs
    exact False.elim q
  | cont =>
    obtain ⟨_, _, _, q⟩ := hs
    exact False.elim q
end
/-! ### an exception without fields, made -/
section
variable {X : Cx}
theorem mk_endN {pins : List (Addr × Obj)} {σ : L2.St} {H1 H2 : Hp} {Q : XK} {hp hp2 h2 : Heap} {g1 g2 : Array GenState} {d1 d2 : Drawn} {t1 t2 : Nat} {os1 os2 : OsState} {a C : Addr} (T : Raises X (.ref C)) (I1 : Inv X pins σ H1 ⟨hp, g1, d1, t1, os1⟩)
    (ha : hp.objs.size ≤ a) (k : ∀ b o, hp.get? b = some o → hp2.get? b = some o) (un : Un (frs X.stack) [] (upd H1 a (exo a C none)) H2 hp2 h2) (hok : HOk X.prog X.w H2 h2) (ho : os2 = os1) (hb : AllBare g2)
    (ea : H2 a = some (exo a C none)) (q : Q (.ref C) none (del H2 a)) : MkP X pins σ Q (.ref a) ⟨h2, g2, d2, t2, os2⟩ := by
  obtain ⟨t0, hoe⟩ := exo_at hok ea
  have hn : H1 a = none := I1.hok.fresh ha
  obtain ⟨G, g1', g2'⟩ := restrict h2 fun b => decide (b ≠ a)
  have gk : ∀ b, b ≠ a → G.get? b = h2.get? b := fun b hb => g1' b (decide_eq_true hb)
  have ge : G.get? a = none := g2' a (by simp)
  have nha : ∀ {b : Addr} {o : Obj}, hp.get? b = some o → b ≠ a := fun {b o} z => Nat.ne_of_lt (Nat.lt_of_lt_of_le (Heap.lt_size z) ha)
  have up : ∀ {b : Addr}, b ≠ a → H1 b = none → upd H1 a (exo a C none) b = none := fun {b} hb n => by rw [upd_ne hb]; exact n
  have U : Un (frs X.stack) [] H1 (del H2 a) hp G := {
    keep := fun b o z n hf hx => by
      rw [gk b (nha z)]
      exact un.keep b o (k b o z) (up (nha z) n) hf hx
    slot := fun b o z n hf hx => by
      rw [gk b (nha z)]
      exact un.slot b o (k b o z) (up (nha z) n) hf hx
    free := fun b o z n hx => by
      rw [del_ne (nha z)]
      exact un.free b o (k b o z) (up (nha z) n) hx
    there := fun b o z hx => by
      rw [gk b (nha z)]
      exact un.there b o (k b o z) hx
    tups := fun b xs z => by
      rw [del_ne (ne_of_none z hn)]
      exact un.tups b xs (by rw [upd_ne (ne_of_none z hn)]; exact z)
    frzs := fun b o v z => by
      rw [del_ne (ne_of_none z hn)]
      exact un.frzs b o v (by rw [upd_ne (ne_of_none z hn)]; exact z)
    tbls := fun b ps z => by
      rw [del_ne (ne_of_none z hn)]
      exact un.tbls b ps (by rw [upd_ne (ne_of_none z hn)]; exact z) }
  have hok3 : HOk X.prog X.w (del H2 a) G := fun b o z => by
    have hba : b ≠ a := fun e => by
      rw [e, del_same] at z
      cases z
    rw [del_ne hba] at z
    have noa : ∀ {c : Addr}, H2 c = some (.own b) → c ≠ a := fun {c} hc => at_ne ea hc exo_own
    exact (hok b o z).stay (fun c v hc y => by
        have hca : c ≠ a := by
          rcases hc with hc | hc
          · rw [hc]
            exact hba
          · exact noa hc
        rw [gk c hca]
        exact y)
      (fun c hc => by rw [del_ne (noa hc)]; exact hc) (fun c xs hc => by rw [del_ne (at_ne ea hc exo_tup)]; exact hc)
  have J : Inv X pins σ (del H2 a) ⟨G, g2, d2, t2, os2⟩ := I1.call' (ch := []) ho U hok3 hb (fun b z => absurd z (by simp))
  refine ⟨a, _, _, ⟨G, g2, d2, t2, os2⟩, _, .ref C, none, rfl, J, fun b o z => ?_, ge, hoe, ⟨rfl, rfl⟩, rfl, rfl, del_same, rfl, hb, T, q⟩
  by_cases hba : b = a
  · rw [hba, ge] at z
    cases z
  · exact (gk b hba).symm.trans z
/-- C(), C's own __init__ keeping sp and making no field -/
def tMkN (C : Addr) (sp : Sp) : L2.St → Hp → XK → Prop := fun _ H Q => ∀ a, H a = none → sp [.ref a] (upd H a (exo a C none)) (fun v H2 => v = .non ∧ H2 a = some (exo a C none) ∧ Q (.ref C) none (del H2 a)) (fun _ _ _ => False)
theorem pmk_oexN {CX : CXT} {x : Str} {C fI : Addr} {k : Nat} {fd : FuncData} {ps : List Str} {sp : Sp} {p pos : Pos} (T : OexC X.K C) (iC : PySem.W.findIn X.K (.ref C) "__init__" = some (some (.ref fI))) (tI : PySem.W.typeIn X.K (.ref fI) = some (.type "function"))
    (F1 : FnOk X.prog X.w X.K X.mg X.base CX k fI fd ps sp) (hr : Room (k + 1) X.A) (hb : Binds X.K fd ps []) (hx : Passes CX X (fun _ _ _ => False)) (hg : Gl X x) (hm : X.mg x = some (.ref C))
    (hdb : (x == ("__debug__" : Str)) = false := by decide) : PMk X (.Call (.Name x p) [] [] pos) (tMkN C sp) := by
  intro pins s σ H1 Q I1 q1
  obtain ⟨nm, q, N, bs, bm, sn, sub, ab, col, dd, k0, k1, k2, k3, k5, hC, hbm⟩ := T.cls
  refine wpAny_Call_Name_kw (ld_glob I1 hg hm ?_ hdb)
  refine PySem.W.callWith_K0 I1.kIn T.kC ?_
  show wpAny _ _ (call (.ref C) []) _ _ _
  obtain ⟨hp, g, dr, tk, os⟩ := s
  have hsz : hp.objs.size ≤ hp.objs.size + 1 := Nat.le_succ _
  have hn : H1 (hp.objs.size + 1) = none := I1.hok.fresh hsz
  have hq := q1 (hp.objs.size + 1) hn
  have kk : ∀ b o, hp.get? b = some o → ((hp.push (PySem.W.kdv_tup [])).push (PySem.HandSPX.excO C hp.objs.size)).get? b = some o := fun b o e => Heap.get?_push_of_some _ (Heap.get?_push_of_some _ e)
  have hget : ((hp.push (PySem.W.kdv_tup [])).push (PySem.HandSPX.excO C hp.objs.size)).get? (hp.objs.size + 1) = some (PySem.HandSPX.excO C hp.objs.size) := by heap_get
  have I2 : Inv X pins σ (upd H1 (hp.objs.size + 1) (exo (hp.objs.size + 1) C none)) ⟨(hp.push (PySem.W.kdv_tup [])).push (PySem.HandSPX.excO C hp.objs.size), g, dr, tk, os⟩ :=
    I1.laid (t' := tk) (a := hp.objs.size + 1) (o := exo (hp.objs.size + 1) C none) (h' := (hp.push (PySem.W.kdv_tup [])).push (PySem.HandSPX.excO C hp.objs.size)) kk hsz (exo_ok hget)
  have r2 : Vals [V.ref (hp.objs.size + 1)] [Value.ref (hp.objs.size + 1)] := .cons rfl .nil
  have hl : ([Value.ref (hp.objs.size + 1)] ++ []).length = ps.length := by
    have e := r2.length
    rw [F1.len _ _ _ _ hq] at e
    exact e.symm
  refine wpAny_call (PySem.HandSPX.call_own PySem.F.excBase_ValueError (fun Y => PySem.HandSPX.refsVE_contains Y bm hbm) (I1.kIn _ _ hC) (PySem.W.looks_findIn I1.kIn iC) (fun self => PySem.W.bind_fn I1.kIn self tI) (Nat.zero_le _)
    (codeAny_mono (F1.run _ X.stack _ _ ⟨[Value.ref (hp.objs.size + 1)], []⟩ [Value.ref (hp.objs.size + 1)] _ _ (fun _ _ _ => False) (hr.make C [] []) (I2.env0.make C [] []) (hb _ [Value.ref (hp.objs.size + 1)] I2.kIn hl) r2 hq) fun r s' hq' => ?_))
  cases r with
  | error er => exact hx pins σ _ _ er s' I2 hq'
  | ok fl =>
    cases fl with
    | ret u =>
      obtain ⟨v, H2, os2, bare2, un2, hok2, rv, ev, ea, q2⟩ := hq'
      subst ev
      obtain ⟨h2, g2, d2, t2, os'⟩ := s'
      exact ⟨rv, mk_endN (raises_own T.exC T.tyC) I1 hsz kk un2 hok2 os2 bare2 ea q2⟩
    | next => exact False.elim hq'
    | brk => exact False.elim hq'
    | cont => exact False.elim hq'
end
/-! ### a call of a local name that holds a def, which may raise -/
section
variable {X : Cx} {CX : CXT} {k i : Nat} {f : Addr} {fd : FuncData} {ps : List Str} {sp : Sp} {E : L2.St → XK} {x : Str} {p pos : Pos} {e : Expr} {es : List Expr} {t : TA}
def tCallLS (i : Nat) (f : Addr) (sp : Sp) (E : L2.St → XK) (t : TA) : TE := fun σ H Q => σ[i]? = some (some (.ref f)) ∧ t σ H fun vs H1 => sp vs H1 Q (E σ)
theorem pe_callLS (F : FnOk X.prog X.w X.K X.mg X.base CX k f fd ps sp) (hr : Room k X.A) (hN : X.N[i]? = some x) (hv : Vis X.env.scope x) (hk : PySem.W.keepIn X.K (.ref f) = true) (hb : Binds X.K fd ps []) (hx : ∀ σ, PassesAt CX X σ (E σ)) (ha : PA X (e :: es) t)
    (hdb : (x == ("__debug__" : Str)) = false := by decide) (hcd : (x == ("__classdict__" : Str)) = false := by decide)
    (he : starEach (e :: es) X.env = (false, eval e X.env) :: starEach es X.env := by rfl) (hpl : (backTo pos (starEach es X.env)).any (·.1) = false := by rfl) : PE X (.Call (.Name x p) (e :: es) [] pos) (tCallLS i f sp E t) := by
  refine ⟨fun pins s σ H Q I h => ?_⟩
  obtain ⟨hs, ht⟩ := h
  refine wpAny_Call_Name_kw (thn ((pe_var (pos := p) hN hv hdb hcd).run pins s σ H (fun v H1 => v = .ref f ∧ H1 = H) I ⟨.ref f, hs, rfl, rfl⟩) fun u s1 ⟨v, H1, I1, r1, q1⟩ => ?_)
  obtain ⟨rfl, rfl⟩ := q1
  cases r1
  refine PySem.W.callWith_K (h₀ := X.base) I.ok.mod.kin hk (thn (ha.run pos pins s1 σ _ _ I1 ht) fun us s2 ⟨vs, H2, I2, r, q⟩ => ⟨I2.kIn, ?_⟩) he hpl
  exact run_fnS F hr hb (hx σ) I2 r q
end
/-! ### isinstance of a caught error of an own class without fields -/
def rIsX (K : PySem.W.Frag) (a : Addr) (cls : Value) (d : Option Addr) : List V → Hp → VK → Prop := fun xs H Q => ∃ (D : Addr) (c : V) (cv : Value) (b : Bool), cls = .ref D ∧ d = none ∧ ExcC K D ∧ xs = [.ref a, c] ∧ (∀ u, L2.RelV c u → u = cv) ∧ PySem.W.kitOne K (.ref D) cv = some b ∧ Q (.bl b) H
theorem call_isX {X : Cx} {a : Addr} {oe : Obj} {cls : Value} {d : Option Addr} {pn : List (Addr × Obj)} (hz : Zc cls d oe) (hf : ∃ vs, oe.data = .fields vs) : CallR (X.suite a ((a, oe) :: pn)) (.builtin "isinstance") (rIsX X.K a cls d) := by
  intro pins s σ H xs us Q I r h
  obtain ⟨D, c, cv, b, rfl, rfl, C, rfl, hc, e, q⟩ := h
  exact call_isE C hz hf pins s σ H [.ref a, c] us Q I r ⟨c, cv, b, rfl, hc, e, q⟩
/-! ### what a law's text says of an own exception -/
/-- ExcT C f c cc: the class at C over SamphireError .. over ValueError, with its own __init__ at f -/
structure ExcT (P : Program) (K : PySem.W.Frag) (mg : Str → Option Value) (name : Str) (C f c cc : Addr) : Prop where
  S : SupC P K mg C f c cc
  g : mg name = some (.ref C)
  iC : PySem.W.findIn K (.ref C) "__init__" = some (some (.ref f))
  tI : PySem.W.typeIn K (.ref f) = some (.type "function")
  is : ExcC K C
  te : PySem.W.exmOne K (.ref C) (.ref C) = some true
theorem ExcT.xf {P : Program} {K : PySem.W.Frag} {mg : Str → Option Value} {name : Str} {C f c cc : Addr} (T : ExcT P K mg name C f c cc) : XfC K C := ⟨T.is.hg, T.is.hk, T.is.hs, T.is.hd⟩
/-- what k_is finds, put together -/
theorem excT_mk {P : Program} {K : PySem.W.Frag} {mg : Str → Option Value} {name : Str} {C f c cc : Addr} {nm q : Str} {N : Addr} {bs bm : List Value} {sn : List Str} {sub : List Value} {ab : Bool} {col : Option Bool} {dd : Option Addr} {m0 m1 m2 m3 m5 : Option Value}
    {occ : Value} {cdd : Option Addr} {cvs : List Value} {csl : Array (Option Value)} {ccl : Value} {ccd : Option Addr} {ccs : Array (Option Value)}
    (xL : K.lookup C = some (excClassObj nm q C N bs bm true sn sub ab col dd m0 m1 m2 m3 m5 "ValueError.__new__")) (rv : PySem.HandSPX.refsVE bm = true)
    (sa : PySem.W.findIn K (.ref C) "__setattr__" = some (some (.builtin "object.__setattr__"))) (sB : PySem.W.subIn K (.ref C) (.type "BaseException") = some true) (tC : PySem.W.typeIn K (.ref C) = some (.type "type")) (kC : PySem.W.keepIn K (.ref C) = true)
    (code : K.lookup c = some ⟨occ, cdd, .fields cvs.toArray, csl⟩) (hfile : (match cvs with | _ :: _ :: .str file _ :: _ => (P.main.file : Str) == file | _ => false) = true)
    (cell : K.lookup cc = some ⟨ccl, ccd, .cell (some (.ref C)), ccs⟩) (mro : PySem.W.mroIn K C (.ref C) = some true) (sV : PySem.W.subIn K (.ref C) (.type "ValueError") = some true) (zs : mg "super" = none)
    (any : PySem.W.nsIn K PySem.cStatics "thirdparty.any" = some none) (sup : PySem.W.ks_superIn K C C "__init__" = some (some (.builtin "ValueError.__init__"))) (top : (P.main.scope.names.lookup ("super" : Str)).isSome = false)
    (g : mg name = some (.ref C)) (iC : PySem.W.findIn K (.ref C) "__init__" = some (some (.ref f))) (tI : PySem.W.typeIn K (.ref f) = some (.type "function")) (is : ExcC K C) (isc : PySem.W.isClsIn K C = true) (sC : PySem.W.subIn K (.ref C) (.ref C) = some true) : ExcT P K mg name C f c cc where
  S := {
    T := ⟨⟨nm, q, N, bs, bm, sn, sub, ab, col, dd, m0, m1, m2, m3, m5, xL, rv⟩, sa, sB, tC, kC⟩
    cd := ⟨_, by unfold PySem.W.clsIn; rw [xL] <;> rfl⟩
    code := by
      match cvs, code, hfile with
      | a :: b :: .str file tf :: r, code, hfile => exact ⟨_, _, _, _, file, tf, code, rfl, hfile⟩
    cell := ⟨_, _, _, cell⟩
    sub := mro
    subV := sV
    zs := zs
    any := any
    sup := sup
    top := top }
  g := g
  iC := iC
  tI := tI
  is := is
  te := PySem.W.exm_ref sB is.hd tC sC
end Sup

/-! ### list(reversed(a list)) -/
namespace RL
open PySem PySem.Spec PyProof.Rows RT L2
section
variable {prog : Program} {w : World} {A : Around} {E : Value → Shared → Prop} {s : Shared}
theorem extend_rev {R : Result → Shared → Prop} {S it l : Addr} {items : Array Value} {res : Value} {c₀ : Nat} (hh : A.handled = none) (hit : s.heap.IsRevIter it l ((items.size : Int) - 1)) (hl : s.heap.IsList l items) (hne : l ≠ it) (hSi : S ≠ it) (hSl : S ≠ l) (hn : items.size ≤ sizeLine)
    (hS : s.heap.get? S = some { cls := .type "list", data := .seq #[] c₀ })
    (hR : ∀ s' acc' c', Moved (S :: [it]) (fun a b => b = a) s s' → s'.heap.get? S = some { cls := .type "list", dict := none, data := .seq acc' c', slots := #[] } → ItemsOf (fun i v => items[items.size - 1 - i]? = some v) acc' items.size → R (.ok (.ret res)) s') :
    wpAny (model prog w) A.in1 (Builtin.List.listExtendWith (.ref S) (.ref it) res)
      (fun fin s' => match fin with | .done f => R (.ok f) s' | .again c' => c'.quiet = true ∧ codeAny (model prog w) A c' R s') (fun e s' => R (.error e) s') s := by
  have W := (Walks.listRev (prog := prog) (w := w) (A := A.in1) hh it l hne items).toS
  have hSf : S ∉ [it, l] := by simp only [List.mem_cons, List.not_mem_nil, or_false, not_or]; exact ⟨hSi, hSl⟩
  have hT : s.TypeIs (.ref it) "list_reverseiterator" := Heap.IsRevIter.typeIs hit
  have h1 : Builtin.List.listSameRef (.ref S) (.ref it) = false := by simp [Builtin.List.listSameRef, hSi]
  unfold Builtin.List.listExtendWith
  refine wpAny_bind (wpAny_typeOf hT ?_)
  rw [if_neg (by rw [h1]; decide)]
  refine wpAny_bind (wpAny_pyIter_revIter hit ?_)
  refine wpAny_bind (wpAny_holding ?_)
  unfold Builtin.List.listLengthHint
  refine wpAny_bind (wpAny_specialOf hT nolen_lri ?_)
  show wpAny _ A.in1 (specialOf (Value.ref it) (Str.ofString "__length_hint__") >>= _) _ _ _
  refine wpAny_bind (wpAny_specialOf hT hint_lri ?_)
  generalize hid : ("list_reverseiterator.__length_hint__" : String) = id0
  wp_delta
  rw [show splitId id0 = some ("list_reverseiterator", "__length_hint__") from by subst hid; decide +kernel]
  subst hid
  refine wpAny_bind (wpAny_isInstance (b := true) hT (by rw [isSubtype_type]; kernel_rfl) ?_)
  refine wpAny_pure ?_
  rw [if_neg (by decide)]
  have e0 : ((items.size : Nat) : Int) - 1 - ((0 : Nat) : Int) = (items.size : Int) - 1 := by omega
  refine wpAny_pure ⟨plainId_quiet F.plain_extend_loop _, codeAny_extend_loopS W hn _ hSf _ items.size 0 _ _ _ rfl (Nat.zero_le _) ⟨Nat.zero_le _, by rw [e0]; exact hit, hl⟩ hS (ItemsOf.nil _) fun s' acc' c' hm hS' hacc => ?_⟩
  exact hR s' acc' c' hm hS' hacc
theorem init_rev {R : Result → Shared → Prop} {S it l : Addr} {items : Array Value} (hh : A.handled = none) (hit : s.heap.IsRevIter it l ((items.size : Int) - 1)) (hl : s.heap.IsList l items) (hne : l ≠ it) (hSi : S ≠ it) (hSl : S ≠ l) (hn : items.size ≤ sizeLine)
    (hS : s.heap.get? S = some { cls := .type "list", data := .seq #[] })
    (hR : ∀ (h' : Heap) (tk : Nat) (acc : Array Value) (c' : Nat), (∀ b o, b ≠ S → b ≠ it → s.heap.get? b = some o → h'.get? b = some o) → h'.get? S = some { cls := .type "list", dict := none, data := .seq acc c', slots := #[] } → ItemsOf (fun i v => items[items.size - 1 - i]? = some v) acc items.size → R (.ok (.ret .none)) { s with heap := h', toks := tk }) :
    wpAny (model prog w) A.in1 (Builtin.«list.__init__» ⟨[.ref S, .ref it], []⟩)
      (fun fin s' => match fin with | .done f => R (.ok f) s' | .again c' => c'.quiet = true ∧ codeAny (model prog w) A c' R s') (fun e s' => R (.error e) s') s := by
  show wpAny _ A.in1 (do let old ← Builtin.List.listItems (.ref S); Builtin.List.listUpdate (.ref S) (fun _ => #[]); letGo old.toList.reverse; Builtin.List.listExtendWith (.ref S) (.ref it) .none) _ _ s
  refine wpAny_bind ?_
  unfold Builtin.List.listItems
  refine wpAny_bind (wpAny_seqItems hS rfl (wpAny_pure ?_))
  show wpAny _ A.in1 (updateSeq S (fun _ => #[]) >>= fun _ => letGo (#[] : Array Value).toList.reverse >>= fun _ => Builtin.List.listExtendWith (.ref S) (.ref it) .none) _ _ s
  refine wpAny_bind (wpAny_updateSeq hS rfl ?_)
  have hS₂ := Heap.get?_update_self (Obj.mapSeq (fun _ => (#[] : Array Value))) hS rfl
  have oth : ∀ b o, b ≠ S → s.heap.get? b = some o → (s.heap.update S (Obj.mapSeq (fun _ => (#[] : Array Value)))).get? b = some o :=
    fun b o hb e => (Heap.get?_update_other _ _ (Ne.symm hb)).trans e
  refine wpAny_bind (wpAny_letGo ?_)
  refine extend_rev (s := { s with heap := s.heap.update S (Obj.mapSeq (fun _ => (#[] : Array Value))) }) hh (hit.at fun o e => oth it o hSi.symm e) (by obtain ⟨o, ho, x⟩ := hl; exact ⟨o, oth l o hSl.symm ho, x⟩) hne hSi hSl hn hS₂ fun s' acc' c' hm hS' hacc => ?_
  rw [Moved.eq_with hm]
  exact hR s'.heap s'.toks acc' c' (fun b o hb hb2 e => hm.heap b o (by simp [hb, hb2]) (oth b o hb e)) hS' hacc
theorem call_list_rev {it l : Addr} {items : Array Value} {Q : Value → Shared → Prop} (hh : A.handled = none) (hit : s.heap.IsRevIter it l ((items.size : Int) - 1)) (hl : s.heap.IsList l items) (hne : l ≠ it) (hn : items.size ≤ sizeLine)
    (hQ : ∀ (h' : Heap) (tk : Nat) (acc : Array Value) (c' : Nat), (∀ b o, b ≠ it → s.heap.get? b = some o → h'.get? b = some o) → h'.get? s.heap.objs.size = some { cls := .type "list", dict := none, data := .seq acc c', slots := #[] } → ItemsOf (fun i v => items[items.size - 1 - i]? = some v) acc items.size → Q (.ref s.heap.objs.size) { s with heap := h', toks := tk }) :
    wpAny (model prog w) A (call (.type "list") [.ref it]) Q E s := by
  refine callType_codes (Q₁ := fun obj s₁ => obj = .ref s.heap.objs.size ∧ s₁ = { s with heap := s.heap.push { cls := .type "list", data := .seq #[] } }) F.called_list (F.typeCall_list_1 _) F.entry_list_init
    (code_list_new _ ⟨rfl, rfl⟩) fun obj s₁ h₁ => ?_
  obtain ⟨rfl, rfl⟩ := h₁
  have hS : (s.heap.push { cls := .type "list", data := .seq #[] }).get? s.heap.objs.size = some { cls := .type "list", data := .seq #[] } := Heap.get?_push_size _ rfl
  obtain ⟨oi, hoi, _⟩ := id hit
  obtain ⟨ol, hol, _⟩ := id hl
  refine ⟨⟨_, hS, rfl⟩, F.args_list_init_2 _ _, init_rev (A := A.in1) (s := { s with heap := s.heap.push { cls := .type "list", data := .seq #[] } }) hh (hit.at fun o e => Heap.get?_push_of_some _ e) (hl.push _) hne (Nat.ne_of_gt (Heap.lt_size hoi)) (Nat.ne_of_gt (Heap.lt_size hol)) hn hS fun h' tk acc c' hk hS' hacc => ?_⟩
  exact ⟨rfl, hQ h' tk acc c' (fun b o hb e => hk b o (Nat.ne_of_lt (Heap.lt_size e)) hb (Heap.get?_push_of_some _ e)) hS' hacc⟩
end
section
variable {X : Cx}
/-- list(reversed(xs)): a new list -/
def tListRev (K : PySem.W.Frag) (te : TE) : TE := fun σ H Q => te σ H fun x H1 => ∃ a xs, x = .ref a ∧ SqL K H1 a xs ∧ ∀ p, H1 p = none → Q (.ref p) (upd H1 p (.lst xs.reverse))
theorem pe_listRev {e : Expr} {te : TE} {p p2 pos pos2 : Pos} (hc : X.calm = true) (hg : Gl X "list") (hm : X.mg "list" = none) (hg2 : Gl X "reversed") (hm2 : X.mg "reversed" = none) (he : PE X e te)
    (hs : starEach [e] X.env = (false, eval e X.env) :: starEach [] X.env := by rfl)
    (hs2 : starEach [.Call (.Name "reversed" p2) [e] [] pos2] X.env = (false, eval (.Call (.Name "reversed" p2) [e] [] pos2) X.env) :: starEach [] X.env := by rfl) :
    PE X (.Call (.Name "list" p) [.Call (.Name "reversed" p2) [e] [] pos2] [] pos) (tListRev X.K te) := by
  refine ⟨fun pins s σ H Q I h => ?_⟩
  refine Call_ (ld_blt I hg hm boot_list (PyProof.Rows.callWith_type1 (args_cons (Call_ (ld_blt I hg2 hm2 PyProof.Rows.boot_reversed (PyProof.Rows.callWith_type1 (args_cons (thn (he.run pins s σ H _ I h) fun u s1 ⟨v, H1, I1, r1, q1⟩ => args_nil ?_) hs) hs rfl))) hs2) hs2 rfl))
  obtain ⟨a, xs, ev, hq, q⟩ := q1
  subst ev
  obtain rfl : u = Value.ref a := r1
  obtain ⟨its, rv, p', hz⟩ := I1.list hq
  refine call_reversed_list p'.isList (args_nil ?_)
  have k0 : ∀ b o, s1.heap.get? b = some o → (s1.heap.push (revObj a ((its.toArray.size : Int) - 1))).get? b = some o := fun b o e => Heap.get?_push_of_some _ e
  have hl := p'.isList
  obtain ⟨ol, hol, _⟩ := id hl
  have hne : a ≠ s1.heap.objs.size := Nat.ne_of_lt (Heap.lt_size hol)
  have hn : its.toArray.size ≤ sizeLine := by rw [List.size_toArray, ← rv.length]; exact hz
  refine call_list_rev (s := { s1 with heap := s1.heap.push (revObj a ((its.toArray.size : Int) - 1)) }) (I1.ok.hd hc) ⟨_, Heap.get?_push_size _ rfl, rfl, rfl⟩ (hl.push _) hne hn fun h' tk acc c' hk hS' hi => ?_
  have hle : s1.heap.objs.size ≤ (s1.heap.push (revObj a ((its.toArray.size : Int) - 1))).objs.size := by simp [Heap.push]
  have ea : acc.toList.toArray = acc := by simp
  exact ⟨.ref (s1.heap.push (revObj a ((its.toArray.size : Int) - 1))).objs.size, upd H1 (s1.heap.push (revObj a ((its.toArray.size : Int) - 1))).objs.size (.lst xs.reverse), I1.laid (t' := tk) (fun c o e => hk c o (Nat.ne_of_lt (Heap.lt_size e)) (k0 c o e)) hle (show ObjOk X.prog X.w _ _ _ (.lst xs.reverse) from ⟨by rw [List.length_reverse]; exact hz, acc.toList, c', vals_rev rv hi, by rw [ea]; exact hS'⟩), rfl, q _ (I1.hok.fresh hle)⟩
end
end RL
/-! ### xs.extend(a tuple) -/
namespace RL
open PySem PySem.Spec PyProof.Rows RT L2
theorem meets_extend_tup (l : Addr) (items : Array Value) (n : Nat) (b : Addr) (items2 : Array Value) (n2 : Nat) (o : Obj) (hc : o.cls = .type "tuple") (hd : o.data = .seq items2 n2) (hs1 : items.size + items2.size ≤ sizeLine) :
    Meets (Builtin.«list.extend» ⟨[.ref l, .ref b], []⟩) (fun _ R s => s.heap.get? l = some { cls := .type "list", dict := none, data := .seq items n, slots := #[] } ∧ s.heap.get? b = some o ∧ R (.ok (.ret Value.none)) { s with heap := s.heap.update l (Obj.mapSeq fun x => x ++ items2), toks := s.toks }) :=
  .of_wp fun prog w A R s h => by
    obtain ⟨hl, hb, h⟩ := h
    show wpAny _ _ (Builtin.List.listExtendWith (.ref l) (.ref b) .none) _ _ _
    unfold Builtin.List.listExtendWith
    refine wpAny_bind (wpAny_typeOf ⟨o, hb, hc⟩ ?_)
    have h1 : (Builtin.List.listSameRef (.ref l) (.ref b) || Value.type "tuple" == Value.type "list" || Value.type "tuple" == Value.type "tuple") = true := by simp
    simp only [h1, if_true]
    refine wpAny_bind ?_
    unfold Builtin.List.listItems
    refine wpAny_bind (wpAny_seqItems hb hd (wpAny_pure ?_))
    refine wpAny_bind ?_
    refine wpAny_bind (wpAny_seqItems hl rfl (wpAny_pure ?_))
    have hlong : ¬ (!items.isEmpty && Builtin.List.listTooLong (items.size + items2.size)) = true := by
      rw [notLongL hs1, Bool.and_false]
      exact Bool.false_ne_true
    rw [if_neg hlong]
    show wpAny _ _ (updateSeq l (· ++ items2) >>= fun _ => ret .none) _ _ s
    refine wpAny_bind (wpAny_updateSeq hl rfl (hz := by omega) (_hz' := by rw [Array.size_append]; omega) ?_)
    exact wpAny_pure ⟨_, rfl, h⟩
section
variable {X : Cx}
def rExtT : V → List V → Hp → VK → Prop := fun x vs H Q => ∃ l b xs zs, x = .ref l ∧ vs = [.ref b] ∧ H l = some (.lst xs) ∧ H b = some (.tup zs) ∧ xs.length + zs.length ≤ sizeLine ∧ Q .non (upd H l (.lst (xs ++ zs)))
theorem mt_extendT : MtM X "list.extend" rExtT := by
  intro pins s σ H x vs v us Q I rx rv h
  obtain ⟨l, b, xs, zs, rfl, rfl, hH, hB, hz, q⟩ := h
  cases rx
  obtain ⟨u, rfl, ru⟩ := rv.one
  cases ru
  obtain ⟨z, its, n, r, hl, e⟩ := I.lstM hH
  obtain ⟨its2, r2, ⟨o, ho, hc, n2, hd⟩, hz2⟩ := I.tuple (SqT.of hB)
  have hl2 := r2.length
  refine call_meets PySem.F.slot_list_extend ⟨_, e, rfl⟩ PySem.F.entry_list_extend (PySem.F.args_list_extend_2 _ _)
    (meets_extend_tup l its.toArray n b its2.toArray n2 o hc hd (by rw [List.size_toArray, List.size_toArray]; omega)) ⟨e, ho, ?_⟩
  refine ⟨.non, _, I.lset (its' := its ++ its2) hH e (by simp) (r.append r2) ?_, rfl, q⟩
  rw [List.length_append]
  omega
end
end RL

/-! ### Z: single steps of readings, for walking by with_reducible refine -/
namespace Z
open PySem L2
/-- all but what stands at M is as it was -/
def Kp (M : List Addr) (H H' : Hp) : Prop := ∀ b o, b ∉ M → H b = some o → H' b = some o
theorem Kp.refl {M : List Addr} (H : Hp) : Kp M H H := fun _ _ _ h => h
theorem Kp.trans {M : List Addr} {H H1 H2 : Hp} (a : Kp M H H1) (b : Kp M H1 H2) : Kp M H H2 := fun c o n h => b c o n (a c o n h)
theorem Kp.new {M : List Addr} {H : Hp} {p : Addr} {o : HO} (h : H p = none) : Kp M H (upd H p o) := fun b u _ e => by
  rw [upd_ne (ne_of_none e h)]
  exact e
theorem Kp.put {M : List Addr} {H : Hp} {p : Addr} {o : HO} (h : p ∈ M) : Kp M H (upd H p o) := fun b u n e => by
  rw [upd_ne (fun q => n (by rw [q]; exact h))]
  exact e
theorem Kp.sub {M M' : List Addr} {H H' : Hp} (a : Kp M H H') (h : ∀ x, x ∈ M → x ∈ M') : Kp M' H H' := fun b o n e => a b o (fun z => n (h b z)) e
theorem Kp.same {H H' : Hp} (a : Kp [] H H') : Same H H' := fun b o e => a b o (by simp) e
theorem Kp.of_same {M : List Addr} {H H' : Hp} (a : Same H H') : Kp M H H' := fun b o _ e => a b o e
theorem Kp.none {M : List Addr} {H H' : Hp} (a : Kp M H H') {p : Addr} (n : p ∉ M) (h : H' p = Option.none) : H p = Option.none := by
  cases q : H p with
  | none => rfl
  | some o =>
    rw [a p o n q] at h
    cases h
/-- what was not there may be forgotten from M -/
theorem Kp.drop {M : List Addr} {H H' : Hp} {p : Addr} (a : Kp (p :: M) H H') (h : H p = Option.none) : Kp M H H' := fun b o n e => a b o (by
  intro z
  rcases List.mem_cons.mp z with z | z
  · rw [z, h] at e
    cases e
  · exact n z) e
theorem Kp.get {M : List Addr} {H H' : Hp} (a : Kp M H H') {b : Addr} {o : HO} (n : b ∉ M) (e : H b = some o) : H' b = some o := a b o n e
theorem Kp.seq {M : List Addr} {K : PySem.W.Frag} {H H' : Hp} (e : Kp M H H') {a : Addr} {xs : List V} (n : a ∉ M) (h : SqL K H a xs) : SqL K H' a xs := by
  rcases h with (h | ⟨o, h⟩) | h
  · exact .inl (.inl (e _ _ n h))
  · exact .inl (.inr ⟨o, e _ _ n h⟩)
  · exact .inr h
theorem Kp.tup {M : List Addr} {K : PySem.W.Frag} {H H' : Hp} (e : Kp M H H') {a : Addr} {xs : List V} (n : a ∉ M) (h : SqT K H a xs) : SqT K H' a xs := by
  rcases h with (h | ⟨o, h⟩) | h
  · exact .inl (.inl (e _ _ n h))
  · exact .inl (.inr ⟨o, e _ _ n h⟩)
  · exact .inr h
/-- what H0 does not know may change -/
theorem Kp.mut {M : List Addr} {H0 H H' : Hp} {l : Addr} {o : HO} (a : Kp M H0 H) (h : H0 l = Option.none) (e : H' = upd H l o) : Kp M H0 H' := fun b u n z => by
  rw [e, upd_ne (ne_of_none z h)]
  exact a b u n z
theorem Kp.then1 {M : List Addr} {H0 H H' : Hp} {l : Addr} (a : Kp M H0 H) (b : Kp [l] H H') (h : H0 l = Option.none) : Kp M H0 H' := fun c o n e => b c o (by
  intro z
  rw [List.mem_singleton.mp z, h] at e
  cases e) (a c o n e)
/-- a new instance and its dict -/
theorem Kp.made {M : List Addr} {H : Hp} {x dx : Addr} {o u : HO} (nx : H x = Option.none) (nd : H dx = Option.none) : Kp M H (upd (upd H dx u) x o) := fun c o n e => by
  rw [upd_ne (ne_of_none e nx), upd_ne (ne_of_none e nd)]
  exact e
theorem none2 {H : Hp} {x dx l : Addr} {o u : HO} (h : upd (upd H dx u) x o l = Option.none) : H l = Option.none := by
  unfold upd at h
  split at h
  · cases h
  · split at h
    · cases h
    · exact h
theorem nin1 {a b : Addr} (h : b ≠ a) : b ∉ [a] := by simpa using h
theorem nin0 {b : Addr} : b ∉ ([] : List Addr) := by simp
theorem lstL {K : PySem.W.Frag} {H : Hp} {a : Addr} {xs : List V} (h : H a = some (.lst xs)) : SqL K H a xs := .inl (.inl h)
theorem tupT {K : PySem.W.Frag} {H : Hp} {a : Addr} {xs : List V} (h : H a = some (.tup xs)) : SqT K H a xs := .inl (.inl h)

theorem cxK {CX : CXT} {P : Program} {w : World} {K : PySem.W.Frag} {mg : Str → Option Value} {base : Heap} {N : List Str} {qual : Str} {scope : Scope} {f : Addr} {cd : Value} {A : Around} {outer : List Env} {s : Shared} {H : Hp} {E : XK} : (cxOf CX P w K mg base N qual scope f cd A outer s H E).K = K := rfl
/-! named readings of rules -/
def rLenN (K : PySem.W.Frag) : List V → Hp → VK → Prop := fun xs H Q => ∃ p ys, xs = [.ref p] ∧ (SqL K H p ys ∨ SqT K H p ys) ∧ Q (.int ys.length) H
theorem c_len {X : Cx} : CallR X (.builtin "len") (rLenN X.K) := call_len_seq
def rListN (K : PySem.W.Frag) : List V → Hp → VK → Prop := fun xs H Q => ∃ p ys, xs = [.ref p] ∧ (SqL K H p ys ∨ SqT K H p ys) ∧ ∀ l, H l = none → Q (.ref l) (upd H l (.lst ys))
theorem c_list {X : Cx} : CallR X (.type "list") (rListN X.K) := call_list_of
def rTupN (K : PySem.W.Frag) : List V → Hp → VK → Prop := fun xs H Q => ∃ p ys, xs = [.ref p] ∧ ((SqL K H p ys ∧ ∀ l, H l = none → Q (.ref l) (upd H l (.tup ys))) ∨ (SqT K H p ys ∧ Q (.ref p) H))
theorem c_tuple {X : Cx} : CallR X (.type "tuple") (rTupN X.K) := call_tuple_of
def rInt1 : List V → Hp → VK → Prop := fun xs H Q => (∃ i, xs = [.int i] ∧ Q (.int i) H) ∨ ∃ k, xs = [.bl k] ∧ Q (.int (if k then 1 else 0)) H
theorem c_int {X : Cx} : CallR X (.type "int") rInt1 := call_int1
def rAbs : List V → Hp → VK → Prop := fun xs H Q => ∃ i, xs = [.int i] ∧ Q (.int (if i < 0 then -i else i)) H
theorem c_abs {X : Cx} : CallR X (.builtin "abs") rAbs := call_abs
def rIsN : R2 := fun x y H Q => y = .non ∧ Q (.bl (decide (x = .non))) H
theorem o_isN {X : Cx} : OpR X (compareOp .Is) rIsN := op_isN
def rNotN : R2 := fun x y H Q => y = .non ∧ Q (.bl (!decide (x = .non))) H
theorem o_notN {X : Cx} : OpR X (compareOp .IsNot) rNotN := op_notN
def rAddS : R2 := fun x y H Q => ∃ i j, x = .str i ∧ y = .str j ∧ i.length + j.length ≤ sizeLine ∧ Q (.str (i ++ j)) H
theorem o_addS {X : Cx} : OpR X (binaryOp .Add) rAddS := op_add_str
def rInSg : R2 := fun x y H Q => ∃ (c : Nat) (z : Str), x = .str ⟨#[c]⟩ ∧ y = .str z ∧ Q (.bl (decide (c ∈ z.cps.toList))) H
theorem o_inSg {X : Cx} : OpR X (compareOp .In) rInSg := op_in_sign
def rNinSg : R2 := fun x y H Q => ∃ (c : Nat) (z : Str), x = .str ⟨#[c]⟩ ∧ y = .str z ∧ Q (.bl (!decide (c ∈ z.cps.toList))) H
theorem o_ninSg {X : Cx} : OpR X (compareOp .NotIn) rNinSg := op_notIn_sign
/-- // by a divisor of any sign -/
def CDivA (_ j : Int) : Prop := j ≠ 0 ∧ j.natAbs.log2 < 9000
theorem op_fdivA {X : Cx} : OpR X (binaryOp .FloorDiv) (rI CDivA fun i j => .int (i.fdiv j)) := opI fun i j _ _ _ _ _ hc q => PyProof.Rows.floordiv_int hc.1 q (.inl (PyProof.noPylong_of_log2 hc.2))
theorem divA {i j : Int} {b : Nat} (h : j ≠ 0) (hb : j.natAbs < 2 ^ b) (h0 : 0 < b) (h9 : b ≤ 9000) : CDivA i j := ⟨h, Nat.lt_of_lt_of_le (PySem.Flt.log2_lt_of h0 hb) h9⟩
def rLenS : List V → Hp → VK → Prop := fun xs H Q => ∃ x : Str, xs = [.str x] ∧ x.cps.size ≤ 10000000 ∧ Q (.int (x.cps.size : Nat)) H
theorem c_lens {X : Cx} : CallR X (.builtin "len") rLenS := fun pins s σ H xs us Q I r h => call_len pins s σ H xs us Q I r (by obtain ⟨x, rfl, hz, q⟩ := h; exact ⟨.str x, _, rfl, ⟨Nat.le_trans hz (by decide), rfl⟩, q⟩)
def rPopQ : V → List V → Hp → VK → Prop := rPop
section
variable {σ : St} {H : Hp} {Q : VK} {v x y : V} {ta tb tc te : TE} {tA : TT} {D : Ends} {t u ts : TS} {r : R2} {K : PySem.W.Frag} {i : Nat} {A B : Prop}
/-! values -/
theorem var (h : σ[i]? = some (some v)) (q : Q v H) : tVar i σ H Q := ⟨v, h, q⟩
theorem cst (q : Q v H) : tC v σ H Q := q
theorem op (h : ta σ H fun x H1 => tb σ H1 fun y H2 => r x y H2 Q) : tOp r ta tb σ H Q := h
theorem un {r : V → Hp → VK → Prop} (h : ta σ H fun x H1 => r x H1 Q) : tUn r ta σ H Q := h
theorem i0 {g : Int → Int → V} {a b : Int} (q : Q (g a b) H) : rI0 g (.int a) (.int b) H Q := ⟨a, b, rfl, rfl, q⟩
theorem iC {C : Int → Int → Prop} {g : Int → Int → V} {a b : Int} (c : C a b) (q : Q (g a b) H) : rI C g (.int a) (.int b) H Q := ⟨a, b, rfl, rfl, c, q⟩
theorem iU {g : Int → V} {a : Int} (q : Q (g a) H) : rU g (.int a) H Q := ⟨a, rfl, q⟩
theorem eqII {a b : Int} (q : Q (.bl (decide (a = b))) H) : rEq (.int a) (.int b) H Q := ⟨rfl, by
  have e : decide (V.int a = V.int b) = decide (a = b) := by simp
  rw [e]; exact q⟩
theorem neII {a b : Int} (q : Q (.bl (!decide (a = b))) H) : rNe (.int a) (.int b) H Q := ⟨rfl, by
  have e : decide (V.int a = V.int b) = decide (a = b) := by simp
  rw [e]; exact q⟩
theorem eqSS {a b : Str} (q : Q (.bl (decide (a = b))) H) : rEq (.str a) (.str b) H Q := ⟨rfl, by
  have e : decide (V.str a = V.str b) = decide (a = b) := by simp
  rw [e]; exact q⟩
theorem neSS {a b : Str} (q : Q (.bl (!decide (a = b))) H) : rNe (.str a) (.str b) H Q := ⟨rfl, by
  have e : decide (V.str a = V.str b) = decide (a = b) := by simp
  rw [e]; exact q⟩
theorem eqBB {a b : Bool} (q : Q (.bl (decide (a = b))) H) : rEq (.bl a) (.bl b) H Q := ⟨rfl, by
  have e : decide (V.bl a = V.bl b) = decide (a = b) := by simp
  rw [e]; exact q⟩
theorem neBB {a b : Bool} (q : Q (.bl (!decide (a = b))) H) : rNe (.bl a) (.bl b) H Q := ⟨rfl, by
  have e : decide (V.bl a = V.bl b) = decide (a = b) := by simp
  rw [e]; exact q⟩
theorem bl {b : Bool} {q : Bool → Hp → Prop} (h : q b H) : ∃ k, V.bl b = .bl k ∧ q k H := ⟨b, rfl, h⟩
theorem bl' {b : Bool} {q : Bool → Prop} (h : q b) : ∃ k, V.bl b = .bl k ∧ q k := ⟨b, rfl, h⟩
theorem test {Q : Bool → Hp → Prop} (h : te σ H fun x H' => ∃ k, x = .bl k ∧ Q k H') : tTest te σ H Q := h
theorem tbb {Q : Bool → Hp → Prop} (h : te σ H fun x H' => ∃ k, x = .bl k ∧ Q k H') : tB te σ H Q := h
theorem tand {a b : TT} {Q : Bool → Hp → Prop} (h : a σ H fun c H1 => if c = true then b σ H1 Q else Q false H1) : tAnd a b σ H Q := h
theorem tor {a b : TT} {Q : Bool → Hp → Prop} (h : a σ H fun c H1 => if c = true then Q true H1 else b σ H1 Q) : tOr a b σ H Q := h
theorem tnot {a : TT} {Q : Bool → Hp → Prop} (h : a σ H fun c H1 => Q (!c) H1) : tNot a σ H Q := h
theorem tyes {Q : Bool → Hp → Prop} (h : Q true H) : tYes σ H Q := h
theorem andV (h : ta σ H fun x H1 => ∃ c, x = .bl c ∧ if c = true then tb σ H1 Q else Q (.bl false) H1) : tAndV ta tb σ H Q := h
theorem orV (h : ta σ H fun x H1 => ∃ c, x = .bl c ∧ if c = true then Q (.bl true) H1 else tb σ H1 Q) : tOrV ta tb σ H Q := h
theorem notV (h : ta σ H fun x H1 => ∃ c, x = .bl c ∧ Q (.bl (!c)) H1) : tNotV ta σ H Q := h
theorem ifE (h : tA σ H fun c H1 => if c = true then ta σ H1 Q else tb σ H1 Q) : L2.tIf tA ta tb σ H Q := h
theorem chain {r r' : R2} (h : ta σ H fun x H1 => tb σ H1 fun y H2 => r x y H2 fun z H3 => ∃ k, z = .bl k ∧ (if k = true then tc σ H3 fun w' H4 => r' y w' H4 Q else Q (.bl false) H3)) : tChain r r' ta tb tc σ H Q := h
/-! branches -/
theorem ite {p : Prop} [Decidable p] (h1 : p → A) (h2 : ¬p → B) : if decide p = true then A else B := by
  by_cases h : p
  · rw [decide_eq_true h, if_pos rfl]; exact h1 h
  · rw [decide_eq_false h, if_neg Bool.false_ne_true]; exact h2 h
theorem iteN {p : Prop} [Decidable p] (h1 : ¬p → A) (h2 : p → B) : if (!decide p) = true then A else B := by
  by_cases h : p
  · rw [decide_eq_true h]; exact h2 h
  · rw [decide_eq_false h]; exact h1 h
theorem iteB {b : Bool} (h1 : b = true → A) (h2 : b = false → B) : if b = true then A else B := by
  cases b with
  | true => exact h1 rfl
  | false => exact h2 rfl
theorem yes {p : Prop} [Decidable p] (h : p) (q : A) : if decide p = true then A else B := by rw [decide_eq_true h, if_pos rfl]; exact q
theorem no {p : Prop} [Decidable p] (h : ¬p) (q : B) : if decide p = true then A else B := by rw [decide_eq_false h, if_neg Bool.false_ne_true]; exact q
theorem yesN {p : Prop} [Decidable p] (h : ¬p) (q : A) : if (!decide p) = true then A else B := by rw [decide_eq_false h]; exact q
theorem noN {p : Prop} [Decidable p] (h : p) (q : B) : if (!decide p) = true then A else B := by rw [decide_eq_true h]; exact q
theorem yesB (q : A) : if true = true then A else B := q
theorem noNB (q : B) : if (!true) = true then A else B := q
theorem yesNB (q : A) : if (!false) = true then A else B := q
theorem noB (q : B) : if false = true then A else B := q
/-! calls -/
theorem nil {Q : List V → Hp → Prop} (q : Q [] H) : tNil σ H Q := q
theorem cons {Q : List V → Hp → Prop} {tr : TA} (h : ta σ H fun x H1 => tr σ H1 fun xs H2 => Q (x :: xs) H2) : tCons ta tr σ H Q := h
theorem cb {r : List V → Hp → VK → Prop} {a : TA} (h : a σ H fun vs H1 => r vs H1 Q) : tCB r a σ H Q := h
theorem call {sp : Sp} {dvs : List V} {E : XK} {a : TA} (h : a σ H fun vs H1 => sp (vs ++ dvs) H1 Q E) : tCall sp dvs E a σ H Q := h
theorem meth {C : Addr} {m : Str} {sp : Sp} {dvs : List V} {E : XK} {a : TA} (h : ta σ H fun x H1 => ∃ p dx fs, x = .ref p ∧ H1 p = some (.ins C dx fs) ∧ fs.lookup m = none ∧ a σ H1 fun vs H2 => sp (x :: (vs ++ dvs)) H2 Q E) : tMeth C m sp dvs E ta a σ H Q := h
theorem fld {f : Str} (h : ta σ H fun x H1 => ∃ a C dx fs v, x = .ref a ∧ H1 a = some (.ins C dx fs) ∧ Cls K C ∧ NoAttr K C f ∧ fs.lookup f = some v ∧ Q v H1) : tFld K ta f σ H Q := h
theorem int1 {a : Int} (q : Q (.int a) H) : rInt1 [.int a] H Q := .inl ⟨a, rfl, q⟩
theorem intb {b : Bool} (q : Q (.int (if b then 1 else 0)) H) : rInt1 [.bl b] H Q := .inr ⟨b, rfl, q⟩
theorem abs1 {a : Int} (q : Q (.int (if a < 0 then -a else a)) H) : rAbs [.int a] H Q := ⟨a, rfl, q⟩
theorem isN (q : Q (.bl (decide (x = .non))) H) : rIsN x .non H Q := ⟨rfl, q⟩
theorem notN (q : Q (.bl (!decide (x = .non))) H) : rNotN x .non H Q := ⟨rfl, q⟩
theorem addS {a b : Str} (h : a.length + b.length ≤ sizeLine) (q : Q (.str (a ++ b)) H) : rAddS (.str a) (.str b) H Q := ⟨a, b, rfl, rfl, h, q⟩
theorem inSg {c : Nat} {z : Str} (q : Q (.bl (decide (c ∈ z.cps.toList))) H) : rInSg (.str ⟨#[c]⟩) (.str z) H Q := ⟨c, z, rfl, rfl, q⟩
theorem ninSg {c : Nat} {z : Str} (q : Q (.bl (!decide (c ∈ z.cps.toList))) H) : rNinSg (.str ⟨#[c]⟩) (.str z) H Q := ⟨c, z, rfl, rfl, q⟩
/-- a new object -/
theorem new {o : HO} (h : ∀ p, H p = none → Q (.ref p) (upd H p o)) : ∀ p, H p = none → Q (.ref p) (upd H p o) := h
def TupN (Q : VK) (xs : List V) (H1 : Hp) : Prop := xs.length ≤ sizeLine ∧ ∀ p, H1 p = none → Q (.ref p) (upd H1 p (.tup xs))
def LstN (Q : VK) (xs : List V) (H1 : Hp) : Prop := xs.length ≤ sizeLine ∧ ∀ p, H1 p = none → Q (.ref p) (upd H1 p (.lst xs))
theorem tup {a : TA} (h : a σ H (TupN Q)) : tTup a σ H Q := h
theorem lst {a : TA} (h : a σ H (LstN Q)) : tLst a σ H Q := h
/-- a new object, the heap behind it a letter -/
theorem mk {o : HO} {H0 : Hp} {R : Addr → Hp → Prop} (h : ∀ p H1, H0 p = none → Kp [] H0 H1 → H1 p = some o → R p H1) : ∀ p, H0 p = none → R p (upd H0 p o) := fun p n => h p _ n (Kp.new n) upd_same
theorem tupK {xs : List V} (q : ∀ p H1, H p = none → Kp [] H H1 → H1 p = some (.tup xs) → Q (.ref p) H1) (h : xs.length ≤ 100000 := by simp) : TupN Q xs H := ⟨Nat.le_trans h (by decide), mk q⟩
theorem lstK {xs : List V} (q : ∀ p H1, H p = none → Kp [] H H1 → H1 p = some (.lst xs) → Q (.ref p) H1) (h : xs.length ≤ 100000 := by simp) : LstN Q xs H := ⟨Nat.le_trans h (by decide), mk q⟩
theorem sz {n m : Nat} (h : n ≤ m) (hm : m ≤ 10000000 := by decide) : n ≤ sizeLine := Nat.le_trans h (Nat.le_trans hm (by decide))
theorem szl {n m : Nat} (h : n ≤ m) (hm : m ≤ 10000000 := by decide) : n < sizeLine := Nat.lt_of_le_of_lt (Nat.le_trans h hm) (by decide)
/-! subscripts -/
theorem ixL {p : Addr} {xs : List V} {j : Int} (h : SqL K H p xs) (e : atI xs j = some v) (q : Q v H) : rIxL K (.ref p) (.int j) H Q := ⟨p, xs, j, v, rfl, rfl, h, e, q⟩
theorem ixT {p : Addr} {xs : List V} {j : Int} (h : SqT K H p xs) (e : atI xs j = some v) (q : Q v H) : rIxT K (.ref p) (.int j) H Q := ⟨p, xs, j, v, rfl, rfl, h, e, q⟩
theorem setL {p : Addr} {xs : List V} {k : Int} {j : Nat} {v : V} {q : Hp → Prop} (h : H p = some (.lst xs)) (e : ixN xs.length k = some j) (hq : q (upd H p (.lst (xs.set j v)))) : rSetL (.ref p) (.int k) v H q := ⟨p, xs, k, j, rfl, rfl, h, e, hq⟩
theorem gsub {to ti : TE} {t : TSet} {Q : St → Hp → Prop} (h : to σ H fun o H1 => ti σ H1 fun i H2 => t o i v H2 fun H3 => Q σ H3) : gSub to ti t v σ H Q := h
/-! statements -/
/-- a statement whose ways join ahead of the rest -/
def tSeqJ (t u : TS) : TS := tSeq t u
theorem pss_consJ {X : Cx} {st : Stmt} {rest : List Stmt} {t u : TS} (h1 : PS X st t) (h2 : PSs X rest u) : PSs X (st :: rest) (tSeqJ t u) := pss_cons h1 h2
theorem seqJ (J : St → Hp → Prop) (h2 : ∀ σ H, J σ H → u D σ H) (h1 : ∀ N : St → Hp → Prop, (∀ σ H, J σ H → N σ H) → t { D with nx := N } σ H) : tSeqJ t u D σ H := h1 (u D) h2
theorem seqJ' (h : tSeq t u D σ H) : tSeqJ t u D σ H := h
theorem seq (h : t { D with nx := u D } σ H) : tSeq t u D σ H := h
theorem asg {g : TG} (h : te σ H fun x H1 => g x σ H1 D.nx) : tAsg te g D σ H := h
theorem gname {Q : St → Hp → Prop} {σ' : St} (e : σ.set i (some v) = σ') (h : Q σ' H) : gName i v σ H Q := by
  subst e; exact h
def ParK (i j : Nat) (D : Ends) (σ : St) (vs : List V) (H1 : Hp) : Prop := ∃ v w, vs = [v, w] ∧ D.nx ((σ.set i (some v)).set j (some w)) H1
theorem par {i j : Nat} {a : TA} (h : a σ H (ParK i j D σ)) : tPar i j a D σ H := h
theorem par2 {i j : Nat} {v w : V} {σ' : St} (e : (σ.set i (some v)).set j (some w) = σ') (h : D.nx σ' H) : ParK i j D σ [v, w] H := ⟨v, w, rfl, by rw [e]; exact h⟩
theorem aug {ti : TIp} {x : V} (e : σ[i]? = some (some x)) (h : te σ H fun y H1 => ti x y H1 fun z H2 => D.nx (σ.set i (some z)) H2) : tAug i te ti D σ H := ⟨x, e, h⟩
theorem ipI' {f : Int → Int → Int} {a b : Int} (q : Q (.int (f a b)) H) : ipI f (.int a) (.int b) H Q := ⟨a, b, rfl, rfl, q⟩
theorem ifs {c : TT} (h : c σ H fun b H1 => if b = true then t D σ H1 else u D σ H1) : tIfS c t u D σ H := h
theorem ret (h : te σ H D.rt) : tRet te D σ H := h
theorem retN (h : D.rt .non H) : tRetN D σ H := h
theorem next (h : D.nx σ H) : tNext D σ H := h
theorem brk (h : D.bk σ H) : tBreak D σ H := h
theorem drop (h : te σ H fun _ H1 => D.nx σ H1) : tDrop te D σ H := h
theorem bm {T : String} {r : V → List V → Hp → VK → Prop} {to : TE} {a : TA} (h : to σ H fun x H1 => tyV K T x H1 ∧ a σ H1 fun xs H2 => r x xs H2 Q) : tBM K T r to a σ H Q := h
theorem bm0 {T : String} {r : V → List V → Hp → VK → Prop} {to : TE} (h : to σ H fun x H1 => tyV K T x H1 ∧ r x [] H1 Q) : tBM0 K T r to σ H Q := h
theorem app {l : Addr} {xs : List V} {y : V} (h : H l = some (.lst xs)) (z : xs.length < sizeLine) (q : Q .non (upd H l (.lst (xs ++ [y])))) : rAppend (.ref l) [y] H Q := ⟨l, xs, y, rfl, rfl, h, z, q⟩
theorem tyL {p : Addr} {xs : List V} (h : H p = some (.lst xs)) : tyV K "list" (.ref p) H := .inl ⟨rfl, _, SqL.of h⟩
theorem sfld {tv : TE} {f : Str} (h : tv σ H fun y H1 => ta σ H1 fun x H2 => ∃ a C dx fs, x = .ref a ∧ H2 a = some (.ins C dx fs) ∧ Cls K C ∧ NoAttr K C f ∧ fs.length < 1000 ∧ D.nx σ (upd H2 a (.ins C dx (putF f y fs)))) : sFld K ta tv f D σ H := h
theorem sfldaug {tv : TE} {rd : V → V → Hp → VK → Prop} {f : Str} (h : ta σ H fun x H1 => ∃ a C dx fs v, x = .ref a ∧ H1 a = some (.ins C dx fs) ∧ Cls K C ∧ NoAttr K C f ∧ fs.lookup f = some v ∧ tv σ H1 fun y H2 => rd v y H2 fun z H3 => ∃ dx' fs', H3 a = some (.ins C dx' fs') ∧ fs'.length < 1000 ∧ D.nx σ (upd H3 a (.ins C dx' (putF f z fs')))) : sFldAug K ta tv rd f D σ H := h
theorem radd {a b : Int} (q : Q (.int (a + b)) H) : rAdd (.int a) (.int b) H Q := ⟨a, b, rfl, rfl, q⟩
theorem make {C : Addr} {sp : Sp} {dvs : List V} {E : XK} {a : TA} (h : a σ H fun vs H1 => ∀ x dx, H1 x = none → H1 dx = none → dx ≠ x → sp (.ref x :: (vs ++ dvs)) (upd (upd H1 dx (.own x)) x (.ins C dx [])) (fun v H2 => v = .non ∧ Q (.ref x) H2) E) : tMake C sp dvs E a σ H Q := h
/-- while -/
def WhB (W : Nat → St → Hp → Prop) (m : Nat) (tb : TS) (D : Ends) (σ : St) (H1 : Hp) : Prop := ∃ N : St → Hp → Prop, (∀ σ' H', N σ' H' → ∃ m', m' < m ∧ W m' σ' H') ∧ tb { D with nx := N, ct := N, bk := D.nx } σ H1
theorem whb {W : Nat → St → Hp → Prop} {m : Nat} {tb : TS} (h : tb { D with nx := fun σ' H' => ∃ m', m' < m ∧ W m' σ' H', ct := fun σ' H' => ∃ m', m' < m ∧ W m' σ' H', bk := D.nx } σ H) : WhB W m tb D σ H := ⟨_, fun _ _ z => z, h⟩
theorem wh {c : TT} {tb : TS} (W : Nat → St → Hp → Prop) (m : Nat) (h0 : W m σ H) (hs : ∀ m σ H, W m σ H → c σ H fun b H1 => if b = true then WhB W m tb D σ H1 else D.nx σ H1) : tWhile c tb D σ H := ⟨W, ⟨m, h0⟩, hs⟩
/-- calls by values -/
theorem sumL {a : Addr} {ns : List Int} (h : SqL K H a (ns.map V.int)) (q : Q (.int ns.sum) H) : rSum K [.ref a] H Q := ⟨a, ns, rfl, h, q⟩
theorem gcd {a b : Int} (q : Q (.int ((Nat.gcd a.natAbs b.natAbs : Nat) : Int)) H) : rGcd [.int a, .int b] H Q := ⟨a, b, rfl, q⟩
theorem mkN {C : Addr} {sp : Sp} {Q : XK} (h : ∀ a, H a = none → sp [.ref a] (upd H a (exo a C none)) (fun v H2 => v = .non ∧ H2 a = some (exo a C none) ∧ Q (.ref C) none (del H2 a)) (fun _ _ _ => False)) : Sup.tMkN C sp σ H Q := h
theorem gtup {n : Nat} {t : TGs} {a : Addr} {xs : List V} {Q : St → Hp → Prop} (h : SqT K H a xs) (e : xs.length = n) (q : t xs σ H Q) : gTup K n t (.ref a) σ H Q := ⟨a, xs, rfl, h, e, q⟩
theorem gcons {t : TG} {u : TGs} {v : V} {r : List V} {Q : St → Hp → Prop} (q : t v σ H fun σ' H' => u r σ' H' Q) : gCons t u (v :: r) σ H Q := ⟨v, r, rfl, q⟩
theorem gnil {Q : St → Hp → Prop} (q : Q σ H) : gNil [] σ H Q := ⟨rfl, q⟩
theorem lenL {a : Addr} {xs : List V} (h : SqL K H a xs) (q : Q (.int xs.length) H) : rLenN K [.ref a] H Q := ⟨a, xs, rfl, .inl h, q⟩
theorem lenT {a : Addr} {xs : List V} (h : SqT K H a xs) (q : Q (.int xs.length) H) : rLenN K [.ref a] H Q := ⟨a, xs, rfl, .inr h, q⟩
theorem listL {a : Addr} {xs : List V} (h : SqL K H a xs) (q : ∀ p H1, H p = none → Kp [] H H1 → H1 p = some (.lst xs) → Q (.ref p) H1) : rListN K [.ref a] H Q := ⟨a, xs, rfl, .inl h, mk q⟩
theorem isi {A B : String} {x : V} {b : Bool} (ht : TyX K H x (.type A)) (hk : kitB A B = some b) (q : Q (.bl b) H) : rIsi K [x, .ty B] H Q := ⟨x, _, _, _, b, rfl, .ty _, ht, kit_ty hk, q⟩
theorem isiI {B : String} {a : Int} {b : Bool} (hk : kitB "int" B = some b) (q : Q (.bl b) H) : rIsi K [.int a, .ty B] H Q := isi (.base (.int _)) hk q
theorem atM {ns : List Int} {j : Nat} {x : Int} (h : ns[j]? = some x) : atI (ns.map V.int) (j : Int) = some (.int x) := atI_nat (by rw [List.getElem?_map, h]; rfl)
theorem ixN_nat {n j : Nat} (hj : j < n) : ixN n (j : Int) = some j := by
  unfold ixN
  rw [if_pos (by omega), if_pos (by omega)]
  simp
/-- a comprehension, a loop over range(n), over a list -/
def ForK (g : TG) (tb : TS) (D : Ends) (σ : St) (J : It) (H1 : Hp) : Prop := ∃ W : Nat → Nat → St → Hp → Prop, (∃ m, W 0 m σ H1) ∧ ∀ i m σ H, W i m σ H →
  (J.stop i H ∧ D.nx σ H) ∨ (J.go i H ∧ ∃ N : St → Hp → Prop, (∀ σ' H', N σ' H' → ∃ m', m' < m ∧ W (i + 1) m' σ' H') ∧ ∀ x H', J.yld i H x H' → g x σ H' fun σ2 H2 => tb { D with nx := N, ct := N, bk := D.nx } σ2 H2)
def LcK (g : TG) (tt : TT) (te : TE) (vs : List Nat) (σ : St) (Q : VK) (J : It) (H1 : Hp) : Prop := ∀ D, H1 D = none → ∃ W : Nat → Nat → Hp → Prop, (∃ m, W 0 m (upd H1 D (.lst []))) ∧ ∀ i m H, W i m H →
      (J.stop i H ∧ Q (.ref D) H) ∨ (J.go i H ∧ ∃ Nx : Hp → Prop, (∀ H', Nx H' → ∃ m', m' < m ∧ W (i + 1) m' H') ∧ ∀ x H', J.yld i H x H' → g x (wipe σ vs) H' fun σ2 H2 => wipe σ2 vs = wipe σ vs ∧ tt σ2 H2 fun b H3 => if b = true then te σ2 H3 fun y H4 => ∃ acc, H4 D = some (.lst acc) ∧ acc.length < sizeLine ∧ Nx (upd H4 D (.lst (acc ++ [y]))) else Nx H3)
def Rng1K (R : It → Hp → Prop) (vs : List V) (H1 : Hp) : Prop := ∃ j : Int, vs = [.int j] ∧ -(2 ^ 62) ≤ j ∧ j < 2 ^ 62 ∧ R (Itr 0 j.toNat) H1
def ListK (K : PySem.W.Frag) (R : It → Hp → Prop) (x : V) (H1 : Hp) : Prop := ∃ a, x = .ref a ∧ (∃ xs, SqL K H1 a xs) ∧ R (Itl K a) H1
theorem lc {wi : TI} {g : TG} {tt : TT} {vs : List Nat} (h : wi σ H (LcK g tt te vs σ Q)) : tLc wi g tt te vs σ H Q := h
theorem rng1 {a : TA} {R : It → Hp → Prop} (h : a σ H (Rng1K R)) : iRng1 a σ H R := h
theorem ilist {R : It → Hp → Prop} (h : ta σ H (ListK K R)) : iList K ta σ H R := h
theorem for_ {wi : TI} {g : TG} {tb : TS} (h : wi σ H (ForK g tb D σ)) : tFor wi g tb D σ H := h
/-- what one turn of a comprehension asks -/
def LcT (g : TG) (tt : TT) (te : TE) (vs : List Nat) (σ : St) (D : Addr) (P : Hp → Prop) (x : V) (H1 : Hp) : Prop := g x (wipe σ vs) H1 fun σ2 H2 => wipe σ2 vs = wipe σ vs ∧ tt σ2 H2 fun b H3 => if b = true then te σ2 H3 fun y H4 => ∃ acc, H4 D = some (.lst acc) ∧ acc.length < sizeLine ∧ P (upd H4 D (.lst (acc ++ [y]))) else P H3
theorem lcr {g : TG} {tt : TT} {vs : List Nat} {e : Int} (n : Nat) (he : e = (n : Int)) (hb : n < 4611686018427387904) (Pv : Addr → Nat → Hp → Prop) (h0 : ∀ D H1, H D = none → Kp [] H H1 → H1 D = some (.lst []) → Pv D 0 H1)
    (hs : ∀ D i H1, H D = none → i < n → Pv D i H1 → g (.int (i : Int)) (wipe σ vs) H1 fun σ2 H2 => wipe σ2 vs = wipe σ vs ∧ tt σ2 H2 fun b H3 => if b = true then te σ2 H3 fun y H4 => ∃ acc, H4 D = some (.lst acc) ∧ acc.length < sizeLine ∧ Pv D (i + 1) (upd H4 D (.lst (acc ++ [y]))) else Pv D (i + 1) H3)
    (hd : ∀ D H1, H D = none → Pv D n H1 → Q (.ref D) H1) : Rng1K (LcK g tt te vs σ Q) [.int e] H := by
  subst he
  refine ⟨(n : Int), rfl, by omega, by omega, fun D hD => ?_⟩
  rw [show ((n : Int)).toNat = n by simp]
  refine lc_range (lo := 0) (n := n) (Pv D) (h0 D _ hD (Kp.new hD) upd_same) (fun i H1 hi p => ?_) fun H1 p => hd D H1 hD p
  rw [show (0 : Int) + (i : Int) = (i : Int) by omega]
  exact hs D i H1 hD hi p
theorem lcl {g : TG} {tt : TT} {vs : List Nat} {a : Addr} (xs : List V) (hS : SqL K H a xs) (Pv : Addr → Nat → Hp → Prop) (h0 : ∀ D H1, H D = none → Kp [] H H1 → H1 D = some (.lst []) → Pv D 0 H1)
    (hl : ∀ D i H1, H D = none → i ≤ xs.length → Pv D i H1 → SqL K H1 a xs)
    (hs : ∀ D i x H1, H D = none → xs[i]? = some x → Pv D i H1 → g x (wipe σ vs) H1 fun σ2 H2 => wipe σ2 vs = wipe σ vs ∧ tt σ2 H2 fun b H3 => if b = true then te σ2 H3 fun y H4 => ∃ acc, H4 D = some (.lst acc) ∧ acc.length < sizeLine ∧ Pv D (i + 1) (upd H4 D (.lst (acc ++ [y]))) else Pv D (i + 1) H3)
    (hd : ∀ D H1, H D = none → Pv D xs.length H1 → Q (.ref D) H1) : ListK K (LcK g tt te vs σ Q) (.ref a) H :=
  ⟨a, rfl, ⟨xs, hS⟩, fun D hD => lc_list (K := K) (a := a) (xs := xs) (Pv D) (h0 D _ hD (Kp.new hD) upd_same) (fun i H1 hi p => hl D i H1 hD hi p) (fun i x H1 hx p => hs D i x H1 hD hx p) fun H1 p => hd D H1 hD p⟩
/-- over a tuple -/
def TupK (K : PySem.W.Frag) (R : It → Hp → Prop) (x : V) (H1 : Hp) : Prop := ∃ a, x = .ref a ∧ (∃ xs, SqT K H1 a xs) ∧ R (Itt K a) H1
theorem itup {R : It → Hp → Prop} (h : ta σ H (TupK K R)) : iTup K ta σ H R := h
theorem lct {g : TG} {tt : TT} {vs : List Nat} {a : Addr} (xs : List V) (hS : SqT K H a xs) (Pv : Addr → Nat → Hp → Prop) (h0 : ∀ D H1, H D = none → Kp [] H H1 → H1 D = some (.lst []) → Pv D 0 H1)
    (hl : ∀ D i H1, H D = none → i ≤ xs.length → Pv D i H1 → SqT K H1 a xs)
    (hs : ∀ D i x H1, H D = none → xs[i]? = some x → Pv D i H1 → g x (wipe σ vs) H1 fun σ2 H2 => wipe σ2 vs = wipe σ vs ∧ tt σ2 H2 fun b H3 => if b = true then te σ2 H3 fun y H4 => ∃ acc, H4 D = some (.lst acc) ∧ acc.length < sizeLine ∧ Pv D (i + 1) (upd H4 D (.lst (acc ++ [y]))) else Pv D (i + 1) H3)
    (hd : ∀ D H1, H D = none → Pv D xs.length H1 → Q (.ref D) H1) : TupK K (LcK g tt te vs σ Q) (.ref a) H :=
  ⟨a, rfl, ⟨xs, hS⟩, fun D hD => lc_tup (K := K) (a := a) (xs := xs) (Pv D) (h0 D _ hD (Kp.new hD) upd_same) (fun i H1 hi p => hl D i H1 hD hi p) (fun i x H1 hx p => hs D i x H1 hD hx p) fun H1 p => hd D H1 hD p⟩
theorem allL {a : Addr} {bs : List Bool} (h : SqL K H a (bs.map V.bl)) (q : Q (.bl (bs.all id)) H) : rAll K [.ref a] H Q := ⟨a, bs, rfl, h, q⟩
theorem anyL {a : Addr} {bs : List Bool} (h : SqL K H a (bs.map V.bl)) (q : Q (.bl (bs.any id)) H) : rAny K [.ref a] H Q := ⟨a, bs, rfl, h, q⟩
theorem forr {g : TG} {tb : TS} {e : Int} (n : Nat) (he : e = (n : Int)) (hb : n < 4611686018427387904) (Pv : Nat → St → Hp → Prop) (h0 : Pv 0 σ H)
    (hs : ∀ i σ H, i < n → Pv i σ H → g (.int (i : Int)) σ H fun σ2 H2 => tb { D with nx := Pv (i + 1), ct := Pv (i + 1), bk := D.nx } σ2 H2) (hd : ∀ σ H, Pv n σ H → D.nx σ H) : Rng1K (ForK g tb D σ) [.int e] H := by
  subst he
  refine ⟨(n : Int), rfl, by omega, by omega, ?_⟩
  rw [show ((n : Int)).toNat = n by simp]
  refine for_range (lo := 0) (n := n) Pv h0 (fun i σ H1 hi p => ?_) hd
  rw [show (0 : Int) + (i : Int) = (i : Int) by omega]
  exact hs i σ H1 hi p
theorem forl {g : TG} {tb : TS} {a : Addr} (xs : List V) (hS : SqL K H a xs) (Pv : Nat → St → Hp → Prop) (h0 : Pv 0 σ H) (hl : ∀ i σ H, i ≤ xs.length → Pv i σ H → SqL K H a xs)
    (hs : ∀ i x σ H, xs[i]? = some x → Pv i σ H → g x σ H fun σ2 H2 => tb { D with nx := Pv (i + 1), ct := Pv (i + 1), bk := D.nx } σ2 H2) (hd : ∀ σ H, Pv xs.length σ H → D.nx σ H) : ListK K (ForK g tb D σ) (.ref a) H :=
  ⟨a, rfl, ⟨xs, hS⟩, for_list (K := K) (a := a) (xs := xs) Pv h0 hl hs hd⟩
/-! texts -/
def StrK (R : It → Hp → Prop) (v : V) (H1 : Hp) : Prop := ∃ x, v = .str x ∧ R (Its x) H1
theorem istr {R : It → Hp → Prop} (h : ta σ H (StrK R)) : iStr ta σ H R := h
theorem fors {g : TG} {tb : TS} {x : Str} (Pv : Nat → St → Hp → Prop) (h0 : Pv 0 σ H)
    (hs : ∀ i c σ H, x.cps[i]? = some c → Pv i σ H → g (.str ⟨#[c]⟩) σ H fun σ2 H2 => tb { D with nx := Pv (i + 1), ct := Pv (i + 1), bk := D.nx } σ2 H2) (hd : ∀ σ H, Pv x.cps.size σ H → D.nx σ H) : StrK (ForK g tb D σ) (.str x) H :=
  ⟨x, rfl, for_it walk_str Pv h0 (fun _ _ _ _ _ => trivial) (fun i v σ H H' hi p y => by obtain ⟨rfl, c, hc, rfl⟩ := y; exact hs i c σ _ hc p) hd⟩
theorem lcs {g : TG} {tt : TT} {vs : List Nat} {x : Str} (Pv : Addr → Nat → Hp → Prop) (h0 : ∀ D H1, H D = none → Kp [] H H1 → H1 D = some (.lst []) → Pv D 0 H1)
    (hs : ∀ D i c H1, H D = none → x.cps[i]? = some c → Pv D i H1 → g (.str ⟨#[c]⟩) (wipe σ vs) H1 fun σ2 H2 => wipe σ2 vs = wipe σ vs ∧ tt σ2 H2 fun b H3 => if b = true then te σ2 H3 fun y H4 => ∃ acc, H4 D = some (.lst acc) ∧ acc.length < sizeLine ∧ Pv D (i + 1) (upd H4 D (.lst (acc ++ [y]))) else Pv D (i + 1) H3)
    (hd : ∀ D H1, H D = none → Pv D x.cps.size H1 → Q (.ref D) H1) : StrK (LcK g tt te vs σ Q) (.str x) H :=
  ⟨x, rfl, fun D hD => lc_it walk_str (Pv D) (h0 D _ hD (Kp.new hD) upd_same) (fun _ _ _ _ => trivial) (fun i v H H' hi p y => by obtain ⟨rfl, c, hc, rfl⟩ := y; exact hs D i c _ hD hc p) fun H1 p => hd D H1 hD p⟩
theorem lenS {x : Str} (hz : x.cps.size ≤ 10000000) (q : Q (.int (x.cps.size : Nat)) H) : rLenS [.str x] H Q := ⟨x, rfl, hz, q⟩
/-! enumerate -/
def EnumK (K : PySem.W.Frag) (R : It → Hp → Prop) (vs : List V) (H1 : Hp) : Prop := ∃ a xs, vs = [.ref a] ∧ SqL K H1 a xs ∧ R (Ite K a) H1
theorem ienum {a : TA} {R : It → Hp → Prop} (h : a σ H (EnumK K R)) : iEnum K a σ H R := h
theorem fore {g : TG} {tb : TS} {a : Addr} (xs : List V) (hS : SqL K H a xs) (Pv : Nat → St → Hp → Prop) (h0 : Pv 0 σ H) (hl : ∀ i σ H, i ≤ xs.length → Pv i σ H → SqL K H a xs)
    (hs : ∀ i x σ H H' T, xs[i]? = some x → Pv i σ H → H T = none → Kp [] H H' → H' T = some (.tup [.int (i : Nat), x]) → g (.ref T) σ H' fun σ2 H2 => tb { D with nx := Pv (i + 1), ct := Pv (i + 1), bk := D.nx } σ2 H2) (hd : ∀ σ H, Pv xs.length σ H → D.nx σ H) : EnumK K (ForK g tb D σ) [.ref a] H :=
  ⟨a, xs, rfl, hS, for_it (walk_enum (K := K) (a := a) (xs := xs)) Pv h0 hl (fun i v σ H H' hi p y => by
    obtain ⟨T, x, z, rfl, h1, rfl, h2, h3⟩ := y
    cases h2
    exact hs i z σ H _ T h3 p h1 (Kp.new h1) upd_same) hd⟩
/-! dicts -/
theorem dnew (h : ∀ p H1, H p = none → Kp [] H H1 → H1 p = some (.dK []) → Q (.ref p) H1) : tDNewK σ H Q := mk h
theorem din {ty td : TE} (h : ty σ H fun y H1 => td σ H1 fun x H2 => ∃ a o, x = .ref a ∧ DGet H2 a y o ∧ Q (.bl o.isSome) H2) : tDIn ty td σ H Q := h
theorem dput {td ty tv : TE} (h : tv σ H fun v H1 => td σ H1 fun x H2 => ty σ H2 fun y H3 => ∃ a H4, x = .ref a ∧ DPut H3 a y v H4 ∧ D.nx σ H4) : sDPut td ty tv D σ H := h
theorem dget {td ty : TE} (h : td σ H fun x H1 => ty σ H1 fun y H2 => ∃ a v, x = .ref a ∧ DGet H2 a y (some v) ∧ Q v H2) : tDGet td ty σ H Q := h
/-! lists and tuples -/
theorem ixA {p : Addr} {xs : List V} {j : Int} (h : SqL K H p xs ∨ SqT K H p xs) (e : atI xs j = some v) (q : Q v H) : rIx K (.ref p) (.int j) H Q := h.elim (fun h => .inl (ixL h e q)) (fun h => .inr (.inl (ixT h e q)))
theorem lenA {a : Addr} {xs : List V} (h : SqL K H a xs ∨ SqT K H a xs) (q : Q (.int xs.length) H) : rLenN K [.ref a] H Q := ⟨a, xs, rfl, h, q⟩
theorem sl {r : V → Option Int → Option Int → Hp → VK → Prop} {tl th : TO} (h : ta σ H fun x H1 => tl σ H1 fun l H2 => th σ H2 fun u H3 => r x l u H3 Q) : tSl r ta tl th σ H Q := h
theorem slno {Q : Option Int → Hp → Prop} (h : Q none H) : tNoPart σ H Q := h
theorem slpart {Q : Option Int → Hp → Prop} (h : ta σ H fun x H1 => ∃ i, x = .int i ∧ Q (some i) H1) : tPart ta σ H Q := h
theorem bint {i : Int} {q : Int → Prop} (h : q i) : ∃ k, V.int i = .int k ∧ q k := ⟨i, rfl, h⟩
theorem slL {p : Addr} {xs : List V} {lo hi : Option Int} (h : SqL K H p xs) (q : ∀ d H1, H d = none → Kp [] H H1 → H1 d = some (.lst (cutV xs lo hi)) → Q (.ref d) H1) : rSlL K (.ref p) lo hi H Q := ⟨p, xs, rfl, h, mk q⟩
theorem cut_take {xs : List V} {k : Nat} (h : k ≤ xs.length) : cutV xs none (some (k : Int)) = xs.take k := by
  unfold cutV
  rw [HT.sIx_none, HT.sIx_nat, List.drop_zero, Nat.sub_zero, Nat.min_eq_left h]
theorem cut_drop {xs : List V} {k : Nat} (h : k ≤ xs.length) : cutV xs (some (k : Int)) none = xs.drop k := by
  unfold cutV
  rw [HT.sIx_none, HT.sIx_nat, Nat.min_eq_left h]
  exact List.take_of_length_le (by rw [List.length_drop] <;> omega)
theorem inq {neg : Bool} {p : Addr} {xs : List V} (h : SqL K H p xs ∨ SqT K H p xs) (fx : flatV x = true) (fs : xs.all flatV = true) (q : Q (.bl (if neg then !inV x xs else inV x xs)) H) : rIn K neg x (.ref p) H Q := ⟨p, xs, rfl, h, fx, fs, q⟩
theorem inV_strs {a : Str} {l : List Str} : inV (.str a) (l.map V.str) = decide (a ∈ l) := by
  unfold inV
  induction l with
  | nil => simp
  | cons b r ih =>
    rw [List.map_cons, List.any_cons, ih]
    show ((b == a) || _) = _
    by_cases e : b = a
    · subst e; simp
    · have e' : ¬ a = b := fun z => e z.symm
      simp [e, e']
theorem strs_flat {l : List Str} : (l.map V.str).all flatV = true := by simp [flatV]
theorem pop {l : Addr} {xs : List V} {y : V} (h : H l = some (.lst xs)) (e : xs[xs.length - 1]? = some y) (q : Q y (upd H l (.lst xs.dropLast))) : rPop (.ref l) [] H Q := ⟨l, xs, y, rfl, rfl, h, e, q⟩
def LRK (K : PySem.W.Frag) (Q : VK) (x : V) (H1 : Hp) : Prop := ∃ a xs, x = .ref a ∧ SqL K H1 a xs ∧ ∀ p, H1 p = none → Q (.ref p) (upd H1 p (.lst xs.reverse))
theorem listrev (h : ta σ H (LRK K Q)) : RL.tListRev K ta σ H Q := h
theorem lrk {a : Addr} {xs : List V} (hS : SqL K H a xs) (q : ∀ p H1, H p = none → Kp [] H H1 → H1 p = some (.lst xs.reverse) → Q (.ref p) H1) : LRK K Q (.ref a) H := ⟨a, xs, rfl, hS, mk q⟩
theorem popS {l : Addr} {xs : List V} {y : V} (h : H l = some (.lst (xs ++ [y]))) (q : Q y (upd H l (.lst xs))) : rPop (.ref l) [] H Q := ⟨l, _, y, rfl, rfl, h, by simp, by rw [List.dropLast_concat]; exact q⟩
theorem extT {l b : Addr} {xs zs : List V} (h : H l = some (.lst xs)) (h2 : H b = some (.tup zs)) (hz : xs.length + zs.length ≤ 10000000) (q : Q .non (upd H l (.lst (xs ++ zs)))) : RL.rExtT (.ref l) [.ref b] H Q := ⟨l, b, xs, zs, rfl, rfl, h, h2, Nat.le_trans hz (by decide), q⟩
theorem slT {p : Addr} {xs : List V} {k : Nat} (h : SqT K H p xs) (h0 : 0 < k) (h1 : k ≤ xs.length) (q : ∀ d H1, H d = none → Kp [] H H1 → H1 d = some (.tup (xs.drop k)) → Q (.ref d) H1) : rSlT K (.ref p) (some (k : Int)) none H Q := ⟨p, xs, rfl, h, fun z => by
  rw [HT.sIx_nat, Nat.min_eq_left h1] at z
  omega, mk (by rw [cut_drop h1]; exact q)⟩
theorem revl (h : ta σ H (LRK K Q)) : tRevL K ta σ H Q := h
theorem idx {a : Addr} {ys : List V} {y : V} (j : Nat) {z : V} (hS : SqL K H a ys) (fy : flatV y = true) (fs : ys.all flatV = true) (hz : ys[j]? = some z) (hy : eqV z y = true) (hn : ∀ (m : Nat) (z' : V), m < j → ys[m]? = some z' → eqV z' y = false) (q : Q (.int (j : Nat)) H) : rIndex K (.ref a) [y] H Q := ⟨a, ys, y, j, z, rfl, rfl, hS, fy, fs, hz, hy, hn, q⟩
theorem truL {p : Addr} {xs : List V} {q : Bool → Prop} (h : H p = some (.lst xs)) (hq : q (!xs.isEmpty)) : ∃ k, TruV K (.ref p) H k ∧ q k := ⟨_, .inl ⟨xs, lstL h, rfl⟩, hq⟩
end
end Z


namespace K02
open PySem L2 Z
def topS (i : Nat) : Stmt := PySem.Challenge.pw_samphire_k02_conditions_hold.main.body.getD i (.Pass ⟨0, 0, 0, 0⟩)
abbrev s_parts_first : Stmt := topS 1
abbrev N_parts_first : List Str := ["condition", "found", "waiting", "part"]
theorem sc_parts_first : FnScope N_parts_first ["condition"] (defScope s_parts_first) := ⟨rfl, rfl, rfl, by decide +kernel, rfl, by decide +kernel, by decide +kernel⟩
abbrev s_compares : Stmt := topS 2
abbrev N_compares : List Str := ["number", "sign", "other"]
theorem sc_compares : FnScope N_compares ["number", "sign", "other"] (defScope s_compares) := ⟨rfl, rfl, rfl, by decide +kernel, rfl, by decide +kernel, by decide +kernel⟩
abbrev s_atom_holds : Stmt := topS 3
abbrev N_atom_holds : List Str := ["atom", "item", "key", "group", "weight", "amount", "word"]
theorem sc_atom_holds : FnScope N_atom_holds ["atom", "item"] (defScope s_atom_holds) := ⟨rfl, rfl, rfl, by decide +kernel, rfl, by decide +kernel, by decide +kernel⟩
abbrev s_last_holds : Stmt := topS 4
abbrev N_last_holds : List Str := ["conditions", "item", "results", "condition", "word", "second", "first"]
theorem sc_last_holds : FnScope N_last_holds ["conditions", "item"] (defScope s_last_holds) := ⟨rfl, rfl, rfl, by decide +kernel, rfl, by decide +kernel, by decide +kernel⟩
abbrev s_held : Stmt := topS 5
abbrev N_held : List Str := ["condition", "item"]
theorem sc_held : FnScope N_held ["condition", "item"] (defScope s_held) := ⟨rfl, rfl, rfl, by decide +kernel, rfl, by decide +kernel, by decide +kernel⟩
abbrev s_held_items : Stmt := topS 6
abbrev N_held_items : List Str := ["condition", "rows", "conditions", "item"]
theorem sc_held_items : FnScope N_held_items ["condition", "rows"] (defScope s_held_items) := ⟨rfl, rfl, rfl, by decide +kernel, rfl, by decide +kernel, by decide +kernel⟩
abbrev s__law_draws : Stmt := topS 8
abbrev N__law_draws : List Str := ["script", "draws", "cell", "number", "first", "k", "seed"]
theorem sc__law_draws : FnScope N__law_draws ["script"] (defScope s__law_draws) := ⟨rfl, rfl, rfl, by decide +kernel, rfl, by decide +kernel, by decide +kernel⟩
abbrev s__law_take : Stmt := topS 9
abbrev N__law_take : List Str := ["draws", "bound"]
theorem sc__law_take : FnScope N__law_take ["draws", "bound"] (defScope s__law_take) := ⟨rfl, rfl, rfl, by decide +kernel, rfl, by decide +kernel, by decide +kernel⟩
abbrev s__law_same : Stmt := topS 10
abbrev N__law_same : List Str := ["actual", "due", "k"]
theorem sc__law_same : FnScope N__law_same ["actual", "due"] (defScope s__law_same) := ⟨rfl, rfl, rfl, by decide +kernel, rfl, by decide +kernel, by decide +kernel⟩
abbrev s__law_name : Stmt := topS 11
abbrev N__law_name : List Str := ["draws"]
theorem sc__law_name : FnScope N__law_name ["draws"] (defScope s__law_name) := ⟨rfl, rfl, rfl, by decide +kernel, rfl, by decide +kernel, by decide +kernel⟩
abbrev s__law_items : Stmt := topS 12
abbrev N__law_items : List Str := ["draws", "most", "found", "keys", "k", "key", "weight", "amount"]
theorem sc__law_items : FnScope N__law_items ["draws", "most"] (defScope s__law_items) := ⟨rfl, rfl, rfl, by decide +kernel, rfl, by decide +kernel, by decide +kernel⟩
abbrev s__law_number : Stmt := topS 13
abbrev N__law_number : List Str := ["draws"]
theorem sc__law_number : FnScope N__law_number ["draws"] (defScope s__law_number) := ⟨rfl, rfl, rfl, by decide +kernel, rfl, by decide +kernel, by decide +kernel⟩
abbrev s__law_condition : Stmt := topS 14
abbrev N__law_condition : List Str := ["draws", "depth", "kind", "first"]
theorem sc__law_condition : FnScope N__law_condition ["draws", "depth"] (defScope s__law_condition) := ⟨rfl, rfl, rfl, by decide +kernel, rfl, by decide +kernel, by decide +kernel⟩
abbrev s__law_held : Stmt := topS 15
abbrev N__law_held : List Str := ["condition", "item", "word", "number", "sign", "first", "second"]
theorem sc__law_held : FnScope N__law_held ["condition", "item"] (defScope s__law_held) := ⟨rfl, rfl, rfl, by decide +kernel, rfl, by decide +kernel, by decide +kernel⟩
abbrev s__law_near : Stmt := topS 16
abbrev N__law_near : List Str := ["draws", "condition", "items", "item"]
theorem sc__law_near : FnScope N__law_near ["draws", "condition", "items"] (defScope s__law_near) := ⟨rfl, rfl, rfl, by decide +kernel, rfl, by decide +kernel, by decide +kernel⟩
abbrev s_law : Stmt := topS 17
abbrev N_law : List Str := ["script", "draws", "items", "turn", "condition", "kept", "due", "item", "k"]
theorem sc_law : FnScope N_law ["script"] (defScope s_law) := ⟨rfl, rfl, rfl, by decide +kernel, rfl, by decide +kernel, by decide +kernel⟩
structure T (P : Program) (K : PySem.W.Frag) (mg : Str → Option Value) where
  a_parts_first : Addr
  fd_parts_first : FuncData
  F_parts_first : Fun K "parts_first" "parts_first" s_parts_first a_parts_first fd_parts_first
  b_parts_first : Binds K fd_parts_first ["condition"] []
  g_parts_first : mg "parts_first" = some (.ref a_parts_first)
  a_compares : Addr
  fd_compares : FuncData
  F_compares : Fun K "compares" "compares" s_compares a_compares fd_compares
  b_compares : Binds K fd_compares ["number", "sign", "other"] []
  g_compares : mg "compares" = some (.ref a_compares)
  a_atom_holds : Addr
  fd_atom_holds : FuncData
  F_atom_holds : Fun K "atom_holds" "atom_holds" s_atom_holds a_atom_holds fd_atom_holds
  b_atom_holds : Binds K fd_atom_holds ["atom", "item"] []
  g_atom_holds : mg "atom_holds" = some (.ref a_atom_holds)
  a_last_holds : Addr
  fd_last_holds : FuncData
  F_last_holds : Fun K "last_holds" "last_holds" s_last_holds a_last_holds fd_last_holds
  b_last_holds : Binds K fd_last_holds ["conditions", "item"] []
  g_last_holds : mg "last_holds" = some (.ref a_last_holds)
  a_held : Addr
  fd_held : FuncData
  F_held : Fun K "held" "held" s_held a_held fd_held
  b_held : Binds K fd_held ["condition", "item"] []
  g_held : mg "held" = some (.ref a_held)
  a_held_items : Addr
  fd_held_items : FuncData
  F_held_items : Fun K "held_items" "held_items" s_held_items a_held_items fd_held_items
  b_held_items : Binds K fd_held_items ["condition", "rows"] []
  g_held_items : mg "held_items" = some (.ref a_held_items)
  a__law_draws : Addr
  fd__law_draws : FuncData
  F__law_draws : Fun K "_law_draws" "_law_draws" s__law_draws a__law_draws fd__law_draws
  b__law_draws : Binds K fd__law_draws ["script"] []
  g__law_draws : mg "_law_draws" = some (.ref a__law_draws)
  a__law_take : Addr
  fd__law_take : FuncData
  F__law_take : Fun K "_law_take" "_law_take" s__law_take a__law_take fd__law_take
  b__law_take : Binds K fd__law_take ["draws", "bound"] []
  g__law_take : mg "_law_take" = some (.ref a__law_take)
  a__law_same : Addr
  fd__law_same : FuncData
  F__law_same : Fun K "_law_same" "_law_same" s__law_same a__law_same fd__law_same
  b__law_same : Binds K fd__law_same ["actual", "due"] []
  g__law_same : mg "_law_same" = some (.ref a__law_same)
  a__law_name : Addr
  fd__law_name : FuncData
  F__law_name : Fun K "_law_name" "_law_name" s__law_name a__law_name fd__law_name
  b__law_name : Binds K fd__law_name ["draws"] []
  g__law_name : mg "_law_name" = some (.ref a__law_name)
  a__law_items : Addr
  fd__law_items : FuncData
  F__law_items : Fun K "_law_items" "_law_items" s__law_items a__law_items fd__law_items
  b__law_items : Binds K fd__law_items ["draws", "most"] []
  g__law_items : mg "_law_items" = some (.ref a__law_items)
  a__law_number : Addr
  fd__law_number : FuncData
  F__law_number : Fun K "_law_number" "_law_number" s__law_number a__law_number fd__law_number
  b__law_number : Binds K fd__law_number ["draws"] []
  g__law_number : mg "_law_number" = some (.ref a__law_number)
  a__law_condition : Addr
  fd__law_condition : FuncData
  F__law_condition : Fun K "_law_condition" "_law_condition" s__law_condition a__law_condition fd__law_condition
  b__law_condition : Binds K fd__law_condition ["draws", "depth"] []
  g__law_condition : mg "_law_condition" = some (.ref a__law_condition)
  a__law_held : Addr
  fd__law_held : FuncData
  F__law_held : Fun K "_law_held" "_law_held" s__law_held a__law_held fd__law_held
  b__law_held : Binds K fd__law_held ["condition", "item"] []
  g__law_held : mg "_law_held" = some (.ref a__law_held)
  a__law_near : Addr
  fd__law_near : FuncData
  F__law_near : Fun K "_law_near" "_law_near" s__law_near a__law_near fd__law_near
  b__law_near : Binds K fd__law_near ["draws", "condition", "items"] []
  g__law_near : mg "_law_near" = some (.ref a__law_near)
  a_law : Addr
  fd_law : FuncData
  F_law : Fun K "law" "law" s_law a_law fd_law
  b_law : Binds K fd_law ["script"] []
  g_law : mg "law" = some (.ref a_law)
  z_abs : mg "abs" = none
  z_bool : mg "bool" = none
  z_int : mg "int" = none
  z_isinstance : mg "isinstance" = none
  z_len : mg "len" = none
  z_list : mg "list" = none
  z_range : mg "range" = none
  z_reversed : mg "reversed" = none
  z_str : mg "str" = none
  z_tuple : mg "tuple" = none
/-! ### the walk by single steps -/
local macro_rules | `(tactic| walk_at "z1") => `(tactic| first
  | with_reducible refine Z.seq ?_
  | with_reducible refine Z.asg ?_
  | ((with_reducible refine' Z.gname ?zv ?_); (case zv => first | (dsimp only [List.set]; done) | (dsimp only [List.set]; exact rfl)))
  | ((with_reducible refine' Z.var ?zv ?_); (case zv => exact rfl))
  | with_reducible refine Z.cst ?_
  | with_reducible refine Z.op ?_
  | with_reducible refine Z.un ?_
  | with_reducible refine Z.i0 ?_
  | with_reducible refine Z.iU ?_
  | with_reducible refine Z.eqII ?_
  | with_reducible refine Z.neII ?_
  | with_reducible refine Z.eqSS ?_
  | with_reducible refine Z.neSS ?_
  | with_reducible refine Z.eqBB ?_
  | with_reducible refine Z.neBB ?_
  | with_reducible refine Z.bl' ?_
  | with_reducible refine Z.test ?_
  | with_reducible refine Z.tbb ?_
  | with_reducible refine Z.tand ?_
  | with_reducible refine Z.tor ?_
  | with_reducible refine Z.tnot ?_
  | with_reducible refine Z.tyes ?_
  | with_reducible refine Z.andV ?_
  | with_reducible refine Z.orV ?_
  | with_reducible refine Z.notV ?_
  | with_reducible refine Z.ifE ?_
  | with_reducible refine Z.chain ?_
  | with_reducible refine Z.yesB ?_
  | with_reducible refine Z.noB ?_
  | with_reducible refine Z.noNB ?_
  | with_reducible refine Z.yesNB ?_
  | with_reducible refine Z.nil ?_
  | with_reducible refine Z.cons ?_
  | with_reducible refine Z.cb ?_
  | with_reducible refine Z.call ?_
  | with_reducible refine Z.meth ?_
  | with_reducible refine Z.fld ?_
  | with_reducible refine Z.int1 ?_
  | with_reducible refine Z.intb ?_
  | with_reducible refine Z.abs1 ?_
  | with_reducible refine Z.gcons ?_
  | with_reducible refine Z.gnil ?_
  | with_reducible refine Z.gcd ?_
  | ((with_reducible refine' Z.par2 ?zv ?_); (case zv => first | (dsimp only [List.set]; done) | (dsimp only [List.set]; exact rfl)))
  | with_reducible refine Z.isN ?_
  | with_reducible refine Z.notN ?_
  | with_reducible refine Z.inSg ?_
  | with_reducible refine Z.ninSg ?_
  | with_reducible refine Z.tup ?_
  | with_reducible refine Z.lst ?_
  | with_reducible refine Z.gsub ?_
  | with_reducible refine Z.par ?_
  | ((with_reducible refine' Z.aug ?zv ?_); (case zv => exact rfl))
  | with_reducible refine Z.ipI' ?_
  | with_reducible refine Z.ifs ?_
  | with_reducible refine Z.ret ?_
  | with_reducible refine Z.retN ?_
  | with_reducible refine Z.next ?_
  | with_reducible refine Z.brk ?_
  | with_reducible refine Z.drop ?_
  | with_reducible refine Z.bm ?_
  | with_reducible refine Z.bm0 ?_
  | with_reducible refine Z.sfld ?_
  | with_reducible refine Z.sfldaug ?_
  | with_reducible refine Z.radd ?_
  | with_reducible refine Z.make ?_
  | with_reducible refine Z.lc ?_
  | with_reducible refine Z.rng1 ?_
  | with_reducible refine Z.ilist ?_
  | with_reducible refine Z.itup ?_
  | with_reducible refine Z.for_ ?_
  | with_reducible refine Z.istr ?_
  | with_reducible refine Z.ienum ?_
  | with_reducible refine Z.din ?_
  | with_reducible refine Z.dput ?_
  | with_reducible refine Z.dget ?_
  | with_reducible refine Z.sl ?_
  | with_reducible refine Z.slno ?_
  | with_reducible refine Z.slpart ?_
  | with_reducible refine Z.bint ?_
  | with_reducible refine Z.listrev ?_
  | with_reducible refine Z.revl ?_
  | dsimp only)
local macro_rules | `(tactic| walk_at "z0") => `(tactic| ((try simp only [Z.cxK]); (try dsimp only [L2.start, List.map, List.length, Nat.reduceAdd, Nat.reduceSub, List.replicate, List.cons_append, List.nil_append])))
local macro_rules | `(tactic| walk_at "z") => `(tactic| (repeat (walk_at "z1")))


/-! ### the draws of a law: _law_draws, _law_take -/
/-- draws stand at a -/
def DrawsAt (H : Hp) (a : Addr) : Prop := ∃ ns : List Int, H a = some (.lst (ns.map V.int))
theorem DrawsAt.ne {H : Hp} {a l : Addr} (d : DrawsAt H a) (h : H l = none) : a ≠ l := ne_of_none d.choose_spec h
theorem DrawsAt.kp {M : List Addr} {H H' : Hp} {a : Addr} (d : DrawsAt H a) (k : Kp M H H') (n : a ∉ M) : DrawsAt H' a := let ⟨ns, h⟩ := d; ⟨ns, k _ _ n h⟩
theorem DrawsAt.kp0 {H H' : Hp} {a : Addr} (d : DrawsAt H a) (k : Kp [] H H') : DrawsAt H' a := d.kp k nin0
theorem DrawsAt.put {H : Hp} {a b : Addr} {o : HO} (d : DrawsAt H a) (n : a ≠ b) : DrawsAt (upd H b o) a := let ⟨ns, h⟩ := d; ⟨ns, (upd_ne n).trans h⟩
def spTake (K : PySem.W.Frag) : Sp := fun vs H Q _ => ∃ (a : Addr) (m : Int), vs = [.ref a, .int m] ∧ DrawsAt H a ∧ 1 ≤ m ∧ m < 18446744073709551616 ∧ ∀ H' v, 0 ≤ v → v < m → Kp [a] H H' → DrawsAt H' a → Q (.int v) H'
theorem ok__law_take {P : Program} {w : World} {K : PySem.W.Frag} {mg : Str → Option Value} {base : Heap} (T : T P K mg) : FnOk P w K mg base CX0 1 T.a__law_take T.fd__law_take ["draws", "bound"] (spTake K) := by
  refine T.F__law_take.ok sc__law_take (fun vs H Q E h => ?_) (fun cdv A outer s H vs Q E hr h => ?_)
  · obtain ⟨a, m, rfl, _⟩ := h
    rfl
  · obtain ⟨a, m, rfl, ⟨ns, ha⟩, h0, h1, q⟩ := h
    refine ⟨_, (pss_cons (ps_if (pt_cmpR op_eq (pe_callB c_len (by rfl) T.z_len (by decide +kernel) (pa_cons (pv 0) pa_nil)) pe_int (nomark _)) (pss_one (ps_ret pe_int)) pss_nil)
      (pss_one (ps_ret (pe_op op_mod (pe_callTy c_int (by rfl) T.z_int (by decide +kernel) (pa_cons (pe_bm0 PySem.F.plainAttrs_list PySem.F.slot_list_pop PySem.F.type_list_pop mt_pop (pv 0)) pa_nil)) (pv 1))))), ?_⟩
    walk_at "z0"
    walk_at "z"
    refine Z.lenL (lstL ha) ?_
    walk_at "z"
    refine Z.ite (fun h2 => ?_) (fun h2 => ?_)
    · walk_at "z"
      exact q _ _ (by omega) (by omega) (Kp.refl _) ⟨ns, ha⟩
    · walk_at "z"
      refine ⟨Z.tyL ha, ?_⟩
      have hl : 0 < ns.length := by
        rw [List.length_map] at h2
        omega
      have hi : ns.length - 1 < ns.length := by omega
      refine Z.pop ha (y := .int ns[ns.length - 1]) (by rw [List.length_map, List.getElem?_map, List.getElem?_eq_getElem hi]; rfl) ?_
      walk_at "z"
      refine Z.iC (by omega) ?_
      exact q _ _ (Int.emod_nonneg _ (by omega)) (Int.emod_lt_of_pos _ (by omega)) (Kp.put (by simp)) ⟨ns.dropLast, by rw [upd_same, List.map_dropLast]⟩
def spDraws (K : PySem.W.Frag) : Sp := fun vs H Q _ => ∃ (c : Addr) (ns : List Int), vs = [.ref c] ∧ SqL K H c (ns.map V.int) ∧ ns.length ≤ 63 ∧ (∀ z ∈ ns, Builtin.Int.intBits z ≤ 1048576) ∧ ∀ a H', H a = none → Kp [] H H' → DrawsAt H' a → Q (.ref a) H'
theorem ok__law_draws {P : Program} {w : World} {K : PySem.W.Frag} {mg : Str → Option Value} {base : Heap} (T : T P K mg) : FnOk P w K mg base CX0 1 T.a__law_draws T.fd__law_draws ["script"] (spDraws K) := by
  refine T.F__law_draws.ok sc__law_draws (fun vs H Q E h => ?_) (fun cdv A outer s H vs Q E hr h => ?_)
  · obtain ⟨c, ns, rfl, _⟩ := h
    rfl
  · obtain ⟨c, ns, rfl, hS, hlen, hb, q⟩ := h
    refine ⟨_, (pss_cons (ps_set (i := 1) sc__law_draws.nd rfl (by first | exact Or.inl rfl | exact Or.inr rfl) (pe_lst pa_nil))
      (pss_cons (ps_for PassesOwn.never rfl (pi_list (pv 0)) (pg_name (i := 2) sc__law_draws.nd rfl (by first | exact Or.inl rfl | exact Or.inr rfl)) (pss_cons (ps_set (i := 3) sc__law_draws.nd rfl (by first | exact Or.inl rfl | exact Or.inr rfl) (pe_callB c_abs (by rfl) T.z_abs (by decide +kernel) (pa_cons (pv 2) pa_nil)))
      (Z.pss_consJ (ps_if (pt_cmpR op_lt (pv 3) (pe_op op_pow pe_int pe_int) (nomark _)) (pss_cons (ps_set (i := 4) sc__law_draws.nd rfl (by first | exact Or.inl rfl | exact Or.inr rfl) (pe_op op_mod (pe_callTy c_int (by rfl) T.z_int (by decide +kernel) (pa_cons (pe_op op_add (pe_op op_mul (pv 3) pe_int) pe_int) pa_nil)) pe_int))
      (pss_cons (ps_expr (pe_bm PySem.F.plainAttrs_list PySem.F.slot_list_append PySem.F.type_list_append mt_append (pv 1) (pa_cons (pe_op op_mod (pe_callTy c_int (by rfl) T.z_int (by decide +kernel) (pa_cons (pe_op op_add (pe_op op_mul (pv 4) pe_int) (pv 3)) pa_nil)) pe_int) pa_nil)))
      (pss_cons (ps_expr (pe_bm PySem.F.plainAttrs_list PySem.F.slot_list_append PySem.F.type_list_append mt_append (pv 1) (pa_cons (pe_op op_mod (pe_callTy c_int (by rfl) T.z_int (by decide +kernel) (pa_cons (pe_op op_add (pv 4) (pe_op op_fdivW (pv 3) pe_int)) pa_nil)) pe_int) pa_nil)))
      (pss_one (ps_set (i := 3) sc__law_draws.nd rfl (by first | exact Or.inl rfl | exact Or.inr rfl) pe_int))))) pss_nil)
      (pss_one (ps_for PassesOwn.never rfl (pi_range1 (by rfl) T.z_range (pa_cons pe_int pa_nil)) (pg_name (i := 5) sc__law_draws.nd rfl (by first | exact Or.inl rfl | exact Or.inr rfl)) (pss_one (ps_if (pt_cmpR op_gt (pv 3) pe_int (nomark _)) (pss_cons (ps_expr (pe_bm PySem.F.plainAttrs_list PySem.F.slot_list_append PySem.F.type_list_append mt_append (pv 1) (pa_cons (pe_op op_mod (pe_callTy c_int (by rfl) T.z_int (by decide +kernel) (pa_cons (pv 3) pa_nil)) pe_int) pa_nil)))
      (pss_one (ps_set (i := 3) sc__law_draws.nd rfl (by first | exact Or.inl rfl | exact Or.inr rfl) (pe_op op_fdivW (pv 3) pe_int)))) pss_nil)))))))
      (pss_cons (ps_set (i := 6) sc__law_draws.nd rfl (by first | exact Or.inl rfl | exact Or.inr rfl) pe_int)
      (Z.pss_consJ (ps_if (pt_cmpR op_gt (pe_callB c_len (by rfl) T.z_len (by decide +kernel) (pa_cons (pv 0) pa_nil)) pe_int (nomark _)) (pss_one (ps_set (i := 6) sc__law_draws.nd rfl (by first | exact Or.inl rfl | exact Or.inr rfl) (pe_op op_add pe_int (pe_callB c_abs (by rfl) T.z_abs (by decide +kernel) (pa_cons (pe_ix ix_list (pv 0) pe_int (fun _ _ => rfl)) pa_nil))))) pss_nil)
      (pss_cons (ps_for PassesOwn.never rfl (pi_range1 (by rfl) T.z_range (pa_cons pe_int pa_nil)) (pg_name (i := 5) sc__law_draws.nd rfl (by first | exact Or.inl rfl | exact Or.inr rfl)) (pss_cons (ps_set (i := 6) sc__law_draws.nd rfl (by first | exact Or.inl rfl | exact Or.inr rfl) (pe_op op_mod (pe_callTy c_int (by rfl) T.z_int (by decide +kernel) (pa_cons (pe_op op_add (pe_op op_mul (pv 6) pe_int) pe_int) pa_nil)) pe_int))
      (pss_one (ps_expr (pe_bm PySem.F.plainAttrs_list PySem.F.slot_list_append PySem.F.type_list_append mt_append (pv 1) (pa_cons (pe_op op_fdivW (pv 6) pe_int) pa_nil))))))
      (pss_one (ps_ret (RL.pe_listRev rfl (by rfl) T.z_list (by rfl) T.z_reversed (pv 1))))))))), ?_⟩
    walk_at "z0"
    walk_at "z"
    refine Z.lstK (fun D H1 nD k1 e1 => ?_)
    walk_at "z"
    refine Z.forl (ns.map V.int) (k1.seq nin0 hS) (fun i σ' H' => ∃ y2 y3 y4 y5, ∃ ds : List Int, σ' = [some (.ref c), some (.ref D), y2, y3, y4, y5, none] ∧ Kp [] H H' ∧ H' D = some (.lst (ds.map V.int)) ∧ ds.length ≤ i * 62) ⟨_, _, _, _, [], rfl, k1, e1, by simp⟩ ?_ ?_ ?_
    · rintro i σ' H' hi ⟨y2, y3, y4, y5, ds, rfl, k2, e2, hl⟩
      exact k2.seq nin0 hS
    · rintro i x σ' H' hx ⟨y2, y3, y4, y5, ds, rfl, k2, e2, hl⟩
      obtain ⟨z, hz, rfl⟩ : ∃ z, ns[i]? = some z ∧ x = .int z := by
        rw [List.getElem?_map] at hx
        cases hw : ns[i]? with
        | none => rw [hw] at hx; cases hx
        | some r => rw [hw] at hx; exact ⟨r, rfl, (Option.some.inj hx).symm⟩
      have hi : i < ns.length := (List.getElem?_eq_some_iff.mp hz).1
      walk_at "z"
      refine Z.seqJ (fun σ' H' => ∃ y4, ∃ (n : Int) (ds : List Int), σ' = [some (.ref c), some (.ref D), some (.int z), some (.int n), y4, y5, none] ∧ Kp [] H H' ∧ H' D = some (.lst (ds.map V.int)) ∧ ds.length ≤ i * 62 + 2) ?_ ?_
      · rintro σ' H' ⟨y4, n, ds, rfl, k3, e3, hl3⟩
        walk_at "z"
        refine Z.forr 60 (by rfl) (by decide) (fun j σ' H' => ∃ y5, ∃ (n : Int) (ds : List Int), σ' = [some (.ref c), some (.ref D), some (.int z), some (.int n), y4, y5, none] ∧ Kp [] H H' ∧ H' D = some (.lst (ds.map V.int)) ∧ ds.length ≤ i * 62 + 2 + j) ⟨_, _, ds, rfl, k3, e3, by omega⟩ ?_ ?_
        · rintro j σ' H' hj ⟨y5, n, ds, rfl, k4, e4, hl4⟩
          walk_at "z"
          refine Z.ite (fun h2 => ?_) (fun h2 => ?_)
          · walk_at "z"
            refine ⟨Z.tyL e4, ?_⟩
            walk_at "z"
            refine Z.iC (by decide) ?_
            walk_at "z"
            refine Z.app e4 (Z.szl (m := 100000) (by rw [List.length_map]; omega)) ?_
            walk_at "z"
            refine Z.iC ⟨by decide, by decide⟩ ?_
            walk_at "z"
            exact ⟨_, _, ds ++ [n % 997], rfl, k4.mut nD rfl, by rw [upd_same, List.map_append]; rfl, by simp; omega⟩
          · walk_at "z"
            exact ⟨_, _, ds, rfl, k4, e4, by omega⟩
        · rintro σ' H' ⟨y5, n, ds, rfl, k4, e4, hl4⟩
          exact ⟨_, _, _, _, ds, rfl, k4, e4, by omega⟩
      · intro N jn
        walk_at "z"
        refine Z.iC ⟨by decide, by decide, by decide⟩ ?_
        walk_at "z"
        refine Z.ite (fun h2 => ?_) (fun h2 => ?_)
        · walk_at "z"
          refine Z.iC (.inr (by decide)) ?_
          walk_at "z"
          refine Z.iC (by decide) ?_
          walk_at "z"
          refine ⟨Z.tyL e2, ?_⟩
          walk_at "z"
          refine Z.iC (.inr (by decide)) ?_
          walk_at "z"
          refine Z.iC (by decide) ?_
          walk_at "z"
          refine Z.app e2 (Z.szl (m := 100000) (by rw [List.length_map]; omega)) ?_
          walk_at "z"
          refine ⟨Z.tyL upd_same, ?_⟩
          walk_at "z"
          refine Z.iC ⟨by decide, by decide⟩ ?_
          walk_at "z"
          refine Z.iC (by decide) ?_
          walk_at "z"
          refine Z.app upd_same (Z.szl (m := 100000) (by rw [List.length_append, List.length_map]; simp; omega)) ?_
          walk_at "z"
          rw [upd_upd]
          exact jn _ _ ⟨_, _, ds ++ [_, _], rfl, k2.mut nD rfl, by rw [upd_same, List.map_append, List.append_assoc]; rfl, by simp; omega⟩
        · walk_at "z"
          exact jn _ _ ⟨_, _, ds, rfl, k2, e2, by omega⟩
    · rintro σ' H' ⟨y2, y3, y4, y5, ds, rfl, k2, e2, hl⟩
      rw [List.length_map] at hl
      walk_at "z"
      refine Z.seqJ (fun σ' H' => ∃ z : Int, σ' = [some (.ref c), some (.ref D), y2, y3, y4, y5, some (.int z)] ∧ Kp [] H H' ∧ H' D = some (.lst (ds.map V.int))) ?_ ?_
      · rintro σ' H' ⟨z, rfl, k3, e3⟩
        walk_at "z"
        refine Z.forr 240 (by rfl) (by decide) (fun j σ' H' => ∃ y5, ∃ (z : Int) (es : List Int), σ' = [some (.ref c), some (.ref D), y2, y3, y4, y5, some (.int z)] ∧ Kp [] H H' ∧ H' D = some (.lst (es.map V.int)) ∧ es.length ≤ ds.length + j) ⟨_, _, ds, rfl, k3, e3, by omega⟩ ?_ ?_
        · rintro j σ' H' hj ⟨y5, z, es, rfl, k4, e4, hl4⟩
          walk_at "z"
          refine Z.iC (.inr (by decide)) ?_
          walk_at "z"
          refine Z.iC (by decide) ?_
          walk_at "z"
          refine ⟨Z.tyL e4, ?_⟩
          walk_at "z"
          refine Z.iC ⟨by decide, by decide⟩ ?_
          walk_at "z"
          refine Z.app e4 (Z.szl (m := 100000) (by rw [List.length_map]; omega)) ?_
          exact ⟨_, _, es ++ [_], rfl, k4.mut nD rfl, by rw [upd_same, List.map_append]; rfl, by simp; omega⟩
        · rintro σ' H' ⟨y5, z, es, rfl, k4, e4, hl4⟩
          walk_at "z"
          refine Z.lrk (lstL e4) (fun p H5 np k5 e5 => ?_)
          exact q p H5 (k4.none nin0 np) (k4.trans k5) ⟨es.reverse, by rw [e5, List.map_reverse]⟩
      · intro N jn
        walk_at "z"
        refine Z.lenL (k2.seq nin0 hS) ?_
        walk_at "z"
        rw [List.length_map]
        refine Z.ite (fun h2 => ?_) (fun h2 => ?_)
        · walk_at "z"
          have h0 : 0 < ns.length := by omega
          refine Z.ixL (k2.seq nin0 hS) (atM (j := 0) (List.getElem?_eq_getElem h0)) ?_
          walk_at "z"
          exact jn _ _ ⟨_, rfl, k2, e2⟩
        · walk_at "z"
          exact jn _ _ ⟨_, rfl, k2, e2⟩

/-! ### _law_same: equal data, the same kinds -/
def scl : V → Bool
  | .non => true
  | .bl _ => true
  | .int _ => true
  | .str _ => true
  | _ => false
def Sm : Nat → Hp → V → V → Prop
  | 0, _, _, _ => False
  | n + 1, H, x, y => (x = y ∧ scl x = true) ∨ ∃ (a b : Addr) (xs ys : List V), x = .ref a ∧ y = .ref b ∧ ((H a = some (.lst xs) ∧ H b = some (.lst ys)) ∨ (H a = some (.tup xs) ∧ H b = some (.tup ys))) ∧ xs.length = ys.length ∧ xs.length ≤ 100000 ∧
    ∀ (i : Nat) (u v : V), xs[i]? = some u → ys[i]? = some v → Sm n H u v
theorem Sm.sc {n : Nat} {H : Hp} {x : V} (h : scl x = true) : Sm (n + 1) H x x := .inl ⟨rfl, h⟩
theorem Sm.int {n : Nat} {H : Hp} (i : Int) : Sm (n + 1) H (.int i) (.int i) := .inl ⟨rfl, rfl⟩
theorem Sm.lst {n : Nat} {H : Hp} {a b : Addr} {xs ys : List V} (h1 : H a = some (.lst xs)) (h2 : H b = some (.lst ys)) (hl : xs.length = ys.length) (hm : xs.length ≤ 100000) (h : ∀ (i : Nat) (u v : V), xs[i]? = some u → ys[i]? = some v → Sm n H u v) : Sm (n + 1) H (.ref a) (.ref b) := .inr ⟨a, b, xs, ys, rfl, rfl, .inl ⟨h1, h2⟩, hl, hm, h⟩
theorem Sm.tup {n : Nat} {H : Hp} {a b : Addr} {xs ys : List V} (h1 : H a = some (.tup xs)) (h2 : H b = some (.tup ys)) (hl : xs.length = ys.length) (hm : xs.length ≤ 100000) (h : ∀ (i : Nat) (u v : V), xs[i]? = some u → ys[i]? = some v → Sm n H u v) : Sm (n + 1) H (.ref a) (.ref b) := .inr ⟨a, b, xs, ys, rfl, rfl, .inr ⟨h1, h2⟩, hl, hm, h⟩
/-- lists of the same plain values -/
theorem Sm.plain {n : Nat} {H : Hp} {a b : Addr} {xs : List V} (h1 : H a = some (.lst xs)) (h2 : H b = some (.lst xs)) (hm : xs.length ≤ 100000) (h : ∀ x ∈ xs, scl x = true) : Sm (n + 2) H (.ref a) (.ref b) := .lst h1 h2 rfl hm fun i u v hu hv => by
  rw [hu] at hv
  cases hv
  exact .sc (h u (List.mem_of_getElem? hu))
theorem Sm.plainT {n : Nat} {H : Hp} {a b : Addr} {xs : List V} (h1 : H a = some (.tup xs)) (h2 : H b = some (.tup xs)) (hm : xs.length ≤ 100000) (h : ∀ x ∈ xs, scl x = true) : Sm (n + 2) H (.ref a) (.ref b) := .tup h1 h2 rfl hm fun i u v hu hv => by
  rw [hu] at hv
  cases hv
  exact .sc (h u (List.mem_of_getElem? hu))
def spSm (n : Nat) : Sp := fun vs H Q _ => ∃ x y, vs = [x, y] ∧ Sm n H x y ∧ Q (.bl true) H
theorem scl_ty {K : PySem.W.Frag} {H : Hp} {x : V} (h : scl x = true) : ∃ A b1 b2 b3, TyX K H x (.type A) ∧ kitB A "tuple" = some false ∧ kitB A "list" = some false ∧ kitB A "bool" = some b1 ∧ kitB A "int" = some b2 ∧ kitB A "str" = some b3 := by
  cases x with
  | non => exact ⟨"NoneType", false, false, false, .base .non, by decide +kernel, by decide +kernel, by decide +kernel, by decide +kernel, by decide +kernel⟩
  | bl b => exact ⟨"bool", true, true, false, .base (.bl b), by decide +kernel, by decide +kernel, by decide +kernel, by decide +kernel, by decide +kernel⟩
  | int i => exact ⟨"int", false, true, false, .base (.int i), by decide +kernel, by decide +kernel, by decide +kernel, by decide +kernel, by decide +kernel⟩
  | str z => exact ⟨"str", false, false, true, .base (.str z), by decide +kernel, by decide +kernel, by decide +kernel, by decide +kernel, by decide +kernel⟩
  | _ => cases h
theorem scl_scal {x : V} (h : scl x = true) : scal x x = true := by
  cases x with
  | non => rfl
  | bl b => rfl
  | int i => rfl
  | str z => rfl
  | _ => cases h
theorem same_rec {P : Program} {w : World} {K : PySem.W.Frag} {mg : Str → Option Value} {base : Heap} (T : T P K mg) : ∀ n, FnOk P w K mg base CX0 (n + 1) T.a__law_same T.fd__law_same ["actual", "due"] (spSm n)
  | 0 => ⟨fun _ _ _ _ h => by obtain ⟨_, _, _, h, _⟩ := h; exact h.elim, fun _ _ _ _ _ _ _ _ _ _ _ _ _ h => by obtain ⟨_, _, _, h, _⟩ := h; exact h.elim⟩
  | n + 1 => by
    have ih := same_rec (w := w) (base := base) T n
    refine T.F__law_same.ok sc__law_same (fun vs H Q E h => ?_) (fun cdv A outer s H vs Q E hr h => ?_)
    · obtain ⟨x, y, rfl, _⟩ := h
      rfl
    · obtain ⟨x, y, rfl, hs, q⟩ := h
      refine ⟨_, (pss_cons (ps_if (PW.pt (pw_or (pt_val (pe_callB call_isi (by rfl) T.z_isinstance (by decide +kernel) (pa_cons (pv 1) (pa_cons (pe_bltn (v := .ty "tuple") (by rfl) T.z_tuple (by decide +kernel) rfl) pa_nil)))) (pw_or1 (pt_val (pe_callB call_isi (by rfl) T.z_isinstance (by decide +kernel) (pa_cons (pv 1) (pa_cons (pe_bltn (v := .ty "list") (by rfl) T.z_list (by decide +kernel) rfl) pa_nil))))))) (pss_cons (ps_if (PW.pt (pw_or (pt_cmpR op_ne (pe_callB call_isi (by rfl) T.z_isinstance (by decide +kernel) (pa_cons (pv 1) (pa_cons (pe_bltn (v := .ty "tuple") (by rfl) T.z_tuple (by decide +kernel) rfl) pa_nil))) (pe_callB call_isi (by rfl) T.z_isinstance (by decide +kernel) (pa_cons (pv 0) (pa_cons (pe_bltn (v := .ty "tuple") (by rfl) T.z_tuple (by decide +kernel) rfl) pa_nil))) (nomark _)) (pw_or1 (pt_cmpR op_ne (pe_callB call_isi (by rfl) T.z_isinstance (by decide +kernel) (pa_cons (pv 1) (pa_cons (pe_bltn (v := .ty "list") (by rfl) T.z_list (by decide +kernel) rfl) pa_nil))) (pe_callB call_isi (by rfl) T.z_isinstance (by decide +kernel) (pa_cons (pv 0) (pa_cons (pe_bltn (v := .ty "list") (by rfl) T.z_list (by decide +kernel) rfl) pa_nil))) (nomark _))))) (pss_one (ps_ret pe_bl)) pss_nil)
      (pss_cons (ps_if (pt_cmpR op_ne (pe_callB c_len (by rfl) T.z_len (by decide +kernel) (pa_cons (pv 0) pa_nil)) (pe_callB c_len (by rfl) T.z_len (by decide +kernel) (pa_cons (pv 1) pa_nil)) (nomark _)) (pss_one (ps_ret pe_bl)) pss_nil)
      (pss_cons (ps_for PassesOwn.never rfl (pi_range1 (by rfl) T.z_range (pa_cons (pe_callB c_len (by rfl) T.z_len (by decide +kernel) (pa_cons (pv 1) pa_nil)) pa_nil)) (pg_name (i := 2) sc__law_same.nd rfl (by first | exact Or.inl rfl | exact Or.inr rfl)) (pss_one (ps_if (pt_not (pt_val (pe_call ih (hr.mono (by omega)) (by rfl) T.g__law_same T.F__law_same.kp T.b__law_same .nil pass0 (pa_cons (pe_ix ix_seq (pv 0) (pv 2) (fun _ _ => rfl)) (pa_cons (pe_ix ix_seq (pv 1) (pv 2) (fun _ _ => rfl)) pa_nil))))) (pss_one (ps_ret pe_bl)) pss_nil)))
      (pss_one (ps_ret pe_bl))))) pss_nil)
      (pss_cons (ps_if (pt_cmpR op_ne (pe_callB call_isi (by rfl) T.z_isinstance (by decide +kernel) (pa_cons (pv 1) (pa_cons (pe_bltn (v := .ty "bool") (by rfl) T.z_bool (by decide +kernel) rfl) pa_nil))) (pe_callB call_isi (by rfl) T.z_isinstance (by decide +kernel) (pa_cons (pv 0) (pa_cons (pe_bltn (v := .ty "bool") (by rfl) T.z_bool (by decide +kernel) rfl) pa_nil))) (nomark _)) (pss_one (ps_ret pe_bl)) pss_nil)
      (pss_cons (ps_if (PW.pt (pw_or (pt_cmpR op_ne (pe_callB call_isi (by rfl) T.z_isinstance (by decide +kernel) (pa_cons (pv 1) (pa_cons (pe_bltn (v := .ty "int") (by rfl) T.z_int (by decide +kernel) rfl) pa_nil))) (pe_callB call_isi (by rfl) T.z_isinstance (by decide +kernel) (pa_cons (pv 0) (pa_cons (pe_bltn (v := .ty "int") (by rfl) T.z_int (by decide +kernel) rfl) pa_nil))) (nomark _)) (pw_or1 (pt_cmpR op_ne (pe_callB call_isi (by rfl) T.z_isinstance (by decide +kernel) (pa_cons (pv 1) (pa_cons (pe_bltn (v := .ty "str") (by rfl) T.z_str (by decide +kernel) rfl) pa_nil))) (pe_callB call_isi (by rfl) T.z_isinstance (by decide +kernel) (pa_cons (pv 0) (pa_cons (pe_bltn (v := .ty "str") (by rfl) T.z_str (by decide +kernel) rfl) pa_nil))) (nomark _))))) (pss_one (ps_ret pe_bl)) pss_nil)
      (pss_one (ps_ret (pe_cmpR op_eq (pv 0) (pv 1) (nomark _))))))), ?_⟩
      walk_at "z0"
      walk_at "z"
      rcases hs with ⟨rfl, hx⟩ | ⟨a, b, xs, ys, rfl, rfl, hab, hl, hm, hi⟩
      · obtain ⟨A, b1, b2, b3, ht, k1, k2, k3, k4, k5⟩ := scl_ty (K := K) (H := H) hx
        refine Z.isi ht k1 ?_
        walk_at "z"
        refine Z.isi ht k2 ?_
        walk_at "z"
        refine Z.isi ht k3 ?_
        walk_at "z"
        refine Z.isi ht k3 ?_
        walk_at "z"
        refine Z.noN rfl ?_
        walk_at "z"
        refine Z.isi ht k4 ?_
        walk_at "z"
        refine Z.isi ht k4 ?_
        walk_at "z"
        refine Z.noN rfl ?_
        walk_at "z"
        refine Z.isi ht k5 ?_
        walk_at "z"
        refine Z.isi ht k5 ?_
        walk_at "z"
        refine Z.noN rfl ?_
        walk_at "z"
        refine ⟨scl_scal hx, ?_⟩
        rw [decide_eq_true rfl]
        exact q
      · rcases hab with ⟨ha, hb⟩ | ⟨ha, hb⟩
        · have ht : TyX K H (.ref b) (.type "list") := .base (.lst hb)
          have ha' : TyX K H (.ref a) (.type "list") := .base (.lst ha)
          refine Z.isi ht (b := false) (by decide +kernel) ?_
          walk_at "z"
          refine Z.isi ht (b := true) (by decide +kernel) ?_
          walk_at "z"
          refine Z.isi ht (b := false) (by decide +kernel) ?_
          walk_at "z"
          refine Z.isi ha' (b := false) (by decide +kernel) ?_
          walk_at "z"
          refine Z.noN rfl ?_
          walk_at "z"
          refine Z.isi ht (b := true) (by decide +kernel) ?_
          walk_at "z"
          refine Z.isi ha' (b := true) (by decide +kernel) ?_
          walk_at "z"
          refine Z.noN rfl ?_
          walk_at "z"
          refine Z.lenL (lstL ha) ?_
          walk_at "z"
          refine Z.lenL (lstL hb) ?_
          walk_at "z"
          refine Z.noN (by omega) ?_
          walk_at "z"
          refine Z.lenL (lstL hb) ?_
          refine Z.forr xs.length (by omega) (by omega) (fun i σ' H' => ∃ z, σ' = [some (.ref a), some (.ref b), z] ∧ H' = H) ⟨_, rfl, rfl⟩ ?_ ?_
          · rintro i σ' H' hlt ⟨z, rfl, rfl⟩
            have hu : xs[i]? = some xs[i] := List.getElem?_eq_getElem hlt
            have hv : ys[i]? = some (ys[i]'(by omega)) := List.getElem?_eq_getElem _
            walk_at "z"
            refine Z.ixA (.inl (lstL ha)) (atI_nat hu) ?_
            walk_at "z"
            refine Z.ixA (.inl (lstL hb)) (atI_nat hv) ?_
            walk_at "z"
            refine ⟨_, _, rfl, hi i _ _ hu hv, ?_⟩
            walk_at "z"
            exact ⟨_, rfl, rfl⟩
          · rintro σ' H' ⟨z, rfl, rfl⟩
            walk_at "z"
            exact q
        · have ht : TyX K H (.ref b) (.type "tuple") := .base (.tup hb)
          have ha' : TyX K H (.ref a) (.type "tuple") := .base (.tup ha)
          refine Z.isi ht (b := true) (by decide +kernel) ?_
          walk_at "z"
          refine Z.isi ht (b := true) (by decide +kernel) ?_
          walk_at "z"
          refine Z.isi ha' (b := true) (by decide +kernel) ?_
          walk_at "z"
          refine Z.noN rfl ?_
          walk_at "z"
          refine Z.isi ht (b := false) (by decide +kernel) ?_
          walk_at "z"
          refine Z.isi ha' (b := false) (by decide +kernel) ?_
          walk_at "z"
          refine Z.noN rfl ?_
          walk_at "z"
          refine Z.lenT (tupT ha) ?_
          walk_at "z"
          refine Z.lenT (tupT hb) ?_
          walk_at "z"
          refine Z.noN (by omega) ?_
          walk_at "z"
          refine Z.lenT (tupT hb) ?_
          refine Z.forr xs.length (by omega) (by omega) (fun i σ' H' => ∃ z, σ' = [some (.ref a), some (.ref b), z] ∧ H' = H) ⟨_, rfl, rfl⟩ ?_ ?_
          · rintro i σ' H' hlt ⟨z, rfl, rfl⟩
            have hu : xs[i]? = some xs[i] := List.getElem?_eq_getElem hlt
            have hv : ys[i]? = some (ys[i]'(by omega)) := List.getElem?_eq_getElem _
            walk_at "z"
            refine Z.ixA (.inr (tupT ha)) (atI_nat hu) ?_
            walk_at "z"
            refine Z.ixA (.inr (tupT hb)) (atI_nat hv) ?_
            walk_at "z"
            refine ⟨_, _, rfl, hi i _ _ hu hv, ?_⟩
            walk_at "z"
            exact ⟨_, rfl, rfl⟩
          · rintro σ' H' ⟨z, rfl, rfl⟩
            walk_at "z"
            exact q
theorem ok__law_same {P : Program} {w : World} {K : PySem.W.Frag} {mg : Str → Option Value} {base : Heap} (T : T P K mg) : FnOk P w K mg base CX0 6 T.a__law_same T.fd__law_same ["actual", "due"] (spSm 5) := same_rec T 5

/-! ### items of a law: _law_name, _law_items -/
theorem mem_append_one {α : Type} {P : α → Prop} {l : List α} {x : α} (h : ∀ n ∈ l, P n) (hx : P x) : ∀ n ∈ l ++ [x], P n := fun n hn => by
  rcases List.mem_append.mp hn with h1 | h1
  · exact h n h1
  · rw [List.mem_singleton.mp h1]; exact hx
theorem mem_set_of {α : Type} {P : α → Prop} {l : List α} {j : Nat} {x : α} (h : ∀ n ∈ l, P n) (hx : P x) : ∀ n ∈ l.set j x, P n := fun n hn => by
  rcases List.mem_or_eq_of_mem_set hn with h1 | h1
  · exact h n h1
  · rw [h1]; exact hx
structure Row where
  k : Str
  g : Str
  w : Int
  m : Int
def Row.vs (r : Row) : List V := [.str r.k, .str r.g, .int r.w, .int r.m]
def RowAt (H : Hp) (p : Addr) (r : Row) : Prop := H p = some (.tup r.vs)
def RowsAt (H : Hp) (ps : List (Addr × Row)) : Prop := ∀ x ∈ ps, RowAt H x.1 x.2
def refs (ps : List (Addr × Row)) : List V := ps.map fun x => V.ref x.1
theorem refs_len (ps : List (Addr × Row)) : (refs ps).length = ps.length := by unfold refs; rw [List.length_map]
theorem refs_at {ps : List (Addr × Row)} {i : Nat} {x : Addr × Row} (h : ps[i]? = some x) : (refs ps)[i]? = some (.ref x.1) := by unfold refs; rw [List.getElem?_map, h]; rfl
theorem refs_of {ps : List (Addr × Row)} {i : Nat} {v : V} (h : (refs ps)[i]? = some v) : ∃ x, ps[i]? = some x ∧ v = .ref x.1 := by
  unfold refs at h
  rw [List.getElem?_map] at h
  cases e : ps[i]? with
  | none => rw [e] at h; cases h
  | some x => rw [e] at h; exact ⟨x, rfl, (Option.some.inj h).symm⟩
theorem refs_snoc (ps : List (Addr × Row)) (x : Addr × Row) : refs (ps ++ [x]) = refs ps ++ [.ref x.1] := by unfold refs; rw [List.map_append]; rfl
theorem RowsAt.kp {M : List Addr} {H H' : Hp} {ps : List (Addr × Row)} (r : RowsAt H ps) (k : Kp M H H') (n : ∀ x ∈ M, ∃ xs, H x = some (.lst xs)) : RowsAt H' ps := fun x hx => k _ _ (fun z => by
  obtain ⟨xs, e⟩ := n _ z
  have e2 := r x hx
  unfold RowAt at e2
  rw [e] at e2
  cases e2) (r x hx)
theorem RowsAt.kp0 {H H' : Hp} {ps : List (Addr × Row)} (r : RowsAt H ps) (k : Kp [] H H') : RowsAt H' ps := r.kp k fun _ h => by cases h
theorem RowsAt.kp1 {H H' : Hp} {a : Addr} {ps : List (Addr × Row)} {xs : List V} (r : RowsAt H ps) (k : Kp [a] H H') (e : H a = some (.lst xs)) : RowsAt H' ps := r.kp k fun x h => by
  rw [List.mem_singleton.mp h]
  exact ⟨xs, e⟩
theorem RowsAt.kpd {H H' : Hp} {a : Addr} {ps : List (Addr × Row)} (r : RowsAt H ps) (k : Kp [a] H H') (d : DrawsAt H a) : RowsAt H' ps := let ⟨_, e⟩ := d; r.kp1 k e
theorem RowsAt.snoc {H : Hp} {ps : List (Addr × Row)} {x : Addr × Row} (r : RowsAt H ps) (h : RowAt H x.1 x.2) : RowsAt H (ps ++ [x]) := fun y hy => by
  rcases List.mem_append.mp hy with z | z
  · exact r y z
  · rw [List.mem_singleton.mp z]; exact h
def lawNames : List Str := ["a", "b7", "k", "q", "zz", "9", "abcdefghijkl", "or", "m2", "weight"]
def lawGroups : List Str := ["red", "blue", "k"]
structure RowOk (r : Row) : Prop where
  k : r.k ∈ lawNames
  g : r.g ∈ lawGroups
  w0 : 1 ≤ r.w
  w1 : r.w ≤ 1000
  m0 : -1000 ≤ r.m
  m1 : r.m ≤ 1000
theorem pickS (l : List Str) {v : Int} (h0 : 0 ≤ v) (h1 : v < (l.length : Nat)) : ∃ s, s ∈ l ∧ atI (l.map V.str) v = some (.str s) := by
  obtain ⟨j, rfl⟩ : ∃ j : Nat, v = (j : Int) := ⟨v.toNat, by omega⟩
  have hj : j < l.length := by omega
  exact ⟨l[j], List.getElem_mem hj, atI_nat (by rw [List.getElem?_map, List.getElem?_eq_getElem hj]; rfl)⟩
theorem pickI (l : List Int) {v : Int} (h0 : 0 ≤ v) (h1 : v < (l.length : Nat)) : ∃ s, s ∈ l ∧ atI (l.map V.int) v = some (.int s) := by
  obtain ⟨j, rfl⟩ : ∃ j : Nat, v = (j : Int) := ⟨v.toNat, by omega⟩
  have hj : j < l.length := by omega
  exact ⟨l[j], List.getElem_mem hj, atI_nat (by rw [List.getElem?_map, List.getElem?_eq_getElem hj]; rfl)⟩
def spName (K : PySem.W.Frag) : Sp := fun vs H Q _ => ∃ a : Addr, vs = [.ref a] ∧ DrawsAt H a ∧ ∀ H' s, s ∈ lawNames → Kp [a] H H' → DrawsAt H' a → Q (.str s) H'
theorem ok__law_name {P : Program} {w : World} {K : PySem.W.Frag} {mg : Str → Option Value} {base : Heap} (T : T P K mg) : FnOk P w K mg base CX0 2 T.a__law_name T.fd__law_name ["draws"] (spName K) := by
  refine T.F__law_name.ok sc__law_name (fun vs H Q E h => ?_) (fun cdv A outer s H vs Q E hr h => ?_)
  · obtain ⟨a, rfl, _⟩ := h
    rfl
  · obtain ⟨a, rfl, hd, q⟩ := h
    refine ⟨_, (pss_one (ps_ret (pe_ix ix_list (pe_lst (pa_cons pe_str (pa_cons pe_str (pa_cons pe_str (pa_cons pe_str (pa_cons pe_str (pa_cons pe_str (pa_cons pe_str (pa_cons pe_str (pa_cons pe_str (pa_cons pe_str pa_nil))))))))))) (pe_call (ok__law_take T) (hr.mono (by decide)) (by rfl) T.g__law_take T.F__law_take.kp T.b__law_take .nil pass0 (pa_cons (pv 0) (pa_cons pe_int pa_nil))) (fun _ _ => rfl)))), ?_⟩
    walk_at "z0"
    walk_at "z"
    refine Z.lstK (fun b H1 nb k1 e1 => ?_)
    walk_at "z"
    refine ⟨a, 10, rfl, hd.kp0 k1, by decide, by decide, fun H2 v h0 h1 k2 d2 => ?_⟩
    obtain ⟨s, hs, es⟩ := pickS lawNames h0 h1
    refine Z.ixL (lstL (k2.get (nin1 (hd.ne nb).symm) e1)) es ?_
    exact q H2 s hs ((k1.sub (by simp)).trans k2) d2
/-- rows that _law_items has made, behind the draws at a -/
structure ItemsOk (H H' : Hp) (a p : Addr) (ps : List (Addr × Row)) : Prop where
  kp : Kp [a] H H'
  dr : DrawsAt H' a
  at_ : H' p = some (.lst (refs ps))
  rows : RowsAt H' ps
  ok : ∀ x ∈ ps, RowOk x.2
  new : ∀ x ∈ ps, H x.1 = none
  nd : (ps.map fun x => x.2.k).Nodup
def spItems (K : PySem.W.Frag) : Sp := fun vs H Q _ => ∃ (a : Addr) (n : Nat), vs = [.ref a, .int (n : Int)] ∧ DrawsAt H a ∧ n ≤ 100 ∧ ∀ H' p ps, H p = none → ItemsOk H H' a p ps → ps.length ≤ n → Q (.ref p) H'
theorem ok__law_items {P : Program} {w : World} {K : PySem.W.Frag} {mg : Str → Option Value} {base : Heap} (T : T P K mg) : FnOk P w K mg base CX0 3 T.a__law_items T.fd__law_items ["draws", "most"] (spItems K) := by
  refine T.F__law_items.ok sc__law_items (fun vs H Q E h => ?_) (fun cdv A outer s H vs Q E hr h => ?_)
  · obtain ⟨a, n, rfl, _⟩ := h
    rfl
  · obtain ⟨a, n, rfl, hd, hn, q⟩ := h
    refine ⟨_, (pss_cons (ps_set (i := 2) sc__law_items.nd rfl (by first | exact Or.inl rfl | exact Or.inr rfl) (pe_lst pa_nil))
      (pss_cons (ps_set (i := 3) sc__law_items.nd rfl (by first | exact Or.inl rfl | exact Or.inr rfl) (pe_lst pa_nil))
      (pss_cons (ps_for PassesOwn.never rfl (pi_range1 (by rfl) T.z_range (pa_cons (pe_call (ok__law_take T) (hr.mono (by decide)) (by rfl) T.g__law_take T.F__law_take.kp T.b__law_take .nil pass0 (pa_cons (pv 0) (pa_cons (pe_op op_add (pv 1) pe_int) pa_nil))) pa_nil)) (pg_name (i := 4) sc__law_items.nd rfl (by first | exact Or.inl rfl | exact Or.inr rfl)) (pss_cons (ps_set (i := 5) sc__law_items.nd rfl (by first | exact Or.inl rfl | exact Or.inr rfl) (pe_call (ok__law_name T) (hr.mono (by decide)) (by rfl) T.g__law_name T.F__law_name.kp T.b__law_name .nil pass0 (pa_cons (pv 0) pa_nil)))
      (pss_cons (ps_set (i := 6) sc__law_items.nd rfl (by first | exact Or.inl rfl | exact Or.inr rfl) (pe_ix ix_list (pe_lst (pa_cons (pe_op op_add pe_int (pe_call (ok__law_take T) (hr.mono (by decide)) (by rfl) T.g__law_take T.F__law_take.kp T.b__law_take .nil pass0 (pa_cons (pv 0) (pa_cons pe_int pa_nil)))) (pa_cons pe_int (pa_cons (pe_op op_add pe_int (pe_call (ok__law_take T) (hr.mono (by decide)) (by rfl) T.g__law_take T.F__law_take.kp T.b__law_take .nil pass0 (pa_cons (pv 0) (pa_cons pe_int pa_nil)))) pa_nil)))) (pe_ix ix_list (pe_lst (pa_cons pe_int (pa_cons pe_int (pa_cons pe_int (pa_cons pe_int pa_nil))))) (pe_call (ok__law_take T) (hr.mono (by decide)) (by rfl) T.g__law_take T.F__law_take.kp T.b__law_take .nil pass0 (pa_cons (pv 0) (pa_cons pe_int pa_nil))) (fun _ _ => rfl)) (fun _ _ => rfl)))
      (pss_cons (ps_set (i := 7) sc__law_items.nd rfl (by first | exact Or.inl rfl | exact Or.inr rfl) (pe_ix ix_list (pe_lst (pa_cons (pe_op op_sub (pe_call (ok__law_take T) (hr.mono (by decide)) (by rfl) T.g__law_take T.F__law_take.kp T.b__law_take .nil pass0 (pa_cons (pv 0) (pa_cons pe_int pa_nil))) pe_int) (pa_cons (pe_un un_neg pe_int) (pa_cons pe_int (pa_cons pe_int pa_nil))))) (pe_ix ix_list (pe_lst (pa_cons pe_int (pa_cons pe_int (pa_cons pe_int (pa_cons pe_int (pa_cons pe_int pa_nil)))))) (pe_call (ok__law_take T) (hr.mono (by decide)) (by rfl) T.g__law_take T.F__law_take.kp T.b__law_take .nil pass0 (pa_cons (pv 0) (pa_cons pe_int pa_nil))) (fun _ _ => rfl)) (fun _ _ => rfl)))
      (pss_one (ps_if (pt_cmpR op_notIn_seq (pv 5) (pv 3) rfl) (pss_cons (ps_expr (pe_bm PySem.F.plainAttrs_list PySem.F.slot_list_append PySem.F.type_list_append mt_append (pv 3) (pa_cons (pv 5) pa_nil)))
      (pss_one (ps_expr (pe_bm PySem.F.plainAttrs_list PySem.F.slot_list_append PySem.F.type_list_append mt_append (pv 2) (pa_cons (pe_tup (pa_cons (pv 5) (pa_cons (pe_ix ix_list (pe_lst (pa_cons pe_str (pa_cons pe_str (pa_cons pe_str pa_nil)))) (pe_call (ok__law_take T) (hr.mono (by decide)) (by rfl) T.g__law_take T.F__law_take.kp T.b__law_take .nil pass0 (pa_cons (pv 0) (pa_cons pe_int pa_nil))) (fun _ _ => rfl)) (pa_cons (pv 6) (pa_cons (pv 7) pa_nil))))) pa_nil))))) pss_nil))))))
      (pss_one (ps_ret (pv 2)))))), ?_⟩
    walk_at "z0"
    walk_at "z"
    refine Z.lstK (fun F H1 nF k1 e1 => ?_)
    have d1 := hd.kp0 k1
    walk_at "z"
    refine Z.lstK (fun L H2 nL k2 e2 => ?_)
    have d2 := d1.kp0 k2
    have e2F := k2.get nin0 e1
    have nFL : F ≠ L := ne_of_none e1 nL
    have nL0 : H L = none := k1.none nin0 nL
    have naF : a ≠ F := hd.ne nF
    have naL : a ≠ L := hd.ne nL0
    walk_at "z"
    refine ⟨a, _, rfl, d2, by omega, by omega, fun H3 t ht0 ht1 k3 d3 => ?_⟩
    have e3F := k3.get (nin1 naF.symm) e2F
    have e3L := k3.get (nin1 naL.symm) e2
    have k03 : Kp [a] H H3 := ((k1.trans k2).sub (by simp)).trans k3
    refine Z.forr t.toNat (by omega) (by omega) (fun i σ' H' => ∃ y4 y5 y6 y7, ∃ ps : List (Addr × Row), σ' = [some (.ref a), some (.int (n : Int)), some (.ref F), some (.ref L), y4, y5, y6, y7] ∧ ItemsOk H H' a F ps ∧ H' L = some (.lst ((ps.map fun x => x.2.k).map V.str)) ∧ ps.length ≤ i) ⟨_, _, _, _, [], rfl, ⟨k03, d3, e3F, (fun _ h => by cases h), (fun _ h => by cases h), (fun _ h => by cases h), by simp⟩, e3L, by simp⟩ ?_ ?_
    · rintro i σ' H4 hi ⟨y4, y5, y6, y7, ps, rfl, I, e4L, hl⟩
      walk_at "z"
      refine ⟨a, rfl, I.dr, fun H5 key hkey k5 d5 => ?_⟩
      walk_at "z"
      refine ⟨a, 20, rfl, d5, by decide, by decide, fun H6 v1 hv10 hv11 k6 d6 => ?_⟩
      walk_at "z"
      refine ⟨a, 1000, rfl, d6, by decide, by decide, fun H7 v2 hv20 hv21 k7 d7 => ?_⟩
      walk_at "z"
      refine Z.lstK (fun b1 H8 nb1 k8 e8 => ?_)
      walk_at "z"
      refine Z.lstK (fun b2 H9 nb2 k9 e9 => ?_)
      have d9 := (d7.kp0 k8).kp0 k9
      have e9b := k9.get nin0 e8
      walk_at "z"
      refine ⟨a, 4, rfl, d9, by decide, by decide, fun H10 v3 hv30 hv31 k10 d10 => ?_⟩
      have nab1 : a ≠ b1 := d7.ne nb1
      have nab2 : a ≠ b2 := (d7.kp0 k8).ne nb2
      obtain ⟨j1, hj1, ej1⟩ := pickI [0, 0, 1, 2] hv30 hv31
      refine Z.ixL (lstL (k10.get (nin1 nab2.symm) e9)) ej1 ?_
      obtain ⟨wt, hwt0, hwt1, ewt⟩ : ∃ wt : Int, 1 ≤ wt ∧ wt ≤ 1000 ∧ atI [V.int (1 + v1), V.int 1000, V.int (1 + v2)] j1 = some (.int wt) := by
        simp only [List.mem_cons, List.not_mem_nil, or_false] at hj1
        rcases hj1 with rfl | rfl | rfl | rfl
        · exact ⟨1 + v1, by omega, by omega, rfl⟩
        · exact ⟨1 + v1, by omega, by omega, rfl⟩
        · exact ⟨1000, by omega, by omega, rfl⟩
        · exact ⟨1 + v2, by omega, by omega, rfl⟩
      refine Z.ixL (lstL (k10.get (nin1 nab1.symm) e9b)) ewt ?_
      walk_at "z"
      refine ⟨a, 41, rfl, d10, by decide, by decide, fun H11 v4 hv40 hv41 k11 d11 => ?_⟩
      walk_at "z"
      refine Z.lstK (fun b3 H12 nb3 k12 e12 => ?_)
      walk_at "z"
      refine Z.lstK (fun b4 H13 nb4 k13 e13 => ?_)
      have d13 := (d11.kp0 k12).kp0 k13
      have e13b := k13.get nin0 e12
      walk_at "z"
      refine ⟨a, 5, rfl, d13, by decide, by decide, fun H14 v5 hv50 hv51 k14 d14 => ?_⟩
      have nab3 : a ≠ b3 := d11.ne nb3
      have nab4 : a ≠ b4 := (d11.kp0 k12).ne nb4
      obtain ⟨j2, hj2, ej2⟩ := pickI [0, 0, 1, 2, 3] hv50 hv51
      refine Z.ixL (lstL (k14.get (nin1 nab4.symm) e13)) ej2 ?_
      obtain ⟨am, ham0, ham1, eam⟩ : ∃ am : Int, -1000 ≤ am ∧ am ≤ 1000 ∧ atI [V.int (v4 - 20), V.int (-1000), V.int 1000, V.int 0] j2 = some (.int am) := by
        simp only [List.mem_cons, List.not_mem_nil, or_false] at hj2
        rcases hj2 with rfl | rfl | rfl | rfl | rfl
        · exact ⟨v4 - 20, by omega, by omega, rfl⟩
        · exact ⟨v4 - 20, by omega, by omega, rfl⟩
        · exact ⟨-1000, by omega, by omega, rfl⟩
        · exact ⟨1000, by omega, by omega, rfl⟩
        · exact ⟨0, by omega, by omega, rfl⟩
      refine Z.ixL (lstL (k14.get (nin1 nab3.symm) e13b)) eam ?_
      have kk : Kp [a] H4 H14 := k5.trans (k6.trans (k7.trans ((k8.trans k9).sub (by simp) |>.trans (k10.trans (k11.trans ((k12.trans k13).sub (by simp) |>.trans k14))))))
      have e14L := kk.get (nin1 naL.symm) e4L
      have e14F := kk.get (nin1 naF.symm) I.at_
      have r14 := I.rows.kpd kk I.dr
      walk_at "z"
      refine Z.inq (.inl (lstL e14L)) rfl Z.strs_flat ?_
      rw [Z.inV_strs]
      walk_at "z"
      refine Z.iteN (fun hnew => ?_) (fun hold => ?_)
      · walk_at "z"
        refine ⟨Z.tyL e14L, ?_⟩
        walk_at "z"
        refine Z.app e14L (Z.szl (m := 1000) (by rw [List.length_map, List.length_map]; omega)) ?_
        have k15 : Kp [L] H14 (upd H14 L (.lst ((ps.map fun x => x.2.k).map V.str ++ [.str key]))) := Kp.put (by simp)
        have e15L : (upd H14 L (.lst ((ps.map fun x => x.2.k).map V.str ++ [.str key]))) L = some (.lst ((ps.map fun x => x.2.k).map V.str ++ [.str key])) := upd_same
        revert k15 e15L
        generalize upd H14 L (.lst ((ps.map fun x => x.2.k).map V.str ++ [.str key])) = H15
        intro k15 e15L
        have e15F := k15.get (nin1 nFL) e14F
        have d15 := d14.kp k15 (nin1 naL)
        have r15 := r14.kp1 k15 e14L
        walk_at "z"
        refine ⟨Z.tyL e15F, ?_⟩
        walk_at "z"
        refine Z.lstK (fun b5 H16 nb5 k16 e16 => ?_)
        have d16 := d15.kp0 k16
        have nab5 : a ≠ b5 := d15.ne nb5
        walk_at "z"
        refine ⟨a, 3, rfl, d16, by decide, by decide, fun H17 v6 hv60 hv61 k17 d17 => ?_⟩
        obtain ⟨grp, hgrp, egrp⟩ := pickS lawGroups hv60 hv61
        refine Z.ixL (lstL (k17.get (nin1 nab5.symm) e16)) egrp ?_
        walk_at "z"
        refine Z.tupK (fun p H18 np k18 e18 => ?_)
        have k1518 : Kp [a] H15 H18 := (k16.sub (by simp)).trans (k17.trans (k18.sub (by simp)))
        have e18F := k1518.get (nin1 naF.symm) e15F
        have e18L := k1518.get (nin1 naL.symm) e15L
        have r18 := (r15.kp0 k16).kpd k17 d16 |>.kp0 k18
        have npF : p ≠ F := fun z => by
          rw [z] at np
          rw [(k16.trans (M := []) (Kp.refl _)).get nin0 e15F |> fun z => k17.get (nin1 naF.symm) z] at np
          cases np
        walk_at "z"
        refine Z.app e18F (Z.szl (m := 1000) (by rw [refs_len]; omega)) ?_
        have hH14 : Kp [a] H H14 := I.kp.trans kk
        have k014 : Kp [a] H H15 := fun b o nb e => by
          have nbL : b ≠ L := ne_of_none e nL0
          exact k15 _ _ (nin1 nbL) (hH14 _ _ nb e)
        have k018 : Kp [a] H H18 := k014.trans k1518
        have k019 : Kp [F] H18 (upd H18 F (.lst (refs ps ++ [.ref p]))) := Kp.put (by simp)
        refine ⟨_, _, _, _, ps ++ [(p, ⟨key, grp, wt, am⟩)], rfl, ⟨k018.mut nF rfl, (d17.kp0 k18).put naF, ?_, ?_, ?_, ?_, ?_⟩, ?_, ?_⟩
        · rw [upd_same, refs_snoc]
        · exact (r18.kp1 k019 e18F).snoc (show RowAt _ p _ from k019.get (nin1 npF) e18)
        · exact mem_append_one I.ok ⟨hkey, hgrp, hwt0, hwt1, ham0, ham1⟩
        · refine mem_append_one I.new ?_
          have npa : p ≠ a := fun z => (d17.ne np) z.symm
          exact (k014.trans ((k16.sub (by simp)).trans k17)).none (nin1 npa) np
        · rw [List.map_append]
          refine List.nodup_append.mpr ⟨I.nd, by simp, ?_⟩
          intro x hx y hy z
          simp only [List.map_cons, List.map_nil, List.mem_singleton] at hy
          exact hnew (by rw [← hy, ← z]; exact hx)
        · rw [upd_ne nFL.symm, e18L, List.map_append, List.map_append]; rfl
        · simp; omega
      · walk_at "z"
        exact ⟨_, _, _, _, ps, rfl, ⟨I.kp.trans kk, d14, e14F, r14, I.ok, I.new, I.nd⟩, e14L, by omega⟩
    · rintro σ' H4 ⟨y4, y5, y6, y7, ps, rfl, I, e4L, hl⟩
      walk_at "z"
      exact q H4 F ps nF I (by omega)

/-! ### rows as data; the reasons against a row, by the definition -/
structure RowS (r : Row) : Prop where
  k : PyData.strOk r.k = true
  g : PyData.strOk r.g = true
  kz : r.k.cps.size ≤ 20
  gz : r.g.cps.size ≤ 20
def smallS (l : List Str) : Bool := l.all fun s => PyData.strOk s && decide (s.cps.size ≤ 20)
theorem smallS_of {l : List Str} (h : smallS l = true) {s : Str} (hs : s ∈ l) : PyData.strOk s = true ∧ s.cps.size ≤ 20 := by
  have h1 := List.all_eq_true.mp h s hs
  rw [Bool.and_eq_true, decide_eq_true_eq] at h1
  exact h1
theorem names_small : smallS lawNames = true := by decide +kernel
theorem groups_small : smallS lawGroups = true := by decide +kernel
theorem RowOk.s {r : Row} (h : RowOk r) : RowS r := ⟨(smallS_of names_small h.k).1, (smallS_of groups_small h.g).1, (smallS_of names_small h.k).2, (smallS_of groups_small h.g).2⟩
def rowD (r : Row) : PyData := .tuple [.str r.k, .str r.g, .int r.w, .int r.m]
theorem dpRow {K : PySem.W.Frag} {H : Hp} {p : Addr} {r : Row} (h : RowAt H p r) : Dp K H (.ref p) (rowD r) := .tup (tupT h) (.cons (.str _) (.cons (.str _) (.cons (.int _) (.cons (.int _) .nil))))
def rowsD (ps : List (Addr × Row)) : List PyData := ps.map fun x => rowD x.2
theorem dpRowsAll {K : PySem.W.Frag} {H : Hp} : ∀ {ps : List (Addr × Row)}, RowsAt H ps → DpAll K H (refs ps) (rowsD ps)
  | [], _ => .nil
  | x :: r, h => .cons (dpRow (h x (by simp))) (dpRowsAll (ps := r) fun y hy => h y (by simp [hy]))
theorem dpRows {K : PySem.W.Frag} {H : Hp} {p : Addr} {ps : List (Addr × Row)} (h : H p = some (.lst (refs ps))) (r : RowsAt H ps) : Dp K H (.ref p) (.list (rowsD ps)) := .lst (lstL h) (dpRowsAll r)
theorem rowD_lay {r : Row} (h : RowS r) : PyData.canLay0 (rowD r) = true := by simp [rowD, PyData.canLay0, PyData.canLayAll0, h.k, h.g]
theorem layRows : ∀ {ps : List (Addr × Row)}, (∀ x ∈ ps, RowS x.2) → PyData.canLayAll0 (rowsD ps) = true
  | [], _ => by simp [rowsD, PyData.canLayAll0]
  | x :: r, h => by
    have ih := layRows (ps := r) fun y hy => h y (by simp [hy])
    show PyData.canLayAll0 (rowD x.2 :: rowsD r) = true
    rw [PyData.canLayAll0, rowD_lay (h x (by simp)), ih]; rfl
theorem rowD_depth (r : Row) : (rowD r).depth = 1 := by simp [rowD, PyData.depth, PyData.depthAll]
theorem depthRows : ∀ ps : List (Addr × Row), PyData.depthAll (rowsD ps) ≤ 1
  | [] => by simp [rowsD, PyData.depthAll]
  | x :: r => by
    have ih := depthRows r
    show PyData.depthAll (rowD x.2 :: rowsD r) ≤ 1
    rw [PyData.depthAll, rowD_depth]
    omega
theorem shRows {ps : List (Addr × Row)} (h : ∀ x ∈ ps, RowS x.2) : SeqAt.shaped (.list (rowsD ps)) = true := by
  have := depthRows ps
  simp [SeqAt.shaped, PyData.canLay0, PyData.depth, layRows h]
  omega
theorem shNil : SeqAt.shaped (.list []) = true := by decide +kernel
theorem neRows {K : PySem.W.Frag} {H : Hp} {Q : VK} {a b : Addr} {ps : List (Addr × Row)} (h1 : H a = some (.lst (refs ps))) (h2 : H b = some (.lst (refs ps))) (r : RowsAt H ps) (s : ∀ x ∈ ps, RowS x.2) (q : Q (.bl false) H) : rNeD K (.ref a) (.ref b) H Q :=
  ⟨_, _, dpRows h1 r, dpRows h2 r, shRows s, shRows s, by rw [SeqAt.eqv_refl _ (by rw [PyData.canLay0]; exact layRows s)]; exact q⟩
theorem eqvAll_nil : ∀ l : List PyData, PyData.eqvAll l [] = l.isEmpty
  | [] => by simp [PyData.eqvAll]
  | _ :: _ => by simp [PyData.eqvAll]
theorem eqNil {K : PySem.W.Frag} {H : Hp} {Q : VK} {a b : Addr} {ps : List (Addr × Row)} (h1 : H a = some (.lst (refs ps))) (h2 : H b = some (.lst [])) (r : RowsAt H ps) (s : ∀ x ∈ ps, RowS x.2) (q : Q (.bl ps.isEmpty) H) : rEqD K (.ref a) (.ref b) H Q :=
  ⟨_, _, dpRows h1 r, .lst (ds := []) (lstL h2) .nil, shRows s, shNil, by
    rw [PyData.eqv, eqvAll_nil]
    have e : (rowsD ps).isEmpty = ps.isEmpty := by cases ps <;> rfl
    rw [e]; exact q⟩
/-! what is a name, an item -/
def signs : Str := "abcdefghijklmnopqrstuvwxyz0123456789"
def allIn (s z : Str) : Bool := s.cps.toList.all fun c => decide (c ∈ z.cps.toList)
def fineB (s : Str) : Bool := decide (1 ≤ s.cps.size) && (decide (s.cps.size ≤ 12) && allIn s signs)
def reasonOf (r : Row) : Option Str :=
  if fineB r.k = true then if fineB r.g = true then if 1 ≤ r.w ∧ r.w ≤ 1000 then if -1000 ≤ r.m ∧ r.m ≤ 1000 then none else some ("amount" : Str) else some ("weight" : Str) else some ("group" : Str) else some ("key" : Str)
def optV : Option Str → V
  | none => .non
  | some s => .str s
theorem optV_non (o : Option Str) : decide (optV o = .non) = o.isNone := by cases o <;> simp [optV]
theorem reason_key {r : Row} (h : fineB r.k = false) : reasonOf r = some ("key" : Str) := by unfold reasonOf; rw [if_neg (by rw [h]; decide)]
theorem reason_group {r : Row} (h : fineB r.k = true) (h2 : fineB r.g = false) : reasonOf r = some ("group" : Str) := by unfold reasonOf; rw [if_pos h, if_neg (by rw [h2]; decide)]
theorem reason_weight {r : Row} (h : fineB r.k = true) (h2 : fineB r.g = true) (h3 : ¬ (1 ≤ r.w ∧ r.w ≤ 1000)) : reasonOf r = some ("weight" : Str) := by unfold reasonOf; rw [if_pos h, if_pos h2, if_neg h3]
theorem reason_amount {r : Row} (h : fineB r.k = true) (h2 : fineB r.g = true) (h3 : 1 ≤ r.w ∧ r.w ≤ 1000) (h4 : ¬ (-1000 ≤ r.m ∧ r.m ≤ 1000)) : reasonOf r = some ("amount" : Str) := by unfold reasonOf; rw [if_pos h, if_pos h2, if_pos h3, if_neg h4]
theorem reason_none {r : Row} (h : fineB r.k = true) (h2 : fineB r.g = true) (h3 : 1 ≤ r.w ∧ r.w ≤ 1000) (h4 : -1000 ≤ r.m ∧ r.m ≤ 1000) : reasonOf r = none := by unfold reasonOf; rw [if_pos h, if_pos h2, if_pos h3, if_pos h4]
theorem RowOk.fine {r : Row} (h : RowOk r) : reasonOf r = none := by
  have hk : ∀ s ∈ lawNames, fineB s = true := by decide +kernel
  have hg : ∀ s ∈ lawGroups, fineB s = true := by decide +kernel
  exact reason_none (hk _ h.k) (hg _ h.g) ⟨h.w0, h.w1⟩ ⟨h.m0, h.m1⟩
/-! the first fault -/
def keysTo (ps : List (Addr × Row)) (i : Nat) : List Str := (ps.take i).map fun x => x.2.k
def reasonAt (ps : List (Addr × Row)) (i : Nat) : Option Str :=
  match ps[i]? with
  | none => none
  | some x => match reasonOf x.2 with
    | some y => some y
    | none => if x.2.k ∈ keysTo ps i then some ("taken" : Str) else none
theorem reasonAt_1 {ps : List (Addr × Row)} {i : Nat} {x : Addr × Row} {y : Str} (h : ps[i]? = some x) (h2 : reasonOf x.2 = some y) : reasonAt ps i = some y := by unfold reasonAt; rw [h]; dsimp only; rw [h2]
theorem reasonAt_2 {ps : List (Addr × Row)} {i : Nat} {x : Addr × Row} (h : ps[i]? = some x) (h2 : reasonOf x.2 = none) (h3 : x.2.k ∈ keysTo ps i) : reasonAt ps i = some ("taken" : Str) := by unfold reasonAt; rw [h]; dsimp only; rw [h2]; dsimp only; rw [if_pos h3]
theorem reasonAt_3 {ps : List (Addr × Row)} {i : Nat} {x : Addr × Row} (h : ps[i]? = some x) (h2 : reasonOf x.2 = none) (h3 : ¬ x.2.k ∈ keysTo ps i) : reasonAt ps i = none := by unfold reasonAt; rw [h]; dsimp only; rw [h2]; dsimp only; rw [if_neg h3]
theorem keysTo_succ {ps : List (Addr × Row)} {i : Nat} {x : Addr × Row} (h : ps[i]? = some x) : keysTo ps (i + 1) = keysTo ps i ++ [x.2.k] := by
  unfold keysTo
  rw [List.take_add_one, h, List.map_append]; rfl
def First (ps : List (Addr × Row)) : Option (Nat × Str) → Prop
  | none => ∀ i, i < ps.length → reasonAt ps i = none
  | some (k, y) => k < ps.length ∧ reasonAt ps k = some y ∧ ∀ i, i < k → reasonAt ps i = none
theorem First.uniq {ps : List (Addr × Row)} {o u : Option (Nat × Str)} (h : First ps o) (h2 : First ps u) : o = u := by
  match o, u, h, h2 with
  | none, none, _, _ => rfl
  | none, some (k, y), h, h2 =>
    have a1 : ∀ i, i < ps.length → reasonAt ps i = none := h
    have a2 : k < ps.length ∧ reasonAt ps k = some y ∧ ∀ i, i < k → reasonAt ps i = none := h2
    have := (a1 k a2.1).symm.trans a2.2.1
    cases this
  | some (k, y), none, h, h2 =>
    have a1 : ∀ i, i < ps.length → reasonAt ps i = none := h2
    have a2 : k < ps.length ∧ reasonAt ps k = some y ∧ ∀ i, i < k → reasonAt ps i = none := h
    have := (a1 k a2.1).symm.trans a2.2.1
    cases this
  | some (k, y), some (j, z), h, h2 =>
    have a1 : k < ps.length ∧ reasonAt ps k = some y ∧ ∀ i, i < k → reasonAt ps i = none := h
    have a2 : j < ps.length ∧ reasonAt ps j = some z ∧ ∀ i, i < j → reasonAt ps i = none := h2
    rcases Nat.lt_trichotomy k j with e | e | e
    · have := (a2.2.2 k e).symm.trans a1.2.1
      cases this
    · subst e
      have := a1.2.1.symm.trans a2.2.1
      cases this
      rfl
    · have := (a1.2.2 j e).symm.trans a2.2.1
      cases this
def FaultV (H : Hp) (v : V) : Option (Nat × Str) → Prop
  | none => v = .non
  | some (k, y) => ∃ t, v = .ref t ∧ H t = some (.tup [.int (k : Int), .str y])
theorem FaultV.kp {H H' : Hp} {v : V} {o : Option (Nat × Str)} (h : FaultV H v o) (k : Kp [] H H') : FaultV H' v o := by
  match o, h with
  | none, h => exact h
  | some (_, _), ⟨t, e, ht⟩ => exact ⟨t, e, k.get nin0 ht⟩
theorem FaultV.sm {H : Hp} {u v : V} {o : Option (Nat × Str)} (h : FaultV H u o) (h2 : FaultV H v o) : Sm 5 H u v := by
  match o, h, h2 with
  | none, h, h2 =>
    have e : u = .non := h
    have e2 : v = .non := h2
    subst e e2
    exact .sc rfl
  | some (k, y), ⟨t, e, ht⟩, ⟨t2, e2, ht2⟩ =>
    subst e e2
    refine .plainT ht ht2 (by simp) fun x hx => ?_
    simp only [List.mem_cons, List.not_mem_nil, or_false] at hx
    rcases hx with rfl | rfl <;> rfl
theorem RowAt.k0 {K : PySem.W.Frag} {H : Hp} {Q : VK} {p : Addr} {r : Row} (h : RowAt H p r) (q : Q (.str r.k) H) : rIxT K (.ref p) (.int 0) H Q := Z.ixT (tupT h) rfl q
theorem RowAt.g1 {K : PySem.W.Frag} {H : Hp} {Q : VK} {p : Addr} {r : Row} (h : RowAt H p r) (q : Q (.str r.g) H) : rIxT K (.ref p) (.int 1) H Q := Z.ixT (tupT h) rfl q
theorem RowAt.w2 {K : PySem.W.Frag} {H : Hp} {Q : VK} {p : Addr} {r : Row} (h : RowAt H p r) (q : Q (.int r.w) H) : rIxT K (.ref p) (.int 2) H Q := Z.ixT (tupT h) rfl q
theorem RowAt.m3 {K : PySem.W.Frag} {H : Hp} {Q : VK} {p : Addr} {r : Row} (h : RowAt H p r) (q : Q (.int r.m) H) : rIxT K (.ref p) (.int 3) H Q := Z.ixT (tupT h) rfl q
theorem RowAt.kp0 {H H' : Hp} {p : Addr} {r : Row} (h : RowAt H p r) (k : Kp [] H H') : RowAt H' p r := k.get nin0 h

/-! ### conditions as trees, at their places -/
inductive Atom where
  | cmp (a : Bool) (s : Str) (n : Int)
  | grp (s : Str)
  | key (s : Str)
  | all
def cmpW (a : Bool) : Str := if a then "amount" else "weight"
def twoW (o : Bool) : Str := if o then "or" else "and"
def Atom.vs : Atom → List V
  | .cmp a s n => [.str (cmpW a), .str s, .int n]
  | .grp s => [.str "group", .str s]
  | .key s => [.str "key", .str s]
  | .all => [.str "all"]
def signs5 : List Str := ["<", "<=", "=", ">=", ">"]
def Atom.Ok : Atom → Prop
  | .cmp _ s _ => s ∈ signs5
  | _ => True
def cmpB (s : Str) (x y : Int) : Bool := if s = "<" then decide (x < y) else if s = "<=" then decide (x ≤ y) else if s = "=" then decide (x = y) else if s = ">=" then decide (y ≤ x) else decide (y < x)
def Atom.holds (r : Row) : Atom → Bool
  | .cmp a s n => cmpB s (if a then r.m else r.w) n
  | .grp s => decide (r.g = s)
  | .key s => decide (r.k = s)
  | .all => true
inductive CT where
  | leaf (p : Addr) (a : Atom)
  | neg (p : Addr) (c : CT)
  | two (p : Addr) (o : Bool) (c d : CT)
def CT.ad : CT → Addr
  | .leaf p _ => p
  | .neg p _ => p
  | .two p _ _ _ => p
def CT.At (H : Hp) : CT → Prop
  | .leaf p a => H p = some (.tup a.vs) ∧ a.Ok
  | .neg p c => H p = some (.tup [.str "not", .ref c.ad]) ∧ c.At H
  | .two p o c d => H p = some (.tup [.str (twoW o), .ref c.ad, .ref d.ad]) ∧ c.At H ∧ d.At H
def CT.holds (r : Row) : CT → Bool
  | .leaf _ a => a.holds r
  | .neg _ c => !c.holds r
  | .two _ o c d => if o then c.holds r || d.holds r else c.holds r && d.holds r
def CT.size : CT → Nat
  | .leaf _ _ => 1
  | .neg _ c => c.size + 1
  | .two _ _ c d => c.size + d.size + 1
def CT.depth : CT → Nat
  | .leaf _ _ => 0
  | .neg _ c => c.depth + 1
  | .two _ _ c d => max c.depth d.depth + 1
def CT.pre : CT → List CT
  | .leaf p a => [.leaf p a]
  | .neg p c => .neg p c :: c.pre
  | .two p o c d => .two p o c d :: (d.pre ++ c.pre)
def CT.post : CT → List CT
  | .leaf p a => [.leaf p a]
  | .neg p c => c.post ++ [.neg p c]
  | .two p o c d => c.post ++ (d.post ++ [.two p o c d])
theorem post_pre : ∀ t : CT, t.pre.reverse = t.post
  | .leaf _ _ => rfl
  | .neg p c => by rw [CT.pre, CT.post, List.reverse_cons, post_pre c]
  | .two p o c d => by rw [CT.pre, CT.post, List.reverse_cons, List.reverse_append, post_pre c, post_pre d, List.append_assoc]
theorem pre_len : ∀ t : CT, t.pre.length = t.size
  | .leaf _ _ => rfl
  | .neg p c => by rw [CT.pre, CT.size, List.length_cons, pre_len c]
  | .two p o c d => by rw [CT.pre, CT.size, List.length_cons, List.length_append, pre_len c, pre_len d]; omega
theorem post_len (t : CT) : t.post.length = t.size := by rw [← post_pre, List.length_reverse, pre_len]
theorem size_pos : ∀ t : CT, 1 ≤ t.size
  | .leaf _ _ => Nat.le_refl _
  | .neg _ _ => by rw [CT.size]; omega
  | .two _ _ _ _ => by rw [CT.size]; omega
theorem size_depth : ∀ t : CT, t.size + 1 ≤ 2 ^ (t.depth + 1)
  | .leaf _ _ => by simp [CT.size, CT.depth]
  | .neg _ c => by
    have h := size_depth c
    rw [CT.size, CT.depth, Nat.pow_succ]
    omega
  | .two _ _ c d => by
    have h1 := size_depth c
    have h2 := size_depth d
    have e1 : 2 ^ (c.depth + 1) ≤ 2 ^ (max c.depth d.depth + 1) := Nat.pow_le_pow_right (by decide) (by omega)
    have e2 : 2 ^ (d.depth + 1) ≤ 2 ^ (max c.depth d.depth + 1) := Nat.pow_le_pow_right (by decide) (by omega)
    rw [CT.size, CT.depth, Nat.pow_succ]
    omega
theorem CT.At.kp {M : List Addr} {H H' : Hp} (k : Kp M H H') (n : ∀ x ∈ M, ∃ xs, H x = some (.lst xs)) : ∀ {t : CT}, t.At H → t.At H'
  | .leaf p a, h => ⟨k _ _ (fun z => by
      obtain ⟨xs, e⟩ := n _ z
      rw [h.1] at e
      cases e) h.1, h.2⟩
  | .neg p c, h => ⟨k _ _ (fun z => by
      obtain ⟨xs, e⟩ := n _ z
      rw [h.1] at e
      cases e) h.1, CT.At.kp k n h.2⟩
  | .two p o c d, h => ⟨k _ _ (fun z => by
      obtain ⟨xs, e⟩ := n _ z
      rw [h.1] at e
      cases e) h.1, CT.At.kp k n h.2.1, CT.At.kp k n h.2.2⟩
theorem CT.At.kp0 {H H' : Hp} {t : CT} (h : t.At H) (k : Kp [] H H') : t.At H' := h.kp k fun _ h => by cases h
theorem CT.At.kpd {H H' : Hp} {a : Addr} {t : CT} (h : t.At H) (k : Kp [a] H H') (d : DrawsAt H a) : t.At H' := h.kp k fun x hx => by
  rw [List.mem_singleton.mp hx]
  exact ⟨_, d.choose_spec⟩
theorem post_at {H : Hp} : ∀ {t : CT}, t.At H → ∀ c ∈ t.post, c.At H
  | .leaf p a, h, c, hc => by rw [List.mem_singleton.mp hc]; exact h
  | .neg p e, h, c, hc => by
    rcases List.mem_append.mp hc with z | z
    · exact post_at h.2 c z
    · rw [List.mem_singleton.mp z]; exact h
  | .two p o e f, h, c, hc => by
    rcases List.mem_append.mp hc with z | z
    · exact post_at h.2.1 c z
    · rcases List.mem_append.mp z with y | y
      · exact post_at h.2.2 c y
      · rw [List.mem_singleton.mp y]; exact h
def crefs (l : List CT) : List V := l.map fun c => V.ref c.ad
theorem crefs_len (l : List CT) : (crefs l).length = l.length := by unfold crefs; rw [List.length_map]
theorem crefs_append (l m : List CT) : crefs (l ++ m) = crefs l ++ crefs m := by unfold crefs; rw [List.map_append]
theorem crefs_of {ps : List CT} {i : Nat} {v : V} (h : (crefs ps)[i]? = some v) : ∃ x, ps[i]? = some x ∧ v = .ref x.ad := by
  unfold crefs at h
  rw [List.getElem?_map] at h
  cases e : ps[i]? with
  | none => rw [e] at h; cases h
  | some x => rw [e] at h; exact ⟨x, rfl, (Option.some.inj h).symm⟩
def szs (l : List CT) : Nat := (l.map CT.size).sum
theorem szs_len : ∀ l : List CT, l.length ≤ szs l
  | [] => Nat.zero_le _
  | c :: r => by
    have h := szs_len r
    have h1 := size_pos c
    unfold szs at h ⊢
    rw [List.map_cons, List.sum_cons, List.length_cons]
    omega
theorem szs_cons (c : CT) (r : List CT) : szs (c :: r) = c.size + szs r := by unfold szs; rw [List.map_cons, List.sum_cons]
def Atom.word : Atom → Str
  | .cmp a _ _ => cmpW a
  | .grp _ => "group"
  | .key _ => "key"
  | .all => "all"
def CT.word : CT → Str
  | .leaf _ a => a.word
  | .neg _ _ => "not"
  | .two _ o _ _ => twoW o
def CT.vs : CT → List V
  | .leaf _ a => a.vs
  | .neg _ c => [.str "not", .ref c.ad]
  | .two _ o c d => [.str (twoW o), .ref c.ad, .ref d.ad]
theorem CT.At.tup {H : Hp} : ∀ {t : CT}, t.At H → H t.ad = some (.tup t.vs)
  | .leaf _ _, h => h.1
  | .neg _ _, h => h.1
  | .two _ _ _ _, h => h.1
theorem Atom.at0 : ∀ a : Atom, atI a.vs 0 = some (.str a.word)
  | .cmp _ _ _ => rfl
  | .grp _ => rfl
  | .key _ => rfl
  | .all => rfl
theorem CT.at0 : ∀ t : CT, atI t.vs 0 = some (.str t.word)
  | .leaf _ a => a.at0
  | .neg _ _ => rfl
  | .two _ _ _ _ => rfl
theorem CT.At.ix0 {K : PySem.W.Frag} {H : Hp} {Q : VK} {t : CT} (h : t.At H) (q : Q (.str t.word) H) : rIxT K (.ref t.ad) (.int 0) H Q := Z.ixT (tupT h.tup) t.at0 q
def parts3 : List Str := ["not", "and", "or"]
def parts2 : List Str := ["and", "or"]
theorem leaf_no3 (a : Atom) : ¬ a.word ∈ parts3 := by
  cases a with
  | cmp a s n => cases a with
    | true => show ¬ (cmpW true ∈ parts3); decide +kernel
    | false => show ¬ (cmpW false ∈ parts3); decide +kernel
  | grp s => show ¬ (("group" : Str) ∈ parts3); decide +kernel
  | key s => show ¬ (("key" : Str) ∈ parts3); decide +kernel
  | all => show ¬ (("all" : Str) ∈ parts3); decide +kernel
theorem neg_in3 : ("not" : Str) ∈ parts3 := by decide +kernel
theorem two_in3 (o : Bool) : twoW o ∈ parts3 := by cases o <;> decide +kernel
/-! ### samphire.conditions -/
def spParts (K : PySem.W.Frag) : Sp := fun vs H Q _ => ∃ t : CT, vs = [.ref t.ad] ∧ t.At H ∧ t.size ≤ 1000 ∧ ∀ H' l, H l = none → Kp [] H H' → H' l = some (.lst (crefs t.post)) → Q (.ref l) H'
theorem ok_parts_first {P : Program} {w : World} {K : PySem.W.Frag} {mg : Str → Option Value} {base : Heap} (T : T P K mg) : FnOk P w K mg base CX0 1 T.a_parts_first T.fd_parts_first ["condition"] (spParts K) := by
  refine T.F_parts_first.ok sc_parts_first (fun vs H Q E h => ?_) (fun cdv A outer s H vs Q E hr h => ?_)
  · obtain ⟨t, rfl, _⟩ := h
    rfl
  · obtain ⟨t, rfl, ht, hz, q⟩ := h
    refine ⟨_, (pss_cons (ps_set (i := 1) sc_parts_first.nd rfl (by first | exact Or.inl rfl | exact Or.inr rfl) (pe_lst pa_nil))
      (pss_cons (ps_set (i := 2) sc_parts_first.nd rfl (by first | exact Or.inl rfl | exact Or.inr rfl) (pe_lst (pa_cons (pv 0) pa_nil)))
      (pss_cons (ps_while PassesOwn.never (pt_truth (pv 2) (by intro _; rfl)) (pss_cons (ps_set (i := 3) sc_parts_first.nd rfl (by first | exact Or.inl rfl | exact Or.inr rfl) (pe_bm0 PySem.F.plainAttrs_list PySem.F.slot_list_pop PySem.F.type_list_pop mt_pop (pv 2)))
      (pss_cons (ps_expr (pe_bm PySem.F.plainAttrs_list PySem.F.slot_list_append PySem.F.type_list_append mt_append (pv 1) (pa_cons (pv 3) pa_nil)))
      (pss_one (ps_if (pt_cmpR op_in_seq (pe_ix ix_tup (pv 3) pe_int (fun _ _ => rfl)) (pe_tup (pa_cons pe_str (pa_cons pe_str (pa_cons pe_str pa_nil)))) rfl) (pss_one (ps_expr (pe_bm PySem.F.plainAttrs_list PySem.F.slot_list_extend PySem.F.type_list_extend RL.mt_extendT (pv 2) (pa_cons (pe_slice sl_tup (pv 3) (po_some pe_int) po_none) pa_nil)))) pss_nil)))))
      (pss_one (ps_ret (pe_revL (pv 1))))))), ?_⟩
    walk_at "z0"
    walk_at "z"
    refine Z.lstK (fun F H1 nF k1 e1 => ?_)
    walk_at "z"
    refine Z.lstK (fun L H2 nL k2 e2 => ?_)
    have e2F := k2.get nin0 e1
    have nFL : F ≠ L := ne_of_none e1 nL
    have nL0 : H L = none := k1.none nin0 nL
    walk_at "z"
    refine Z.wh (fun m σ' H' => ∃ y3, ∃ (fs st : List CT), σ' = [some (.ref t.ad), some (.ref F), some (.ref L), y3] ∧ Kp [] H H' ∧ H' F = some (.lst (crefs fs)) ∧ H' L = some (.lst (crefs st.reverse)) ∧ (∀ c ∈ st, c.At H) ∧ t.pre = fs ++ st.flatMap CT.pre ∧ m = szs st ∧ fs.length + m = t.size) t.size ⟨_, [], [t], rfl, k1.trans k2, e2F, e2, by simpa using ht, by simp, by simp [szs], by simp⟩ ?_
    rintro m σ' H3 ⟨y3, fs, st, rfl, k3, e3F, e3L, hst, hpre, rfl, hsum⟩
    walk_at "z"
    refine Z.truL e3L ?_
    have hlen := szs_len st
    cases st with
    | nil =>
      rw [show (crefs ([] : List CT).reverse).isEmpty = true from rfl]
      walk_at "z"
      refine Z.lrk (lstL e3F) (fun p H4 np k4 e4 => ?_)
      refine q H4 p (k3.none nin0 np) (k3.trans k4) ?_
      rw [List.flatMap_nil, List.append_nil] at hpre
      rw [e4, ← post_pre, hpre]
      unfold crefs
      rw [List.map_reverse]
    | cons x rest =>
      have hx : x.At H := hst x (by simp)
      have hne : (crefs (x :: rest).reverse).isEmpty = false := by
        unfold crefs
        rw [List.isEmpty_map, List.isEmpty_eq_false_iff]
        simp
      rw [hne]
      walk_at "z"
      refine Z.whb ?_
      walk_at "z"
      refine ⟨Z.tyL e3L, ?_⟩
      rw [List.reverse_cons, crefs_append] at e3L
      refine Z.popS (y := .ref x.ad) e3L ?_
      have k4 : Kp [L] H3 (upd H3 L (.lst (crefs rest.reverse))) := Kp.put (by simp)
      have e4L : (upd H3 L (.lst (crefs rest.reverse))) L = some (.lst (crefs rest.reverse)) := upd_same
      revert k4 e4L
      generalize upd H3 L (.lst (crefs rest.reverse)) = H4
      intro k4 e4L
      have e4F := k4.get (nin1 nFL) e3F
      rw [szs_cons] at hsum
      rw [List.length_cons, szs_cons] at hlen
      walk_at "z"
      refine ⟨Z.tyL e4F, ?_⟩
      walk_at "z"
      refine Z.app e4F (Z.szl (m := 1000) (by rw [crefs_len]; omega)) ?_
      have k5 : Kp [F] H4 (upd H4 F (.lst (crefs fs ++ [.ref x.ad]))) := Kp.put (by simp)
      have e5F : (upd H4 F (.lst (crefs fs ++ [.ref x.ad]))) F = some (.lst (crefs fs ++ [.ref x.ad])) := upd_same
      revert k5 e5F
      generalize upd H4 F (.lst (crefs fs ++ [.ref x.ad])) = H5
      intro k5 e5F
      have e5L := k5.get (nin1 nFL.symm) e4L
      have k05 : Kp [] H H5 := (k3.then1 k4 nL0).then1 k5 nF
      have e5F' : H5 F = some (.lst (crefs (fs ++ [x]))) := by rw [crefs_append]; exact e5F
      have hx5 : x.At H5 := hx.kp0 k05
      have hpre' : t.pre = (fs ++ [x]) ++ (x.pre.tail ++ rest.flatMap CT.pre) := by
        rw [hpre, List.flatMap_cons, List.append_assoc]
        cases x <;> rfl
      walk_at "z"
      refine hx5.ix0 ?_
      walk_at "z"
      refine Z.tupK (fun c3 H6 nc k6 e6 => ?_)
      refine Z.inq (xs := parts3.map V.str) (.inr (tupT e6)) rfl Z.strs_flat ?_
      rw [Z.inV_strs]
      walk_at "z"
      have e6F := k6.get nin0 e5F'
      have e6L := k6.get nin0 e5L
      have k06 := k05.trans k6
      have hx6 := hx5.kp0 k6
      cases x with
      | leaf p a =>
        refine Z.no (leaf_no3 a) ?_
        walk_at "z"
        refine ⟨szs rest, by rw [szs_cons, CT.size]; omega, _, fs ++ [.leaf p a], rest, rfl, k06, e6F, e6L, fun c hc => hst c (by simp [hc]), hpre', rfl, ?_⟩
        rw [CT.size] at hsum
        rw [List.length_append, List.length_singleton]
        omega
      | neg p c =>
        rw [CT.size] at hsum hlen
        refine Z.yes neg_in3 ?_
        walk_at "z"
        refine ⟨Z.tyL e6L, ?_⟩
        walk_at "z"
        refine Z.slT (k := 1) (tupT hx6.tup) (by decide) (by simp [CT.vs]) (fun d H7 nd k7 e7 => ?_)
        have e7L := k7.get nin0 e6L
        walk_at "z"
        refine Z.extT e7L e7 (by rw [crefs_len, List.length_reverse]; simp [CT.vs]; omega) ?_
        walk_at "z"
        refine ⟨szs (c :: rest), by rw [szs_cons, szs_cons, CT.size]; omega, _, fs ++ [.neg p c], c :: rest, rfl, (k06.trans k7).mut nL0 rfl, ?_, ?_, ?_, ?_, rfl, ?_⟩
        · rw [upd_ne nFL]; exact k7.get nin0 e6F
        · rw [upd_same, List.reverse_cons, crefs_append]; rfl
        · intro z hz
          rcases List.mem_cons.mp hz with rfl | hz
          · exact hx.2
          · exact hst z (by simp [hz])
        · rw [hpre', List.flatMap_cons]; rfl
        · rw [List.length_append, List.length_singleton, szs_cons]
          omega
      | two p o c d2 =>
        rw [CT.size] at hsum hlen
        refine Z.yes (two_in3 o) ?_
        walk_at "z"
        refine ⟨Z.tyL e6L, ?_⟩
        walk_at "z"
        refine Z.slT (k := 1) (tupT hx6.tup) (by decide) (by simp [CT.vs]) (fun d H7 nd k7 e7 => ?_)
        have e7L := k7.get nin0 e6L
        walk_at "z"
        refine Z.extT e7L e7 (by rw [crefs_len, List.length_reverse]; simp [CT.vs]; omega) ?_
        walk_at "z"
        refine ⟨szs (d2 :: c :: rest), by rw [szs_cons, szs_cons, szs_cons, CT.size]; omega, _, fs ++ [.two p o c d2], d2 :: c :: rest, rfl, (k06.trans k7).mut nL0 rfl, ?_, ?_, ?_, ?_, rfl, ?_⟩
        · rw [upd_ne nFL]; exact k7.get nin0 e6F
        · rw [upd_same, List.reverse_cons, List.reverse_cons, List.append_assoc, crefs_append]; rfl
        · intro z hz
          rcases List.mem_cons.mp hz with rfl | hz
          · exact hx.2.2
          · rcases List.mem_cons.mp hz with rfl | hz
            · exact hx.2.1
            · exact hst z (by simp [hz])
        · rw [hpre', List.flatMap_cons, List.flatMap_cons]
          show fs ++ [_] ++ ((d2.pre ++ c.pre) ++ _) = _
          rw [List.append_assoc d2.pre]
        · rw [List.length_append, List.length_singleton, szs_cons, szs_cons]
          omega
def spCompares : Sp := fun vs H Q _ => ∃ (x y : Int) (s : Str), vs = [.int x, .str s, .int y] ∧ Q (.bl (cmpB s x y)) H
theorem ok_compares {P : Program} {w : World} {K : PySem.W.Frag} {mg : Str → Option Value} {base : Heap} (T : T P K mg) : FnOk P w K mg base CX0 1 T.a_compares T.fd_compares ["number", "sign", "other"] spCompares := by
  refine T.F_compares.ok sc_compares (fun vs H Q E h => ?_) (fun cdv A outer s H vs Q E hr h => ?_)
  · obtain ⟨x, y, s, rfl, _⟩ := h
    rfl
  · obtain ⟨x, y, s, rfl, q⟩ := h
    refine ⟨_, (pss_cons (ps_if (pt_cmpR op_eq (pv 1) pe_str (nomark _)) (pss_one (ps_ret (pe_cmpR op_lt (pv 0) (pv 2) (nomark _)))) pss_nil)
      (pss_cons (ps_if (pt_cmpR op_eq (pv 1) pe_str (nomark _)) (pss_one (ps_ret (pe_cmpR op_le (pv 0) (pv 2) (nomark _)))) pss_nil)
      (pss_cons (ps_if (pt_cmpR op_eq (pv 1) pe_str (nomark _)) (pss_one (ps_ret (pe_cmpR op_eq (pv 0) (pv 2) (nomark _)))) pss_nil)
      (pss_cons (ps_if (pt_cmpR op_eq (pv 1) pe_str (nomark _)) (pss_one (ps_ret (pe_cmpR op_ge (pv 0) (pv 2) (nomark _)))) pss_nil)
      (pss_one (ps_ret (pe_cmpR op_gt (pv 0) (pv 2) (nomark _)))))))), ?_⟩
    unfold cmpB at q
    walk_at "z0"
    walk_at "z"
    refine Z.ite (fun h1 => ?_) (fun h1 => ?_)
    · rw [if_pos h1] at q
      walk_at "z"
      exact q
    · rw [if_neg h1] at q
      walk_at "z"
      refine Z.ite (fun h2 => ?_) (fun h2 => ?_)
      · rw [if_pos h2] at q
        walk_at "z"
        exact q
      · rw [if_neg h2] at q
        walk_at "z"
        refine Z.ite (fun h3 => ?_) (fun h3 => ?_)
        · rw [if_pos h3] at q
          walk_at "z"
          exact q
        · rw [if_neg h3] at q
          walk_at "z"
          refine Z.ite (fun h4 => ?_) (fun h4 => ?_)
          · rw [if_pos h4] at q
            walk_at "z"
            exact q
          · rw [if_neg h4] at q
            walk_at "z"
            exact q
def spAtom : Sp := fun vs H Q _ => ∃ (p i : Addr) (a : Atom) (r : Row), vs = [.ref p, .ref i] ∧ H p = some (.tup a.vs) ∧ RowAt H i r ∧ Q (.bl (a.holds r)) H
theorem ok_atom_holds {P : Program} {w : World} {K : PySem.W.Frag} {mg : Str → Option Value} {base : Heap} (T : T P K mg) : FnOk P w K mg base CX0 2 T.a_atom_holds T.fd_atom_holds ["atom", "item"] spAtom := by
  refine T.F_atom_holds.ok sc_atom_holds (fun vs H Q E h => ?_) (fun cdv A outer s H vs Q E hr h => ?_)
  · obtain ⟨p, i, a, r, rfl, _⟩ := h
    rfl
  · obtain ⟨p, i, a, r, rfl, hp, hi, q⟩ := h
    refine ⟨_, (pss_cons (ps_asg (pv 1) (pg_tup rfl (pgs_cons (pg_name (i := 2) sc_atom_holds.nd rfl (by first | exact Or.inl rfl | exact Or.inr rfl)) (pgs_cons (pg_name (i := 3) sc_atom_holds.nd rfl (by first | exact Or.inl rfl | exact Or.inr rfl)) (pgs_cons (pg_name (i := 4) sc_atom_holds.nd rfl (by first | exact Or.inl rfl | exact Or.inr rfl)) (pgs_cons (pg_name (i := 5) sc_atom_holds.nd rfl (by first | exact Or.inl rfl | exact Or.inr rfl)) pgs_nil))))))
      (pss_cons (ps_set (i := 6) sc_atom_holds.nd rfl (by first | exact Or.inl rfl | exact Or.inr rfl) (pe_ix ix_tup (pv 0) pe_int (fun _ _ => rfl)))
      (pss_cons (ps_if (pt_cmpR op_eq (pv 6) pe_str (nomark _)) (pss_one (ps_ret (pe_cmpR op_eq (pv 2) (pe_ix ix_tup (pv 0) pe_int (fun _ _ => rfl)) (nomark _)))) pss_nil)
      (pss_cons (ps_if (pt_cmpR op_eq (pv 6) pe_str (nomark _)) (pss_one (ps_ret (pe_cmpR op_eq (pv 3) (pe_ix ix_tup (pv 0) pe_int (fun _ _ => rfl)) (nomark _)))) pss_nil)
      (pss_cons (ps_if (pt_cmpR op_eq (pv 6) pe_str (nomark _)) (pss_one (ps_ret (pe_call (ok_compares T) (hr.mono (by decide)) (by rfl) T.g_compares T.F_compares.kp T.b_compares .nil pass0 (pa_cons (pv 4) (pa_cons (pe_ix ix_tup (pv 0) pe_int (fun _ _ => rfl)) (pa_cons (pe_ix ix_tup (pv 0) pe_int (fun _ _ => rfl)) pa_nil)))))) pss_nil)
      (pss_cons (ps_if (pt_cmpR op_eq (pv 6) pe_str (nomark _)) (pss_one (ps_ret (pe_call (ok_compares T) (hr.mono (by decide)) (by rfl) T.g_compares T.F_compares.kp T.b_compares .nil pass0 (pa_cons (pv 5) (pa_cons (pe_ix ix_tup (pv 0) pe_int (fun _ _ => rfl)) (pa_cons (pe_ix ix_tup (pv 0) pe_int (fun _ _ => rfl)) pa_nil)))))) pss_nil)
      (pss_one (ps_ret pe_bl)))))))), ?_⟩
    walk_at "z0"
    walk_at "z"
    refine Z.gtup (tupT hi) rfl ?_
    dsimp only [Row.vs]
    walk_at "z"
    refine Z.ixT (tupT hp) a.at0 ?_
    walk_at "z"
    cases a with
    | cmp b s n =>
      cases b with
      | true =>
        dsimp only [Atom.word]
        refine Z.no (by decide +kernel) ?_
        walk_at "z"
        refine Z.no (by decide +kernel) ?_
        walk_at "z"
        refine Z.no (by decide +kernel) ?_
        walk_at "z"
        refine Z.yes (by decide +kernel) ?_
        walk_at "z"
        refine Z.ixT (v := .str s) (tupT hp) rfl ?_
        walk_at "z"
        refine Z.ixT (v := .int n) (tupT hp) rfl ?_
        exact ⟨_, _, _, rfl, q⟩
      | false =>
        dsimp only [Atom.word]
        refine Z.no (by decide +kernel) ?_
        walk_at "z"
        refine Z.no (by decide +kernel) ?_
        walk_at "z"
        refine Z.yes (by decide +kernel) ?_
        walk_at "z"
        refine Z.ixT (v := .str s) (tupT hp) rfl ?_
        walk_at "z"
        refine Z.ixT (v := .int n) (tupT hp) rfl ?_
        exact ⟨_, _, _, rfl, q⟩
    | grp s =>
      dsimp only [Atom.word]
      refine Z.no (by decide +kernel) ?_
      walk_at "z"
      refine Z.yes rfl ?_
      walk_at "z"
      refine Z.ixT (v := .str s) (tupT hp) rfl ?_
      walk_at "z"
      exact q
    | key s =>
      dsimp only [Atom.word]
      refine Z.yes rfl ?_
      walk_at "z"
      refine Z.ixT (v := .str s) (tupT hp) rfl ?_
      walk_at "z"
      exact q
    | all =>
      dsimp only [Atom.word]
      refine Z.no (by decide +kernel) ?_
      walk_at "z"
      refine Z.no (by decide +kernel) ?_
      walk_at "z"
      refine Z.no (by decide +kernel) ?_
      walk_at "z"
      refine Z.no (by decide +kernel) ?_
      walk_at "z"
      exact q
/-! a stack of bools, the top first -/
def CT.step (r : Row) : List Bool → CT → Option (List Bool)
  | st, .leaf _ a => some (a.holds r :: st)
  | b :: s, .neg _ _ => some ((!b) :: s)
  | b :: a :: s, .two _ o _ _ => some ((if o then a || b else a && b) :: s)
  | _, _ => none
def runs (r : Row) : List CT → List Bool → Option (List Bool)
  | [], st => some st
  | x :: l, st => match CT.step r st x with
    | none => none
    | some s => runs r l s
theorem runs_cons {r : Row} {x : CT} {l : List CT} {st : List Bool} : runs r (x :: l) st = match CT.step r st x with | none => none | some s => runs r l s := rfl
theorem runs_append {r : Row} : ∀ {l m : List CT} {st s : List Bool}, runs r l st = some s → runs r (l ++ m) st = runs r m s
  | [], _, _, _, h => by cases h; rfl
  | x :: l, m, st, s, h => by
    rw [runs_cons] at h
    rw [List.cons_append, runs_cons]
    cases e : CT.step r st x with
    | none => rw [e] at h; cases h
    | some z =>
      rw [e] at h
      exact runs_append (l := l) h
theorem runs_post {r : Row} : ∀ (t : CT) (st : List Bool), runs r t.post st = some (t.holds r :: st)
  | .leaf _ _, _ => rfl
  | .neg p c, st => by
    rw [CT.post, runs_append (runs_post c st)]; rfl
  | .two p o c d, st => by
    rw [CT.post, runs_append (runs_post c st), runs_append (runs_post d _)]
    cases o <;> rfl
theorem runs_take {r : Row} : ∀ {l : List CT} {st s : List Bool}, runs r l st = some s → ∀ i, ∃ z, runs r (l.take i) st = some z
  | _, st, _, _, 0 => ⟨st, by rw [List.take_zero]; rfl⟩
  | [], st, _, _, i + 1 => ⟨st, rfl⟩
  | x :: l, st, s, h, i + 1 => by
    rw [runs_cons] at h
    rw [List.take_succ_cons, runs_cons]
    cases e : CT.step r st x with
    | none => rw [e] at h; cases h
    | some z =>
      rw [e] at h
      exact runs_take (l := l) h i
theorem runs_step {r : Row} {l : List CT} {i : Nat} {x : CT} {st s z : List Bool} (h : l[i]? = some x) (h1 : runs r (l.take i) st = some s) (h2 : runs r (l.take (i + 1)) st = some z) : CT.step r s x = some z := by
  rw [List.take_add_one, h, runs_append h1] at h2
  change (match CT.step r s x with | none => none | some s => some s) = some z at h2
  cases e : CT.step r s x with
  | none => rw [e] at h2; cases h2
  | some y => rw [e] at h2; exact h2
def spLast (K : PySem.W.Frag) : Sp := fun vs H Q _ => ∃ (l p : Addr) (t : CT) (r : Row), vs = [.ref l, .ref p] ∧ H l = some (.lst (crefs t.post)) ∧ t.At H ∧ t.size ≤ 1000 ∧ RowAt H p r ∧ ∀ H', Kp [] H H' → Q (.bl (t.holds r)) H'
theorem leaf_no2 (a : Atom) : ¬ a.word ∈ parts2 := fun h => leaf_no3 a (by
  unfold parts3
  exact List.mem_cons_of_mem _ h)
theorem leaf_not (a : Atom) : ¬ a.word = "not" := fun h => leaf_no3 a (by rw [h]; exact neg_in3)
theorem bools_rev (b : Bool) (s : List Bool) : ((b :: s).reverse.map V.bl) = s.reverse.map V.bl ++ [.bl b] := by rw [List.reverse_cons, List.map_append]; rfl
theorem ok_last_holds {P : Program} {w : World} {K : PySem.W.Frag} {mg : Str → Option Value} {base : Heap} (T : T P K mg) : FnOk P w K mg base CX0 3 T.a_last_holds T.fd_last_holds ["conditions", "item"] (spLast K) := by
  refine T.F_last_holds.ok sc_last_holds (fun vs H Q E h => ?_) (fun cdv A outer s H vs Q E hr h => ?_)
  · obtain ⟨l, p, t, r, rfl, _⟩ := h
    rfl
  · obtain ⟨l, p, t, r, rfl, hl, ht, hz, hp, q⟩ := h
    refine ⟨_, (pss_cons (ps_set (i := 2) sc_last_holds.nd rfl (by first | exact Or.inl rfl | exact Or.inr rfl) (pe_lst pa_nil))
      (pss_cons (ps_for PassesOwn.never rfl (pi_list (pv 0)) (pg_name (i := 3) sc_last_holds.nd rfl (by first | exact Or.inl rfl | exact Or.inr rfl)) (pss_cons (ps_set (i := 4) sc_last_holds.nd rfl (by first | exact Or.inl rfl | exact Or.inr rfl) (pe_ix ix_tup (pv 3) pe_int (fun _ _ => rfl)))
      (pss_one (ps_if (pt_cmpR op_eq (pv 4) pe_str (nomark _)) (pss_one (ps_expr (pe_bm PySem.F.plainAttrs_list PySem.F.slot_list_append PySem.F.type_list_append mt_append (pv 2) (pa_cons (pe_not (pe_bm0 PySem.F.plainAttrs_list PySem.F.slot_list_pop PySem.F.type_list_pop mt_pop (pv 2))) pa_nil)))) (pss_one (ps_if (pt_cmpR op_in_seq (pv 4) (pe_tup (pa_cons pe_str (pa_cons pe_str pa_nil))) rfl) (pss_cons (ps_set (i := 5) sc_last_holds.nd rfl (by first | exact Or.inl rfl | exact Or.inr rfl) (pe_bm0 PySem.F.plainAttrs_list PySem.F.slot_list_pop PySem.F.type_list_pop mt_pop (pv 2)))
      (pss_cons (ps_set (i := 6) sc_last_holds.nd rfl (by first | exact Or.inl rfl | exact Or.inr rfl) (pe_bm0 PySem.F.plainAttrs_list PySem.F.slot_list_pop PySem.F.type_list_pop mt_pop (pv 2)))
      (pss_one (ps_if (pt_cmpR op_eq (pv 4) pe_str (nomark _)) (pss_one (ps_expr (pe_bm PySem.F.plainAttrs_list PySem.F.slot_list_append PySem.F.type_list_append mt_append (pv 2) (pa_cons (pe_and (pv 6) (pe_one (pv 5))) pa_nil)))) (pss_one (ps_expr (pe_bm PySem.F.plainAttrs_list PySem.F.slot_list_append PySem.F.type_list_append mt_append (pv 2) (pa_cons (pe_or (pv 6) (pe_one (pv 5))) pa_nil)))))))) (pss_one (ps_expr (pe_bm PySem.F.plainAttrs_list PySem.F.slot_list_append PySem.F.type_list_append mt_append (pv 2) (pa_cons (pe_call (ok_atom_holds T) (hr.mono (by decide)) (by rfl) T.g_atom_holds T.F_atom_holds.kp T.b_atom_holds .nil pass0 (pa_cons (pv 3) (pa_cons (pv 1) pa_nil))) pa_nil))))))))))
      (pss_one (ps_ret (pe_ix ix_list (pv 2) pe_int (fun _ _ => rfl)))))), ?_⟩
    walk_at "z0"
    walk_at "z"
    refine Z.lstK (fun R H1 nR k1 e1 => ?_)
    walk_at "z"
    have hrun := runs_post (r := r) t []
    refine Z.forl (crefs t.post) (lstL (k1.get nin0 hl)) (fun i σ' H' => ∃ y3 y4 y5 y6, ∃ st : List Bool, σ' = [some (.ref l), some (.ref p), some (.ref R), y3, y4, y5, y6] ∧ Kp [] H H' ∧ H' R = some (.lst (st.reverse.map V.bl)) ∧ st.length ≤ i ∧ runs r (t.post.take i) [] = some st) ⟨_, _, _, _, [], rfl, k1, e1, by simp, rfl⟩ ?_ ?_ ?_
    · rintro i σ' H' hi ⟨y3, y4, y5, y6, st, rfl, k2, e2, hsl, hst⟩
      exact lstL (k2.get nin0 hl)
    · rintro i v σ' H2 hv ⟨y3, y4, y5, y6, st, rfl, k2, e2, hsl, hst⟩
      obtain ⟨x, hx, rfl⟩ := crefs_of hv
      have hil : i < t.post.length := (List.getElem?_eq_some_iff.mp hx).1
      rw [post_len] at hil
      have hxa : x.At H2 := (post_at ht x (List.mem_of_getElem? hx)).kp0 k2
      obtain ⟨st', hst'⟩ := runs_take hrun (i + 1)
      have hstep := runs_step hx hst hst'
      walk_at "z"
      refine hxa.ix0 ?_
      walk_at "z"
      cases x with
      | leaf px a =>
        dsimp only [CT.word]
        refine Z.no (leaf_not a) ?_
        walk_at "z"
        refine Z.tupK (fun c2 H3 nc k3 e3 => ?_)
        refine Z.inq (xs := parts2.map V.str) (.inr (tupT e3)) rfl Z.strs_flat ?_
        rw [Z.inV_strs]
        have e3R := k3.get nin0 e2
        have k03 := k2.trans k3
        walk_at "z"
        refine Z.no (leaf_no2 a) ?_
        walk_at "z"
        refine ⟨Z.tyL e3R, ?_⟩
        walk_at "z"
        refine ⟨_, _, a, r, rfl, (hxa.kp0 k3).tup, k03.get nin0 hp, ?_⟩
        walk_at "z"
        refine Z.app e3R (Z.szl (m := 1000) (by rw [List.length_map, List.length_reverse]; omega)) ?_
        walk_at "z"
        cases hstep
        exact ⟨_, _, _, _, a.holds r :: st, rfl, k03.mut nR rfl, by rw [upd_same, bools_rev], by simp; omega, hst'⟩
      | neg px c =>
        dsimp only [CT.word]
        refine Z.yes rfl ?_
        walk_at "z"
        refine ⟨Z.tyL e2, ?_⟩
        walk_at "z"
        refine ⟨Z.tyL e2, ?_⟩
        cases st with
        | nil => cases hstep
        | cons b s =>
          cases hstep
          rw [bools_rev] at e2
          refine Z.popS (y := .bl b) e2 ?_
          walk_at "z"
          refine Z.app upd_same (Z.szl (m := 1000) (by rw [List.length_map, List.length_reverse]; rw [List.length_cons] at hsl; omega)) ?_
          rw [upd_upd]
          walk_at "z"
          exact ⟨_, _, _, _, (!b) :: s, rfl, k2.mut nR rfl, by rw [upd_same, bools_rev], by rw [List.length_cons] at hsl ⊢; omega, hst'⟩
      | two px o c d =>
        dsimp only [CT.word]
        refine Z.no (by cases o <;> decide +kernel) ?_
        walk_at "z"
        refine Z.tupK (fun c2 H3 nc k3 e3 => ?_)
        refine Z.inq (xs := parts2.map V.str) (.inr (tupT e3)) rfl Z.strs_flat ?_
        rw [Z.inV_strs]
        have e3R := k3.get nin0 e2
        have k03 := k2.trans k3
        walk_at "z"
        refine Z.yes (by cases o <;> decide +kernel) ?_
        walk_at "z"
        refine ⟨Z.tyL e3R, ?_⟩
        match st, hstep, hsl, e3R with
        | [], hstep, _, _ => cases hstep
        | [_], hstep, _, _ => cases hstep
        | b :: a :: s, hstep, hsl, e3R =>
          cases hstep
          rw [bools_rev] at e3R
          refine Z.popS (y := .bl b) e3R ?_
          walk_at "z"
          refine ⟨Z.tyL upd_same, ?_⟩
          have e4 : (upd H3 R (.lst ((a :: s).reverse.map V.bl))) R = some (.lst (s.reverse.map V.bl ++ [.bl a])) := by rw [upd_same, bools_rev]
          refine Z.popS (y := .bl a) e4 ?_
          rw [upd_upd]
          have hs10 : s.reverse.length ≤ 1000 := by
            rw [List.length_reverse]
            rw [List.length_cons, List.length_cons] at hsl
            omega
          walk_at "z"
          cases o with
          | true =>
            refine Z.no (by decide +kernel) ?_
            walk_at "z"
            refine ⟨Z.tyL upd_same, ?_⟩
            walk_at "z"
            cases a with
            | true =>
              walk_at "z"
              refine Z.app upd_same (Z.szl (m := 1000) (by rw [List.length_map]; exact hs10)) ?_
              rw [upd_upd]
              walk_at "z"
              exact ⟨_, _, _, _, _, rfl, k03.mut nR rfl, by rw [upd_same, bools_rev]; rfl, by rw [List.length_cons, List.length_cons] at hsl; rw [List.length_cons]; omega, hst'⟩
            | false =>
              walk_at "z"
              refine Z.app upd_same (Z.szl (m := 1000) (by rw [List.length_map]; exact hs10)) ?_
              rw [upd_upd]
              walk_at "z"
              exact ⟨_, _, _, _, _, rfl, k03.mut nR rfl, by rw [upd_same, bools_rev]; rfl, by rw [List.length_cons, List.length_cons] at hsl; rw [List.length_cons]; omega, hst'⟩
          | false =>
            refine Z.yes (by decide +kernel) ?_
            walk_at "z"
            refine ⟨Z.tyL upd_same, ?_⟩
            walk_at "z"
            cases a with
            | true =>
              walk_at "z"
              refine Z.app upd_same (Z.szl (m := 1000) (by rw [List.length_map]; exact hs10)) ?_
              rw [upd_upd]
              walk_at "z"
              exact ⟨_, _, _, _, _, rfl, k03.mut nR rfl, by rw [upd_same, bools_rev]; rfl, by rw [List.length_cons, List.length_cons] at hsl; rw [List.length_cons]; omega, hst'⟩
            | false =>
              walk_at "z"
              refine Z.app upd_same (Z.szl (m := 1000) (by rw [List.length_map]; exact hs10)) ?_
              rw [upd_upd]
              walk_at "z"
              exact ⟨_, _, _, _, _, rfl, k03.mut nR rfl, by rw [upd_same, bools_rev]; rfl, by rw [List.length_cons, List.length_cons] at hsl; rw [List.length_cons]; omega, hst'⟩
    · rintro σ' H2 ⟨y3, y4, y5, y6, st, rfl, k2, e2, hsl, hst⟩
      rw [crefs_len, List.take_length, hrun] at hst
      cases hst
      walk_at "z"
      refine Z.ixL (v := .bl (t.holds r)) (lstL e2) rfl ?_
      exact q H2 k2
def spLHeld (K : PySem.W.Frag) : Sp := fun vs H Q _ => ∃ (t : CT) (p : Addr) (r : Row), vs = [.ref t.ad, .ref p] ∧ t.At H ∧ t.size ≤ 1000 ∧ RowAt H p r ∧ ∀ H', Kp [] H H' → Q (.bl (t.holds r)) H'

theorem ok_held {P : Program} {w : World} {K : PySem.W.Frag} {mg : Str → Option Value} {base : Heap} (T : T P K mg) : FnOk P w K mg base CX0 4 T.a_held T.fd_held ["condition", "item"] (spLHeld K) := by
  refine T.F_held.ok sc_held (fun vs H Q E h => ?_) (fun cdv A outer s H vs Q E hr h => ?_)
  · obtain ⟨t, p, r, rfl, _⟩ := h
    rfl
  · obtain ⟨t, p, r, rfl, ht, hz, hp, q⟩ := h
    refine ⟨_, (pss_one (ps_ret (pe_call (ok_last_holds T) (hr.mono (by decide)) (by rfl) T.g_last_holds T.F_last_holds.kp T.b_last_holds .nil pass0 (pa_cons (pe_call (ok_parts_first T) (hr.mono (by decide)) (by rfl) T.g_parts_first T.F_parts_first.kp T.b_parts_first .nil pass0 (pa_cons (pv 0) pa_nil)) (pa_cons (pv 1) pa_nil))))), ?_⟩
    walk_at "z0"
    walk_at "z"
    refine ⟨t, rfl, ht, hz, fun H1 l nl k1 e1 => ?_⟩
    walk_at "z"
    refine ⟨l, p, t, r, rfl, e1, ht.kp0 k1, hz, k1.get nin0 hp, fun H2 k2 => ?_⟩
    exact q H2 (k1.trans k2)
/-- the rows for which t holds -/
def keep (t : CT) (ps : List (Addr × Row)) : List (Addr × Row) := ps.filter fun x => t.holds x.2
theorem keep_succ {t : CT} {ps : List (Addr × Row)} {i : Nat} {x : Addr × Row} (h : ps[i]? = some x) : keep t (ps.take (i + 1)) = keep t (ps.take i) ++ if t.holds x.2 = true then [x] else [] := by
  unfold keep
  rw [List.take_add_one, h, List.filter_append]
  cases hp : t.holds x.2 <;> simp [hp]
theorem keep_len (t : CT) (ps : List (Addr × Row)) (i : Nat) : (keep t (ps.take i)).length ≤ ps.length := by
  unfold keep
  refine Nat.le_trans (List.length_filter_le _ _) ?_
  rw [List.length_take]
  omega
def spHeldItems (K : PySem.W.Frag) : Sp := fun vs H Q _ => ∃ (t : CT) (p : Addr) (ps : List (Addr × Row)), vs = [.ref t.ad, .ref p] ∧ t.At H ∧ t.size ≤ 1000 ∧ H p = some (.lst (refs ps)) ∧ RowsAt H ps ∧ ps.length ≤ 1000 ∧ ∀ H' d, H d = none → Kp [] H H' → H' d = some (.lst (refs (keep t ps))) → Q (.ref d) H'
theorem ok_held_items {P : Program} {w : World} {K : PySem.W.Frag} {mg : Str → Option Value} {base : Heap} (T : T P K mg) : FnOk P w K mg base CX0 4 T.a_held_items T.fd_held_items ["condition", "rows"] (spHeldItems K) := by
  refine T.F_held_items.ok sc_held_items (fun vs H Q E h => ?_) (fun cdv A outer s H vs Q E hr h => ?_)
  · obtain ⟨t, p, ps, rfl, _⟩ := h
    rfl
  · obtain ⟨t, p, ps, rfl, ht, hz, hp, hps, hl, q⟩ := h
    refine ⟨_, (pss_cons (ps_set (i := 2) sc_held_items.nd rfl (by first | exact Or.inl rfl | exact Or.inr rfl) (pe_call (ok_parts_first T) (hr.mono (by decide)) (by rfl) T.g_parts_first T.F_parts_first.kp T.b_parts_first .nil pass0 (pa_cons (pv 0) pa_nil)))
      (pss_one (ps_ret (pe_lc (own := [("item", 3)]) (g := gName 3) rfl sc_held_items.nd (pi_list (pv 1)) (blkOk_by (own := [("item", 3)]) (N := N_held_items) (sc := defScope s_held_items) (by decide +kernel)) (fun _ _ _ _ _ => (pg_name (i := 3) sc_held_items.nd rfl (by first | exact Or.inl rfl | exact Or.inr rfl))) (fun _ _ _ _ _ => (pts_one (pt_val (pe_call (ok_last_holds T) (hr.mono (by decide)) (by rfl) T.g_last_holds T.F_last_holds.kp T.b_last_holds .nil pass0 (pa_cons (pv 2) (pa_cons (pv 3) pa_nil)))))) (fun _ _ _ _ _ => (pv 3)))))), ?_⟩
    walk_at "z0"
    walk_at "z"
    refine ⟨t, rfl, ht, hz, fun H1 l nl k1 e1 => ?_⟩
    have hp1 := k1.get nin0 hp
    walk_at "z"
    refine Z.lcl (refs ps) (lstL hp1) (fun D i H' => Kp [] H1 H' ∧ H' D = some (.lst (refs (keep t (ps.take i))))) ?_ ?_ ?_ ?_
    · intro D H2 nD k2 e2
      exact ⟨k2, e2⟩
    · rintro D i H2 nD hi ⟨k2, e2⟩
      exact lstL (k2.get nin0 hp1)
    · rintro D i v H2 nD hv ⟨k2, e2⟩
      obtain ⟨x, hx, rfl⟩ := refs_of hv
      have hm := List.mem_of_getElem? hx
      have k02 := k1.trans k2
      dsimp only [wipe, List.set]
      walk_at "z"
      refine ⟨rfl, ?_⟩
      walk_at "z"
      refine ⟨l, x.1, t, x.2, rfl, k2.get nin0 e1, ht.kp0 k02, hz, (hps.kp0 k02) x hm, fun H3 k3 => ?_⟩
      have e3 := k3.get nin0 e2
      have hsucc := keep_succ (t := t) hx
      walk_at "z"
      cases hh : t.holds x.2 with
      | true =>
        rw [hh, if_pos rfl] at hsucc
        walk_at "z"
        refine ⟨_, e3, Z.szl (m := 1000) (by rw [refs_len]; exact Nat.le_trans (keep_len _ _ _) hl), (k2.trans k3).mut nD rfl, ?_⟩
        rw [upd_same, hsucc, refs_snoc]
      | false =>
        rw [hh, if_neg (by decide), List.append_nil] at hsucc
        walk_at "z"
        exact ⟨k2.trans k3, by rw [hsucc]; exact e3⟩
    · rintro D H2 nD ⟨k2, e2⟩
      rw [refs_len, List.take_length] at e2
      walk_at "z"
      exact q H2 D (k1.none nin0 nD) (k1.trans k2) e2
/-! ### the law's own reading -/
def spNumber (K : PySem.W.Frag) : Sp := fun vs H Q _ => ∃ a : Addr, vs = [.ref a] ∧ DrawsAt H a ∧ ∀ H' n, Kp [a] H H' → DrawsAt H' a → Q (.int n) H'
theorem ok__law_number {P : Program} {w : World} {K : PySem.W.Frag} {mg : Str → Option Value} {base : Heap} (T : T P K mg) : FnOk P w K mg base CX0 2 T.a__law_number T.fd__law_number ["draws"] (spNumber K) := by
  refine T.F__law_number.ok sc__law_number (fun vs H Q E h => ?_) (fun cdv A outer s H vs Q E hr h => ?_)
  · obtain ⟨a, rfl, _⟩ := h
    rfl
  · obtain ⟨a, rfl, hd, q⟩ := h
    refine ⟨_, (pss_one (ps_ret (pe_ix ix_list (pe_lst (pa_cons (pe_op op_sub (pe_call (ok__law_take T) (hr.mono (by decide)) (by rfl) T.g__law_take T.F__law_take.kp T.b__law_take .nil pass0 (pa_cons (pv 0) (pa_cons pe_int pa_nil))) pe_int) (pa_cons pe_int (pa_cons (pe_un un_neg pe_int) (pa_cons pe_int pa_nil))))) (pe_ix ix_list (pe_lst (pa_cons pe_int (pa_cons pe_int (pa_cons pe_int (pa_cons pe_int (pa_cons pe_int (pa_cons pe_int pa_nil))))))) (pe_call (ok__law_take T) (hr.mono (by decide)) (by rfl) T.g__law_take T.F__law_take.kp T.b__law_take .nil pass0 (pa_cons (pv 0) (pa_cons pe_int pa_nil))) (fun _ _ => rfl)) (fun _ _ => rfl)))), ?_⟩
    walk_at "z0"
    walk_at "z"
    refine ⟨a, 41, rfl, hd, by decide, by decide, fun H1 v hv0 hv1 k1 d1 => ?_⟩
    walk_at "z"
    refine Z.lstK (fun b H2 nb k2 e2 => ?_)
    walk_at "z"
    refine Z.lstK (fun b2 H3 nb2 k3 e3 => ?_)
    have d3 := (d1.kp0 k2).kp0 k3
    have nab : a ≠ b := d1.ne nb
    have nab2 : a ≠ b2 := (d1.kp0 k2).ne nb2
    walk_at "z"
    refine ⟨a, 6, rfl, d3, by decide, by decide, fun H4 u hu0 hu1 k4 d4 => ?_⟩
    obtain ⟨j, hj, ej⟩ := pickI [0, 0, 0, 1, 2, 3] hu0 hu1
    refine Z.ixL (lstL (k4.get (nin1 nab2.symm) e3)) ej ?_
    obtain ⟨n, en⟩ : ∃ n : Int, atI [V.int (v - 20), V.int 1000000, V.int (-1000000), V.int 0] j = some (.int n) := by
      simp only [List.mem_cons, List.not_mem_nil, or_false] at hj
      rcases hj with rfl | rfl | rfl | rfl | rfl | rfl <;> exact ⟨_, rfl⟩
    refine Z.ixL (lstL (k4.get (nin1 nab.symm) (k3.get nin0 e2))) en ?_
    exact q H4 n (k1.trans ((k2.trans k3).sub (by simp) |>.trans k4)) d4
def spCond (n : Nat) : Sp := fun vs H Q _ => ∃ (a : Addr) (m : Nat), vs = [.ref a, .int (m : Int)] ∧ m < n ∧ DrawsAt H a ∧ ∀ H' t, Kp [a] H H' → DrawsAt H' a → CT.At H' t → t.depth ≤ m → Q (.ref t.ad) H'
theorem cond_rec {P : Program} {w : World} {K : PySem.W.Frag} {mg : Str → Option Value} {base : Heap} (T : T P K mg) : ∀ n, FnOk P w K mg base CX0 (n + 4) T.a__law_condition T.fd__law_condition ["draws", "depth"] (spCond n)
  | 0 => ⟨fun _ _ _ _ h => by obtain ⟨_, _, _, h, _⟩ := h; omega, fun _ _ _ _ _ _ _ _ _ _ _ _ _ h => by obtain ⟨_, _, _, h, _⟩ := h; omega⟩
  | n + 1 => by
    have ih := cond_rec (w := w) (base := base) T n
    show FnOk P w K mg base CX0 (n + 4 + 1) _ _ _ _
    refine T.F__law_condition.ok sc__law_condition (fun vs H Q E h => ?_) (fun cdv A outer s H vs Q E hr h => ?_)
    · obtain ⟨a, m, rfl, _⟩ := h
      rfl
    · obtain ⟨a, m, rfl, hm, hd, q⟩ := h
      refine ⟨_, (pss_cons (ps_set (i := 2) sc__law_condition.nd rfl (by first | exact Or.inl rfl | exact Or.inr rfl) (pe_call (ok__law_take T) (hr.mono (by omega)) (by rfl) T.g__law_take T.F__law_take.kp T.b__law_take .nil pass0 (pa_cons (pv 0) (pa_cons pe_int pa_nil))))
      (pss_cons (ps_if (PW.pt (pw_or (pt_cmpR op_eq (pv 1) pe_int (nomark _)) (pw_or1 (pt_cmpR op_lt (pv 2) pe_int (nomark _))))) (pss_cons (ps_set (i := 2) sc__law_condition.nd rfl (by first | exact Or.inl rfl | exact Or.inr rfl) (pe_call (ok__law_take T) (hr.mono (by omega)) (by rfl) T.g__law_take T.F__law_take.kp T.b__law_take .nil pass0 (pa_cons (pv 0) (pa_cons pe_int pa_nil))))
      (pss_cons (ps_if (pt_cmpR op_lt (pv 2) pe_int (nomark _)) (pss_one (ps_ret (pe_tup (pa_cons (pe_ix ix_list (pe_lst (pa_cons pe_str (pa_cons pe_str pa_nil))) (pv 2) (fun _ _ => rfl)) (pa_cons (pe_ix ix_list (pe_lst (pa_cons pe_str (pa_cons pe_str (pa_cons pe_str (pa_cons pe_str (pa_cons pe_str pa_nil)))))) (pe_call (ok__law_take T) (hr.mono (by omega)) (by rfl) T.g__law_take T.F__law_take.kp T.b__law_take .nil pass0 (pa_cons (pv 0) (pa_cons pe_int pa_nil))) (fun _ _ => rfl)) (pa_cons (pe_call (ok__law_number T) (hr.mono (by omega)) (by rfl) T.g__law_number T.F__law_number.kp T.b__law_number .nil pass0 (pa_cons (pv 0) pa_nil)) pa_nil)))))) pss_nil)
      (pss_cons (ps_if (pt_cmpR op_eq (pv 2) pe_int (nomark _)) (pss_one (ps_ret (pe_tup (pa_cons pe_str (pa_cons (pe_ix ix_list (pe_lst (pa_cons pe_str (pa_cons pe_str (pa_cons pe_str (pa_cons pe_str pa_nil))))) (pe_call (ok__law_take T) (hr.mono (by omega)) (by rfl) T.g__law_take T.F__law_take.kp T.b__law_take .nil pass0 (pa_cons (pv 0) (pa_cons pe_int pa_nil))) (fun _ _ => rfl)) pa_nil))))) pss_nil)
      (pss_cons (ps_if (pt_cmpR op_eq (pv 2) pe_int (nomark _)) (pss_one (ps_ret (pe_tup (pa_cons pe_str (pa_cons (pe_call (ok__law_name T) (hr.mono (by omega)) (by rfl) T.g__law_name T.F__law_name.kp T.b__law_name .nil pass0 (pa_cons (pv 0) pa_nil)) pa_nil))))) pss_nil)
      (pss_one (ps_ret (pe_tup (pa_cons pe_str pa_nil)))))))) pss_nil)
      (pss_cons (ps_if (pt_cmpR op_eq (pv 2) pe_int (nomark _)) (pss_one (ps_ret (pe_tup (pa_cons pe_str (pa_cons (pe_call ih (hr.mono (by omega)) (by rfl) T.g__law_condition T.F__law_condition.kp T.b__law_condition .nil pass0 (pa_cons (pv 0) (pa_cons (pe_op op_sub (pv 1) pe_int) pa_nil))) pa_nil))))) pss_nil)
      (pss_cons (ps_set (i := 3) sc__law_condition.nd rfl (by first | exact Or.inl rfl | exact Or.inr rfl) (pe_call ih (hr.mono (by omega)) (by rfl) T.g__law_condition T.F__law_condition.kp T.b__law_condition .nil pass0 (pa_cons (pv 0) (pa_cons (pe_op op_sub (pv 1) pe_int) pa_nil))))
      (pss_one (ps_ret (pe_tup (pa_cons (pe_ix ix_list (pe_lst (pa_cons pe_str (pa_cons pe_str pa_nil))) (pe_op op_mod (pe_callTy c_int (by rfl) T.z_int (by decide +kernel) (pa_cons (pv 2) pa_nil)) pe_int) (fun _ _ => rfl)) (pa_cons (pv 3) (pa_cons (pe_call ih (hr.mono (by omega)) (by rfl) T.g__law_condition T.F__law_condition.kp T.b__law_condition .nil pass0 (pa_cons (pv 0) (pa_cons (pe_op op_sub (pv 1) pe_int) pa_nil))) pa_nil)))))))))), ?_⟩
      walk_at "z0"
      walk_at "z"
      refine ⟨a, 9, rfl, hd, by decide, by decide, fun H1 kd hk0 hk1 k1 d1 => ?_⟩
      walk_at "z"
      refine Z.ite (fun c0 => ?_) (fun c0 => ?_)
      · walk_at "z"
        refine ⟨a, 5, rfl, d1, by decide, by decide, fun H2 kd2 h20 h21 k2 d2 => ?_⟩
        have k02 := k1.trans k2
        walk_at "z"
        refine Z.ite (fun c1 => ?_) (fun c1 => ?_)
        · walk_at "z"
          refine Z.lstK (fun b H3 nb k3 e3 => ?_)
          have d3 := d2.kp0 k3
          walk_at "z"
          obtain ⟨bb, ebb⟩ : ∃ bb : Bool, atI [V.str "weight", V.str "amount"] kd2 = some (.str (cmpW bb)) := by
            have hk : kd2 = 0 ∨ kd2 = 1 := by omega
            rcases hk with rfl | rfl
            · exact ⟨false, rfl⟩
            · exact ⟨true, rfl⟩
          refine Z.ixL (lstL e3) ebb ?_
          walk_at "z"
          refine Z.lstK (fun b2 H4 nb2 k4 e4 => ?_)
          have d4 := d3.kp0 k4
          have nab2 : a ≠ b2 := d3.ne nb2
          walk_at "z"
          refine ⟨a, 5, rfl, d4, by decide, by decide, fun H5 v hv0 hv1 k5 d5 => ?_⟩
          obtain ⟨sg, hsg, esg⟩ := pickS signs5 hv0 hv1
          refine Z.ixL (lstL (k5.get (nin1 nab2.symm) e4)) esg ?_
          walk_at "z"
          refine ⟨a, rfl, d5, fun H6 n6 k6 d6 => ?_⟩
          walk_at "z"
          refine Z.tupK (fun p H7 np k7 e7 => ?_)
          exact q H7 (.leaf p (.cmp bb sg n6)) (k02.trans (((k3.trans k4).sub (by simp)).trans (k5.trans (k6.trans (k7.sub (by simp)))))) (d6.kp0 k7) ⟨e7, hsg⟩ (Nat.zero_le _)
        · walk_at "z"
          refine Z.ite (fun c2 => ?_) (fun c2 => ?_)
          · walk_at "z"
            refine Z.lstK (fun b H3 nb k3 e3 => ?_)
            have d3 := d2.kp0 k3
            have nab : a ≠ b := d2.ne nb
            walk_at "z"
            refine ⟨a, 4, rfl, d3, by decide, by decide, fun H4 v hv0 hv1 k4 d4 => ?_⟩
            obtain ⟨sg, hsg, esg⟩ := pickS ["red", "blue", "k", "and"] hv0 hv1
            refine Z.ixL (lstL (k4.get (nin1 nab.symm) e3)) esg ?_
            walk_at "z"
            refine Z.tupK (fun p H5 np k5 e5 => ?_)
            exact q H5 (.leaf p (.grp sg)) (k02.trans ((k3.sub (by simp)).trans (k4.trans (k5.sub (by simp))))) (d4.kp0 k5) ⟨e5, trivial⟩ (Nat.zero_le _)
          · walk_at "z"
            refine Z.ite (fun c3 => ?_) (fun c3 => ?_)
            · walk_at "z"
              refine ⟨a, rfl, d2, fun H3 sg hsg k3 d3 => ?_⟩
              walk_at "z"
              refine Z.tupK (fun p H4 np k4 e4 => ?_)
              exact q H4 (.leaf p (.key sg)) (k02.trans (k3.trans (k4.sub (by simp)))) (d3.kp0 k4) ⟨e4, trivial⟩ (Nat.zero_le _)
            · walk_at "z"
              refine Z.tupK (fun p H4 np k4 e4 => ?_)
              exact q H4 (.leaf p .all) (k02.trans (k4.sub (by simp))) (d2.kp0 k4) ⟨e4, trivial⟩ (Nat.zero_le _)
      · walk_at "z"
        refine Z.ite (fun c4 => ?_) (fun c4 => ?_)
        · walk_at "z"
          refine ⟨a, 5, rfl, d1, by decide, by decide, fun H2 kd2 h20 h21 k2 d2 => ?_⟩
          have k02 := k1.trans k2
          walk_at "z"
          refine Z.ite (fun c1 => ?_) (fun c1 => ?_)
          · walk_at "z"
            refine Z.lstK (fun b H3 nb k3 e3 => ?_)
            have d3 := d2.kp0 k3
            walk_at "z"
            obtain ⟨bb, ebb⟩ : ∃ bb : Bool, atI [V.str "weight", V.str "amount"] kd2 = some (.str (cmpW bb)) := by
              have hk : kd2 = 0 ∨ kd2 = 1 := by omega
              rcases hk with rfl | rfl
              · exact ⟨false, rfl⟩
              · exact ⟨true, rfl⟩
            refine Z.ixL (lstL e3) ebb ?_
            walk_at "z"
            refine Z.lstK (fun b2 H4 nb2 k4 e4 => ?_)
            have d4 := d3.kp0 k4
            have nab2 : a ≠ b2 := d3.ne nb2
            walk_at "z"
            refine ⟨a, 5, rfl, d4, by decide, by decide, fun H5 v hv0 hv1 k5 d5 => ?_⟩
            obtain ⟨sg, hsg, esg⟩ := pickS signs5 hv0 hv1
            refine Z.ixL (lstL (k5.get (nin1 nab2.symm) e4)) esg ?_
            walk_at "z"
            refine ⟨a, rfl, d5, fun H6 n6 k6 d6 => ?_⟩
            walk_at "z"
            refine Z.tupK (fun p H7 np k7 e7 => ?_)
            exact q H7 (.leaf p (.cmp bb sg n6)) (k02.trans (((k3.trans k4).sub (by simp)).trans (k5.trans (k6.trans (k7.sub (by simp)))))) (d6.kp0 k7) ⟨e7, hsg⟩ (Nat.zero_le _)
          · walk_at "z"
            refine Z.ite (fun c2 => ?_) (fun c2 => ?_)
            · walk_at "z"
              refine Z.lstK (fun b H3 nb k3 e3 => ?_)
              have d3 := d2.kp0 k3
              have nab : a ≠ b := d2.ne nb
              walk_at "z"
              refine ⟨a, 4, rfl, d3, by decide, by decide, fun H4 v hv0 hv1 k4 d4 => ?_⟩
              obtain ⟨sg, hsg, esg⟩ := pickS ["red", "blue", "k", "and"] hv0 hv1
              refine Z.ixL (lstL (k4.get (nin1 nab.symm) e3)) esg ?_
              walk_at "z"
              refine Z.tupK (fun p H5 np k5 e5 => ?_)
              exact q H5 (.leaf p (.grp sg)) (k02.trans ((k3.sub (by simp)).trans (k4.trans (k5.sub (by simp))))) (d4.kp0 k5) ⟨e5, trivial⟩ (Nat.zero_le _)
            · walk_at "z"
              refine Z.ite (fun c3 => ?_) (fun c3 => ?_)
              · walk_at "z"
                refine ⟨a, rfl, d2, fun H3 sg hsg k3 d3 => ?_⟩
                walk_at "z"
                refine Z.tupK (fun p H4 np k4 e4 => ?_)
                exact q H4 (.leaf p (.key sg)) (k02.trans (k3.trans (k4.sub (by simp)))) (d3.kp0 k4) ⟨e4, trivial⟩ (Nat.zero_le _)
              · walk_at "z"
                refine Z.tupK (fun p H4 np k4 e4 => ?_)
                exact q H4 (.leaf p .all) (k02.trans (k4.sub (by simp))) (d2.kp0 k4) ⟨e4, trivial⟩ (Nat.zero_le _)
        · walk_at "z"
          have em : ((m : Int) - 1) = ((m - 1 : Nat) : Int) := by omega
          refine Z.ite (fun c5 => ?_) (fun c5 => ?_)
          · walk_at "z"
            rw [em]
            refine ⟨a, m - 1, rfl, by omega, d1, fun H2 t k2 d2 ht hdep => ?_⟩
            walk_at "z"
            refine Z.tupK (fun p H3 np k3 e3 => ?_)
            exact q H3 (.neg p t) (k1.trans (k2.trans (k3.sub (by simp)))) (d2.kp0 k3) ⟨e3, ht.kp0 k3⟩ (by rw [CT.depth]; omega)
          · walk_at "z"
            rw [em]
            refine ⟨a, m - 1, rfl, by omega, d1, fun H2 t k2 d2 ht hdep => ?_⟩
            walk_at "z"
            refine Z.lstK (fun b H3 nb k3 e3 => ?_)
            have d3 := d2.kp0 k3
            walk_at "z"
            refine Z.iC (by decide) ?_
            obtain ⟨o, eo⟩ : ∃ o : Bool, atI [V.str "and", V.str "or"] (kd % 2) = some (.str (twoW o)) := by
              have hk : kd % 2 = 0 ∨ kd % 2 = 1 := by omega
              rcases hk with h | h
              · exact ⟨false, by rw [h]; rfl⟩
              · exact ⟨true, by rw [h]; rfl⟩
            refine Z.ixL (lstL e3) eo ?_
            walk_at "z"
            rw [em]
            refine ⟨a, m - 1, rfl, by omega, d3, fun H4 t2 k4 d4 ht2 hdep2 => ?_⟩
            walk_at "z"
            refine Z.tupK (fun p H5 np k5 e5 => ?_)
            exact q H5 (.two p o t t2) (k1.trans (k2.trans ((k3.sub (by simp)).trans (k4.trans (k5.sub (by simp)))))) (d4.kp0 k5) ⟨e5, ((ht.kp0 k3).kpd k4 d3).kp0 k5, ht2.kp0 k5⟩ (by rw [CT.depth]; omega)
theorem ok__law_condition {P : Program} {w : World} {K : PySem.W.Frag} {mg : Str → Option Value} {base : Heap} (T : T P K mg) : FnOk P w K mg base CX0 9 T.a__law_condition T.fd__law_condition ["draws", "depth"] (spCond 5) := cond_rec T 5
/-! when a condition holds -/
theorem idxS {K : PySem.W.Frag} {H : Hp} {Q : VK} {a : Addr} {l : List Str} {s : Str} (j : Nat) (hS : SqL K H a (l.map V.str)) (hj : l[j]? = some s) (hno : ∀ x ∈ l.take j, ¬ x = s) (q : Q (.int (j : Nat)) H) : rIndex K (.ref a) [.str s] H Q :=
  Z.idx j hS rfl Z.strs_flat (z := .str s) (by rw [List.getElem?_map, hj]; rfl) (by show (s == s) = true; simp) (fun m z' hm hz => by
    rw [List.getElem?_map] at hz
    cases e : l[m]? with
    | none => rw [e] at hz; cases hz
    | some x =>
      rw [e] at hz
      cases hz
      have hx : x ∈ l.take j := List.mem_of_getElem? (i := m) (by rw [List.getElem?_take, if_pos hm, e])
      show (x == s) = false
      exact beq_false_of_ne (hno x hx)) q
def kg2 : List Str := ["key", "group"]
def wa2 : List Str := ["weight", "amount"]
def sgn (x n : Int) : Int := (if decide (n < x) = true then 1 else 0) - (if decide (x < n) = true then 1 else 0)
theorem sgn_lt (x n : Int) : inV (.int (sgn x n)) [.int (-1)] = cmpB "<" x n := by
  unfold cmpB
  rw [if_pos rfl]
  by_cases h1 : x < n <;> by_cases h2 : n < x <;> simp [sgn, inV, eqV, h1, h2] <;> omega
theorem sgn_le (x n : Int) : inV (.int (sgn x n)) [.int (-1), .int 0] = cmpB "<=" x n := by
  unfold cmpB
  rw [if_neg (by decide +kernel), if_pos rfl]
  by_cases h1 : x < n <;> by_cases h2 : n < x <;> simp [sgn, inV, eqV, h1, h2] <;> omega
theorem sgn_eq (x n : Int) : inV (.int (sgn x n)) [.int 0] = cmpB "=" x n := by
  unfold cmpB
  rw [if_neg (by decide +kernel), if_neg (by decide +kernel), if_pos rfl]
  by_cases h1 : x < n <;> by_cases h2 : n < x <;> simp [sgn, inV, eqV, h1, h2] <;> omega
theorem sgn_ge (x n : Int) : inV (.int (sgn x n)) [.int 0, .int 1] = cmpB ">=" x n := by
  unfold cmpB
  rw [if_neg (by decide +kernel), if_neg (by decide +kernel), if_neg (by decide +kernel), if_pos rfl]
  by_cases h1 : x < n <;> by_cases h2 : n < x <;> simp [sgn, inV, eqV, h1, h2] <;> omega
theorem sgn_gt (x n : Int) : inV (.int (sgn x n)) [.int 1] = cmpB ">" x n := by
  unfold cmpB
  rw [if_neg (by decide +kernel), if_neg (by decide +kernel), if_neg (by decide +kernel), if_neg (by decide +kernel)]
  by_cases h1 : x < n <;> by_cases h2 : n < x <;> simp [sgn, inV, eqV, h1, h2] <;> omega

def spLH (n : Nat) : Sp := fun vs H Q _ => ∃ (t : CT) (p : Addr) (r : Row), vs = [.ref t.ad, .ref p] ∧ t.At H ∧ t.depth < n ∧ RowAt H p r ∧ ∀ H', Kp [] H H' → Q (.bl (t.holds r)) H'
theorem held_rec {P : Program} {w : World} {K : PySem.W.Frag} {mg : Str → Option Value} {base : Heap} (T : T P K mg) : ∀ n, FnOk P w K mg base CX0 (n + 1) T.a__law_held T.fd__law_held ["condition", "item"] (spLH n)
  | 0 => ⟨fun _ _ _ _ h => by obtain ⟨_, _, _, _, _, h, _⟩ := h; omega, fun _ _ _ _ _ _ _ _ _ _ _ _ _ h => by obtain ⟨_, _, _, _, _, h, _⟩ := h; omega⟩
  | n + 1 => by
    have ih := held_rec (w := w) (base := base) T n
    refine T.F__law_held.ok sc__law_held (fun vs H Q E h => ?_) (fun cdv A outer s H vs Q E hr h => ?_)
    · obtain ⟨t, p, r, rfl, _⟩ := h
      rfl
    · obtain ⟨t, p, r, rfl, ht, hdep, hp, q⟩ := h
      refine ⟨_, (pss_cons (ps_set (i := 2) sc__law_held.nd rfl (by first | exact Or.inl rfl | exact Or.inr rfl) (pe_ix ix_tup (pv 0) pe_int (fun _ _ => rfl)))
      (pss_cons (ps_if (pt_cmpR op_eq (pv 2) pe_str (nomark _)) (pss_one (ps_ret pe_bl)) pss_nil)
      (pss_cons (ps_if (pt_cmpR op_in_seq (pv 2) (pe_lst (pa_cons pe_str (pa_cons pe_str pa_nil))) rfl) (pss_one (ps_ret (pe_cmpR op_eq (pe_ix ix_tup (pv 1) (pe_bm PySem.F.plainAttrs_list PySem.F.slot_list_index PySem.F.type_list_index mt_index (pe_lst (pa_cons pe_str (pa_cons pe_str pa_nil))) (pa_cons (pv 2) pa_nil)) (fun _ _ => rfl)) (pe_ix ix_tup (pv 0) pe_int (fun _ _ => rfl)) (nomark _)))) pss_nil)
      (pss_cons (ps_if (pt_cmpR op_in_seq (pv 2) (pe_lst (pa_cons pe_str (pa_cons pe_str pa_nil))) rfl) (pss_cons (ps_set (i := 3) sc__law_held.nd rfl (by first | exact Or.inl rfl | exact Or.inr rfl) (pe_ix ix_tup (pv 1) (pe_op op_add pe_int (pe_bm PySem.F.plainAttrs_list PySem.F.slot_list_index PySem.F.type_list_index mt_index (pe_lst (pa_cons pe_str (pa_cons pe_str pa_nil))) (pa_cons (pv 2) pa_nil))) (fun _ _ => rfl)))
      (pss_cons (ps_set (i := 4) sc__law_held.nd rfl (by first | exact Or.inl rfl | exact Or.inr rfl) (pe_op op_sub (pe_callTy c_int (by rfl) T.z_int (by decide +kernel) (pa_cons (pe_cmpR op_gt (pv 3) (pe_ix ix_tup (pv 0) pe_int (fun _ _ => rfl)) (nomark _)) pa_nil)) (pe_callTy c_int (by rfl) T.z_int (by decide +kernel) (pa_cons (pe_cmpR op_lt (pv 3) (pe_ix ix_tup (pv 0) pe_int (fun _ _ => rfl)) (nomark _)) pa_nil))))
      (pss_one (ps_ret (pe_cmpR op_in_seq (pv 4) (pe_ix ix_list (pe_lst (pa_cons (pe_lst (pa_cons (pe_un un_neg pe_int) pa_nil)) (pa_cons (pe_lst (pa_cons (pe_un un_neg pe_int) (pa_cons pe_int pa_nil))) (pa_cons (pe_lst (pa_cons pe_int pa_nil)) (pa_cons (pe_lst (pa_cons pe_int (pa_cons pe_int pa_nil))) (pa_cons (pe_lst (pa_cons pe_int pa_nil)) pa_nil)))))) (pe_bm PySem.F.plainAttrs_list PySem.F.slot_list_index PySem.F.type_list_index mt_index (pe_lst (pa_cons pe_str (pa_cons pe_str (pa_cons pe_str (pa_cons pe_str (pa_cons pe_str pa_nil)))))) (pa_cons (pe_ix ix_tup (pv 0) pe_int (fun _ _ => rfl)) pa_nil)) (fun _ _ => rfl)) rfl))))) pss_nil)
      (pss_cons (ps_if (pt_cmpR op_eq (pv 2) pe_str (nomark _)) (pss_one (ps_ret (pe_not (pe_call ih (hr.mono (by omega)) (by rfl) T.g__law_held T.F__law_held.kp T.b__law_held .nil pass0 (pa_cons (pe_ix ix_tup (pv 0) pe_int (fun _ _ => rfl)) (pa_cons (pv 1) pa_nil)))))) pss_nil)
      (pss_cons (ps_set (i := 5) sc__law_held.nd rfl (by first | exact Or.inl rfl | exact Or.inr rfl) (pe_call ih (hr.mono (by omega)) (by rfl) T.g__law_held T.F__law_held.kp T.b__law_held .nil pass0 (pa_cons (pe_ix ix_tup (pv 0) pe_int (fun _ _ => rfl)) (pa_cons (pv 1) pa_nil))))
      (pss_cons (ps_set (i := 6) sc__law_held.nd rfl (by first | exact Or.inl rfl | exact Or.inr rfl) (pe_call ih (hr.mono (by omega)) (by rfl) T.g__law_held T.F__law_held.kp T.b__law_held .nil pass0 (pa_cons (pe_ix ix_tup (pv 0) pe_int (fun _ _ => rfl)) (pa_cons (pv 1) pa_nil))))
      (pss_cons (ps_if (pt_cmpR op_eq (pv 2) pe_str (nomark _)) (pss_one (ps_ret (pe_and (pv 5) (pe_one (pv 6))))) pss_nil)
      (pss_one (ps_ret (pe_or (pv 5) (pe_one (pv 6))))))))))))), ?_⟩
      walk_at "z0"
      walk_at "z"
      refine ht.ix0 ?_
      walk_at "z"
      cases t with
      | leaf pt a =>
        cases a with
        | cmp b s2 n2 =>
          cases b with
          | true =>
            dsimp only [CT.word, Atom.word]
            refine Z.no (by decide +kernel) ?_
            walk_at "z"
            refine Z.lstK (fun b1 H1 nb1 k1 e1 => ?_)
            refine Z.inq (xs := kg2.map V.str) (.inl (lstL e1)) rfl Z.strs_flat ?_
            rw [Z.inV_strs, if_neg Bool.false_ne_true]
            walk_at "z"
            refine Z.no (by decide +kernel) ?_
            walk_at "z"
            refine Z.lstK (fun b2 H2 nb2 k2 e2 => ?_)
            refine Z.inq (xs := wa2.map V.str) (.inl (lstL e2)) rfl Z.strs_flat ?_
            rw [Z.inV_strs, if_neg Bool.false_ne_true]
            walk_at "z"
            refine Z.yes (by decide +kernel) ?_
            walk_at "z"
            refine Z.lstK (fun b3 H3 nb3 k3 e3 => ?_)
            refine ⟨Z.tyL e3, ?_⟩
            walk_at "z"
            refine idxS (l := wa2) 1 (lstL e3) rfl (by decide +kernel) ?_
            walk_at "z"
            have k03 := (k1.trans k2).trans k3
            refine RowAt.m3 (hp.kp0 k03) ?_
            walk_at "z"
            refine Z.ixT (v := .int n2) (tupT (ht.kp0 k03).tup) rfl ?_
            walk_at "z"
            refine Z.ixT (v := .int n2) (tupT (ht.kp0 k03).tup) rfl ?_
            walk_at "z"
            refine Z.lstK (fun l1 G1 nl1 g1 f1 => ?_)
            walk_at "z"
            refine Z.lstK (fun l2 G2 nl2 g2 f2 => ?_)
            walk_at "z"
            refine Z.lstK (fun l3 G3 nl3 g3 f3 => ?_)
            walk_at "z"
            refine Z.lstK (fun l4 G4 nl4 g4 f4 => ?_)
            walk_at "z"
            refine Z.lstK (fun l5 G5 nl5 g5 f5 => ?_)
            walk_at "z"
            refine Z.lstK (fun l6 G6 nl6 g6 f6 => ?_)
            walk_at "z"
            refine Z.lstK (fun l7 G7 nl7 g7 f7 => ?_)
            refine ⟨Z.tyL f7, ?_⟩
            walk_at "z"
            have g07 := (((((g1.trans g2).trans g3).trans g4).trans g5).trans g6).trans g7
            have k07 := k03.trans g07
            refine Z.ixT (v := .str s2) (tupT (ht.kp0 k07).tup) rfl ?_
            have fo : G7 l6 = some (.lst [.ref l1, .ref l2, .ref l3, .ref l4, .ref l5]) := g7.get nin0 f6
            have f17 := ((((((g2.trans g3).trans g4).trans g5).trans g6).trans g7)).get nin0 f1
            have f27 := (((((g3.trans g4).trans g5).trans g6).trans g7)).get nin0 f2
            have f37 := ((((g4.trans g5).trans g6).trans g7)).get nin0 f3
            have f47 := (((g5.trans g6).trans g7)).get nin0 f4
            have f57 := ((g6.trans g7)).get nin0 f5
            have hok : s2 ∈ signs5 := ht.2
            have hcases : s2 = "<" ∨ s2 = "<=" ∨ s2 = "=" ∨ s2 = ">=" ∨ s2 = ">" := by
              unfold signs5 at hok
              simpa only [List.mem_cons, List.not_mem_nil, or_false] using hok
            have q' := q _ k07
            rcases hcases with rfl | rfl | rfl | rfl | rfl
            · walk_at "z"
              refine idxS (l := signs5) 0 (lstL f7) rfl (by decide +kernel) ?_
              refine Z.ixL (v := .ref l1) (lstL fo) rfl ?_
              refine Z.inq (.inl (lstL f17)) rfl (by rfl) ?_
              rw [if_neg Bool.false_ne_true]
              have hx := sgn_lt r.m n2
              unfold sgn at hx
              rw [hx]
              exact q'
            · walk_at "z"
              refine idxS (l := signs5) 1 (lstL f7) rfl (by decide +kernel) ?_
              refine Z.ixL (v := .ref l2) (lstL fo) rfl ?_
              refine Z.inq (.inl (lstL f27)) rfl (by rfl) ?_
              rw [if_neg Bool.false_ne_true]
              have hx := sgn_le r.m n2
              unfold sgn at hx
              rw [hx]
              exact q'
            · walk_at "z"
              refine idxS (l := signs5) 2 (lstL f7) rfl (by decide +kernel) ?_
              refine Z.ixL (v := .ref l3) (lstL fo) rfl ?_
              refine Z.inq (.inl (lstL f37)) rfl (by rfl) ?_
              rw [if_neg Bool.false_ne_true]
              have hx := sgn_eq r.m n2
              unfold sgn at hx
              rw [hx]
              exact q'
            · walk_at "z"
              refine idxS (l := signs5) 3 (lstL f7) rfl (by decide +kernel) ?_
              refine Z.ixL (v := .ref l4) (lstL fo) rfl ?_
              refine Z.inq (.inl (lstL f47)) rfl (by rfl) ?_
              rw [if_neg Bool.false_ne_true]
              have hx := sgn_ge r.m n2
              unfold sgn at hx
              rw [hx]
              exact q'
            · walk_at "z"
              refine idxS (l := signs5) 4 (lstL f7) rfl (by decide +kernel) ?_
              refine Z.ixL (v := .ref l5) (lstL fo) rfl ?_
              refine Z.inq (.inl (lstL f57)) rfl (by rfl) ?_
              rw [if_neg Bool.false_ne_true]
              have hx := sgn_gt r.m n2
              unfold sgn at hx
              rw [hx]
              exact q'
          | false =>
            dsimp only [CT.word, Atom.word]
            refine Z.no (by decide +kernel) ?_
            walk_at "z"
            refine Z.lstK (fun b1 H1 nb1 k1 e1 => ?_)
            refine Z.inq (xs := kg2.map V.str) (.inl (lstL e1)) rfl Z.strs_flat ?_
            rw [Z.inV_strs, if_neg Bool.false_ne_true]
            walk_at "z"
            refine Z.no (by decide +kernel) ?_
            walk_at "z"
            refine Z.lstK (fun b2 H2 nb2 k2 e2 => ?_)
            refine Z.inq (xs := wa2.map V.str) (.inl (lstL e2)) rfl Z.strs_flat ?_
            rw [Z.inV_strs, if_neg Bool.false_ne_true]
            walk_at "z"
            refine Z.yes (by decide +kernel) ?_
            walk_at "z"
            refine Z.lstK (fun b3 H3 nb3 k3 e3 => ?_)
            refine ⟨Z.tyL e3, ?_⟩
            walk_at "z"
            refine idxS (l := wa2) 0 (lstL e3) rfl (by decide +kernel) ?_
            walk_at "z"
            have k03 := (k1.trans k2).trans k3
            refine RowAt.w2 (hp.kp0 k03) ?_
            walk_at "z"
            refine Z.ixT (v := .int n2) (tupT (ht.kp0 k03).tup) rfl ?_
            walk_at "z"
            refine Z.ixT (v := .int n2) (tupT (ht.kp0 k03).tup) rfl ?_
            walk_at "z"
            refine Z.lstK (fun l1 G1 nl1 g1 f1 => ?_)
            walk_at "z"
            refine Z.lstK (fun l2 G2 nl2 g2 f2 => ?_)
            walk_at "z"
            refine Z.lstK (fun l3 G3 nl3 g3 f3 => ?_)
            walk_at "z"
            refine Z.lstK (fun l4 G4 nl4 g4 f4 => ?_)
            walk_at "z"
            refine Z.lstK (fun l5 G5 nl5 g5 f5 => ?_)
            walk_at "z"
            refine Z.lstK (fun l6 G6 nl6 g6 f6 => ?_)
            walk_at "z"
            refine Z.lstK (fun l7 G7 nl7 g7 f7 => ?_)
            refine ⟨Z.tyL f7, ?_⟩
            walk_at "z"
            have g07 := (((((g1.trans g2).trans g3).trans g4).trans g5).trans g6).trans g7
            have k07 := k03.trans g07
            refine Z.ixT (v := .str s2) (tupT (ht.kp0 k07).tup) rfl ?_
            have fo : G7 l6 = some (.lst [.ref l1, .ref l2, .ref l3, .ref l4, .ref l5]) := g7.get nin0 f6
            have f17 := ((((((g2.trans g3).trans g4).trans g5).trans g6).trans g7)).get nin0 f1
            have f27 := (((((g3.trans g4).trans g5).trans g6).trans g7)).get nin0 f2
            have f37 := ((((g4.trans g5).trans g6).trans g7)).get nin0 f3
            have f47 := (((g5.trans g6).trans g7)).get nin0 f4
            have f57 := ((g6.trans g7)).get nin0 f5
            have hok : s2 ∈ signs5 := ht.2
            have hcases : s2 = "<" ∨ s2 = "<=" ∨ s2 = "=" ∨ s2 = ">=" ∨ s2 = ">" := by
              unfold signs5 at hok
              simpa only [List.mem_cons, List.not_mem_nil, or_false] using hok
            have q' := q _ k07
            rcases hcases with rfl | rfl | rfl | rfl | rfl
            · walk_at "z"
              refine idxS (l := signs5) 0 (lstL f7) rfl (by decide +kernel) ?_
              refine Z.ixL (v := .ref l1) (lstL fo) rfl ?_
              refine Z.inq (.inl (lstL f17)) rfl (by rfl) ?_
              rw [if_neg Bool.false_ne_true]
              have hx := sgn_lt r.w n2
              unfold sgn at hx
              rw [hx]
              exact q'
            · walk_at "z"
              refine idxS (l := signs5) 1 (lstL f7) rfl (by decide +kernel) ?_
              refine Z.ixL (v := .ref l2) (lstL fo) rfl ?_
              refine Z.inq (.inl (lstL f27)) rfl (by rfl) ?_
              rw [if_neg Bool.false_ne_true]
              have hx := sgn_le r.w n2
              unfold sgn at hx
              rw [hx]
              exact q'
            · walk_at "z"
              refine idxS (l := signs5) 2 (lstL f7) rfl (by decide +kernel) ?_
              refine Z.ixL (v := .ref l3) (lstL fo) rfl ?_
              refine Z.inq (.inl (lstL f37)) rfl (by rfl) ?_
              rw [if_neg Bool.false_ne_true]
              have hx := sgn_eq r.w n2
              unfold sgn at hx
              rw [hx]
              exact q'
            · walk_at "z"
              refine idxS (l := signs5) 3 (lstL f7) rfl (by decide +kernel) ?_
              refine Z.ixL (v := .ref l4) (lstL fo) rfl ?_
              refine Z.inq (.inl (lstL f47)) rfl (by rfl) ?_
              rw [if_neg Bool.false_ne_true]
              have hx := sgn_ge r.w n2
              unfold sgn at hx
              rw [hx]
              exact q'
            · walk_at "z"
              refine idxS (l := signs5) 4 (lstL f7) rfl (by decide +kernel) ?_
              refine Z.ixL (v := .ref l5) (lstL fo) rfl ?_
              refine Z.inq (.inl (lstL f57)) rfl (by rfl) ?_
              rw [if_neg Bool.false_ne_true]
              have hx := sgn_gt r.w n2
              unfold sgn at hx
              rw [hx]
              exact q'
        | grp s2 =>
          dsimp only [CT.word, Atom.word]
          refine Z.no (by decide +kernel) ?_
          walk_at "z"
          refine Z.lstK (fun b1 H1 nb1 k1 e1 => ?_)
          refine Z.inq (xs := kg2.map V.str) (.inl (lstL e1)) rfl Z.strs_flat ?_
          rw [Z.inV_strs, if_neg Bool.false_ne_true]
          walk_at "z"
          refine Z.yes (by decide +kernel) ?_
          walk_at "z"
          refine Z.lstK (fun b2 H2 nb2 k2 e2 => ?_)
          refine ⟨Z.tyL e2, ?_⟩
          walk_at "z"
          refine idxS (l := kg2) 1 (lstL e2) rfl (by decide +kernel) ?_
          have k02 := k1.trans k2
          refine RowAt.g1 (hp.kp0 k02) ?_
          walk_at "z"
          refine Z.ixT (v := .str s2) (tupT (ht.kp0 k02).tup) rfl ?_
          walk_at "z"
          exact q _ k02
        | key s2 =>
          dsimp only [CT.word, Atom.word]
          refine Z.no (by decide +kernel) ?_
          walk_at "z"
          refine Z.lstK (fun b1 H1 nb1 k1 e1 => ?_)
          refine Z.inq (xs := kg2.map V.str) (.inl (lstL e1)) rfl Z.strs_flat ?_
          rw [Z.inV_strs, if_neg Bool.false_ne_true]
          walk_at "z"
          refine Z.yes (by decide +kernel) ?_
          walk_at "z"
          refine Z.lstK (fun b2 H2 nb2 k2 e2 => ?_)
          refine ⟨Z.tyL e2, ?_⟩
          walk_at "z"
          refine idxS (l := kg2) 0 (lstL e2) rfl (by decide +kernel) ?_
          have k02 := k1.trans k2
          refine RowAt.k0 (hp.kp0 k02) ?_
          walk_at "z"
          refine Z.ixT (v := .str s2) (tupT (ht.kp0 k02).tup) rfl ?_
          walk_at "z"
          exact q _ k02
        | all =>
          dsimp only [CT.word, Atom.word]
          refine Z.yes rfl ?_
          walk_at "z"
          exact q _ (Kp.refl _)
      | neg pt c =>
        dsimp only [CT.word]
        refine Z.no (by decide +kernel) ?_
        walk_at "z"
        refine Z.lstK (fun b1 H1 nb1 k1 e1 => ?_)
        refine Z.inq (xs := kg2.map V.str) (.inl (lstL e1)) rfl Z.strs_flat ?_
        rw [Z.inV_strs, if_neg Bool.false_ne_true]
        walk_at "z"
        refine Z.no (by decide +kernel) ?_
        walk_at "z"
        refine Z.lstK (fun b2 H2 nb2 k2 e2 => ?_)
        refine Z.inq (xs := wa2.map V.str) (.inl (lstL e2)) rfl Z.strs_flat ?_
        rw [Z.inV_strs, if_neg Bool.false_ne_true]
        walk_at "z"
        refine Z.no (by decide +kernel) ?_
        walk_at "z"
        have k02 := k1.trans k2
        refine Z.yes rfl ?_
        walk_at "z"
        rw [CT.depth] at hdep
        refine Z.ixT (v := .ref c.ad) (tupT (ht.kp0 k02).tup) rfl ?_
        walk_at "z"
        refine ⟨c, p, r, rfl, (ht.kp0 k02).2, by omega, hp.kp0 k02, fun H3 k3 => ?_⟩
        walk_at "z"
        exact q H3 (k02.trans k3)
      | two pt o c d =>
        dsimp only [CT.word]
        refine Z.no (by cases o <;> decide +kernel) ?_
        walk_at "z"
        refine Z.lstK (fun b1 H1 nb1 k1 e1 => ?_)
        refine Z.inq (xs := kg2.map V.str) (.inl (lstL e1)) rfl Z.strs_flat ?_
        rw [Z.inV_strs, if_neg Bool.false_ne_true]
        walk_at "z"
        refine Z.no (by cases o <;> decide +kernel) ?_
        walk_at "z"
        refine Z.lstK (fun b2 H2 nb2 k2 e2 => ?_)
        refine Z.inq (xs := wa2.map V.str) (.inl (lstL e2)) rfl Z.strs_flat ?_
        rw [Z.inV_strs, if_neg Bool.false_ne_true]
        walk_at "z"
        refine Z.no (by cases o <;> decide +kernel) ?_
        walk_at "z"
        have k02 := k1.trans k2
        refine Z.no (by cases o <;> decide +kernel) ?_
        walk_at "z"
        rw [CT.depth] at hdep
        refine Z.ixT (v := .ref c.ad) (tupT (ht.kp0 k02).tup) rfl ?_
        walk_at "z"
        refine ⟨c, p, r, rfl, (ht.kp0 k02).2.1, by omega, hp.kp0 k02, fun H3 k3 => ?_⟩
        walk_at "z"
        have k03 := k02.trans k3
        refine Z.ixT (v := .ref d.ad) (tupT (ht.kp0 k03).tup) rfl ?_
        walk_at "z"
        refine ⟨d, p, r, rfl, (ht.kp0 k03).2.2, by omega, hp.kp0 k03, fun H4 k4 => ?_⟩
        walk_at "z"
        have q' := q H4 (k03.trans k4)
        rw [CT.holds] at q'
        cases o with
        | true =>
          refine Z.no (by decide +kernel) ?_
          walk_at "z"
          rw [if_pos rfl] at q'
          cases hc : c.holds r with
          | true =>
            rw [hc] at q'
            walk_at "z"
            exact q'
          | false =>
            rw [hc] at q'
            walk_at "z"
            exact q'
        | false =>
          refine Z.yes (by decide +kernel) ?_
          walk_at "z"
          rw [if_neg Bool.false_ne_true] at q'
          cases hc : c.holds r with
          | true =>
            rw [hc] at q'
            walk_at "z"
            exact q'
          | false =>
            rw [hc] at q'
            walk_at "z"
            exact q'
theorem ok__law_held {P : Program} {w : World} {K : PySem.W.Frag} {mg : Str → Option Value} {base : Heap} (T : T P K mg) : FnOk P w K mg base CX0 8 T.a__law_held T.fd__law_held ["condition", "item"] (spLH 7) := held_rec T 7

theorem neNil {K : PySem.W.Frag} {H : Hp} {Q : VK} {a b : Addr} {ps : List (Addr × Row)} (h1 : H a = some (.lst (refs ps))) (h2 : H b = some (.lst [])) (r : RowsAt H ps) (s : ∀ x ∈ ps, RowS x.2) (q : Q (.bl (!ps.isEmpty)) H) : rNeD K (.ref a) (.ref b) H Q :=
  ⟨_, _, dpRows h1 r, .lst (ds := []) (lstL h2) .nil, shRows s, shNil, by
    rw [PyData.eqv, eqvAll_nil]
    have e : (rowsD ps).isEmpty = ps.isEmpty := by cases ps <;> rfl
    rw [e]; exact q⟩
def notL : List Str := ["and", "or"]
theorem leaf_wa (a : Atom) (h : a.word ∈ wa2) : ∃ b s n, a = .cmp b s n := by
  cases a with
  | cmp b s n => exact ⟨b, s, n, rfl⟩
  | grp s => exact absurd h (by show ¬ (("group" : Str) ∈ wa2); decide +kernel)
  | key s => exact absurd h (by show ¬ (("key" : Str) ∈ wa2); decide +kernel)
  | all => exact absurd h (by show ¬ (("all" : Str) ∈ wa2); decide +kernel)
theorem neg_wa : ¬ (("not" : Str) ∈ wa2) := by decide +kernel
theorem two_wa (o : Bool) : ¬ (twoW o ∈ wa2) := by cases o <;> decide +kernel
theorem two_not (o : Bool) : ¬ twoW o = "not" := by cases o <;> decide +kernel
theorem two_in2 (o : Bool) : twoW o ∈ parts2 := by cases o <;> decide +kernel
def spNear (K : PySem.W.Frag) (n : Nat) : Sp := fun vs H Q _ => ∃ (a p : Addr) (t : CT) (ps : List (Addr × Row)), vs = [.ref a, .ref t.ad, .ref p] ∧ t.depth < n ∧ DrawsAt H a ∧ t.At H ∧ H p = some (.lst (refs ps)) ∧ p ≠ a ∧ RowsAt H ps ∧ (∀ x ∈ ps, RowS x.2) ∧ ps.length ≤ 1000 ∧
  ∀ H' t', Kp [a] H H' → DrawsAt H' a → CT.At H' t' → t'.depth ≤ t.depth → Q (.ref t'.ad) H'
theorem near_rec {P : Program} {w : World} {K : PySem.W.Frag} {mg : Str → Option Value} {base : Heap} (T : T P K mg) : ∀ n, FnOk P w K mg base CX0 (n + 2) T.a__law_near T.fd__law_near ["draws", "condition", "items"] (spNear K n)
  | 0 => ⟨fun _ _ _ _ h => by obtain ⟨_, _, _, _, _, h, _⟩ := h; omega, fun _ _ _ _ _ _ _ _ _ _ _ _ _ h => by obtain ⟨_, _, _, _, _, h, _⟩ := h; omega⟩
  | n + 1 => by
    have ih := near_rec (w := w) (base := base) T n
    show FnOk P w K mg base CX0 (n + 2 + 1) _ _ _ _
    refine T.F__law_near.ok sc__law_near (fun vs H Q E h => ?_) (fun cdv A outer s H vs Q E hr h => ?_)
    · obtain ⟨a, p, t, ps, rfl, _⟩ := h
      rfl
    · obtain ⟨a, p, t, ps, rfl, hdep, hd, ht, hp, hpa, hps, hs, hl, q⟩ := h
      refine ⟨_, (Z.pss_consJ (ps_if (PW.pt (pw_and (pt_cmpR op_in_seq (pe_ix ix_tup (pv 1) pe_int (fun _ _ => rfl)) (pe_lst (pa_cons pe_str (pa_cons pe_str pa_nil))) rfl) (pw_and (pt_cmpR (op_neD hr.units) (pv 2) (pe_lst pa_nil) (nomark _)) (pw_and1 (pt_cmpR op_eq (pe_call (ok__law_take T) (hr.mono (by omega)) (by rfl) T.g__law_take T.F__law_take.kp T.b__law_take .nil pass0 (pa_cons (pv 0) (pa_cons pe_int pa_nil))) pe_int (nomark _)))))) (pss_cons (ps_set (i := 3) sc__law_near.nd rfl (by first | exact Or.inl rfl | exact Or.inr rfl) (pe_ix ix_list (pv 2) (pe_call (ok__law_take T) (hr.mono (by omega)) (by rfl) T.g__law_take T.F__law_take.kp T.b__law_take .nil pass0 (pa_cons (pv 0) (pa_cons (pe_callB c_len (by rfl) T.z_len (by decide +kernel) (pa_cons (pv 2) pa_nil)) pa_nil))) (fun _ _ => rfl)))
      (pss_one (ps_ret (pe_tup (pa_cons (pe_ix ix_tup (pv 1) pe_int (fun _ _ => rfl)) (pa_cons (pe_ix ix_tup (pv 1) pe_int (fun _ _ => rfl)) (pa_cons (pe_op op_sub (pe_op op_add (pe_ix ix_tup (pv 3) (pe_op op_add pe_int (pe_callTy c_int (by rfl) T.z_int (by decide +kernel) (pa_cons (pe_cmpR op_eq (pe_ix ix_tup (pv 1) pe_int (fun _ _ => rfl)) pe_str (nomark _)) pa_nil))) (fun _ _ => rfl)) (pe_call (ok__law_take T) (hr.mono (by omega)) (by rfl) T.g__law_take T.F__law_take.kp T.b__law_take .nil pass0 (pa_cons (pv 0) (pa_cons pe_int pa_nil)))) pe_int) pa_nil))))))) pss_nil)
      (pss_cons (ps_if (pt_cmpR op_eq (pe_ix ix_tup (pv 1) pe_int (fun _ _ => rfl)) pe_str (nomark _)) (pss_one (ps_ret (pe_tup (pa_cons pe_str (pa_cons (pe_call ih (hr.mono (by omega)) (by rfl) T.g__law_near T.F__law_near.kp T.b__law_near .nil pass0 (pa_cons (pv 0) (pa_cons (pe_ix ix_tup (pv 1) pe_int (fun _ _ => rfl)) (pa_cons (pv 2) pa_nil)))) pa_nil))))) pss_nil)
      (pss_cons (ps_if (pt_cmpR op_in_seq (pe_ix ix_tup (pv 1) pe_int (fun _ _ => rfl)) (pe_lst (pa_cons pe_str (pa_cons pe_str pa_nil))) rfl) (pss_one (ps_ret (pe_tup (pa_cons (pe_ix ix_tup (pv 1) pe_int (fun _ _ => rfl)) (pa_cons (pe_call ih (hr.mono (by omega)) (by rfl) T.g__law_near T.F__law_near.kp T.b__law_near .nil pass0 (pa_cons (pv 0) (pa_cons (pe_ix ix_tup (pv 1) pe_int (fun _ _ => rfl)) (pa_cons (pv 2) pa_nil)))) (pa_cons (pe_call ih (hr.mono (by omega)) (by rfl) T.g__law_near T.F__law_near.kp T.b__law_near .nil pass0 (pa_cons (pv 0) (pa_cons (pe_ix ix_tup (pv 1) pe_int (fun _ _ => rfl)) (pa_cons (pv 2) pa_nil)))) pa_nil)))))) pss_nil)
      (pss_one (ps_ret (pv 1)))))), ?_⟩
      walk_at "z0"
      walk_at "z"
      refine Z.seqJ (fun σ' H' => σ' = [some (.ref a), some (.ref t.ad), some (.ref p), none] ∧ Kp [a] H H' ∧ DrawsAt H' a ∧ t.At H' ∧ H' p = some (.lst (refs ps)) ∧ RowsAt H' ps) ?_ ?_
      · rintro σ' H1 ⟨rfl, k1, d1, ht1, hp1, hps1⟩
        walk_at "z"
        refine ht1.ix0 ?_
        walk_at "z"
        cases t with
        | leaf pt b =>
          dsimp only [CT.word]
          refine Z.no (leaf_not b) ?_
          walk_at "z"
          refine ht1.ix0 ?_
          walk_at "z"
          refine Z.lstK (fun b1 H2 nb1 k2 e2 => ?_)
          refine Z.inq (xs := parts2.map V.str) (.inl (lstL e2)) rfl Z.strs_flat ?_
          rw [Z.inV_strs, if_neg Bool.false_ne_true]
          walk_at "z"
          refine Z.no (leaf_no2 b) ?_
          walk_at "z"
          exact q H2 (.leaf pt b) (k1.trans (k2.sub (by simp))) (d1.kp0 k2) (ht1.kp0 k2) (Nat.le_refl _)
        | neg pt c =>
          rw [CT.depth] at hdep
          dsimp only [CT.word]
          refine Z.yes rfl ?_
          walk_at "z"
          refine Z.ixT (v := .ref c.ad) (tupT ht1.tup) rfl ?_
          walk_at "z"
          refine ⟨a, p, c, ps, rfl, by omega, d1, ht1.2, hp1, hpa, hps1, hs, hl, fun H2 t2 k2 d2 ht2 hd2 => ?_⟩
          walk_at "z"
          refine Z.tupK (fun p2 H3 np k3 e3 => ?_)
          exact q H3 (.neg p2 t2) (k1.trans (k2.trans (k3.sub (by simp)))) (d2.kp0 k3) ⟨e3, ht2.kp0 k3⟩ (by rw [CT.depth, CT.depth]; omega)
        | two pt o c d =>
          rw [CT.depth] at hdep
          dsimp only [CT.word]
          refine Z.no (two_not o) ?_
          walk_at "z"
          refine ht1.ix0 ?_
          walk_at "z"
          refine Z.lstK (fun b1 H2 nb1 k2 e2 => ?_)
          refine Z.inq (xs := parts2.map V.str) (.inl (lstL e2)) rfl Z.strs_flat ?_
          rw [Z.inV_strs, if_neg Bool.false_ne_true]
          walk_at "z"
          refine Z.yes (two_in2 o) ?_
          have ht2 := ht1.kp0 k2
          have d2 := d1.kp0 k2
          walk_at "z"
          refine ht2.ix0 ?_
          walk_at "z"
          refine Z.ixT (v := .ref c.ad) (tupT ht2.tup) rfl ?_
          walk_at "z"
          refine ⟨a, p, c, ps, rfl, by omega, d2, ht2.2.1, k2.get nin0 hp1, hpa, hps1.kp0 k2, hs, hl, fun H3 t3 k3 d3 ht3 hd3 => ?_⟩
          have hp3 := k3.get (nin1 hpa) (k2.get nin0 hp1)
          have hps3 := (hps1.kp0 k2).kpd k3 d2
          have htt3 := ht2.kpd k3 d2
          walk_at "z"
          refine Z.ixT (v := .ref d.ad) (tupT htt3.tup) rfl ?_
          walk_at "z"
          refine ⟨a, p, d, ps, rfl, by omega, d3, htt3.2.2, hp3, hpa, hps3, hs, hl, fun H4 t4 k4 d4 ht4 hd4 => ?_⟩
          walk_at "z"
          refine Z.tupK (fun p2 H5 np k5 e5 => ?_)
          exact q H5 (.two p2 o t3 t4) (k1.trans ((k2.sub (by simp)).trans (k3.trans (k4.trans (k5.sub (by simp)))))) (d4.kp0 k5) ⟨e5, (ht3.kpd k4 d3).kp0 k5, ht4.kp0 k5⟩ (by rw [CT.depth, CT.depth]; omega)
      · intro N jn
        walk_at "z"
        refine ht.ix0 ?_
        walk_at "z"
        refine Z.lstK (fun b1 H1 nb1 k1 e1 => ?_)
        refine Z.inq (xs := wa2.map V.str) (.inl (lstL e1)) rfl Z.strs_flat ?_
        rw [Z.inV_strs, if_neg Bool.false_ne_true]
        have d1 := hd.kp0 k1
        have ht1 := ht.kp0 k1
        have hp1 := k1.get nin0 hp
        have hps1 := hps.kp0 k1
        have k1a : Kp [a] H H1 := k1.sub (by simp)
        walk_at "z"
        refine Z.ite (fun c1 => ?_) (fun c1 => ?_)
        · walk_at "z"
          refine Z.lstK (fun b2 H2 nb2 k2 e2 => ?_)
          have d2 := d1.kp0 k2
          have ht2 := ht1.kp0 k2
          have hp2 := k2.get nin0 hp1
          have hps2 := hps1.kp0 k2
          have k2a : Kp [a] H H2 := k1a.trans (k2.sub (by simp))
          refine neNil hp2 e2 hps2 hs ?_
          walk_at "z"
          cases ps with
          | nil =>
            dsimp only [List.isEmpty]
            walk_at "z"
            exact jn _ _ ⟨rfl, k2a, d2, ht2, hp2, hps2⟩
          | cons x0 rest =>
            dsimp only [List.isEmpty]
            walk_at "z"
            refine ⟨a, 2, rfl, d2, by decide, by decide, fun H3 v hv0 hv1 k3 d3 => ?_⟩
            have ht3 := ht2.kpd k3 d2
            have hp3 := k3.get (nin1 hpa) hp2
            have hps3 := hps2.kpd k3 d2
            have k3a := k2a.trans k3
            walk_at "z"
            refine Z.ite (fun c2 => ?_) (fun c2 => ?_)
            · walk_at "z"
              refine Z.lenL (lstL hp3) ?_
              walk_at "z"
              rw [refs_len]
              refine ⟨a, _, rfl, d3, by rw [List.length_cons]; omega, by omega, fun H4 u hu0 hu1 k4 d4 => ?_⟩
              obtain ⟨j, rfl⟩ : ∃ j : Nat, u = (j : Int) := ⟨u.toNat, by omega⟩
              have hj : j < (x0 :: rest).length := by omega
              have hx : (x0 :: rest)[j]? = some (x0 :: rest)[j] := List.getElem?_eq_getElem hj
              generalize (x0 :: rest)[j] = x at hx
              have hm := List.mem_of_getElem? hx
              have ht4 := ht3.kpd k4 d3
              have hp4 := k4.get (nin1 hpa) hp3
              have hrow := hps3.kpd k4 d3 x hm
              refine Z.ixL (lstL hp4) (atI_nat (refs_at hx)) ?_
              walk_at "z"
              cases t with
              | neg pt c => exact absurd c1 neg_wa
              | two pt o c d => exact absurd c1 (two_wa o)
              | leaf pt b0 =>
                obtain ⟨b, s2, n2, rfl⟩ := leaf_wa b0 c1
                refine ht4.ix0 ?_
                walk_at "z"
                refine Z.ixT (v := .str s2) (tupT ht4.tup) rfl ?_
                walk_at "z"
                refine ht4.ix0 ?_
                walk_at "z"
                cases b with
                  | true =>
                    rw [show (2 + (if decide ((CT.leaf pt (Atom.cmp true s2 n2)).word = ("amount" : Str)) = true then 1 else 0) : Int) = 3 from by show (2 + (if decide (cmpW true = ("amount" : Str)) = true then 1 else 0) : Int) = 3; decide +kernel]
                    refine RowAt.m3 hrow ?_
                    walk_at "z"
                    refine ⟨a, 3, rfl, d4, by decide, by decide, fun H5 v3 hv30 hv31 k5 d5 => ?_⟩
                    walk_at "z"
                    refine Z.tupK (fun p2 H6 np k6 e6 => ?_)
                    exact q H6 (.leaf p2 (.cmp true s2 _)) (k3a.trans (k4.trans (k5.trans (k6.sub (by simp))))) (d5.kp0 k6) ⟨e6, ht4.2⟩ (Nat.le_refl _)
                  | false =>
                    rw [show (2 + (if decide ((CT.leaf pt (Atom.cmp false s2 n2)).word = ("amount" : Str)) = true then 1 else 0) : Int) = 2 from by show (2 + (if decide (cmpW false = ("amount" : Str)) = true then 1 else 0) : Int) = 2; decide +kernel]
                    refine RowAt.w2 hrow ?_
                    walk_at "z"
                    refine ⟨a, 3, rfl, d4, by decide, by decide, fun H5 v3 hv30 hv31 k5 d5 => ?_⟩
                    walk_at "z"
                    refine Z.tupK (fun p2 H6 np k6 e6 => ?_)
                    exact q H6 (.leaf p2 (.cmp false s2 _)) (k3a.trans (k4.trans (k5.trans (k6.sub (by simp))))) (d5.kp0 k6) ⟨e6, ht4.2⟩ (Nat.le_refl _)
            · walk_at "z"
              exact jn _ _ ⟨rfl, k3a, d3, ht3, hp3, hps3⟩
        · walk_at "z"
          exact jn _ _ ⟨rfl, k1a, d1, ht1, hp1, hps1⟩
theorem ok__law_near {P : Program} {w : World} {K : PySem.W.Frag} {mg : Str → Option Value} {base : Heap} (T : T P K mg) : FnOk P w K mg base CX0 8 T.a__law_near T.fd__law_near ["draws", "condition", "items"] (spNear K 6) := near_rec T 6
/-! ### law -/
def spLaw (K : PySem.W.Frag) : Sp := fun vs H Q _ => ∃ (a : Addr) (ns : List Int), vs = [.ref a] ∧ SqL K H a (ns.map V.int) ∧ ns.length ≤ 63 ∧ (∀ z ∈ ns, Builtin.Int.intBits z ≤ 1048576) ∧ ∀ H', Q (.bl true) H'
theorem bl_at {bs : List Bool} {j : Nat} {b : Bool} (h : bs[j]? = some b) : atI (bs.map V.bl) (j : Int) = some (.bl b) := atI_nat (by rw [List.getElem?_map, h]; rfl)
theorem map_succ {α β : Type} (f : α → β) {l : List α} {i : Nat} {x : α} (h : l[i]? = some x) : (l.take (i + 1)).map f = (l.take i).map f ++ [f x] := by
  rw [List.take_add_one, h, List.map_append]; rfl
theorem ok_law {P : Program} {w : World} {K : PySem.W.Frag} {mg : Str → Option Value} {base : Heap} (T : T P K mg) : FnOk P w K mg base CX0 10 T.a_law T.fd_law ["script"] (spLaw K) := by
  refine T.F_law.ok sc_law (fun vs H Q E h => ?_) (fun cdv A outer s H vs Q E hr h => ?_)
  · obtain ⟨a, ns, rfl, _⟩ := h
    rfl
  · obtain ⟨c, ns, rfl, hS, hlen, hb, q⟩ := h
    refine ⟨_, (pss_cons (ps_set (i := 1) sc_law.nd rfl (by first | exact Or.inl rfl | exact Or.inr rfl) (pe_call (ok__law_draws T) (hr.mono (by decide)) (by rfl) T.g__law_draws T.F__law_draws.kp T.b__law_draws .nil pass0 (pa_cons (pv 0) pa_nil)))
      (pss_cons (ps_set (i := 2) sc_law.nd rfl (by first | exact Or.inl rfl | exact Or.inr rfl) (pe_call (ok__law_items T) (hr.mono (by decide)) (by rfl) T.g__law_items T.F__law_items.kp T.b__law_items .nil pass0 (pa_cons (pv 1) (pa_cons pe_int pa_nil))))
      (pss_cons (ps_for PassesOwn.never rfl (pi_range1 (by rfl) T.z_range (pa_cons pe_int pa_nil)) (pg_name (i := 3) sc_law.nd rfl (by first | exact Or.inl rfl | exact Or.inr rfl)) (pss_cons (ps_set (i := 4) sc_law.nd rfl (by first | exact Or.inl rfl | exact Or.inr rfl) (pe_call (ok__law_near T) (hr.mono (by decide)) (by rfl) T.g__law_near T.F__law_near.kp T.b__law_near .nil pass0 (pa_cons (pv 1) (pa_cons (pe_call (ok__law_condition T) (hr.mono (by decide)) (by rfl) T.g__law_condition T.F__law_condition.kp T.b__law_condition .nil pass0 (pa_cons (pv 1) (pa_cons pe_int pa_nil))) (pa_cons (pv 2) pa_nil)))))
      (pss_cons (ps_set (i := 5) sc_law.nd rfl (by first | exact Or.inl rfl | exact Or.inr rfl) (pe_callTy c_list (by rfl) T.z_list (by decide +kernel) (pa_cons (pv 2) pa_nil)))
      (pss_cons (ps_set (i := 6) sc_law.nd rfl (by first | exact Or.inl rfl | exact Or.inr rfl) (pe_lc (own := [("item", 7)]) (g := gName 7) rfl sc_law.nd (pi_list (pv 2)) (blkOk_by (own := [("item", 7)]) (N := N_law) (sc := defScope s_law) (by decide +kernel)) (fun _ _ _ _ _ => (pg_name (i := 7) sc_law.nd rfl (by first | exact Or.inl rfl | exact Or.inr rfl))) (fun _ _ _ _ _ => pts_nil) (fun _ _ _ _ _ => (pe_call (ok__law_held T) (hr.mono (by decide)) (by rfl) T.g__law_held T.F__law_held.kp T.b__law_held .nil pass0 (pa_cons (pv 4) (pa_cons (pv 7) pa_nil))))))
      (pss_cons (ps_if (pt_not (pt_val (pe_call (ok__law_same T) (hr.mono (by decide)) (by rfl) T.g__law_same T.F__law_same.kp T.b__law_same .nil pass0 (pa_cons (pe_lc (own := [("item", 7)]) (g := gName 7) rfl sc_law.nd (pi_list (pv 2)) (blkOk_by (own := [("item", 7)]) (N := N_law) (sc := defScope s_law) (by decide +kernel)) (fun _ _ _ _ _ => (pg_name (i := 7) sc_law.nd rfl (by first | exact Or.inl rfl | exact Or.inr rfl))) (fun _ _ _ _ _ => pts_nil) (fun _ _ _ _ _ => (pe_call (ok_held T) (hr.mono (by decide)) (by rfl) T.g_held T.F_held.kp T.b_held .nil pass0 (pa_cons (pv 4) (pa_cons (pv 7) pa_nil))))) (pa_cons (pv 6) pa_nil))))) (pss_one (ps_ret pe_bl)) pss_nil)
      (pss_one (ps_if (PW.pt (pw_or (pt_not (pt_val (pe_call (ok__law_same T) (hr.mono (by decide)) (by rfl) T.g__law_same T.F__law_same.kp T.b__law_same .nil pass0 (pa_cons (pe_call (ok_held_items T) (hr.mono (by decide)) (by rfl) T.g_held_items T.F_held_items.kp T.b_held_items .nil pass0 (pa_cons (pv 4) (pa_cons (pv 2) pa_nil))) (pa_cons (pe_lc (own := [("k", 8)]) (g := gName 8) rfl sc_law.nd (pi_range1 (by rfl) T.z_range (pa_cons (pe_callB c_len (by rfl) T.z_len (by decide +kernel) (pa_cons (pv 2) pa_nil)) pa_nil)) (blkOk_by (own := [("k", 8)]) (N := N_law) (sc := defScope s_law) (by decide +kernel)) (fun _ _ _ _ _ => (pg_name (i := 8) sc_law.nd rfl (by first | exact Or.inl rfl | exact Or.inr rfl))) (fun _ _ _ _ _ => (pts_one (pt_val (pe_ix (ix_list : IxR _ (rIxL K)) (pv 6) (pv 8) (fun _ _ => rfl))))) (fun _ _ _ _ _ => (pe_ix (ix_list : IxR _ (rIxL K)) (pv 2) (pv 8) (fun _ _ => rfl)))) pa_nil))))) (pw_or1 (pt_cmpR (op_neD hr.units) (pv 2) (pv 5) (nomark _))))) (pss_one (ps_ret pe_bl)) pss_nil)))))))
      (pss_one (ps_ret pe_bl))))), ?_⟩
    walk_at "z0"
    walk_at "z"
    refine ⟨c, ns, rfl, hS, hlen, hb, fun a H1 na k1 d1 => ?_⟩
    walk_at "z"
    refine ⟨a, 8, rfl, d1, by decide, fun H2 p ps np I hl8 => ?_⟩
    have hs : ∀ x ∈ ps, RowS x.2 := fun x hx => (I.ok x hx).s
    have hpa : p ≠ a := (d1.ne np).symm
    walk_at "z"
    refine Z.forr 4 (by rfl) (by decide) (fun i σ' H' => ∃ y3 y4 y5 y6, σ' = [some (.ref c), some (.ref a), some (.ref p), y3, y4, y5, y6, none, none] ∧ DrawsAt H' a ∧ H' p = some (.lst (refs ps)) ∧ RowsAt H' ps) ⟨_, _, _, _, rfl, I.dr, I.at_, I.rows⟩ ?_ ?_
    · rintro i σ' H3 hi ⟨y3, y4, y5, y6, rfl, d3, e3, r3⟩
      walk_at "z"
      refine ⟨a, 4, rfl, by decide, d3, fun H4 t k4 d4 ht hdep => ?_⟩
      have e4 := k4.get (nin1 hpa) e3
      have r4 := r3.kpd k4 d3
      walk_at "z"
      refine ⟨a, p, t, ps, rfl, by omega, d4, ht, e4, hpa, r4, hs, by omega, fun H5 t' k5 d5 ht5 hdep' => ?_⟩
      have e5 := k5.get (nin1 hpa) e4
      have r5 := r4.kpd k5 d4
      have hsz : t'.size ≤ 1000 := by
        have h1 := size_depth t'
        have h2 : 2 ^ (t'.depth + 1) ≤ 2 ^ 5 := Nat.pow_le_pow_right (by decide) (by omega)
        omega
      walk_at "z"
      refine Z.listL (lstL e5) (fun g H6 ng k6 e6 => ?_)
      have e6p := k6.get nin0 e5
      have r6 := r5.kp0 k6
      have ht6 := ht5.kp0 k6
      have d6 := d5.kp0 k6
      walk_at "z"
      refine Z.lcl (refs ps) (lstL e6p) (fun D i H' => Kp [] H6 H' ∧ H' D = some (.lst (((ps.take i).map fun x => t'.holds x.2).map V.bl))) ?_ ?_ ?_ ?_
      · intro D H7 nD k7 e7
        exact ⟨k7, e7⟩
      · rintro D j H7 nD hj ⟨k7, e7⟩
        exact lstL (k7.get nin0 e6p)
      · rintro D j v H7 nD hv ⟨k7, e7⟩
        obtain ⟨x, hx, rfl⟩ := refs_of hv
        have hm := List.mem_of_getElem? hx
        have hj : j < ps.length := (List.getElem?_eq_some_iff.mp hx).1
        dsimp only [wipe, List.set]
        walk_at "z"
        refine ⟨rfl, ?_⟩
        walk_at "z"
        refine ⟨t', x.1, x.2, rfl, ht6.kp0 k7, by omega, (r6.kp0 k7) x hm, fun H8 k8 => ?_⟩
        refine ⟨_, k8.get nin0 e7, Z.szl (m := 1000) (by rw [List.length_map, List.length_map, List.length_take]; omega), (k7.trans k8).mut nD rfl, ?_⟩
        rw [upd_same, map_succ _ hx, List.map_append]; rfl
      · rintro D H7 nD ⟨k7, e7⟩
        rw [refs_len, List.take_length] at e7
        have e7p := k7.get nin0 e6p
        have r7 := r6.kp0 k7
        have ht7 := ht6.kp0 k7
        have d7 := d6.kp0 k7
        have e7g := k7.get nin0 e6
        walk_at "z"
        refine Z.lcl (refs ps) (lstL e7p) (fun B i H' => Kp [] H7 H' ∧ H' B = some (.lst (((ps.take i).map fun x => t'.holds x.2).map V.bl))) ?_ ?_ ?_ ?_
        · intro B H8 nB k8 e8
          exact ⟨k8, e8⟩
        · rintro B j H8 nB hj ⟨k8, e8⟩
          exact lstL (k8.get nin0 e7p)
        · rintro B j v H8 nB hv ⟨k8, e8⟩
          obtain ⟨x, hx, rfl⟩ := refs_of hv
          have hm := List.mem_of_getElem? hx
          have hj : j < ps.length := (List.getElem?_eq_some_iff.mp hx).1
          dsimp only [wipe, List.set]
          walk_at "z"
          refine ⟨rfl, ?_⟩
          walk_at "z"
          refine ⟨t', x.1, x.2, rfl, ht7.kp0 k8, hsz, (r7.kp0 k8) x hm, fun H9 k9 => ?_⟩
          refine ⟨_, k9.get nin0 e8, Z.szl (m := 1000) (by rw [List.length_map, List.length_map, List.length_take]; omega), (k8.trans k9).mut nB rfl, ?_⟩
          rw [upd_same, map_succ _ hx, List.map_append]; rfl
        · rintro B H8 nB ⟨k8, e8⟩
          rw [refs_len, List.take_length] at e8
          have e8D := k8.get nin0 e7
          have e8p := k8.get nin0 e7p
          have e8g := k8.get nin0 e7g
          have r8 := r7.kp0 k8
          have ht8 := ht7.kp0 k8
          have d8 := d7.kp0 k8
          walk_at "z"
          refine ⟨_, _, rfl, .plain e8 e8D (by rw [List.length_map, List.length_map]; omega) ?_, ?_⟩
          · intro z hz
            obtain ⟨b, _, rfl⟩ := List.mem_map.mp hz
            rfl
          walk_at "z"
          refine ⟨t', p, ps, rfl, ht8, hsz, e8p, r8, by omega, fun H9 f nf k9 e9 => ?_⟩
          have e9D := k9.get nin0 e8D
          have e9p := k9.get nin0 e8p
          have e9g := k9.get nin0 e8g
          have r9 := r8.kp0 k9
          have d9 := d8.kp0 k9
          walk_at "z"
          refine Z.lenL (lstL e9p) ?_
          rw [refs_len]
          refine Z.lcr ps.length rfl (by omega) (fun G i H' => Kp [] H9 H' ∧ H' G = some (.lst (refs (keep t' (ps.take i))))) ?_ ?_ ?_
          · intro G H10 nG k10 e10
            exact ⟨k10, e10⟩
          · rintro G j H10 nG hj ⟨k10, e10⟩
            have hx : ps[j]? = some ps[j] := List.getElem?_eq_getElem hj
            generalize ps[j] = x at hx
            have hsucc := keep_succ (t := t') hx
            dsimp only [wipe, List.set]
            walk_at "z"
            refine ⟨rfl, ?_⟩
            walk_at "z"
            refine Z.ixL (v := .bl (t'.holds x.2)) (lstL (k10.get nin0 e9D)) (bl_at (by rw [List.getElem?_map, hx]; rfl)) ?_
            walk_at "z"
            cases hh : t'.holds x.2 with
            | true =>
              rw [hh, if_pos rfl] at hsucc
              walk_at "z"
              refine Z.ixL (lstL (k10.get nin0 e9p)) (atI_nat (refs_at hx)) ?_
              refine ⟨_, e10, Z.szl (m := 1000) (by rw [refs_len]; exact Nat.le_trans (keep_len _ _ _) (by omega)), k10.mut nG rfl, ?_⟩
              rw [upd_same, hsucc, refs_snoc]
            | false =>
              rw [hh, if_neg (by decide), List.append_nil] at hsucc
              walk_at "z"
              exact ⟨k10, by rw [hsucc]; exact e10⟩
          · rintro G H10 nG ⟨k10, e10⟩
            rw [List.take_length] at e10
            have e10f := k10.get nin0 e9
            have r10 := r9.kp0 k10
            walk_at "z"
            refine ⟨_, _, rfl, .lst e10f e10 rfl (by rw [refs_len]; have := keep_len t' ps ps.length; rw [List.take_length] at this; omega) ?_, ?_⟩
            · intro i u v hu hv
              rw [hu] at hv
              cases hv
              obtain ⟨x, hx, rfl⟩ := refs_of hu
              have hm : x ∈ ps := (List.mem_filter.mp (List.mem_of_getElem? hx)).1
              refine .plainT (r10 x hm) (r10 x hm) (by simp [Row.vs]) ?_
              intro z hz
              unfold Row.vs at hz
              simp only [List.mem_cons, List.not_mem_nil, or_false] at hz
              rcases hz with rfl | rfl | rfl | rfl <;> rfl
            walk_at "z"
            refine neRows (k10.get nin0 e9p) (k10.get nin0 e9g) r10 hs ?_
            walk_at "z"
            exact ⟨_, _, _, _, rfl, d9.kp0 k10, k10.get nin0 e9p, r10⟩
    · rintro σ' H3 ⟨y3, y4, y5, y6, rfl, d3, e3, r3⟩
      walk_at "z"
      exact q _

theorem all_mk {l : PySem.W.OpenLaw} {w : World} {K : PySem.W.Frag} {h : Heap} {mg : Str → Option Value} {fa : Addr} (X : K.In h) (G : h.Ns mainGlobals mg) (hfa : mg "law" = some (.ref fa))
    {od1 an1 : Option Addr} {sl1 : Array (Option Value)} {oc1 kV1 dc1 pm1 cd1 ct1 : Value} {f1 : Addr}
    {od2 an2 : Option Addr} {sl2 : Array (Option Value)} {oc2 kV2 dc2 pm2 cd2 ct2 : Value} {f2 : Addr}
    {od3 an3 : Option Addr} {sl3 : Array (Option Value)} {oc3 kV3 dc3 pm3 cd3 ct3 : Value} {f3 : Addr}
    {od4 an4 : Option Addr} {sl4 : Array (Option Value)} {oc4 kV4 dc4 pm4 cd4 ct4 : Value} {f4 : Addr}
    {od5 an5 : Option Addr} {sl5 : Array (Option Value)} {oc5 kV5 dc5 pm5 cd5 ct5 : Value} {f5 : Addr}
    {od6 an6 : Option Addr} {sl6 : Array (Option Value)} {oc6 kV6 dc6 pm6 cd6 ct6 : Value} {f6 : Addr}
    {od7 an7 : Option Addr} {sl7 : Array (Option Value)} {oc7 kV7 dc7 pm7 cd7 ct7 : Value} {f7 : Addr}
    {od8 an8 : Option Addr} {sl8 : Array (Option Value)} {oc8 kV8 dc8 pm8 cd8 ct8 : Value} {f8 : Addr}
    {od9 an9 : Option Addr} {sl9 : Array (Option Value)} {oc9 kV9 dc9 pm9 cd9 ct9 : Value} {f9 : Addr}
    {od10 an10 : Option Addr} {sl10 : Array (Option Value)} {oc10 kV10 dc10 pm10 cd10 ct10 : Value} {f10 : Addr}
    {od11 an11 : Option Addr} {sl11 : Array (Option Value)} {oc11 kV11 dc11 pm11 cd11 ct11 : Value} {f11 : Addr}
    {od12 an12 : Option Addr} {sl12 : Array (Option Value)} {oc12 kV12 dc12 pm12 cd12 ct12 : Value} {f12 : Addr}
    {od13 an13 : Option Addr} {sl13 : Array (Option Value)} {oc13 kV13 dc13 pm13 cd13 ct13 : Value} {f13 : Addr}
    {od14 an14 : Option Addr} {sl14 : Array (Option Value)} {oc14 kV14 dc14 pm14 cd14 ct14 : Value} {f14 : Addr}
    {od15 an15 : Option Addr} {sl15 : Array (Option Value)} {oc15 kV15 dc15 pm15 cd15 ct15 : Value} {f15 : Addr}
    {od16 an16 : Option Addr} {sl16 : Array (Option Value)} {oc16 kV16 dc16 pm16 cd16 ct16 : Value} {f16 : Addr}
    (a1 : PySem.W.nsIn K mainGlobals "parts_first" = some (some (.ref f1)))
    (l1 : K.lookup f1 = some ⟨oc1, od1, .func (PySem.W.fnOf "parts_first" "parts_first" (defArgs s_parts_first) (defBody s_parts_first) (defScope s_parts_first) .none kV1 dc1 pm1 an1 cd1 ct1), sl1⟩)
    (c1 : PySem.W.codeIn K cd1 "parts_first" = true)
    (k1 : PySem.W.keepIn K (.ref f1) = true)
    (a2 : PySem.W.nsIn K mainGlobals "compares" = some (some (.ref f2)))
    (l2 : K.lookup f2 = some ⟨oc2, od2, .func (PySem.W.fnOf "compares" "compares" (defArgs s_compares) (defBody s_compares) (defScope s_compares) .none kV2 dc2 pm2 an2 cd2 ct2), sl2⟩)
    (c2 : PySem.W.codeIn K cd2 "compares" = true)
    (k2 : PySem.W.keepIn K (.ref f2) = true)
    (a3 : PySem.W.nsIn K mainGlobals "atom_holds" = some (some (.ref f3)))
    (l3 : K.lookup f3 = some ⟨oc3, od3, .func (PySem.W.fnOf "atom_holds" "atom_holds" (defArgs s_atom_holds) (defBody s_atom_holds) (defScope s_atom_holds) .none kV3 dc3 pm3 an3 cd3 ct3), sl3⟩)
    (c3 : PySem.W.codeIn K cd3 "atom_holds" = true)
    (k3 : PySem.W.keepIn K (.ref f3) = true)
    (a4 : PySem.W.nsIn K mainGlobals "last_holds" = some (some (.ref f4)))
    (l4 : K.lookup f4 = some ⟨oc4, od4, .func (PySem.W.fnOf "last_holds" "last_holds" (defArgs s_last_holds) (defBody s_last_holds) (defScope s_last_holds) .none kV4 dc4 pm4 an4 cd4 ct4), sl4⟩)
    (c4 : PySem.W.codeIn K cd4 "last_holds" = true)
    (k4 : PySem.W.keepIn K (.ref f4) = true)
    (a5 : PySem.W.nsIn K mainGlobals "held" = some (some (.ref f5)))
    (l5 : K.lookup f5 = some ⟨oc5, od5, .func (PySem.W.fnOf "held" "held" (defArgs s_held) (defBody s_held) (defScope s_held) .none kV5 dc5 pm5 an5 cd5 ct5), sl5⟩)
    (c5 : PySem.W.codeIn K cd5 "held" = true)
    (k5 : PySem.W.keepIn K (.ref f5) = true)
    (a6 : PySem.W.nsIn K mainGlobals "held_items" = some (some (.ref f6)))
    (l6 : K.lookup f6 = some ⟨oc6, od6, .func (PySem.W.fnOf "held_items" "held_items" (defArgs s_held_items) (defBody s_held_items) (defScope s_held_items) .none kV6 dc6 pm6 an6 cd6 ct6), sl6⟩)
    (c6 : PySem.W.codeIn K cd6 "held_items" = true)
    (k6 : PySem.W.keepIn K (.ref f6) = true)
    (a7 : PySem.W.nsIn K mainGlobals "_law_draws" = some (some (.ref f7)))
    (l7 : K.lookup f7 = some ⟨oc7, od7, .func (PySem.W.fnOf "_law_draws" "_law_draws" (defArgs s__law_draws) (defBody s__law_draws) (defScope s__law_draws) .none kV7 dc7 pm7 an7 cd7 ct7), sl7⟩)
    (c7 : PySem.W.codeIn K cd7 "_law_draws" = true)
    (k7 : PySem.W.keepIn K (.ref f7) = true)
    (a8 : PySem.W.nsIn K mainGlobals "_law_take" = some (some (.ref f8)))
    (l8 : K.lookup f8 = some ⟨oc8, od8, .func (PySem.W.fnOf "_law_take" "_law_take" (defArgs s__law_take) (defBody s__law_take) (defScope s__law_take) .none kV8 dc8 pm8 an8 cd8 ct8), sl8⟩)
    (c8 : PySem.W.codeIn K cd8 "_law_take" = true)
    (k8 : PySem.W.keepIn K (.ref f8) = true)
    (a9 : PySem.W.nsIn K mainGlobals "_law_same" = some (some (.ref f9)))
    (l9 : K.lookup f9 = some ⟨oc9, od9, .func (PySem.W.fnOf "_law_same" "_law_same" (defArgs s__law_same) (defBody s__law_same) (defScope s__law_same) .none kV9 dc9 pm9 an9 cd9 ct9), sl9⟩)
    (c9 : PySem.W.codeIn K cd9 "_law_same" = true)
    (k9 : PySem.W.keepIn K (.ref f9) = true)
    (a10 : PySem.W.nsIn K mainGlobals "_law_name" = some (some (.ref f10)))
    (l10 : K.lookup f10 = some ⟨oc10, od10, .func (PySem.W.fnOf "_law_name" "_law_name" (defArgs s__law_name) (defBody s__law_name) (defScope s__law_name) .none kV10 dc10 pm10 an10 cd10 ct10), sl10⟩)
    (c10 : PySem.W.codeIn K cd10 "_law_name" = true)
    (k10 : PySem.W.keepIn K (.ref f10) = true)
    (a11 : PySem.W.nsIn K mainGlobals "_law_items" = some (some (.ref f11)))
    (l11 : K.lookup f11 = some ⟨oc11, od11, .func (PySem.W.fnOf "_law_items" "_law_items" (defArgs s__law_items) (defBody s__law_items) (defScope s__law_items) .none kV11 dc11 pm11 an11 cd11 ct11), sl11⟩)
    (c11 : PySem.W.codeIn K cd11 "_law_items" = true)
    (k11 : PySem.W.keepIn K (.ref f11) = true)
    (a12 : PySem.W.nsIn K mainGlobals "_law_number" = some (some (.ref f12)))
    (l12 : K.lookup f12 = some ⟨oc12, od12, .func (PySem.W.fnOf "_law_number" "_law_number" (defArgs s__law_number) (defBody s__law_number) (defScope s__law_number) .none kV12 dc12 pm12 an12 cd12 ct12), sl12⟩)
    (c12 : PySem.W.codeIn K cd12 "_law_number" = true)
    (k12 : PySem.W.keepIn K (.ref f12) = true)
    (a13 : PySem.W.nsIn K mainGlobals "_law_condition" = some (some (.ref f13)))
    (l13 : K.lookup f13 = some ⟨oc13, od13, .func (PySem.W.fnOf "_law_condition" "_law_condition" (defArgs s__law_condition) (defBody s__law_condition) (defScope s__law_condition) .none kV13 dc13 pm13 an13 cd13 ct13), sl13⟩)
    (c13 : PySem.W.codeIn K cd13 "_law_condition" = true)
    (k13 : PySem.W.keepIn K (.ref f13) = true)
    (a14 : PySem.W.nsIn K mainGlobals "_law_held" = some (some (.ref f14)))
    (l14 : K.lookup f14 = some ⟨oc14, od14, .func (PySem.W.fnOf "_law_held" "_law_held" (defArgs s__law_held) (defBody s__law_held) (defScope s__law_held) .none kV14 dc14 pm14 an14 cd14 ct14), sl14⟩)
    (c14 : PySem.W.codeIn K cd14 "_law_held" = true)
    (k14 : PySem.W.keepIn K (.ref f14) = true)
    (a15 : PySem.W.nsIn K mainGlobals "_law_near" = some (some (.ref f15)))
    (l15 : K.lookup f15 = some ⟨oc15, od15, .func (PySem.W.fnOf "_law_near" "_law_near" (defArgs s__law_near) (defBody s__law_near) (defScope s__law_near) .none kV15 dc15 pm15 an15 cd15 ct15), sl15⟩)
    (c15 : PySem.W.codeIn K cd15 "_law_near" = true)
    (k15 : PySem.W.keepIn K (.ref f15) = true)
    (a16 : PySem.W.nsIn K mainGlobals "law" = some (some (.ref f16)))
    (l16 : K.lookup f16 = some ⟨oc16, od16, .func (PySem.W.fnOf "law" "law" (defArgs s_law) (defBody s_law) (defScope s_law) .none kV16 dc16 pm16 an16 cd16 ct16), sl16⟩)
    (c16 : PySem.W.codeIn K cd16 "law" = true)
    (k16 : PySem.W.keepIn K (.ref f16) = true)
    (z_abs : PySem.W.nsIn K mainGlobals "abs" = some none)
    (z_bool : PySem.W.nsIn K mainGlobals "bool" = some none)
    (z_int : PySem.W.nsIn K mainGlobals "int" = some none)
    (z_isinstance : PySem.W.nsIn K mainGlobals "isinstance" = some none)
    (z_len : PySem.W.nsIn K mainGlobals "len" = some none)
    (z_list : PySem.W.nsIn K mainGlobals "list" = some none)
    (z_range : PySem.W.nsIn K mainGlobals "range" = some none)
    (z_reversed : PySem.W.nsIn K mainGlobals "reversed" = some none)
    (z_str : PySem.W.nsIn K mainGlobals "str" = some none)
    (z_tuple : PySem.W.nsIn K mainGlobals "tuple" = some none) :
    ∃ fd : FuncData, (∀ (s : Shared) (v : Value), BindsTo s fd ⟨[v], []⟩ [("script", v)]) ∧ ∀ base : Heap, K.In base → base.Ns mainGlobals mg → FnOk l.prog w K mg base CX0 10 fa fd ["script"] (spLaw K) := by
  have e : f16 = fa := by
    have e := hfa.symm.trans (PySem.W.mg_of X G a16)
    cases e
    rfl
  subst e
  let t : T l.prog K mg := {
    a_parts_first := f1, fd_parts_first := _, F_parts_first := fun_mk (st := s_parts_first) l1 c1 k1, b_parts_first := (fun_mk (st := s_parts_first) l1 c1 k1).binds (ps := ["condition"]) (fun _ _ _ _ _ _ us hl => match us, hl with | [_], _ => rfl),
    g_parts_first := PySem.W.mg_of X G a1,
    a_compares := f2, fd_compares := _, F_compares := fun_mk (st := s_compares) l2 c2 k2, b_compares := (fun_mk (st := s_compares) l2 c2 k2).binds (ps := ["number", "sign", "other"]) (fun _ _ _ _ _ _ us hl => match us, hl with | [_, _, _], _ => rfl),
    g_compares := PySem.W.mg_of X G a2,
    a_atom_holds := f3, fd_atom_holds := _, F_atom_holds := fun_mk (st := s_atom_holds) l3 c3 k3, b_atom_holds := (fun_mk (st := s_atom_holds) l3 c3 k3).binds (ps := ["atom", "item"]) (fun _ _ _ _ _ _ us hl => match us, hl with | [_, _], _ => rfl),
    g_atom_holds := PySem.W.mg_of X G a3,
    a_last_holds := f4, fd_last_holds := _, F_last_holds := fun_mk (st := s_last_holds) l4 c4 k4, b_last_holds := (fun_mk (st := s_last_holds) l4 c4 k4).binds (ps := ["conditions", "item"]) (fun _ _ _ _ _ _ us hl => match us, hl with | [_, _], _ => rfl),
    g_last_holds := PySem.W.mg_of X G a4,
    a_held := f5, fd_held := _, F_held := fun_mk (st := s_held) l5 c5 k5, b_held := (fun_mk (st := s_held) l5 c5 k5).binds (ps := ["condition", "item"]) (fun _ _ _ _ _ _ us hl => match us, hl with | [_, _], _ => rfl),
    g_held := PySem.W.mg_of X G a5,
    a_held_items := f6, fd_held_items := _, F_held_items := fun_mk (st := s_held_items) l6 c6 k6, b_held_items := (fun_mk (st := s_held_items) l6 c6 k6).binds (ps := ["condition", "rows"]) (fun _ _ _ _ _ _ us hl => match us, hl with | [_, _], _ => rfl),
    g_held_items := PySem.W.mg_of X G a6,
    a__law_draws := f7, fd__law_draws := _, F__law_draws := fun_mk (st := s__law_draws) l7 c7 k7, b__law_draws := (fun_mk (st := s__law_draws) l7 c7 k7).binds (ps := ["script"]) (fun _ _ _ _ _ _ us hl => match us, hl with | [_], _ => rfl),
    g__law_draws := PySem.W.mg_of X G a7,
    a__law_take := f8, fd__law_take := _, F__law_take := fun_mk (st := s__law_take) l8 c8 k8, b__law_take := (fun_mk (st := s__law_take) l8 c8 k8).binds (ps := ["draws", "bound"]) (fun _ _ _ _ _ _ us hl => match us, hl with | [_, _], _ => rfl),
    g__law_take := PySem.W.mg_of X G a8,
    a__law_same := f9, fd__law_same := _, F__law_same := fun_mk (st := s__law_same) l9 c9 k9, b__law_same := (fun_mk (st := s__law_same) l9 c9 k9).binds (ps := ["actual", "due"]) (fun _ _ _ _ _ _ us hl => match us, hl with | [_, _], _ => rfl),
    g__law_same := PySem.W.mg_of X G a9,
    a__law_name := f10, fd__law_name := _, F__law_name := fun_mk (st := s__law_name) l10 c10 k10, b__law_name := (fun_mk (st := s__law_name) l10 c10 k10).binds (ps := ["draws"]) (fun _ _ _ _ _ _ us hl => match us, hl with | [_], _ => rfl),
    g__law_name := PySem.W.mg_of X G a10,
    a__law_items := f11, fd__law_items := _, F__law_items := fun_mk (st := s__law_items) l11 c11 k11, b__law_items := (fun_mk (st := s__law_items) l11 c11 k11).binds (ps := ["draws", "most"]) (fun _ _ _ _ _ _ us hl => match us, hl with | [_, _], _ => rfl),
    g__law_items := PySem.W.mg_of X G a11,
    a__law_number := f12, fd__law_number := _, F__law_number := fun_mk (st := s__law_number) l12 c12 k12, b__law_number := (fun_mk (st := s__law_number) l12 c12 k12).binds (ps := ["draws"]) (fun _ _ _ _ _ _ us hl => match us, hl with | [_], _ => rfl),
    g__law_number := PySem.W.mg_of X G a12,
    a__law_condition := f13, fd__law_condition := _, F__law_condition := fun_mk (st := s__law_condition) l13 c13 k13, b__law_condition := (fun_mk (st := s__law_condition) l13 c13 k13).binds (ps := ["draws", "depth"]) (fun _ _ _ _ _ _ us hl => match us, hl with | [_, _], _ => rfl),
    g__law_condition := PySem.W.mg_of X G a13,
    a__law_held := f14, fd__law_held := _, F__law_held := fun_mk (st := s__law_held) l14 c14 k14, b__law_held := (fun_mk (st := s__law_held) l14 c14 k14).binds (ps := ["condition", "item"]) (fun _ _ _ _ _ _ us hl => match us, hl with | [_, _], _ => rfl),
    g__law_held := PySem.W.mg_of X G a14,
    a__law_near := f15, fd__law_near := _, F__law_near := fun_mk (st := s__law_near) l15 c15 k15, b__law_near := (fun_mk (st := s__law_near) l15 c15 k15).binds (ps := ["draws", "condition", "items"]) (fun _ _ _ _ _ _ us hl => match us, hl with | [_, _, _], _ => rfl),
    g__law_near := PySem.W.mg_of X G a15,
    a_law := f16, fd_law := _, F_law := fun_mk (st := s_law) l16 c16 k16, b_law := (fun_mk (st := s_law) l16 c16 k16).binds (ps := ["script"]) (fun _ _ _ _ _ _ us hl => match us, hl with | [_], _ => rfl),
    g_law := PySem.W.mg_of X G a16,
    z_abs := PySem.W.mg_none_of X G z_abs,
    z_bool := PySem.W.mg_none_of X G z_bool,
    z_int := PySem.W.mg_none_of X G z_int,
    z_isinstance := PySem.W.mg_none_of X G z_isinstance,
    z_len := PySem.W.mg_none_of X G z_len,
    z_list := PySem.W.mg_none_of X G z_list,
    z_range := PySem.W.mg_none_of X G z_range,
    z_reversed := PySem.W.mg_none_of X G z_reversed,
    z_str := PySem.W.mg_none_of X G z_str,
    z_tuple := PySem.W.mg_none_of X G z_tuple }
  exact ⟨t.fd_law, fun s v => .of_eq rfl, fun base _ _ => ok_law t⟩

end K02
open PySem PySem.W PyProof.Rows in
set_option maxRecDepth 100000 in
set_option maxHeartbeats 0 in
theorem PySem.Challenge.cw_samphire_k02_conditions_hold_holds : PySem.Challenge.rw_samphire_k02_conditions_hold.Holds := by
  w_on; o_law; k_head; (case hw => w_witness2)
  k_fill
  refine L2.walk_ofB (l := PySem.Challenge.rw_samphire_k02_conditions_hold) (n := 63) (k := 10) (x := "script") (CX := fun w => L2.CX0) (sp := fun w => K02.spLaw _) rfl (by decide) rfl ⟨rfl, by decide, by decide⟩ (fun w h Y => PySem.W.kIn_of Y) ?F (fun _ H a ns hl hb _ hS => ⟨a, ns, rfl, hS, hl, hb, fun _ => rfl⟩) (fun _ _ _ _ _ h => h)
  case F =>
    intro w mg fa h KX G hmg
    refine' K02.all_mk KX G hmg ?a1 ?l1 ?c1 ?k1 ?a2 ?l2 ?c2 ?k2 ?a3 ?l3 ?c3 ?k3 ?a4 ?l4 ?c4 ?k4 ?a5 ?l5 ?c5 ?k5 ?a6 ?l6 ?c6 ?k6 ?a7 ?l7 ?c7 ?k7 ?a8 ?l8 ?c8 ?k8 ?a9 ?l9 ?c9 ?k9 ?a10 ?l10 ?c10 ?k10 ?a11 ?l11 ?c11 ?k11 ?a12 ?l12 ?c12 ?k12 ?a13 ?l13 ?c13 ?k13 ?a14 ?l14 ?c14 ?k14 ?a15 ?l15 ?c15 ?k15 ?a16 ?l16 ?c16 ?k16 ?z_abs ?z_bool ?z_int ?z_isinstance ?z_len ?z_list ?z_range ?z_reversed ?z_str ?z_tuple
    (case a1 => k_is)
    (case l1 => k_is)
    (case c1 => k_is)
    (case k1 => k_is)
    (case a2 => k_is)
    (case l2 => k_is)
    (case c2 => k_is)
    (case k2 => k_is)
    (case a3 => k_is)
    (case l3 => k_is)
    (case c3 => k_is)
    (case k3 => k_is)
    (case a4 => k_is)
    (case l4 => k_is)
    (case c4 => k_is)
    (case k4 => k_is)
    (case a5 => k_is)
    (case l5 => k_is)
    (case c5 => k_is)
    (case k5 => k_is)
    (case a6 => k_is)
    (case l6 => k_is)
    (case c6 => k_is)
    (case k6 => k_is)
    (case a7 => k_is)
    (case l7 => k_is)
    (case c7 => k_is)
    (case k7 => k_is)
    (case a8 => k_is)
    (case l8 => k_is)
    (case c8 => k_is)
    (case k8 => k_is)
    (case a9 => k_is)
    (case l9 => k_is)
    (case c9 => k_is)
    (case k9 => k_is)
    (case a10 => k_is)
    (case l10 => k_is)
    (case c10 => k_is)
    (case k10 => k_is)
    (case a11 => k_is)
    (case l11 => k_is)
    (case c11 => k_is)
    (case k11 => k_is)
    (case a12 => k_is)
    (case l12 => k_is)
    (case c12 => k_is)
    (case k12 => k_is)
    (case a13 => k_is)
    (case l13 => k_is)
    (case c13 => k_is)
    (case k13 => k_is)
    (case a14 => k_is)
    (case l14 => k_is)
    (case c14 => k_is)
    (case k14 => k_is)
    (case a15 => k_is)
    (case l15 => k_is)
    (case c15 => k_is)
    (case k15 => k_is)
    (case a16 => k_is)
    (case l16 => k_is)
    (case c16 => k_is)
    (case k16 => k_is)
    (case z_abs => k_is)
    (case z_bool => k_is)
    (case z_int => k_is)
    (case z_isinstance => k_is)
    (case z_len => k_is)
    (case z_list => k_is)
    (case z_range => k_is)
    (case z_reversed => k_is)
    (case z_str => k_is)
    (case z_tuple => k_is)
