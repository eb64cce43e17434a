import PyProof.Rows.All
import Wide.All
import OpenK.AllK
import Wide.FinOn
import HandS.ForMost
import HandS.ForExc
import HandS.EndBits
import HandS.Wide
import HandS.IsInst
import HandS.ExcInit
import HandS.Nested
import KE.KExcSuper
import HandS.ExcIs
import HandS.ExcField
import HandS.Gcd
import HandS.Rev
import HandS.Walk
import HandS.Style
import HandS.FStr
import HandS.TryOnly
import KE.GoesEnumKw
import HandS.Text
import PySem.Challenge.RW_samphire_k01_items_as_texts
set_option Elab.async false
set_option linter.all false
set_option maxRecDepth 100000

/-! ### an own exception whose __init__ begins with super().__init__(..) -/
namespace Sup
open PySem PySem.Spec PyProof.Rows L2 NdefX
/-- what the written part says of such a class (at C), of its __init__ (at f; its code at c, its cell of the class at cc) -/
structure SupC (P : Program) (K : PySem.W.Frag) (mg : Str → Option Value) (C f c cc : Addr) : Prop where
  T : OexC K C
  cd : ∃ cd, PySem.W.clsIn K C = some cd
  code : ∃ occ cdd vs sl file tf, K.lookup c = some ⟨occ, cdd, .fields vs, sl⟩ ∧ vs[2]? = some (.str file tf) ∧ ((P.main.file : Str) == file) = true
  cell : ∃ cl cld sl, K.lookup cc = some ⟨cl, cld, .cell (some (.ref C)), sl⟩
  sub : PySem.W.mroIn K C (.ref C) = some true
  subV : PySem.W.subIn K (.ref C) (.type "ValueError") = some true
  zs : mg "super" = none
  any : PySem.W.nsIn K PySem.cStatics "thirdparty.any" = some none
  sup : PySem.W.ks_superIn K C C "__init__" = some (some (.builtin "ValueError.__init__"))
  top : (P.main.scope.names.lookup ("super" : Str)).isSome = false
section
variable {CX : CXT} {P : Program} {w : World} {K : PySem.W.Frag} {mg : Str → Option Value} {base : Heap} {N ps : List Str} {F : NF} {f C cc : Addr} {k : Nat} {sp : Sp}
/-- the body's first statement -/
abbrev supSt (arg : Expr) (p0 p1 p2 p3 p4 : Pos) : Stmt := .Expr (.Call (.Attribute (.Call (.Name "super" p0) [] [] p1) "__init__" p2) [arg] [] p3) p4
theorem callW {M : Model} {A : Around} {E : Value → Shared → Prop} {s : Shared} {i : String} {u x : Addr} {pos : Pos} {env : Env} {e : Expr} {Q : Value → Shared → Prop} (he : starEach [e] env = (false, eval e env) :: starEach [] env)
    (h : wpAny M A (spliced (backTo pos (starEach [e] env))) (fun vs s₁ => PySem.W.KxsAt i u x s₁.heap ∧ wpAny M A (call (.ref u) vs) Q E s₁) E s) : wpAny M A (callWith pos (.ref u) [] (backTo pos (starEach [e] env)) []) Q E s := by
  rw [he] at h ⊢
  refine PySem.W.kxs_callWith (i := i) (x := x) rfl ?_
  exact PySem.Calls.evalArgs_plain h
theorem fn_super {oc : Value} {od : Option Addr} {osl : Array (Option Value)} {doc pm ctv : Value} {arg : Expr} {rest : List Stmt} {p0 p1 p2 p3 p4 : Pos} {p : Str} {ps' : List Str}
    (T : SupC P K mg C f F.c cc) (lk : K.lookup f = some ⟨oc, od, .func (F.fd doc pm ctv), osl⟩) (hcl : F.cl = [(("__class__" : Str), cc)]) (hcd : PySem.W.codeIn K (.ref F.c) F.qual = true) (S : NScope N ps ["__class__"] F.scope) (hps : ps = p :: ps')
    (hpar : ∃ ar, (F.params.posonlyargs ++ F.params.args).head? = some ar ∧ ar.arg = p) (hsu : F.scope.names.lookup ("super" : Str) = some .globalImplicit) (hbd : F.body = supSt arg p0 p1 p2 p3 p4 :: rest)
    (hsw : ∀ L : Addr, swapsWith (.Call (.Attribute (.Call (.Name "super" p0) [] [] p1) "__init__" p2) [arg] [] p3) none p4.line (envF F f L) = pure false)
    (hev : ∀ L : Addr, ∃ pl, eval (.Call (.Attribute (.Call (.Name "super" p0) [] [] p1) "__init__" p2) [arg] [] p3) (envF F f L) = (do
        let ov ← attributeBase (.Call (.Name "super" p0) [] [] p1) "__init__" (envF F f L) (eval (.Call (.Name "super" p0) [] [] p1) (envF F f L))
        standAt p2.atName
        let (f', first) ← holding [ov] (getMethod ov "__init__" pl)
        callWith p3 f' first (backTo p3 (starEach [arg] (envF F f L))) []))
    (hst : ∀ L : Addr, starEach [arg] (envF F f L) = (false, eval arg (envF F f L)) :: starEach [] (envF F f L))
    (len : ∀ vs H Q E, sp vs H Q E → vs.length = ps.length)
    (hbody : ∀ (A : Around) (outer : List Env) (s : Shared) (H : Hp) (vs : List V) (Q : VK) (E : XK), Room k (A.deeper (envF F f s.heap.objs.size)) → sp vs H Q E →
      ∃ a vs' ta t, vs = .ref a :: vs' ∧ H a = some (exo a C none) ∧ PA (ncx CX P w K mg base N F f A outer s H E) [arg] ta ∧ PSs (ncx CX P w K mg base N F f A outer s H E) rest t ∧
        ta (startF N vs [none]) H (fun ws H1 => ws.length ≤ 1000 ∧ H1 a = some (exo a C none) ∧ t { nx := fun _ H' => Q .non H', rt := Q } (startF N vs [none]) H1)) :
    FnOk P w K mg base CX (k + 1) f (F.fd doc pm ctv) ps sp := by
  refine ⟨len, fun A outer s H args us vs Q E hr e0 hb r hsp => ?_⟩
  have KX : K.In s.heap := e0.mod.kin.keeps fun b o e => (e0.bs b o e).1
  have hl := len _ _ _ _ hsp
  have lim : s.heap.NoLimit := e0.mod.nolimit.keeps fun b o e => (e0.bs b o e).1
  refine codeAny_call_function hr.depth (KX _ _ lk) rfl S.co S.gen rfl (PySem.W.codeRec_of KX hcd) (hb _ _ _ _ ?_)
  refine wpAny_newFunctionEnv S.nocell (fun ⟨n, _⟩ hy => S.par n (List.of_mem_zip hy).1) (fun h₁ hns hsb => ⟨lim.fresh _ hsb, ?_⟩) S.kind
  show codeAny _ _ (.func F.body (envF F f s.heap.objs.size)) _ _
  refine PySem.ks_codeAny_funcAt ?_
  have kp : ∀ b o, s.heap.get? b = some o → h₁.get? b = some o := fun b o e => hsb.extBut b o (Nat.ne_of_lt (Heap.lt_size e)) (Heap.get?_push_of_some _ e)
  obtain ⟨a, vs', ta, t, hvs, ha, hta, ht, hq⟩ := hbody A outer s H vs Q E (hr.deeper _) hsp
  obtain ⟨cl, cld, csl, hcell⟩ := T.cell
  have hbc : base.get? cc = some ⟨cl, cld, .cell (some (.ref C)), csl⟩ := e0.mod.kin _ _ hcell
  have hlook : ∀ {y : Str} {c : Addr}, F.cl.lookup y = some c → y = "__class__" ∧ c = cc := fun {y c} e => by
    rw [hcl] at e
    by_cases hy : y = "__class__"
    · subst hy
      rw [show List.lookup ("__class__" : Str) [(("__class__" : Str), cc)] = some cc by simp [List.lookup]] at e
      exact ⟨rfl, (Option.some.inj e).symm⟩
    · have hb : (y == ("__class__" : Str)) = false := by simpa using hy
      rw [show List.lookup y [(("__class__" : Str), cc)] = none by simp [List.lookup, hb]] at e
      cases e
  have hlk : F.cl.lookup ("__class__" : Str) = some cc := by rw [hcl]; simp [List.lookup]
  have CA : CellsAt F.cl ["__class__"] [none] s.heap H := {
    len := rfl
    all := fun y c e => by
      obtain ⟨_, rfl⟩ := hlook e
      exact ⟨(e0.bs _ _ hbc).2, _, ⟨_, (e0.bs _ _ hbc).1, rfl⟩⟩
    inj := fun x y c e1 e2 => (hlook e1).1.trans (hlook e2).1.symm
    has := fun i y e => by
      match i, e with
      | 0, e =>
        have ey : ("__class__" : Str) = y := Option.some.inj e
        subst ey
        exact ⟨cc, hlk, fun v hv => by simp at hv⟩ }
  have I : Inv (ncx CX P w K mg base N F f A outer s H E) [] (startF N vs [none]) H { s with heap := h₁, toks := s.toks + (ps.zip us).length } := inv_startN S hr.hd e0 hl r CA hns kp
  have kI : K.In h₁ := KX.keeps kp
  have hN0 : N[0]? = some p := by
    have q := S.pre
    rw [hps] at q
    have z : (N.take ((p :: ps').length + 1))[0]? = some p := by
      have z := congrArg (fun l : List Str => l[0]?) q
      exact z
    rw [List.getElem?_take_of_lt (by simp)] at z
    exact z
  have hs0 : (startF N vs [none])[0]? = some (some (.ref a)) := by rw [hvs]; rfl
  have hploc : F.scope.names.lookup p = some .local := S.par p (by rw [hps]; exact List.mem_cons_self)
  obtain ⟨m, hnm, hlm⟩ := id I.loc
  obtain ⟨u0, ru0, hu0⟩ := hlm 0 p (.ref a) hN0 hs0 (.inl hploc)
  have eu0 : u0 = Value.ref a := ru0
  subst eu0
  have hself : m p = some (.ref a) := by
    rcases hu0 with ⟨_, z⟩ | ⟨z, _⟩
    · exact z
    · have z' : F.scope.names.lookup p = some .cell ∨ F.scope.names.lookup p = some .free := z
      rw [hploc] at z'
      rcases z' with z' | z' <;> cases z'
  obtain ⟨occ, cdd, cvs, csl2, file, tf, hcode, hvs2, hfile⟩ := T.code
  obtain ⟨cdD, hcdD⟩ := T.cd
  have hD : ∃ oD, h₁.get? C = some oD ∧ oD.data = .cls cdD := by
    have hD := hcdD
    unfold PySem.W.clsIn at hD
    split at hD
    · rename_i c d cd' sl ho
      cases hD
      exact ⟨_, kI _ _ ho, rfl⟩
    · cases hD
  obtain ⟨oD, hD1, hD2⟩ := hD
  obtain ⟨nm, q, N', bs, bm, sn, sub, ab, col, dd, k0, k1, k2, k3, k5, hC, hbm⟩ := T.T.cls
  obtain ⟨ar, har1, har2⟩ := hpar
  have hkc : F.scope.names.lookup ("__class__" : Str) = some .free := S.frk _ (by simp)
  obtain ⟨mb, hb1, hb2⟩ := I.mod.blt
  rw [hbd]
  obtain ⟨pl, he⟩ := hev s.heap.objs.size
  refine PySem.ks_wpAt_execs_cons (PySem.ks_wpAt_Expr_any (PySem.ks_wpAt_MethodCall (pl := pl) (PySem.ks_wpAt_super_base (fd := F.fd doc pm ctv) hsu hkc (by decide) rfl (kI _ _ lk) rfl har1 rfl (kI _ _ hcode) rfl hvs2 hfile T.top ?_) he) I.quiet (hsw _))
  -- the names
  refine PySem.W.ks_loadName_global S.kind hsu (Calls.loadGlobal_builtin (by exact I.mod.glob.keeps I.bk) T.zs (by exact hb1.keeps I.bk) ((hb2 _ (by decide)).trans (by decide +kernel)) ⟨rfl, ?_⟩)
  refine wpAny_loadName_free S.kind hkc hlk ⟨_, kI _ _ hcell, rfl⟩ ?_
  refine wpAny_loadName_local S.kind (by rw [har2]; exact hploc) hnm (by rw [har2]; exact hself) ?_
  refine PySem.ks_wpAny_isType_cls hD1 hD2 ⟨rfl, ?_⟩
  obtain ⟨t1, hox⟩ := exo_at I.hok ha
  refine PySem.ks_wpAny_call_super hD1 hD2 hox rfl (fun c e => by cases e) (PySem.W.looks_mroIn kI T.sub) (fun h' hso k' => ?_)
  have I2 : Inv (ncx CX P w K mg base N F f A outer s H E) [] (startF N vs [none]) H { s with heap := h', toks := s.toks + (ps.zip us).length } := I.kept (t' := s.toks + (ps.zip us).length) k'
  have kI2 : K.In h' := kI.keeps k'
  have hox2 : h'.get? a = some ({ cls := .ref C, dict := none, data := .fields #[.ref t1, .none, .none, .none, .bool false, .none] } : Obj) := k' _ _ hox
  have IA : PySem.W.InstAt h' a ({ cls := .ref C, dict := none, data := .fields #[.ref t1, .none, .none, .none, .bool false, .none] } : Obj) C none := ⟨hox2, rfl, rfl, trivial⟩
  have hal : PySem.W.alongIn K "__init__" ((cdD.mro.dropWhile (· != .ref C)).drop 1) = some (some (.builtin "ValueError.__init__")) := by
    have z := T.sup
    unfold PySem.W.ks_superIn at z
    rw [hcdD] at z
    exact z
  refine PySem.W.kxs_getMethod PySem.W.kxs_ValueError hso (PySem.W.looks_opaque kI2 T.any) (l₀ := cdD.mro) (fun A Q E s k q => wpAny_bind ((PySem.W.looks_clsIn kI2 hcdD) A _ E s k (wpAny_pure q))) rfl kI2 hal (IA.type.andThen (PySem.W.looks_subIn kI2 T.subV)) (PySem.W.ks_ne kI2 IA hcdD) (by decide) ?_
  -- the bound __init__ at u
  have ku : ∀ b o, h'.get? b = some o → (h'.push (PySem.W.kxs_mw "ValueError.__init__" a)).get? b = some o := fun b o e => Heap.get?_push_of_some _ e
  have I3 : Inv (ncx CX P w K mg base N F f A outer s H E) [] (startF N vs [none]) H { s with heap := h'.push (PySem.W.kxs_mw "ValueError.__init__" a), toks := s.toks + (ps.zip us).length + 1 } := I2.kept (t' := s.toks + (ps.zip us).length + 1) ku
  have hu : (h'.push (PySem.W.kxs_mw "ValueError.__init__" a)).get? h'.objs.size = some (PySem.W.kxs_mw "ValueError.__init__" a) := Heap.get?_push_at rfl rfl
  have I4 : Inv (ncx CX P w K mg base N F f A outer s H E) [(h'.objs.size, PySem.W.kxs_mw "ValueError.__init__" a)] (startF N vs [none]) H { s with heap := h'.push (PySem.W.kxs_mw "ValueError.__init__" a), toks := s.toks + (ps.zip us).length + 1 } := I3.pins_of fun p hp => by
    have hp1 := List.mem_singleton.mp hp
    subst hp1
    exact ⟨hu, I2.hok.fresh (Nat.le_refl _), fun z => absurd (z ▸ I2.lt) (Nat.lt_irrefl _), I2.nofs (Nat.le_refl _), fun v z => by cases z⟩
  refine callW (i := "ValueError.__init__") (x := a) (hst _) ?_
  refine thn (hta.run p3 _ _ _ H _ I4 hq) fun ws' s5 ⟨ws, H5, I5, r5, hlen, ha5, ht5⟩ => ?_
  have hu5 : s5.heap.get? h'.objs.size = some (PySem.W.kxs_mw "ValueError.__init__" a) := (I5.pin _ (List.mem_append_right _ (List.mem_singleton.mpr rfl))).1
  refine ⟨hu5, ?_⟩
  obtain ⟨t5, hox5⟩ := exo_at I5.hok ha5
  have hws : ws'.length ≤ sizeLine := by
    rw [← Paired.length r5, sizeLine_eq]
    omega
  have I6 : Inv (ncx CX P w K mg base N F f A outer s H E) [] (startF N vs [none]) H5 s5 := I5.pins_of fun p hp => absurd hp (by simp)
  obtain ⟨h5, g5, d5, k5', os5⟩ := s5
  have hC5 := I5.kIn _ _ hC
  show wpAny _ _ (call (.ref h'.objs.size) ws') _ _ _
  refine wpAny_call (codeAny_of_tree ?_)
  show wpAny _ _ (callAny (.ref h'.objs.size) ⟨ws', []⟩) _ _ _
  simp only [callAny]
  refine wpAny_bind (wpAny_load hu5 ?_)
  simp only [PySem.W.kxs_mw, show (Value.type "method-wrapper" == Value.type "method" || Value.type "method-wrapper" == Value.type "builtin_function_or_method" || Value.type "method-wrapper" == Value.type "method-wrapper") = true by decide, if_true]
  refine PySem.W.KFB.if_so (by decide) ?_
  refine wpAny_bind (PySem.W.check_bound_init PySem.F.excBase_ValueError.toExcCallFacts hC5 hox5 rfl ?_)
  refine wpAny_bind (wpAny_pure (wpAny_pure ?_))
  refine ⟨plainId_quiet PySem.F.excBase_ValueError.init.plain _, codeAny_builtin PySem.F.excBase_ValueError.initEntry ?_⟩
  refine PySem.W.exc_init_tree (cls := .ref C) (t0 := t5) (dv := none) (c2 := .none) (c3 := .none) (b4 := .bool false) hox5 hws (fun h6 k6 e6 _ => ?_)
  have J := I6.write (t' := k5') (x := a) (e := a) (o := exo a C none) (by rw [ha5]; exact True.intro) (.inl rfl) k6 ⟨_, e6⟩ (exo_ok e6)
  have eu : upd H5 a (exo a C none) = H5 := by
    funext b
    by_cases hb : b = a
    · rw [hb, upd_same, ha5]
    · rw [upd_ne hb]
  rw [eu] at J
  refine PySem.wpAt_of_wpAny (wpAny_mono (ht.run [] _ (startF N vs [none]) H5 _ J ht5) (fun fl s' hs => ?_) fun e s' hs => hs)
  have fin : ∀ {σ' : L2.St} {H' : Hp} {v : V} {u : Value}, Inv (ncx CX P w K mg base N F f A outer s H E) [] σ' H' s' → L2.RelV v u → Q v H' → CE outer P w H s Q u s' :=
    fun {σ' H' v u} J rv q => ⟨v, H', J.os, J.bare, J.base, J.hok, rv, q⟩
  cases fl with
  | ret u =>
    obtain ⟨v, σ', H', J, rv, q⟩ := hs
    exact fin J rv q
  | next =>
    obtain ⟨σ', H', J, q⟩ := hs
    exact fin (v := V.non) (u := Value.none) J rfl q
  | brk =>
    obtain ⟨_, _, _, q⟩ := hs
    exact False.elim q
  | cont =>
    obtain ⟨_, _, _, q⟩ := hs
    exact False.elim q
end
/-! ### an exception without fields, made -/
section
variable {X : Cx}
theorem mk_endN {pins : List (Addr × Obj)} {σ : L2.St} {H1 H2 : Hp} {Q : XK} {hp hp2 h2 : Heap} {g1 g2 : Array GenState} {d1 d2 : Drawn} {t1 t2 : Nat} {os1 os2 : OsState} {a C : Addr} (T : Raises X (.ref C)) (I1 : Inv X pins σ H1 ⟨hp, g1, d1, t1, os1⟩)
    (ha : hp.objs.size ≤ a) (k : ∀ b o, hp.get? b = some o → hp2.get? b = some o) (un : Un (frs X.stack) [] (upd H1 a (exo a C none)) H2 hp2 h2) (hok : HOk X.prog X.w H2 h2) (ho : os2 = os1) (hb : AllBare g2)
    (ea : H2 a = some (exo a C none)) (q : Q (.ref C) none (del H2 a)) : MkP X pins σ Q (.ref a) ⟨h2, g2, d2, t2, os2⟩ := by
  obtain ⟨t0, hoe⟩ := exo_at hok ea
  have hn : H1 a = none := I1.hok.fresh ha
  obtain ⟨G, g1', g2'⟩ := restrict h2 fun b => decide (b ≠ a)
  have gk : ∀ b, b ≠ a → G.get? b = h2.get? b := fun b hb => g1' b (decide_eq_true hb)
  have ge : G.get? a = none := g2' a (by simp)
  have nha : ∀ {b : Addr} {o : Obj}, hp.get? b = some o → b ≠ a := fun {b o} z => Nat.ne_of_lt (Nat.lt_of_lt_of_le (Heap.lt_size z) ha)
  have up : ∀ {b : Addr}, b ≠ a → H1 b = none → upd H1 a (exo a C none) b = none := fun {b} hb n => by rw [upd_ne hb]; exact n
  have U : Un (frs X.stack) [] H1 (del H2 a) hp G := {
    keep := fun b o z n hf hx => by
      rw [gk b (nha z)]
      exact un.keep b o (k b o z) (up (nha z) n) hf hx
    slot := fun b o z n hf hx => by
      rw [gk b (nha z)]
      exact un.slot b o (k b o z) (up (nha z) n) hf hx
    free := fun b o z n hx => by
      rw [del_ne (nha z)]
      exact un.free b o (k b o z) (up (nha z) n) hx
    there := fun b o z hx => by
      rw [gk b (nha z)]
      exact un.there b o (k b o z) hx
    tups := fun b xs z => by
      rw [del_ne (ne_of_none z hn)]
      exact un.tups b xs (by rw [upd_ne (ne_of_none z hn)]; exact z)
    frzs := fun b o v z => by
      rw [del_ne (ne_of_none z hn)]
      exact un.frzs b o v (by rw [upd_ne (ne_of_none z hn)]; exact z)
    tbls := fun b ps z => by
      rw [del_ne (ne_of_none z hn)]
      exact un.tbls b ps (by rw [upd_ne (ne_of_none z hn)]; exact z) }
  have hok3 : HOk X.prog X.w (del H2 a) G := fun b o z => by
    have hba : b ≠ a := fun e => by
      rw [e, del_same] at z
      cases z
    rw [del_ne hba] at z
    have noa : ∀ {c : Addr}, H2 c = some (.own b) → c ≠ a := fun {c} hc => at_ne ea hc exo_own
    exact (hok b o z).stay (fun c v hc y => by
        have hca : c ≠ a := by
          rcases hc with hc | hc
          · rw [hc]
            exact hba
          · exact noa hc
        rw [gk c hca]
        exact y)
      (fun c hc => by rw [del_ne (noa hc)]; exact hc) (fun c xs hc => by rw [del_ne (at_ne ea hc exo_tup)]; exact hc)
  have J : Inv X pins σ (del H2 a) ⟨G, g2, d2, t2, os2⟩ := I1.call' (ch := []) ho U hok3 hb (fun b z => absurd z (by simp))
  refine ⟨a, _, _, ⟨G, g2, d2, t2, os2⟩, _, .ref C, none, rfl, J, fun b o z => ?_, ge, hoe, ⟨rfl, rfl⟩, rfl, rfl, del_same, rfl, hb, T, q⟩
  by_cases hba : b = a
  · rw [hba, ge] at z
    cases z
  · exact (gk b hba).symm.trans z
/-- C(), C's own __init__ keeping sp and making no field -/
def tMkN (C : Addr) (sp : Sp) : L2.St → Hp → XK → Prop := fun _ H Q => ∀ a, H a = none → sp [.ref a] (upd H a (exo a C none)) (fun v H2 => v = .non ∧ H2 a = some (exo a C none) ∧ Q (.ref C) none (del H2 a)) (fun _ _ _ => False)
theorem pmk_oexN {CX : CXT} {x : Str} {C fI : Addr} {k : Nat} {fd : FuncData} {ps : List Str} {sp : Sp} {p pos : Pos} (T : OexC X.K C) (iC : PySem.W.findIn X.K (.ref C) "__init__" = some (some (.ref fI))) (tI : PySem.W.typeIn X.K (.ref fI) = some (.type "function"))
    (F1 : FnOk X.prog X.w X.K X.mg X.base CX k fI fd ps sp) (hr : Room (k + 1) X.A) (hb : Binds X.K fd ps []) (hx : Passes CX X (fun _ _ _ => False)) (hg : Gl X x) (hm : X.mg x = some (.ref C))
    (hdb : (x == ("__debug__" : Str)) = false := by decide) : PMk X (.Call (.Name x p) [] [] pos) (tMkN C sp) := by
  intro pins s σ H1 Q I1 q1
  obtain ⟨nm, q, N, bs, bm, sn, sub, ab, col, dd, k0, k1, k2, k3, k5, hC, hbm⟩ := T.cls
  refine wpAny_Call_Name_kw (ld_glob I1 hg hm ?_ hdb)
  refine PySem.W.callWith_K0 I1.kIn T.kC ?_
  show wpAny _ _ (call (.ref C) []) _ _ _
  obtain ⟨hp, g, dr, tk, os⟩ := s
  have hsz : hp.objs.size ≤ hp.objs.size + 1 := Nat.le_succ _
  have hn : H1 (hp.objs.size + 1) = none := I1.hok.fresh hsz
  have hq := q1 (hp.objs.size + 1) hn
  have kk : ∀ b o, hp.get? b = some o → ((hp.push (PySem.W.kdv_tup [])).push (PySem.HandSPX.excO C hp.objs.size)).get? b = some o := fun b o e => Heap.get?_push_of_some _ (Heap.get?_push_of_some _ e)
  have hget : ((hp.push (PySem.W.kdv_tup [])).push (PySem.HandSPX.excO C hp.objs.size)).get? (hp.objs.size + 1) = some (PySem.HandSPX.excO C hp.objs.size) := by heap_get
  have I2 : Inv X pins σ (upd H1 (hp.objs.size + 1) (exo (hp.objs.size + 1) C none)) ⟨(hp.push (PySem.W.kdv_tup [])).push (PySem.HandSPX.excO C hp.objs.size), g, dr, tk, os⟩ :=
    I1.laid (t' := tk) (a := hp.objs.size + 1) (o := exo (hp.objs.size + 1) C none) (h' := (hp.push (PySem.W.kdv_tup [])).push (PySem.HandSPX.excO C hp.objs.size)) kk hsz (exo_ok hget)
  have r2 : Vals [V.ref (hp.objs.size + 1)] [Value.ref (hp.objs.size + 1)] := .cons rfl .nil
  have hl : ([Value.ref (hp.objs.size + 1)] ++ []).length = ps.length := by
    have e := r2.length
    rw [F1.len _ _ _ _ hq] at e
    exact e.symm
  refine wpAny_call (PySem.HandSPX.call_own PySem.F.excBase_ValueError (fun Y => PySem.HandSPX.refsVE_contains Y bm hbm) (I1.kIn _ _ hC) (PySem.W.looks_findIn I1.kIn iC) (fun self => PySem.W.bind_fn I1.kIn self tI) (Nat.zero_le _)
    (codeAny_mono (F1.run _ X.stack _ _ ⟨[Value.ref (hp.objs.size + 1)], []⟩ [Value.ref (hp.objs.size + 1)] _ _ (fun _ _ _ => False) (hr.make C [] []) (I2.env0.make C [] []) (hb _ [Value.ref (hp.objs.size + 1)] I2.kIn hl) r2 hq) fun r s' hq' => ?_))
  cases r with
  | error er => exact hx pins σ _ _ er s' I2 hq'
  | ok fl =>
    cases fl with
    | ret u =>
      obtain ⟨v, H2, os2, bare2, un2, hok2, rv, ev, ea, q2⟩ := hq'
      subst ev
      obtain ⟨h2, g2, d2, t2, os'⟩ := s'
      exact ⟨rv, mk_endN (raises_own T.exC T.tyC) I1 hsz kk un2 hok2 os2 bare2 ea q2⟩
    | next => exact False.elim hq'
    | brk => exact False.elim hq'
    | cont => exact False.elim hq'
end
/-! ### a call of a local name that holds a def, which may raise -/
section
variable {X : Cx} {CX : CXT} {k i : Nat} {f : Addr} {fd : FuncData} {ps : List Str} {sp : Sp} {E : L2.St → XK} {x : Str} {p pos : Pos} {e : Expr} {es : List Expr} {t : TA}
def tCallLS (i : Nat) (f : Addr) (sp : Sp) (E : L2.St → XK) (t : TA) : TE := fun σ H Q => σ[i]? = some (some (.ref f)) ∧ t σ H fun vs H1 => sp vs H1 Q (E σ)
theorem pe_callLS (F : FnOk X.prog X.w X.K X.mg X.base CX k f fd ps sp) (hr : Room k X.A) (hN : X.N[i]? = some x) (hv : Vis X.env.scope x) (hk : PySem.W.keepIn X.K (.ref f) = true) (hb : Binds X.K fd ps []) (hx : ∀ σ, PassesAt CX X σ (E σ)) (ha : PA X (e :: es) t)
    (hdb : (x == ("__debug__" : Str)) = false := by decide) (hcd : (x == ("__classdict__" : Str)) = false := by decide)
    (he : starEach (e :: es) X.env = (false, eval e X.env) :: starEach es X.env := by rfl) (hpl : (backTo pos (starEach es X.env)).any (·.1) = false := by rfl) : PE X (.Call (.Name x p) (e :: es) [] pos) (tCallLS i f sp E t) := by
  refine ⟨fun pins s σ H Q I h => ?_⟩
  obtain ⟨hs, ht⟩ := h
  refine wpAny_Call_Name_kw (thn ((pe_var (pos := p) hN hv hdb hcd).run pins s σ H (fun v H1 => v = .ref f ∧ H1 = H) I ⟨.ref f, hs, rfl, rfl⟩) fun u s1 ⟨v, H1, I1, r1, q1⟩ => ?_)
  obtain ⟨rfl, rfl⟩ := q1
  cases r1
  refine PySem.W.callWith_K (h₀ := X.base) I.ok.mod.kin hk (thn (ha.run pos pins s1 σ _ _ I1 ht) fun us s2 ⟨vs, H2, I2, r, q⟩ => ⟨I2.kIn, ?_⟩) he hpl
  exact run_fnS F hr hb (hx σ) I2 r q
end
/-! ### isinstance of a caught error of an own class without fields -/
def rIsX (K : PySem.W.Frag) (a : Addr) (cls : Value) (d : Option Addr) : List V → Hp → VK → Prop := fun xs H Q => ∃ (D : Addr) (c : V) (cv : Value) (b : Bool), cls = .ref D ∧ d = none ∧ ExcC K D ∧ xs = [.ref a, c] ∧ (∀ u, L2.RelV c u → u = cv) ∧ PySem.W.kitOne K (.ref D) cv = some b ∧ Q (.bl b) H
theorem call_isX {X : Cx} {a : Addr} {oe : Obj} {cls : Value} {d : Option Addr} {pn : List (Addr × Obj)} (hz : Zc cls d oe) (hf : ∃ vs, oe.data = .fields vs) : CallR (X.suite a ((a, oe) :: pn)) (.builtin "isinstance") (rIsX X.K a cls d) := by
  intro pins s σ H xs us Q I r h
  obtain ⟨D, c, cv, b, rfl, rfl, C, rfl, hc, e, q⟩ := h
  exact call_isE C hz hf pins s σ H [.ref a, c] us Q I r ⟨c, cv, b, rfl, hc, e, q⟩
/-! ### what a law's text says of an own exception -/
/-- ExcT C f c cc: the class at C over SamphireError .. over ValueError, with its own __init__ at f -/
structure ExcT (P : Program) (K : PySem.W.Frag) (mg : Str → Option Value) (name : Str) (C f c cc : Addr) : Prop where
  S : SupC P K mg C f c cc
  g : mg name = some (.ref C)
  iC : PySem.W.findIn K (.ref C) "__init__" = some (some (.ref f))
  tI : PySem.W.typeIn K (.ref f) = some (.type "function")
  is : ExcC K C
  te : PySem.W.exmOne K (.ref C) (.ref C) = some true
theorem ExcT.xf {P : Program} {K : PySem.W.Frag} {mg : Str → Option Value} {name : Str} {C f c cc : Addr} (T : ExcT P K mg name C f c cc) : XfC K C := ⟨T.is.hg, T.is.hk, T.is.hs, T.is.hd⟩
/-- what k_is finds, put together -/
theorem excT_mk {P : Program} {K : PySem.W.Frag} {mg : Str → Option Value} {name : Str} {C f c cc : Addr} {nm q : Str} {N : Addr} {bs bm : List Value} {sn : List Str} {sub : List Value} {ab : Bool} {col : Option Bool} {dd : Option Addr} {m0 m1 m2 m3 m5 : Option Value}
    {occ : Value} {cdd : Option Addr} {cvs : List Value} {csl : Array (Option Value)} {ccl : Value} {ccd : Option Addr} {ccs : Array (Option Value)}
    (xL : K.lookup C = some (excClassObj nm q C N bs bm true sn sub ab col dd m0 m1 m2 m3 m5 "ValueError.__new__")) (rv : PySem.HandSPX.refsVE bm = true)
    (sa : PySem.W.findIn K (.ref C) "__setattr__" = some (some (.builtin "object.__setattr__"))) (sB : PySem.W.subIn K (.ref C) (.type "BaseException") = some true) (tC : PySem.W.typeIn K (.ref C) = some (.type "type")) (kC : PySem.W.keepIn K (.ref C) = true)
    (code : K.lookup c = some ⟨occ, cdd, .fields cvs.toArray, csl⟩) (hfile : (match cvs with | _ :: _ :: .str file _ :: _ => (P.main.file : Str) == file | _ => false) = true)
    (cell : K.lookup cc = some ⟨ccl, ccd, .cell (some (.ref C)), ccs⟩) (mro : PySem.W.mroIn K C (.ref C) = some true) (sV : PySem.W.subIn K (.ref C) (.type "ValueError") = some true) (zs : mg "super" = none)
    (any : PySem.W.nsIn K PySem.cStatics "thirdparty.any" = some none) (sup : PySem.W.ks_superIn K C C "__init__" = some (some (.builtin "ValueError.__init__"))) (top : (P.main.scope.names.lookup ("super" : Str)).isSome = false)
    (g : mg name = some (.ref C)) (iC : PySem.W.findIn K (.ref C) "__init__" = some (some (.ref f))) (tI : PySem.W.typeIn K (.ref f) = some (.type "function")) (is : ExcC K C) (isc : PySem.W.isClsIn K C = true) (sC : PySem.W.subIn K (.ref C) (.ref C) = some true) : ExcT P K mg name C f c cc where
  S := {
    T := ⟨⟨nm, q, N, bs, bm, sn, sub, ab, col, dd, m0, m1, m2, m3, m5, xL, rv⟩, sa, sB, tC, kC⟩
    cd := ⟨_, by unfold PySem.W.clsIn; rw [xL] <;> rfl⟩
    code := by
      match cvs, code, hfile with
      | a :: b :: .str file tf :: r, code, hfile => exact ⟨_, _, _, _, file, tf, code, rfl, hfile⟩
    cell := ⟨_, _, _, cell⟩
    sub := mro
    subV := sV
    zs := zs
    any := any
    sup := sup
    top := top }
  g := g
  iC := iC
  tI := tI
  is := is
  te := PySem.W.exm_ref sB is.hd tC sC
end Sup

/-! ### list(reversed(a list)) -/
namespace RL
open PySem PySem.Spec PyProof.Rows RT L2
section
variable {prog : Program} {w : World} {A : Around} {E : Value → Shared → Prop} {s : Shared}
theorem extend_rev {R : Result → Shared → Prop} {S it l : Addr} {items : Array Value} {res : Value} {c₀ : Nat} (hh : A.handled = none) (hit : s.heap.IsRevIter it l ((items.size : Int) - 1)) (hl : s.heap.IsList l items) (hne : l ≠ it) (hSi : S ≠ it) (hSl : S ≠ l) (hn : items.size ≤ sizeLine)
    (hS : s.heap.get? S = some { cls := .type "list", data := .seq #[] c₀ })
    (hR : ∀ s' acc' c', Moved (S :: [it]) (fun a b => b = a) s s' → s'.heap.get? S = some { cls := .type "list", dict := none, data := .seq acc' c', slots := #[] } → ItemsOf (fun i v => items[items.size - 1 - i]? = some v) acc' items.size → R (.ok (.ret res)) s') :
    wpAny (model prog w) A.in1 (Builtin.List.listExtendWith (.ref S) (.ref it) res)
      (fun fin s' => match fin with | .done f => R (.ok f) s' | .again c' => c'.quiet = true ∧ codeAny (model prog w) A c' R s') (fun e s' => R (.error e) s') s := by
  have W := (Walks.listRev (prog := prog) (w := w) (A := A.in1) hh it l hne items).toS
  have hSf : S ∉ [it, l] := by simp only [List.mem_cons, List.not_mem_nil, or_false, not_or]; exact ⟨hSi, hSl⟩
  have hT : s.TypeIs (.ref it) "list_reverseiterator" := Heap.IsRevIter.typeIs hit
  have h1 : Builtin.List.listSameRef (.ref S) (.ref it) = false := by simp [Builtin.List.listSameRef, hSi]
  unfold Builtin.List.listExtendWith
  refine wpAny_bind (wpAny_typeOf hT ?_)
  rw [if_neg (by rw [h1]; decide)]
  refine wpAny_bind (wpAny_pyIter_revIter hit ?_)
  refine wpAny_bind (wpAny_holding ?_)
  unfold Builtin.List.listLengthHint
  refine wpAny_bind (wpAny_specialOf hT nolen_lri ?_)
  show wpAny _ A.in1 (specialOf (Value.ref it) (Str.ofString "__length_hint__") >>= _) _ _ _
  refine wpAny_bind (wpAny_specialOf hT hint_lri ?_)
  generalize hid : ("list_reverseiterator.__length_hint__" : String) = id0
  wp_delta
  rw [show splitId id0 = some ("list_reverseiterator", "__length_hint__") from by subst hid; decide +kernel]
  subst hid
  refine wpAny_bind (wpAny_isInstance (b := true) hT (by rw [isSubtype_type]; kernel_rfl) ?_)
  refine wpAny_pure ?_
  rw [if_neg (by decide)]
  have e0 : ((items.size : Nat) : Int) - 1 - ((0 : Nat) : Int) = (items.size : Int) - 1 := by omega
  refine wpAny_pure ⟨plainId_quiet F.plain_extend_loop _, codeAny_extend_loopS W hn _ hSf _ items.size 0 _ _ _ rfl (Nat.zero_le _) ⟨Nat.zero_le _, by rw [e0]; exact hit, hl⟩ hS (ItemsOf.nil _) fun s' acc' c' hm hS' hacc => ?_⟩
  exact hR s' acc' c' hm hS' hacc
theorem init_rev {R : Result → Shared → Prop} {S it l : Addr} {items : Array Value} (hh : A.handled = none) (hit : s.heap.IsRevIter it l ((items.size : Int) - 1)) (hl : s.heap.IsList l items) (hne : l ≠ it) (hSi : S ≠ it) (hSl : S ≠ l) (hn : items.size ≤ sizeLine)
    (hS : s.heap.get? S = some { cls := .type "list", data := .seq #[] })
    (hR : ∀ (h' : Heap) (tk : Nat) (acc : Array Value) (c' : Nat), (∀ b o, b ≠ S → b ≠ it → s.heap.get? b = some o → h'.get? b = some o) → h'.get? S = some { cls := .type "list", dict := none, data := .seq acc c', slots := #[] } → ItemsOf (fun i v => items[items.size - 1 - i]? = some v) acc items.size → R (.ok (.ret .none)) { s with heap := h', toks := tk }) :
    wpAny (model prog w) A.in1 (Builtin.«list.__init__» ⟨[.ref S, .ref it], []⟩)
      (fun fin s' => match fin with | .done f => R (.ok f) s' | .again c' => c'.quiet = true ∧ codeAny (model prog w) A c' R s') (fun e s' => R (.error e) s') s := by
  show wpAny _ A.in1 (do let old ← Builtin.List.listItems (.ref S); Builtin.List.listUpdate (.ref S) (fun _ => #[]); letGo old.toList.reverse; Builtin.List.listExtendWith (.ref S) (.ref it) .none) _ _ s
  refine wpAny_bind ?_
  unfold Builtin.List.listItems
  refine wpAny_bind (wpAny_seqItems hS rfl (wpAny_pure ?_))
  show wpAny _ A.in1 (updateSeq S (fun _ => #[]) >>= fun _ => letGo (#[] : Array Value).toList.reverse >>= fun _ => Builtin.List.listExtendWith (.ref S) (.ref it) .none) _ _ s
  refine wpAny_bind (wpAny_updateSeq hS rfl ?_)
  have hS₂ := Heap.get?_update_self (Obj.mapSeq (fun _ => (#[] : Array Value))) hS rfl
  have oth : ∀ b o, b ≠ S → s.heap.get? b = some o → (s.heap.update S (Obj.mapSeq (fun _ => (#[] : Array Value)))).get? b = some o :=
    fun b o hb e => (Heap.get?_update_other _ _ (Ne.symm hb)).trans e
  refine wpAny_bind (wpAny_letGo ?_)
  refine extend_rev (s := { s with heap := s.heap.update S (Obj.mapSeq (fun _ => (#[] : Array Value))) }) hh (hit.at fun o e => oth it o hSi.symm e) (by obtain ⟨o, ho, x⟩ := hl; exact ⟨o, oth l o hSl.symm ho, x⟩) hne hSi hSl hn hS₂ fun s' acc' c' hm hS' hacc => ?_
  rw [Moved.eq_with hm]
  exact hR s'.heap s'.toks acc' c' (fun b o hb hb2 e => hm.heap b o (by simp [hb, hb2]) (oth b o hb e)) hS' hacc
theorem call_list_rev {it l : Addr} {items : Array Value} {Q : Value → Shared → Prop} (hh : A.handled = none) (hit : s.heap.IsRevIter it l ((items.size : Int) - 1)) (hl : s.heap.IsList l items) (hne : l ≠ it) (hn : items.size ≤ sizeLine)
    (hQ : ∀ (h' : Heap) (tk : Nat) (acc : Array Value) (c' : Nat), (∀ b o, b ≠ it → s.heap.get? b = some o → h'.get? b = some o) → h'.get? s.heap.objs.size = some { cls := .type "list", dict := none, data := .seq acc c', slots := #[] } → ItemsOf (fun i v => items[items.size - 1 - i]? = some v) acc items.size → Q (.ref s.heap.objs.size) { s with heap := h', toks := tk }) :
    wpAny (model prog w) A (call (.type "list") [.ref it]) Q E s := by
  refine callType_codes (Q₁ := fun obj s₁ => obj = .ref s.heap.objs.size ∧ s₁ = { s with heap := s.heap.push { cls := .type "list", data := .seq #[] } }) F.called_list (F.typeCall_list_1 _) F.entry_list_init
    (code_list_new _ ⟨rfl, rfl⟩) fun obj s₁ h₁ => ?_
  obtain ⟨rfl, rfl⟩ := h₁
  have hS : (s.heap.push { cls := .type "list", data := .seq #[] }).get? s.heap.objs.size = some { cls := .type "list", data := .seq #[] } := Heap.get?_push_size _ rfl
  obtain ⟨oi, hoi, _⟩ := id hit
  obtain ⟨ol, hol, _⟩ := id hl
  refine ⟨⟨_, hS, rfl⟩, F.args_list_init_2 _ _, init_rev (A := A.in1) (s := { s with heap := s.heap.push { cls := .type "list", data := .seq #[] } }) hh (hit.at fun o e => Heap.get?_push_of_some _ e) (hl.push _) hne (Nat.ne_of_gt (Heap.lt_size hoi)) (Nat.ne_of_gt (Heap.lt_size hol)) hn hS fun h' tk acc c' hk hS' hacc => ?_⟩
  exact ⟨rfl, hQ h' tk acc c' (fun b o hb e => hk b o (Nat.ne_of_lt (Heap.lt_size e)) hb (Heap.get?_push_of_some _ e)) hS' hacc⟩
end
section
variable {X : Cx}
/-- list(reversed(xs)): a new list -/
def tListRev (K : PySem.W.Frag) (te : TE) : TE := fun σ H Q => te σ H fun x H1 => ∃ a xs, x = .ref a ∧ SqL K H1 a xs ∧ ∀ p, H1 p = none → Q (.ref p) (upd H1 p (.lst xs.reverse))
theorem pe_listRev {e : Expr} {te : TE} {p p2 pos pos2 : Pos} (hc : X.calm = true) (hg : Gl X "list") (hm : X.mg "list" = none) (hg2 : Gl X "reversed") (hm2 : X.mg "reversed" = none) (he : PE X e te)
    (hs : starEach [e] X.env = (false, eval e X.env) :: starEach [] X.env := by rfl)
    (hs2 : starEach [.Call (.Name "reversed" p2) [e] [] pos2] X.env = (false, eval (.Call (.Name "reversed" p2) [e] [] pos2) X.env) :: starEach [] X.env := by rfl) :
    PE X (.Call (.Name "list" p) [.Call (.Name "reversed" p2) [e] [] pos2] [] pos) (tListRev X.K te) := by
  refine ⟨fun pins s σ H Q I h => ?_⟩
  refine Call_ (ld_blt I hg hm boot_list (PyProof.Rows.callWith_type1 (args_cons (Call_ (ld_blt I hg2 hm2 PyProof.Rows.boot_reversed (PyProof.Rows.callWith_type1 (args_cons (thn (he.run pins s σ H _ I h) fun u s1 ⟨v, H1, I1, r1, q1⟩ => args_nil ?_) hs) hs rfl))) hs2) hs2 rfl))
  obtain ⟨a, xs, ev, hq, q⟩ := q1
  subst ev
  obtain rfl : u = Value.ref a := r1
  obtain ⟨its, rv, p', hz⟩ := I1.list hq
  refine call_reversed_list p'.isList (args_nil ?_)
  have k0 : ∀ b o, s1.heap.get? b = some o → (s1.heap.push (revObj a ((its.toArray.size : Int) - 1))).get? b = some o := fun b o e => Heap.get?_push_of_some _ e
  have hl := p'.isList
  obtain ⟨ol, hol, _⟩ := id hl
  have hne : a ≠ s1.heap.objs.size := Nat.ne_of_lt (Heap.lt_size hol)
  have hn : its.toArray.size ≤ sizeLine := by rw [List.size_toArray, ← rv.length]; exact hz
  refine call_list_rev (s := { s1 with heap := s1.heap.push (revObj a ((its.toArray.size : Int) - 1)) }) (I1.ok.hd hc) ⟨_, Heap.get?_push_size _ rfl, rfl, rfl⟩ (hl.push _) hne hn fun h' tk acc c' hk hS' hi => ?_
  have hle : s1.heap.objs.size ≤ (s1.heap.push (revObj a ((its.toArray.size : Int) - 1))).objs.size := by simp [Heap.push]
  have ea : acc.toList.toArray = acc := by simp
  exact ⟨.ref (s1.heap.push (revObj a ((its.toArray.size : Int) - 1))).objs.size, upd H1 (s1.heap.push (revObj a ((its.toArray.size : Int) - 1))).objs.size (.lst xs.reverse), I1.laid (t' := tk) (fun c o e => hk c o (Nat.ne_of_lt (Heap.lt_size e)) (k0 c o e)) hle (show ObjOk X.prog X.w _ _ _ (.lst xs.reverse) from ⟨by rw [List.length_reverse]; exact hz, acc.toList, c', vals_rev rv hi, by rw [ea]; exact hS'⟩), rfl, q _ (I1.hok.fresh hle)⟩
end
end RL
/-! ### xs.extend(a tuple) -/
namespace RL
open PySem PySem.Spec PyProof.Rows RT L2
theorem meets_extend_tup (l : Addr) (items : Array Value) (n : Nat) (b : Addr) (items2 : Array Value) (n2 : Nat) (o : Obj) (hc : o.cls = .type "tuple") (hd : o.data = .seq items2 n2) (hs1 : items.size + items2.size ≤ sizeLine) :
    Meets (Builtin.«list.extend» ⟨[.ref l, .ref b], []⟩) (fun _ R s => s.heap.get? l = some { cls := .type "list", dict := none, data := .seq items n, slots := #[] } ∧ s.heap.get? b = some o ∧ R (.ok (.ret Value.none)) { s with heap := s.heap.update l (Obj.mapSeq fun x => x ++ items2), toks := s.toks }) :=
  .of_wp fun prog w A R s h => by
    obtain ⟨hl, hb, h⟩ := h
    show wpAny _ _ (Builtin.List.listExtendWith (.ref l) (.ref b) .none) _ _ _
    unfold Builtin.List.listExtendWith
    refine wpAny_bind (wpAny_typeOf ⟨o, hb, hc⟩ ?_)
    have h1 : (Builtin.List.listSameRef (.ref l) (.ref b) || Value.type "tuple" == Value.type "list" || Value.type "tuple" == Value.type "tuple") = true := by simp
    simp only [h1, if_true]
    refine wpAny_bind ?_
    unfold Builtin.List.listItems
    refine wpAny_bind (wpAny_seqItems hb hd (wpAny_pure ?_))
    refine wpAny_bind ?_
    refine wpAny_bind (wpAny_seqItems hl rfl (wpAny_pure ?_))
    have hlong : ¬ (!items.isEmpty && Builtin.List.listTooLong (items.size + items2.size)) = true := by
      rw [notLongL hs1, Bool.and_false]
      exact Bool.false_ne_true
    rw [if_neg hlong]
    show wpAny _ _ (updateSeq l (· ++ items2) >>= fun _ => ret .none) _ _ s
    refine wpAny_bind (wpAny_updateSeq hl rfl (hz := by omega) (_hz' := by rw [Array.size_append]; omega) ?_)
    exact wpAny_pure ⟨_, rfl, h⟩
section
variable {X : Cx}
def rExtT : V → List V → Hp → VK → Prop := fun x vs H Q => ∃ l b xs zs, x = .ref l ∧ vs = [.ref b] ∧ H l = some (.lst xs) ∧ H b = some (.tup zs) ∧ xs.length + zs.length ≤ sizeLine ∧ Q .non (upd H l (.lst (xs ++ zs)))
theorem mt_extendT : MtM X "list.extend" rExtT := by
  intro pins s σ H x vs v us Q I rx rv h
  obtain ⟨l, b, xs, zs, rfl, rfl, hH, hB, hz, q⟩ := h
  cases rx
  obtain ⟨u, rfl, ru⟩ := rv.one
  cases ru
  obtain ⟨z, its, n, r, hl, e⟩ := I.lstM hH
  obtain ⟨its2, r2, ⟨o, ho, hc, n2, hd⟩, hz2⟩ := I.tuple (SqT.of hB)
  have hl2 := r2.length
  refine call_meets PySem.F.slot_list_extend ⟨_, e, rfl⟩ PySem.F.entry_list_extend (PySem.F.args_list_extend_2 _ _)
    (meets_extend_tup l its.toArray n b its2.toArray n2 o hc hd (by rw [List.size_toArray, List.size_toArray]; omega)) ⟨e, ho, ?_⟩
  refine ⟨.non, _, I.lset (its' := its ++ its2) hH e (by simp) (r.append r2) ?_, rfl, q⟩
  rw [List.length_append]
  omega
end
end RL
/-! ### enumerate(a list, start=k) -/
namespace RL
open PySem PySem.Spec PyProof.Rows L2
section
variable {M : Model} {A : Around} {E : Value → Shared → Prop} {s : Shared} {env : Env}
theorem callWith_type_kwB {pos : Pos} {T : String} {first : List Value} {args : List (Bool × Sem Value)} {keywords : List (Option Str × Sem Value)} {Q : Value → Shared → Prop}
    (hplain : args.any (·.1) = false) (hkw : keywords.any (·.1.isNone) = false)
    (h : wpAny M A (evalArgs (.type T) true args keywords) (fun a s₁ => wpAny M A (call (.type T) (first ++ a.pos) a.kw) Q E s₁) E s) :
    wpAny M A (callWith pos (.type T) first args keywords) Q E s := by
  unfold callWith
  refine wpAny_bind (wpAny_holding (wpAny_mono h (fun a s₁ h₁ => wpAny_bind (wpAny_standAt ?_)) fun _ _ x => x))
  simp only [hplain, hkw, Bool.or_false]
  refine wpAny_bind (wpAny_pure ?_)
  exact wpAny_bind (wpAny_mono h₁ (fun r s₂ hr => wpAny_bind (wpAny_holding (wpAny_point (wpAny_pure hr)))) fun _ _ x => x)
theorem callWith_type_kw {pos : Pos} {T : String} {e : Expr} {rest : List Expr} {kws : List Keyword} {Q : Value → Shared → Prop}
    (h : wpAny M A (spliced (backTo pos (starEach (e :: rest) env))) (fun vs s₁ => wpAny M A (evalAll ((backToKw pos (keywordEach kws env)).map (·.2)))
      (fun kvs s₂ => wpAny M A (call (.type T) vs (((backToKw pos (keywordEach kws env)).filterMap (·.1)).zip kvs)) Q E s₂) E s₁) E s)
    (he : backTo pos (starEach (e :: rest) env) = (false, eval e env) :: backTo pos (starEach rest env))
    (hplain : (backTo pos (starEach (e :: rest) env)).any (·.1) = false)
    (hall : (backToKw pos (keywordEach kws env)).all (·.1.isSome) = true)
    (hkw : (backToKw pos (keywordEach kws env)).any (·.1.isNone) = false) :
    wpAny M A (callWith pos (.type T) [] (backTo pos (starEach (e :: rest) env)) (backToKw pos (keywordEach kws env))) Q E s := by
  refine callWith_type_kwB hplain hkw ?_
  rw [he] at h ⊢
  exact evalArgs_kwB hall h
end
/-- the list at a as it stands at each turn, each item in a new pair, counted from k -/
def IteS (K : PySem.W.Frag) (a : Addr) (k : Int) : It :=
  ⟨fun i H => ∃ (xs : List V) (x : V), SqL K H a xs ∧ xs[i]? = some x, fun i H v H' => ∃ T x, v = .ref T ∧ H T = none ∧ H' = upd H T (.tup [.int (k + (i : Nat)), x]) ∧ ∀ xs, SqL K H a xs → xs[i]? = some x, fun i H => ∃ xs : List V, SqL K H a xs ∧ xs.length = i⟩
theorem turn_enumS {P : Program} {w : World} {K : PySem.W.Frag} {elts : List Expr} {kk : Nat} {tpos : Pos} (a e it : Addr) (k : Int) :
    Turn P w K (.Tuple elts kk tpos) (IteS K a k) [e, it] e (fun i h => (∃ old, IsEnum h e it (k + ((i : Nat) : Int)) old) ∧ h.IsListIter it a i ∧ e ≠ it ∧ e ≠ a ∧ a ≠ it) where
  mem := by simp
  obj := fun i h st b hb => by
    obtain ⟨⟨old, he⟩, ⟨o, ho, hc, hd⟩, _⟩ := st
    have e' : b = e ∨ b = it := by simpa using hb
    rcases e' with z | z
    · rw [z]; exact ⟨_, he, fun v q => nomatch q⟩
    · rw [z]; exact ⟨o, ho, fun v q => by rw [hd] at q; cases q⟩
  keep := fun i h h' st k => let ⟨⟨old, he⟩, hi, hne⟩ := st; ⟨⟨old, k e (by simp) _ he⟩, hi.at fun o q => k it (by simp) o q, hne⟩
  item := by
    intro X hP hw hK hc i pins s σ H E I hf st hg
    subst hP hw hK
    obtain ⟨⟨old, he⟩, hit, hne, hea, hai⟩ := st
    obtain ⟨xs, x, hq, hx⟩ := hg
    obtain ⟨its, rv, p, hz⟩ := I.list hq
    obtain ⟨u, hu, ru⟩ := rv.get hx
    have hel : e < s.heap.objs.size := Heap.lt_size he
    have hil : it < s.heap.objs.size := by obtain ⟨_, q, _⟩ := hit; exact Heap.lt_size q
    have D := Draws.list (prog := X.prog) (w := X.w) (A := X.A.in1) (I.ok.hd hc) it a hai its.toArray
    have hlt : i < its.toArray.size := by
      have := (List.getElem?_eq_some_iff.mp hu).1
      simpa using this
    refine wpAny_pyNext_enum_itemC D he ⟨hit, p.isList⟩ hlt hne (by simp [hne, hea]) fun u' h' tk hu' ho hst' hT hsz hk => ?_
    have euu : u' = u := by
      have z : its.toArray[i]? = some u := by simpa using hu
      rw [z] at hu'
      exact (Option.some.inj hu').symm
    subst euu
    refine ⟨_, rfl, wpAny_letOwnedTupleGo_enum (s := { s with heap := h', toks := tk + 1 }) ho fun h'' he' sb => ?_⟩
    have hT2 : h''.get? s.heap.objs.size = some { cls := .type "tuple", data := .seq #[.int (k + (i : Nat)) tk, u'] } := (sb.2 _ (Nat.ne_of_gt hel)).trans hT
    have new : ObjOk X.prog X.w (upd H s.heap.objs.size (.tup [.int (k + (i : Nat)), x])) h'' s.heap.objs.size (.tup [.int (k + (i : Nat)), x]) :=
      ⟨by show 2 ≤ sizeLine; decide, [.int (k + (i : Nat)) tk, u'], .cons ⟨_, rfl⟩ (.cons ru .nil), ⟨_, hT2, rfl, _, rfl⟩⟩
    have I1 : Inv X pins σ (upd H s.heap.objs.size (.tup [.int (k + (i : Nat)), x])) { s with heap := h'', toks := tk + 1 } :=
      I.turnedNew (ch := [e, it]) (fun b ob hb q => (sb.2 b (fun z => hb (by simp [z]))).trans (hk b ob (fun z => hb (by simp [z])) (fun z => hb (by simp [z])) q)) hf (Nat.le_refl _) new
    refine ⟨.ref s.heap.objs.size, _, I1, rfl, ⟨_, x, rfl, I.hok.fresh (Nat.le_refl _), rfl, fun ys hy => by rw [I.list_inj hy hq]; exact hx⟩, ⟨⟨u', ?_⟩, hst'.1.at fun o q => (sb.2 it (Ne.symm hne)).trans q, hne, hea, hai⟩, fun b hb => ?_⟩
    · have e1 : k + ((i + 1 : Nat) : Int) = k + (i : Int) + 1 := by omega
      rw [e1]; exact he'
    · have hb' : b < s.heap.objs.size := by
        have e' : b = e ∨ b = it := by simpa using hb
        rcases e' with z | z
        · rw [z]; exact hel
        · rw [z]; exact hil
      rw [upd_ne (Nat.ne_of_lt hb')]
      exact (hf b hb).1
  done := by
    intro X hP hw hK hc i pins s σ H E I hf st hg
    subst hP hw hK
    obtain ⟨⟨old, he⟩, hit, hne, hea, hai⟩ := st
    obtain ⟨xs, hq, hx⟩ := hg
    obtain ⟨its, rv, p, hz⟩ := I.list hq
    obtain ⟨f0, f1, f2, f3, f4, f5⟩ := hf it (by simp)
    have hl := rv.length
    have D := Draws.list (prog := X.prog) (w := X.w) (A := X.A.in1) (I.ok.hd hc) it a hai its.toArray
    have en : i = its.toArray.size := by rw [List.size_toArray]; omega
    subst en
    exact wpAny_pyNext_enum_endD D he ⟨hit, p.isList⟩ fun h' eb => ⟨rfl, I.turned (t' := s.toks) (fun b o hb q => eb b o hb q) f0 f1 f3 f4 f5⟩
  self := fun A i s Q E st h => let ⟨⟨_, he⟩, _⟩ := st; wpAny_pyIter_enum he h
def iEnumS (K : PySem.W.Frag) (ta : TA) (tk : TA) : TI := fun σ H R => ta σ H fun vs H1 => tk σ H1 fun zs H2 => ∃ a xs k, vs = [.ref a] ∧ zs = [.int k] ∧ -(2 ^ 63) ≤ k ∧ k < 2 ^ 63 ∧ SqL K H2 a xs ∧ R (IteS K a k) H2
theorem pi_enumS {X : Cx} {e e2 : Expr} {ta tk : TA} {p pos tpos kp : Pos} {elts : List Expr} {kk : Nat} (hg : Gl X "enumerate") (hm : X.mg "enumerate" = none) (ha : PA X [e] ta) (hkw : PK X [⟨some ("start" : Str), e2, kp⟩] tk)
    (he : backTo pos (starEach [e] X.env) = (false, eval e X.env) :: backTo pos (starEach [] X.env) := by rfl) (hpl : (backTo pos (starEach [e] X.env)).any (·.1) = false := by rfl)
    (hall : (backToKw pos (keywordEach [⟨some ("start" : Str), e2, kp⟩] X.env)).all (·.1.isSome) = true := by rfl) (hnone : (backToKw pos (keywordEach [⟨some ("start" : Str), e2, kp⟩] X.env)).any (·.1.isNone) = false := by rfl)
    (hks : (backToKw pos (keywordEach [⟨some ("start" : Str), e2, kp⟩] X.env)).filterMap (·.1) = [("start" : Str)] := by rfl) :
    PI X (.Tuple elts kk tpos) (.Call (.Name "enumerate" p) [e] [⟨some ("start" : Str), e2, kp⟩] pos) (iEnumS X.K ta tk) := by
  refine ⟨fun pins s σ H R I h => ?_⟩
  refine wpAny_Call_Name_kw (ld_blt I hg hm boot_enumerate (callWith_type_kw (thn (ha.run pos pins s σ H _ I h) fun us s0 ⟨vs, H0, I0, r0, q0⟩ => thn (hkw.run pos pins s0 σ H0 _ I0 q0) fun ws s1 ⟨zs, H1, I1, r2, q1⟩ => ?_) he hpl hall hnone))
  rw [hks]
  obtain ⟨a, xs, k, ex, ez, hk0, hk1, hq, q⟩ := q1
  subst ex ez
  cases r0 with
  | cons r rr =>
    cases rr
    cases r
    cases r2 with
    | cons r3 rr3 =>
      cases rr3
      obtain ⟨t, rfl⟩ := r3
      obtain ⟨its, rv, p', hz⟩ := I1.list hq
      have hal : a < s1.heap.objs.size := by obtain ⟨_, z, _⟩ := p'.isList; exact Heap.lt_size z
      refine enum_begins_start (begins_list a its.toArray) p'.isList hk0 hk1 fun h' he' hit hsz hk => wpAny_pyIter_enum he' ?_
      have I2 : Inv X pins σ H1 { s1 with heap := h' } := I1.kept (t' := s1.toks) hk
      refine ⟨s1.heap.objs.size + 1, [s1.heap.objs.size + 1, s1.heap.objs.size], _, _, H1, rfl, I2, turn_enumS a (s1.heap.objs.size + 1) s1.heap.objs.size k, ⟨⟨.none, ?_⟩, ⟨_, hit, rfl, ?_⟩, Nat.succ_ne_self _, Nat.ne_of_gt (Nat.lt_succ_of_lt hal), Nat.ne_of_lt hal⟩, fun b hb => ?_, q⟩
      · rw [show k + ((0 : Nat) : Int) = k by omega]
        exact he'
      · rfl
      · have e' : b = s1.heap.objs.size + 1 ∨ b = s1.heap.objs.size := by simpa using hb
        have hle : s1.heap.objs.size ≤ b := by
          rcases e' with z | z
          · rw [z]; exact Nat.le_add_right _ _
          · rw [z]; exact Nat.le_refl _
        exact I1.fpOk hle (I1.hok.fresh hle)
end RL
/-! ### a text times an int -/
namespace RL
open PySem PySem.Spec PyProof.Rows L2
def repS (z : Str) (k : Nat) : Str := ⟨(List.replicate k z.cps).foldl (· ++ ·) #[]⟩
theorem foldl_size : ∀ (l : List (Array Nat)) (a : Array Nat), (l.foldl (· ++ ·) a).toList = a.toList ++ (l.map Array.toList).flatten
  | [], a => by simp
  | x :: r, a => by
    rw [List.foldl_cons, foldl_size r (a ++ x), Array.toList_append, List.map_cons, List.flatten_cons, List.append_assoc]
theorem repS_tl (z : Str) (k : Nat) : TL.tl (repS z k) = (List.replicate k z.cps.toList).flatten := by
  show ((List.replicate k z.cps).foldl (· ++ ·) #[]).toList = _
  rw [foldl_size, List.map_replicate]
  rfl
theorem repS_len (z : Str) (k : Nat) : (repS z k).length = k * z.length := by
  show (repS z k).cps.size = _
  rw [← Array.length_toList]
  have h := repS_tl z k
  unfold TL.tl at h
  rw [h]
  simp [List.length_flatten]
  rfl
def rMulS : R2 := fun x y H Q => ∃ (z : Str) (k : Nat), x = .str z ∧ y = .int (k : Int) ∧ 2 ≤ k ∧ k ≤ 100000 ∧ 1 ≤ z.length ∧ z.length ≤ 100 ∧ Q (.str (repS z k)) H
theorem op_mulS {X : Cx} : OpR X (binaryOp .Mult) rMulS := by
  intro pins s σ H x y v u Q I rx ry h
  obtain ⟨z, k, rfl, rfl, hk, hk2, hz, hz2, q⟩ := h
  obtain ⟨t, rfl⟩ := rx
  obtain ⟨t', rfl⟩ := ry
  have hle : z.length * k ≤ 10000000 := by
    have h1 : z.length * k ≤ 100 * k := Nat.mul_le_mul_right k hz2
    omega
  have hno : ((((k : Nat) : Int) == 1) || z.length == 0) = false := by
    have h1 : (((k : Nat) : Int) == 1) = false := by
      apply beq_false_of_ne
      omega
    have h2 : (z.length == 0) = false := by
      apply beq_false_of_ne
      omega
    rw [h1, h2]; rfl
  refine PySem.P.mul_str ?_ ?_ ?_ ?_
  · have h1 : ¬ (k : Int) < -(2 ^ 63 : Int) := by omega
    have h2 : ¬ (k : Int) ≥ 2 ^ 63 := by omega
    rw [decide_eq_false h1, decide_eq_false h2]; rfl
  · intro _ _
    have h3 : (1000 : Int) ≤ (2 ^ 63 - 1) / (k : Int) := by
      rw [Int.le_ediv_iff_mul_le (by omega)]
      omega
    omega
  · intro _ _
    rw [Int.toNat_natCast]
    have hs : 10000000 ≤ sizeLine := by decide
    unfold Builtin.Str.tooLong
    exact decide_eq_false (by omega)
  · rw [if_neg (by omega), if_neg (by rw [hno]; decide)]
    rw [Int.toNat_natCast]
    have hl := repS_len z k
    have hs : 10000000 ≤ sizeLine := by decide
    have hc : k * z.length = z.length * k := Nat.mul_comm _ _
    refine ⟨?_, ⟨.str (repS z k), H, I.tok _, ⟨_, rfl⟩, q⟩⟩
    show (repS z k).length ≤ sizeLine
    omega
end RL

/-! ### Z: single steps of readings, for walking by with_reducible refine -/
namespace Z
open PySem L2
/-- all but what stands at M is as it was -/
def Kp (M : List Addr) (H H' : Hp) : Prop := ∀ b o, b ∉ M → H b = some o → H' b = some o
theorem Kp.refl {M : List Addr} (H : Hp) : Kp M H H := fun _ _ _ h => h
theorem Kp.trans {M : List Addr} {H H1 H2 : Hp} (a : Kp M H H1) (b : Kp M H1 H2) : Kp M H H2 := fun c o n h => b c o n (a c o n h)
theorem Kp.new {M : List Addr} {H : Hp} {p : Addr} {o : HO} (h : H p = none) : Kp M H (upd H p o) := fun b u _ e => by
  rw [upd_ne (ne_of_none e h)]
  exact e
theorem Kp.put {M : List Addr} {H : Hp} {p : Addr} {o : HO} (h : p ∈ M) : Kp M H (upd H p o) := fun b u n e => by
  rw [upd_ne (fun q => n (by rw [q]; exact h))]
  exact e
theorem Kp.sub {M M' : List Addr} {H H' : Hp} (a : Kp M H H') (h : ∀ x, x ∈ M → x ∈ M') : Kp M' H H' := fun b o n e => a b o (fun z => n (h b z)) e
theorem Kp.same {H H' : Hp} (a : Kp [] H H') : Same H H' := fun b o e => a b o (by simp) e
theorem Kp.of_same {M : List Addr} {H H' : Hp} (a : Same H H') : Kp M H H' := fun b o _ e => a b o e
theorem Kp.none {M : List Addr} {H H' : Hp} (a : Kp M H H') {p : Addr} (n : p ∉ M) (h : H' p = Option.none) : H p = Option.none := by
  cases q : H p with
  | none => rfl
  | some o =>
    rw [a p o n q] at h
    cases h
/-- what was not there may be forgotten from M -/
theorem Kp.drop {M : List Addr} {H H' : Hp} {p : Addr} (a : Kp (p :: M) H H') (h : H p = Option.none) : Kp M H H' := fun b o n e => a b o (by
  intro z
  rcases List.mem_cons.mp z with z | z
  · rw [z, h] at e
    cases e
  · exact n z) e
theorem Kp.get {M : List Addr} {H H' : Hp} (a : Kp M H H') {b : Addr} {o : HO} (n : b ∉ M) (e : H b = some o) : H' b = some o := a b o n e
theorem Kp.seq {M : List Addr} {K : PySem.W.Frag} {H H' : Hp} (e : Kp M H H') {a : Addr} {xs : List V} (n : a ∉ M) (h : SqL K H a xs) : SqL K H' a xs := by
  rcases h with (h | ⟨o, h⟩) | h
  · exact .inl (.inl (e _ _ n h))
  · exact .inl (.inr ⟨o, e _ _ n h⟩)
  · exact .inr h
theorem Kp.tup {M : List Addr} {K : PySem.W.Frag} {H H' : Hp} (e : Kp M H H') {a : Addr} {xs : List V} (n : a ∉ M) (h : SqT K H a xs) : SqT K H' a xs := by
  rcases h with (h | ⟨o, h⟩) | h
  · exact .inl (.inl (e _ _ n h))
  · exact .inl (.inr ⟨o, e _ _ n h⟩)
  · exact .inr h
/-- what H0 does not know may change -/
theorem Kp.mut {M : List Addr} {H0 H H' : Hp} {l : Addr} {o : HO} (a : Kp M H0 H) (h : H0 l = Option.none) (e : H' = upd H l o) : Kp M H0 H' := fun b u n z => by
  rw [e, upd_ne (ne_of_none z h)]
  exact a b u n z
theorem Kp.then1 {M : List Addr} {H0 H H' : Hp} {l : Addr} (a : Kp M H0 H) (b : Kp [l] H H') (h : H0 l = Option.none) : Kp M H0 H' := fun c o n e => b c o (by
  intro z
  rw [List.mem_singleton.mp z, h] at e
  cases e) (a c o n e)
/-- a new instance and its dict -/
theorem Kp.made {M : List Addr} {H : Hp} {x dx : Addr} {o u : HO} (nx : H x = Option.none) (nd : H dx = Option.none) : Kp M H (upd (upd H dx u) x o) := fun c o n e => by
  rw [upd_ne (ne_of_none e nx), upd_ne (ne_of_none e nd)]
  exact e
theorem none2 {H : Hp} {x dx l : Addr} {o u : HO} (h : upd (upd H dx u) x o l = Option.none) : H l = Option.none := by
  unfold upd at h
  split at h
  · cases h
  · split at h
    · cases h
    · exact h
theorem nin1 {a b : Addr} (h : b ≠ a) : b ∉ [a] := by simpa using h
theorem nin0 {b : Addr} : b ∉ ([] : List Addr) := by simp
theorem lstL {K : PySem.W.Frag} {H : Hp} {a : Addr} {xs : List V} (h : H a = some (.lst xs)) : SqL K H a xs := .inl (.inl h)
theorem tupT {K : PySem.W.Frag} {H : Hp} {a : Addr} {xs : List V} (h : H a = some (.tup xs)) : SqT K H a xs := .inl (.inl h)

theorem cxK {CX : CXT} {P : Program} {w : World} {K : PySem.W.Frag} {mg : Str → Option Value} {base : Heap} {N : List Str} {qual : Str} {scope : Scope} {f : Addr} {cd : Value} {A : Around} {outer : List Env} {s : Shared} {H : Hp} {E : XK} : (cxOf CX P w K mg base N qual scope f cd A outer s H E).K = K := rfl
/-! named readings of rules -/
def rLenN (K : PySem.W.Frag) : List V → Hp → VK → Prop := fun xs H Q => ∃ p ys, xs = [.ref p] ∧ (SqL K H p ys ∨ SqT K H p ys) ∧ Q (.int ys.length) H
theorem c_len {X : Cx} : CallR X (.builtin "len") (rLenN X.K) := call_len_seq
def rListN (K : PySem.W.Frag) : List V → Hp → VK → Prop := fun xs H Q => ∃ p ys, xs = [.ref p] ∧ (SqL K H p ys ∨ SqT K H p ys) ∧ ∀ l, H l = none → Q (.ref l) (upd H l (.lst ys))
theorem c_list {X : Cx} : CallR X (.type "list") (rListN X.K) := call_list_of
def rTupN (K : PySem.W.Frag) : List V → Hp → VK → Prop := fun xs H Q => ∃ p ys, xs = [.ref p] ∧ ((SqL K H p ys ∧ ∀ l, H l = none → Q (.ref l) (upd H l (.tup ys))) ∨ (SqT K H p ys ∧ Q (.ref p) H))
theorem c_tuple {X : Cx} : CallR X (.type "tuple") (rTupN X.K) := call_tuple_of
def rInt1 : List V → Hp → VK → Prop := fun xs H Q => (∃ i, xs = [.int i] ∧ Q (.int i) H) ∨ ∃ k, xs = [.bl k] ∧ Q (.int (if k then 1 else 0)) H
theorem c_int {X : Cx} : CallR X (.type "int") rInt1 := call_int1
def rAbs : List V → Hp → VK → Prop := fun xs H Q => ∃ i, xs = [.int i] ∧ Q (.int (if i < 0 then -i else i)) H
theorem c_abs {X : Cx} : CallR X (.builtin "abs") rAbs := call_abs
def rIsN : R2 := fun x y H Q => y = .non ∧ Q (.bl (decide (x = .non))) H
theorem o_isN {X : Cx} : OpR X (compareOp .Is) rIsN := op_isN
def rNotN : R2 := fun x y H Q => y = .non ∧ Q (.bl (!decide (x = .non))) H
theorem o_notN {X : Cx} : OpR X (compareOp .IsNot) rNotN := op_notN
def rAddS : R2 := fun x y H Q => ∃ i j, x = .str i ∧ y = .str j ∧ i.length + j.length ≤ sizeLine ∧ Q (.str (i ++ j)) H
theorem o_addS {X : Cx} : OpR X (binaryOp .Add) rAddS := op_add_str
def rInSg : R2 := fun x y H Q => ∃ (c : Nat) (z : Str), x = .str ⟨#[c]⟩ ∧ y = .str z ∧ Q (.bl (decide (c ∈ z.cps.toList))) H
theorem o_inSg {X : Cx} : OpR X (compareOp .In) rInSg := op_in_sign
def rNinSg : R2 := fun x y H Q => ∃ (c : Nat) (z : Str), x = .str ⟨#[c]⟩ ∧ y = .str z ∧ Q (.bl (!decide (c ∈ z.cps.toList))) H
theorem o_ninSg {X : Cx} : OpR X (compareOp .NotIn) rNinSg := op_notIn_sign
/-- // by a divisor of any sign -/
def CDivA (_ j : Int) : Prop := j ≠ 0 ∧ j.natAbs.log2 < 9000
theorem op_fdivA {X : Cx} : OpR X (binaryOp .FloorDiv) (rI CDivA fun i j => .int (i.fdiv j)) := opI fun i j _ _ _ _ _ hc q => PyProof.Rows.floordiv_int hc.1 q (.inl (PyProof.noPylong_of_log2 hc.2))
theorem divA {i j : Int} {b : Nat} (h : j ≠ 0) (hb : j.natAbs < 2 ^ b) (h0 : 0 < b) (h9 : b ≤ 9000) : CDivA i j := ⟨h, Nat.lt_of_lt_of_le (PySem.Flt.log2_lt_of h0 hb) h9⟩
def rLenS : List V → Hp → VK → Prop := fun xs H Q => ∃ x : Str, xs = [.str x] ∧ x.cps.size ≤ 10000000 ∧ Q (.int (x.cps.size : Nat)) H
theorem c_lens {X : Cx} : CallR X (.builtin "len") rLenS := fun pins s σ H xs us Q I r h => call_len pins s σ H xs us Q I r (by obtain ⟨x, rfl, hz, q⟩ := h; exact ⟨.str x, _, rfl, ⟨Nat.le_trans hz (by decide), rfl⟩, q⟩)
def rPopQ : V → List V → Hp → VK → Prop := rPop
section
variable {σ : St} {H : Hp} {Q : VK} {v x y : V} {ta tb tc te : TE} {tA : TT} {D : Ends} {t u ts : TS} {r : R2} {K : PySem.W.Frag} {i : Nat} {A B : Prop}
/-! values -/
theorem var (h : σ[i]? = some (some v)) (q : Q v H) : tVar i σ H Q := ⟨v, h, q⟩
theorem cst (q : Q v H) : tC v σ H Q := q
theorem op (h : ta σ H fun x H1 => tb σ H1 fun y H2 => r x y H2 Q) : tOp r ta tb σ H Q := h
theorem un {r : V → Hp → VK → Prop} (h : ta σ H fun x H1 => r x H1 Q) : tUn r ta σ H Q := h
theorem i0 {g : Int → Int → V} {a b : Int} (q : Q (g a b) H) : rI0 g (.int a) (.int b) H Q := ⟨a, b, rfl, rfl, q⟩
theorem iC {C : Int → Int → Prop} {g : Int → Int → V} {a b : Int} (c : C a b) (q : Q (g a b) H) : rI C g (.int a) (.int b) H Q := ⟨a, b, rfl, rfl, c, q⟩
theorem iU {g : Int → V} {a : Int} (q : Q (g a) H) : rU g (.int a) H Q := ⟨a, rfl, q⟩
theorem eqII {a b : Int} (q : Q (.bl (decide (a = b))) H) : rEq (.int a) (.int b) H Q := ⟨rfl, by
  have e : decide (V.int a = V.int b) = decide (a = b) := by simp
  rw [e]; exact q⟩
theorem neII {a b : Int} (q : Q (.bl (!decide (a = b))) H) : rNe (.int a) (.int b) H Q := ⟨rfl, by
  have e : decide (V.int a = V.int b) = decide (a = b) := by simp
  rw [e]; exact q⟩
theorem eqSS {a b : Str} (q : Q (.bl (decide (a = b))) H) : rEq (.str a) (.str b) H Q := ⟨rfl, by
  have e : decide (V.str a = V.str b) = decide (a = b) := by simp
  rw [e]; exact q⟩
theorem neSS {a b : Str} (q : Q (.bl (!decide (a = b))) H) : rNe (.str a) (.str b) H Q := ⟨rfl, by
  have e : decide (V.str a = V.str b) = decide (a = b) := by simp
  rw [e]; exact q⟩
theorem eqBB {a b : Bool} (q : Q (.bl (decide (a = b))) H) : rEq (.bl a) (.bl b) H Q := ⟨rfl, by
  have e : decide (V.bl a = V.bl b) = decide (a = b) := by simp
  rw [e]; exact q⟩
theorem neBB {a b : Bool} (q : Q (.bl (!decide (a = b))) H) : rNe (.bl a) (.bl b) H Q := ⟨rfl, by
  have e : decide (V.bl a = V.bl b) = decide (a = b) := by simp
  rw [e]; exact q⟩
theorem bl {b : Bool} {q : Bool → Hp → Prop} (h : q b H) : ∃ k, V.bl b = .bl k ∧ q k H := ⟨b, rfl, h⟩
theorem bl' {b : Bool} {q : Bool → Prop} (h : q b) : ∃ k, V.bl b = .bl k ∧ q k := ⟨b, rfl, h⟩
theorem test {Q : Bool → Hp → Prop} (h : te σ H fun x H' => ∃ k, x = .bl k ∧ Q k H') : tTest te σ H Q := h
theorem tbb {Q : Bool → Hp → Prop} (h : te σ H fun x H' => ∃ k, x = .bl k ∧ Q k H') : tB te σ H Q := h
theorem tand {a b : TT} {Q : Bool → Hp → Prop} (h : a σ H fun c H1 => if c = true then b σ H1 Q else Q false H1) : tAnd a b σ H Q := h
theorem tor {a b : TT} {Q : Bool → Hp → Prop} (h : a σ H fun c H1 => if c = true then Q true H1 else b σ H1 Q) : tOr a b σ H Q := h
theorem tnot {a : TT} {Q : Bool → Hp → Prop} (h : a σ H fun c H1 => Q (!c) H1) : tNot a σ H Q := h
theorem tyes {Q : Bool → Hp → Prop} (h : Q true H) : tYes σ H Q := h
theorem andV (h : ta σ H fun x H1 => ∃ c, x = .bl c ∧ if c = true then tb σ H1 Q else Q (.bl false) H1) : tAndV ta tb σ H Q := h
theorem orV (h : ta σ H fun x H1 => ∃ c, x = .bl c ∧ if c = true then Q (.bl true) H1 else tb σ H1 Q) : tOrV ta tb σ H Q := h
theorem notV (h : ta σ H fun x H1 => ∃ c, x = .bl c ∧ Q (.bl (!c)) H1) : tNotV ta σ H Q := h
theorem ifE (h : tA σ H fun c H1 => if c = true then ta σ H1 Q else tb σ H1 Q) : L2.tIf tA ta tb σ H Q := h
theorem chain {r r' : R2} (h : ta σ H fun x H1 => tb σ H1 fun y H2 => r x y H2 fun z H3 => ∃ k, z = .bl k ∧ (if k = true then tc σ H3 fun w' H4 => r' y w' H4 Q else Q (.bl false) H3)) : tChain r r' ta tb tc σ H Q := h
/-! branches -/
theorem ite {p : Prop} [Decidable p] (h1 : p → A) (h2 : ¬p → B) : if decide p = true then A else B := by
  by_cases h : p
  · rw [decide_eq_true h, if_pos rfl]; exact h1 h
  · rw [decide_eq_false h, if_neg Bool.false_ne_true]; exact h2 h
theorem iteN {p : Prop} [Decidable p] (h1 : ¬p → A) (h2 : p → B) : if (!decide p) = true then A else B := by
  by_cases h : p
  · rw [decide_eq_true h]; exact h2 h
  · rw [decide_eq_false h]; exact h1 h
theorem iteB {b : Bool} (h1 : b = true → A) (h2 : b = false → B) : if b = true then A else B := by
  cases b with
  | true => exact h1 rfl
  | false => exact h2 rfl
theorem yes {p : Prop} [Decidable p] (h : p) (q : A) : if decide p = true then A else B := by rw [decide_eq_true h, if_pos rfl]; exact q
theorem no {p : Prop} [Decidable p] (h : ¬p) (q : B) : if decide p = true then A else B := by rw [decide_eq_false h, if_neg Bool.false_ne_true]; exact q
theorem yesN {p : Prop} [Decidable p] (h : ¬p) (q : A) : if (!decide p) = true then A else B := by rw [decide_eq_false h]; exact q
theorem noN {p : Prop} [Decidable p] (h : p) (q : B) : if (!decide p) = true then A else B := by rw [decide_eq_true h]; exact q
theorem yesB (q : A) : if true = true then A else B := q
theorem noNB (q : B) : if (!true) = true then A else B := q
theorem yesNB (q : A) : if (!false) = true then A else B := q
theorem noB (q : B) : if false = true then A else B := q
/-! calls -/
theorem nil {Q : List V → Hp → Prop} (q : Q [] H) : tNil σ H Q := q
theorem cons {Q : List V → Hp → Prop} {tr : TA} (h : ta σ H fun x H1 => tr σ H1 fun xs H2 => Q (x :: xs) H2) : tCons ta tr σ H Q := h
theorem cb {r : List V → Hp → VK → Prop} {a : TA} (h : a σ H fun vs H1 => r vs H1 Q) : tCB r a σ H Q := h
theorem call {sp : Sp} {dvs : List V} {E : XK} {a : TA} (h : a σ H fun vs H1 => sp (vs ++ dvs) H1 Q E) : tCall sp dvs E a σ H Q := h
theorem meth {C : Addr} {m : Str} {sp : Sp} {dvs : List V} {E : XK} {a : TA} (h : ta σ H fun x H1 => ∃ p dx fs, x = .ref p ∧ H1 p = some (.ins C dx fs) ∧ fs.lookup m = none ∧ a σ H1 fun vs H2 => sp (x :: (vs ++ dvs)) H2 Q E) : tMeth C m sp dvs E ta a σ H Q := h
theorem fld {f : Str} (h : ta σ H fun x H1 => ∃ a C dx fs v, x = .ref a ∧ H1 a = some (.ins C dx fs) ∧ Cls K C ∧ NoAttr K C f ∧ fs.lookup f = some v ∧ Q v H1) : tFld K ta f σ H Q := h
theorem int1 {a : Int} (q : Q (.int a) H) : rInt1 [.int a] H Q := .inl ⟨a, rfl, q⟩
theorem intb {b : Bool} (q : Q (.int (if b then 1 else 0)) H) : rInt1 [.bl b] H Q := .inr ⟨b, rfl, q⟩
theorem abs1 {a : Int} (q : Q (.int (if a < 0 then -a else a)) H) : rAbs [.int a] H Q := ⟨a, rfl, q⟩
theorem isN (q : Q (.bl (decide (x = .non))) H) : rIsN x .non H Q := ⟨rfl, q⟩
theorem notN (q : Q (.bl (!decide (x = .non))) H) : rNotN x .non H Q := ⟨rfl, q⟩
theorem addS {a b : Str} (h : a.length + b.length ≤ sizeLine) (q : Q (.str (a ++ b)) H) : rAddS (.str a) (.str b) H Q := ⟨a, b, rfl, rfl, h, q⟩
theorem inSg {c : Nat} {z : Str} (q : Q (.bl (decide (c ∈ z.cps.toList))) H) : rInSg (.str ⟨#[c]⟩) (.str z) H Q := ⟨c, z, rfl, rfl, q⟩
theorem ninSg {c : Nat} {z : Str} (q : Q (.bl (!decide (c ∈ z.cps.toList))) H) : rNinSg (.str ⟨#[c]⟩) (.str z) H Q := ⟨c, z, rfl, rfl, q⟩
/-- a new object -/
theorem new {o : HO} (h : ∀ p, H p = none → Q (.ref p) (upd H p o)) : ∀ p, H p = none → Q (.ref p) (upd H p o) := h
def TupN (Q : VK) (xs : List V) (H1 : Hp) : Prop := xs.length ≤ sizeLine ∧ ∀ p, H1 p = none → Q (.ref p) (upd H1 p (.tup xs))
def LstN (Q : VK) (xs : List V) (H1 : Hp) : Prop := xs.length ≤ sizeLine ∧ ∀ p, H1 p = none → Q (.ref p) (upd H1 p (.lst xs))
theorem tup {a : TA} (h : a σ H (TupN Q)) : tTup a σ H Q := h
theorem lst {a : TA} (h : a σ H (LstN Q)) : tLst a σ H Q := h
/-- a new object, the heap behind it a letter -/
theorem mk {o : HO} {H0 : Hp} {R : Addr → Hp → Prop} (h : ∀ p H1, H0 p = none → Kp [] H0 H1 → H1 p = some o → R p H1) : ∀ p, H0 p = none → R p (upd H0 p o) := fun p n => h p _ n (Kp.new n) upd_same
theorem tupK {xs : List V} (q : ∀ p H1, H p = none → Kp [] H H1 → H1 p = some (.tup xs) → Q (.ref p) H1) (h : xs.length ≤ 100000 := by simp) : TupN Q xs H := ⟨Nat.le_trans h (by decide), mk q⟩
theorem lstK {xs : List V} (q : ∀ p H1, H p = none → Kp [] H H1 → H1 p = some (.lst xs) → Q (.ref p) H1) (h : xs.length ≤ 100000 := by simp) : LstN Q xs H := ⟨Nat.le_trans h (by decide), mk q⟩
theorem sz {n m : Nat} (h : n ≤ m) (hm : m ≤ 10000000 := by decide) : n ≤ sizeLine := Nat.le_trans h (Nat.le_trans hm (by decide))
theorem szl {n m : Nat} (h : n ≤ m) (hm : m ≤ 10000000 := by decide) : n < sizeLine := Nat.lt_of_le_of_lt (Nat.le_trans h hm) (by decide)
/-! subscripts -/
theorem ixL {p : Addr} {xs : List V} {j : Int} (h : SqL K H p xs) (e : atI xs j = some v) (q : Q v H) : rIxL K (.ref p) (.int j) H Q := ⟨p, xs, j, v, rfl, rfl, h, e, q⟩
theorem ixT {p : Addr} {xs : List V} {j : Int} (h : SqT K H p xs) (e : atI xs j = some v) (q : Q v H) : rIxT K (.ref p) (.int j) H Q := ⟨p, xs, j, v, rfl, rfl, h, e, q⟩
theorem setL {p : Addr} {xs : List V} {k : Int} {j : Nat} {v : V} {q : Hp → Prop} (h : H p = some (.lst xs)) (e : ixN xs.length k = some j) (hq : q (upd H p (.lst (xs.set j v)))) : rSetL (.ref p) (.int k) v H q := ⟨p, xs, k, j, rfl, rfl, h, e, hq⟩
theorem gsub {to ti : TE} {t : TSet} {Q : St → Hp → Prop} (h : to σ H fun o H1 => ti σ H1 fun i H2 => t o i v H2 fun H3 => Q σ H3) : gSub to ti t v σ H Q := h
/-! statements -/
/-- a statement whose ways join ahead of the rest -/
def tSeqJ (t u : TS) : TS := tSeq t u
theorem pss_consJ {X : Cx} {st : Stmt} {rest : List Stmt} {t u : TS} (h1 : PS X st t) (h2 : PSs X rest u) : PSs X (st :: rest) (tSeqJ t u) := pss_cons h1 h2
theorem seqJ (J : St → Hp → Prop) (h2 : ∀ σ H, J σ H → u D σ H) (h1 : ∀ N : St → Hp → Prop, (∀ σ H, J σ H → N σ H) → t { D with nx := N } σ H) : tSeqJ t u D σ H := h1 (u D) h2
theorem seqJ' (h : tSeq t u D σ H) : tSeqJ t u D σ H := h
theorem seq (h : t { D with nx := u D } σ H) : tSeq t u D σ H := h
theorem asg {g : TG} (h : te σ H fun x H1 => g x σ H1 D.nx) : tAsg te g D σ H := h
theorem gname {Q : St → Hp → Prop} {σ' : St} (e : σ.set i (some v) = σ') (h : Q σ' H) : gName i v σ H Q := by
  subst e; exact h
def ParK (i j : Nat) (D : Ends) (σ : St) (vs : List V) (H1 : Hp) : Prop := ∃ v w, vs = [v, w] ∧ D.nx ((σ.set i (some v)).set j (some w)) H1
theorem par {i j : Nat} {a : TA} (h : a σ H (ParK i j D σ)) : tPar i j a D σ H := h
theorem par2 {i j : Nat} {v w : V} {σ' : St} (e : (σ.set i (some v)).set j (some w) = σ') (h : D.nx σ' H) : ParK i j D σ [v, w] H := ⟨v, w, rfl, by rw [e]; exact h⟩
theorem aug {ti : TIp} {x : V} (e : σ[i]? = some (some x)) (h : te σ H fun y H1 => ti x y H1 fun z H2 => D.nx (σ.set i (some z)) H2) : tAug i te ti D σ H := ⟨x, e, h⟩
theorem ipI' {f : Int → Int → Int} {a b : Int} (q : Q (.int (f a b)) H) : ipI f (.int a) (.int b) H Q := ⟨a, b, rfl, rfl, q⟩
theorem ifs {c : TT} (h : c σ H fun b H1 => if b = true then t D σ H1 else u D σ H1) : tIfS c t u D σ H := h
theorem ret (h : te σ H D.rt) : tRet te D σ H := h
theorem retN (h : D.rt .non H) : tRetN D σ H := h
theorem next (h : D.nx σ H) : tNext D σ H := h
theorem brk (h : D.bk σ H) : tBreak D σ H := h
theorem drop (h : te σ H fun _ H1 => D.nx σ H1) : tDrop te D σ H := h
theorem bm {T : String} {r : V → List V → Hp → VK → Prop} {to : TE} {a : TA} (h : to σ H fun x H1 => tyV K T x H1 ∧ a σ H1 fun xs H2 => r x xs H2 Q) : tBM K T r to a σ H Q := h
theorem bm0 {T : String} {r : V → List V → Hp → VK → Prop} {to : TE} (h : to σ H fun x H1 => tyV K T x H1 ∧ r x [] H1 Q) : tBM0 K T r to σ H Q := h
theorem app {l : Addr} {xs : List V} {y : V} (h : H l = some (.lst xs)) (z : xs.length < sizeLine) (q : Q .non (upd H l (.lst (xs ++ [y])))) : rAppend (.ref l) [y] H Q := ⟨l, xs, y, rfl, rfl, h, z, q⟩
theorem tyL {p : Addr} {xs : List V} (h : H p = some (.lst xs)) : tyV K "list" (.ref p) H := .inl ⟨rfl, _, SqL.of h⟩
theorem sfld {tv : TE} {f : Str} (h : tv σ H fun y H1 => ta σ H1 fun x H2 => ∃ a C dx fs, x = .ref a ∧ H2 a = some (.ins C dx fs) ∧ Cls K C ∧ NoAttr K C f ∧ fs.length < 1000 ∧ D.nx σ (upd H2 a (.ins C dx (putF f y fs)))) : sFld K ta tv f D σ H := h
theorem sfldaug {tv : TE} {rd : V → V → Hp → VK → Prop} {f : Str} (h : ta σ H fun x H1 => ∃ a C dx fs v, x = .ref a ∧ H1 a = some (.ins C dx fs) ∧ Cls K C ∧ NoAttr K C f ∧ fs.lookup f = some v ∧ tv σ H1 fun y H2 => rd v y H2 fun z H3 => ∃ dx' fs', H3 a = some (.ins C dx' fs') ∧ fs'.length < 1000 ∧ D.nx σ (upd H3 a (.ins C dx' (putF f z fs')))) : sFldAug K ta tv rd f D σ H := h
theorem radd {a b : Int} (q : Q (.int (a + b)) H) : rAdd (.int a) (.int b) H Q := ⟨a, b, rfl, rfl, q⟩
theorem make {C : Addr} {sp : Sp} {dvs : List V} {E : XK} {a : TA} (h : a σ H fun vs H1 => ∀ x dx, H1 x = none → H1 dx = none → dx ≠ x → sp (.ref x :: (vs ++ dvs)) (upd (upd H1 dx (.own x)) x (.ins C dx [])) (fun v H2 => v = .non ∧ Q (.ref x) H2) E) : tMake C sp dvs E a σ H Q := h
/-- while -/
def WhB (W : Nat → St → Hp → Prop) (m : Nat) (tb : TS) (D : Ends) (σ : St) (H1 : Hp) : Prop := ∃ N : St → Hp → Prop, (∀ σ' H', N σ' H' → ∃ m', m' < m ∧ W m' σ' H') ∧ tb { D with nx := N, ct := N, bk := D.nx } σ H1
theorem whb {W : Nat → St → Hp → Prop} {m : Nat} {tb : TS} (h : tb { D with nx := fun σ' H' => ∃ m', m' < m ∧ W m' σ' H', ct := fun σ' H' => ∃ m', m' < m ∧ W m' σ' H', bk := D.nx } σ H) : WhB W m tb D σ H := ⟨_, fun _ _ z => z, h⟩
theorem wh {c : TT} {tb : TS} (W : Nat → St → Hp → Prop) (m : Nat) (h0 : W m σ H) (hs : ∀ m σ H, W m σ H → c σ H fun b H1 => if b = true then WhB W m tb D σ H1 else D.nx σ H1) : tWhile c tb D σ H := ⟨W, ⟨m, h0⟩, hs⟩
/-- calls by values -/
theorem sumL {a : Addr} {ns : List Int} (h : SqL K H a (ns.map V.int)) (q : Q (.int ns.sum) H) : rSum K [.ref a] H Q := ⟨a, ns, rfl, h, q⟩
theorem gcd {a b : Int} (q : Q (.int ((Nat.gcd a.natAbs b.natAbs : Nat) : Int)) H) : rGcd [.int a, .int b] H Q := ⟨a, b, rfl, q⟩
theorem mkN {C : Addr} {sp : Sp} {Q : XK} (h : ∀ a, H a = none → sp [.ref a] (upd H a (exo a C none)) (fun v H2 => v = .non ∧ H2 a = some (exo a C none) ∧ Q (.ref C) none (del H2 a)) (fun _ _ _ => False)) : Sup.tMkN C sp σ H Q := h
theorem gtup {n : Nat} {t : TGs} {a : Addr} {xs : List V} {Q : St → Hp → Prop} (h : SqT K H a xs) (e : xs.length = n) (q : t xs σ H Q) : gTup K n t (.ref a) σ H Q := ⟨a, xs, rfl, h, e, q⟩
theorem gcons {t : TG} {u : TGs} {v : V} {r : List V} {Q : St → Hp → Prop} (q : t v σ H fun σ' H' => u r σ' H' Q) : gCons t u (v :: r) σ H Q := ⟨v, r, rfl, q⟩
theorem gnil {Q : St → Hp → Prop} (q : Q σ H) : gNil [] σ H Q := ⟨rfl, q⟩
theorem lenL {a : Addr} {xs : List V} (h : SqL K H a xs) (q : Q (.int xs.length) H) : rLenN K [.ref a] H Q := ⟨a, xs, rfl, .inl h, q⟩
theorem lenT {a : Addr} {xs : List V} (h : SqT K H a xs) (q : Q (.int xs.length) H) : rLenN K [.ref a] H Q := ⟨a, xs, rfl, .inr h, q⟩
theorem listL {a : Addr} {xs : List V} (h : SqL K H a xs) (q : ∀ p H1, H p = none → Kp [] H H1 → H1 p = some (.lst xs) → Q (.ref p) H1) : rListN K [.ref a] H Q := ⟨a, xs, rfl, .inl h, mk q⟩
theorem isi {A B : String} {x : V} {b : Bool} (ht : TyX K H x (.type A)) (hk : kitB A B = some b) (q : Q (.bl b) H) : rIsi K [x, .ty B] H Q := ⟨x, _, _, _, b, rfl, .ty _, ht, kit_ty hk, q⟩
theorem isiI {B : String} {a : Int} {b : Bool} (hk : kitB "int" B = some b) (q : Q (.bl b) H) : rIsi K [.int a, .ty B] H Q := isi (.base (.int _)) hk q
theorem atM {ns : List Int} {j : Nat} {x : Int} (h : ns[j]? = some x) : atI (ns.map V.int) (j : Int) = some (.int x) := atI_nat (by rw [List.getElem?_map, h]; rfl)
theorem ixN_nat {n j : Nat} (hj : j < n) : ixN n (j : Int) = some j := by
  unfold ixN
  rw [if_pos (by omega), if_pos (by omega)]
  simp
/-- a comprehension, a loop over range(n), over a list -/
def ForK (g : TG) (tb : TS) (D : Ends) (σ : St) (J : It) (H1 : Hp) : Prop := ∃ W : Nat → Nat → St → Hp → Prop, (∃ m, W 0 m σ H1) ∧ ∀ i m σ H, W i m σ H →
  (J.stop i H ∧ D.nx σ H) ∨ (J.go i H ∧ ∃ N : St → Hp → Prop, (∀ σ' H', N σ' H' → ∃ m', m' < m ∧ W (i + 1) m' σ' H') ∧ ∀ x H', J.yld i H x H' → g x σ H' fun σ2 H2 => tb { D with nx := N, ct := N, bk := D.nx } σ2 H2)
def LcK (g : TG) (tt : TT) (te : TE) (vs : List Nat) (σ : St) (Q : VK) (J : It) (H1 : Hp) : Prop := ∀ D, H1 D = none → ∃ W : Nat → Nat → Hp → Prop, (∃ m, W 0 m (upd H1 D (.lst []))) ∧ ∀ i m H, W i m H →
      (J.stop i H ∧ Q (.ref D) H) ∨ (J.go i H ∧ ∃ Nx : Hp → Prop, (∀ H', Nx H' → ∃ m', m' < m ∧ W (i + 1) m' H') ∧ ∀ x H', J.yld i H x H' → g x (wipe σ vs) H' fun σ2 H2 => wipe σ2 vs = wipe σ vs ∧ tt σ2 H2 fun b H3 => if b = true then te σ2 H3 fun y H4 => ∃ acc, H4 D = some (.lst acc) ∧ acc.length < sizeLine ∧ Nx (upd H4 D (.lst (acc ++ [y]))) else Nx H3)
def Rng1K (R : It → Hp → Prop) (vs : List V) (H1 : Hp) : Prop := ∃ j : Int, vs = [.int j] ∧ -(2 ^ 62) ≤ j ∧ j < 2 ^ 62 ∧ R (Itr 0 j.toNat) H1
def ListK (K : PySem.W.Frag) (R : It → Hp → Prop) (x : V) (H1 : Hp) : Prop := ∃ a, x = .ref a ∧ (∃ xs, SqL K H1 a xs) ∧ R (Itl K a) H1
theorem lc {wi : TI} {g : TG} {tt : TT} {vs : List Nat} (h : wi σ H (LcK g tt te vs σ Q)) : tLc wi g tt te vs σ H Q := h
theorem rng1 {a : TA} {R : It → Hp → Prop} (h : a σ H (Rng1K R)) : iRng1 a σ H R := h
theorem ilist {R : It → Hp → Prop} (h : ta σ H (ListK K R)) : iList K ta σ H R := h
theorem for_ {wi : TI} {g : TG} {tb : TS} (h : wi σ H (ForK g tb D σ)) : tFor wi g tb D σ H := h
/-- what one turn of a comprehension asks -/
def LcT (g : TG) (tt : TT) (te : TE) (vs : List Nat) (σ : St) (D : Addr) (P : Hp → Prop) (x : V) (H1 : Hp) : Prop := g x (wipe σ vs) H1 fun σ2 H2 => wipe σ2 vs = wipe σ vs ∧ tt σ2 H2 fun b H3 => if b = true then te σ2 H3 fun y H4 => ∃ acc, H4 D = some (.lst acc) ∧ acc.length < sizeLine ∧ P (upd H4 D (.lst (acc ++ [y]))) else P H3
theorem lcr {g : TG} {tt : TT} {vs : List Nat} {e : Int} (n : Nat) (he : e = (n : Int)) (hb : n < 4611686018427387904) (Pv : Addr → Nat → Hp → Prop) (h0 : ∀ D H1, H D = none → Kp [] H H1 → H1 D = some (.lst []) → Pv D 0 H1)
    (hs : ∀ D i H1, H D = none → i < n → Pv D i H1 → g (.int (i : Int)) (wipe σ vs) H1 fun σ2 H2 => wipe σ2 vs = wipe σ vs ∧ tt σ2 H2 fun b H3 => if b = true then te σ2 H3 fun y H4 => ∃ acc, H4 D = some (.lst acc) ∧ acc.length < sizeLine ∧ Pv D (i + 1) (upd H4 D (.lst (acc ++ [y]))) else Pv D (i + 1) H3)
    (hd : ∀ D H1, H D = none → Pv D n H1 → Q (.ref D) H1) : Rng1K (LcK g tt te vs σ Q) [.int e] H := by
  subst he
  refine ⟨(n : Int), rfl, by omega, by omega, fun D hD => ?_⟩
  rw [show ((n : Int)).toNat = n by simp]
  refine lc_range (lo := 0) (n := n) (Pv D) (h0 D _ hD (Kp.new hD) upd_same) (fun i H1 hi p => ?_) fun H1 p => hd D H1 hD p
  rw [show (0 : Int) + (i : Int) = (i : Int) by omega]
  exact hs D i H1 hD hi p
theorem lcl {g : TG} {tt : TT} {vs : List Nat} {a : Addr} (xs : List V) (hS : SqL K H a xs) (Pv : Addr → Nat → Hp → Prop) (h0 : ∀ D H1, H D = none → Kp [] H H1 → H1 D = some (.lst []) → Pv D 0 H1)
    (hl : ∀ D i H1, H D = none → i ≤ xs.length → Pv D i H1 → SqL K H1 a xs)
    (hs : ∀ D i x H1, H D = none → xs[i]? = some x → Pv D i H1 → g x (wipe σ vs) H1 fun σ2 H2 => wipe σ2 vs = wipe σ vs ∧ tt σ2 H2 fun b H3 => if b = true then te σ2 H3 fun y H4 => ∃ acc, H4 D = some (.lst acc) ∧ acc.length < sizeLine ∧ Pv D (i + 1) (upd H4 D (.lst (acc ++ [y]))) else Pv D (i + 1) H3)
    (hd : ∀ D H1, H D = none → Pv D xs.length H1 → Q (.ref D) H1) : ListK K (LcK g tt te vs σ Q) (.ref a) H :=
  ⟨a, rfl, ⟨xs, hS⟩, fun D hD => lc_list (K := K) (a := a) (xs := xs) (Pv D) (h0 D _ hD (Kp.new hD) upd_same) (fun i H1 hi p => hl D i H1 hD hi p) (fun i x H1 hx p => hs D i x H1 hD hx p) fun H1 p => hd D H1 hD p⟩
/-- over a tuple -/
def TupK (K : PySem.W.Frag) (R : It → Hp → Prop) (x : V) (H1 : Hp) : Prop := ∃ a, x = .ref a ∧ (∃ xs, SqT K H1 a xs) ∧ R (Itt K a) H1
theorem itup {R : It → Hp → Prop} (h : ta σ H (TupK K R)) : iTup K ta σ H R := h
theorem lct {g : TG} {tt : TT} {vs : List Nat} {a : Addr} (xs : List V) (hS : SqT K H a xs) (Pv : Addr → Nat → Hp → Prop) (h0 : ∀ D H1, H D = none → Kp [] H H1 → H1 D = some (.lst []) → Pv D 0 H1)
    (hl : ∀ D i H1, H D = none → i ≤ xs.length → Pv D i H1 → SqT K H1 a xs)
    (hs : ∀ D i x H1, H D = none → xs[i]? = some x → Pv D i H1 → g x (wipe σ vs) H1 fun σ2 H2 => wipe σ2 vs = wipe σ vs ∧ tt σ2 H2 fun b H3 => if b = true then te σ2 H3 fun y H4 => ∃ acc, H4 D = some (.lst acc) ∧ acc.length < sizeLine ∧ Pv D (i + 1) (upd H4 D (.lst (acc ++ [y]))) else Pv D (i + 1) H3)
    (hd : ∀ D H1, H D = none → Pv D xs.length H1 → Q (.ref D) H1) : TupK K (LcK g tt te vs σ Q) (.ref a) H :=
  ⟨a, rfl, ⟨xs, hS⟩, fun D hD => lc_tup (K := K) (a := a) (xs := xs) (Pv D) (h0 D _ hD (Kp.new hD) upd_same) (fun i H1 hi p => hl D i H1 hD hi p) (fun i x H1 hx p => hs D i x H1 hD hx p) fun H1 p => hd D H1 hD p⟩
theorem allL {a : Addr} {bs : List Bool} (h : SqL K H a (bs.map V.bl)) (q : Q (.bl (bs.all id)) H) : rAll K [.ref a] H Q := ⟨a, bs, rfl, h, q⟩
theorem anyL {a : Addr} {bs : List Bool} (h : SqL K H a (bs.map V.bl)) (q : Q (.bl (bs.any id)) H) : rAny K [.ref a] H Q := ⟨a, bs, rfl, h, q⟩
theorem forr {g : TG} {tb : TS} {e : Int} (n : Nat) (he : e = (n : Int)) (hb : n < 4611686018427387904) (Pv : Nat → St → Hp → Prop) (h0 : Pv 0 σ H)
    (hs : ∀ i σ H, i < n → Pv i σ H → g (.int (i : Int)) σ H fun σ2 H2 => tb { D with nx := Pv (i + 1), ct := Pv (i + 1), bk := D.nx } σ2 H2) (hd : ∀ σ H, Pv n σ H → D.nx σ H) : Rng1K (ForK g tb D σ) [.int e] H := by
  subst he
  refine ⟨(n : Int), rfl, by omega, by omega, ?_⟩
  rw [show ((n : Int)).toNat = n by simp]
  refine for_range (lo := 0) (n := n) Pv h0 (fun i σ H1 hi p => ?_) hd
  rw [show (0 : Int) + (i : Int) = (i : Int) by omega]
  exact hs i σ H1 hi p
theorem forl {g : TG} {tb : TS} {a : Addr} (xs : List V) (hS : SqL K H a xs) (Pv : Nat → St → Hp → Prop) (h0 : Pv 0 σ H) (hl : ∀ i σ H, i ≤ xs.length → Pv i σ H → SqL K H a xs)
    (hs : ∀ i x σ H, xs[i]? = some x → Pv i σ H → g x σ H fun σ2 H2 => tb { D with nx := Pv (i + 1), ct := Pv (i + 1), bk := D.nx } σ2 H2) (hd : ∀ σ H, Pv xs.length σ H → D.nx σ H) : ListK K (ForK g tb D σ) (.ref a) H :=
  ⟨a, rfl, ⟨xs, hS⟩, for_list (K := K) (a := a) (xs := xs) Pv h0 hl hs hd⟩
/-! texts -/
def StrK (R : It → Hp → Prop) (v : V) (H1 : Hp) : Prop := ∃ x, v = .str x ∧ R (Its x) H1
theorem istr {R : It → Hp → Prop} (h : ta σ H (StrK R)) : iStr ta σ H R := h
theorem fors {g : TG} {tb : TS} {x : Str} (Pv : Nat → St → Hp → Prop) (h0 : Pv 0 σ H)
    (hs : ∀ i c σ H, x.cps[i]? = some c → Pv i σ H → g (.str ⟨#[c]⟩) σ H fun σ2 H2 => tb { D with nx := Pv (i + 1), ct := Pv (i + 1), bk := D.nx } σ2 H2) (hd : ∀ σ H, Pv x.cps.size σ H → D.nx σ H) : StrK (ForK g tb D σ) (.str x) H :=
  ⟨x, rfl, for_it walk_str Pv h0 (fun _ _ _ _ _ => trivial) (fun i v σ H H' hi p y => by obtain ⟨rfl, c, hc, rfl⟩ := y; exact hs i c σ _ hc p) hd⟩
theorem lcs {g : TG} {tt : TT} {vs : List Nat} {x : Str} (Pv : Addr → Nat → Hp → Prop) (h0 : ∀ D H1, H D = none → Kp [] H H1 → H1 D = some (.lst []) → Pv D 0 H1)
    (hs : ∀ D i c H1, H D = none → x.cps[i]? = some c → Pv D i H1 → g (.str ⟨#[c]⟩) (wipe σ vs) H1 fun σ2 H2 => wipe σ2 vs = wipe σ vs ∧ tt σ2 H2 fun b H3 => if b = true then te σ2 H3 fun y H4 => ∃ acc, H4 D = some (.lst acc) ∧ acc.length < sizeLine ∧ Pv D (i + 1) (upd H4 D (.lst (acc ++ [y]))) else Pv D (i + 1) H3)
    (hd : ∀ D H1, H D = none → Pv D x.cps.size H1 → Q (.ref D) H1) : StrK (LcK g tt te vs σ Q) (.str x) H :=
  ⟨x, rfl, fun D hD => lc_it walk_str (Pv D) (h0 D _ hD (Kp.new hD) upd_same) (fun _ _ _ _ => trivial) (fun i v H H' hi p y => by obtain ⟨rfl, c, hc, rfl⟩ := y; exact hs D i c _ hD hc p) fun H1 p => hd D H1 hD p⟩
theorem lenS {x : Str} (hz : x.cps.size ≤ 10000000) (q : Q (.int (x.cps.size : Nat)) H) : rLenS [.str x] H Q := ⟨x, rfl, hz, q⟩
/-! enumerate -/
def EnumK (K : PySem.W.Frag) (R : It → Hp → Prop) (vs : List V) (H1 : Hp) : Prop := ∃ a xs, vs = [.ref a] ∧ SqL K H1 a xs ∧ R (Ite K a) H1
theorem ienum {a : TA} {R : It → Hp → Prop} (h : a σ H (EnumK K R)) : iEnum K a σ H R := h
theorem fore {g : TG} {tb : TS} {a : Addr} (xs : List V) (hS : SqL K H a xs) (Pv : Nat → St → Hp → Prop) (h0 : Pv 0 σ H) (hl : ∀ i σ H, i ≤ xs.length → Pv i σ H → SqL K H a xs)
    (hs : ∀ i x σ H H' T, xs[i]? = some x → Pv i σ H → H T = none → Kp [] H H' → H' T = some (.tup [.int (i : Nat), x]) → g (.ref T) σ H' fun σ2 H2 => tb { D with nx := Pv (i + 1), ct := Pv (i + 1), bk := D.nx } σ2 H2) (hd : ∀ σ H, Pv xs.length σ H → D.nx σ H) : EnumK K (ForK g tb D σ) [.ref a] H :=
  ⟨a, xs, rfl, hS, for_it (walk_enum (K := K) (a := a) (xs := xs)) Pv h0 hl (fun i v σ H H' hi p y => by
    obtain ⟨T, x, z, rfl, h1, rfl, h2, h3⟩ := y
    cases h2
    exact hs i z σ H _ T h3 p h1 (Kp.new h1) upd_same) hd⟩
/-! dicts -/
theorem dnew (h : ∀ p H1, H p = none → Kp [] H H1 → H1 p = some (.dK []) → Q (.ref p) H1) : tDNewK σ H Q := mk h
theorem din {ty td : TE} (h : ty σ H fun y H1 => td σ H1 fun x H2 => ∃ a o, x = .ref a ∧ DGet H2 a y o ∧ Q (.bl o.isSome) H2) : tDIn ty td σ H Q := h
theorem dput {td ty tv : TE} (h : tv σ H fun v H1 => td σ H1 fun x H2 => ty σ H2 fun y H3 => ∃ a H4, x = .ref a ∧ DPut H3 a y v H4 ∧ D.nx σ H4) : sDPut td ty tv D σ H := h
theorem dget {td ty : TE} (h : td σ H fun x H1 => ty σ H1 fun y H2 => ∃ a v, x = .ref a ∧ DGet H2 a y (some v) ∧ Q v H2) : tDGet td ty σ H Q := h
/-! lists and tuples -/
theorem ixA {p : Addr} {xs : List V} {j : Int} (h : SqL K H p xs ∨ SqT K H p xs) (e : atI xs j = some v) (q : Q v H) : rIx K (.ref p) (.int j) H Q := h.elim (fun h => .inl (ixL h e q)) (fun h => .inr (.inl (ixT h e q)))
theorem lenA {a : Addr} {xs : List V} (h : SqL K H a xs ∨ SqT K H a xs) (q : Q (.int xs.length) H) : rLenN K [.ref a] H Q := ⟨a, xs, rfl, h, q⟩
theorem sl {r : V → Option Int → Option Int → Hp → VK → Prop} {tl th : TO} (h : ta σ H fun x H1 => tl σ H1 fun l H2 => th σ H2 fun u H3 => r x l u H3 Q) : tSl r ta tl th σ H Q := h
theorem slno {Q : Option Int → Hp → Prop} (h : Q none H) : tNoPart σ H Q := h
theorem slpart {Q : Option Int → Hp → Prop} (h : ta σ H fun x H1 => ∃ i, x = .int i ∧ Q (some i) H1) : tPart ta σ H Q := h
theorem bint {i : Int} {q : Int → Prop} (h : q i) : ∃ k, V.int i = .int k ∧ q k := ⟨i, rfl, h⟩
theorem slL {p : Addr} {xs : List V} {lo hi : Option Int} (h : SqL K H p xs) (q : ∀ d H1, H d = none → Kp [] H H1 → H1 d = some (.lst (cutV xs lo hi)) → Q (.ref d) H1) : rSlL K (.ref p) lo hi H Q := ⟨p, xs, rfl, h, mk q⟩
theorem cut_take {xs : List V} {k : Nat} (h : k ≤ xs.length) : cutV xs none (some (k : Int)) = xs.take k := by
  unfold cutV
  rw [HT.sIx_none, HT.sIx_nat, List.drop_zero, Nat.sub_zero, Nat.min_eq_left h]
theorem cut_drop {xs : List V} {k : Nat} (h : k ≤ xs.length) : cutV xs (some (k : Int)) none = xs.drop k := by
  unfold cutV
  rw [HT.sIx_none, HT.sIx_nat, Nat.min_eq_left h]
  exact List.take_of_length_le (by rw [List.length_drop] <;> omega)
theorem inq {neg : Bool} {p : Addr} {xs : List V} (h : SqL K H p xs ∨ SqT K H p xs) (fx : flatV x = true) (fs : xs.all flatV = true) (q : Q (.bl (if neg then !inV x xs else inV x xs)) H) : rIn K neg x (.ref p) H Q := ⟨p, xs, rfl, h, fx, fs, q⟩
theorem inV_strs {a : Str} {l : List Str} : inV (.str a) (l.map V.str) = decide (a ∈ l) := by
  unfold inV
  induction l with
  | nil => simp
  | cons b r ih =>
    rw [List.map_cons, List.any_cons, ih]
    show ((b == a) || _) = _
    by_cases e : b = a
    · subst e; simp
    · have e' : ¬ a = b := fun z => e z.symm
      simp [e, e']
theorem strs_flat {l : List Str} : (l.map V.str).all flatV = true := by simp [flatV]
theorem pop {l : Addr} {xs : List V} {y : V} (h : H l = some (.lst xs)) (e : xs[xs.length - 1]? = some y) (q : Q y (upd H l (.lst xs.dropLast))) : rPop (.ref l) [] H Q := ⟨l, xs, y, rfl, rfl, h, e, q⟩
def LRK (K : PySem.W.Frag) (Q : VK) (x : V) (H1 : Hp) : Prop := ∃ a xs, x = .ref a ∧ SqL K H1 a xs ∧ ∀ p, H1 p = none → Q (.ref p) (upd H1 p (.lst xs.reverse))
theorem listrev (h : ta σ H (LRK K Q)) : RL.tListRev K ta σ H Q := h
theorem lrk {a : Addr} {xs : List V} (hS : SqL K H a xs) (q : ∀ p H1, H p = none → Kp [] H H1 → H1 p = some (.lst xs.reverse) → Q (.ref p) H1) : LRK K Q (.ref a) H := ⟨a, xs, rfl, hS, mk q⟩
theorem popS {l : Addr} {xs : List V} {y : V} (h : H l = some (.lst (xs ++ [y]))) (q : Q y (upd H l (.lst xs))) : rPop (.ref l) [] H Q := ⟨l, _, y, rfl, rfl, h, by simp, by rw [List.dropLast_concat]; exact q⟩
theorem extT {l b : Addr} {xs zs : List V} (h : H l = some (.lst xs)) (h2 : H b = some (.tup zs)) (hz : xs.length + zs.length ≤ 10000000) (q : Q .non (upd H l (.lst (xs ++ zs)))) : RL.rExtT (.ref l) [.ref b] H Q := ⟨l, b, xs, zs, rfl, rfl, h, h2, Nat.le_trans hz (by decide), q⟩
theorem slT {p : Addr} {xs : List V} {k : Nat} (h : SqT K H p xs) (h0 : 0 < k) (h1 : k ≤ xs.length) (q : ∀ d H1, H d = none → Kp [] H H1 → H1 d = some (.tup (xs.drop k)) → Q (.ref d) H1) : rSlT K (.ref p) (some (k : Int)) none H Q := ⟨p, xs, rfl, h, fun z => by
  rw [HT.sIx_nat, Nat.min_eq_left h1] at z
  omega, mk (by rw [cut_drop h1]; exact q)⟩
theorem revl (h : ta σ H (LRK K Q)) : tRevL K ta σ H Q := h
theorem idx {a : Addr} {ys : List V} {y : V} (j : Nat) {z : V} (hS : SqL K H a ys) (fy : flatV y = true) (fs : ys.all flatV = true) (hz : ys[j]? = some z) (hy : eqV z y = true) (hn : ∀ (m : Nat) (z' : V), m < j → ys[m]? = some z' → eqV z' y = false) (q : Q (.int (j : Nat)) H) : rIndex K (.ref a) [y] H Q := ⟨a, ys, y, j, z, rfl, rfl, hS, fy, fs, hz, hy, hn, q⟩
theorem truL {p : Addr} {xs : List V} {q : Bool → Prop} (h : H p = some (.lst xs)) (hq : q (!xs.isEmpty)) : ∃ k, TruV K (.ref p) H k ∧ q k := ⟨_, .inl ⟨xs, lstL h, rfl⟩, hq⟩
theorem glst {n : Nat} {t : TGs} {a : Addr} {xs : List V} {Q : St → Hp → Prop} (h : SqL K H a xs) (e : xs.length = n) (q : t xs σ H Q) : gLst K n t (.ref a) σ H Q := ⟨a, xs, rfl, h, e, q⟩
def rSplitQ : V → List V → Hp → VK → Prop := fun x xs H Q => ∃ a b, x = .str a ∧ xs = [.str b] ∧ (b.length == 0) = false ∧ a.length + 2 ≤ sizeLine ∧ rNewStrs (Txt.split a b) H Q
theorem m_split {X : Cx} : MtR X "str.split" rSplitQ := mt_split
theorem split {a b : Str} (hb : (b.length == 0) = false) (hz : a.length ≤ 10000000) (q : ∀ p H1, H p = none → Kp [] H H1 → H1 p = some (.lst ((Txt.split a b).map V.str)) → Q (.ref p) H1) : rSplitQ (.str a) [.str b] H Q := ⟨a, b, rfl, rfl, hb, Nat.le_trans (Nat.add_le_add_right hz 2) (by decide), mk q⟩
def EnSK (K : PySem.W.Frag) (R : It → Hp → Prop) (vs zs : List V) (H2 : Hp) : Prop := ∃ a xs k, vs = [.ref a] ∧ zs = [.int k] ∧ -(2 ^ 63) ≤ k ∧ k < 2 ^ 63 ∧ SqL K H2 a xs ∧ R (RL.IteS K a k) H2
theorem ienumS {a b : TA} {R : It → Hp → Prop} (h : a σ H fun vs H1 => b σ H1 fun zs H2 => EnSK K R vs zs H2) : RL.iEnumS K a b σ H R := h
theorem walk_enumS {a : Addr} {xs : List V} {k : Int} : Walk (RL.IteS K a k) xs.length (fun H => SqL K H a xs) (YPair (fun i => some (.int (k + (i : Nat)))) (fun i => xs[i]?)) := by
  refine ⟨fun i _ hi q => ⟨xs, xs[i], q, by simp [hi]⟩, fun _ q => ⟨xs, q, rfl⟩, fun i H v H' _ q y => ?_⟩
  obtain ⟨T, x, h1, h2, h3, h4⟩ := y
  exact ⟨T, .int (k + (i : Nat)), x, h1, h2, h3, rfl, h4 xs q⟩
theorem fores {g : TG} {tb : TS} {a : Addr} {k : Int} (xs : List V) (hk0 : -(2 ^ 63) ≤ k) (hk1 : k < 2 ^ 63) (hS : SqL K H a xs) (Pv : Nat → St → Hp → Prop) (h0 : Pv 0 σ H) (hl : ∀ i σ H, i ≤ xs.length → Pv i σ H → SqL K H a xs)
    (hs : ∀ i x σ H H' T, xs[i]? = some x → Pv i σ H → H T = none → Kp [] H H' → H' T = some (.tup [.int (k + (i : Nat)), x]) → g (.ref T) σ H' fun σ2 H2 => tb { D with nx := Pv (i + 1), ct := Pv (i + 1), bk := D.nx } σ2 H2) (hd : ∀ σ H, Pv xs.length σ H → D.nx σ H) : EnSK K (ForK g tb D σ) [.ref a] [.int k] H :=
  ⟨a, xs, k, rfl, rfl, hk0, hk1, hS, for_it (walk_enumS (K := K) (a := a) (xs := xs) (k := k)) Pv h0 hl (fun i v σ H H' hi p y => by
    obtain ⟨T, x, z, rfl, h1, rfl, h2, h3⟩ := y
    cases h2
    exact hs i z σ H _ T h3 p h1 (Kp.new h1) upd_same) hd⟩
/-- an f-string of two parts or more -/
def tJoin (ts : List TE) : TE := fun σ H Q => tJs ts Str.empty σ H fun out H1 => Q (.str out) H1
theorem pe_joinedN {X : Cx} {v1 v2 : Expr} {rest : List Expr} {ts : List TE} {pos : Pos} (h : PJ X (v1 :: v2 :: rest) ts) : PE X (.JoinedStr (v1 :: v2 :: rest) pos) (tJoin ts) := pe_joined h
def rJoinQ (K : PySem.W.Frag) : V → List V → Hp → VK → Prop := fun x xs H Q => ∃ a p, ∃ ys : List Str, x = .str a ∧ xs = [.ref p] ∧ (SqL K H p (ys.map V.str) ∨ SqT K H p (ys.map V.str)) ∧ (ys.map (·.length)).sum + ys.length * a.length ≤ 16777216 ∧ Q (.str (Txt.join a ys)) H
theorem m_join {X : Cx} : MtR X "str.join" (rJoinQ X.K) := mt_join
theorem join {a : Str} {p : Addr} {ys : List Str} (h : SqL K H p (ys.map V.str)) (hz : (ys.map (·.length)).sum + ys.length * a.length ≤ 16777216) (q : Q (.str (Txt.join a ys)) H) : rJoinQ K (.str a) [.ref p] H Q := ⟨a, p, ys, rfl, rfl, .inl h, hz, q⟩
theorem lens_le {n : Nat} : ∀ {ys : List Str}, (∀ y ∈ ys, y.length ≤ n) → (ys.map (·.length)).sum ≤ n * ys.length
  | [], _ => by simp
  | y :: r, h => by
    have h1 := h y (by simp)
    have h2 := lens_le (n := n) (ys := r) fun z hz => h z (by simp [hz])
    rw [List.map_cons, List.sum_cons, List.length_cons, Nat.mul_add]
    omega
theorem mulS {x : Str} {k : Nat} (h1 : 2 ≤ k) (h2 : k ≤ 100000) (h3 : 1 ≤ x.length) (h4 : x.length ≤ 100) (q : Q (.str (RL.repS x k)) H) : RL.rMulS (.str x) (.int (k : Int)) H Q := ⟨x, k, rfl, rfl, h1, h2, h3, h4, q⟩
theorem cat {l b : Addr} {xs zs : List V} (h : H l = some (.lst xs)) (h2 : H b = some (.lst zs)) (hz : xs.length + zs.length ≤ 100000) (q : ∀ p H1, H p = none → Kp [] H H1 → H1 p = some (.lst (xs ++ zs)) → Q (.ref p) H1) : rCat (.ref l) (.ref b) H Q := ⟨l, b, xs, zs, rfl, rfl, h, h2, Nat.le_trans hz (by decide), mk q⟩
end
end Z


namespace K01
open PySem L2 Z
def topS (i : Nat) : Stmt := PySem.Challenge.pw_samphire_k01_items_as_texts.main.body.getD i (.Pass ⟨0, 0, 0, 0⟩)
abbrev s_made_of : Stmt := topS 7
abbrev N_made_of : List Str := ["text", "signs", "sign"]
theorem sc_made_of : FnScope N_made_of ["text", "signs"] (defScope s_made_of) := ⟨rfl, rfl, rfl, by decide +kernel, rfl, by decide +kernel, by decide +kernel⟩
abbrev s_lines_of : Stmt := topS 8
abbrev N_lines_of : List Str := ["text", "lines"]
theorem sc_lines_of : FnScope N_lines_of ["text"] (defScope s_lines_of) := ⟨rfl, rfl, rfl, by decide +kernel, rfl, by decide +kernel, by decide +kernel⟩
abbrev s_words_of : Stmt := topS 9
abbrev N_words_of : List Str := ["line"]
theorem sc_words_of : FnScope N_words_of ["line"] (defScope s_words_of) := ⟨rfl, rfl, rfl, by decide +kernel, rfl, by decide +kernel, by decide +kernel⟩
abbrev s_column_of : Stmt := topS 10
abbrev N_column_of : List Str := ["words", "place", "word"]
theorem sc_column_of : FnScope N_column_of ["words", "place"] (defScope s_column_of) := ⟨rfl, rfl, rfl, by decide +kernel, rfl, by decide +kernel, by decide +kernel⟩
abbrev s_writes_integer : Stmt := topS 11
abbrev N_writes_integer : List Str := ["word", "digits"]
theorem sc_writes_integer : FnScope N_writes_integer ["word"] (defScope s_writes_integer) := ⟨rfl, rfl, rfl, by decide +kernel, rfl, by decide +kernel, by decide +kernel⟩
abbrev s_integer_within : Stmt := topS 12
abbrev N_integer_within : List Str := ["word", "low", "high", "number"]
theorem sc_integer_within : FnScope N_integer_within ["word", "low", "high"] (defScope s_integer_within) := ⟨rfl, rfl, rfl, by decide +kernel, rfl, by decide +kernel, by decide +kernel⟩
abbrev s_is_name : Stmt := topS 17
abbrev N_is_name : List Str := ["text"]
theorem sc_is_name : FnScope N_is_name ["text"] (defScope s_is_name) := ⟨rfl, rfl, rfl, by decide +kernel, rfl, by decide +kernel, by decide +kernel⟩
abbrev s_word_fault : Stmt := topS 22
abbrev N_word_fault : List Str := ["words", "key", "group", "weight", "amount"]
theorem sc_word_fault : FnScope N_word_fault ["words"] (defScope s_word_fault) := ⟨rfl, rfl, rfl, by decide +kernel, rfl, by decide +kernel, by decide +kernel⟩
abbrev s_item_of : Stmt := topS 23
abbrev N_item_of : List Str := ["words", "key", "group", "weight", "amount"]
theorem sc_item_of : FnScope N_item_of ["words"] (defScope s_item_of) := ⟨rfl, rfl, rfl, by decide +kernel, rfl, by decide +kernel, by decide +kernel⟩
abbrev s_line_fault : Stmt := topS 24
abbrev N_line_fault : List Str := ["words", "number", "taken", "fault", "place", "reason"]
theorem sc_line_fault : FnScope N_line_fault ["words", "number", "taken"] (defScope s_line_fault) := ⟨rfl, rfl, rfl, by decide +kernel, rfl, by decide +kernel, by decide +kernel⟩
abbrev s_read_items : Stmt := topS 25
abbrev N_read_items : List Str := ["text", "rows", "taken", "number", "line", "words", "fault", "column", "reason"]
theorem sc_read_items : FnScope N_read_items ["text"] (defScope s_read_items) := ⟨rfl, rfl, rfl, by decide +kernel, rfl, by decide +kernel, by decide +kernel⟩
abbrev s_write_items : Stmt := topS 27
abbrev N_write_items : List Str := ["rows", "key", "group", "weight", "amount"]
theorem sc_write_items : FnScope N_write_items ["rows"] (defScope s_write_items) := ⟨rfl, rfl, rfl, by decide +kernel, rfl, by decide +kernel, by decide +kernel⟩
abbrev s__law_draws : Stmt := topS 29
abbrev N__law_draws : List Str := ["script", "draws", "cell", "number", "first", "k", "seed"]
theorem sc__law_draws : FnScope N__law_draws ["script"] (defScope s__law_draws) := ⟨rfl, rfl, rfl, by decide +kernel, rfl, by decide +kernel, by decide +kernel⟩
abbrev s__law_take : Stmt := topS 30
abbrev N__law_take : List Str := ["draws", "bound"]
theorem sc__law_take : FnScope N__law_take ["draws", "bound"] (defScope s__law_take) := ⟨rfl, rfl, rfl, by decide +kernel, rfl, by decide +kernel, by decide +kernel⟩
abbrev s__law_same : Stmt := topS 31
abbrev N__law_same : List Str := ["actual", "due", "k"]
theorem sc__law_same : FnScope N__law_same ["actual", "due"] (defScope s__law_same) := ⟨rfl, rfl, rfl, by decide +kernel, rfl, by decide +kernel, by decide +kernel⟩
abbrev s__law_name : Stmt := topS 32
abbrev N__law_name : List Str := ["draws"]
theorem sc__law_name : FnScope N__law_name ["draws"] (defScope s__law_name) := ⟨rfl, rfl, rfl, by decide +kernel, rfl, by decide +kernel, by decide +kernel⟩
abbrev s__law_items : Stmt := topS 33
abbrev N__law_items : List Str := ["draws", "most", "found", "keys", "k", "key", "weight", "amount"]
theorem sc__law_items : FnScope N__law_items ["draws", "most"] (defScope s__law_items) := ⟨rfl, rfl, rfl, by decide +kernel, rfl, by decide +kernel, by decide +kernel⟩
abbrev s__law_error : Stmt := topS 34
abbrev N__law_error : List Str := ["text", "e"]
theorem sc__law_error : FnScope N__law_error ["text"] (defScope s__law_error) := ⟨rfl, rfl, rfl, by decide +kernel, rfl, by decide +kernel, by decide +kernel⟩
abbrev s__law_wrong : Stmt := topS 35
abbrev N__law_wrong : List Str := ["draws", "rows"]
theorem sc__law_wrong : FnScope N__law_wrong ["draws"] (defScope s__law_wrong) := ⟨rfl, rfl, rfl, by decide +kernel, rfl, by decide +kernel, by decide +kernel⟩
abbrev s_law : Stmt := topS 36
abbrev N_law : List Str := ["script", "draws", "items", "lines", "text", "wrong", "at", "told", "many", "row", "line", "k"]
theorem sc_law : FnScope N_law ["script"] (defScope s_law) := ⟨rfl, rfl, rfl, by decide +kernel, rfl, by decide +kernel, by decide +kernel⟩
abbrev s_TextError_init : Stmt := inClass (topS 2) 0
abbrev N_TextError_init : List Str := ["self", "line", "column", "reason", "__class__"]
theorem sc_TextError_init : NdefX.NScope N_TextError_init ["self", "line", "column", "reason"] ["__class__"] (defScope s_TextError_init) := NdefX.nscope_by (by decide +kernel)
abbrev NF_TextError (cc c : Addr) : NdefX.NF := ⟨"__init__", "TextError.__init__", defArgs s_TextError_init, defBody s_TextError_init, defScope s_TextError_init, [(("__class__" : Str), cc)], c⟩
abbrev s_TooLarge_init : Stmt := inClass (topS 3) 0
abbrev N_TooLarge_init : List Str := ["self", "limit", "__class__"]
theorem sc_TooLarge_init : NdefX.NScope N_TooLarge_init ["self", "limit"] ["__class__"] (defScope s_TooLarge_init) := NdefX.nscope_by (by decide +kernel)
abbrev NF_TooLarge (cc c : Addr) : NdefX.NF := ⟨"__init__", "TooLarge.__init__", defArgs s_TooLarge_init, defBody s_TooLarge_init, defScope s_TooLarge_init, [(("__class__" : Str), cc)], c⟩
structure T (P : Program) (K : PySem.W.Frag) (mg : Str → Option Value) where
  a_made_of : Addr
  fd_made_of : FuncData
  F_made_of : Fun K "made_of" "made_of" s_made_of a_made_of fd_made_of
  b_made_of : Binds K fd_made_of ["text", "signs"] []
  g_made_of : mg "made_of" = some (.ref a_made_of)
  a_lines_of : Addr
  fd_lines_of : FuncData
  F_lines_of : Fun K "lines_of" "lines_of" s_lines_of a_lines_of fd_lines_of
  b_lines_of : Binds K fd_lines_of ["text"] []
  g_lines_of : mg "lines_of" = some (.ref a_lines_of)
  a_words_of : Addr
  fd_words_of : FuncData
  F_words_of : Fun K "words_of" "words_of" s_words_of a_words_of fd_words_of
  b_words_of : Binds K fd_words_of ["line"] []
  g_words_of : mg "words_of" = some (.ref a_words_of)
  a_column_of : Addr
  fd_column_of : FuncData
  F_column_of : Fun K "column_of" "column_of" s_column_of a_column_of fd_column_of
  b_column_of : Binds K fd_column_of ["words", "place"] []
  g_column_of : mg "column_of" = some (.ref a_column_of)
  a_writes_integer : Addr
  fd_writes_integer : FuncData
  F_writes_integer : Fun K "writes_integer" "writes_integer" s_writes_integer a_writes_integer fd_writes_integer
  b_writes_integer : Binds K fd_writes_integer ["word"] []
  g_writes_integer : mg "writes_integer" = some (.ref a_writes_integer)
  a_integer_within : Addr
  fd_integer_within : FuncData
  F_integer_within : Fun K "integer_within" "integer_within" s_integer_within a_integer_within fd_integer_within
  b_integer_within : Binds K fd_integer_within ["word", "low", "high"] []
  g_integer_within : mg "integer_within" = some (.ref a_integer_within)
  a_is_name : Addr
  fd_is_name : FuncData
  F_is_name : Fun K "is_name" "is_name" s_is_name a_is_name fd_is_name
  b_is_name : Binds K fd_is_name ["text"] []
  g_is_name : mg "is_name" = some (.ref a_is_name)
  a_word_fault : Addr
  fd_word_fault : FuncData
  F_word_fault : Fun K "word_fault" "word_fault" s_word_fault a_word_fault fd_word_fault
  b_word_fault : Binds K fd_word_fault ["words"] []
  g_word_fault : mg "word_fault" = some (.ref a_word_fault)
  a_item_of : Addr
  fd_item_of : FuncData
  F_item_of : Fun K "item_of" "item_of" s_item_of a_item_of fd_item_of
  b_item_of : Binds K fd_item_of ["words"] []
  g_item_of : mg "item_of" = some (.ref a_item_of)
  a_line_fault : Addr
  fd_line_fault : FuncData
  F_line_fault : Fun K "line_fault" "line_fault" s_line_fault a_line_fault fd_line_fault
  b_line_fault : Binds K fd_line_fault ["words", "number", "taken"] []
  g_line_fault : mg "line_fault" = some (.ref a_line_fault)
  a_read_items : Addr
  fd_read_items : FuncData
  F_read_items : Fun K "read_items" "read_items" s_read_items a_read_items fd_read_items
  b_read_items : Binds K fd_read_items ["text"] []
  g_read_items : mg "read_items" = some (.ref a_read_items)
  a_write_items : Addr
  fd_write_items : FuncData
  F_write_items : Fun K "write_items" "write_items" s_write_items a_write_items fd_write_items
  b_write_items : Binds K fd_write_items ["rows"] []
  g_write_items : mg "write_items" = some (.ref a_write_items)
  a__law_draws : Addr
  fd__law_draws : FuncData
  F__law_draws : Fun K "_law_draws" "_law_draws" s__law_draws a__law_draws fd__law_draws
  b__law_draws : Binds K fd__law_draws ["script"] []
  g__law_draws : mg "_law_draws" = some (.ref a__law_draws)
  a__law_take : Addr
  fd__law_take : FuncData
  F__law_take : Fun K "_law_take" "_law_take" s__law_take a__law_take fd__law_take
  b__law_take : Binds K fd__law_take ["draws", "bound"] []
  g__law_take : mg "_law_take" = some (.ref a__law_take)
  a__law_same : Addr
  fd__law_same : FuncData
  F__law_same : Fun K "_law_same" "_law_same" s__law_same a__law_same fd__law_same
  b__law_same : Binds K fd__law_same ["actual", "due"] []
  g__law_same : mg "_law_same" = some (.ref a__law_same)
  a__law_name : Addr
  fd__law_name : FuncData
  F__law_name : Fun K "_law_name" "_law_name" s__law_name a__law_name fd__law_name
  b__law_name : Binds K fd__law_name ["draws"] []
  g__law_name : mg "_law_name" = some (.ref a__law_name)
  a__law_items : Addr
  fd__law_items : FuncData
  F__law_items : Fun K "_law_items" "_law_items" s__law_items a__law_items fd__law_items
  b__law_items : Binds K fd__law_items ["draws", "most"] []
  g__law_items : mg "_law_items" = some (.ref a__law_items)
  a__law_error : Addr
  fd__law_error : FuncData
  F__law_error : Fun K "_law_error" "_law_error" s__law_error a__law_error fd__law_error
  b__law_error : Binds K fd__law_error ["text"] []
  g__law_error : mg "_law_error" = some (.ref a__law_error)
  a__law_wrong : Addr
  fd__law_wrong : FuncData
  F__law_wrong : Fun K "_law_wrong" "_law_wrong" s__law_wrong a__law_wrong fd__law_wrong
  b__law_wrong : Binds K fd__law_wrong ["draws"] []
  g__law_wrong : mg "_law_wrong" = some (.ref a__law_wrong)
  a_law : Addr
  fd_law : FuncData
  F_law : Fun K "law" "law" s_law a_law fd_law
  b_law : Binds K fd_law ["script"] []
  g_law : mg "law" = some (.ref a_law)
  C_SamphireError : Addr
  mg_SamphireError : mg "SamphireError" = some (.ref C_SamphireError)
  C_TextError : Addr
  a_TextError_init : Addr
  c_TextError : Addr
  cc_TextError : Addr
  x_TextError : Sup.ExcT P K mg "TextError" C_TextError a_TextError_init c_TextError cc_TextError
  doc_TextError : Value
  pm_TextError : Value
  ctv_TextError : Value
  oc_TextError : Value
  od_TextError : Option Addr
  osl_TextError : Array (Option Value)
  lk_TextError : K.lookup a_TextError_init = some ⟨oc_TextError, od_TextError, .func ((NF_TextError cc_TextError c_TextError).fd doc_TextError pm_TextError ctv_TextError), osl_TextError⟩
  hc_TextError : PySem.W.codeIn K (.ref c_TextError) "TextError.__init__" = true
  bx_TextError : Binds K ((NF_TextError cc_TextError c_TextError).fd doc_TextError pm_TextError ctv_TextError) ["self", "line", "column", "reason"] []
  nf_TextError_line : PySem.W.findIn K (.ref C_TextError) "line" = some none
  nf_TextError_column : PySem.W.findIn K (.ref C_TextError) "column" = some none
  nf_TextError_reason : PySem.W.findIn K (.ref C_TextError) "reason" = some none
  C_TooLarge : Addr
  a_TooLarge_init : Addr
  c_TooLarge : Addr
  cc_TooLarge : Addr
  x_TooLarge : Sup.ExcT P K mg "TooLarge" C_TooLarge a_TooLarge_init c_TooLarge cc_TooLarge
  doc_TooLarge : Value
  pm_TooLarge : Value
  ctv_TooLarge : Value
  oc_TooLarge : Value
  od_TooLarge : Option Addr
  osl_TooLarge : Array (Option Value)
  lk_TooLarge : K.lookup a_TooLarge_init = some ⟨oc_TooLarge, od_TooLarge, .func ((NF_TooLarge cc_TooLarge c_TooLarge).fd doc_TooLarge pm_TooLarge ctv_TooLarge), osl_TooLarge⟩
  hc_TooLarge : PySem.W.codeIn K (.ref c_TooLarge) "TooLarge.__init__" = true
  bx_TooLarge : Binds K ((NF_TooLarge cc_TooLarge c_TooLarge).fd doc_TooLarge pm_TooLarge ctv_TooLarge) ["self", "limit"] []
  nf_TooLarge_limit : PySem.W.findIn K (.ref C_TooLarge) "limit" = some none
  z_abs : mg "abs" = none
  z_bool : mg "bool" = none
  z_enumerate : mg "enumerate" = none
  z_int : mg "int" = none
  z_isinstance : mg "isinstance" = none
  z_len : mg "len" = none
  z_list : mg "list" = none
  z_max : mg "max" = none
  z_range : mg "range" = none
  z_reversed : mg "reversed" = none
  z_str : mg "str" = none
  z_sum : mg "sum" = none
  z_super : mg "super" = none
  z_tuple : mg "tuple" = none
  v_DIGITS : Value
  g_DIGITS : mg "DIGITS" = some v_DIGITS
  r_DIGITS : RelV (.str "0123456789") v_DIGITS
  v_WORD_SIGNS : Value
  g_WORD_SIGNS : mg "WORD_SIGNS" = some v_WORD_SIGNS
  r_WORD_SIGNS : RelV (.str "abcdefghijklmnopqrstuvwxyz0123456789") v_WORD_SIGNS
  v_MOST_IN_NAME : Value
  g_MOST_IN_NAME : mg "MOST_IN_NAME" = some v_MOST_IN_NAME
  r_MOST_IN_NAME : RelV (.int (12)) v_MOST_IN_NAME
  v_MOST_WEIGHT : Value
  g_MOST_WEIGHT : mg "MOST_WEIGHT" = some v_MOST_WEIGHT
  r_MOST_WEIGHT : RelV (.int (1000)) v_MOST_WEIGHT
  v_MOST_AMOUNT : Value
  g_MOST_AMOUNT : mg "MOST_AMOUNT" = some v_MOST_AMOUNT
  r_MOST_AMOUNT : RelV (.int (1000)) v_MOST_AMOUNT
  v_MOST_CHARACTERS : Value
  g_MOST_CHARACTERS : mg "MOST_CHARACTERS" = some v_MOST_CHARACTERS
  r_MOST_CHARACTERS : RelV (.int (100000)) v_MOST_CHARACTERS
  v_MOST_LINES : Value
  g_MOST_LINES : mg "MOST_LINES" = some v_MOST_LINES
  r_MOST_LINES : RelV (.int (1000)) v_MOST_LINES
  v_WORDS_OF_ITEM : Value
  g_WORDS_OF_ITEM : mg "WORDS_OF_ITEM" = some v_WORDS_OF_ITEM
  r_WORDS_OF_ITEM : RelV (.int (4)) v_WORDS_OF_ITEM
/-! ### the walk by single steps -/
local macro_rules | `(tactic| walk_at "z1") => `(tactic| first
  | with_reducible refine Z.seq ?_
  | with_reducible refine Z.asg ?_
  | ((with_reducible refine' Z.gname ?zv ?_); (case zv => first | (dsimp only [List.set]; done) | (dsimp only [List.set]; exact rfl)))
  | ((with_reducible refine' Z.var ?zv ?_); (case zv => exact rfl))
  | with_reducible refine Z.cst ?_
  | with_reducible refine Z.op ?_
  | with_reducible refine Z.un ?_
  | with_reducible refine Z.i0 ?_
  | with_reducible refine Z.iU ?_
  | with_reducible refine Z.eqII ?_
  | with_reducible refine Z.neII ?_
  | with_reducible refine Z.eqSS ?_
  | with_reducible refine Z.neSS ?_
  | with_reducible refine Z.eqBB ?_
  | with_reducible refine Z.neBB ?_
  | with_reducible refine Z.bl' ?_
  | with_reducible refine Z.test ?_
  | with_reducible refine Z.tbb ?_
  | with_reducible refine Z.tand ?_
  | with_reducible refine Z.tor ?_
  | with_reducible refine Z.tnot ?_
  | with_reducible refine Z.tyes ?_
  | with_reducible refine Z.andV ?_
  | with_reducible refine Z.orV ?_
  | with_reducible refine Z.notV ?_
  | with_reducible refine Z.ifE ?_
  | with_reducible refine Z.chain ?_
  | with_reducible refine Z.yesB ?_
  | with_reducible refine Z.noB ?_
  | with_reducible refine Z.noNB ?_
  | with_reducible refine Z.yesNB ?_
  | with_reducible refine Z.nil ?_
  | with_reducible refine Z.cons ?_
  | with_reducible refine Z.cb ?_
  | with_reducible refine Z.call ?_
  | with_reducible refine Z.meth ?_
  | with_reducible refine Z.fld ?_
  | with_reducible refine Z.int1 ?_
  | with_reducible refine Z.intb ?_
  | with_reducible refine Z.abs1 ?_
  | with_reducible refine Z.gcons ?_
  | with_reducible refine Z.gnil ?_
  | with_reducible refine Z.gcd ?_
  | ((with_reducible refine' Z.par2 ?zv ?_); (case zv => first | (dsimp only [List.set]; done) | (dsimp only [List.set]; exact rfl)))
  | with_reducible refine Z.isN ?_
  | with_reducible refine Z.notN ?_
  | with_reducible refine Z.inSg ?_
  | with_reducible refine Z.ninSg ?_
  | with_reducible refine Z.tup ?_
  | with_reducible refine Z.lst ?_
  | with_reducible refine Z.gsub ?_
  | with_reducible refine Z.par ?_
  | ((with_reducible refine' Z.aug ?zv ?_); (case zv => exact rfl))
  | with_reducible refine Z.ipI' ?_
  | with_reducible refine Z.ifs ?_
  | with_reducible refine Z.ret ?_
  | with_reducible refine Z.retN ?_
  | with_reducible refine Z.next ?_
  | with_reducible refine Z.brk ?_
  | with_reducible refine Z.drop ?_
  | with_reducible refine Z.bm ?_
  | with_reducible refine Z.bm0 ?_
  | with_reducible refine Z.sfld ?_
  | with_reducible refine Z.sfldaug ?_
  | with_reducible refine Z.radd ?_
  | with_reducible refine Z.make ?_
  | with_reducible refine Z.lc ?_
  | with_reducible refine Z.rng1 ?_
  | with_reducible refine Z.ilist ?_
  | with_reducible refine Z.itup ?_
  | with_reducible refine Z.for_ ?_
  | with_reducible refine Z.istr ?_
  | with_reducible refine Z.ienum ?_
  | with_reducible refine Z.ienumS ?_
  | with_reducible refine Z.din ?_
  | with_reducible refine Z.dput ?_
  | with_reducible refine Z.dget ?_
  | with_reducible refine Z.sl ?_
  | with_reducible refine Z.slno ?_
  | with_reducible refine Z.slpart ?_
  | with_reducible refine Z.bint ?_
  | with_reducible refine Z.listrev ?_
  | with_reducible refine Z.revl ?_
  | dsimp only)
local macro_rules | `(tactic| walk_at "z0") => `(tactic| ((try simp only [Z.cxK]); (try dsimp only [L2.start, List.map, List.length, Nat.reduceAdd, Nat.reduceSub, List.replicate, List.cons_append, List.nil_append])))
local macro_rules | `(tactic| walk_at "z") => `(tactic| (repeat (walk_at "z1")))


/-! ### the draws of a law: _law_draws, _law_take -/
/-- draws stand at a -/
def DrawsAt (H : Hp) (a : Addr) : Prop := ∃ ns : List Int, H a = some (.lst (ns.map V.int))
theorem DrawsAt.ne {H : Hp} {a l : Addr} (d : DrawsAt H a) (h : H l = none) : a ≠ l := ne_of_none d.choose_spec h
theorem DrawsAt.kp {M : List Addr} {H H' : Hp} {a : Addr} (d : DrawsAt H a) (k : Kp M H H') (n : a ∉ M) : DrawsAt H' a := let ⟨ns, h⟩ := d; ⟨ns, k _ _ n h⟩
theorem DrawsAt.kp0 {H H' : Hp} {a : Addr} (d : DrawsAt H a) (k : Kp [] H H') : DrawsAt H' a := d.kp k nin0
theorem DrawsAt.put {H : Hp} {a b : Addr} {o : HO} (d : DrawsAt H a) (n : a ≠ b) : DrawsAt (upd H b o) a := let ⟨ns, h⟩ := d; ⟨ns, (upd_ne n).trans h⟩
def spTake (K : PySem.W.Frag) : Sp := fun vs H Q _ => ∃ (a : Addr) (m : Int), vs = [.ref a, .int m] ∧ DrawsAt H a ∧ 1 ≤ m ∧ m < 18446744073709551616 ∧ ∀ H' v, 0 ≤ v → v < m → Kp [a] H H' → DrawsAt H' a → Q (.int v) H'
theorem ok__law_take {P : Program} {w : World} {K : PySem.W.Frag} {mg : Str → Option Value} {base : Heap} (T : T P K mg) : FnOk P w K mg base CX0 1 T.a__law_take T.fd__law_take ["draws", "bound"] (spTake K) := by
  refine T.F__law_take.ok sc__law_take (fun vs H Q E h => ?_) (fun cdv A outer s H vs Q E hr h => ?_)
  · obtain ⟨a, m, rfl, _⟩ := h
    rfl
  · obtain ⟨a, m, rfl, ⟨ns, ha⟩, h0, h1, q⟩ := h
    refine ⟨_, (pss_cons (ps_if (pt_cmpR op_eq (pe_callB c_len (by rfl) T.z_len (by decide +kernel) (pa_cons (pv 0) pa_nil)) pe_int (nomark _)) (pss_one (ps_ret pe_int)) pss_nil)
      (pss_one (ps_ret (pe_op op_mod (pe_callTy c_int (by rfl) T.z_int (by decide +kernel) (pa_cons (pe_bm0 PySem.F.plainAttrs_list PySem.F.slot_list_pop PySem.F.type_list_pop mt_pop (pv 0)) pa_nil)) (pv 1))))), ?_⟩
    walk_at "z0"
    walk_at "z"
    refine Z.lenL (lstL ha) ?_
    walk_at "z"
    refine Z.ite (fun h2 => ?_) (fun h2 => ?_)
    · walk_at "z"
      exact q _ _ (by omega) (by omega) (Kp.refl _) ⟨ns, ha⟩
    · walk_at "z"
      refine ⟨Z.tyL ha, ?_⟩
      have hl : 0 < ns.length := by
        rw [List.length_map] at h2
        omega
      have hi : ns.length - 1 < ns.length := by omega
      refine Z.pop ha (y := .int ns[ns.length - 1]) (by rw [List.length_map, List.getElem?_map, List.getElem?_eq_getElem hi]; rfl) ?_
      walk_at "z"
      refine Z.iC (by omega) ?_
      exact q _ _ (Int.emod_nonneg _ (by omega)) (Int.emod_lt_of_pos _ (by omega)) (Kp.put (by simp)) ⟨ns.dropLast, by rw [upd_same, List.map_dropLast]⟩
def spDraws (K : PySem.W.Frag) : Sp := fun vs H Q _ => ∃ (c : Addr) (ns : List Int), vs = [.ref c] ∧ SqL K H c (ns.map V.int) ∧ ns.length ≤ 63 ∧ (∀ z ∈ ns, Builtin.Int.intBits z ≤ 1048576) ∧ ∀ a H', H a = none → Kp [] H H' → DrawsAt H' a → Q (.ref a) H'
theorem ok__law_draws {P : Program} {w : World} {K : PySem.W.Frag} {mg : Str → Option Value} {base : Heap} (T : T P K mg) : FnOk P w K mg base CX0 1 T.a__law_draws T.fd__law_draws ["script"] (spDraws K) := by
  refine T.F__law_draws.ok sc__law_draws (fun vs H Q E h => ?_) (fun cdv A outer s H vs Q E hr h => ?_)
  · obtain ⟨c, ns, rfl, _⟩ := h
    rfl
  · obtain ⟨c, ns, rfl, hS, hlen, hb, q⟩ := h
    refine ⟨_, (pss_cons (ps_set (i := 1) sc__law_draws.nd rfl (by first | exact Or.inl rfl | exact Or.inr rfl) (pe_lst pa_nil))
      (pss_cons (ps_for PassesOwn.never rfl (pi_list (pv 0)) (pg_name (i := 2) sc__law_draws.nd rfl (by first | exact Or.inl rfl | exact Or.inr rfl)) (pss_cons (ps_set (i := 3) sc__law_draws.nd rfl (by first | exact Or.inl rfl | exact Or.inr rfl) (pe_callB c_abs (by rfl) T.z_abs (by decide +kernel) (pa_cons (pv 2) pa_nil)))
      (Z.pss_consJ (ps_if (pt_cmpR op_lt (pv 3) (pe_op op_pow pe_int pe_int) (nomark _)) (pss_cons (ps_set (i := 4) sc__law_draws.nd rfl (by first | exact Or.inl rfl | exact Or.inr rfl) (pe_op op_mod (pe_callTy c_int (by rfl) T.z_int (by decide +kernel) (pa_cons (pe_op op_add (pe_op op_mul (pv 3) pe_int) pe_int) pa_nil)) pe_int))
      (pss_cons (ps_expr (pe_bm PySem.F.plainAttrs_list PySem.F.slot_list_append PySem.F.type_list_append mt_append (pv 1) (pa_cons (pe_op op_mod (pe_callTy c_int (by rfl) T.z_int (by decide +kernel) (pa_cons (pe_op op_add (pe_op op_mul (pv 4) pe_int) (pv 3)) pa_nil)) pe_int) pa_nil)))
      (pss_cons (ps_expr (pe_bm PySem.F.plainAttrs_list PySem.F.slot_list_append PySem.F.type_list_append mt_append (pv 1) (pa_cons (pe_op op_mod (pe_callTy c_int (by rfl) T.z_int (by decide +kernel) (pa_cons (pe_op op_add (pv 4) (pe_op op_fdivW (pv 3) pe_int)) pa_nil)) pe_int) pa_nil)))
      (pss_one (ps_set (i := 3) sc__law_draws.nd rfl (by first | exact Or.inl rfl | exact Or.inr rfl) pe_int))))) pss_nil)
      (pss_one (ps_for PassesOwn.never rfl (pi_range1 (by rfl) T.z_range (pa_cons pe_int pa_nil)) (pg_name (i := 5) sc__law_draws.nd rfl (by first | exact Or.inl rfl | exact Or.inr rfl)) (pss_one (ps_if (pt_cmpR op_gt (pv 3) pe_int (nomark _)) (pss_cons (ps_expr (pe_bm PySem.F.plainAttrs_list PySem.F.slot_list_append PySem.F.type_list_append mt_append (pv 1) (pa_cons (pe_op op_mod (pe_callTy c_int (by rfl) T.z_int (by decide +kernel) (pa_cons (pv 3) pa_nil)) pe_int) pa_nil)))
      (pss_one (ps_set (i := 3) sc__law_draws.nd rfl (by first | exact Or.inl rfl | exact Or.inr rfl) (pe_op op_fdivW (pv 3) pe_int)))) pss_nil)))))))
      (pss_cons (ps_set (i := 6) sc__law_draws.nd rfl (by first | exact Or.inl rfl | exact Or.inr rfl) pe_int)
      (Z.pss_consJ (ps_if (pt_cmpR op_gt (pe_callB c_len (by rfl) T.z_len (by decide +kernel) (pa_cons (pv 0) pa_nil)) pe_int (nomark _)) (pss_one (ps_set (i := 6) sc__law_draws.nd rfl (by first | exact Or.inl rfl | exact Or.inr rfl) (pe_op op_add pe_int (pe_callB c_abs (by rfl) T.z_abs (by decide +kernel) (pa_cons (pe_ix ix_list (pv 0) pe_int (fun _ _ => rfl)) pa_nil))))) pss_nil)
      (pss_cons (ps_for PassesOwn.never rfl (pi_range1 (by rfl) T.z_range (pa_cons pe_int pa_nil)) (pg_name (i := 5) sc__law_draws.nd rfl (by first | exact Or.inl rfl | exact Or.inr rfl)) (pss_cons (ps_set (i := 6) sc__law_draws.nd rfl (by first | exact Or.inl rfl | exact Or.inr rfl) (pe_op op_mod (pe_callTy c_int (by rfl) T.z_int (by decide +kernel) (pa_cons (pe_op op_add (pe_op op_mul (pv 6) pe_int) pe_int) pa_nil)) pe_int))
      (pss_one (ps_expr (pe_bm PySem.F.plainAttrs_list PySem.F.slot_list_append PySem.F.type_list_append mt_append (pv 1) (pa_cons (pe_op op_fdivW (pv 6) pe_int) pa_nil))))))
      (pss_one (ps_ret (RL.pe_listRev rfl (by rfl) T.z_list (by rfl) T.z_reversed (pv 1))))))))), ?_⟩
    walk_at "z0"
    walk_at "z"
    refine Z.lstK (fun D H1 nD k1 e1 => ?_)
    walk_at "z"
    refine Z.forl (ns.map V.int) (k1.seq nin0 hS) (fun i σ' H' => ∃ y2 y3 y4 y5, ∃ ds : List Int, σ' = [some (.ref c), some (.ref D), y2, y3, y4, y5, none] ∧ Kp [] H H' ∧ H' D = some (.lst (ds.map V.int)) ∧ ds.length ≤ i * 62) ⟨_, _, _, _, [], rfl, k1, e1, by simp⟩ ?_ ?_ ?_
    · rintro i σ' H' hi ⟨y2, y3, y4, y5, ds, rfl, k2, e2, hl⟩
      exact k2.seq nin0 hS
    · rintro i x σ' H' hx ⟨y2, y3, y4, y5, ds, rfl, k2, e2, hl⟩
      obtain ⟨z, hz, rfl⟩ : ∃ z, ns[i]? = some z ∧ x = .int z := by
        rw [List.getElem?_map] at hx
        cases hw : ns[i]? with
        | none => rw [hw] at hx; cases hx
        | some r => rw [hw] at hx; exact ⟨r, rfl, (Option.some.inj hx).symm⟩
      have hi : i < ns.length := (List.getElem?_eq_some_iff.mp hz).1
      walk_at "z"
      refine Z.seqJ (fun σ' H' => ∃ y4, ∃ (n : Int) (ds : List Int), σ' = [some (.ref c), some (.ref D), some (.int z), some (.int n), y4, y5, none] ∧ Kp [] H H' ∧ H' D = some (.lst (ds.map V.int)) ∧ ds.length ≤ i * 62 + 2) ?_ ?_
      · rintro σ' H' ⟨y4, n, ds, rfl, k3, e3, hl3⟩
        walk_at "z"
        refine Z.forr 60 (by rfl) (by decide) (fun j σ' H' => ∃ y5, ∃ (n : Int) (ds : List Int), σ' = [some (.ref c), some (.ref D), some (.int z), some (.int n), y4, y5, none] ∧ Kp [] H H' ∧ H' D = some (.lst (ds.map V.int)) ∧ ds.length ≤ i * 62 + 2 + j) ⟨_, _, ds, rfl, k3, e3, by omega⟩ ?_ ?_
        · rintro j σ' H' hj ⟨y5, n, ds, rfl, k4, e4, hl4⟩
          walk_at "z"
          refine Z.ite (fun h2 => ?_) (fun h2 => ?_)
          · walk_at "z"
            refine ⟨Z.tyL e4, ?_⟩
            walk_at "z"
            refine Z.iC (by decide) ?_
            walk_at "z"
            refine Z.app e4 (Z.szl (m := 100000) (by rw [List.length_map]; omega)) ?_
            walk_at "z"
            refine Z.iC ⟨by decide, by decide⟩ ?_
            walk_at "z"
            exact ⟨_, _, ds ++ [n % 997], rfl, k4.mut nD rfl, by rw [upd_same, List.map_append]; rfl, by simp; omega⟩
          · walk_at "z"
            exact ⟨_, _, ds, rfl, k4, e4, by omega⟩
        · rintro σ' H' ⟨y5, n, ds, rfl, k4, e4, hl4⟩
          exact ⟨_, _, _, _, ds, rfl, k4, e4, by omega⟩
      · intro N jn
        walk_at "z"
        refine Z.iC ⟨by decide, by decide, by decide⟩ ?_
        walk_at "z"
        refine Z.ite (fun h2 => ?_) (fun h2 => ?_)
        · walk_at "z"
          refine Z.iC (.inr (by decide)) ?_
          walk_at "z"
          refine Z.iC (by decide) ?_
          walk_at "z"
          refine ⟨Z.tyL e2, ?_⟩
          walk_at "z"
          refine Z.iC (.inr (by decide)) ?_
          walk_at "z"
          refine Z.iC (by decide) ?_
          walk_at "z"
          refine Z.app e2 (Z.szl (m := 100000) (by rw [List.length_map]; omega)) ?_
          walk_at "z"
          refine ⟨Z.tyL upd_same, ?_⟩
          walk_at "z"
          refine Z.iC ⟨by decide, by decide⟩ ?_
          walk_at "z"
          refine Z.iC (by decide) ?_
          walk_at "z"
          refine Z.app upd_same (Z.szl (m := 100000) (by rw [List.length_append, List.length_map]; simp; omega)) ?_
          walk_at "z"
          rw [upd_upd]
          exact jn _ _ ⟨_, _, ds ++ [_, _], rfl, k2.mut nD rfl, by rw [upd_same, List.map_append, List.append_assoc]; rfl, by simp; omega⟩
        · walk_at "z"
          exact jn _ _ ⟨_, _, ds, rfl, k2, e2, by omega⟩
    · rintro σ' H' ⟨y2, y3, y4, y5, ds, rfl, k2, e2, hl⟩
      rw [List.length_map] at hl
      walk_at "z"
      refine Z.seqJ (fun σ' H' => ∃ z : Int, σ' = [some (.ref c), some (.ref D), y2, y3, y4, y5, some (.int z)] ∧ Kp [] H H' ∧ H' D = some (.lst (ds.map V.int))) ?_ ?_
      · rintro σ' H' ⟨z, rfl, k3, e3⟩
        walk_at "z"
        refine Z.forr 240 (by rfl) (by decide) (fun j σ' H' => ∃ y5, ∃ (z : Int) (es : List Int), σ' = [some (.ref c), some (.ref D), y2, y3, y4, y5, some (.int z)] ∧ Kp [] H H' ∧ H' D = some (.lst (es.map V.int)) ∧ es.length ≤ ds.length + j) ⟨_, _, ds, rfl, k3, e3, by omega⟩ ?_ ?_
        · rintro j σ' H' hj ⟨y5, z, es, rfl, k4, e4, hl4⟩
          walk_at "z"
          refine Z.iC (.inr (by decide)) ?_
          walk_at "z"
          refine Z.iC (by decide) ?_
          walk_at "z"
          refine ⟨Z.tyL e4, ?_⟩
          walk_at "z"
          refine Z.iC ⟨by decide, by decide⟩ ?_
          walk_at "z"
          refine Z.app e4 (Z.szl (m := 100000) (by rw [List.length_map]; omega)) ?_
          exact ⟨_, _, es ++ [_], rfl, k4.mut nD rfl, by rw [upd_same, List.map_append]; rfl, by simp; omega⟩
        · rintro σ' H' ⟨y5, z, es, rfl, k4, e4, hl4⟩
          walk_at "z"
          refine Z.lrk (lstL e4) (fun p H5 np k5 e5 => ?_)
          exact q p H5 (k4.none nin0 np) (k4.trans k5) ⟨es.reverse, by rw [e5, List.map_reverse]⟩
      · intro N jn
        walk_at "z"
        refine Z.lenL (k2.seq nin0 hS) ?_
        walk_at "z"
        rw [List.length_map]
        refine Z.ite (fun h2 => ?_) (fun h2 => ?_)
        · walk_at "z"
          have h0 : 0 < ns.length := by omega
          refine Z.ixL (k2.seq nin0 hS) (atM (j := 0) (List.getElem?_eq_getElem h0)) ?_
          walk_at "z"
          exact jn _ _ ⟨_, rfl, k2, e2⟩
        · walk_at "z"
          exact jn _ _ ⟨_, rfl, k2, e2⟩

/-! ### _law_same: equal data, the same kinds -/
def scl : V → Bool
  | .non => true
  | .bl _ => true
  | .int _ => true
  | .str _ => true
  | _ => false
def Sm : Nat → Hp → V → V → Prop
  | 0, _, _, _ => False
  | n + 1, H, x, y => (x = y ∧ scl x = true) ∨ ∃ (a b : Addr) (xs ys : List V), x = .ref a ∧ y = .ref b ∧ ((H a = some (.lst xs) ∧ H b = some (.lst ys)) ∨ (H a = some (.tup xs) ∧ H b = some (.tup ys))) ∧ xs.length = ys.length ∧ xs.length ≤ 100000 ∧
    ∀ (i : Nat) (u v : V), xs[i]? = some u → ys[i]? = some v → Sm n H u v
theorem Sm.sc {n : Nat} {H : Hp} {x : V} (h : scl x = true) : Sm (n + 1) H x x := .inl ⟨rfl, h⟩
theorem Sm.int {n : Nat} {H : Hp} (i : Int) : Sm (n + 1) H (.int i) (.int i) := .inl ⟨rfl, rfl⟩
theorem Sm.lst {n : Nat} {H : Hp} {a b : Addr} {xs ys : List V} (h1 : H a = some (.lst xs)) (h2 : H b = some (.lst ys)) (hl : xs.length = ys.length) (hm : xs.length ≤ 100000) (h : ∀ (i : Nat) (u v : V), xs[i]? = some u → ys[i]? = some v → Sm n H u v) : Sm (n + 1) H (.ref a) (.ref b) := .inr ⟨a, b, xs, ys, rfl, rfl, .inl ⟨h1, h2⟩, hl, hm, h⟩
theorem Sm.tup {n : Nat} {H : Hp} {a b : Addr} {xs ys : List V} (h1 : H a = some (.tup xs)) (h2 : H b = some (.tup ys)) (hl : xs.length = ys.length) (hm : xs.length ≤ 100000) (h : ∀ (i : Nat) (u v : V), xs[i]? = some u → ys[i]? = some v → Sm n H u v) : Sm (n + 1) H (.ref a) (.ref b) := .inr ⟨a, b, xs, ys, rfl, rfl, .inr ⟨h1, h2⟩, hl, hm, h⟩
/-- lists of the same plain values -/
theorem Sm.plain {n : Nat} {H : Hp} {a b : Addr} {xs : List V} (h1 : H a = some (.lst xs)) (h2 : H b = some (.lst xs)) (hm : xs.length ≤ 100000) (h : ∀ x ∈ xs, scl x = true) : Sm (n + 2) H (.ref a) (.ref b) := .lst h1 h2 rfl hm fun i u v hu hv => by
  rw [hu] at hv
  cases hv
  exact .sc (h u (List.mem_of_getElem? hu))
theorem Sm.plainT {n : Nat} {H : Hp} {a b : Addr} {xs : List V} (h1 : H a = some (.tup xs)) (h2 : H b = some (.tup xs)) (hm : xs.length ≤ 100000) (h : ∀ x ∈ xs, scl x = true) : Sm (n + 2) H (.ref a) (.ref b) := .tup h1 h2 rfl hm fun i u v hu hv => by
  rw [hu] at hv
  cases hv
  exact .sc (h u (List.mem_of_getElem? hu))
def spSm (n : Nat) : Sp := fun vs H Q _ => ∃ x y, vs = [x, y] ∧ Sm n H x y ∧ Q (.bl true) H
theorem scl_ty {K : PySem.W.Frag} {H : Hp} {x : V} (h : scl x = true) : ∃ A b1 b2 b3, TyX K H x (.type A) ∧ kitB A "tuple" = some false ∧ kitB A "list" = some false ∧ kitB A "bool" = some b1 ∧ kitB A "int" = some b2 ∧ kitB A "str" = some b3 := by
  cases x with
  | non => exact ⟨"NoneType", false, false, false, .base .non, by decide +kernel, by decide +kernel, by decide +kernel, by decide +kernel, by decide +kernel⟩
  | bl b => exact ⟨"bool", true, true, false, .base (.bl b), by decide +kernel, by decide +kernel, by decide +kernel, by decide +kernel, by decide +kernel⟩
  | int i => exact ⟨"int", false, true, false, .base (.int i), by decide +kernel, by decide +kernel, by decide +kernel, by decide +kernel, by decide +kernel⟩
  | str z => exact ⟨"str", false, false, true, .base (.str z), by decide +kernel, by decide +kernel, by decide +kernel, by decide +kernel, by decide +kernel⟩
  | _ => cases h
theorem scl_scal {x : V} (h : scl x = true) : scal x x = true := by
  cases x with
  | non => rfl
  | bl b => rfl
  | int i => rfl
  | str z => rfl
  | _ => cases h
theorem same_rec {P : Program} {w : World} {K : PySem.W.Frag} {mg : Str → Option Value} {base : Heap} (T : T P K mg) : ∀ n, FnOk P w K mg base CX0 (n + 1) T.a__law_same T.fd__law_same ["actual", "due"] (spSm n)
  | 0 => ⟨fun _ _ _ _ h => by obtain ⟨_, _, _, h, _⟩ := h; exact h.elim, fun _ _ _ _ _ _ _ _ _ _ _ _ _ h => by obtain ⟨_, _, _, h, _⟩ := h; exact h.elim⟩
  | n + 1 => by
    have ih := same_rec (w := w) (base := base) T n
    refine T.F__law_same.ok sc__law_same (fun vs H Q E h => ?_) (fun cdv A outer s H vs Q E hr h => ?_)
    · obtain ⟨x, y, rfl, _⟩ := h
      rfl
    · obtain ⟨x, y, rfl, hs, q⟩ := h
      refine ⟨_, (pss_cons (ps_if (PW.pt (pw_or (pt_val (pe_callB call_isi (by rfl) T.z_isinstance (by decide +kernel) (pa_cons (pv 1) (pa_cons (pe_bltn (v := .ty "tuple") (by rfl) T.z_tuple (by decide +kernel) rfl) pa_nil)))) (pw_or1 (pt_val (pe_callB call_isi (by rfl) T.z_isinstance (by decide +kernel) (pa_cons (pv 1) (pa_cons (pe_bltn (v := .ty "list") (by rfl) T.z_list (by decide +kernel) rfl) pa_nil))))))) (pss_cons (ps_if (PW.pt (pw_or (pt_cmpR op_ne (pe_callB call_isi (by rfl) T.z_isinstance (by decide +kernel) (pa_cons (pv 1) (pa_cons (pe_bltn (v := .ty "tuple") (by rfl) T.z_tuple (by decide +kernel) rfl) pa_nil))) (pe_callB call_isi (by rfl) T.z_isinstance (by decide +kernel) (pa_cons (pv 0) (pa_cons (pe_bltn (v := .ty "tuple") (by rfl) T.z_tuple (by decide +kernel) rfl) pa_nil))) (nomark _)) (pw_or1 (pt_cmpR op_ne (pe_callB call_isi (by rfl) T.z_isinstance (by decide +kernel) (pa_cons (pv 1) (pa_cons (pe_bltn (v := .ty "list") (by rfl) T.z_list (by decide +kernel) rfl) pa_nil))) (pe_callB call_isi (by rfl) T.z_isinstance (by decide +kernel) (pa_cons (pv 0) (pa_cons (pe_bltn (v := .ty "list") (by rfl) T.z_list (by decide +kernel) rfl) pa_nil))) (nomark _))))) (pss_one (ps_ret pe_bl)) pss_nil)
      (pss_cons (ps_if (pt_cmpR op_ne (pe_callB c_len (by rfl) T.z_len (by decide +kernel) (pa_cons (pv 0) pa_nil)) (pe_callB c_len (by rfl) T.z_len (by decide +kernel) (pa_cons (pv 1) pa_nil)) (nomark _)) (pss_one (ps_ret pe_bl)) pss_nil)
      (pss_cons (ps_for PassesOwn.never rfl (pi_range1 (by rfl) T.z_range (pa_cons (pe_callB c_len (by rfl) T.z_len (by decide +kernel) (pa_cons (pv 1) pa_nil)) pa_nil)) (pg_name (i := 2) sc__law_same.nd rfl (by first | exact Or.inl rfl | exact Or.inr rfl)) (pss_one (ps_if (pt_not (pt_val (pe_call ih (hr.mono (by omega)) (by rfl) T.g__law_same T.F__law_same.kp T.b__law_same .nil pass0 (pa_cons (pe_ix ix_seq (pv 0) (pv 2) (fun _ _ => rfl)) (pa_cons (pe_ix ix_seq (pv 1) (pv 2) (fun _ _ => rfl)) pa_nil))))) (pss_one (ps_ret pe_bl)) pss_nil)))
      (pss_one (ps_ret pe_bl))))) pss_nil)
      (pss_cons (ps_if (pt_cmpR op_ne (pe_callB call_isi (by rfl) T.z_isinstance (by decide +kernel) (pa_cons (pv 1) (pa_cons (pe_bltn (v := .ty "bool") (by rfl) T.z_bool (by decide +kernel) rfl) pa_nil))) (pe_callB call_isi (by rfl) T.z_isinstance (by decide +kernel) (pa_cons (pv 0) (pa_cons (pe_bltn (v := .ty "bool") (by rfl) T.z_bool (by decide +kernel) rfl) pa_nil))) (nomark _)) (pss_one (ps_ret pe_bl)) pss_nil)
      (pss_cons (ps_if (PW.pt (pw_or (pt_cmpR op_ne (pe_callB call_isi (by rfl) T.z_isinstance (by decide +kernel) (pa_cons (pv 1) (pa_cons (pe_bltn (v := .ty "int") (by rfl) T.z_int (by decide +kernel) rfl) pa_nil))) (pe_callB call_isi (by rfl) T.z_isinstance (by decide +kernel) (pa_cons (pv 0) (pa_cons (pe_bltn (v := .ty "int") (by rfl) T.z_int (by decide +kernel) rfl) pa_nil))) (nomark _)) (pw_or1 (pt_cmpR op_ne (pe_callB call_isi (by rfl) T.z_isinstance (by decide +kernel) (pa_cons (pv 1) (pa_cons (pe_bltn (v := .ty "str") (by rfl) T.z_str (by decide +kernel) rfl) pa_nil))) (pe_callB call_isi (by rfl) T.z_isinstance (by decide +kernel) (pa_cons (pv 0) (pa_cons (pe_bltn (v := .ty "str") (by rfl) T.z_str (by decide +kernel) rfl) pa_nil))) (nomark _))))) (pss_one (ps_ret pe_bl)) pss_nil)
      (pss_one (ps_ret (pe_cmpR op_eq (pv 0) (pv 1) (nomark _))))))), ?_⟩
      walk_at "z0"
      walk_at "z"
      rcases hs with ⟨rfl, hx⟩ | ⟨a, b, xs, ys, rfl, rfl, hab, hl, hm, hi⟩
      · obtain ⟨A, b1, b2, b3, ht, k1, k2, k3, k4, k5⟩ := scl_ty (K := K) (H := H) hx
        refine Z.isi ht k1 ?_
        walk_at "z"
        refine Z.isi ht k2 ?_
        walk_at "z"
        refine Z.isi ht k3 ?_
        walk_at "z"
        refine Z.isi ht k3 ?_
        walk_at "z"
        refine Z.noN rfl ?_
        walk_at "z"
        refine Z.isi ht k4 ?_
        walk_at "z"
        refine Z.isi ht k4 ?_
        walk_at "z"
        refine Z.noN rfl ?_
        walk_at "z"
        refine Z.isi ht k5 ?_
        walk_at "z"
        refine Z.isi ht k5 ?_
        walk_at "z"
        refine Z.noN rfl ?_
        walk_at "z"
        refine ⟨scl_scal hx, ?_⟩
        rw [decide_eq_true rfl]
        exact q
      · rcases hab with ⟨ha, hb⟩ | ⟨ha, hb⟩
        · have ht : TyX K H (.ref b) (.type "list") := .base (.lst hb)
          have ha' : TyX K H (.ref a) (.type "list") := .base (.lst ha)
          refine Z.isi ht (b := false) (by decide +kernel) ?_
          walk_at "z"
          refine Z.isi ht (b := true) (by decide +kernel) ?_
          walk_at "z"
          refine Z.isi ht (b := false) (by decide +kernel) ?_
          walk_at "z"
          refine Z.isi ha' (b := false) (by decide +kernel) ?_
          walk_at "z"
          refine Z.noN rfl ?_
          walk_at "z"
          refine Z.isi ht (b := true) (by decide +kernel) ?_
          walk_at "z"
          refine Z.isi ha' (b := true) (by decide +kernel) ?_
          walk_at "z"
          refine Z.noN rfl ?_
          walk_at "z"
          refine Z.lenL (lstL ha) ?_
          walk_at "z"
          refine Z.lenL (lstL hb) ?_
          walk_at "z"
          refine Z.noN (by omega) ?_
          walk_at "z"
          refine Z.lenL (lstL hb) ?_
          refine Z.forr xs.length (by omega) (by omega) (fun i σ' H' => ∃ z, σ' = [some (.ref a), some (.ref b), z] ∧ H' = H) ⟨_, rfl, rfl⟩ ?_ ?_
          · rintro i σ' H' hlt ⟨z, rfl, rfl⟩
            have hu : xs[i]? = some xs[i] := List.getElem?_eq_getElem hlt
            have hv : ys[i]? = some (ys[i]'(by omega)) := List.getElem?_eq_getElem _
            walk_at "z"
            refine Z.ixA (.inl (lstL ha)) (atI_nat hu) ?_
            walk_at "z"
            refine Z.ixA (.inl (lstL hb)) (atI_nat hv) ?_
            walk_at "z"
            refine ⟨_, _, rfl, hi i _ _ hu hv, ?_⟩
            walk_at "z"
            exact ⟨_, rfl, rfl⟩
          · rintro σ' H' ⟨z, rfl, rfl⟩
            walk_at "z"
            exact q
        · have ht : TyX K H (.ref b) (.type "tuple") := .base (.tup hb)
          have ha' : TyX K H (.ref a) (.type "tuple") := .base (.tup ha)
          refine Z.isi ht (b := true) (by decide +kernel) ?_
          walk_at "z"
          refine Z.isi ht (b := true) (by decide +kernel) ?_
          walk_at "z"
          refine Z.isi ha' (b := true) (by decide +kernel) ?_
          walk_at "z"
          refine Z.noN rfl ?_
          walk_at "z"
          refine Z.isi ht (b := false) (by decide +kernel) ?_
          walk_at "z"
          refine Z.isi ha' (b := false) (by decide +kernel) ?_
          walk_at "z"
          refine Z.noN rfl ?_
          walk_at "z"
          refine Z.lenT (tupT ha) ?_
          walk_at "z"
          refine Z.lenT (tupT hb) ?_
          walk_at "z"
          refine Z.noN (by omega) ?_
          walk_at "z"
          refine Z.lenT (tupT hb) ?_
          refine Z.forr xs.length (by omega) (by omega) (fun i σ' H' => ∃ z, σ' = [some (.ref a), some (.ref b), z] ∧ H' = H) ⟨_, rfl, rfl⟩ ?_ ?_
          · rintro i σ' H' hlt ⟨z, rfl, rfl⟩
            have hu : xs[i]? = some xs[i] := List.getElem?_eq_getElem hlt
            have hv : ys[i]? = some (ys[i]'(by omega)) := List.getElem?_eq_getElem _
            walk_at "z"
            refine Z.ixA (.inr (tupT ha)) (atI_nat hu) ?_
            walk_at "z"
            refine Z.ixA (.inr (tupT hb)) (atI_nat hv) ?_
            walk_at "z"
            refine ⟨_, _, rfl, hi i _ _ hu hv, ?_⟩
            walk_at "z"
            exact ⟨_, rfl, rfl⟩
          · rintro σ' H' ⟨z, rfl, rfl⟩
            walk_at "z"
            exact q
theorem ok__law_same {P : Program} {w : World} {K : PySem.W.Frag} {mg : Str → Option Value} {base : Heap} (T : T P K mg) : FnOk P w K mg base CX0 6 T.a__law_same T.fd__law_same ["actual", "due"] (spSm 5) := same_rec T 5

/-! ### items of a law: _law_name, _law_items -/
theorem mem_append_one {α : Type} {P : α → Prop} {l : List α} {x : α} (h : ∀ n ∈ l, P n) (hx : P x) : ∀ n ∈ l ++ [x], P n := fun n hn => by
  rcases List.mem_append.mp hn with h1 | h1
  · exact h n h1
  · rw [List.mem_singleton.mp h1]; exact hx
theorem mem_set_of {α : Type} {P : α → Prop} {l : List α} {j : Nat} {x : α} (h : ∀ n ∈ l, P n) (hx : P x) : ∀ n ∈ l.set j x, P n := fun n hn => by
  rcases List.mem_or_eq_of_mem_set hn with h1 | h1
  · exact h n h1
  · rw [h1]; exact hx
structure Row where
  k : Str
  g : Str
  w : Int
  m : Int
def Row.vs (r : Row) : List V := [.str r.k, .str r.g, .int r.w, .int r.m]
def RowAt (H : Hp) (p : Addr) (r : Row) : Prop := H p = some (.tup r.vs)
def RowsAt (H : Hp) (ps : List (Addr × Row)) : Prop := ∀ x ∈ ps, RowAt H x.1 x.2
def refs (ps : List (Addr × Row)) : List V := ps.map fun x => V.ref x.1
theorem refs_len (ps : List (Addr × Row)) : (refs ps).length = ps.length := by unfold refs; rw [List.length_map]
theorem refs_at {ps : List (Addr × Row)} {i : Nat} {x : Addr × Row} (h : ps[i]? = some x) : (refs ps)[i]? = some (.ref x.1) := by unfold refs; rw [List.getElem?_map, h]; rfl
theorem refs_of {ps : List (Addr × Row)} {i : Nat} {v : V} (h : (refs ps)[i]? = some v) : ∃ x, ps[i]? = some x ∧ v = .ref x.1 := by
  unfold refs at h
  rw [List.getElem?_map] at h
  cases e : ps[i]? with
  | none => rw [e] at h; cases h
  | some x => rw [e] at h; exact ⟨x, rfl, (Option.some.inj h).symm⟩
theorem refs_snoc (ps : List (Addr × Row)) (x : Addr × Row) : refs (ps ++ [x]) = refs ps ++ [.ref x.1] := by unfold refs; rw [List.map_append]; rfl
theorem RowsAt.kp {M : List Addr} {H H' : Hp} {ps : List (Addr × Row)} (r : RowsAt H ps) (k : Kp M H H') (n : ∀ x ∈ M, ∃ xs, H x = some (.lst xs)) : RowsAt H' ps := fun x hx => k _ _ (fun z => by
  obtain ⟨xs, e⟩ := n _ z
  have e2 := r x hx
  unfold RowAt at e2
  rw [e] at e2
  cases e2) (r x hx)
theorem RowsAt.kp0 {H H' : Hp} {ps : List (Addr × Row)} (r : RowsAt H ps) (k : Kp [] H H') : RowsAt H' ps := r.kp k fun _ h => by cases h
theorem RowsAt.kp1 {H H' : Hp} {a : Addr} {ps : List (Addr × Row)} {xs : List V} (r : RowsAt H ps) (k : Kp [a] H H') (e : H a = some (.lst xs)) : RowsAt H' ps := r.kp k fun x h => by
  rw [List.mem_singleton.mp h]
  exact ⟨xs, e⟩
theorem RowsAt.kpd {H H' : Hp} {a : Addr} {ps : List (Addr × Row)} (r : RowsAt H ps) (k : Kp [a] H H') (d : DrawsAt H a) : RowsAt H' ps := let ⟨_, e⟩ := d; r.kp1 k e
theorem RowsAt.snoc {H : Hp} {ps : List (Addr × Row)} {x : Addr × Row} (r : RowsAt H ps) (h : RowAt H x.1 x.2) : RowsAt H (ps ++ [x]) := fun y hy => by
  rcases List.mem_append.mp hy with z | z
  · exact r y z
  · rw [List.mem_singleton.mp z]; exact h
def lawNames : List Str := ["a", "b7", "k", "q", "zz", "9", "abcdefghijkl", "or", "m2", "weight"]
def lawGroups : List Str := ["red", "blue", "k"]
structure RowOk (r : Row) : Prop where
  k : r.k ∈ lawNames
  g : r.g ∈ lawGroups
  w0 : 1 ≤ r.w
  w1 : r.w ≤ 1000
  m0 : -1000 ≤ r.m
  m1 : r.m ≤ 1000
theorem pickS (l : List Str) {v : Int} (h0 : 0 ≤ v) (h1 : v < (l.length : Nat)) : ∃ s, s ∈ l ∧ atI (l.map V.str) v = some (.str s) := by
  obtain ⟨j, rfl⟩ : ∃ j : Nat, v = (j : Int) := ⟨v.toNat, by omega⟩
  have hj : j < l.length := by omega
  exact ⟨l[j], List.getElem_mem hj, atI_nat (by rw [List.getElem?_map, List.getElem?_eq_getElem hj]; rfl)⟩
theorem pickI (l : List Int) {v : Int} (h0 : 0 ≤ v) (h1 : v < (l.length : Nat)) : ∃ s, s ∈ l ∧ atI (l.map V.int) v = some (.int s) := by
  obtain ⟨j, rfl⟩ : ∃ j : Nat, v = (j : Int) := ⟨v.toNat, by omega⟩
  have hj : j < l.length := by omega
  exact ⟨l[j], List.getElem_mem hj, atI_nat (by rw [List.getElem?_map, List.getElem?_eq_getElem hj]; rfl)⟩
def spName (K : PySem.W.Frag) : Sp := fun vs H Q _ => ∃ a : Addr, vs = [.ref a] ∧ DrawsAt H a ∧ ∀ H' s, s ∈ lawNames → Kp [a] H H' → DrawsAt H' a → Q (.str s) H'
theorem ok__law_name {P : Program} {w : World} {K : PySem.W.Frag} {mg : Str → Option Value} {base : Heap} (T : T P K mg) : FnOk P w K mg base CX0 2 T.a__law_name T.fd__law_name ["draws"] (spName K) := by
  refine T.F__law_name.ok sc__law_name (fun vs H Q E h => ?_) (fun cdv A outer s H vs Q E hr h => ?_)
  · obtain ⟨a, rfl, _⟩ := h
    rfl
  · obtain ⟨a, rfl, hd, q⟩ := h
    refine ⟨_, (pss_one (ps_ret (pe_ix ix_list (pe_lst (pa_cons pe_str (pa_cons pe_str (pa_cons pe_str (pa_cons pe_str (pa_cons pe_str (pa_cons pe_str (pa_cons pe_str (pa_cons pe_str (pa_cons pe_str (pa_cons pe_str pa_nil))))))))))) (pe_call (ok__law_take T) (hr.mono (by decide)) (by rfl) T.g__law_take T.F__law_take.kp T.b__law_take .nil pass0 (pa_cons (pv 0) (pa_cons pe_int pa_nil))) (fun _ _ => rfl)))), ?_⟩
    walk_at "z0"
    walk_at "z"
    refine Z.lstK (fun b H1 nb k1 e1 => ?_)
    walk_at "z"
    refine ⟨a, 10, rfl, hd.kp0 k1, by decide, by decide, fun H2 v h0 h1 k2 d2 => ?_⟩
    obtain ⟨s, hs, es⟩ := pickS lawNames h0 h1
    refine Z.ixL (lstL (k2.get (nin1 (hd.ne nb).symm) e1)) es ?_
    exact q H2 s hs ((k1.sub (by simp)).trans k2) d2
/-- rows that _law_items has made, behind the draws at a -/
structure ItemsOk (H H' : Hp) (a p : Addr) (ps : List (Addr × Row)) : Prop where
  kp : Kp [a] H H'
  dr : DrawsAt H' a
  at_ : H' p = some (.lst (refs ps))
  rows : RowsAt H' ps
  ok : ∀ x ∈ ps, RowOk x.2
  new : ∀ x ∈ ps, H x.1 = none
  nd : (ps.map fun x => x.2.k).Nodup
def spItems (K : PySem.W.Frag) : Sp := fun vs H Q _ => ∃ (a : Addr) (n : Nat), vs = [.ref a, .int (n : Int)] ∧ DrawsAt H a ∧ n ≤ 100 ∧ ∀ H' p ps, H p = none → ItemsOk H H' a p ps → ps.length ≤ n → Q (.ref p) H'
theorem ok__law_items {P : Program} {w : World} {K : PySem.W.Frag} {mg : Str → Option Value} {base : Heap} (T : T P K mg) : FnOk P w K mg base CX0 3 T.a__law_items T.fd__law_items ["draws", "most"] (spItems K) := by
  refine T.F__law_items.ok sc__law_items (fun vs H Q E h => ?_) (fun cdv A outer s H vs Q E hr h => ?_)
  · obtain ⟨a, n, rfl, _⟩ := h
    rfl
  · obtain ⟨a, n, rfl, hd, hn, q⟩ := h
    refine ⟨_, (pss_cons (ps_set (i := 2) sc__law_items.nd rfl (by first | exact Or.inl rfl | exact Or.inr rfl) (pe_lst pa_nil))
      (pss_cons (ps_set (i := 3) sc__law_items.nd rfl (by first | exact Or.inl rfl | exact Or.inr rfl) (pe_lst pa_nil))
      (pss_cons (ps_for PassesOwn.never rfl (pi_range1 (by rfl) T.z_range (pa_cons (pe_call (ok__law_take T) (hr.mono (by decide)) (by rfl) T.g__law_take T.F__law_take.kp T.b__law_take .nil pass0 (pa_cons (pv 0) (pa_cons (pe_op op_add (pv 1) pe_int) pa_nil))) pa_nil)) (pg_name (i := 4) sc__law_items.nd rfl (by first | exact Or.inl rfl | exact Or.inr rfl)) (pss_cons (ps_set (i := 5) sc__law_items.nd rfl (by first | exact Or.inl rfl | exact Or.inr rfl) (pe_call (ok__law_name T) (hr.mono (by decide)) (by rfl) T.g__law_name T.F__law_name.kp T.b__law_name .nil pass0 (pa_cons (pv 0) pa_nil)))
      (pss_cons (ps_set (i := 6) sc__law_items.nd rfl (by first | exact Or.inl rfl | exact Or.inr rfl) (pe_ix ix_list (pe_lst (pa_cons (pe_op op_add pe_int (pe_call (ok__law_take T) (hr.mono (by decide)) (by rfl) T.g__law_take T.F__law_take.kp T.b__law_take .nil pass0 (pa_cons (pv 0) (pa_cons pe_int pa_nil)))) (pa_cons pe_int (pa_cons (pe_op op_add pe_int (pe_call (ok__law_take T) (hr.mono (by decide)) (by rfl) T.g__law_take T.F__law_take.kp T.b__law_take .nil pass0 (pa_cons (pv 0) (pa_cons pe_int pa_nil)))) pa_nil)))) (pe_ix ix_list (pe_lst (pa_cons pe_int (pa_cons pe_int (pa_cons pe_int (pa_cons pe_int pa_nil))))) (pe_call (ok__law_take T) (hr.mono (by decide)) (by rfl) T.g__law_take T.F__law_take.kp T.b__law_take .nil pass0 (pa_cons (pv 0) (pa_cons pe_int pa_nil))) (fun _ _ => rfl)) (fun _ _ => rfl)))
      (pss_cons (ps_set (i := 7) sc__law_items.nd rfl (by first | exact Or.inl rfl | exact Or.inr rfl) (pe_ix ix_list (pe_lst (pa_cons (pe_op op_sub (pe_call (ok__law_take T) (hr.mono (by decide)) (by rfl) T.g__law_take T.F__law_take.kp T.b__law_take .nil pass0 (pa_cons (pv 0) (pa_cons pe_int pa_nil))) pe_int) (pa_cons (pe_un un_neg pe_int) (pa_cons pe_int (pa_cons pe_int pa_nil))))) (pe_ix ix_list (pe_lst (pa_cons pe_int (pa_cons pe_int (pa_cons pe_int (pa_cons pe_int (pa_cons pe_int pa_nil)))))) (pe_call (ok__law_take T) (hr.mono (by decide)) (by rfl) T.g__law_take T.F__law_take.kp T.b__law_take .nil pass0 (pa_cons (pv 0) (pa_cons pe_int pa_nil))) (fun _ _ => rfl)) (fun _ _ => rfl)))
      (pss_one (ps_if (pt_cmpR op_notIn_seq (pv 5) (pv 3) rfl) (pss_cons (ps_expr (pe_bm PySem.F.plainAttrs_list PySem.F.slot_list_append PySem.F.type_list_append mt_append (pv 3) (pa_cons (pv 5) pa_nil)))
      (pss_one (ps_expr (pe_bm PySem.F.plainAttrs_list PySem.F.slot_list_append PySem.F.type_list_append mt_append (pv 2) (pa_cons (pe_tup (pa_cons (pv 5) (pa_cons (pe_ix ix_list (pe_lst (pa_cons pe_str (pa_cons pe_str (pa_cons pe_str pa_nil)))) (pe_call (ok__law_take T) (hr.mono (by decide)) (by rfl) T.g__law_take T.F__law_take.kp T.b__law_take .nil pass0 (pa_cons (pv 0) (pa_cons pe_int pa_nil))) (fun _ _ => rfl)) (pa_cons (pv 6) (pa_cons (pv 7) pa_nil))))) pa_nil))))) pss_nil))))))
      (pss_one (ps_ret (pv 2)))))), ?_⟩
    walk_at "z0"
    walk_at "z"
    refine Z.lstK (fun F H1 nF k1 e1 => ?_)
    have d1 := hd.kp0 k1
    walk_at "z"
    refine Z.lstK (fun L H2 nL k2 e2 => ?_)
    have d2 := d1.kp0 k2
    have e2F := k2.get nin0 e1
    have nFL : F ≠ L := ne_of_none e1 nL
    have nL0 : H L = none := k1.none nin0 nL
    have naF : a ≠ F := hd.ne nF
    have naL : a ≠ L := hd.ne nL0
    walk_at "z"
    refine ⟨a, _, rfl, d2, by omega, by omega, fun H3 t ht0 ht1 k3 d3 => ?_⟩
    have e3F := k3.get (nin1 naF.symm) e2F
    have e3L := k3.get (nin1 naL.symm) e2
    have k03 : Kp [a] H H3 := ((k1.trans k2).sub (by simp)).trans k3
    refine Z.forr t.toNat (by omega) (by omega) (fun i σ' H' => ∃ y4 y5 y6 y7, ∃ ps : List (Addr × Row), σ' = [some (.ref a), some (.int (n : Int)), some (.ref F), some (.ref L), y4, y5, y6, y7] ∧ ItemsOk H H' a F ps ∧ H' L = some (.lst ((ps.map fun x => x.2.k).map V.str)) ∧ ps.length ≤ i) ⟨_, _, _, _, [], rfl, ⟨k03, d3, e3F, (fun _ h => by cases h), (fun _ h => by cases h), (fun _ h => by cases h), by simp⟩, e3L, by simp⟩ ?_ ?_
    · rintro i σ' H4 hi ⟨y4, y5, y6, y7, ps, rfl, I, e4L, hl⟩
      walk_at "z"
      refine ⟨a, rfl, I.dr, fun H5 key hkey k5 d5 => ?_⟩
      walk_at "z"
      refine ⟨a, 20, rfl, d5, by decide, by decide, fun H6 v1 hv10 hv11 k6 d6 => ?_⟩
      walk_at "z"
      refine ⟨a, 1000, rfl, d6, by decide, by decide, fun H7 v2 hv20 hv21 k7 d7 => ?_⟩
      walk_at "z"
      refine Z.lstK (fun b1 H8 nb1 k8 e8 => ?_)
      walk_at "z"
      refine Z.lstK (fun b2 H9 nb2 k9 e9 => ?_)
      have d9 := (d7.kp0 k8).kp0 k9
      have e9b := k9.get nin0 e8
      walk_at "z"
      refine ⟨a, 4, rfl, d9, by decide, by decide, fun H10 v3 hv30 hv31 k10 d10 => ?_⟩
      have nab1 : a ≠ b1 := d7.ne nb1
      have nab2 : a ≠ b2 := (d7.kp0 k8).ne nb2
      obtain ⟨j1, hj1, ej1⟩ := pickI [0, 0, 1, 2] hv30 hv31
      refine Z.ixL (lstL (k10.get (nin1 nab2.symm) e9)) ej1 ?_
      obtain ⟨wt, hwt0, hwt1, ewt⟩ : ∃ wt : Int, 1 ≤ wt ∧ wt ≤ 1000 ∧ atI [V.int (1 + v1), V.int 1000, V.int (1 + v2)] j1 = some (.int wt) := by
        simp only [List.mem_cons, List.not_mem_nil, or_false] at hj1
        rcases hj1 with rfl | rfl | rfl | rfl
        · exact ⟨1 + v1, by omega, by omega, rfl⟩
        · exact ⟨1 + v1, by omega, by omega, rfl⟩
        · exact ⟨1000, by omega, by omega, rfl⟩
        · exact ⟨1 + v2, by omega, by omega, rfl⟩
      refine Z.ixL (lstL (k10.get (nin1 nab1.symm) e9b)) ewt ?_
      walk_at "z"
      refine ⟨a, 41, rfl, d10, by decide, by decide, fun H11 v4 hv40 hv41 k11 d11 => ?_⟩
      walk_at "z"
      refine Z.lstK (fun b3 H12 nb3 k12 e12 => ?_)
      walk_at "z"
      refine Z.lstK (fun b4 H13 nb4 k13 e13 => ?_)
      have d13 := (d11.kp0 k12).kp0 k13
      have e13b := k13.get nin0 e12
      walk_at "z"
      refine ⟨a, 5, rfl, d13, by decide, by decide, fun H14 v5 hv50 hv51 k14 d14 => ?_⟩
      have nab3 : a ≠ b3 := d11.ne nb3
      have nab4 : a ≠ b4 := (d11.kp0 k12).ne nb4
      obtain ⟨j2, hj2, ej2⟩ := pickI [0, 0, 1, 2, 3] hv50 hv51
      refine Z.ixL (lstL (k14.get (nin1 nab4.symm) e13)) ej2 ?_
      obtain ⟨am, ham0, ham1, eam⟩ : ∃ am : Int, -1000 ≤ am ∧ am ≤ 1000 ∧ atI [V.int (v4 - 20), V.int (-1000), V.int 1000, V.int 0] j2 = some (.int am) := by
        simp only [List.mem_cons, List.not_mem_nil, or_false] at hj2
        rcases hj2 with rfl | rfl | rfl | rfl | rfl
        · exact ⟨v4 - 20, by omega, by omega, rfl⟩
        · exact ⟨v4 - 20, by omega, by omega, rfl⟩
        · exact ⟨-1000, by omega, by omega, rfl⟩
        · exact ⟨1000, by omega, by omega, rfl⟩
        · exact ⟨0, by omega, by omega, rfl⟩
      refine Z.ixL (lstL (k14.get (nin1 nab3.symm) e13b)) eam ?_
      have kk : Kp [a] H4 H14 := k5.trans (k6.trans (k7.trans ((k8.trans k9).sub (by simp) |>.trans (k10.trans (k11.trans ((k12.trans k13).sub (by simp) |>.trans k14))))))
      have e14L := kk.get (nin1 naL.symm) e4L
      have e14F := kk.get (nin1 naF.symm) I.at_
      have r14 := I.rows.kpd kk I.dr
      walk_at "z"
      refine Z.inq (.inl (lstL e14L)) rfl Z.strs_flat ?_
      rw [Z.inV_strs]
      walk_at "z"
      refine Z.iteN (fun hnew => ?_) (fun hold => ?_)
      · walk_at "z"
        refine ⟨Z.tyL e14L, ?_⟩
        walk_at "z"
        refine Z.app e14L (Z.szl (m := 1000) (by rw [List.length_map, List.length_map]; omega)) ?_
        have k15 : Kp [L] H14 (upd H14 L (.lst ((ps.map fun x => x.2.k).map V.str ++ [.str key]))) := Kp.put (by simp)
        have e15L : (upd H14 L (.lst ((ps.map fun x => x.2.k).map V.str ++ [.str key]))) L = some (.lst ((ps.map fun x => x.2.k).map V.str ++ [.str key])) := upd_same
        revert k15 e15L
        generalize upd H14 L (.lst ((ps.map fun x => x.2.k).map V.str ++ [.str key])) = H15
        intro k15 e15L
        have e15F := k15.get (nin1 nFL) e14F
        have d15 := d14.kp k15 (nin1 naL)
        have r15 := r14.kp1 k15 e14L
        walk_at "z"
        refine ⟨Z.tyL e15F, ?_⟩
        walk_at "z"
        refine Z.lstK (fun b5 H16 nb5 k16 e16 => ?_)
        have d16 := d15.kp0 k16
        have nab5 : a ≠ b5 := d15.ne nb5
        walk_at "z"
        refine ⟨a, 3, rfl, d16, by decide, by decide, fun H17 v6 hv60 hv61 k17 d17 => ?_⟩
        obtain ⟨grp, hgrp, egrp⟩ := pickS lawGroups hv60 hv61
        refine Z.ixL (lstL (k17.get (nin1 nab5.symm) e16)) egrp ?_
        walk_at "z"
        refine Z.tupK (fun p H18 np k18 e18 => ?_)
        have k1518 : Kp [a] H15 H18 := (k16.sub (by simp)).trans (k17.trans (k18.sub (by simp)))
        have e18F := k1518.get (nin1 naF.symm) e15F
        have e18L := k1518.get (nin1 naL.symm) e15L
        have r18 := (r15.kp0 k16).kpd k17 d16 |>.kp0 k18
        have npF : p ≠ F := fun z => by
          rw [z] at np
          rw [(k16.trans (M := []) (Kp.refl _)).get nin0 e15F |> fun z => k17.get (nin1 naF.symm) z] at np
          cases np
        walk_at "z"
        refine Z.app e18F (Z.szl (m := 1000) (by rw [refs_len]; omega)) ?_
        have hH14 : Kp [a] H H14 := I.kp.trans kk
        have k014 : Kp [a] H H15 := fun b o nb e => by
          have nbL : b ≠ L := ne_of_none e nL0
          exact k15 _ _ (nin1 nbL) (hH14 _ _ nb e)
        have k018 : Kp [a] H H18 := k014.trans k1518
        have k019 : Kp [F] H18 (upd H18 F (.lst (refs ps ++ [.ref p]))) := Kp.put (by simp)
        refine ⟨_, _, _, _, ps ++ [(p, ⟨key, grp, wt, am⟩)], rfl, ⟨k018.mut nF rfl, (d17.kp0 k18).put naF, ?_, ?_, ?_, ?_, ?_⟩, ?_, ?_⟩
        · rw [upd_same, refs_snoc]
        · exact (r18.kp1 k019 e18F).snoc (show RowAt _ p _ from k019.get (nin1 npF) e18)
        · exact mem_append_one I.ok ⟨hkey, hgrp, hwt0, hwt1, ham0, ham1⟩
        · refine mem_append_one I.new ?_
          have npa : p ≠ a := fun z => (d17.ne np) z.symm
          exact (k014.trans ((k16.sub (by simp)).trans k17)).none (nin1 npa) np
        · rw [List.map_append]
          refine List.nodup_append.mpr ⟨I.nd, by simp, ?_⟩
          intro x hx y hy z
          simp only [List.map_cons, List.map_nil, List.mem_singleton] at hy
          exact hnew (by rw [← hy, ← z]; exact hx)
        · rw [upd_ne nFL.symm, e18L, List.map_append, List.map_append]; rfl
        · simp; omega
      · walk_at "z"
        exact ⟨_, _, _, _, ps, rfl, ⟨I.kp.trans kk, d14, e14F, r14, I.ok, I.new, I.nd⟩, e14L, by omega⟩
    · rintro σ' H4 ⟨y4, y5, y6, y7, ps, rfl, I, e4L, hl⟩
      walk_at "z"
      exact q H4 F ps nF I (by omega)

/-! ### rows as data; the reasons against a row, by the definition -/
structure RowS (r : Row) : Prop where
  k : PyData.strOk r.k = true
  g : PyData.strOk r.g = true
  kz : r.k.cps.size ≤ 20
  gz : r.g.cps.size ≤ 20
def smallS (l : List Str) : Bool := l.all fun s => PyData.strOk s && decide (s.cps.size ≤ 20)
theorem smallS_of {l : List Str} (h : smallS l = true) {s : Str} (hs : s ∈ l) : PyData.strOk s = true ∧ s.cps.size ≤ 20 := by
  have h1 := List.all_eq_true.mp h s hs
  rw [Bool.and_eq_true, decide_eq_true_eq] at h1
  exact h1
theorem names_small : smallS lawNames = true := by decide +kernel
theorem groups_small : smallS lawGroups = true := by decide +kernel
theorem RowOk.s {r : Row} (h : RowOk r) : RowS r := ⟨(smallS_of names_small h.k).1, (smallS_of groups_small h.g).1, (smallS_of names_small h.k).2, (smallS_of groups_small h.g).2⟩
def rowD (r : Row) : PyData := .tuple [.str r.k, .str r.g, .int r.w, .int r.m]
theorem dpRow {K : PySem.W.Frag} {H : Hp} {p : Addr} {r : Row} (h : RowAt H p r) : Dp K H (.ref p) (rowD r) := .tup (tupT h) (.cons (.str _) (.cons (.str _) (.cons (.int _) (.cons (.int _) .nil))))
def rowsD (ps : List (Addr × Row)) : List PyData := ps.map fun x => rowD x.2
theorem dpRowsAll {K : PySem.W.Frag} {H : Hp} : ∀ {ps : List (Addr × Row)}, RowsAt H ps → DpAll K H (refs ps) (rowsD ps)
  | [], _ => .nil
  | x :: r, h => .cons (dpRow (h x (by simp))) (dpRowsAll (ps := r) fun y hy => h y (by simp [hy]))
theorem dpRows {K : PySem.W.Frag} {H : Hp} {p : Addr} {ps : List (Addr × Row)} (h : H p = some (.lst (refs ps))) (r : RowsAt H ps) : Dp K H (.ref p) (.list (rowsD ps)) := .lst (lstL h) (dpRowsAll r)
theorem rowD_lay {r : Row} (h : RowS r) : PyData.canLay0 (rowD r) = true := by simp [rowD, PyData.canLay0, PyData.canLayAll0, h.k, h.g]
theorem layRows : ∀ {ps : List (Addr × Row)}, (∀ x ∈ ps, RowS x.2) → PyData.canLayAll0 (rowsD ps) = true
  | [], _ => by simp [rowsD, PyData.canLayAll0]
  | x :: r, h => by
    have ih := layRows (ps := r) fun y hy => h y (by simp [hy])
    show PyData.canLayAll0 (rowD x.2 :: rowsD r) = true
    rw [PyData.canLayAll0, rowD_lay (h x (by simp)), ih]; rfl
theorem rowD_depth (r : Row) : (rowD r).depth = 1 := by simp [rowD, PyData.depth, PyData.depthAll]
theorem depthRows : ∀ ps : List (Addr × Row), PyData.depthAll (rowsD ps) ≤ 1
  | [] => by simp [rowsD, PyData.depthAll]
  | x :: r => by
    have ih := depthRows r
    show PyData.depthAll (rowD x.2 :: rowsD r) ≤ 1
    rw [PyData.depthAll, rowD_depth]
    omega
theorem shRows {ps : List (Addr × Row)} (h : ∀ x ∈ ps, RowS x.2) : SeqAt.shaped (.list (rowsD ps)) = true := by
  have := depthRows ps
  simp [SeqAt.shaped, PyData.canLay0, PyData.depth, layRows h]
  omega
theorem shNil : SeqAt.shaped (.list []) = true := by decide +kernel
theorem neRows {K : PySem.W.Frag} {H : Hp} {Q : VK} {a b : Addr} {ps : List (Addr × Row)} (h1 : H a = some (.lst (refs ps))) (h2 : H b = some (.lst (refs ps))) (r : RowsAt H ps) (s : ∀ x ∈ ps, RowS x.2) (q : Q (.bl false) H) : rNeD K (.ref a) (.ref b) H Q :=
  ⟨_, _, dpRows h1 r, dpRows h2 r, shRows s, shRows s, by rw [SeqAt.eqv_refl _ (by rw [PyData.canLay0]; exact layRows s)]; exact q⟩
theorem eqvAll_nil : ∀ l : List PyData, PyData.eqvAll l [] = l.isEmpty
  | [] => by simp [PyData.eqvAll]
  | _ :: _ => by simp [PyData.eqvAll]
theorem eqNil {K : PySem.W.Frag} {H : Hp} {Q : VK} {a b : Addr} {ps : List (Addr × Row)} (h1 : H a = some (.lst (refs ps))) (h2 : H b = some (.lst [])) (r : RowsAt H ps) (s : ∀ x ∈ ps, RowS x.2) (q : Q (.bl ps.isEmpty) H) : rEqD K (.ref a) (.ref b) H Q :=
  ⟨_, _, dpRows h1 r, .lst (ds := []) (lstL h2) .nil, shRows s, shNil, by
    rw [PyData.eqv, eqvAll_nil]
    have e : (rowsD ps).isEmpty = ps.isEmpty := by cases ps <;> rfl
    rw [e]; exact q⟩
/-! what is a name, an item -/
def signs : Str := "abcdefghijklmnopqrstuvwxyz0123456789"
def allIn (s z : Str) : Bool := s.cps.toList.all fun c => decide (c ∈ z.cps.toList)
def fineB (s : Str) : Bool := decide (1 ≤ s.cps.size) && (decide (s.cps.size ≤ 12) && allIn s signs)
def reasonOf (r : Row) : Option Str :=
  if fineB r.k = true then if fineB r.g = true then if 1 ≤ r.w ∧ r.w ≤ 1000 then if -1000 ≤ r.m ∧ r.m ≤ 1000 then none else some ("amount" : Str) else some ("weight" : Str) else some ("group" : Str) else some ("key" : Str)
def optV : Option Str → V
  | none => .non
  | some s => .str s
theorem optV_non (o : Option Str) : decide (optV o = .non) = o.isNone := by cases o <;> simp [optV]
theorem reason_key {r : Row} (h : fineB r.k = false) : reasonOf r = some ("key" : Str) := by unfold reasonOf; rw [if_neg (by rw [h]; decide)]
theorem reason_group {r : Row} (h : fineB r.k = true) (h2 : fineB r.g = false) : reasonOf r = some ("group" : Str) := by unfold reasonOf; rw [if_pos h, if_neg (by rw [h2]; decide)]
theorem reason_weight {r : Row} (h : fineB r.k = true) (h2 : fineB r.g = true) (h3 : ¬ (1 ≤ r.w ∧ r.w ≤ 1000)) : reasonOf r = some ("weight" : Str) := by unfold reasonOf; rw [if_pos h, if_pos h2, if_neg h3]
theorem reason_amount {r : Row} (h : fineB r.k = true) (h2 : fineB r.g = true) (h3 : 1 ≤ r.w ∧ r.w ≤ 1000) (h4 : ¬ (-1000 ≤ r.m ∧ r.m ≤ 1000)) : reasonOf r = some ("amount" : Str) := by unfold reasonOf; rw [if_pos h, if_pos h2, if_pos h3, if_neg h4]
theorem reason_none {r : Row} (h : fineB r.k = true) (h2 : fineB r.g = true) (h3 : 1 ≤ r.w ∧ r.w ≤ 1000) (h4 : -1000 ≤ r.m ∧ r.m ≤ 1000) : reasonOf r = none := by unfold reasonOf; rw [if_pos h, if_pos h2, if_pos h3, if_pos h4]
theorem RowOk.fine {r : Row} (h : RowOk r) : reasonOf r = none := by
  have hk : ∀ s ∈ lawNames, fineB s = true := by decide +kernel
  have hg : ∀ s ∈ lawGroups, fineB s = true := by decide +kernel
  exact reason_none (hk _ h.k) (hg _ h.g) ⟨h.w0, h.w1⟩ ⟨h.m0, h.m1⟩
/-! the first fault -/
def keysTo (ps : List (Addr × Row)) (i : Nat) : List Str := (ps.take i).map fun x => x.2.k
def reasonAt (ps : List (Addr × Row)) (i : Nat) : Option Str :=
  match ps[i]? with
  | none => none
  | some x => match reasonOf x.2 with
    | some y => some y
    | none => if x.2.k ∈ keysTo ps i then some ("taken" : Str) else none
theorem reasonAt_1 {ps : List (Addr × Row)} {i : Nat} {x : Addr × Row} {y : Str} (h : ps[i]? = some x) (h2 : reasonOf x.2 = some y) : reasonAt ps i = some y := by unfold reasonAt; rw [h]; dsimp only; rw [h2]
theorem reasonAt_2 {ps : List (Addr × Row)} {i : Nat} {x : Addr × Row} (h : ps[i]? = some x) (h2 : reasonOf x.2 = none) (h3 : x.2.k ∈ keysTo ps i) : reasonAt ps i = some ("taken" : Str) := by unfold reasonAt; rw [h]; dsimp only; rw [h2]; dsimp only; rw [if_pos h3]
theorem reasonAt_3 {ps : List (Addr × Row)} {i : Nat} {x : Addr × Row} (h : ps[i]? = some x) (h2 : reasonOf x.2 = none) (h3 : ¬ x.2.k ∈ keysTo ps i) : reasonAt ps i = none := by unfold reasonAt; rw [h]; dsimp only; rw [h2]; dsimp only; rw [if_neg h3]
theorem keysTo_succ {ps : List (Addr × Row)} {i : Nat} {x : Addr × Row} (h : ps[i]? = some x) : keysTo ps (i + 1) = keysTo ps i ++ [x.2.k] := by
  unfold keysTo
  rw [List.take_add_one, h, List.map_append]; rfl
def First (ps : List (Addr × Row)) : Option (Nat × Str) → Prop
  | none => ∀ i, i < ps.length → reasonAt ps i = none
  | some (k, y) => k < ps.length ∧ reasonAt ps k = some y ∧ ∀ i, i < k → reasonAt ps i = none
theorem First.uniq {ps : List (Addr × Row)} {o u : Option (Nat × Str)} (h : First ps o) (h2 : First ps u) : o = u := by
  match o, u, h, h2 with
  | none, none, _, _ => rfl
  | none, some (k, y), h, h2 =>
    have a1 : ∀ i, i < ps.length → reasonAt ps i = none := h
    have a2 : k < ps.length ∧ reasonAt ps k = some y ∧ ∀ i, i < k → reasonAt ps i = none := h2
    have := (a1 k a2.1).symm.trans a2.2.1
    cases this
  | some (k, y), none, h, h2 =>
    have a1 : ∀ i, i < ps.length → reasonAt ps i = none := h2
    have a2 : k < ps.length ∧ reasonAt ps k = some y ∧ ∀ i, i < k → reasonAt ps i = none := h
    have := (a1 k a2.1).symm.trans a2.2.1
    cases this
  | some (k, y), some (j, z), h, h2 =>
    have a1 : k < ps.length ∧ reasonAt ps k = some y ∧ ∀ i, i < k → reasonAt ps i = none := h
    have a2 : j < ps.length ∧ reasonAt ps j = some z ∧ ∀ i, i < j → reasonAt ps i = none := h2
    rcases Nat.lt_trichotomy k j with e | e | e
    · have := (a2.2.2 k e).symm.trans a1.2.1
      cases this
    · subst e
      have := a1.2.1.symm.trans a2.2.1
      cases this
      rfl
    · have := (a1.2.2 j e).symm.trans a2.2.1
      cases this
def FaultV (H : Hp) (v : V) : Option (Nat × Str) → Prop
  | none => v = .non
  | some (k, y) => ∃ t, v = .ref t ∧ H t = some (.tup [.int (k : Int), .str y])
theorem FaultV.kp {H H' : Hp} {v : V} {o : Option (Nat × Str)} (h : FaultV H v o) (k : Kp [] H H') : FaultV H' v o := by
  match o, h with
  | none, h => exact h
  | some (_, _), ⟨t, e, ht⟩ => exact ⟨t, e, k.get nin0 ht⟩
theorem FaultV.sm {H : Hp} {u v : V} {o : Option (Nat × Str)} (h : FaultV H u o) (h2 : FaultV H v o) : Sm 5 H u v := by
  match o, h, h2 with
  | none, h, h2 =>
    have e : u = .non := h
    have e2 : v = .non := h2
    subst e e2
    exact .sc rfl
  | some (k, y), ⟨t, e, ht⟩, ⟨t2, e2, ht2⟩ =>
    subst e e2
    refine .plainT ht ht2 (by simp) fun x hx => ?_
    simp only [List.mem_cons, List.not_mem_nil, or_false] at hx
    rcases hx with rfl | rfl <;> rfl
theorem RowAt.k0 {K : PySem.W.Frag} {H : Hp} {Q : VK} {p : Addr} {r : Row} (h : RowAt H p r) (q : Q (.str r.k) H) : rIxT K (.ref p) (.int 0) H Q := Z.ixT (tupT h) rfl q
theorem RowAt.g1 {K : PySem.W.Frag} {H : Hp} {Q : VK} {p : Addr} {r : Row} (h : RowAt H p r) (q : Q (.str r.g) H) : rIxT K (.ref p) (.int 1) H Q := Z.ixT (tupT h) rfl q
theorem RowAt.w2 {K : PySem.W.Frag} {H : Hp} {Q : VK} {p : Addr} {r : Row} (h : RowAt H p r) (q : Q (.int r.w) H) : rIxT K (.ref p) (.int 2) H Q := Z.ixT (tupT h) rfl q
theorem RowAt.m3 {K : PySem.W.Frag} {H : Hp} {Q : VK} {p : Addr} {r : Row} (h : RowAt H p r) (q : Q (.int r.m) H) : rIxT K (.ref p) (.int 3) H Q := Z.ixT (tupT h) rfl q
theorem RowAt.kp0 {H H' : Hp} {p : Addr} {r : Row} (h : RowAt H p r) (k : Kp [] H H') : RowAt H' p r := k.get nin0 h

/-! ### errors of samphire.errors with fields -/
open PySem in
theorem app_len (a b : Str) : (a ++ b).length = a.length + b.length := by
  show (a.cps ++ b.cps).size = _
  rw [Array.size_append]; rfl
/-- what an own __init__ with fields does: ok says what it is called with, fl which fields it keeps -/
def spErr (C : Addr) (ok : List V → Prop) (fl : List V → List (Str × V)) : Sp := fun vs H Q _ => ∃ (a : Addr) (ws : List V), vs = .ref a :: ws ∧ ok ws ∧ H a = some (exo a C none) ∧
  ∀ d H', H d = none → d ≠ a → H' a = some (exo a C (some d)) → H' d = some (exd d (fl ws)) → (∀ b, b ≠ a → b ≠ d → H' b = H b) → Q .non H'
theorem err_heap {H H' : Hp} {a d : Addr} {o : HO} (ha : H a = none) (h : ∀ b, b ≠ a → b ≠ d → H' b = H b) : upd (del H' a) d o = upd H d o := by
  funext b
  by_cases hd : b = d
  · rw [hd, upd_same, upd_same]
  · rw [upd_ne hd, upd_ne hd]
    by_cases hb : b = a
    · rw [hb, del_same, ha]
    · rw [del_ne hb, h b hb hd]
/-- raise C(..) -/
theorem mkErr {C : Addr} {ok : List V → Prop} {fl : List V → List (Str × V)} {ta : TA} {σ : L2.St} {H : Hp} {Q : XK} (h : ta σ H fun vs H1 => vs.length ≤ 1000 ∧ ok vs ∧ ∀ d, H1 d = none → Q (.ref C) (some d) (upd H1 d (.xd (fl vs)))) (mono : ∀ {R S : List V → Hp → Prop}, (∀ v u, R v u → S v u) → ta σ H R → ta σ H S) : tMkO C (spErr C ok fl) [] ta σ H Q := by
  refine mono ?_ h
  rintro vs H1 ⟨hz, hok, q⟩
  refine ⟨hz, fun a ha => ⟨a, vs, by rw [List.append_nil], hok, upd_same, fun d H' hd hda h1 h2 h3 => ⟨rfl, d, fl vs, h1, h2, ?_, ?_⟩⟩⟩
  · rwa [upd_ne hda] at hd
  · rw [err_heap ha fun b hb hd => by rw [h3 b hb hd, upd_ne hb]]
    refine q d ?_
    rwa [upd_ne hda] at hd
def okWord (ws : List V) : Prop := ∃ s : Str, ws = [.str s] ∧ s.length ≤ 1000
def flOne (f : Str) : List V → List (Str × V)
  | [v] => [(f, v)]
  | _ => []
theorem ok_TooLarge_init {P : Program} {w : World} {K : PySem.W.Frag} {mg : Str → Option Value} {base : Heap} (T : T P K mg) : FnOk P w K mg base CX0 1 T.a_TooLarge_init ((NF_TooLarge T.cc_TooLarge T.c_TooLarge).fd T.doc_TooLarge T.pm_TooLarge T.ctv_TooLarge) ["self", "limit"] (spErr T.C_TooLarge okWord (flOne "limit")) := by
  refine Sup.fn_super (F := NF_TooLarge T.cc_TooLarge T.c_TooLarge) (p := "self") (ps' := ["limit"]) T.x_TooLarge.S T.lk_TooLarge rfl T.hc_TooLarge sc_TooLarge_init rfl ⟨_, rfl, rfl⟩ rfl rfl (fun _ => rfl) (fun _ => ⟨_, rfl⟩) (fun _ => rfl) (fun vs H Q E h => ?_) (fun A outer s H vs Q E hr h => ?_)
  · obtain ⟨a, ws, rfl, ⟨s, rfl, _⟩, _⟩ := h
    rfl
  · obtain ⟨a, ws, rfl, ⟨s, rfl, hz⟩, ha, q⟩ := h
    refine ⟨a, [.str s], _, _, rfl, ha, pa_cons (pe_joined (.cons pe_str (.cons (pe_fmt (pv 1)) .nil))) pa_nil, pss_one (ps_ost (pv 0) (pv 1)), ?_⟩
    refine ⟨_, rfl, ?_, V.str s, rfl, .inl ⟨s, rfl, Nat.le_trans hz (by decide), s, rfl, ?_, ?_⟩⟩
    · decide +kernel
    · rw [app_len]
      refine Nat.le_trans (Nat.add_le_add (Nat.le_of_eq (show _ = 11 by decide +kernel)) hz) (by decide)
    refine ⟨by show 1 ≤ 1000; decide, ha, V.str s, rfl, V.ref a, rfl, a, T.C_TooLarge, rfl, T.x_TooLarge.S.T, T.nf_TooLarge_limit, .inl ⟨ha, fun d hd hda => ?_⟩⟩
    exact q d _ hd hda upd_same (by rw [upd_ne hda]; exact upd_same) (fun b hb hb2 => by rw [upd_ne hb, upd_ne hb2])
def okText (ws : List V) : Prop := ∃ (l c : Nat) (s : Str), ws = [.int (l : Int), .int (c : Int), .str s] ∧ l < 1000000000 ∧ c < 1000000000 ∧ s.length ≤ 1000
def flText : List V → List (Str × V)
  | [l, c, r] => [("reason", r), ("column", c), ("line", l)]
  | _ => []
theorem num_len {n : Nat} (h : n < 1000000000) : (Str.ofString (toString (n : Int))).length ≤ 9 := by
  have e := TL.tl_num n
  have h1 := TL.numL_len (n := n) (k := 9) (by decide) h
  rw [← e] at h1
  exact h1
theorem num_log {n : Nat} (h : n < 1000000000) : ((n : Nat) : Int).natAbs.log2 < 1920 := by
  rw [Int.natAbs_natCast]
  exact Nat.lt_of_lt_of_le (PySem.Flt.log2_lt_of (k := 30) (by decide) (Nat.lt_of_lt_of_le h (by decide))) (by decide)
theorem ok_TextError_init {P : Program} {w : World} {K : PySem.W.Frag} {mg : Str → Option Value} {base : Heap} (T : T P K mg) : FnOk P w K mg base CX0 1 T.a_TextError_init ((NF_TextError T.cc_TextError T.c_TextError).fd T.doc_TextError T.pm_TextError T.ctv_TextError) ["self", "line", "column", "reason"] (spErr T.C_TextError okText flText) := by
  refine Sup.fn_super (F := NF_TextError T.cc_TextError T.c_TextError) (p := "self") (ps' := ["line", "column", "reason"]) T.x_TextError.S T.lk_TextError rfl T.hc_TextError sc_TextError_init rfl ⟨_, rfl, rfl⟩ rfl rfl (fun _ => rfl) (fun _ => ⟨_, rfl⟩) (fun _ => rfl) (fun vs H Q E h => ?_) (fun A outer s H vs Q E hr h => ?_)
  · obtain ⟨a, ws, rfl, ⟨l, c, s, rfl, _⟩, _⟩ := h
    rfl
  · obtain ⟨a, ws, rfl, ⟨l, c, s, rfl, hl, hc, hz⟩, ha, q⟩ := h
    refine ⟨a, [.int l, .int c, .str s], _, _, rfl, ha, pa_cons (pe_joined (.cons pe_str (.cons (pe_fmt (pv 1)) (.cons pe_str (.cons (pe_fmt (pv 2)) (.cons pe_str (.cons (pe_fmt (pv 3)) .nil))))))) pa_nil, pss_cons (ps_ost (pv 0) (pv 1)) (pss_cons (ps_ost (pv 0) (pv 2)) (pss_one (ps_ost (pv 0) (pv 3)))), ?_⟩
    have nl := num_len hl
    have nc := num_len hc
    have z0 : (Str.empty ++ ("line " : Str)).length = 5 := by decide +kernel
    have z1 : (", column " : Str).length = 9 := by decide +kernel
    have z2 : (": " : Str).length = 2 := by decide +kernel
    have zl : 100000 ≤ sizeLine := by decide
    refine ⟨_, rfl, ?_, V.int l, rfl, .inr ⟨l, rfl, num_log hl, _, rfl, ?_, _, rfl, ?_, V.int c, rfl, .inr ⟨c, rfl, num_log hc, _, rfl, ?_, _, rfl, ?_, V.str s, rfl, .inl ⟨s, rfl, by omega, s, rfl, ?_, ?_⟩⟩⟩⟩
    · decide +kernel
    · rw [app_len, z0]; omega
    · rw [app_len, app_len, z0, z1]; omega
    · rw [app_len, app_len, app_len, z0, z1]; omega
    · rw [app_len, app_len, app_len, app_len, z0, z1, z2]; omega
    · rw [app_len, app_len, app_len, app_len, app_len, z0, z1, z2]; omega
    refine ⟨by show 1 ≤ 1000; decide, ha, V.int l, rfl, V.ref a, rfl, a, T.C_TextError, rfl, T.x_TextError.S.T, T.nf_TextError_line, .inl ⟨ha, fun d hd hda => ?_⟩⟩
    have e1 : (upd (upd H d (exd d [(("line" : Str), V.int l)])) a (exo a T.C_TextError (some d))) a = some (exo a T.C_TextError (some d)) := upd_same
    have e2 : (upd (upd H d (exd d [(("line" : Str), V.int l)])) a (exo a T.C_TextError (some d))) d = some (exd d [(("line" : Str), V.int l)]) := by rw [upd_ne hda]; exact upd_same
    have e3 : ∀ b, b ≠ a → b ≠ d → (upd (upd H d (exd d [(("line" : Str), V.int l)])) a (exo a T.C_TextError (some d))) b = H b := fun b hb hb2 => by rw [upd_ne hb, upd_ne hb2]
    revert e1 e2 e3
    generalize upd (upd H d (exd d [(("line" : Str), V.int l)])) a (exo a T.C_TextError (some d)) = H1
    intro e1 e2 e3
    refine ⟨V.int c, rfl, V.ref a, rfl, a, T.C_TextError, rfl, T.x_TextError.S.T, T.nf_TextError_column, .inr ⟨d, _, e1, e2, by show 1 ≤ 900; decide, ?_⟩⟩
    refine ⟨V.str s, rfl, V.ref a, rfl, a, T.C_TextError, rfl, T.x_TextError.S.T, T.nf_TextError_reason, .inr ⟨d, _, (upd_ne hda.symm).trans e1, upd_same, by show 2 ≤ 900; decide, ?_⟩⟩
    refine q d _ hd hda ?_ ?_ ?_
    · rw [upd_ne hda.symm, upd_ne hda.symm]; exact e1
    · rw [upd_same]; rfl
    · intro b hb hb2
      rw [upd_ne hb2, upd_ne hb2]
      exact e3 b hb hb2

/-! ### made_of, is_name -/
def spMade : Sp := fun vs H Q _ => ∃ s z : Str, vs = [.str s, .str z] ∧ Q (.bl (allIn s z)) H
theorem allIn_no {s z : Str} {i c : Nat} (h : s.cps[i]? = some c) (hc : c ∉ z.cps.toList) : allIn s z = false := by
  cases e : allIn s z with
  | false => rfl
  | true =>
    have h1 := List.all_eq_true.mp e c (by
      rw [← Array.getElem?_toList] at h
      exact List.mem_of_getElem? h)
    exact absurd (of_decide_eq_true h1) hc
theorem allIn_yes {s z : Str} (h : ∀ (i c : Nat), i < s.cps.size → s.cps[i]? = some c → c ∈ z.cps.toList) : allIn s z = true := by
  refine List.all_eq_true.mpr fun c hc => decide_eq_true ?_
  obtain ⟨i, hi⟩ := List.getElem?_of_mem hc
  rw [Array.getElem?_toList] at hi
  exact h i c (Array.getElem?_eq_some_iff.mp hi).1 hi
theorem ok_made_of {P : Program} {w : World} {K : PySem.W.Frag} {mg : Str → Option Value} {base : Heap} (T : T P K mg) : FnOk P w K mg base CX0 1 T.a_made_of T.fd_made_of ["text", "signs"] spMade := by
  refine T.F_made_of.ok sc_made_of (fun vs H Q E h => ?_) (fun cdv A outer s H vs Q E hr h => ?_)
  · obtain ⟨s, z, rfl, _⟩ := h
    rfl
  · obtain ⟨s, z, rfl, q⟩ := h
    refine ⟨_, (pss_cons (ps_for PassesOwn.never rfl (pi_str (pv 0)) (pg_name (i := 2) sc_made_of.nd rfl (by first | exact Or.inl rfl | exact Or.inr rfl)) (pss_one (ps_if (pt_cmpR o_ninSg (pv 2) (pv 1) rfl) (pss_one (ps_ret pe_bl)) pss_nil)))
      (pss_one (ps_ret pe_bl))), ?_⟩
    walk_at "z0"
    walk_at "z"
    refine Z.fors (fun i σ' H' => ∃ y, σ' = [some (.str s), some (.str z), y] ∧ H' = H ∧ ∀ (j c : Nat), j < i → s.cps[j]? = some c → c ∈ z.cps.toList) ⟨_, rfl, rfl, fun _ _ h => by omega⟩ ?_ ?_
    · rintro i c σ' H' hc ⟨y, rfl, rfl, hi⟩
      walk_at "z"
      refine Z.iteN (fun h1 => ?_) (fun h1 => ?_)
      · walk_at "z"
        rw [allIn_no hc h1] at q
        exact q
      · walk_at "z"
        refine ⟨_, rfl, rfl, fun j d hj hd => ?_⟩
        by_cases e : j = i
        · subst e
          rw [hc] at hd
          cases hd
          exact h1
        · exact hi j d (by omega) hd
    · rintro σ' H' ⟨y, rfl, rfl, hi⟩
      walk_at "z"
      rw [allIn_yes hi] at q
      exact q
def spIsName : Sp := fun vs H Q _ => ∃ s : Str, vs = [.str s] ∧ s.cps.size ≤ 100000 ∧ Q (.bl (fineB s)) H
theorem ok_is_name {P : Program} {w : World} {K : PySem.W.Frag} {mg : Str → Option Value} {base : Heap} (T : T P K mg) : FnOk P w K mg base CX0 2 T.a_is_name T.fd_is_name ["text"] spIsName := by
  refine T.F_is_name.ok sc_is_name (fun vs H Q E h => ?_) (fun cdv A outer s H vs Q E hr h => ?_)
  · obtain ⟨s, rfl, _⟩ := h
    rfl
  · obtain ⟨s, rfl, hz, q⟩ := h
    refine ⟨_, (pss_one (ps_ret (pe_and (pe_chain op_le op_le pe_int (pe_callB c_lens (by rfl) T.z_len (by decide +kernel) (pa_cons (pv 0) pa_nil)) (pe_glob (by rfl) T.g_MOST_IN_NAME T.r_MOST_IN_NAME)) (pe_one (pe_call (ok_made_of T) (hr.mono (by decide)) (by rfl) T.g_made_of T.F_made_of.kp T.b_made_of .nil pass0 (pa_cons (pv 0) (pa_cons (pe_glob (by rfl) T.g_WORD_SIGNS T.r_WORD_SIGNS) pa_nil))))))), ?_⟩
    unfold fineB at q
    walk_at "z0"
    walk_at "z"
    refine Z.lenS (by omega) ?_
    walk_at "z"
    refine Z.ite (fun h1 => ?_) (fun h1 => ?_)
    · rw [decide_eq_true (by omega : 1 ≤ s.cps.size)] at q
      walk_at "z"
      refine Z.ite (fun h2 => ?_) (fun h2 => ?_)
      · rw [decide_eq_true (by omega : s.cps.size ≤ 12)] at q
        walk_at "z"
        exact ⟨s, _, rfl, q⟩
      · rw [decide_eq_false (by omega : ¬ s.cps.size ≤ 12)] at q
        walk_at "z"
        exact q
    · rw [decide_eq_false (by omega : ¬ 1 ≤ s.cps.size)] at q
      walk_at "z"
      exact q

/-! ### writes_integer, integer_within -/
def digits10 : Str := "0123456789"
def bodyOf (w : Str) : Str := if Txt.startswith w "-" then cutS w (some 1) none else w
def firstIs0 (s : Str) : Bool := decide ((⟨#[s.cps.toList.headD 0]⟩ : Str) = "0")
def intW (w : Str) : Bool := if w = "0" then true else !decide (bodyOf w = "") && (!firstIs0 (bodyOf w) && allIn (bodyOf w) digits10)
theorem dig_iff (c : Nat) : c ∈ digits10.cps.toList ↔ 48 ≤ c ∧ c ≤ 57 := by
  have e : digits10.cps.toList = [48, 49, 50, 51, 52, 53, 54, 55, 56, 57] := by decide +kernel
  rw [e]
  simp only [List.mem_cons, List.not_mem_nil, or_false]
  omega
theorem cps_nil {s : Str} (h : s.cps.toList = []) : s = "" := by
  have e : s.cps = #[] := by
    apply Array.toList_inj.mp
    rw [h]
  cases s
  cases e
  decide +kernel
theorem starts_minus (w : Str) : Txt.startswith w "-" = true ↔ ∃ cs, w.cps.toList = 45 :: cs := by
  rw [show ("-" : Str) = ⟨#[45]⟩ by decide +kernel]
  unfold Txt.startswith
  rw [Bool.and_eq_true, decide_eq_true_eq]
  refine (PySem.StrLaws.subAt_one w 45 0).trans ?_
  cases w.cps.toList with
  | nil => simp
  | cons c r => simp
theorem body_minus {w : Str} {cs : List Nat} (h : w.cps.toList = 45 :: cs) : (bodyOf w).cps.toList = cs := by
  have h1 := (starts_minus w).mpr ⟨cs, h⟩
  unfold bodyOf
  rw [if_pos h1]
  unfold cutS
  have hl : w.length = cs.length + 1 := by
    show w.cps.size = _
    rw [← Array.length_toList, h, List.length_cons]
  have e1 : HT.sIx w.length 0 (some 1) = 1 := by
    have := HT.sIx_nat w.length 0 1
    rw [show (some (1 : Int)) = some ((1 : Nat) : Int) from rfl, this]
    omega
  rw [e1, HT.sIx_none, h]
  show ((45 :: cs).drop 1).take (w.length - 1) = cs
  rw [List.drop_one, List.tail_cons]
  exact List.take_of_length_le (by omega)
theorem body_plain {w : Str} (h : ¬ ∃ cs, w.cps.toList = 45 :: cs) : bodyOf w = w := by
  unfold bodyOf
  rw [if_neg (fun z => h ((starts_minus w).mp z))]
theorem intW_reads {w : Str} (h : intW w = true) (hl : w.length ≤ 640) : ∃ n, intText? w = some n := by
  unfold intW at h
  by_cases h0 : w = "0"
  · rw [h0]
    exact ⟨0, by decide +kernel⟩
  · rw [if_neg h0, Bool.and_eq_true, Bool.and_eq_true] at h
    obtain ⟨h1, _, h3⟩ := h
    have hd : NumText.AllDigits (bodyOf w).cps.toList := fun c hc => (dig_iff c).mp (of_decide_eq_true (List.all_eq_true.mp h3 c hc))
    have hn : (bodyOf w).cps.toList ≠ [] := fun z => by
      rw [cps_nil z] at h1
      exact absurd h1 (by decide +kernel)
    by_cases hm : ∃ cs, w.cps.toList = 45 :: cs
    · obtain ⟨cs, hcs⟩ := hm
      rw [body_minus hcs] at hd hn
      exact ⟨_, intText_neg hcs hd hn (by omega)⟩
    · rw [body_plain hm] at hd hn
      exact ⟨_, intText_digits hd hn (by omega)⟩
theorem tyStr {K : PySem.W.Frag} {H : Hp} {w : Str} : tyV K "str" (.str w) H := by
  first | exact .inr (.inl ⟨rfl, w, rfl⟩) | trivial | simp [tyV]
def spWrites : Sp := fun vs H Q _ => ∃ w : Str, vs = [.str w] ∧ w.length ≤ 10000000 ∧ Q (.bl (intW w)) H
theorem first_at {s : Str} (h : ¬ s = "") : atI s.cps.toList 0 = some (s.cps.toList.headD 0) := by
  have := cps_nil (s := s)
  cases e : s.cps.toList with
  | nil => exact absurd (this e) h
  | cons c r => exact atI_nat (j := 0) rfl
theorem bodyOf_len (w : Str) : (bodyOf w).length ≤ w.length := by
  unfold bodyOf
  split
  · exact cutS_length _ _ _
  · exact Nat.le_refl _
theorem ok_writes_integer {P : Program} {w : World} {K : PySem.W.Frag} {mg : Str → Option Value} {base : Heap} (T : T P K mg) : FnOk P w K mg base CX0 2 T.a_writes_integer T.fd_writes_integer ["word"] spWrites := by
  refine T.F_writes_integer.ok sc_writes_integer (fun vs H Q E h => ?_) (fun cdv A outer s H vs Q E hr h => ?_)
  · obtain ⟨w, rfl, _⟩ := h
    rfl
  · obtain ⟨w, rfl, hz, q⟩ := h
    refine ⟨_, (pss_cons (ps_if (pt_cmpR op_eq (pv 0) pe_str (nomark _)) (pss_one (ps_ret pe_bl)) pss_nil)
      (pss_cons (ps_set (i := 1) sc_writes_integer.nd rfl (by first | exact Or.inl rfl | exact Or.inr rfl) (pv 0))
      (Z.pss_consJ (ps_if (pt_val (pe_bm PySem.F.plainAttrs_str PySem.F.slot_str_startswith PySem.F.type_str_startswith mt_startswith (pv 0) (pa_cons pe_str pa_nil))) (pss_one (ps_set (i := 1) sc_writes_integer.nd rfl (by first | exact Or.inl rfl | exact Or.inr rfl) (pe_slice sl_str (pv 0) (po_some pe_int) po_none))) pss_nil)
      (pss_one (ps_ret (pe_and (pe_cmpR op_ne (pv 1) pe_str (nomark _)) (pe_and (pe_cmpR op_ne (pe_ix ix_str (pv 1) pe_int (fun _ _ => rfl)) pe_str (nomark _)) (pe_one (pe_call (ok_made_of T) (hr.mono (by decide)) (by rfl) T.g_made_of T.F_made_of.kp T.b_made_of .nil pass0 (pa_cons (pv 1) (pa_cons (pe_glob (by rfl) T.g_DIGITS T.r_DIGITS) pa_nil))))))))))), ?_⟩
    unfold intW at q
    walk_at "z0"
    walk_at "z"
    have hsz : ∀ n, n ≤ 10000000 → n ≤ sizeLine := fun n h => Nat.le_trans h (by decide)
    refine Z.ite (fun h1 => ?_) (fun h1 => ?_)
    · rw [if_pos h1] at q
      walk_at "z"
      exact q
    · rw [if_neg h1] at q
      walk_at "z"
      refine Z.seqJ (fun σ' H' => σ' = [some (.str w), some (.str (bodyOf w))] ∧ H' = H) ?_ ?_
      · rintro σ' H' ⟨rfl, rfl⟩
        have hb := bodyOf_len w
        walk_at "z"
        refine Z.iteN (fun h2 => ?_) (fun h2 => ?_)
        · rw [decide_eq_false h2] at q
          walk_at "z"
          refine ⟨_, 0, _, rfl, rfl, hsz _ (by omega), first_at h2, ?_⟩
          walk_at "z"
          cases hf : firstIs0 (bodyOf w) with
          | true =>
            rw [hf] at q
            unfold firstIs0 at hf
            rw [hf]
            walk_at "z"
            exact q
          | false =>
            rw [hf] at q
            unfold firstIs0 at hf
            rw [hf]
            walk_at "z"
            exact ⟨_, _, rfl, q⟩
        · rw [decide_eq_true h2] at q
          walk_at "z"
          exact q
      · intro N jn
        walk_at "z"
        refine ⟨tyStr, ?_⟩
        walk_at "z"
        refine ⟨w, "-", rfl, rfl, ?_⟩
        walk_at "z"
        cases hm : Txt.startswith w "-" with
        | true =>
          walk_at "z"
          refine ⟨w, rfl, hsz _ hz, ?_⟩
          walk_at "z"
          exact jn _ _ ⟨by unfold bodyOf; rw [if_pos hm], rfl⟩
        | false =>
          walk_at "z"
          exact jn _ _ ⟨by unfold bodyOf; rw [if_neg (by rw [hm]; decide)], rfl⟩
def tlen (i : Int) : Nat := (Str.ofString (toString i)).cps.size
def capOf (lo hi : Int) : Int := if (tlen hi : Int) > (tlen lo : Int) then (tlen hi : Int) else (tlen lo : Int)
def withinO (w : Str) (lo hi : Int) : Option Int :=
  if (w.cps.size : Int) > capOf lo hi then none else if intW w = true then match intText? w with
    | some n => if lo ≤ n ∧ n ≤ hi then some n else none
    | none => none
  else none
def optI : Option Int → V
  | none => .non
  | some n => .int n
theorem optI_non (o : Option Int) : decide (optI o = .non) = o.isNone := by cases o <;> simp [optI]
def spWithin : Sp := fun vs H Q _ => ∃ (w : Str) (lo hi : Int), vs = [.str w, .int lo, .int hi] ∧ w.cps.size ≤ 10000000 ∧ lo.natAbs < 2 ^ 30 ∧ hi.natAbs < 2 ^ 30 ∧ tlen lo ≤ 600 ∧ tlen hi ≤ 600 ∧ Q (optI (withinO w lo hi)) H
theorem ok_integer_within {P : Program} {w : World} {K : PySem.W.Frag} {mg : Str → Option Value} {base : Heap} (T : T P K mg) : FnOk P w K mg base CX0 3 T.a_integer_within T.fd_integer_within ["word", "low", "high"] spWithin := by
  refine T.F_integer_within.ok sc_integer_within (fun vs H Q E h => ?_) (fun cdv A outer s H vs Q E hr h => ?_)
  · obtain ⟨w, lo, hi, rfl, _⟩ := h
    rfl
  · obtain ⟨w, lo, hi, rfl, hz, hlo, hhi, tlo, thi, q⟩ := h
    refine ⟨_, (pss_cons (ps_if (PW.pt (pw_or (pt_cmpR op_gt (pe_callB c_lens (by rfl) T.z_len (by decide +kernel) (pa_cons (pv 0) pa_nil)) (pe_callB (call_max2 rfl) (by rfl) T.z_max (by decide +kernel) (pa_cons (pe_callB c_lens (by rfl) T.z_len (by decide +kernel) (pa_cons (pe_callTy call_str_int (by rfl) T.z_str (by decide +kernel) (pa_cons (pv 1) pa_nil)) pa_nil)) (pa_cons (pe_callB c_lens (by rfl) T.z_len (by decide +kernel) (pa_cons (pe_callTy call_str_int (by rfl) T.z_str (by decide +kernel) (pa_cons (pv 2) pa_nil)) pa_nil)) pa_nil))) (nomark _)) (pw_or1 (pt_not (pt_val (pe_call (ok_writes_integer T) (hr.mono (by decide)) (by rfl) T.g_writes_integer T.F_writes_integer.kp T.b_writes_integer .nil pass0 (pa_cons (pv 0) pa_nil))))))) (pss_one (ps_ret pe_non)) pss_nil)
      (pss_cons (ps_set (i := 3) sc_integer_within.nd rfl (by first | exact Or.inl rfl | exact Or.inr rfl) (pe_callTy call_int_str (by rfl) T.z_int (by decide +kernel) (pa_cons (pv 0) pa_nil)))
      (Z.pss_consJ (ps_if (pt_chain op_le op_le (pv 1) (pv 3) (pv 2)) (pss_one (ps_ret (pv 3))) pss_nil)
      (pss_one (ps_ret pe_non))))), ?_⟩
    have llo : lo.natAbs.log2 < 1920 := Nat.lt_of_lt_of_le (PySem.Flt.log2_lt_of (k := 30) (by decide) hlo) (by decide)
    have lhi : hi.natAbs.log2 < 1920 := Nat.lt_of_lt_of_le (PySem.Flt.log2_lt_of (k := 30) (by decide) hhi) (by decide)
    unfold withinO at q
    walk_at "z0"
    walk_at "z"
    refine Z.lenS hz ?_
    walk_at "z"
    refine ⟨lo, rfl, llo, ?_⟩
    walk_at "z"
    refine Z.lenS (Nat.le_trans tlo (by decide)) ?_
    walk_at "z"
    refine ⟨hi, rfl, lhi, ?_⟩
    walk_at "z"
    refine Z.lenS (Nat.le_trans thi (by decide)) ?_
    walk_at "z"
    refine ⟨_, _, rfl, ?_⟩
    walk_at "z"
    have hcap : capOf lo hi ≤ 600 := by
      unfold capOf
      split <;> omega
    refine Z.ite (fun h1 => ?_) (fun h1 => ?_)
    · rw [if_pos (show (w.cps.size : Int) > capOf lo hi from h1)] at q
      walk_at "z"
      exact q
    · have h1' : ¬ (w.cps.size : Int) > capOf lo hi := h1
      rw [if_neg h1'] at q
      walk_at "z"
      refine ⟨w, rfl, hz, ?_⟩
      walk_at "z"
      cases hw : intW w with
      | false =>
        rw [hw, if_neg Bool.false_ne_true] at q
        walk_at "z"
        exact q
      | true =>
        rw [hw, if_pos rfl] at q
        have hl : w.length ≤ 640 := by
          show w.cps.size ≤ 640
          omega
        obtain ⟨n, hn⟩ := intW_reads hw hl
        rw [hn] at q
        dsimp only at q
        walk_at "z"
        refine ⟨w, n, rfl, hn, hl, ?_⟩
        walk_at "z"
        refine Z.seqJ (fun σ' H' => H' = H ∧ ¬ (lo ≤ n ∧ n ≤ hi)) ?_ ?_
        · rintro σ' H' ⟨rfl, hno⟩
          rw [if_neg hno] at q
          walk_at "z"
          exact q
        · intro N jn
          walk_at "z"
          refine Z.ite (fun h3 => ?_) (fun h3 => ?_)
          · walk_at "z"
            refine Z.ite (fun h4 => ?_) (fun h4 => ?_)
            · rw [if_pos ⟨h3, h4⟩] at q
              walk_at "z"
              exact q
            · walk_at "z"
              exact jn _ _ ⟨rfl, fun z => h4 z.2⟩
          · walk_at "z"
            exact jn _ _ ⟨rfl, fun z => h3 z.1⟩

/-! ### samphire.reader -/
def spWords (K : PySem.W.Frag) : Sp := fun vs H Q _ => ∃ s : Str, vs = [.str s] ∧ s.length ≤ 10000000 ∧ ∀ H' p, H p = none → Kp [] H H' → H' p = some (.lst ((Txt.split s " ").map V.str)) → Q (.ref p) H'
theorem ok_words_of {P : Program} {w : World} {K : PySem.W.Frag} {mg : Str → Option Value} {base : Heap} (T : T P K mg) : FnOk P w K mg base CX0 1 T.a_words_of T.fd_words_of ["line"] (spWords K) := by
  refine T.F_words_of.ok sc_words_of (fun vs H Q E h => ?_) (fun cdv A outer s H vs Q E hr h => ?_)
  · obtain ⟨s, rfl, _⟩ := h
    rfl
  · obtain ⟨s, rfl, hz, q⟩ := h
    refine ⟨_, (pss_one (ps_ret (pe_bm PySem.F.plainAttrs_str PySem.F.slot_str_split PySem.F.type_str_split Z.m_split (pv 0) (pa_cons pe_str pa_nil)))), ?_⟩
    walk_at "z0"
    walk_at "z"
    refine ⟨tyStr, ?_⟩
    walk_at "z"
    exact Z.split (by decide +kernel) hz fun p H1 np k1 e1 => q H1 p np k1 e1
/-- the lines: nothing behind the last newline is no line -/
def linesL (s : Str) : List Str := if (Txt.split s "\n").getLast? = some ("" : Str) then (Txt.split s "\n").dropLast else Txt.split s "\n"
theorem at_last (l : List V) (y : V) : atI (l ++ [y]) (-1) = some y := atI_last l y
def spLines (K : PySem.W.Frag) : Sp := fun vs H Q _ => ∃ s : Str, vs = [.str s] ∧ s.length ≤ 10000000 ∧ Txt.split s "\n" ≠ [] ∧ ∀ H' p, H p = none → Kp [] H H' → H' p = some (.lst ((linesL s).map V.str)) → Q (.ref p) H'
theorem last_of {l : List Str} (h : l ≠ []) : ∃ r x, l = r ++ [x] := by
  refine ⟨l.dropLast, l.getLast h, (List.dropLast_concat_getLast h).symm⟩
theorem ok_lines_of {P : Program} {w : World} {K : PySem.W.Frag} {mg : Str → Option Value} {base : Heap} (T : T P K mg) : FnOk P w K mg base CX0 1 T.a_lines_of T.fd_lines_of ["text"] (spLines K) := by
  refine T.F_lines_of.ok sc_lines_of (fun vs H Q E h => ?_) (fun cdv A outer s H vs Q E hr h => ?_)
  · obtain ⟨s, rfl, _⟩ := h
    rfl
  · obtain ⟨s, rfl, hz, hne, q⟩ := h
    refine ⟨_, (pss_cons (ps_set (i := 1) sc_lines_of.nd rfl (by first | exact Or.inl rfl | exact Or.inr rfl) (pe_bm PySem.F.plainAttrs_str PySem.F.slot_str_split PySem.F.type_str_split Z.m_split (pv 0) (pa_cons pe_str pa_nil)))
      (Z.pss_consJ (ps_if (pt_cmpR op_eq (pe_ix ix_list (pv 1) (pe_un un_neg pe_int) (fun _ _ => rfl)) pe_str (nomark _)) (pss_one (ps_expr (pe_bm0 PySem.F.plainAttrs_list PySem.F.slot_list_pop PySem.F.type_list_pop mt_pop (pv 1)))) pss_nil)
      (pss_one (ps_ret (pv 1))))), ?_⟩
    walk_at "z0"
    walk_at "z"
    refine ⟨tyStr, ?_⟩
    walk_at "z"
    refine Z.split (by decide +kernel) hz fun p H1 np k1 e1 => ?_
    unfold linesL at q
    obtain ⟨r, x, hrx⟩ := last_of hne
    rw [hrx] at e1 q
    rw [List.getLast?_concat, List.dropLast_concat] at q
    walk_at "z"
    have e1' : H1 p = some (.lst (r.map V.str ++ [.str x])) := by rw [e1, List.map_append]; rfl
    refine Z.seqJ (fun σ' H' => σ' = [some (.str s), some (.ref p)] ∧ Kp [] H H' ∧ H' p = some (.lst ((if some x = some ("" : Str) then r else r ++ [x]).map V.str))) ?_ ?_
    · rintro σ' H' ⟨rfl, k2, e2⟩
      walk_at "z"
      exact q H' p np k2 e2
    · intro N jn
      walk_at "z"
      refine Z.ixL (v := .str x) (lstL e1') (at_last _ _) ?_
      walk_at "z"
      refine Z.ite (fun h1 => ?_) (fun h1 => ?_)
      · walk_at "z"
        refine ⟨Z.tyL e1', ?_⟩
        refine Z.popS e1' ?_
        walk_at "z"
        exact jn _ _ ⟨rfl, k1.mut np rfl, by rw [upd_same, if_pos (by rw [h1])]⟩
      · walk_at "z"
        exact jn _ _ ⟨rfl, k1, by rw [if_neg (fun z => h1 (Option.some.inj z))]; exact e1⟩
/-! column_of -/
def colOf (ws : List Str) (k : Nat) : Int := 1 + ((ws.take k).map fun w => (w.cps.size : Int) + 1).sum
def spCol (K : PySem.W.Frag) : Sp := fun vs H Q _ => ∃ (p : Addr) (ws : List Str) (k : Nat), vs = [.ref p, .int (k : Int)] ∧ H p = some (.lst (ws.map V.str)) ∧ k ≤ ws.length ∧ ws.length ≤ 100000 ∧ (∀ w ∈ ws, w.cps.size ≤ 10000000) ∧ ∀ H', Kp [] H H' → Q (.int (colOf ws k)) H'
theorem ok_column_of {P : Program} {w : World} {K : PySem.W.Frag} {mg : Str → Option Value} {base : Heap} (T : T P K mg) : FnOk P w K mg base CX0 1 T.a_column_of T.fd_column_of ["words", "place"] (spCol K) := by
  refine T.F_column_of.ok sc_column_of (fun vs H Q E h => ?_) (fun cdv A outer s H vs Q E hr h => ?_)
  · obtain ⟨p, ws, k, rfl, _⟩ := h
    rfl
  · obtain ⟨p, ws, k, rfl, hp, hk, hl, hz, q⟩ := h
    refine ⟨_, (pss_one (ps_ret (pe_op op_add pe_int (pe_callB (cr_sum rfl) (by rfl) T.z_sum (by decide +kernel) (pa_cons (pe_lc (own := [("word", 2)]) (g := gName 2) rfl sc_column_of.nd (pi_list (pe_slice sl_list (pv 0) po_none (po_some (pv 1)))) (blkOk_by (own := [("word", 2)]) (N := N_column_of) (sc := defScope s_column_of) (by decide +kernel)) (fun _ _ _ _ _ => (pg_name (i := 2) sc_column_of.nd rfl (by first | exact Or.inl rfl | exact Or.inr rfl))) (fun _ _ _ _ _ => pts_nil) (fun _ _ _ _ _ => (pe_op op_add (pe_callB c_lens (by rfl) T.z_len (by decide +kernel) (pa_cons (pv 2) pa_nil)) pe_int))) pa_nil))))), ?_⟩
    walk_at "z0"
    walk_at "z"
    refine Z.slL (lstL hp) (fun d H1 nd k1 e1 => ?_)
    rw [Z.cut_take (by rw [List.length_map]; exact hk), ← List.map_take] at e1
    refine Z.lcl ((ws.take k).map V.str) (lstL e1) (fun D i H' => Kp [] H1 H' ∧ H' D = some (.lst ((((ws.take k).take i).map fun w => (w.cps.size : Int) + 1).map V.int))) ?_ ?_ ?_ ?_
    · intro D H2 nD k2 e2
      exact ⟨k2, e2⟩
    · rintro D i H2 nD hi ⟨k2, e2⟩
      exact lstL (k2.get nin0 e1)
    · rintro D i v H2 nD hv ⟨k2, e2⟩
      rw [List.getElem?_map] at hv
      cases ew : (ws.take k)[i]? with
      | none => rw [ew] at hv; cases hv
      | some w =>
        rw [ew] at hv
        cases hv
        have hw := hz w (List.mem_of_mem_take (List.mem_of_getElem? ew))
        have hi : i < (ws.take k).length := (List.getElem?_eq_some_iff.mp ew).1
        rw [List.length_take] at hi
        dsimp only [wipe, List.set]
        walk_at "z"
        refine ⟨rfl, ?_⟩
        walk_at "z"
        refine Z.lenS hw ?_
        walk_at "z"
        refine ⟨_, e2, Z.szl (m := 100000) (by rw [List.length_map, List.length_map, List.length_take, List.length_take]; omega), k2.mut nD rfl, ?_⟩
        rw [upd_same, List.take_add_one (i := i), ew, List.map_append, List.map_append]; rfl
    · rintro D H2 nD ⟨k2, e2⟩
      rw [List.length_map, List.take_length] at e2
      walk_at "z"
      refine Z.sumL (lstL e2) ?_
      walk_at "z"
      exact q H2 (k1.trans k2)
/-! word_fault, item_of -/
def wfault (k g w a : Str) : Option (Nat × Str) :=
  if fineB k = false then some (0, ("key" : Str)) else if fineB g = false then some (1, ("group" : Str)) else if withinO w 1 1000 = none then some (2, ("weight" : Str)) else if withinO a (-1000) 1000 = none then some (3, ("amount" : Str)) else none
def spWF : Sp := fun vs H Q _ => ∃ (p : Addr) (k g w a : Str), vs = [.ref p] ∧ H p = some (.lst [.str k, .str g, .str w, .str a]) ∧ k.cps.size ≤ 100000 ∧ g.cps.size ≤ 100000 ∧ w.cps.size ≤ 100000 ∧ a.cps.size ≤ 100000 ∧ ∀ H' v, Kp [] H H' → FaultV H' v (wfault k g w a) → Q v H'
theorem tl1 : tlen 1 ≤ 600 := by decide +kernel
theorem tl1000 : tlen 1000 ≤ 600 := by decide +kernel
theorem tlm1000 : tlen (-1000) ≤ 600 := by decide +kernel
theorem ok_word_fault {P : Program} {w : World} {K : PySem.W.Frag} {mg : Str → Option Value} {base : Heap} (T : T P K mg) : FnOk P w K mg base CX0 4 T.a_word_fault T.fd_word_fault ["words"] spWF := by
  refine T.F_word_fault.ok sc_word_fault (fun vs H Q E h => ?_) (fun cdv A outer s H vs Q E hr h => ?_)
  · obtain ⟨p, k, g, w, a, rfl, _⟩ := h
    rfl
  · obtain ⟨p, k, g, w, a, rfl, hp, zk, zg, zw, za, q⟩ := h
    refine ⟨_, (pss_cons (ps_asg (pv 0) (pg_lst rfl (pgs_cons (pg_name (i := 1) sc_word_fault.nd rfl (by first | exact Or.inl rfl | exact Or.inr rfl)) (pgs_cons (pg_name (i := 2) sc_word_fault.nd rfl (by first | exact Or.inl rfl | exact Or.inr rfl)) (pgs_cons (pg_name (i := 3) sc_word_fault.nd rfl (by first | exact Or.inl rfl | exact Or.inr rfl)) (pgs_cons (pg_name (i := 4) sc_word_fault.nd rfl (by first | exact Or.inl rfl | exact Or.inr rfl)) pgs_nil))))))
      (pss_cons (ps_if (pt_not (pt_val (pe_call (ok_is_name T) (hr.mono (by decide)) (by rfl) T.g_is_name T.F_is_name.kp T.b_is_name .nil pass0 (pa_cons (pv 1) pa_nil)))) (pss_one (ps_ret (pe_tup (pa_cons pe_int (pa_cons pe_str pa_nil))))) pss_nil)
      (pss_cons (ps_if (pt_not (pt_val (pe_call (ok_is_name T) (hr.mono (by decide)) (by rfl) T.g_is_name T.F_is_name.kp T.b_is_name .nil pass0 (pa_cons (pv 2) pa_nil)))) (pss_one (ps_ret (pe_tup (pa_cons pe_int (pa_cons pe_str pa_nil))))) pss_nil)
      (pss_cons (ps_if (pt_cmpR o_isN (pe_call (ok_integer_within T) (hr.mono (by decide)) (by rfl) T.g_integer_within T.F_integer_within.kp T.b_integer_within .nil pass0 (pa_cons (pv 3) (pa_cons pe_int (pa_cons (pe_glob (by rfl) T.g_MOST_WEIGHT T.r_MOST_WEIGHT) pa_nil)))) pe_non (nomark _)) (pss_one (ps_ret (pe_tup (pa_cons pe_int (pa_cons pe_str pa_nil))))) pss_nil)
      (pss_cons (ps_if (pt_cmpR o_isN (pe_call (ok_integer_within T) (hr.mono (by decide)) (by rfl) T.g_integer_within T.F_integer_within.kp T.b_integer_within .nil pass0 (pa_cons (pv 4) (pa_cons (pe_un un_neg (pe_glob (by rfl) T.g_MOST_AMOUNT T.r_MOST_AMOUNT)) (pa_cons (pe_glob (by rfl) T.g_MOST_AMOUNT T.r_MOST_AMOUNT) pa_nil)))) pe_non (nomark _)) (pss_one (ps_ret (pe_tup (pa_cons pe_int (pa_cons pe_str pa_nil))))) pss_nil)
      (pss_one (ps_ret pe_non))))))), ?_⟩
    unfold wfault at q
    walk_at "z0"
    walk_at "z"
    refine Z.glst (lstL hp) rfl ?_
    walk_at "z"
    refine ⟨k, rfl, zk, ?_⟩
    walk_at "z"
    cases hk : fineB k with
    | false =>
      rw [hk, if_pos rfl] at q
      walk_at "z"
      refine Z.tupK (fun t H1 nt k1 e1 => ?_)
      exact q H1 _ k1 ⟨t, rfl, e1⟩
    | true =>
      rw [hk, if_neg (by decide)] at q
      walk_at "z"
      refine ⟨g, rfl, zg, ?_⟩
      walk_at "z"
      cases hg : fineB g with
      | false =>
        rw [hg, if_pos rfl] at q
        walk_at "z"
        refine Z.tupK (fun t H1 nt k1 e1 => ?_)
        exact q H1 _ k1 ⟨t, rfl, e1⟩
      | true =>
        rw [hg, if_neg (by decide)] at q
        walk_at "z"
        refine ⟨w, 1, 1000, rfl, by omega, by decide, by decide, tl1, tl1000, ?_⟩
        walk_at "z"
        rw [optI_non]
        cases hw : withinO w 1 1000 with
        | none =>
          rw [hw, if_pos rfl] at q
          dsimp only [Option.isNone]
          walk_at "z"
          refine Z.tupK (fun t H1 nt k1 e1 => ?_)
          exact q H1 _ k1 ⟨t, rfl, e1⟩
        | some n =>
          rw [hw, if_neg (by simp)] at q
          dsimp only [Option.isNone]
          walk_at "z"
          refine ⟨a, -1000, 1000, rfl, by omega, by decide, by decide, tlm1000, tl1000, ?_⟩
          walk_at "z"
          rw [optI_non]
          cases ha : withinO a (-1000) 1000 with
          | none =>
            rw [ha, if_pos rfl] at q
            dsimp only [Option.isNone]
            walk_at "z"
            refine Z.tupK (fun t H1 nt k1 e1 => ?_)
            exact q H1 _ k1 ⟨t, rfl, e1⟩
          | some m =>
            rw [ha, if_neg (by simp)] at q
            dsimp only [Option.isNone]
            walk_at "z"
            exact q H _ (Kp.refl _) rfl
theorem within_some {w : Str} {lo hi n : Int} (h : withinO w lo hi = some n) (hc : capOf lo hi ≤ 600) : intText? w = some n ∧ w.length ≤ 640 ∧ lo ≤ n ∧ n ≤ hi := by
  unfold withinO at h
  split at h
  · cases h
  · rename_i h1
    split at h
    · split at h
      · rename_i m hm
        split at h
        · rename_i h3
          cases h
          exact ⟨hm, by show w.cps.size ≤ 640; omega, h3.1, h3.2⟩
        · cases h
      · cases h
    · cases h
def spItemOf : Sp := fun vs H Q _ => ∃ (p : Addr) (k g w a : Str) (n m : Int), vs = [.ref p] ∧ H p = some (.lst [.str k, .str g, .str w, .str a]) ∧ intText? w = some n ∧ w.length ≤ 640 ∧ intText? a = some m ∧ a.length ≤ 640 ∧ ∀ H' t, H t = none → Kp [] H H' → RowAt H' t ⟨k, g, n, m⟩ → Q (.ref t) H'
theorem ok_item_of {P : Program} {w : World} {K : PySem.W.Frag} {mg : Str → Option Value} {base : Heap} (T : T P K mg) : FnOk P w K mg base CX0 1 T.a_item_of T.fd_item_of ["words"] spItemOf := by
  refine T.F_item_of.ok sc_item_of (fun vs H Q E h => ?_) (fun cdv A outer s H vs Q E hr h => ?_)
  · obtain ⟨p, k, g, w, a, n, m, rfl, _⟩ := h
    rfl
  · obtain ⟨p, k, g, w, a, n, m, rfl, hp, hw, lw, ha, la, q⟩ := h
    refine ⟨_, (pss_cons (ps_asg (pv 0) (pg_lst rfl (pgs_cons (pg_name (i := 1) sc_item_of.nd rfl (by first | exact Or.inl rfl | exact Or.inr rfl)) (pgs_cons (pg_name (i := 2) sc_item_of.nd rfl (by first | exact Or.inl rfl | exact Or.inr rfl)) (pgs_cons (pg_name (i := 3) sc_item_of.nd rfl (by first | exact Or.inl rfl | exact Or.inr rfl)) (pgs_cons (pg_name (i := 4) sc_item_of.nd rfl (by first | exact Or.inl rfl | exact Or.inr rfl)) pgs_nil))))))
      (pss_one (ps_ret (pe_tup (pa_cons (pv 1) (pa_cons (pv 2) (pa_cons (pe_callTy call_int_str (by rfl) T.z_int (by decide +kernel) (pa_cons (pv 3) pa_nil)) (pa_cons (pe_callTy call_int_str (by rfl) T.z_int (by decide +kernel) (pa_cons (pv 4) pa_nil)) pa_nil)))))))), ?_⟩
    walk_at "z0"
    walk_at "z"
    refine Z.glst (lstL hp) rfl ?_
    walk_at "z"
    refine ⟨w, n, rfl, hw, lw, ?_⟩
    walk_at "z"
    refine ⟨a, m, rfl, ha, la, ?_⟩
    walk_at "z"
    refine Z.tupK (fun t H1 nt k1 e1 => ?_)
    exact q H1 t nt k1 e1
/-! line_fault -/
def lfault (ws : List Str) (num : Nat) (tk : Str → Bool) : Option (Int × Str) :=
  match ws with
  | [k, g, w, a] => match wfault k g w a with
    | some (p, r) => some (colOf [k, g, w, a] p, r)
    | none => if tk k = true then some (1, ("taken" : Str)) else if num > 1000 then some (1, ("many" : Str)) else none
  | _ => some (1, ("count" : Str))
def FaultI (H : Hp) (v : V) : Option (Int × Str) → Prop
  | none => v = .non
  | some (k, y) => ∃ t, v = .ref t ∧ H t = some (.tup [.int k, .str y])
theorem wfault_lt {k g w a : Str} {p : Nat} {r : Str} (h : wfault k g w a = some (p, r)) : p ≤ 4 := by
  unfold wfault at h
  split at h
  · cases h; decide
  · split at h
    · cases h; decide
    · split at h
      · cases h; decide
      · split at h
        · cases h; decide
        · cases h
def spLF (K : PySem.W.Frag) : Sp := fun vs H Q _ => ∃ (p d : Addr) (ws : List Str) (num : Nat) (kvs : List (Key × V)), vs = [.ref p, .int (num : Int), .ref d] ∧ H p = some (.lst (ws.map V.str)) ∧ ws.length ≤ 100000 ∧ (∀ w ∈ ws, w.cps.size ≤ 100000) ∧ H d = some (.dK kvs) ∧
  ∀ H' v, Kp [] H H' → FaultI H' v (lfault ws num fun s => (valV kvs (.inr s)).isSome) → Q v H'
theorem ok_line_fault {P : Program} {w : World} {K : PySem.W.Frag} {mg : Str → Option Value} {base : Heap} (T : T P K mg) : FnOk P w K mg base CX0 5 T.a_line_fault T.fd_line_fault ["words", "number", "taken"] (spLF K) := by
  refine T.F_line_fault.ok sc_line_fault (fun vs H Q E h => ?_) (fun cdv A outer s H vs Q E hr h => ?_)
  · obtain ⟨p, d, ws, num, kvs, rfl, _⟩ := h
    rfl
  · obtain ⟨p, d, ws, num, kvs, rfl, hp, hl, hz, hd, q⟩ := h
    refine ⟨_, (pss_cons (ps_if (pt_cmpR op_ne (pe_callB c_len (by rfl) T.z_len (by decide +kernel) (pa_cons (pv 0) pa_nil)) (pe_glob (by rfl) T.g_WORDS_OF_ITEM T.r_WORDS_OF_ITEM) (nomark _)) (pss_one (ps_ret (pe_tup (pa_cons pe_int (pa_cons pe_str pa_nil))))) pss_nil)
      (pss_cons (ps_set (i := 3) sc_line_fault.nd rfl (by first | exact Or.inl rfl | exact Or.inr rfl) (pe_call (ok_word_fault T) (hr.mono (by decide)) (by rfl) T.g_word_fault T.F_word_fault.kp T.b_word_fault .nil pass0 (pa_cons (pv 0) pa_nil)))
      (pss_cons (ps_if (pt_cmpR o_notN (pv 3) pe_non (nomark _)) (pss_cons (ps_asg (pv 3) (pg_tup rfl (pgs_cons (pg_name (i := 4) sc_line_fault.nd rfl (by first | exact Or.inl rfl | exact Or.inr rfl)) (pgs_cons (pg_name (i := 5) sc_line_fault.nd rfl (by first | exact Or.inl rfl | exact Or.inr rfl)) pgs_nil))))
      (pss_one (ps_ret (pe_tup (pa_cons (pe_call (ok_column_of T) (hr.mono (by decide)) (by rfl) T.g_column_of T.F_column_of.kp T.b_column_of .nil pass0 (pa_cons (pv 0) (pa_cons (pv 4) pa_nil))) (pa_cons (pv 5) pa_nil)))))) pss_nil)
      (pss_cons (ps_if (pt_cmp (pc_din (hu_of hr) (pe_ix ix_list (pv 0) pe_int (fun _ _ => rfl)) (pv 2)) rfl) (pss_one (ps_ret (pe_tup (pa_cons pe_int (pa_cons pe_str pa_nil))))) pss_nil)
      (pss_cons (ps_if (pt_cmpR op_gt (pv 1) (pe_glob (by rfl) T.g_MOST_LINES T.r_MOST_LINES) (nomark _)) (pss_one (ps_ret (pe_tup (pa_cons pe_int (pa_cons pe_str pa_nil))))) pss_nil)
      (pss_one (ps_ret pe_non))))))), ?_⟩
    walk_at "z0"
    walk_at "z"
    refine Z.lenL (lstL hp) ?_
    walk_at "z"
    rw [List.length_map]
    refine Z.iteN (fun h1 => ?_) (fun h1 => ?_)
    · walk_at "z"
      refine Z.tupK (fun t H1 nt k1 e1 => ?_)
      refine q H1 _ k1 ?_
      have e : lfault ws num (fun s => (valV kvs (.inr s)).isSome) = some (1, ("count" : Str)) := by
        unfold lfault
        split
        · exact absurd rfl h1
        · rfl
      rw [e]
      exact ⟨t, rfl, e1⟩
    · obtain ⟨k, g, w, a, rfl⟩ : ∃ k g w a, ws = [k, g, w, a] := by
        match ws, h1 with
        | [k, g, w, a], _ => exact ⟨k, g, w, a, rfl⟩
        | [], h1 => simp at h1
        | [_], h1 => simp at h1
        | [_, _], h1 => simp at h1
        | [_, _, _], h1 => simp at h1
        | _ :: _ :: _ :: _ :: _ :: r, h1 => simp at h1; omega
      walk_at "z"
      refine ⟨p, k, g, w, a, rfl, hp, hz k (by simp), hz g (by simp), hz w (by simp), hz a (by simp), fun H1 v k1 hv => ?_⟩
      walk_at "z"
      generalize etk : (fun s => (valV kvs (.inr s)).isSome) = tk at q
      have htk : (valV kvs (.inr k)).isSome = tk k := by rw [← etk]
      unfold lfault at q
      dsimp only at q
      have hp1 := k1.get nin0 hp
      cases ho : wfault k g w a with
      | some pr =>
        obtain ⟨pl, rs⟩ := pr
        rw [ho] at hv q
        obtain ⟨t, rfl, et⟩ := hv
        walk_at "z"
        refine Z.yesN (by simp) ?_
        walk_at "z"
        refine Z.gtup (tupT et) rfl ?_
        walk_at "z"
        refine ⟨p, [k, g, w, a], pl, rfl, hp1, wfault_lt ho, by show 4 ≤ 100000; decide, fun z hz' => Nat.le_trans (hz z hz') (by decide), fun H2 k2 => ?_⟩
        walk_at "z"
        refine Z.tupK (fun t2 H3 nt k3 e3 => ?_)
        exact q H3 _ ((k1.trans k2).trans k3) ⟨t2, rfl, e3⟩
      | none =>
        rw [ho] at hv q
        have hv' : v = .non := hv
        subst hv'
        walk_at "z"
        refine Z.noN rfl ?_
        walk_at "z"
        refine Z.ixL (v := .str k) (lstL hp1) rfl ?_
        walk_at "z"
        refine ⟨d, _, rfl, DGet.k (k := .inr k) (k1.get nin0 hd), ?_⟩
        walk_at "z"
        dsimp only at q
        rw [htk]
        cases ht : tk k with
        | true =>
          rw [ht, if_pos rfl] at q
          walk_at "z"
          refine Z.tupK (fun t2 H3 nt k3 e3 => ?_)
          exact q H3 _ (k1.trans k3) ⟨t2, rfl, e3⟩
        | false =>
          rw [ht, if_neg (by decide)] at q
          walk_at "z"
          refine Z.ite (fun h2 => ?_) (fun h2 => ?_)
          · rw [if_pos (by omega)] at q
            walk_at "z"
            refine Z.tupK (fun t2 H3 nt k3 e3 => ?_)
            exact q H3 _ (k1.trans k3) ⟨t2, rfl, e3⟩
          · rw [if_neg (by omega)] at q
            walk_at "z"
            exact q H1 _ k1 rfl
/-! read_items -/
def nxtTk (tk : Str → Bool) (ws : List Str) : Str → Bool := fun s => if s = ws.headD "" then true else tk s
def readL : Nat → (Str → Bool) → List (List Str) → Option (Nat × Int × Str)
  | _, _, [] => none
  | num, tk, ws :: r => match lfault ws num tk with
    | some (c, y) => some (num, c, y)
    | none => readL (num + 1) (nxtTk tk ws) r
def rowOf (ws : List Str) : Row := ⟨ws.getD 0 "", ws.getD 1 "", (intText? (ws.getD 2 "")).getD 0, (intText? (ws.getD 3 "")).getD 0⟩
def spRead (C : Addr) : Sp := fun vs H Q E => ∃ (s : Str) (W : List (List Str)), vs = [.str s] ∧ s.length ≤ 100000 ∧ Txt.split s "\n" ≠ [] ∧ W = (linesL s).map (fun l => Txt.split l " ") ∧ (linesL s).length ≤ 100000 ∧ (∀ l ∈ linesL s, l.length ≤ 100000) ∧ (∀ ws ∈ W, ws.length ≤ 100000 ∧ ∀ w ∈ ws, w.cps.size ≤ 100000) ∧
  (∀ l c y, readL 1 (fun _ => false) W = some (l, c, y) → ∀ H' d, Kp [] H H' → H' d = none → E (.ref C) (some d) (upd H' d (.xd (flText [.int (l : Int), .int c, .str y])))) ∧
  (readL 1 (fun _ => false) W = none → ∀ H' p ps, H p = none → Kp [] H H' → H' p = some (.lst (refs ps)) → RowsAt H' ps → ps.map (fun x => x.2) = W.map rowOf → Q (.ref p) H')
theorem readL_cons {num : Nat} {tk : Str → Bool} {ws : List Str} {r : List (List Str)} : readL num tk (ws :: r) = match lfault ws num tk with | some (c, y) => some (num, c, y) | none => readL (num + 1) (nxtTk tk ws) r := rfl
theorem nxt_put {kvs : List (Key × V)} {k : Str} {r : List Str} : (nxtTk (fun z => (valV kvs (.inr z)).isSome) (k :: r)) = fun z => (valV (putK kvs (.inr k) (.bl true)) (.inr z)).isSome := by
  funext z
  unfold nxtTk
  rw [valV_put]
  by_cases h : z = k
  · subst h; simp
  · rw [if_neg (by simpa using h), if_neg (by intro e; cases e; exact h rfl)]
theorem putK_le9 {κ : Type} [DecidableEq κ] (kvs : List (κ × V)) (k : κ) (v : V) : (putK kvs k v).length ≤ kvs.length + 1 := by
  unfold putK
  split
  · rw [List.length_map]; omega
  · rw [List.length_append]; simp
theorem wfault_none {k g w a : Str} (h : wfault k g w a = none) : ∃ n m, withinO w 1 1000 = some n ∧ withinO a (-1000) 1000 = some m := by
  unfold wfault at h
  split at h
  · cases h
  · split at h
    · cases h
    · split at h
      · cases h
      · split at h
        · cases h
        · rename_i h3 h4
          cases hw : withinO w 1 1000 with
          | none => exact absurd hw h3
          | some n =>
            cases ha : withinO a (-1000) 1000 with
            | none => exact absurd ha h4
            | some m => exact ⟨n, m, rfl, rfl⟩
theorem lfault_none {ws : List Str} {num : Nat} {tk : Str → Bool} (h : lfault ws num tk = none) : ∃ k g w a, ws = [k, g, w, a] ∧ wfault k g w a = none := by
  unfold lfault at h
  split at h
  · rename_i k g w a
    cases e : wfault k g w a with
    | none => exact ⟨k, g, w, a, rfl, e⟩
    | some pr =>
      obtain ⟨p, r⟩ := pr
      rw [e] at h
      cases h
  · cases h
def words9 : List Str := ["key", "group", "weight", "amount", "taken", "many", "count"]
theorem words9_small : smallS words9 = true := by decide +kernel
theorem wfault_in {k g w a : Str} {p : Nat} {r : Str} (h : wfault k g w a = some (p, r)) : r ∈ words9 := by
  unfold wfault at h
  unfold words9
  split at h
  · cases h; simp
  · split at h
    · cases h; simp
    · split at h
      · cases h; simp
      · split at h
        · cases h; simp
        · cases h
theorem colOf_le {k g w a : Str} {p : Nat} (hp : p ≤ 4) (h : ∀ z ∈ [k, g, w, a], z.cps.size ≤ 100000) : 1 ≤ colOf [k, g, w, a] p ∧ colOf [k, g, w, a] p < 1000000000 := by
  have h1 := h k (by simp)
  have h2 := h g (by simp)
  have h3 := h w (by simp)
  have h4 := h a (by simp)
  unfold colOf
  match p, hp with
  | 0, _ => simp
  | 1, _ => simp; omega
  | 2, _ => simp; omega
  | 3, _ => simp; omega
  | 4, _ => simp; omega
theorem lfault_ok {ws : List Str} {num : Nat} {tk : Str → Bool} {c : Int} {y : Str} (h : lfault ws num tk = some (c, y)) (hz : ∀ z ∈ ws, z.cps.size ≤ 100000) : 1 ≤ c ∧ c < 1000000000 ∧ y.length ≤ 1000 := by
  have sm : ∀ z ∈ words9, z.length ≤ 1000 := fun z hz => Nat.le_trans (smallS_of words9_small hz).2 (by decide)
  unfold lfault at h
  split at h
  · rename_i k g w a
    cases e : wfault k g w a with
    | some pr =>
      obtain ⟨p, r⟩ := pr
      rw [e] at h
      cases h
      exact ⟨(colOf_le (wfault_lt e) hz).1, (colOf_le (wfault_lt e) hz).2, sm _ (wfault_in e)⟩
    | none =>
      rw [e] at h
      dsimp only at h
      split at h
      · cases h; exact ⟨by decide, by decide, sm _ (by unfold words9; simp)⟩
      · split at h
        · cases h; exact ⟨by decide, by decide, sm _ (by unfold words9; simp)⟩
        · cases h
  · cases h; exact ⟨by decide, by decide, sm _ (by unfold words9; simp)⟩
theorem cap1 : capOf 1 1000 ≤ 600 := by unfold capOf; have := tl1; have := tl1000; split <;> omega
theorem capm : capOf (-1000) 1000 ≤ 600 := by unfold capOf; have := tlm1000; have := tl1000; split <;> omega
theorem ok_read_items {P : Program} {w : World} {K : PySem.W.Frag} {mg : Str → Option Value} {base : Heap} (T : T P K mg) : FnOk P w K mg base (L2.CX P w) 6 T.a_read_items T.fd_read_items ["text"] (spRead T.C_TextError) := by
  refine T.F_read_items.okX sc_read_items (fun vs H Q E h => ?_) (fun cdv A outer s H vs Q E hr h => ?_)
  · obtain ⟨s, W, rfl, _⟩ := h
    rfl
  · obtain ⟨s, W, rfl, hz, hne, hWe, hll, hlz, hW, hx, q⟩ := h
    refine ⟨_, (pss_cons (ps_if (pt_cmpR op_gt (pe_callB c_lens (by rfl) T.z_len (by decide +kernel) (pa_cons (pv 0) pa_nil)) (pe_glob (by rfl) T.g_MOST_CHARACTERS T.r_MOST_CHARACTERS) (nomark _)) (pss_one (ps_raise rfl (takes_of rfl rfl rfl rfl) (pmk_oex T.x_TooLarge.S.T T.x_TooLarge.iC T.x_TooLarge.tI (ok_TooLarge_init T) (hr.mono (by decide)) (T.bx_TooLarge) .nil pass0 (by rfl) T.x_TooLarge.g (pa_cons pe_str pa_nil)))) pss_nil)
      (pss_cons (ps_set (i := 1) sc_read_items.nd rfl (by first | exact Or.inl rfl | exact Or.inr rfl) (pe_lst pa_nil))
      (pss_cons (ps_set (i := 2) sc_read_items.nd rfl (by first | exact Or.inl rfl | exact Or.inr rfl) pe_dnewK)
      (pss_cons (ps_for (passes_of rfl) rfl (RL.pi_enumS (by rfl) T.z_enumerate (pa_cons (pe_call (ok_lines_of T) (hr.mono (by decide)) (by rfl) T.g_lines_of T.F_lines_of.kp T.b_lines_of .nil pass0 (pa_cons (pv 0) pa_nil)) pa_nil) (pk_cons pe_int pk_nil)) (pg_tup rfl (pgs_cons (pg_name (i := 3) sc_read_items.nd rfl (by first | exact Or.inl rfl | exact Or.inr rfl)) (pgs_cons (pg_name (i := 4) sc_read_items.nd rfl (by first | exact Or.inl rfl | exact Or.inr rfl)) pgs_nil))) (pss_cons (ps_set (i := 5) sc_read_items.nd rfl (by first | exact Or.inl rfl | exact Or.inr rfl) (pe_call (ok_words_of T) (hr.mono (by decide)) (by rfl) T.g_words_of T.F_words_of.kp T.b_words_of .nil pass0 (pa_cons (pv 4) pa_nil)))
      (pss_cons (ps_set (i := 6) sc_read_items.nd rfl (by first | exact Or.inl rfl | exact Or.inr rfl) (pe_call (ok_line_fault T) (hr.mono (by decide)) (by rfl) T.g_line_fault T.F_line_fault.kp T.b_line_fault .nil pass0 (pa_cons (pv 5) (pa_cons (pv 3) (pa_cons (pv 2) pa_nil)))))
      (pss_cons (ps_if (pt_cmpR o_notN (pv 6) pe_non (nomark _)) (pss_cons (ps_asg (pv 6) (pg_tup rfl (pgs_cons (pg_name (i := 7) sc_read_items.nd rfl (by first | exact Or.inl rfl | exact Or.inr rfl)) (pgs_cons (pg_name (i := 8) sc_read_items.nd rfl (by first | exact Or.inl rfl | exact Or.inr rfl)) pgs_nil))))
      (pss_one (ps_raise rfl (takes_of rfl rfl rfl rfl) (pmk_oex T.x_TextError.S.T T.x_TextError.iC T.x_TextError.tI (ok_TextError_init T) (hr.mono (by decide)) (T.bx_TextError) .nil pass0 (by rfl) T.x_TextError.g (pa_cons (pv 3) (pa_cons (pv 7) (pa_cons (pv 8) pa_nil))))))) pss_nil)
      (pss_cons (ps_dput (hu_of hr) (pv 2) (pe_ix ix_list (pv 5) pe_int (fun _ _ => rfl)) pe_bl rfl)
      (pss_one (ps_expr (pe_bm PySem.F.plainAttrs_list PySem.F.slot_list_append PySem.F.type_list_append mt_append (pv 1) (pa_cons (pe_call (ok_item_of T) (hr.mono (by decide)) (by rfl) T.g_item_of T.F_item_of.kp T.b_item_of .nil pass0 (pa_cons (pv 5) pa_nil)) pa_nil)))))))))
      (pss_one (ps_ret (pv 1))))))), ?_⟩
    walk_at "z0"
    walk_at "z"
    have hz' : s.cps.size ≤ 100000 := hz
    refine Z.lenS (by omega) ?_
    walk_at "z"
    refine Z.no (by omega) ?_
    walk_at "z"
    refine Z.lstK (fun R H1 nR k1 e1 => ?_)
    walk_at "z"
    refine Z.dnew (fun d H2 nd k2 e2 => ?_)
    have e2R := k2.get nin0 e1
    have nRd : R ≠ d := ne_of_none e1 nd
    have nd0 : H d = none := k1.none nin0 nd
    walk_at "z"
    refine ⟨s, rfl, by omega, hne, fun H3 lp nl k3 e3 => ?_⟩
    walk_at "z"
    have k03 := (k1.trans k2).trans k3
    have nRl : lp ≠ R := (ne_of_none e2R nl).symm
    have ndl : lp ≠ d := (ne_of_none e2 nl).symm
    have hlen : W.length = (linesL s).length := by rw [hWe, List.length_map]
    refine Z.fores ((linesL s).map V.str) (by decide) (by decide) (lstL e3) (fun i σ' H' => ∃ y3 y4 y5 y6 y7 y8, ∃ (kvs : List (Key × V)) (ps : List (Addr × Row)), σ' = [some (.str s), some (.ref R), some (.ref d), y3, y4, y5, y6, y7, y8] ∧ Kp [] H H' ∧ H' lp = some (.lst ((linesL s).map V.str)) ∧ H' R = some (.lst (refs ps)) ∧ H' d = some (.dK kvs) ∧ kvs.length ≤ i ∧ ps.length = i ∧ RowsAt H' ps ∧ ps.map (fun x => x.2) = (W.take i).map rowOf ∧
      readL 1 (fun _ => false) W = readL (i + 1) (fun z => (valV kvs (.inr z)).isSome) (W.drop i)) ⟨_, _, _, _, _, _, [], [], rfl, k03, e3, k3.get nin0 e2R, k3.get nin0 e2, by simp, rfl, (fun _ h => by cases h), by simp, rfl⟩ ?_ ?_ ?_
    · rintro i σ' H' hi ⟨_, _, _, _, _, _, _, _, _, _, el, _⟩
      exact lstL el
    · rintro i v σ' H4 H5 Tp hv ⟨y3, y4, y5, y6, y7, y8, kvs, ps, rfl, k4, e4l, e4R, e4d, hkl, hpl, r4, hrows, hread⟩ nT kT eT
      obtain ⟨l, hl, rfl⟩ : ∃ l, (linesL s)[i]? = some l ∧ v = .str l := by
        rw [List.getElem?_map] at hv
        cases e : (linesL s)[i]? with
        | none => rw [e] at hv; cases hv
        | some l => rw [e] at hv; exact ⟨l, rfl, (Option.some.inj hv).symm⟩
      have hil : i < (linesL s).length := (List.getElem?_eq_some_iff.mp hl).1
      have hlm := List.mem_of_getElem? hl
      have hWi : W[i]? = some (Txt.split l " ") := by rw [hWe, List.getElem?_map, hl]; rfl
      have hdrop : W.drop i = Txt.split l " " :: W.drop (i + 1) := by
        have h1 : i < W.length := by omega
        rw [List.drop_eq_getElem_cons h1]
        congr 1
        rw [List.getElem?_eq_getElem h1] at hWi
        exact Option.some.inj hWi
      obtain ⟨hwl, hwz⟩ := hW _ (List.mem_of_getElem? hWi)
      generalize hws : Txt.split l " " = ws at hWi hdrop hwl hwz
      have k5 := k4.trans kT
      refine Z.gtup (tupT eT) rfl ?_
      walk_at "z"
      have hl7 := hlz l hlm
      refine ⟨l, rfl, by omega, fun H6 wp nw k6 e6 => ?_⟩
      rw [hws] at e6
      have k06 := k5.trans k6
      have e6d := k6.get nin0 (kT.get nin0 e4d)
      have e6R := k6.get nin0 (kT.get nin0 e4R)
      have e6l := k6.get nin0 (kT.get nin0 e4l)
      have r6 := (r4.kp0 kT).kp0 k6
      walk_at "z"
      rw [show (1 + ((i : Nat) : Int)) = ((i + 1 : Nat) : Int) by omega]
      refine ⟨wp, d, ws, i + 1, kvs, rfl, e6, hwl, hwz, e6d, fun H7 v k7 hv => ?_⟩
      have k07 := k06.trans k7
      rw [hdrop, readL_cons] at hread
      walk_at "z"
      cases ho : lfault ws (i + 1) (fun z => (valV kvs (.inr z)).isSome) with
      | some cy =>
        obtain ⟨c, y⟩ := cy
        rw [ho] at hv hread
        obtain ⟨t, rfl, et⟩ := hv
        obtain ⟨c0, c1, hy⟩ := lfault_ok ho hwz
        refine Z.yesN (by simp) ?_
        walk_at "z"
        refine Z.gtup (tupT et) rfl ?_
        walk_at "z"
        refine mkErr ?_ (fun hRS h => ?_)
        · refine ⟨_, rfl, _, rfl, _, rfl, by simp, ⟨i + 1, c.toNat, y, ?_, by omega, by omega, hy⟩, fun d2 hd2 => ?_⟩
          · rw [show ((c.toNat : Nat) : Int) = c by omega]
          · exact hx (i + 1) c y hread H7 d2 k07 hd2
        · obtain ⟨v1, e1, v2, e2, v3, e3, h⟩ := h
          exact ⟨v1, e1, v2, e2, v3, e3, hRS _ _ h⟩
      | none =>
        rw [ho] at hv hread
        have hv' : v = .non := hv
        subst hv'
        obtain ⟨k, g, w, a, rfl, hwf⟩ := lfault_none ho
        obtain ⟨n, m, hwn, hwm⟩ := wfault_none hwf
        obtain ⟨tn, ln, _, _⟩ := within_some hwn cap1
        obtain ⟨tm, lm, _, _⟩ := within_some hwm capm
        have e7 := k7.get nin0 e6
        have e7d := k7.get nin0 e6d
        have e7R := k7.get nin0 e6R
        have e7l := k7.get nin0 e6l
        have r7 := r6.kp0 k7
        refine Z.noN rfl ?_
        walk_at "z"
        have nwd : wp ≠ d := (ne_of_none (kT.get nin0 e4d) nw).symm
        have nwR : wp ≠ R := (ne_of_none (kT.get nin0 e4R) nw).symm
        refine Z.ixL (v := .str k) (lstL e7) rfl ?_
        refine ⟨d, _, rfl, DPut.k (k := .inr k) e7d (Z.szl (m := 100000) (by omega)), ?_⟩
        have k8 : Kp [d] H7 (upd H7 d (.dK (putK kvs (.inr k) (.bl true)))) := Kp.put (by simp)
        have e8d : (upd H7 d (.dK (putK kvs (.inr k) (.bl true)))) d = some (.dK (putK kvs (.inr k) (.bl true))) := upd_same
        have r8 : RowsAt (upd H7 d (.dK (putK kvs (.inr k) (.bl true)))) ps := fun x hx => k8 _ _ (fun z => by
          have e := r7 x hx
          unfold RowAt at e
          rw [List.mem_singleton.mp z, e7d] at e
          cases e) (r7 x hx)
        revert k8 e8d r8
        generalize upd H7 d (.dK (putK kvs (.inr k) (.bl true))) = H8
        intro k8 e8d r8
        have e8R := k8.get (nin1 nRd) e7R
        have e8l := k8.get (nin1 ndl) e7l
        have e8w := k8.get (nin1 nwd) e7
        walk_at "z"
        refine ⟨Z.tyL e8R, ?_⟩
        walk_at "z"
        refine ⟨wp, k, g, w, a, n, m, rfl, e8w, tn, ln, tm, lm, fun H9 t nt k9 e9 => ?_⟩
        have e9R := k9.get nin0 e8R
        have r9 := r8.kp0 k9
        have ntR : t ≠ R := (ne_of_none e8R nt).symm
        walk_at "z"
        refine Z.app e9R (Z.szl (m := 100000) (by rw [refs_len]; omega)) ?_
        have kR : Kp [R] H9 (upd H9 R (.lst (refs ps ++ [.ref t]))) := Kp.put (by simp)
        have k09 : Kp [] H H9 := (k07.then1 k8 nd0).trans k9
        refine ⟨_, _, _, _, _, _, putK kvs (.inr k) (.bl true), ps ++ [(t, ⟨k, g, n, m⟩)], rfl, k09.mut nR rfl, kR.get (nin1 nRl) (k9.get nin0 e8l), by rw [upd_same, refs_snoc], kR.get (nin1 nRd.symm) (k9.get nin0 e8d), ?_, by simp [hpl], ?_, ?_, ?_⟩
        · have := putK_le9 kvs (.inr k) (.bl true)
          omega
        · exact (r9.kp1 kR e9R).snoc (show RowAt _ t _ from kR.get (nin1 ntR) e9)
        · rw [List.map_append, hrows, List.take_add_one, hWi, List.map_append]
          congr 1
          show [_] = [rowOf [k, g, w, a]]
          congr 1
          unfold rowOf
          simp [tn, tm]
        · rw [hread]
          dsimp only
          rw [nxt_put]
    · rintro σ' H4 ⟨y3, y4, y5, y6, y7, y8, kvs, ps, rfl, k4, e4l, e4R, e4d, hkl, hpl, r4, hrows, hread⟩
      rw [List.length_map, ← hlen, List.drop_length] at hread
      rw [List.length_map, ← hlen, List.take_length] at hrows
      walk_at "z"
      exact q hread H4 R ps nR k4 e4R r4 hrows

/-! ### samphire.writer -/
def numS (i : Int) : Str := Str.ofString (toString i)
def lineN (r : Row) : Str := Str.empty ++ r.k ++ " " ++ r.g ++ " " ++ numS r.w ++ " " ++ numS r.m ++ "\n"
structure RowT (r : Row) : Prop where
  kz : r.k.length ≤ 100
  gz : r.g.length ≤ 100
  wz : r.w.natAbs < 2 ^ 30
  mz : r.m.natAbs < 2 ^ 30
  wl : (numS r.w).length ≤ 100
  ml : (numS r.m).length ≤ 100
theorem lineN_len {r : Row} (h : RowT r) : (lineN r).length ≤ 1000 := by
  have z1 : (" " : Str).length = 1 := by decide +kernel
  have z2 : ("\n" : Str).length = 1 := by decide +kernel
  have z0 : Str.empty.length = 0 := rfl
  have := h.kz
  have := h.gz
  have := h.wl
  have := h.ml
  unfold lineN
  rw [app_len, app_len, app_len, app_len, app_len, app_len, app_len, app_len, z0, z1, z2]
  omega
def spWrite (K : PySem.W.Frag) : Sp := fun vs H Q _ => ∃ (p : Addr) (ps : List (Addr × Row)), vs = [.ref p] ∧ H p = some (.lst (refs ps)) ∧ RowsAt H ps ∧ ps.length ≤ 1000 ∧ (∀ x ∈ ps, RowT x.2) ∧ ∀ H', Kp [] H H' → Q (.str (Txt.join "" (ps.map fun x => lineN x.2))) H'
theorem ok_write_items {P : Program} {w : World} {K : PySem.W.Frag} {mg : Str → Option Value} {base : Heap} (T : T P K mg) : FnOk P w K mg base CX0 1 T.a_write_items T.fd_write_items ["rows"] (spWrite K) := by
  refine T.F_write_items.ok sc_write_items (fun vs H Q E h => ?_) (fun cdv A outer s H vs Q E hr h => ?_)
  · obtain ⟨p, ps, rfl, _⟩ := h
    rfl
  · obtain ⟨p, ps, rfl, hp, hps, hl, hT, q⟩ := h
    refine ⟨_, (pss_one (ps_ret (pe_bm PySem.F.plainAttrs_str PySem.F.slot_str_join PySem.F.type_str_join Z.m_join pe_str (pa_cons (pe_lc (own := [("key", 1), ("group", 2), ("weight", 3), ("amount", 4)]) (g := gTup K 4 (gCons (gName 1) (gCons (gName 2) (gCons (gName 3) (gCons (gName 4) gNil))))) rfl sc_write_items.nd (pi_list (pv 0)) (blkOk_by (own := [("key", 1), ("group", 2), ("weight", 3), ("amount", 4)]) (N := N_write_items) (sc := defScope s_write_items) (by decide +kernel)) (fun _ _ _ _ _ => (pg_tup rfl (pgs_cons (pg_name (i := 1) sc_write_items.nd rfl (by first | exact Or.inl rfl | exact Or.inr rfl)) (pgs_cons (pg_name (i := 2) sc_write_items.nd rfl (by first | exact Or.inl rfl | exact Or.inr rfl)) (pgs_cons (pg_name (i := 3) sc_write_items.nd rfl (by first | exact Or.inl rfl | exact Or.inr rfl)) (pgs_cons (pg_name (i := 4) sc_write_items.nd rfl (by first | exact Or.inl rfl | exact Or.inr rfl)) pgs_nil)))))) (fun _ _ _ _ _ => pts_nil) (fun _ _ _ _ _ => (Z.pe_joinedN (.cons (pe_fmt (pv 1)) (.cons pe_str (.cons (pe_fmt (pv 2)) (.cons pe_str (.cons (pe_fmt (pv 3)) (.cons pe_str (.cons (pe_fmt (pv 4)) (.cons pe_str .nil))))))))))) pa_nil)))), ?_⟩
    walk_at "z0"
    walk_at "z"
    refine ⟨tyStr, ?_⟩
    walk_at "z"
    refine Z.lcl (refs ps) (lstL hp) (fun D i H' => Kp [] H H' ∧ H' D = some (.lst (((ps.take i).map fun x => lineN x.2).map V.str))) ?_ ?_ ?_ ?_
    · intro D H1 nD k1 e1
      exact ⟨k1, e1⟩
    · rintro D i H1 nD hi ⟨k1, e1⟩
      exact lstL (k1.get nin0 hp)
    · rintro D i v H1 nD hv ⟨k1, e1⟩
      obtain ⟨x, hx, rfl⟩ := refs_of hv
      have hm := List.mem_of_getElem? hx
      have hi : i < ps.length := (List.getElem?_eq_some_iff.mp hx).1
      have hrow := hps.kp0 k1 x hm
      have ht := hT x hm
      dsimp only [wipe, List.set]
      walk_at "z"
      refine Z.gtup (tupT hrow) rfl ?_
      dsimp only [Row.vs]
      walk_at "z"
      refine ⟨rfl, ?_⟩
      walk_at "z"
      obtain ⟨a1, a2, a3, a4, a5, a6⟩ := ht
      have z1 : (" " : Str).length = 1 := by decide +kernel
      have z2 : ("\n" : Str).length = 1 := by decide +kernel
      have z0 : Str.empty.length = 0 := rfl
      have zl : 100000 ≤ sizeLine := by decide
      have l3 : x.2.w.natAbs.log2 < 1920 := Nat.lt_of_lt_of_le (PySem.Flt.log2_lt_of (k := 30) (by decide) a3) (by decide)
      have l4 : x.2.m.natAbs.log2 < 1920 := Nat.lt_of_lt_of_le (PySem.Flt.log2_lt_of (k := 30) (by decide) a4) (by decide)
      have b5 : (Str.ofString (toString x.2.w)).length ≤ 100 := a5
      have b6 : (Str.ofString (toString x.2.m)).length ≤ 100 := a6
      refine ⟨_, rfl, .inl ⟨_, rfl, by omega, _, rfl, ?_, _, rfl, ?_, _, rfl, .inl ⟨_, rfl, by omega, _, rfl, ?_, _, rfl, ?_, _, rfl, .inr ⟨_, rfl, l3, _, rfl, ?_, _, rfl, ?_, _, rfl, .inr ⟨_, rfl, l4, _, rfl, ?_, _, rfl, ?_, ?_⟩⟩⟩⟩⟩
      · rw [app_len, z0]; omega
      · rw [app_len, app_len, z0, z1]; omega
      · rw [app_len, app_len, app_len, z0, z1]; omega
      · rw [app_len, app_len, app_len, app_len, z0, z1]; omega
      · rw [app_len, app_len, app_len, app_len, app_len, z0, z1]; omega
      · rw [app_len, app_len, app_len, app_len, app_len, app_len, z0, z1]; omega
      · rw [app_len, app_len, app_len, app_len, app_len, app_len, app_len, z0, z1]; omega
      · rw [app_len, app_len, app_len, app_len, app_len, app_len, app_len, app_len, z0, z1, z2]; omega
      refine ⟨_, e1, Z.szl (m := 1000) (by rw [List.length_map, List.length_map, List.length_take]; omega), k1.mut nD rfl, ?_⟩
      rw [upd_same, List.take_add_one, hx, List.map_append, List.map_append]; rfl
    · rintro D H1 nD ⟨k1, e1⟩
      rw [refs_len, List.take_length] at e1
      walk_at "z"
      refine Z.join (lstL e1) ?_ (q H1 k1)
      have hs := Z.lens_le (n := 1000) (ys := ps.map fun x => lineN x.2) (fun y hy => by
        obtain ⟨x, hx, rfl⟩ := List.mem_map.mp hy
        exact lineN_len (hT x hx))
      rw [List.length_map] at hs ⊢
      rw [show ("" : Str).length = 0 by decide +kernel]
      omega

/-! ### texts of items -/
theorem emp_app (s : Str) : Str.empty ++ s = s := by
  refine TL.ext_tl ?_
  rw [TL.tl_append]
  rfl
theorem app_assoc (a b c : Str) : a ++ b ++ c = a ++ (b ++ c) := by
  refine TL.ext_tl ?_
  rw [TL.tl_append, TL.tl_append, TL.tl_append, TL.tl_append, List.append_assoc]
def lineL (r : Row) : Str := r.k ++ " " ++ r.g ++ " " ++ numS r.w ++ " " ++ numS r.m
theorem lineN_eq (r : Row) : lineN r = lineL r ++ "\n" := by
  unfold lineN lineL
  rw [emp_app]
def parts (r : Row) : List Str := [r.k, r.g, numS r.w, numS r.m]
theorem lineL_join (r : Row) : lineL r = Txt.join " " (parts r) := by
  rw [TL.join_eq]
  refine TL.ext_tl ?_
  rw [TL.tl_join]
  unfold lineL parts
  simp only [TL.tl_append, List.map, TL.joinL, List.append_assoc]
theorem lineL_split {r : Row} (h : ∀ p ∈ parts r, 32 ∉ TL.tl p) : Txt.split (lineL r) " " = parts r := by
  rw [lineL_join]
  exact TL.split_join (s := 32) (S := []) (by decide +kernel) (by decide +kernel) (by simp [parts]) h
theorem split_text {ls : List Str} (hne : ls ≠ []) (h : ∀ l ∈ ls, 10 ∉ TL.tl l) : Txt.split (Txt.join "\n" ls) "\n" = ls :=
  TL.split_join (s := 10) (S := []) (by decide +kernel) (by decide +kernel) hne h
theorem linesL_text {ls : List Str} (hne : ls ≠ []) (h : ∀ l ∈ ls, 10 ∉ TL.tl l) (he : ∀ l ∈ ls, l ≠ "") : linesL (Txt.join "\n" ls) = ls := by
  unfold linesL
  rw [split_text hne h]
  obtain ⟨r, x, hx⟩ := last_of hne
  rw [if_neg]
  rw [hx, List.getLast?_concat]
  intro z
  exact he x (by rw [hx]; simp) (Option.some.inj z)
theorem joinE : ∀ ls : List Str, TL.tl (Txt.join "" ls) = (ls.map TL.tl).flatten := by
  intro ls
  rw [TL.join_eq, TL.tl_join]
  have e : TL.tl ("" : Str) = [] := by decide +kernel
  rw [e]
  induction ls with
  | nil => rfl
  | cons a r ih =>
    cases r with
    | nil => simp [TL.joinL]
    | cons b r =>
      show TL.tl a ++ ([] ++ TL.joinL [] ((b :: r).map TL.tl)) = _
      rw [ih, List.nil_append]
      rfl
theorem joinN : ∀ ls : List Str, TL.tl (Txt.join "\n" (ls ++ [("" : Str)])) = ((ls.map fun l => l ++ ("\n" : Str)).map TL.tl).flatten := by
  intro ls
  rw [TL.join_eq, TL.tl_join]
  have e : TL.tl ("\n" : Str) = [10] := by decide +kernel
  have e0 : TL.tl ("" : Str) = [] := by decide +kernel
  rw [e]
  induction ls with
  | nil => exact e0
  | cons a r ih =>
    have h2 : ((a :: r) ++ [("" : Str)]).map TL.tl = TL.tl a :: (r ++ [("" : Str)]).map TL.tl := rfl
    rw [h2]
    have h3 : ∀ (p : List Nat) (q : List (List Nat)), q ≠ [] → TL.joinL [10] (p :: q) = p ++ ([10] ++ TL.joinL [10] q) := fun p q hq => by
      cases q with
      | nil => exact absurd rfl hq
      | cons x y => rfl
    rw [h3 _ _ (by simp), ih, List.map_cons, List.map_cons, List.flatten_cons, TL.tl_append, e, List.append_assoc]
theorem text2_eq (ls : List Str) : Txt.join "" (ls.map fun l => l ++ ("\n" : Str)) = Txt.join "\n" (ls ++ [("" : Str)]) := TL.ext_tl (by rw [joinE, joinN])
theorem linesL_text2 {ls : List Str} (h : ∀ l ∈ ls, 10 ∉ TL.tl l) : linesL (Txt.join "" (ls.map fun l => l ++ ("\n" : Str))) = ls := by
  rw [text2_eq]
  unfold linesL
  rw [split_text (by simp) (fun l hl => by
    rcases List.mem_append.mp hl with z | z
    · exact h l z
    · rw [List.mem_singleton.mp z]; decide +kernel)]
  rw [List.getLast?_concat, if_pos rfl, List.dropLast_concat]
/-! ### the items of a law are read back -/
def chkW (i : Int) : Bool := decide (withinO (numS i) 1 1000 = some i) && decide ((numS i).length ≤ 10)
def chkM (i : Int) : Bool := decide (withinO (numS i) (-1000) 1000 = some i) && decide ((numS i).length ≤ 10)
theorem chkW_all : ∀ i : Fin 1000, chkW ((i.val : Int) + 1) = true := by decide +kernel
theorem chkM_all : ∀ i : Fin 2001, chkM ((i.val : Int) - 1000) = true := by decide +kernel
theorem wOk {w : Int} (h0 : 1 ≤ w) (h1 : w ≤ 1000) : withinO (numS w) 1 1000 = some w ∧ (numS w).length ≤ 10 := by
  have h := chkW_all ⟨(w - 1).toNat, by omega⟩
  rw [show (((w - 1).toNat : Nat) : Int) + 1 = w by omega] at h
  unfold chkW at h
  rw [Bool.and_eq_true, decide_eq_true_eq, decide_eq_true_eq] at h
  exact h
theorem mOk {w : Int} (h0 : -1000 ≤ w) (h1 : w ≤ 1000) : withinO (numS w) (-1000) 1000 = some w ∧ (numS w).length ≤ 10 := by
  have h := chkM_all ⟨(w + 1000).toNat, by omega⟩
  rw [show (((w + 1000).toNat : Nat) : Int) - 1000 = w by omega] at h
  unfold chkM at h
  rw [Bool.and_eq_true, decide_eq_true_eq, decide_eq_true_eq] at h
  exact h
theorem names_fine : ∀ s ∈ lawNames, fineB s = true ∧ 32 ∉ TL.tl s ∧ 10 ∉ TL.tl s ∧ s.length ≤ 100 := by decide +kernel
theorem groups_fine : ∀ s ∈ lawGroups, fineB s = true ∧ 32 ∉ TL.tl s ∧ 10 ∉ TL.tl s ∧ s.length ≤ 100 := by decide +kernel
theorem num_free (c : Nat) (h : c < 45) (i : Int) : c ∉ TL.tl (numS i) := by
  intro hm
  exact PyProof.Rows.int_text_free' c ⟨by omega, by omega⟩ i hm
theorem RowOk.parts_free {r : Row} (h : RowOk r) {c : Nat} (hc : c = 32 ∨ c = 10) : ∀ p ∈ parts r, c ∉ TL.tl p := by
  intro p hp
  unfold parts at hp
  simp only [List.mem_cons, List.not_mem_nil, or_false] at hp
  have hk := names_fine _ h.k
  have hg := groups_fine _ h.g
  rcases hp with rfl | rfl | rfl | rfl
  · rcases hc with rfl | rfl
    · exact hk.2.1
    · exact hk.2.2.1
  · rcases hc with rfl | rfl
    · exact hg.2.1
    · exact hg.2.2.1
  · exact num_free c (by omega) _
  · exact num_free c (by omega) _
theorem RowOk.split {r : Row} (h : RowOk r) : Txt.split (lineL r) " " = parts r := lineL_split (h.parts_free (.inl rfl))
theorem RowOk.t {r : Row} (h : RowOk r) : RowT r := by
  have h0 := h.w0
  have h1 := h.w1
  have h2 := h.m0
  have h3 := h.m1
  exact ⟨(names_fine _ h.k).2.2.2, (groups_fine _ h.g).2.2.2, Nat.lt_of_le_of_lt (by omega : r.w.natAbs ≤ 1000) (by decide), Nat.lt_of_le_of_lt (by omega : r.m.natAbs ≤ 1000) (by decide), Nat.le_trans (wOk h0 h1).2 (by decide), Nat.le_trans (mOk h2 h3).2 (by decide)⟩
theorem RowOk.wf {r : Row} (h : RowOk r) : wfault r.k r.g (numS r.w) (numS r.m) = none := by
  unfold wfault
  rw [if_neg (by rw [(names_fine _ h.k).1]; decide), if_neg (by rw [(groups_fine _ h.g).1]; decide), (wOk h.w0 h.w1).1, (mOk h.m0 h.m1).1, if_neg (by simp), if_neg (by simp)]
theorem RowOk.lf {r : Row} (h : RowOk r) {num : Nat} {tk : Str → Bool} (h1 : tk r.k = false) (h2 : num ≤ 1000) : lfault (parts r) num tk = none := by
  unfold parts lfault
  dsimp only
  rw [h.wf]
  dsimp only
  rw [if_neg (by rw [h1]; decide), if_neg (by omega)]
theorem RowOk.row {r : Row} (h : RowOk r) : rowOf (parts r) = r := by
  have h1 := (within_some (wOk h.w0 h.w1).1 cap1).1
  have h2 := (within_some (mOk h.m0 h.m1).1 capm).1
  unfold rowOf parts
  simp [h1, h2]
theorem nxt_false {tk : Str → Bool} {ws : List Str} {s : Str} (h : tk s = false) (h2 : ¬ s = ws.headD "") : nxtTk tk ws s = false := by
  unfold nxtTk
  rw [if_neg h2]
  exact h
/-- items and what follows them -/
theorem readL_items : ∀ {rs : List Row} {num : Nat} {tk : Str → Bool} {rest : List (List Str)}, (∀ r ∈ rs, RowOk r) → (rs.map fun r => r.k).Nodup → (∀ r ∈ rs, tk r.k = false) → num + rs.length ≤ 1001 →
    ∃ tk', (∀ s, tk' s = (tk s || decide (s ∈ rs.map fun r => r.k))) ∧ readL num tk (rs.map parts ++ rest) = readL (num + rs.length) tk' rest
  | [], num, tk, rest, _, _, _, _ => ⟨tk, fun s => by simp, rfl⟩
  | r :: rs, num, tk, rest, h, hn, ht, hl => by
    have hr := h r (by simp)
    rw [List.length_cons] at hl
    rw [List.map_cons, List.nodup_cons] at hn
    have e : lfault (parts r) num tk = none := hr.lf (ht r (by simp)) (by omega)
    obtain ⟨tk', h1, h2⟩ := readL_items (rs := rs) (num := num + 1) (tk := nxtTk tk (parts r)) (rest := rest) (fun z hz => h z (by simp [hz])) hn.2 (fun z hz => nxt_false (ht z (by simp [hz])) (fun e => hn.1 (by
      have e' : z.k = r.k := e
      rw [← e']
      exact List.mem_map.mpr ⟨z, hz, rfl⟩))) (by omega)
    refine ⟨tk', fun s => ?_, ?_⟩
    · rw [h1]
      unfold nxtTk
      by_cases hs : s = r.k
      · rw [if_pos (show s = (parts r).headD "" from hs)]
        simp [hs]
      · rw [if_neg (show ¬ s = (parts r).headD "" from hs)]
        simp [hs]
    · rw [List.map_cons, List.cons_append, readL_cons, e]
      dsimp only
      rw [h2, List.length_cons]
      congr 1
      omega

def spErrL (K : PySem.W.Frag) : Sp := fun vs H Q _ => ∃ (s : Str) (W : List (List Str)), vs = [.str s] ∧ s.length ≤ 100000 ∧ Txt.split s "\n" ≠ [] ∧ W = (linesL s).map (fun l => Txt.split l " ") ∧ (linesL s).length ≤ 100000 ∧ (∀ l ∈ linesL s, l.length ≤ 100000) ∧ (∀ ws ∈ W, ws.length ≤ 100000 ∧ ∀ w ∈ ws, w.cps.size ≤ 100000) ∧
  ∀ H' p, H p = none → Kp [] H H' → H' p = some (.lst (match readL 1 (fun _ => false) W with | some (l, c, y) => [.int (l : Int), .int c, .str y] | none => [])) → Q (.ref p) H'
theorem ok__law_error {P : Program} {w : World} {K : PySem.W.Frag} {mg : Str → Option Value} {base : Heap} (T : T P K mg) : FnOk P w K mg base CX0 7 T.a__law_error T.fd__law_error ["text"] (spErrL K) := by
  refine T.F__law_error.ok sc__law_error (fun vs H Q E h => ?_) (fun cdv A outer s H vs Q E hr h => ?_)
  · obtain ⟨s, W, rfl, _⟩ := h
    rfl
  · obtain ⟨s, W, rfl, hz, hne, hWe, hll, hlz, hW, q⟩ := h
    refine ⟨_, (pss_cons (ps_try_as (i := 1) rfl rfl sc__law_error.nd rfl rfl ⟨by rfl, by decide, .inl T.x_TextError.g⟩ takes0 (fun W pn xe tk po => (pss_one (ps_expr (pe_callS (ok_read_items T) (hr.mono (by decide)) (by rfl) T.g_read_items T.F_read_items.kp T.b_read_items (fun σ => passAt tk σ) (pa_cons (pv 0) pa_nil))))) (fun a oe cls d pn hz hf => (pss_one (ps_ret (pe_lst (pa_cons (pe_xf T.x_TextError.xf T.nf_TextError_line hz hf (pv 1)) (pa_cons (pe_xf T.x_TextError.xf T.nf_TextError_column hz hf (pv 1)) (pa_cons (pe_xf T.x_TextError.xf T.nf_TextError_reason hz hf (pv 1)) pa_nil))))))))
      (pss_one (ps_ret (pe_lst pa_nil)))), ?_⟩
    walk_at "z0"
    walk_at "z"
    refine ⟨_, rfl, s, W, rfl, hz, hne, hWe, hll, hlz, hW, ?_, ?_⟩
    · intro l c y hr H1 d k1 hd
      rw [hr] at q
      refine ⟨true, T.x_TextError.te, fun _ a ha => ?_, fun z => by cases z⟩
      walk_at "z"
      refine ⟨_, rfl, rfl, rfl, d, _, .int (l : Int), rfl, upd_same, rfl, ?_⟩
      walk_at "z"
      refine ⟨_, rfl, rfl, rfl, d, _, .int c, rfl, upd_same, rfl, ?_⟩
      walk_at "z"
      refine ⟨_, rfl, rfl, rfl, d, _, .str y, rfl, upd_same, rfl, ?_⟩
      walk_at "z"
      refine Z.lstK (fun p H2 np k2 e2 => ?_)
      have k12 : Kp [] H H2 := (k1.trans (Kp.new hd)).trans k2
      exact q H2 p ((k1.trans (Kp.new hd)).none nin0 np) k12 e2
    · intro hr H1 p ps np k1 e1 r1 hrows
      rw [hr] at q
      walk_at "z"
      refine Z.lstK (fun p2 H2 np2 k2 e2 => ?_)
      exact q H2 p2 (k1.none nin0 np2) (k1.trans k2) e2

/-! ### wrong lines -/
abbrev WR := Str × Int × Str
def WR.vs (w : WR) : List V := [.str w.1, .int w.2.1, .str w.2.2]
def WAt (H : Hp) (ps : List (Addr × WR)) : Prop := ∀ x ∈ ps, H x.1 = some (.lst x.2.vs)
theorem WAt.kp0 {H H' : Hp} {ps : List (Addr × WR)} (r : WAt H ps) (k : Kp [] H H') : WAt H' ps := fun x hx => k.get nin0 (r x hx)
theorem WAt.snoc {H : Hp} {ps : List (Addr × WR)} {x : Addr × WR} (r : WAt H ps) (h : H x.1 = some (.lst x.2.vs)) : WAt H (ps ++ [x]) := mem_append_one r h
def wrongs : List WR := [(("" : Str), (1 : Int), ("count" : Str)), (("new red 3" : Str), (1 : Int), ("count" : Str)), (("new red 3 4 5" : Str), (1 : Int), ("count" : Str)), (("new red 3 4 " : Str), (1 : Int), ("count" : Str)), (("new  3 4" : Str), (5 : Int), ("group" : Str)), ((" red 3 4" : Str), (1 : Int), ("key" : Str)), (("New red 3 4" : Str), (1 : Int), ("key" : Str)), (("abcdefghijklm red 0 4" : Str), (1 : Int), ("key" : Str)), (("new Red 3 4" : Str), (5 : Int), ("group" : Str)), (("new red 0 4" : Str), (9 : Int), ("weight" : Str)), (("new red 1001 4" : Str), (9 : Int), ("weight" : Str)), (("new red -1 4" : Str), (9 : Int), ("weight" : Str)), (("new red 03 4" : Str), (9 : Int), ("weight" : Str)), (("new red +3 4" : Str), (9 : Int), ("weight" : Str)), (("new red x 9999" : Str), (9 : Int), ("weight" : Str)), (("new red 3 1001" : Str), (11 : Int), ("amount" : Str)), (("new red 3 -1001" : Str), (11 : Int), ("amount" : Str)), (("new red 3 -0" : Str), (11 : Int), ("amount" : Str)), (("new red 3 4.0" : Str), (11 : Int), ("amount" : Str)), ((("new red 3 " : Str) ++ RL.repS "9" 5000), (11 : Int), ("amount" : Str)), ((("new red " : Str) ++ RL.repS "1" 5000 ++ " 4"), (9 : Int), ("weight" : Str)), (("new red 12 -" : Str), (12 : Int), ("amount" : Str))]
theorem wrong_pick {H : Hp} {ps : List (Addr × WR)} (w : WAt H ps) {j : Nat} (hj : j < ps.length) : ∃ x ∈ ps, H x.1 = some (.lst x.2.vs) ∧ (ps.map fun x => V.ref x.1)[j]? = some (.ref x.1) :=
  ⟨ps[j], List.getElem_mem hj, w _ (List.getElem_mem hj), by rw [List.getElem?_map, List.getElem?_eq_getElem hj]; rfl⟩
def spWrong (K : PySem.W.Frag) : Sp := fun vs H Q _ => ∃ a : Addr, vs = [.ref a] ∧ DrawsAt H a ∧ ∀ H' p w, w ∈ wrongs → Kp [a] H H' → DrawsAt H' a → H' p = some (.lst w.vs) → Q (.ref p) H'
theorem ok__law_wrong {P : Program} {w : World} {K : PySem.W.Frag} {mg : Str → Option Value} {base : Heap} (T : T P K mg) : FnOk P w K mg base CX0 2 T.a__law_wrong T.fd__law_wrong ["draws"] (spWrong K) := by
  refine T.F__law_wrong.ok sc__law_wrong (fun vs H Q E h => ?_) (fun cdv A outer s H vs Q E hr h => ?_)
  · obtain ⟨a, rfl, _⟩ := h
    rfl
  · obtain ⟨a, rfl, hd, q⟩ := h
    refine ⟨_, (pss_cons (ps_set (i := 1) sc__law_wrong.nd rfl (by first | exact Or.inl rfl | exact Or.inr rfl) (pe_lst (pa_cons (pe_lst (pa_cons pe_str (pa_cons pe_int (pa_cons pe_str pa_nil)))) (pa_cons (pe_lst (pa_cons pe_str (pa_cons pe_int (pa_cons pe_str pa_nil)))) (pa_cons (pe_lst (pa_cons pe_str (pa_cons pe_int (pa_cons pe_str pa_nil)))) (pa_cons (pe_lst (pa_cons pe_str (pa_cons pe_int (pa_cons pe_str pa_nil)))) (pa_cons (pe_lst (pa_cons pe_str (pa_cons pe_int (pa_cons pe_str pa_nil)))) pa_nil)))))))
      (pss_cons (ps_set (i := 1) sc__law_wrong.nd rfl (by first | exact Or.inl rfl | exact Or.inr rfl) (pe_op op_cat (pv 1) (pe_lst (pa_cons (pe_lst (pa_cons pe_str (pa_cons pe_int (pa_cons pe_str pa_nil)))) (pa_cons (pe_lst (pa_cons pe_str (pa_cons pe_int (pa_cons pe_str pa_nil)))) (pa_cons (pe_lst (pa_cons pe_str (pa_cons pe_int (pa_cons pe_str pa_nil)))) (pa_cons (pe_lst (pa_cons pe_str (pa_cons pe_int (pa_cons pe_str pa_nil)))) (pa_cons (pe_lst (pa_cons pe_str (pa_cons pe_int (pa_cons pe_str pa_nil)))) pa_nil))))))))
      (pss_cons (ps_set (i := 1) sc__law_wrong.nd rfl (by first | exact Or.inl rfl | exact Or.inr rfl) (pe_op op_cat (pv 1) (pe_lst (pa_cons (pe_lst (pa_cons pe_str (pa_cons pe_int (pa_cons pe_str pa_nil)))) (pa_cons (pe_lst (pa_cons pe_str (pa_cons pe_int (pa_cons pe_str pa_nil)))) (pa_cons (pe_lst (pa_cons pe_str (pa_cons pe_int (pa_cons pe_str pa_nil)))) (pa_cons (pe_lst (pa_cons pe_str (pa_cons pe_int (pa_cons pe_str pa_nil)))) (pa_cons (pe_lst (pa_cons pe_str (pa_cons pe_int (pa_cons pe_str pa_nil)))) pa_nil))))))))
      (pss_cons (ps_set (i := 1) sc__law_wrong.nd rfl (by first | exact Or.inl rfl | exact Or.inr rfl) (pe_op op_cat (pv 1) (pe_lst (pa_cons (pe_lst (pa_cons pe_str (pa_cons pe_int (pa_cons pe_str pa_nil)))) (pa_cons (pe_lst (pa_cons pe_str (pa_cons pe_int (pa_cons pe_str pa_nil)))) (pa_cons (pe_lst (pa_cons pe_str (pa_cons pe_int (pa_cons pe_str pa_nil)))) (pa_cons (pe_lst (pa_cons pe_str (pa_cons pe_int (pa_cons pe_str pa_nil)))) (pa_cons (pe_lst (pa_cons (pe_op o_addS pe_str (pe_op RL.op_mulS pe_str pe_int)) (pa_cons pe_int (pa_cons pe_str pa_nil)))) pa_nil))))))))
      (pss_cons (ps_set (i := 1) sc__law_wrong.nd rfl (by first | exact Or.inl rfl | exact Or.inr rfl) (pe_op op_cat (pv 1) (pe_lst (pa_cons (pe_lst (pa_cons (pe_op o_addS (pe_op o_addS pe_str (pe_op RL.op_mulS pe_str pe_int)) pe_str) (pa_cons pe_int (pa_cons pe_str pa_nil)))) (pa_cons (pe_lst (pa_cons pe_str (pa_cons pe_int (pa_cons pe_str pa_nil)))) pa_nil)))))
      (pss_one (ps_ret (pe_ix ix_list (pv 1) (pe_call (ok__law_take T) (hr.mono (by decide)) (by rfl) T.g__law_take T.F__law_take.kp T.b__law_take .nil pass0 (pa_cons (pv 0) (pa_cons (pe_callB c_len (by rfl) T.z_len (by decide +kernel) (pa_cons (pv 1) pa_nil)) pa_nil))) (fun _ _ => rfl))))))))), ?_⟩
    walk_at "z0"
    have w0 : WAt H [] := fun x hx => by cases hx
    have k0 : Kp [] H H := Kp.refl _
    walk_at "z"
    refine Z.lstK (fun b0 H1 nb0 kk1 e1 => ?_)
    have w1 := (w0.kp0 kk1).snoc (x := (b0, (("" : Str), (1 : Int), ("count" : Str)))) e1
    have k1 := k0.trans kk1
    walk_at "z"
    refine Z.lstK (fun b1 H2 nb1 kk2 e2 => ?_)
    have w2 := (w1.kp0 kk2).snoc (x := (b1, (("new red 3" : Str), (1 : Int), ("count" : Str)))) e2
    have k2 := k1.trans kk2
    walk_at "z"
    refine Z.lstK (fun b2 H3 nb2 kk3 e3 => ?_)
    have w3 := (w2.kp0 kk3).snoc (x := (b2, (("new red 3 4 5" : Str), (1 : Int), ("count" : Str)))) e3
    have k3 := k2.trans kk3
    walk_at "z"
    refine Z.lstK (fun b3 H4 nb3 kk4 e4 => ?_)
    have w4 := (w3.kp0 kk4).snoc (x := (b3, (("new red 3 4 " : Str), (1 : Int), ("count" : Str)))) e4
    have k4 := k3.trans kk4
    walk_at "z"
    refine Z.lstK (fun b4 H5 nb4 kk5 e5 => ?_)
    have w5 := (w4.kp0 kk5).snoc (x := (b4, (("new  3 4" : Str), (5 : Int), ("group" : Str)))) e5
    have k5 := k4.trans kk5
    walk_at "z"
    refine Z.lstK (fun g0 H6 ng0 kk6 e6 => ?_)
    have w6 := w5.kp0 kk6
    have k6 := k5.trans kk6
    walk_at "z"
    refine Z.lstK (fun b5 H7 nb5 kk7 e7 => ?_)
    have w7 := (w6.kp0 kk7).snoc (x := (b5, ((" red 3 4" : Str), (1 : Int), ("key" : Str)))) e7
    have k7 := k6.trans kk7
    have a7 := kk7.get nin0 e6
    walk_at "z"
    refine Z.lstK (fun b6 H8 nb6 kk8 e8 => ?_)
    have w8 := (w7.kp0 kk8).snoc (x := (b6, (("New red 3 4" : Str), (1 : Int), ("key" : Str)))) e8
    have k8 := k7.trans kk8
    have a8 := kk8.get nin0 a7
    walk_at "z"
    refine Z.lstK (fun b7 H9 nb7 kk9 e9 => ?_)
    have w9 := (w8.kp0 kk9).snoc (x := (b7, (("abcdefghijklm red 0 4" : Str), (1 : Int), ("key" : Str)))) e9
    have k9 := k8.trans kk9
    have a9 := kk9.get nin0 a8
    walk_at "z"
    refine Z.lstK (fun b8 H10 nb8 kk10 e10 => ?_)
    have w10 := (w9.kp0 kk10).snoc (x := (b8, (("new Red 3 4" : Str), (5 : Int), ("group" : Str)))) e10
    have k10 := k9.trans kk10
    have a10 := kk10.get nin0 a9
    walk_at "z"
    refine Z.lstK (fun b9 H11 nb9 kk11 e11 => ?_)
    have w11 := (w10.kp0 kk11).snoc (x := (b9, (("new red 0 4" : Str), (9 : Int), ("weight" : Str)))) e11
    have k11 := k10.trans kk11
    have a11 := kk11.get nin0 a10
    walk_at "z"
    refine Z.lstK (fun g1 H12 ng1 kk12 e12 => ?_)
    have w12 := w11.kp0 kk12
    have k12 := k11.trans kk12
    have a12 := kk12.get nin0 a11
    walk_at "z"
    refine Z.cat a12 e12 (by simp) (fun p13 H13 np13 kk13 e13 => ?_)
    have w13 := w12.kp0 kk13
    have k13 := k12.trans kk13
    walk_at "z"
    refine Z.lstK (fun b10 H14 nb10 kk14 e14 => ?_)
    have w14 := (w13.kp0 kk14).snoc (x := (b10, (("new red 1001 4" : Str), (9 : Int), ("weight" : Str)))) e14
    have k14 := k13.trans kk14
    have a14 := kk14.get nin0 e13
    walk_at "z"
    refine Z.lstK (fun b11 H15 nb11 kk15 e15 => ?_)
    have w15 := (w14.kp0 kk15).snoc (x := (b11, (("new red -1 4" : Str), (9 : Int), ("weight" : Str)))) e15
    have k15 := k14.trans kk15
    have a15 := kk15.get nin0 a14
    walk_at "z"
    refine Z.lstK (fun b12 H16 nb12 kk16 e16 => ?_)
    have w16 := (w15.kp0 kk16).snoc (x := (b12, (("new red 03 4" : Str), (9 : Int), ("weight" : Str)))) e16
    have k16 := k15.trans kk16
    have a16 := kk16.get nin0 a15
    walk_at "z"
    refine Z.lstK (fun b13 H17 nb13 kk17 e17 => ?_)
    have w17 := (w16.kp0 kk17).snoc (x := (b13, (("new red +3 4" : Str), (9 : Int), ("weight" : Str)))) e17
    have k17 := k16.trans kk17
    have a17 := kk17.get nin0 a16
    walk_at "z"
    refine Z.lstK (fun b14 H18 nb14 kk18 e18 => ?_)
    have w18 := (w17.kp0 kk18).snoc (x := (b14, (("new red x 9999" : Str), (9 : Int), ("weight" : Str)))) e18
    have k18 := k17.trans kk18
    have a18 := kk18.get nin0 a17
    walk_at "z"
    refine Z.lstK (fun g2 H19 ng2 kk19 e19 => ?_)
    have w19 := w18.kp0 kk19
    have k19 := k18.trans kk19
    have a19 := kk19.get nin0 a18
    walk_at "z"
    refine Z.cat a19 e19 (by simp) (fun p20 H20 np20 kk20 e20 => ?_)
    have w20 := w19.kp0 kk20
    have k20 := k19.trans kk20
    walk_at "z"
    refine Z.lstK (fun b15 H21 nb15 kk21 e21 => ?_)
    have w21 := (w20.kp0 kk21).snoc (x := (b15, (("new red 3 1001" : Str), (11 : Int), ("amount" : Str)))) e21
    have k21 := k20.trans kk21
    have a21 := kk21.get nin0 e20
    walk_at "z"
    refine Z.lstK (fun b16 H22 nb16 kk22 e22 => ?_)
    have w22 := (w21.kp0 kk22).snoc (x := (b16, (("new red 3 -1001" : Str), (11 : Int), ("amount" : Str)))) e22
    have k22 := k21.trans kk22
    have a22 := kk22.get nin0 a21
    walk_at "z"
    refine Z.lstK (fun b17 H23 nb17 kk23 e23 => ?_)
    have w23 := (w22.kp0 kk23).snoc (x := (b17, (("new red 3 -0" : Str), (11 : Int), ("amount" : Str)))) e23
    have k23 := k22.trans kk23
    have a23 := kk23.get nin0 a22
    walk_at "z"
    refine Z.lstK (fun b18 H24 nb18 kk24 e24 => ?_)
    have w24 := (w23.kp0 kk24).snoc (x := (b18, (("new red 3 4.0" : Str), (11 : Int), ("amount" : Str)))) e24
    have k24 := k23.trans kk24
    have a24 := kk24.get nin0 a23
    walk_at "z"
    refine Z.mulS (k := 5000) (by decide) (by decide) (by decide +kernel) (by decide +kernel) ?_
    walk_at "z"
    refine Z.addS (by rw [RL.repS_len]; decide +kernel) ?_
    walk_at "z"
    refine Z.lstK (fun b19 H25 nb19 kk25 e25 => ?_)
    have w25 := (w24.kp0 kk25).snoc (x := (b19, ((("new red 3 " : Str) ++ RL.repS "9" 5000), (11 : Int), ("amount" : Str)))) e25
    have k25 := k24.trans kk25
    have a25 := kk25.get nin0 a24
    walk_at "z"
    refine Z.lstK (fun g3 H26 ng3 kk26 e26 => ?_)
    have w26 := w25.kp0 kk26
    have k26 := k25.trans kk26
    have a26 := kk26.get nin0 a25
    walk_at "z"
    refine Z.cat a26 e26 (by simp) (fun p27 H27 np27 kk27 e27 => ?_)
    have w27 := w26.kp0 kk27
    have k27 := k26.trans kk27
    walk_at "z"
    refine Z.mulS (k := 5000) (by decide) (by decide) (by decide +kernel) (by decide +kernel) ?_
    walk_at "z"
    refine Z.addS (by rw [RL.repS_len]; decide +kernel) ?_
    walk_at "z"
    refine Z.addS (by rw [app_len, RL.repS_len]; decide +kernel) ?_
    walk_at "z"
    refine Z.lstK (fun b20 H28 nb20 kk28 e28 => ?_)
    have w28 := (w27.kp0 kk28).snoc (x := (b20, ((("new red " : Str) ++ RL.repS "1" 5000 ++ " 4"), (9 : Int), ("weight" : Str)))) e28
    have k28 := k27.trans kk28
    have a28 := kk28.get nin0 e27
    walk_at "z"
    refine Z.lstK (fun b21 H29 nb21 kk29 e29 => ?_)
    have w29 := (w28.kp0 kk29).snoc (x := (b21, (("new red 12 -" : Str), (12 : Int), ("amount" : Str)))) e29
    have k29 := k28.trans kk29
    have a29 := kk29.get nin0 a28
    walk_at "z"
    refine Z.lstK (fun g4 H30 ng4 kk30 e30 => ?_)
    have w30 := w29.kp0 kk30
    have k30 := k29.trans kk30
    have a30 := kk30.get nin0 a29
    walk_at "z"
    refine Z.cat a30 e30 (by simp) (fun p31 H31 np31 kk31 e31 => ?_)
    have w31 := w30.kp0 kk31
    have k31 := k30.trans kk31
    walk_at "z"
    have d31 := hd.kp0 k31
    refine Z.lenL (lstL e31) ?_
    walk_at "z"
    refine ⟨a, _, rfl, d31, by show (1 : Int) ≤ 22; decide, by show (22 : Int) < 18446744073709551616; decide, fun H32 v hv0 hv1 k32 d32 => ?_⟩
    have hv2 : v < 22 := hv1
    obtain ⟨j, rfl⟩ : ∃ j : Nat, v = (j : Int) := ⟨v.toNat, by omega⟩
    obtain ⟨x, hx, hxa, hxj⟩ := wrong_pick w31 (j := j) (by simp only [List.length_append, List.length_cons, List.length_nil]; omega)
    have npa : p31 ≠ a := fun z => by
      obtain ⟨ns, hns⟩ := d31
      rw [← z, e31] at hns
      have h0 := congrArg (fun l : List V => l[0]?) (HO.lst.inj (Option.some.inj hns))
      cases ns with
      | nil => cases h0
      | cons n r => cases h0
    have nxa : x.1 ≠ a := fun z => by
      obtain ⟨ns, hns⟩ := d31
      rw [← z, hxa] at hns
      have h0 := congrArg (fun l : List V => l[0]?) (HO.lst.inj (Option.some.inj hns))
      cases ns with
      | nil => cases h0
      | cons n r => cases h0
    have e32 := k32.get (nin1 npa) e31
    simp only [List.map_append, List.map_cons, List.map_nil, List.nil_append, List.cons_append] at hxj e32
    refine Z.ixL (lstL e32) (atI_nat hxj) ?_
    refine q H32 x.1 x.2 ?_ ((k31.sub (by simp)).trans k32) d32 (k32.get (nin1 nxa) hxa)
    simp only [List.mem_append, List.mem_singleton, List.not_mem_nil, false_or] at hx
    unfold wrongs
    rcases hx with (((((((((((((((((((((h | h) | h) | h) | h) | h) | h) | h) | h) | h) | h) | h) | h) | h) | h) | h) | h) | h) | h) | h) | h) | h)
    · subst h; exact .head _
    · subst h; exact .tail _ (.head _)
    · subst h; exact .tail _ (.tail _ (.head _))
    · subst h; exact .tail _ (.tail _ (.tail _ (.head _)))
    · subst h; exact .tail _ (.tail _ (.tail _ (.tail _ (.head _))))
    · subst h; exact .tail _ (.tail _ (.tail _ (.tail _ (.tail _ (.head _)))))
    · subst h; exact .tail _ (.tail _ (.tail _ (.tail _ (.tail _ (.tail _ (.head _))))))
    · subst h; exact .tail _ (.tail _ (.tail _ (.tail _ (.tail _ (.tail _ (.tail _ (.head _)))))))
    · subst h; exact .tail _ (.tail _ (.tail _ (.tail _ (.tail _ (.tail _ (.tail _ (.tail _ (.head _))))))))
    · subst h; exact .tail _ (.tail _ (.tail _ (.tail _ (.tail _ (.tail _ (.tail _ (.tail _ (.tail _ (.head _)))))))))
    · subst h; exact .tail _ (.tail _ (.tail _ (.tail _ (.tail _ (.tail _ (.tail _ (.tail _ (.tail _ (.tail _ (.head _))))))))))
    · subst h; exact .tail _ (.tail _ (.tail _ (.tail _ (.tail _ (.tail _ (.tail _ (.tail _ (.tail _ (.tail _ (.tail _ (.head _)))))))))))
    · subst h; exact .tail _ (.tail _ (.tail _ (.tail _ (.tail _ (.tail _ (.tail _ (.tail _ (.tail _ (.tail _ (.tail _ (.tail _ (.head _))))))))))))
    · subst h; exact .tail _ (.tail _ (.tail _ (.tail _ (.tail _ (.tail _ (.tail _ (.tail _ (.tail _ (.tail _ (.tail _ (.tail _ (.tail _ (.head _)))))))))))))
    · subst h; exact .tail _ (.tail _ (.tail _ (.tail _ (.tail _ (.tail _ (.tail _ (.tail _ (.tail _ (.tail _ (.tail _ (.tail _ (.tail _ (.tail _ (.head _))))))))))))))
    · subst h; exact .tail _ (.tail _ (.tail _ (.tail _ (.tail _ (.tail _ (.tail _ (.tail _ (.tail _ (.tail _ (.tail _ (.tail _ (.tail _ (.tail _ (.tail _ (.head _)))))))))))))))
    · subst h; exact .tail _ (.tail _ (.tail _ (.tail _ (.tail _ (.tail _ (.tail _ (.tail _ (.tail _ (.tail _ (.tail _ (.tail _ (.tail _ (.tail _ (.tail _ (.tail _ (.head _))))))))))))))))
    · subst h; exact .tail _ (.tail _ (.tail _ (.tail _ (.tail _ (.tail _ (.tail _ (.tail _ (.tail _ (.tail _ (.tail _ (.tail _ (.tail _ (.tail _ (.tail _ (.tail _ (.tail _ (.head _)))))))))))))))))
    · subst h; exact .tail _ (.tail _ (.tail _ (.tail _ (.tail _ (.tail _ (.tail _ (.tail _ (.tail _ (.tail _ (.tail _ (.tail _ (.tail _ (.tail _ (.tail _ (.tail _ (.tail _ (.tail _ (.head _))))))))))))))))))
    · subst h; exact .tail _ (.tail _ (.tail _ (.tail _ (.tail _ (.tail _ (.tail _ (.tail _ (.tail _ (.tail _ (.tail _ (.tail _ (.tail _ (.tail _ (.tail _ (.tail _ (.tail _ (.tail _ (.tail _ (.head _)))))))))))))))))))
    · subst h; exact .tail _ (.tail _ (.tail _ (.tail _ (.tail _ (.tail _ (.tail _ (.tail _ (.tail _ (.tail _ (.tail _ (.tail _ (.tail _ (.tail _ (.tail _ (.tail _ (.tail _ (.tail _ (.tail _ (.tail _ (.head _))))))))))))))))))))
    · subst h; exact .tail _ (.tail _ (.tail _ (.tail _ (.tail _ (.tail _ (.tail _ (.tail _ (.tail _ (.tail _ (.tail _ (.tail _ (.tail _ (.tail _ (.tail _ (.tail _ (.tail _ (.tail _ (.tail _ (.tail _ (.tail _ (.head _)))))))))))))))))))))

def chkBad (w : WR) : Bool :=
  match Txt.split w.1 " " with
  | [k, g, a, b] => match wfault k g a b with
    | some (p, r) => decide (colOf [k, g, a, b] p = w.2.1) && decide (r = w.2.2)
    | none => false
  | _ => decide (w.2.1 = 1) && decide (w.2.2 = "count")
theorem bad_cnt {w : WR} (h : (decide (w.2.1 = 1) && decide (w.2.2 = ("count" : Str))) = true) : some ((1 : Int), ("count" : Str)) = some (w.2.1, w.2.2) := by
  rw [Bool.and_eq_true, decide_eq_true_eq, decide_eq_true_eq] at h
  rw [h.1, h.2]
theorem bad_lf {w : WR} (h : chkBad w = true) (num : Nat) (tk : Str → Bool) : lfault (Txt.split w.1 " ") num tk = some (w.2.1, w.2.2) := by
  unfold chkBad at h
  unfold lfault
  generalize Txt.split w.1 " " = ws at h ⊢
  match ws, h with
  | [], h => exact bad_cnt h
  | [_], h => exact bad_cnt h
  | [_, _], h => exact bad_cnt h
  | [_, _, _], h => exact bad_cnt h
  | _ :: _ :: _ :: _ :: _ :: _, h => exact bad_cnt h
  | [k, g, a, b], h =>
    dsimp only at h ⊢
    cases e2 : wfault k g a b with
    | none => rw [e2] at h; cases h
    | some pr =>
      obtain ⟨p, r⟩ := pr
      rw [e2] at h
      dsimp only at h ⊢
      rw [Bool.and_eq_true, decide_eq_true_eq, decide_eq_true_eq] at h
      rw [h.1, h.2]
theorem bad_short : ∀ w ∈ wrongs.take 19, chkBad w = true := by decide +kernel
theorem bad_last : chkBad (("new red 12 -" : Str), (12 : Int), ("amount" : Str)) = true := by decide +kernel

theorem rep_free {z : Str} {k c : Nat} (h : c ∉ TL.tl z) : c ∉ TL.tl (RL.repS z k) := by
  rw [RL.repS_tl]
  intro hm
  obtain ⟨l, hl, hc⟩ := List.mem_flatten.mp hm
  rw [List.eq_of_mem_replicate hl] at hc
  exact h hc
theorem rep_cap {z : Str} {lo hi : Int} (hz : z.length = 1) (hc : capOf lo hi ≤ 600) : withinO (RL.repS z 5000) lo hi = none := by
  unfold withinO
  have h := RL.repS_len z 5000
  rw [hz] at h
  have h2 : (RL.repS z 5000).cps.size = 5000 := h
  rw [if_pos (by rw [h2]; omega)]
theorem long_split1 (R : Str) (h : 32 ∉ TL.tl R) : Txt.split (("new red 3 " : Str) ++ R) " " = [("new" : Str), "red", "3", R] := by
  have e : ("new red 3 " : Str) ++ R = Txt.join " " [("new" : Str), "red", "3", R] := by
    rw [TL.join_eq]
    refine TL.ext_tl ?_
    rw [TL.tl_join, TL.tl_append]
    have h1 : TL.tl ("new red 3 " : Str) = TL.tl "new" ++ (TL.tl " " ++ (TL.tl "red" ++ (TL.tl " " ++ (TL.tl "3" ++ TL.tl " ")))) := by decide +kernel
    rw [h1]
    simp only [List.map, TL.joinL, List.append_assoc]
  rw [e]
  refine TL.split_join (s := 32) (S := []) (by decide +kernel) (by decide +kernel) (by simp) fun p hp => ?_
  simp only [List.mem_cons, List.not_mem_nil, or_false] at hp
  rcases hp with rfl | rfl | rfl | rfl
  · decide +kernel
  · decide +kernel
  · decide +kernel
  · exact h
theorem long_split2 (R : Str) (h : 32 ∉ TL.tl R) : Txt.split (("new red " : Str) ++ R ++ " 4") " " = [("new" : Str), "red", R, "4"] := by
  have e : ("new red " : Str) ++ R ++ " 4" = Txt.join " " [("new" : Str), "red", R, "4"] := by
    rw [TL.join_eq]
    refine TL.ext_tl ?_
    rw [TL.tl_join, TL.tl_append, TL.tl_append]
    have h1 : TL.tl ("new red " : Str) = TL.tl "new" ++ (TL.tl " " ++ (TL.tl "red" ++ TL.tl " ")) := by decide +kernel
    have h2 : TL.tl (" 4" : Str) = TL.tl " " ++ TL.tl "4" := by decide +kernel
    rw [h1, h2]
    simp only [List.map, TL.joinL, List.append_assoc]
  rw [e]
  refine TL.split_join (s := 32) (S := []) (by decide +kernel) (by decide +kernel) (by simp) fun p hp => ?_
  simp only [List.mem_cons, List.not_mem_nil, or_false] at hp
  rcases hp with rfl | rfl | rfl | rfl
  · decide +kernel
  · decide +kernel
  · exact h
  · decide +kernel
theorem bad_longA {R : Str} (h : 32 ∉ TL.tl R) (hn : withinO R (-1000) 1000 = none) : chkBad (("new red 3 " : Str) ++ R, (11 : Int), ("amount" : Str)) = true := by
  unfold chkBad
  dsimp only
  rw [long_split1 R h]
  have hw : wfault "new" "red" "3" R = some (3, ("amount" : Str)) := by
    unfold wfault
    rw [if_neg (by decide +kernel), if_neg (by decide +kernel), if_neg (by decide +kernel), if_pos hn]
  dsimp only
  rw [hw]
  dsimp only
  rw [Bool.and_eq_true, decide_eq_true_eq, decide_eq_true_eq]
  refine ⟨?_, rfl⟩
  show 1 + (([("new" : Str), "red", "3"] : List Str).map fun w => (w.cps.size : Int) + 1).sum = 11
  decide +kernel
theorem bad_longB {R : Str} (h : 32 ∉ TL.tl R) (hn : withinO R 1 1000 = none) : chkBad (("new red " : Str) ++ R ++ " 4", (9 : Int), ("weight" : Str)) = true := by
  unfold chkBad
  dsimp only
  rw [long_split2 R h]
  have hw : wfault "new" "red" R "4" = some (2, ("weight" : Str)) := by
    unfold wfault
    rw [if_neg (by decide +kernel), if_neg (by decide +kernel), if_pos hn]
  dsimp only
  rw [hw]
  dsimp only
  rw [Bool.and_eq_true, decide_eq_true_eq, decide_eq_true_eq]
  refine ⟨?_, rfl⟩
  show 1 + (([("new" : Str), "red"] : List Str).map fun w => (w.cps.size : Int) + 1).sum = 9
  decide +kernel
theorem bad_long1 : chkBad (("new red 3 " : Str) ++ RL.repS "9" 5000, (11 : Int), ("amount" : Str)) = true := bad_longA (rep_free (by decide +kernel)) (rep_cap (by decide +kernel) capm)
theorem bad_long2 : chkBad (("new red " : Str) ++ RL.repS "1" 5000 ++ " 4", (9 : Int), ("weight" : Str)) = true := bad_longB (rep_free (by decide +kernel)) (rep_cap (by decide +kernel) cap1)

/-! ### lines and their faults -/
theorem tl_len (s : Str) : (TL.tl s).length = s.length := by
  unfold TL.tl Str.length
  exact Array.length_toList
theorem flat_len {n : Nat} : ∀ {ls : List Str}, (∀ l ∈ ls, l.length ≤ n) → ((ls.map fun l => l ++ ("\n" : Str)).map TL.tl).flatten.length ≤ (n + 1) * ls.length
  | [], _ => by simp
  | a :: r, h => by
    have h1 := h a (by simp)
    have h2 := flat_len (n := n) (ls := r) fun z hz => h z (by simp [hz])
    have z1 : ("\n" : Str).length = 1 := by decide +kernel
    rw [List.map_cons, List.map_cons, List.flatten_cons, List.length_append, tl_len, app_len, z1, List.length_cons, Nat.mul_add]
    omega
theorem len2 {n : Nat} {ls : List Str} (h : ∀ l ∈ ls, l.length ≤ n) : (Txt.join "" (ls.map fun l => l ++ ("\n" : Str))).length ≤ (n + 1) * ls.length := by
  rw [← tl_len, joinE]
  exact flat_len h
theorem joinL_len {n : Nat} : ∀ {ls : List Str}, (∀ l ∈ ls, l.length ≤ n) → (TL.joinL [10] (ls.map TL.tl)).length ≤ (n + 1) * ls.length
  | [], _ => by simp [TL.joinL]
  | [a], h => by
    have h1 := h a (by simp)
    show (TL.tl a).length ≤ _
    rw [tl_len, List.length_singleton]
    omega
  | a :: b :: r, h => by
    have h1 := h a (by simp)
    have h2 := joinL_len (n := n) (ls := b :: r) fun z hz => h z (List.mem_cons_of_mem _ hz)
    show (TL.tl a ++ ([10] ++ TL.joinL [10] ((b :: r).map TL.tl))).length ≤ _
    rw [List.length_append, List.length_append, tl_len, List.length_singleton, List.length_cons (a := a), Nat.mul_add]
    omega
theorem len1 {n : Nat} {ls : List Str} (h : ∀ l ∈ ls, l.length ≤ n) : (Txt.join "\n" ls).length ≤ (n + 1) * ls.length := by
  rw [← tl_len, TL.join_eq, TL.tl_join]
  have e : TL.tl ("\n" : Str) = [10] := by decide +kernel
  rw [e]
  exact joinL_len h
/-- what may stand as a line in the texts of a law -/
structure LineOk (l : Str) : Prop where
  nl : 10 ∉ TL.tl l
  sz : l.length ≤ 5100
  ws : (Txt.split l " ").length ≤ 100000 ∧ ∀ w ∈ Txt.split l " ", w.cps.size ≤ 100000
theorem wsL {ls : List Str} (h : ∀ l ∈ ls, LineOk l) : ∀ ws ∈ ls.map (fun l => Txt.split l " "), ws.length ≤ 100000 ∧ ∀ w ∈ ws, w.cps.size ≤ 100000 := by
  intro ws hw
  obtain ⟨l, hl, rfl⟩ := List.mem_map.mp hw
  exact (h l hl).ws
theorem split_ne1 {ls : List Str} (h : ∀ l ∈ ls, LineOk l) : Txt.split (Txt.join "\n" ls) "\n" ≠ [] := by
  cases ls with
  | nil => decide +kernel
  | cons a r =>
    rw [split_text (by simp) (fun l hl => (h l hl).nl)]
    simp
theorem split_ne2 {ls : List Str} (h : ∀ l ∈ ls, LineOk l) : Txt.split (Txt.join "" (ls.map fun l => l ++ ("\n" : Str))) "\n" ≠ [] := by
  rw [text2_eq, split_text (by simp) (fun l hl => by
    rcases List.mem_append.mp hl with z | z
    · exact (h l z).nl
    · rw [List.mem_singleton.mp z]; decide +kernel)]
  simp
theorem linesL_nil : linesL (Txt.join "\n" ([] : List Str)) = [] := by decide +kernel
theorem linesL_1 {ls : List Str} (h : ∀ l ∈ ls, LineOk l) (he : ∀ l ∈ ls, l ≠ "") : linesL (Txt.join "\n" ls) = ls := by
  cases ls with
  | nil => exact linesL_nil
  | cons a r => exact linesL_text (by simp) (fun l hl => (h l hl).nl) he
/-- right lines -/
def Right (ws : List Str) : Prop := ∃ k g w a, ws = [k, g, w, a] ∧ wfault k g w a = none
theorem Right.lf {ws : List Str} (h : Right ws) {num : Nat} {tk : Str → Bool} (h1 : tk (ws.headD "") = false) : lfault ws num tk = if num > 1000 then some (1, ("many" : Str)) else none := by
  obtain ⟨k, g, w, a, rfl, hw⟩ := h
  unfold lfault
  dsimp only
  rw [hw]
  dsimp only
  rw [if_neg (by rw [show tk k = false from h1]; decide)]
theorem Right.lfT {ws : List Str} (h : Right ws) {num : Nat} {tk : Str → Bool} (h1 : tk (ws.headD "") = true) : lfault ws num tk = some (1, ("taken" : Str)) := by
  obtain ⟨k, g, w, a, rfl, hw⟩ := h
  unfold lfault
  dsimp only
  rw [hw]
  dsimp only
  rw [if_pos (show tk k = true from h1)]
theorem RowOk.right {r : Row} (h : RowOk r) : Right (parts r) := ⟨_, _, _, _, rfl, h.wf⟩
theorem readL_go : ∀ {Ws : List (List Str)} {num : Nat} {tk : Str → Bool} {rest : List (List Str)}, (∀ ws ∈ Ws, Right ws) → (Ws.map fun ws => ws.headD "").Nodup → (∀ ws ∈ Ws, tk (ws.headD "") = false) → num + Ws.length ≤ 1001 →
    ∃ tk', (∀ s, tk' s = (tk s || decide (s ∈ Ws.map fun ws => ws.headD ""))) ∧ readL num tk (Ws ++ rest) = readL (num + Ws.length) tk' rest
  | [], num, tk, rest, _, _, _, _ => ⟨tk, fun s => by simp, rfl⟩
  | ws :: Ws, num, tk, rest, h, hn, ht, hl => by
    have hr := h ws (by simp)
    rw [List.length_cons] at hl
    rw [List.map_cons, List.nodup_cons] at hn
    have e : lfault ws num tk = none := by rw [hr.lf (ht ws (by simp)), if_neg (by omega)]
    obtain ⟨tk', h1, h2⟩ := readL_go (Ws := Ws) (num := num + 1) (tk := nxtTk tk ws) (rest := rest) (fun z hz => h z (by simp [hz])) hn.2 (fun z hz => nxt_false (ht z (by simp [hz])) (fun e => hn.1 (by
      rw [← e]
      exact List.mem_map.mpr ⟨z, hz, rfl⟩))) (by omega)
    refine ⟨tk', fun s => ?_, ?_⟩
    · rw [h1]
      unfold nxtTk
      by_cases hs : s = ws.headD ""
      · rw [if_pos hs]
        simp only [List.map_cons, List.mem_cons, hs, true_or, decide_true, Bool.or_true, Bool.true_or]
      · rw [if_neg hs]
        simp only [List.map_cons, List.mem_cons, hs, false_or]
    · rw [List.cons_append, readL_cons, e]
      dsimp only
      rw [h2, List.length_cons]
      congr 1
      omega
theorem heads_parts (rs : List Row) : ((rs.map parts).map fun ws => ws.headD "") = rs.map fun r => r.k := by rw [List.map_map]; rfl
/-- items, a wrong line, whatever follows -/
theorem readL_bad {rs : List Row} {w : WR} {rest : List (List Str)} (h : ∀ r ∈ rs, RowOk r) (hn : (rs.map fun r => r.k).Nodup) (hl : rs.length ≤ 100) (hw : chkBad w = true) : readL 1 (fun _ => false) (rs.map parts ++ Txt.split w.1 " " :: rest) = some (rs.length + 1, w.2.1, w.2.2) := by
  obtain ⟨tk', _, h2⟩ := readL_go (Ws := rs.map parts) (num := 1) (tk := fun _ => false) (rest := Txt.split w.1 " " :: rest) (fun ws hws => by
    obtain ⟨r, hr, rfl⟩ := List.mem_map.mp hws
    exact (h r hr).right) (by rw [heads_parts]; exact hn) (fun _ _ => rfl) (by rw [List.length_map]; omega)
  rw [h2, readL_cons, bad_lf hw]
  dsimp only
  rw [List.length_map, Nat.add_comm]
theorem readL_all {rs : List Row} (h : ∀ r ∈ rs, RowOk r) (hn : (rs.map fun r => r.k).Nodup) (hl : rs.length ≤ 100) : readL 1 (fun _ => false) (rs.map parts) = none := by
  obtain ⟨tk', _, h2⟩ := readL_go (Ws := rs.map parts) (num := 1) (tk := fun _ => false) (rest := []) (fun ws hws => by
    obtain ⟨r, hr, rfl⟩ := List.mem_map.mp hws
    exact (h r hr).right) (by rw [heads_parts]; exact hn) (fun _ _ => rfl) (by rw [List.length_map]; omega)
  rw [List.append_nil] at h2
  rw [h2]
  rfl
theorem readL_twice {rs : List Row} {r : Row} (h : ∀ r ∈ rs, RowOk r) (hn : (rs.map fun r => r.k).Nodup) (hl : rs.length ≤ 100) (hr : r ∈ rs) : readL 1 (fun _ => false) (rs.map parts ++ [parts r]) = some (rs.length + 1, 1, ("taken" : Str)) := by
  obtain ⟨tk', h1, h2⟩ := readL_go (Ws := rs.map parts) (num := 1) (tk := fun _ => false) (rest := [parts r]) (fun ws hws => by
    obtain ⟨r, hr, rfl⟩ := List.mem_map.mp hws
    exact (h r hr).right) (by rw [heads_parts]; exact hn) (fun _ _ => rfl) (by rw [List.length_map]; omega)
  rw [h2, readL_cons, (h r hr).right.lfT (by
    rw [h1, heads_parts]
    rw [Bool.or_eq_true, decide_eq_true_eq]
    exact .inr (List.mem_map.mpr ⟨r, hr, rfl⟩))]
  dsimp only
  rw [List.length_map, Nat.add_comm]
/-! a thousand lines -/
def nk (k : Nat) : Str := "n" ++ numS (k : Int)
def nline (k : Nat) : Str := nk k ++ " g 1 0"
theorem nk_fine : ∀ i : Fin 1001, fineB (nk i.val) = true := by decide +kernel
theorem nk_inj {a b : Nat} (ha : a ≤ 1000) (hb : b ≤ 1000) (h : nk a = nk b) : a = b := by
  have e : numS (a : Int) = numS (b : Int) := by
    refine TL.ext_tl ?_
    have h2 := congrArg TL.tl h
    unfold nk at h2
    rw [TL.tl_append, TL.tl_append] at h2
    exact List.append_cancel_left h2
  have h1 := (mOk (w := (a : Int)) (by omega) (by omega)).1
  have h2 := (mOk (w := (b : Int)) (by omega) (by omega)).1
  rw [e, h2] at h1
  have := Option.some.inj h1
  omega
theorem nk_free {k c : Nat} (h : c < 45) (hc : c ≠ 110) : c ∉ TL.tl (nk k) := by
  unfold nk
  rw [TL.tl_append, List.mem_append]
  rintro (z | z)
  · have e : TL.tl ("n" : Str) = [110] := by decide +kernel
    rw [e] at z
    exact hc (List.mem_singleton.mp z)
  · exact num_free c h _ z
theorem nline_split (k : Nat) : Txt.split (nline k) " " = [nk k, "g", "1", "0"] := by
  have e : nline k = Txt.join " " [nk k, "g", "1", "0"] := by
    rw [TL.join_eq]
    refine TL.ext_tl ?_
    unfold nline
    rw [TL.tl_join, TL.tl_append]
    have h1 : TL.tl (" g 1 0" : Str) = TL.tl " " ++ (TL.tl "g" ++ (TL.tl " " ++ (TL.tl "1" ++ (TL.tl " " ++ TL.tl "0")))) := by decide +kernel
    rw [h1]
    simp only [List.map, TL.joinL, List.append_assoc]
  rw [e]
  refine TL.split_join (s := 32) (S := []) (by decide +kernel) (by decide +kernel) (by simp) fun p hp => ?_
  simp only [List.mem_cons, List.not_mem_nil, or_false] at hp
  rcases hp with rfl | rfl | rfl | rfl
  · exact nk_free (by decide) (by decide)
  · decide +kernel
  · decide +kernel
  · decide +kernel
theorem nk_len {k : Nat} (h : k ≤ 1000) : (nk k).length ≤ 11 := by
  have := (mOk (w := (k : Int)) (by omega) (by omega)).2
  unfold nk
  rw [app_len, show ("n" : Str).length = 1 by decide +kernel]
  omega
theorem nline_len {k : Nat} (h : k ≤ 1000) : (nline k).length ≤ 17 := by
  have := nk_len h
  unfold nline
  rw [app_len, show (" g 1 0" : Str).length = 6 by decide +kernel]
  omega
theorem nline_ok {k : Nat} (h : k ≤ 1000) : LineOk (nline k) := by
  refine ⟨?_, Nat.le_trans (nline_len h) (by decide), ?_⟩
  · unfold nline
    rw [TL.tl_append, List.mem_append]
    rintro (z | z)
    · exact nk_free (by decide) (by decide) z
    · revert z; decide +kernel
  · rw [nline_split]
    refine ⟨by simp, fun w hw => ?_⟩
    simp only [List.mem_cons, List.not_mem_nil, or_false] at hw
    rcases hw with rfl | rfl | rfl | rfl
    · exact Nat.le_trans (nk_len h) (by decide)
    · decide +kernel
    · decide +kernel
    · decide +kernel
theorem nline_ne (k : Nat) : nline k ≠ "" := by
  intro h
  have h2 := congrArg (fun s => Txt.split s " ") h
  simp only [nline_split] at h2
  have h3 : 4 = (Txt.split "" " ").length := congrArg List.length h2
  revert h3
  decide +kernel
theorem nline_right {k : Nat} (h : k ≤ 1000) : Right (Txt.split (nline k) " ") := by
  rw [nline_split]
  refine ⟨_, _, _, _, rfl, ?_⟩
  unfold wfault
  rw [if_neg (by rw [nk_fine ⟨k, by omega⟩]; decide), if_neg (by decide +kernel), if_neg (by decide +kernel), if_neg (by decide +kernel)]
def nlines (n : Nat) : List Str := (List.range n).map nline
theorem nlines_ok {n : Nat} (h : n ≤ 1001) : ∀ l ∈ nlines n, LineOk l ∧ l ≠ "" ∧ l.length ≤ 17 ∧ Right (Txt.split l " ") := by
  intro l hl
  obtain ⟨k, hk, rfl⟩ := List.mem_map.mp hl
  have hk := List.mem_range.mp hk
  exact ⟨nline_ok (by omega), nline_ne k, nline_len (by omega), nline_right (by omega)⟩
theorem nlines_heads (n : Nat) : (((nlines n).map fun l => Txt.split l " ").map fun ws => ws.headD "") = (List.range n).map nk := by
  unfold nlines
  rw [List.map_map, List.map_map]
  refine List.map_congr_left fun k _ => ?_
  simp only [Function.comp_apply, nline_split, List.headD_cons]
theorem nk_nodup {n : Nat} (h : n ≤ 1001) : ((List.range n).map nk).Nodup := by
  refine List.pairwise_map.mpr (List.Pairwise.imp_of_mem ?_ List.nodup_range)
  intro x y hx hy e z
  have h1 := List.mem_range.mp hx
  have h2 := List.mem_range.mp hy
  exact e (nk_inj (by omega) (by omega) z)
theorem readL_1000 : readL 1 (fun _ => false) ((nlines 1000).map fun l => Txt.split l " ") = none := by
  obtain ⟨tk', _, h2⟩ := readL_go (Ws := (nlines 1000).map fun l => Txt.split l " ") (num := 1) (tk := fun _ => false) (rest := []) (fun ws hws => by
    obtain ⟨l, hl, rfl⟩ := List.mem_map.mp hws
    exact (nlines_ok (by decide) l hl).2.2.2) (by rw [nlines_heads]; exact nk_nodup (by decide)) (fun _ _ => rfl) (by rw [List.length_map]; unfold nlines; rw [List.length_map, List.length_range]; decide)
  rw [List.append_nil] at h2
  rw [h2]
  rfl
theorem readL_1001 : readL 1 (fun _ => false) ((nlines 1001).map fun l => Txt.split l " ") = some (1001, 1, ("many" : Str)) := by
  have e : nlines 1001 = nlines 1000 ++ [nline 1000] := by
    unfold nlines
    rw [List.range_succ, List.map_append]
    rfl
  rw [e, List.map_append]
  obtain ⟨tk', h1, h2⟩ := readL_go (Ws := (nlines 1000).map fun l => Txt.split l " ") (num := 1) (tk := fun _ => false) (rest := [nline 1000].map fun l => Txt.split l " ") (fun ws hws => by
    obtain ⟨l, hl, rfl⟩ := List.mem_map.mp hws
    exact (nlines_ok (by decide) l hl).2.2.2) (by rw [nlines_heads]; exact nk_nodup (by decide)) (fun _ _ => rfl) (by rw [List.length_map]; unfold nlines; rw [List.length_map, List.length_range]; decide)
  have hz : 1 + ((nlines 1000).map fun l => Txt.split l " ").length = 1001 := by rw [List.length_map]; unfold nlines; rw [List.length_map, List.length_range]
  rw [h2, hz]
  show (match lfault (Txt.split (nline 1000) " ") 1001 tk' with | some (c, y) => some (1001, c, y) | none => readL (1001 + 1) (nxtTk tk' (Txt.split (nline 1000) " ")) []) = _
  rw [(nline_right (by decide)).lf (by
    rw [h1, nlines_heads, nline_split]
    rw [Bool.false_or, decide_eq_false_iff_not]
    intro hm
    obtain ⟨k, hk, hk2⟩ := List.mem_map.mp hm
    have hk := List.mem_range.mp hk
    have := nk_inj (a := k) (b := 1000) (by omega) (by omega) hk2
    omega), if_pos (by decide)]

/-! ### law -/
def lineB (l : Str) : Bool := decide (10 ∉ TL.tl l) && decide (l.length ≤ 5100) && decide ((Txt.split l " ").length ≤ 10) && (Txt.split l " ").all fun w => decide (w.cps.size ≤ 100)
theorem lineB_ok {l : Str} (h : lineB l = true) : LineOk l := by
  unfold lineB at h
  rw [Bool.and_eq_true, Bool.and_eq_true, Bool.and_eq_true, decide_eq_true_eq, decide_eq_true_eq, decide_eq_true_eq, List.all_eq_true] at h
  obtain ⟨⟨⟨h1, h2⟩, h3⟩, h4⟩ := h
  exact ⟨h1, h2, by omega, fun w hw => by have := of_decide_eq_true (h4 w hw); omega⟩
theorem short_line : ∀ w ∈ wrongs.take 19, lineB w.1 = true := by decide +kernel
theorem last_line : lineB "new red 12 -" = true := by decide +kernel
theorem long_line {s : Str} {ps : List Str} (e : Txt.split s " " = ps) (h1 : 10 ∉ TL.tl s) (h2 : s.length ≤ 5100) (h3 : ps.length ≤ 10) (h4 : ∀ p ∈ ps, p.cps.size ≤ 100000) : LineOk s := ⟨h1, h2, by rw [e]; omega, by rw [e]; exact h4⟩
theorem long_line1 : LineOk (("new red 3 " : Str) ++ RL.repS "9" 5000) := by
  have z9 : (RL.repS "9" 5000).length = 5000 := by rw [RL.repS_len]; decide +kernel
  refine long_line (long_split1 _ (rep_free (by decide +kernel))) ?_ ?_ (by simp) ?_
  · rw [TL.tl_append, List.mem_append]
    rintro (z | z)
    · revert z; decide +kernel
    · exact rep_free (by decide +kernel) z
  · rw [app_len, z9]; decide +kernel
  · intro p hp
    simp only [List.mem_cons, List.not_mem_nil, or_false] at hp
    rcases hp with rfl | rfl | rfl | rfl
    · decide +kernel
    · decide +kernel
    · decide +kernel
    · show (RL.repS "9" 5000).length ≤ _
      rw [z9]; decide
theorem long_line2 : LineOk (("new red " : Str) ++ RL.repS "1" 5000 ++ " 4") := by
  have z9 : (RL.repS "1" 5000).length = 5000 := by rw [RL.repS_len]; decide +kernel
  refine long_line (long_split2 _ (rep_free (by decide +kernel))) ?_ ?_ (by simp) ?_
  · rw [TL.tl_append, TL.tl_append, List.mem_append, List.mem_append]
    rintro ((z | z) | z)
    · revert z; decide +kernel
    · exact rep_free (by decide +kernel) z
    · revert z; decide +kernel
  · rw [app_len, app_len, z9]; decide +kernel
  · intro p hp
    simp only [List.mem_cons, List.not_mem_nil, or_false] at hp
    rcases hp with rfl | rfl | rfl | rfl
    · decide +kernel
    · decide +kernel
    · show (RL.repS "1" 5000).length ≤ _
      rw [z9]; decide
    · decide +kernel
theorem wrongs_eq : wrongs = wrongs.take 19 ++ ([(("new red 3 " : Str) ++ RL.repS "9" 5000, (11 : Int), ("amount" : Str)), (("new red " : Str) ++ RL.repS "1" 5000 ++ " 4", (9 : Int), ("weight" : Str)), (("new red 12 -" : Str), (12 : Int), ("amount" : Str))] : List WR) := rfl
theorem mem3 {α : Type} {w a b c : α} (h : w ∈ [a, b, c]) : w = a ∨ w = b ∨ w = c := by simpa using h
theorem wrong_ok {w : WR} (h : w ∈ wrongs) : LineOk w.1 ∧ chkBad w = true := by
  rw [wrongs_eq] at h
  rcases List.mem_append.mp h with h | h
  · exact ⟨lineB_ok (short_line w h), bad_short w h⟩
  · rcases mem3 h with rfl | rfl | rfl
    · exact ⟨long_line1, bad_long1⟩
    · exact ⟨long_line2, bad_long2⟩
    · exact ⟨lineB_ok last_line, bad_last⟩
theorem RowOk.line {r : Row} (h : RowOk r) : LineOk (lineL r) ∧ lineL r ≠ "" ∧ (lineL r).length ≤ 600 := by
  have ht := h.t
  have z1 : (" " : Str).length = 1 := by decide +kernel
  have hl : (lineL r).length ≤ 600 := by
    have := ht.kz
    have := ht.gz
    have := ht.wl
    have := ht.ml
    unfold lineL
    rw [app_len, app_len, app_len, app_len, app_len, app_len, z1]
    omega
  refine ⟨⟨?_, by omega, ?_⟩, ?_, hl⟩
  · have e : TL.tl (" " : Str) = [32] := by decide +kernel
    have hf := h.parts_free (c := 10) (.inr rfl)
    unfold parts at hf
    simp only [List.mem_cons, List.not_mem_nil, or_false] at hf
    unfold lineL
    simp only [TL.tl_append, List.mem_append, e, List.mem_singleton]
    intro z
    rcases z with (((((z | z) | z) | z) | z) | z) | z
    · exact hf _ (.inl rfl) z
    · cases z
    · exact hf _ (.inr (.inl rfl)) z
    · cases z
    · exact hf _ (.inr (.inr (.inl rfl))) z
    · cases z
    · exact hf _ (.inr (.inr (.inr rfl))) z
  · rw [h.split]
    unfold parts
    refine ⟨by simp, fun w hw => ?_⟩
    simp only [List.mem_cons, List.not_mem_nil, or_false] at hw
    rcases hw with rfl | rfl | rfl | rfl
    · exact Nat.le_trans ht.kz (by decide)
    · exact Nat.le_trans ht.gz (by decide)
    · exact Nat.le_trans ht.wl (by decide)
    · exact Nat.le_trans ht.ml (by decide)
  · intro z
    have h2 := congrArg (fun s => (Txt.split s " ").length) z
    simp only [h.split] at h2
    revert h2
    show ¬ (4 : Nat) = _
    decide +kernel
def rowsOf (ps : List (Addr × Row)) : List Row := ps.map fun x => x.2
def linesOf (ps : List (Addr × Row)) : List Str := ps.map fun x => lineL x.2
theorem lines_ok {ps : List (Addr × Row)} (h : ∀ x ∈ ps, RowOk x.2) : ∀ l ∈ linesOf ps, LineOk l ∧ l ≠ "" ∧ l.length ≤ 600 := by
  intro l hl
  obtain ⟨x, hx, rfl⟩ := List.mem_map.mp hl
  exact (h x hx).line
theorem lines_split {ps : List (Addr × Row)} (h : ∀ x ∈ ps, RowOk x.2) : (linesOf ps).map (fun l => Txt.split l " ") = (rowsOf ps).map parts := by
  unfold linesOf rowsOf
  rw [List.map_map, List.map_map]
  refine List.map_congr_left fun x hx => ?_
  exact (h x hx).split
theorem rows_parts {ps : List (Addr × Row)} (h : ∀ x ∈ ps, RowOk x.2) : ((rowsOf ps).map parts).map rowOf = rowsOf ps := by
  unfold rowsOf
  rw [List.map_map, List.map_map]
  refine List.map_congr_left fun x hx => ?_
  exact (h x hx).row
theorem rows_ok {ps : List (Addr × Row)} (h : ∀ x ∈ ps, RowOk x.2) : ∀ r ∈ rowsOf ps, RowOk r := by
  intro r hr
  obtain ⟨x, hx, rfl⟩ := List.mem_map.mp hr
  exact h x hx
theorem rows_nd {ps : List (Addr × Row)} (h : (ps.map fun x => x.2.k).Nodup) : ((rowsOf ps).map fun r => r.k).Nodup := by
  unfold rowsOf
  rw [List.map_map]
  exact h
theorem smRows {n : Nat} {H : Hp} {p q : Addr} {ps qs : List (Addr × Row)} (h1 : H p = some (.lst (refs ps))) (h2 : H q = some (.lst (refs qs))) (r1 : RowsAt H ps) (r2 : RowsAt H qs) (e : rowsOf ps = rowsOf qs) (hl : ps.length ≤ 1000) : Sm (n + 3) H (.ref p) (.ref q) := by
  have hle : ps.length = qs.length := by
    have := congrArg List.length e
    unfold rowsOf at this
    rwa [List.length_map, List.length_map] at this
  refine .lst h1 h2 (by rw [refs_len, refs_len]; exact hle) (by rw [refs_len]; omega) fun i u v hu hv => ?_
  obtain ⟨x, hx, rfl⟩ := refs_of hu
  obtain ⟨y, hy, rfl⟩ := refs_of hv
  have e2 : x.2 = y.2 := by
    have := congrArg (fun l : List Row => l[i]?) e
    unfold rowsOf at this
    simp only [List.getElem?_map, hx, hy, Option.map_some] at this
    exact Option.some.inj this
  have hx2 := r1 x (List.mem_of_getElem? hx)
  have hy2 := r2 y (List.mem_of_getElem? hy)
  rw [← e2] at hy2
  refine .plainT hx2 hy2 (by simp [Row.vs]) fun z hz => ?_
  simp only [Row.vs, List.mem_cons, List.not_mem_nil, or_false] at hz
  rcases hz with rfl | rfl | rfl | rfl <;> rfl
theorem text_lines (ps : List (Addr × Row)) : (ps.map fun x => lineN x.2) = (linesOf ps).map fun l => l ++ ("\n" : Str) := by
  unfold linesOf
  rw [List.map_map]
  exact List.map_congr_left fun x _ => lineN_eq x.2
def nl (l : Str) : Str := l ++ ("\n" : Str)
theorem lcNl {K : PySem.W.Frag} {s0 s1 s2 s3 s4 s5 s6 s7 s8 s9 s10 s11 : Option V} {H : Hp} {Q : VK} {a : Addr} {ls : List Str} (h : H a = some (.lst (ls.map V.str))) (hz : ∀ l ∈ ls, l.length ≤ 5100) (hn : ls.length ≤ 2000)
    (q : ∀ D H', H D = none → Kp [] H H' → H' D = some (.lst ((ls.map fun l => l ++ ("\n" : Str)).map V.str)) → Q (.ref D) H') : ListK K (LcK (gName 10) tYes (tOp rAddS (tVar 10) (tC (V.str "\n"))) [10] [s0, s1, s2, s3, s4, s5, s6, s7, s8, s9, s10, s11] Q) (.ref a) H := by
  refine Z.lcl (ls.map V.str) (lstL h) (fun D i H' => Kp [] H H' ∧ H' D = some (.lst (((ls.take i).map fun l => l ++ ("\n" : Str)).map V.str))) ?_ ?_ ?_ ?_
  · intro D H3 nD k3 e3
    exact ⟨k3, e3⟩
  · rintro D i H3 nD hi ⟨k3, e3⟩
    exact lstL (k3.get nin0 h)
  · rintro D i v H3 nD hv ⟨k3, e3⟩
    obtain ⟨l, hl, rfl⟩ : ∃ l, ls[i]? = some l ∧ v = .str l := by
      rw [List.getElem?_map] at hv
      cases hw : ls[i]? with
      | none => rw [hw] at hv; cases hv
      | some r => rw [hw] at hv; exact ⟨r, rfl, (Option.some.inj hv).symm⟩
    have hz1 := hz l (List.mem_of_getElem? hl)
    have hi : i < ls.length := (List.getElem?_eq_some_iff.mp hl).1
    dsimp only [wipe, List.set]
    walk_at "z"
    refine ⟨rfl, ?_⟩
    walk_at "z"
    refine Z.addS (by rw [show ("\n" : Str).length = 1 by decide +kernel]; have : 100000 ≤ sizeLine := (by decide); omega) ?_
    refine ⟨_, e3, Z.szl (m := 2000) (by rw [List.length_map, List.length_map, List.length_take]; omega), k3.mut nD rfl, ?_⟩
    rw [upd_same, List.take_add_one, hl, List.map_append, List.map_append]; rfl
  · rintro D H3 nD ⟨k3, e3⟩
    rw [List.length_map, List.take_length] at e3
    exact q D H3 nD k3 e3
theorem join_sz {n : Nat} {ls : List Str} {a : Str} (h : ∀ l ∈ ls, l.length ≤ 6000) (hn : ls.length ≤ 2000) (ha : a.length ≤ 1) : (ls.map (·.length)).sum + ls.length * a.length ≤ 16777216 := by
  have h1 := Z.lens_le h
  have h2 : ls.length * a.length ≤ 2000 * 1 := Nat.mul_le_mul hn ha
  omega
theorem nl_sz {ls : List Str} (h : ∀ l ∈ ls, l.length ≤ 5100) : ∀ l ∈ ls.map (fun l => l ++ ("\n" : Str)), l.length ≤ 6000 := by
  intro l hl
  obtain ⟨x, hx, rfl⟩ := List.mem_map.mp hl
  have := h x hx
  rw [app_len, show ("\n" : Str).length = 1 by decide +kernel]
  omega
def spLaw (K : PySem.W.Frag) : Sp := fun vs H Q _ => ∃ (a : Addr) (ns : List Int), vs = [.ref a] ∧ SqL K H a (ns.map V.int) ∧ ns.length ≤ 63 ∧ (∀ z ∈ ns, Builtin.Int.intBits z ≤ 1048576) ∧ ∀ H', Q (.bl true) H'
theorem ok_law {P : Program} {w : World} {K : PySem.W.Frag} {mg : Str → Option Value} {base : Heap} (T : T P K mg) : FnOk P w K mg base CX0 8 T.a_law T.fd_law ["script"] (spLaw K) := by
  refine T.F_law.ok sc_law (fun vs H Q E h => ?_) (fun cdv A outer s H vs Q E hr h => ?_)
  · obtain ⟨a, ns, rfl, _⟩ := h
    rfl
  · obtain ⟨c, ns, rfl, hS, hlen, hb, q⟩ := h
    refine ⟨_, (pss_cons (ps_set (i := 1) sc_law.nd rfl (by first | exact Or.inl rfl | exact Or.inr rfl) (pe_call (ok__law_draws T) (hr.mono (by decide)) (by rfl) T.g__law_draws T.F__law_draws.kp T.b__law_draws .nil pass0 (pa_cons (pv 0) pa_nil)))
      (pss_cons (ps_set (i := 2) sc_law.nd rfl (by first | exact Or.inl rfl | exact Or.inr rfl) (pe_call (ok__law_items T) (hr.mono (by decide)) (by rfl) T.g__law_items T.F__law_items.kp T.b__law_items .nil pass0 (pa_cons (pv 1) (pa_cons pe_int pa_nil))))
      (pss_cons (ps_setLc (i := 3) (own := [("row", 9)]) (g := gName 9) rfl sc_law.nd rfl rfl (sw_true rfl rfl rfl (by decide +kernel)) (pi_list (pv 2)) (blkOk_by (own := [("row", 9)]) (N := N_law) (sc := defScope s_law) (by decide +kernel)) (fun _ _ _ _ _ => (pg_name (i := 9) sc_law.nd rfl (by first | exact Or.inl rfl | exact Or.inr rfl))) (fun _ _ _ _ _ => pts_nil) (fun _ _ _ _ _ => (pe_op o_addS (pe_op o_addS (pe_op o_addS (pe_op o_addS (pe_op o_addS (pe_op o_addS (pe_ix (ix_tup : IxR _ (rIxT K)) (pv 9) pe_int (fun _ _ => rfl)) pe_str) (pe_ix (ix_tup : IxR _ (rIxT K)) (pv 9) pe_int (fun _ _ => rfl))) pe_str) (pe_callTy call_str_int (by rfl) T.z_str (by decide +kernel) (pa_cons (pe_ix (ix_tup : IxR _ (rIxT K)) (pv 9) pe_int (fun _ _ => rfl)) pa_nil))) pe_str) (pe_callTy call_str_int (by rfl) T.z_str (by decide +kernel) (pa_cons (pe_ix (ix_tup : IxR _ (rIxT K)) (pv 9) pe_int (fun _ _ => rfl)) pa_nil)))))
      (pss_cons (ps_set (i := 4) sc_law.nd rfl (by first | exact Or.inl rfl | exact Or.inr rfl) (pe_bm PySem.F.plainAttrs_str PySem.F.slot_str_join PySem.F.type_str_join Z.m_join pe_str (pa_cons (pv 3) pa_nil)))
      (pss_cons (ps_if (pt_not (pt_val (pe_call (ok__law_same T) (hr.mono (by decide)) (by rfl) T.g__law_same T.F__law_same.kp T.b__law_same .nil pass0 (pa_cons (pe_call (ok_write_items T) (hr.mono (by decide)) (by rfl) T.g_write_items T.F_write_items.kp T.b_write_items .nil pass0 (pa_cons (pe_callTy c_list (by rfl) T.z_list (by decide +kernel) (pa_cons (pv 2) pa_nil)) pa_nil)) (pa_cons (pe_bm PySem.F.plainAttrs_str PySem.F.slot_str_join PySem.F.type_str_join Z.m_join pe_str (pa_cons (pe_lc (own := [("line", 10)]) (g := gName 10) rfl sc_law.nd (pi_list (pv 3)) (blkOk_by (own := [("line", 10)]) (N := N_law) (sc := defScope s_law) (by decide +kernel)) (fun _ _ _ _ _ => (pg_name (i := 10) sc_law.nd rfl (by first | exact Or.inl rfl | exact Or.inr rfl))) (fun _ _ _ _ _ => pts_nil) (fun _ _ _ _ _ => (pe_op o_addS (pv 10) pe_str))) pa_nil)) pa_nil))))) (pss_one (ps_ret pe_bl)) pss_nil)
      (pss_cons (ps_if (pt_not (pt_val (pe_call (ok__law_same T) (hr.mono (by decide)) (by rfl) T.g__law_same T.F__law_same.kp T.b__law_same .nil pass0 (pa_cons (pe_lst (pa_cons (pe_call (ok_read_items T) (hr.mono (by decide)) (by rfl) T.g_read_items T.F_read_items.kp T.b_read_items .nil passL (pa_cons (pv 4) pa_nil)) (pa_cons (pe_call (ok_read_items T) (hr.mono (by decide)) (by rfl) T.g_read_items T.F_read_items.kp T.b_read_items .nil passL (pa_cons (pe_bm PySem.F.plainAttrs_str PySem.F.slot_str_join PySem.F.type_str_join Z.m_join pe_str (pa_cons (pe_lc (own := [("line", 10)]) (g := gName 10) rfl sc_law.nd (pi_list (pv 3)) (blkOk_by (own := [("line", 10)]) (N := N_law) (sc := defScope s_law) (by decide +kernel)) (fun _ _ _ _ _ => (pg_name (i := 10) sc_law.nd rfl (by first | exact Or.inl rfl | exact Or.inr rfl))) (fun _ _ _ _ _ => pts_nil) (fun _ _ _ _ _ => (pe_op o_addS (pv 10) pe_str))) pa_nil)) pa_nil)) pa_nil))) (pa_cons (pe_lst (pa_cons (pv 2) (pa_cons (pv 2) pa_nil))) pa_nil))))) (pss_one (ps_ret pe_bl)) pss_nil)
      (pss_cons (ps_set (i := 5) sc_law.nd rfl (by first | exact Or.inl rfl | exact Or.inr rfl) (pe_call (ok__law_wrong T) (hr.mono (by decide)) (by rfl) T.g__law_wrong T.F__law_wrong.kp T.b__law_wrong .nil pass0 (pa_cons (pv 1) pa_nil)))
      (pss_cons (ps_set (i := 6) sc_law.nd rfl (by first | exact Or.inl rfl | exact Or.inr rfl) (pe_call (ok__law_take T) (hr.mono (by decide)) (by rfl) T.g__law_take T.F__law_take.kp T.b__law_take .nil pass0 (pa_cons (pv 1) (pa_cons (pe_op op_add (pe_callB c_len (by rfl) T.z_len (by decide +kernel) (pa_cons (pv 3) pa_nil)) pe_int) pa_nil))))
      (pss_cons (ps_set (i := 7) sc_law.nd rfl (by first | exact Or.inl rfl | exact Or.inr rfl) (pe_call (ok__law_error T) (hr.mono (by decide)) (by rfl) T.g__law_error T.F__law_error.kp T.b__law_error .nil pass0 (pa_cons (pe_bm PySem.F.plainAttrs_str PySem.F.slot_str_join PySem.F.type_str_join Z.m_join pe_str (pa_cons (pe_lc (own := [("line", 10)]) (g := gName 10) rfl sc_law.nd (pi_list (pe_op op_cat (pe_op op_cat (pe_slice sl_list (pv 3) po_none (po_some (pv 6))) (pe_lst (pa_cons (pe_ix ix_list (pv 5) pe_int (fun _ _ => rfl)) pa_nil))) (pe_slice sl_list (pv 3) (po_some (pv 6)) po_none))) (blkOk_by (own := [("line", 10)]) (N := N_law) (sc := defScope s_law) (by decide +kernel)) (fun _ _ _ _ _ => (pg_name (i := 10) sc_law.nd rfl (by first | exact Or.inl rfl | exact Or.inr rfl))) (fun _ _ _ _ _ => pts_nil) (fun _ _ _ _ _ => (pe_op o_addS (pv 10) pe_str))) pa_nil)) pa_nil)))
      (pss_cons (ps_if (pt_not (pt_val (pe_call (ok__law_same T) (hr.mono (by decide)) (by rfl) T.g__law_same T.F__law_same.kp T.b__law_same .nil pass0 (pa_cons (pv 7) (pa_cons (pe_lst (pa_cons (pe_op op_add (pv 6) pe_int) (pa_cons (pe_ix ix_list (pv 5) pe_int (fun _ _ => rfl)) (pa_cons (pe_ix ix_list (pv 5) pe_int (fun _ _ => rfl)) pa_nil)))) pa_nil))))) (pss_one (ps_ret pe_bl)) pss_nil)
      (Z.pss_consJ (ps_if (pt_cmpR op_gt (pe_callB c_len (by rfl) T.z_len (by decide +kernel) (pa_cons (pv 3) pa_nil)) pe_int (nomark _)) (pss_cons (ps_set (i := 7) sc_law.nd rfl (by first | exact Or.inl rfl | exact Or.inr rfl) (pe_call (ok__law_error T) (hr.mono (by decide)) (by rfl) T.g__law_error T.F__law_error.kp T.b__law_error .nil pass0 (pa_cons (pe_bm PySem.F.plainAttrs_str PySem.F.slot_str_join PySem.F.type_str_join Z.m_join pe_str (pa_cons (pe_op op_cat (pv 3) (pe_lst (pa_cons (pe_ix ix_list (pv 3) (pe_call (ok__law_take T) (hr.mono (by decide)) (by rfl) T.g__law_take T.F__law_take.kp T.b__law_take .nil pass0 (pa_cons (pv 1) (pa_cons (pe_callB c_len (by rfl) T.z_len (by decide +kernel) (pa_cons (pv 3) pa_nil)) pa_nil))) (fun _ _ => rfl)) pa_nil))) pa_nil)) pa_nil)))
      (pss_one (ps_if (pt_not (pt_val (pe_call (ok__law_same T) (hr.mono (by decide)) (by rfl) T.g__law_same T.F__law_same.kp T.b__law_same .nil pass0 (pa_cons (pv 7) (pa_cons (pe_lst (pa_cons (pe_op op_add (pe_callB c_len (by rfl) T.z_len (by decide +kernel) (pa_cons (pv 3) pa_nil)) pe_int) (pa_cons pe_int (pa_cons pe_str pa_nil)))) pa_nil))))) (pss_one (ps_ret pe_bl)) pss_nil))) pss_nil)
      (pss_cons (ps_set (i := 8) sc_law.nd rfl (by first | exact Or.inl rfl | exact Or.inr rfl) (pe_op op_add pe_int (pe_call (ok__law_take T) (hr.mono (by decide)) (by rfl) T.g__law_take T.F__law_take.kp T.b__law_take .nil pass0 (pa_cons (pv 1) (pa_cons pe_int pa_nil)))))
      (pss_cons (ps_if (pt_cmpR op_gt (pe_call (ok__law_take T) (hr.mono (by decide)) (by rfl) T.g__law_take T.F__law_take.kp T.b__law_take .nil pass0 (pa_cons (pv 1) (pa_cons pe_int pa_nil))) pe_int (nomark _)) (pss_one (ps_ret pe_bl)) pss_nil)
      (pss_cons (ps_set (i := 7) sc_law.nd rfl (by first | exact Or.inl rfl | exact Or.inr rfl) (pe_call (ok__law_error T) (hr.mono (by decide)) (by rfl) T.g__law_error T.F__law_error.kp T.b__law_error .nil pass0 (pa_cons (pe_bm PySem.F.plainAttrs_str PySem.F.slot_str_join PySem.F.type_str_join Z.m_join pe_str (pa_cons (pe_lc (own := [("k", 11)]) (g := gName 11) rfl sc_law.nd (pi_range1 (by rfl) T.z_range (pa_cons (pv 8) pa_nil)) (blkOk_by (own := [("k", 11)]) (N := N_law) (sc := defScope s_law) (by decide +kernel)) (fun _ _ _ _ _ => (pg_name (i := 11) sc_law.nd rfl (by first | exact Or.inl rfl | exact Or.inr rfl))) (fun _ _ _ _ _ => pts_nil) (fun _ _ _ _ _ => (pe_op o_addS (pe_op o_addS pe_str (pe_callTy call_str_int (by rfl) T.z_str (by decide +kernel) (pa_cons (pv 11) pa_nil))) pe_str))) pa_nil)) pa_nil)))
      (pss_one (ps_ret (pe_call (ok__law_same T) (hr.mono (by decide)) (by rfl) T.g__law_same T.F__law_same.kp T.b__law_same .nil pass0 (pa_cons (pv 7) (pa_cons (pe_ix ix_list (pe_lst (pa_cons (pe_lst pa_nil) (pa_cons (pe_lst (pa_cons pe_int (pa_cons pe_int (pa_cons pe_str pa_nil)))) pa_nil))) (pe_op op_sub (pv 8) pe_int) (fun _ _ => rfl)) pa_nil))))))))))))))))))), ?_⟩
    walk_at "z0"
    walk_at "z"
    refine ⟨c, ns, rfl, hS, hlen, hb, fun a H1 na k1 d1 => ?_⟩
    walk_at "z"
    refine ⟨a, 8, rfl, d1, by decide, fun H2 p ps np I hl8 => ?_⟩
    walk_at "z"
    have hps : ps.length ≤ 8 := hl8
    refine Z.lcl (refs ps) (lstL I.at_) (fun D i H' => Kp [] H2 H' ∧ H' D = some (.lst (((linesOf ps).take i).map V.str))) ?_ ?_ ?_ ?_
    · intro D H3 nD k3 e3
      exact ⟨k3, e3⟩
    · rintro D i H3 nD hi ⟨k3, e3⟩
      exact lstL (k3.get nin0 I.at_)
    · rintro D i v H3 nD hv ⟨k3, e3⟩
      obtain ⟨x, hx, rfl⟩ := refs_of hv
      have hm := List.mem_of_getElem? hx
      have hi : i < ps.length := (List.getElem?_eq_some_iff.mp hx).1
      have hrow := I.rows.kp0 k3 x hm
      have ht := (I.ok x hm).t
      have hk := ht.kz
      have hg := ht.gz
      have hwl : (Str.ofString (toString x.2.w)).length ≤ 100 := ht.wl
      have hml : (Str.ofString (toString x.2.m)).length ≤ 100 := ht.ml
      have l3 : x.2.w.natAbs.log2 < 1920 := Nat.lt_of_lt_of_le (PySem.Flt.log2_lt_of (k := 30) (by decide) ht.wz) (by decide)
      have l4 : x.2.m.natAbs.log2 < 1920 := Nat.lt_of_lt_of_le (PySem.Flt.log2_lt_of (k := 30) (by decide) ht.mz) (by decide)
      have z1 : (" " : Str).length = 1 := by decide +kernel
      have zl : 100000 ≤ sizeLine := by decide
      dsimp only [wipe, List.set]
      walk_at "z"
      refine ⟨rfl, ?_⟩
      walk_at "z"
      refine RowAt.k0 hrow ?_
      walk_at "z"
      refine Z.addS (by rw [z1]; omega) ?_
      walk_at "z"
      refine RowAt.g1 hrow ?_
      walk_at "z"
      refine Z.addS (by rw [app_len, z1]; omega) ?_
      walk_at "z"
      refine Z.addS (by rw [app_len, app_len, z1]; omega) ?_
      walk_at "z"
      refine RowAt.w2 hrow ?_
      refine ⟨_, rfl, l3, ?_⟩
      walk_at "z"
      refine Z.addS (by rw [app_len, app_len, app_len, z1]; omega) ?_
      walk_at "z"
      refine Z.addS (by rw [app_len, app_len, app_len, app_len, z1]; omega) ?_
      walk_at "z"
      refine RowAt.m3 hrow ?_
      refine ⟨_, rfl, l4, ?_⟩
      walk_at "z"
      refine Z.addS (by rw [app_len, app_len, app_len, app_len, app_len, z1]; omega) ?_
      refine ⟨_, e3, Z.szl (m := 1000) (by rw [List.length_map, List.length_take]; omega), k3.mut nD rfl, ?_⟩
      rw [upd_same, List.take_add_one]
      have e : (linesOf ps)[i]? = some (lineL x.2) := by unfold linesOf; rw [List.getElem?_map, hx]; rfl
      rw [e, List.map_append]; rfl
    · rintro D H3 nD ⟨k3, e3⟩
      rw [refs_len, List.take_of_length_le (by unfold linesOf; rw [List.length_map]; omega)] at e3
      have hl := lines_ok I.ok
      have hlz : ∀ l ∈ linesOf ps, l.length ≤ 5100 := fun l h => (hl l h).1.sz
      have hln : (linesOf ps).length = ps.length := by unfold linesOf; rw [List.length_map]
      have hlo : ∀ l ∈ linesOf ps, LineOk l := fun l h => (hl l h).1
      have e3p := k3.get nin0 I.at_
      have r3 := I.rows.kp0 k3
      have d3 := I.dr.kp0 k3
      walk_at "z"
      refine ⟨tyStr, ?_⟩
      walk_at "z"
      refine Z.join (lstL e3) (join_sz (n := 0) (fun l h => Nat.le_trans (hlz l h) (by decide)) (by omega) (by decide +kernel)) ?_
      walk_at "z"
      refine Z.listL (lstL e3p) (fun g H4 ng k4 e4 => ?_)
      walk_at "z"
      refine ⟨g, ps, rfl, e4, r3.kp0 k4, by omega, fun x hx => (I.ok x hx).t, fun H5 k5 => ?_⟩
      walk_at "z"
      refine ⟨tyStr, ?_⟩
      walk_at "z"
      have k35 := k4.trans k5
      refine lcNl (k35.get nin0 e3) hlz (by omega) (fun B H6 nB k6 e6 => ?_)
      walk_at "z"
      refine Z.join (lstL e6) (join_sz (n := 0) (nl_sz hlz) (by rw [List.length_map]; omega) (by decide +kernel)) ?_
      walk_at "z"
      rw [text_lines]
      refine ⟨_, _, rfl, .sc rfl, ?_⟩
      walk_at "z"
      have k36 := k35.trans k6
      have e6D := k36.get nin0 e3
      have hW1 : ∀ (H' : Hp) (E' : XK), readL 1 (fun _ => false) ((linesOf ps).map fun l => Txt.split l " ") = none := fun _ _ => by
        rw [lines_split I.ok]
        exact readL_all (rows_ok I.ok) (rows_nd I.nd) (by unfold rowsOf; rw [List.length_map]; omega)
      have hW := hW1 H E
      have hne : ∀ l ∈ linesOf ps, l ≠ "" := fun l h => (hl l h).2.1
      have hl600 : ∀ l ∈ linesOf ps, l.length ≤ 600 := fun l h => (hl l h).2.2
      have sz1 : (Txt.join "\n" (linesOf ps)).length ≤ 100000 := by
        have := len1 (n := 600) hl600
        rw [hln] at this
        omega
      have sz2 : (Txt.join "" ((linesOf ps).map fun l => l ++ ("\n" : Str))).length ≤ 100000 := by
        have := len2 (n := 600) hl600
        rw [hln] at this
        omega
      have el1 := linesL_1 hlo hne
      have el2 := linesL_text2 (fun l h => (hlo l h).nl)
      refine ⟨_, (linesOf ps).map fun l => Txt.split l " ", rfl, sz1, split_ne1 hlo, by rw [el1], by rw [el1, hln]; omega, by rw [el1]; exact fun l h => Nat.le_trans (hlz l h) (by decide), wsL hlo, fun l c y hr => (by rw [hW] at hr; cases hr), fun _ H7 p7 ps7 np7 k7 e7 r7 es7 => ?_⟩
      rw [lines_split I.ok, rows_parts I.ok] at es7
      walk_at "z"
      refine ⟨tyStr, ?_⟩
      walk_at "z"
      refine lcNl (k7.get nin0 e6D) hlz (by omega) (fun B2 H8 nB2 k8 e8 => ?_)
      walk_at "z"
      refine Z.join (lstL e8) (join_sz (n := 0) (nl_sz hlz) (by rw [List.length_map]; omega) (by decide +kernel)) ?_
      walk_at "z"
      refine ⟨_, (linesOf ps).map fun l => Txt.split l " ", rfl, sz2, split_ne2 hlo, by rw [el2], by rw [el2, hln]; omega, by rw [el2]; exact fun l h => Nat.le_trans (hlz l h) (by decide), wsL hlo, fun l c y hr => (by rw [hW] at hr; cases hr), fun _ H9 p9 ps9 np9 k9 e9 r9 es9 => ?_⟩
      rw [lines_split I.ok, rows_parts I.ok] at es9
      walk_at "z"
      refine Z.lstK (fun T1 H10 nT1 k10 e10 => ?_)
      walk_at "z"
      refine Z.lstK (fun T2 H11 nT2 k11 e11 => ?_)
      have k7_11 := ((k8.trans k9).trans k10).trans k11
      have k9_11 := k10.trans k11
      have k3_11 := (k36.trans k7).trans k7_11
      have e11p := k3_11.get nin0 e3p
      have r11 := r3.kp0 k3_11
      have hlen7 : ps7.length = ps.length := by
        have := congrArg List.length es7
        unfold rowsOf at this
        rwa [List.length_map, List.length_map] at this
      have hlen9 : ps9.length = ps.length := by
        have := congrArg List.length es9
        unfold rowsOf at this
        rwa [List.length_map, List.length_map] at this
      refine ⟨_, _, rfl, .lst (k11.get nin0 e10) e11 rfl (by simp) ?_, ?_⟩
      · intro i u v hu hv
        match i with
        | 0 =>
          cases hu; cases hv
          exact (smRows (k7_11.get nin0 e7) e11p (r7.kp0 k7_11) r11 es7 (by omega))
        | 1 =>
          cases hu; cases hv
          exact (smRows (k9_11.get nin0 e9) e11p (r9.kp0 k9_11) r11 es9 (by omega))
        | n + 2 => cases hu
      walk_at "z"
      have d11 := d3.kp0 k3_11
      have e11D := k3_11.get nin0 e3
      refine ⟨a, rfl, d11, fun H12 wp w hw k12 d12 e12w => ?_⟩
      have nDa : D ≠ a := fun z => by
        obtain ⟨ns2, hns2⟩ := I.dr
        rw [← z, nD] at hns2
        cases hns2
      have e12D := k12.get (nin1 nDa) e11D
      obtain ⟨hwl, hwc⟩ := wrong_ok hw
      walk_at "z"
      refine Z.lenL (lstL e12D) ?_
      rw [List.length_map, hln]
      walk_at "z"
      refine ⟨a, _, rfl, d12, by omega, by omega, fun H13 at_ ha0 ha1 k13 d13 => ?_⟩
      obtain ⟨j, rfl⟩ : ∃ j : Nat, at_ = (j : Int) := ⟨at_.toNat, by omega⟩
      have hj : j ≤ ps.length := by omega
      have e13D := k13.get (nin1 nDa) e12D
      have nwa : wp ≠ a := fun z => by
        obtain ⟨ns2, hns2⟩ := d12
        rw [← z, e12w] at hns2
        have h0 := congrArg (fun l : List V => l[0]?) (HO.lst.inj (Option.some.inj hns2))
        cases ns2 with
        | nil => cases h0
        | cons n r => cases h0
      have e13w := k13.get (nin1 nwa) e12w
      walk_at "z"
      refine ⟨tyStr, ?_⟩
      walk_at "z"
      refine Z.slL (lstL e13D) (fun S1 H14 nS1 k14 e14 => ?_)
      rw [Z.cut_take (by rw [List.length_map, hln]; exact hj), ← List.map_take] at e14
      walk_at "z"
      refine Z.ixL (lstL (k14.get nin0 e13w)) (show atI w.vs 0 = some (.str w.1) from rfl) ?_
      walk_at "z"
      refine Z.lstK (fun S2 H15 nS2 k15 e15 => ?_)
      have hcl : ((linesOf ps).take j).length ≤ 8 := by rw [List.length_take]; omega
      refine Z.cat (k15.get nin0 e14) e15 (by rw [List.length_map, List.length_singleton]; omega) (fun S3 H16 nS3 k16 e16 => ?_)
      walk_at "z"
      have k13_16 := (k14.trans k15).trans k16
      refine Z.slL (lstL (k13_16.get nin0 e13D)) (fun S4 H17 nS4 k17 e17 => ?_)
      rw [Z.cut_drop (by rw [List.length_map, hln]; exact hj), ← List.map_drop] at e17
      have hdl : ((linesOf ps).drop j).length ≤ 8 := by rw [List.length_drop]; omega
      refine Z.cat (k17.get nin0 e16) e17 (by rw [List.length_append, List.length_map, List.length_map, List.length_singleton]; omega) (fun S5 H18 nS5 k18 e18 => ?_)
      have eL : (((linesOf ps).take j).map V.str ++ [V.str w.1]) ++ ((linesOf ps).drop j).map V.str = ((linesOf ps).take j ++ w.1 :: (linesOf ps).drop j).map V.str := by
        rw [List.map_append, List.map_cons, List.append_assoc]; rfl
      rw [eL] at e18
      have hLok : ∀ l ∈ (linesOf ps).take j ++ w.1 :: (linesOf ps).drop j, LineOk l := by
        intro l hm
        rcases List.mem_append.mp hm with z | z
        · exact hlo l (List.mem_of_mem_take z)
        · rcases List.mem_cons.mp z with rfl | z
          · exact hwl
          · exact hlo l (List.mem_of_mem_drop z)
      have hLn : ((linesOf ps).take j ++ w.1 :: (linesOf ps).drop j).length ≤ 9 := by
        rw [List.length_append, List.length_cons, List.length_take, List.length_drop]
        omega
      have hLz : ∀ l ∈ (linesOf ps).take j ++ w.1 :: (linesOf ps).drop j, l.length ≤ 5100 := fun l h => (hLok l h).sz
      have eW : ((linesOf ps).take j ++ w.1 :: (linesOf ps).drop j).map (fun l => Txt.split l " ") = (rowsOf (ps.take j)).map parts ++ Txt.split w.1 " " :: (rowsOf (ps.drop j)).map parts := by
        rw [List.map_append, List.map_cons]
        have h1 := lines_split (ps := ps.take j) fun x hx => I.ok x (List.mem_of_mem_take hx)
        have h2 := lines_split (ps := ps.drop j) fun x hx => I.ok x (List.mem_of_mem_drop hx)
        unfold linesOf at h1 h2 ⊢
        rw [← List.map_take, ← List.map_drop, h1, h2]
      have hR : readL 1 (fun _ => false) (((linesOf ps).take j ++ w.1 :: (linesOf ps).drop j).map (fun l => Txt.split l " ")) = some (j + 1, w.2.1, w.2.2) := by
        rw [eW]
        have hlt : (rowsOf (ps.take j)).length = j := by unfold rowsOf; rw [List.length_map, List.length_take]; omega
        have h3 := readL_bad (rs := rowsOf (ps.take j)) (w := w) (rest := (rowsOf (ps.drop j)).map parts) (rows_ok fun x hx => I.ok x (List.mem_of_mem_take hx)) (rows_nd (by
          have := I.nd
          rw [← List.take_append_drop j ps, List.map_append] at this
          exact (List.nodup_append.mp this).1)) (by omega) hwc
        rw [hlt] at h3
        exact h3
      generalize (linesOf ps).take j ++ w.1 :: (linesOf ps).drop j = L at e18 hLok hLn hLz hR
      refine lcNl e18 hLz (by omega) (fun B3 H19 nB3 k19 e19 => ?_)
      walk_at "z"
      refine Z.join (lstL e19) (join_sz (n := 0) (nl_sz hLz) (by rw [List.length_map]; omega) (by decide +kernel)) ?_
      walk_at "z"
      have el3 := linesL_text2 (fun l h => (hLok l h).nl)
      have sz3 : (Txt.join "" (L.map fun l => l ++ ("\n" : Str))).length ≤ 100000 := by
        have := len2 (n := 5100) hLz
        omega
      refine ⟨_, L.map fun l => Txt.split l " ", rfl, sz3, split_ne2 hLok, by rw [el3], by rw [el3]; omega, by rw [el3]; exact fun l h => Nat.le_trans (hLz l h) (by decide), wsL hLok, fun H20 tp ntp k20 e20 => ?_⟩
      rw [hR] at e20
      dsimp only at e20
      walk_at "z"
      have k13_20 := (((k13_16.trans k17).trans k18).trans k19).trans k20
      have e20w := k13_20.get nin0 e13w
      have e20D := k13_20.get nin0 e13D
      have d20 := d13.kp0 k13_20
      refine Z.ixL (lstL e20w) (show atI w.vs 1 = some (.int w.2.1) from rfl) ?_
      walk_at "z"
      refine Z.ixL (lstL e20w) (show atI w.vs 2 = some (.str w.2.2) from rfl) ?_
      walk_at "z"
      refine Z.lstK (fun T3 H21 nT3 k21 e21 => ?_)
      refine ⟨_, _, rfl, .plain (k21.get nin0 e20) (by rw [show ((j + 1 : Nat) : Int) = (j : Int) + 1 by omega]; exact e21) (by simp) ?_, ?_⟩
      · intro z hz
        simp only [List.mem_cons, List.not_mem_nil, or_false] at hz
        rcases hz with rfl | rfl | rfl <;> rfl
      walk_at "z"
      have e21D := k21.get nin0 e20D
      have d21 := d20.kp0 k21
      refine Z.seqJ (fun σ' H' => ∃ t, σ' = [some (.ref c), some (.ref a), some (.ref p), some (.ref D), some (.str (Txt.join "\n" (linesOf ps))), some (.ref wp), some (.int (j : Int)), t, none, none, none, none] ∧ DrawsAt H' a) ?_ ?_
      · rintro σ' H22 ⟨t, rfl, d22⟩
        walk_at "z"
        refine ⟨a, 2, rfl, d22, by decide, by decide, fun H23 v hv0 hv1 k23 d23 => ?_⟩
        obtain ⟨m, hm, hm2⟩ : ∃ m : Nat, 1000 + v = (m : Int) ∧ (m = 1000 ∨ m = 1001) := ⟨(1000 + v).toNat, by omega, by omega⟩
        have hmn : m ≤ 1001 := by omega
        walk_at "z"
        refine ⟨a, 8, rfl, d23, by decide, by decide, fun H24 v8 hv80 hv81 k24 d24 => ?_⟩
        walk_at "z"
        refine Z.ite (fun h8 => ?_) (fun h8 => ?_)
        · walk_at "z"
          exact q _
        · walk_at "z"
          refine ⟨tyStr, ?_⟩
          walk_at "z"
          refine Z.lcr m hm (by omega) (fun B i H' => Kp [] H24 H' ∧ H' B = some (.lst ((nlines i).map V.str))) ?_ ?_ ?_
          · intro B H25 nB k25 e25
            exact ⟨k25, e25⟩
          · rintro B i H25 nB hi ⟨k25, e25⟩
            dsimp only [wipe, List.set]
            walk_at "z"
            refine ⟨rfl, ?_⟩
            walk_at "z"
            have hi2 : i ≤ 1000 := by omega
            have hnk : (Str.ofString (toString (i : Int))).length ≤ 10 := (mOk (w := (i : Int)) (by omega) (by omega)).2
            refine ⟨_, rfl, Nat.lt_of_lt_of_le (PySem.Flt.log2_lt_of (k := 30) (by decide) (Nat.lt_of_le_of_lt (show ((i : Int)).natAbs ≤ 1000 by omega) (by decide))) (by decide), ?_⟩
            walk_at "z"
            have zl : 100000 ≤ sizeLine := (by decide)
            refine Z.addS (by rw [show ("n" : Str).length = 1 by decide +kernel]; omega) ?_
            walk_at "z"
            refine Z.addS (by rw [app_len, show ("n" : Str).length = 1 by decide +kernel, show (" g 1 0" : Str).length = 6 by decide +kernel]; omega) ?_
            refine ⟨_, e25, Z.szl (m := 2000) (by unfold nlines; rw [List.length_map, List.length_map, List.length_range]; omega), k25.mut nB rfl, ?_⟩
            rw [upd_same]
            unfold nlines
            rw [List.range_succ, List.map_append, List.map_append]; rfl
          · rintro B H25 nB ⟨k25, e25⟩
            walk_at "z"
            have hln2 : (nlines m).length = m := by unfold nlines; rw [List.length_map, List.length_range]
            have hL2 := nlines_ok hmn
            have hL2ok : ∀ l ∈ nlines m, LineOk l := fun l h => (hL2 l h).1
            have hL2ne : ∀ l ∈ nlines m, l ≠ "" := fun l h => (hL2 l h).2.1
            have hL2z : ∀ l ∈ nlines m, l.length ≤ 17 := fun l h => (hL2 l h).2.2.1
            refine Z.join (lstL e25) (join_sz (n := 0) (a := "\n") (fun l h => Nat.le_trans (hL2z l h) (by decide)) (by omega) (by decide +kernel)) ?_
            walk_at "z"
            have sz4 : (Txt.join "\n" (nlines m)).length ≤ 100000 := by
              have := len1 (n := 17) hL2z
              omega
            have el4 := linesL_1 hL2ok hL2ne
            refine ⟨_, (nlines m).map fun l => Txt.split l " ", rfl, sz4, split_ne1 hL2ok, by rw [el4], by rw [el4]; omega, by rw [el4]; exact fun l h => Nat.le_trans (hL2z l h) (by decide), wsL hL2ok, fun H26 tp2 ntp2 k26 e26 => ?_⟩
            walk_at "z"
            refine Z.lstK (fun E0_ H27 nE0 k27 e27 => ?_)
            walk_at "z"
            refine Z.lstK (fun E1_ H28 nE1 k28 e28 => ?_)
            walk_at "z"
            refine Z.lstK (fun E2_ H29 nE2 k29 e29 => ?_)
            have k26_29 := (k27.trans k28).trans k29
            have e29t := k26_29.get nin0 e26
            walk_at "z"
            rcases hm2 with rfl | rfl
            · have hv : v = 0 := by omega
              subst hv
              rw [readL_1000] at e29t
              dsimp only at e29t
              refine Z.ixL (lstL e29) (show atI [V.ref E0_, V.ref E1_] (1000 + 0 - 1000) = some (.ref E0_) from rfl) ?_
              walk_at "z"
              refine ⟨_, _, rfl, .plain e29t ((k28.trans k29).get nin0 e27) (by simp) (fun z hz => by cases hz), ?_⟩
              exact q _
            · have hv : v = 1 := by omega
              subst hv
              rw [readL_1001] at e29t
              dsimp only at e29t
              refine Z.ixL (lstL e29) (show atI [V.ref E0_, V.ref E1_] (1000 + 1 - 1000) = some (.ref E1_) from rfl) ?_
              walk_at "z"
              refine ⟨_, _, rfl, .plain e29t (k29.get nin0 e28) (by simp) (fun z hz => by
                simp only [List.mem_cons, List.not_mem_nil, or_false] at hz
                rcases hz with rfl | rfl | rfl <;> rfl), ?_⟩
              exact q _
      · intro N jn
        walk_at "z"
        refine Z.lenL (lstL e21D) ?_
        rw [List.length_map, hln]
        walk_at "z"
        refine Z.ite (fun h0 => ?_) (fun h0 => ?_)
        · walk_at "z"
          refine ⟨tyStr, ?_⟩
          walk_at "z"
          refine Z.lenL (lstL e21D) ?_
          rw [List.length_map, hln]
          walk_at "z"
          refine ⟨a, _, rfl, d21, by omega, by omega, fun H22 v hv0 hv1 k22 d22 => ?_⟩
          obtain ⟨i, rfl⟩ : ∃ i : Nat, v = (i : Int) := ⟨v.toNat, by omega⟩
          have hi : i < ps.length := by omega
          have e22D := k22.get (nin1 nDa) e21D
          have hx : ps[i]? = some ps[i] := List.getElem?_eq_getElem hi
          generalize ps[i] = x at hx
          have hxm := List.mem_of_getElem? hx
          have hxl : (linesOf ps)[i]? = some (lineL x.2) := by unfold linesOf; rw [List.getElem?_map, hx]; rfl
          walk_at "z"
          refine Z.ixL (lstL e22D) (atI_nat (v := .str (lineL x.2)) (by rw [List.getElem?_map, hxl]; rfl)) ?_
          walk_at "z"
          refine Z.lstK (fun T4 H23 nT4 k23 e23 => ?_)
          refine Z.cat (k23.get nin0 e22D) e23 (by rw [List.length_map, List.length_singleton]; omega) (fun S6 H24 nS6 k24 e24 => ?_)
          have eL2 : (linesOf ps).map V.str ++ [V.str (lineL x.2)] = (linesOf ps ++ [lineL x.2]).map V.str := by rw [List.map_append]; rfl
          rw [eL2] at e24
          have hL3 : ∀ l ∈ linesOf ps ++ [lineL x.2], LineOk l ∧ l ≠ "" ∧ l.length ≤ 600 := by
            intro l hm
            rcases List.mem_append.mp hm with z | z
            · exact hl l z
            · rw [List.mem_singleton.mp z]
              exact (I.ok x hxm).line
          have hL3n : (linesOf ps ++ [lineL x.2]).length ≤ 9 := by rw [List.length_append, List.length_singleton]; omega
          have eW3 : (linesOf ps ++ [lineL x.2]).map (fun l => Txt.split l " ") = (rowsOf ps).map parts ++ [parts x.2] := by
            rw [List.map_append, lines_split I.ok]
            show _ ++ [Txt.split (lineL x.2) " "] = _
            rw [(I.ok x hxm).split]
          have hR3 : readL 1 (fun _ => false) ((linesOf ps ++ [lineL x.2]).map (fun l => Txt.split l " ")) = some (ps.length + 1, 1, ("taken" : Str)) := by
            rw [eW3, readL_twice (rows_ok I.ok) (rows_nd I.nd) (by unfold rowsOf; rw [List.length_map]; omega) (List.mem_map.mpr ⟨x, hxm, rfl⟩)]
            unfold rowsOf
            rw [List.length_map]
          have hL3ok : ∀ l ∈ linesOf ps ++ [lineL x.2], LineOk l := fun l h => (hL3 l h).1
          have hL3ne : ∀ l ∈ linesOf ps ++ [lineL x.2], l ≠ "" := fun l h => (hL3 l h).2.1
          have hL3z : ∀ l ∈ linesOf ps ++ [lineL x.2], l.length ≤ 600 := fun l h => (hL3 l h).2.2
          generalize linesOf ps ++ [lineL x.2] = L3 at e24 hL3n hR3 hL3ok hL3ne hL3z
          walk_at "z"
          refine Z.join (lstL e24) (join_sz (n := 0) (a := "\n") (fun l h => Nat.le_trans (hL3z l h) (by decide)) (by omega) (by decide +kernel)) ?_
          walk_at "z"
          have sz5 : (Txt.join "\n" L3).length ≤ 100000 := by
            have := len1 (n := 600) hL3z
            omega
          have el5 := linesL_1 hL3ok hL3ne
          refine ⟨_, L3.map fun l => Txt.split l " ", rfl, sz5, split_ne1 hL3ok, by rw [el5], by rw [el5]; omega, by rw [el5]; exact fun l h => Nat.le_trans (hL3z l h) (by decide), wsL hL3ok, fun H25 tp3 ntp3 k25 e25 => ?_⟩
          rw [hR3] at e25
          dsimp only at e25
          walk_at "z"
          refine Z.lenL (lstL (((k23.trans k24).trans k25).get nin0 e22D)) ?_
          rw [List.length_map, hln]
          walk_at "z"
          refine Z.lstK (fun T5 H26 nT5 k26 e26 => ?_)
          refine ⟨_, _, rfl, .plain (k26.get nin0 e25) (by rw [show ((ps.length + 1 : Nat) : Int) = (ps.length : Int) + 1 by omega]; exact e26) (by simp) ?_, ?_⟩
          · intro z hz
            simp only [List.mem_cons, List.not_mem_nil, or_false] at hz
            rcases hz with rfl | rfl | rfl <;> rfl
          walk_at "z"
          exact jn _ _ ⟨_, rfl, (((d22.kp0 k23).kp0 k24).kp0 k25).kp0 k26⟩
        · walk_at "z"
          exact jn _ _ ⟨_, rfl, d21⟩

theorem all_mk {l : PySem.W.OpenLaw} {w : World} {K : PySem.W.Frag} {h : Heap} {mg : Str → Option Value} {fa : Addr} (X : K.In h) (G : h.Ns mainGlobals mg) (hfa : mg "law" = some (.ref fa))
    {CSamphireError : Addr}
    {CTextError fTextError cTextError ccTextError : Addr}
    {CTooLarge fTooLarge cTooLarge ccTooLarge : Addr}
    {od1 an1 : Option Addr} {sl1 : Array (Option Value)} {oc1 kV1 dc1 pm1 cd1 ct1 : Value} {f1 : Addr}
    {od2 an2 : Option Addr} {sl2 : Array (Option Value)} {oc2 kV2 dc2 pm2 cd2 ct2 : Value} {f2 : Addr}
    {od3 an3 : Option Addr} {sl3 : Array (Option Value)} {oc3 kV3 dc3 pm3 cd3 ct3 : Value} {f3 : Addr}
    {od4 an4 : Option Addr} {sl4 : Array (Option Value)} {oc4 kV4 dc4 pm4 cd4 ct4 : Value} {f4 : Addr}
    {od5 an5 : Option Addr} {sl5 : Array (Option Value)} {oc5 kV5 dc5 pm5 cd5 ct5 : Value} {f5 : Addr}
    {od6 an6 : Option Addr} {sl6 : Array (Option Value)} {oc6 kV6 dc6 pm6 cd6 ct6 : Value} {f6 : Addr}
    {od7 an7 : Option Addr} {sl7 : Array (Option Value)} {oc7 kV7 dc7 pm7 cd7 ct7 : Value} {f7 : Addr}
    {od8 an8 : Option Addr} {sl8 : Array (Option Value)} {oc8 kV8 dc8 pm8 cd8 ct8 : Value} {f8 : Addr}
    {od9 an9 : Option Addr} {sl9 : Array (Option Value)} {oc9 kV9 dc9 pm9 cd9 ct9 : Value} {f9 : Addr}
    {od10 an10 : Option Addr} {sl10 : Array (Option Value)} {oc10 kV10 dc10 pm10 cd10 ct10 : Value} {f10 : Addr}
    {od11 an11 : Option Addr} {sl11 : Array (Option Value)} {oc11 kV11 dc11 pm11 cd11 ct11 : Value} {f11 : Addr}
    {od12 an12 : Option Addr} {sl12 : Array (Option Value)} {oc12 kV12 dc12 pm12 cd12 ct12 : Value} {f12 : Addr}
    {od13 an13 : Option Addr} {sl13 : Array (Option Value)} {oc13 kV13 dc13 pm13 cd13 ct13 : Value} {f13 : Addr}
    {od14 an14 : Option Addr} {sl14 : Array (Option Value)} {oc14 kV14 dc14 pm14 cd14 ct14 : Value} {f14 : Addr}
    {od15 an15 : Option Addr} {sl15 : Array (Option Value)} {oc15 kV15 dc15 pm15 cd15 ct15 : Value} {f15 : Addr}
    {od16 an16 : Option Addr} {sl16 : Array (Option Value)} {oc16 kV16 dc16 pm16 cd16 ct16 : Value} {f16 : Addr}
    {od17 an17 : Option Addr} {sl17 : Array (Option Value)} {oc17 kV17 dc17 pm17 cd17 ct17 : Value} {f17 : Addr}
    {od18 an18 : Option Addr} {sl18 : Array (Option Value)} {oc18 kV18 dc18 pm18 cd18 ct18 : Value} {f18 : Addr}
    {od19 an19 : Option Addr} {sl19 : Array (Option Value)} {oc19 kV19 dc19 pm19 cd19 ct19 : Value} {f19 : Addr}
    {od20 an20 : Option Addr} {sl20 : Array (Option Value)} {oc20 kV20 dc20 pm20 cd20 ct20 : Value} {f20 : Addr}
    {nmTextError qTextError : Str} {NTextError : Addr} {bsTextError : List Value} {snTextError : List Str} {subTextError : List Value} {abTextError : Bool} {colTextError : Option Bool} {ddTextError : Option Addr} {m0TextError m1TextError m2TextError m3TextError m5TextError : Option Value} {occTextError : Value} {cddTextError : Option Addr} {cvsTextError : List Value} {cslTextError : Array (Option Value)} {cclTextError : Value} {ccdTextError : Option Addr} {ccsTextError : Array (Option Value)} {ocTextError : Value} {odTextError : Option Addr} {oslTextError : Array (Option Value)} {docTextError pmTextError ctvTextError : Value}
    {nmTooLarge qTooLarge : Str} {NTooLarge : Addr} {bsTooLarge : List Value} {snTooLarge : List Str} {subTooLarge : List Value} {abTooLarge : Bool} {colTooLarge : Option Bool} {ddTooLarge : Option Addr} {m0TooLarge m1TooLarge m2TooLarge m3TooLarge m5TooLarge : Option Value} {occTooLarge : Value} {cddTooLarge : Option Addr} {cvsTooLarge : List Value} {cslTooLarge : Array (Option Value)} {cclTooLarge : Value} {ccdTooLarge : Option Addr} {ccsTooLarge : Array (Option Value)} {ocTooLarge : Value} {odTooLarge : Option Addr} {oslTooLarge : Array (Option Value)} {docTooLarge pmTooLarge ctvTooLarge : Value}
    {t_DIGITS : Tok}
    {t_WORD_SIGNS : Tok}
    {t_MOST_IN_NAME : Tok}
    {t_MOST_WEIGHT : Tok}
    {t_MOST_AMOUNT : Tok}
    {t_MOST_CHARACTERS : Tok}
    {t_MOST_LINES : Tok}
    {t_WORDS_OF_ITEM : Tok}
    (a1 : PySem.W.nsIn K mainGlobals "made_of" = some (some (.ref f1)))
    (l1 : K.lookup f1 = some ⟨oc1, od1, .func (PySem.W.fnOf "made_of" "made_of" (defArgs s_made_of) (defBody s_made_of) (defScope s_made_of) .none kV1 dc1 pm1 an1 cd1 ct1), sl1⟩)
    (c1 : PySem.W.codeIn K cd1 "made_of" = true)
    (k1 : PySem.W.keepIn K (.ref f1) = true)
    (a2 : PySem.W.nsIn K mainGlobals "lines_of" = some (some (.ref f2)))
    (l2 : K.lookup f2 = some ⟨oc2, od2, .func (PySem.W.fnOf "lines_of" "lines_of" (defArgs s_lines_of) (defBody s_lines_of) (defScope s_lines_of) .none kV2 dc2 pm2 an2 cd2 ct2), sl2⟩)
    (c2 : PySem.W.codeIn K cd2 "lines_of" = true)
    (k2 : PySem.W.keepIn K (.ref f2) = true)
    (a3 : PySem.W.nsIn K mainGlobals "words_of" = some (some (.ref f3)))
    (l3 : K.lookup f3 = some ⟨oc3, od3, .func (PySem.W.fnOf "words_of" "words_of" (defArgs s_words_of) (defBody s_words_of) (defScope s_words_of) .none kV3 dc3 pm3 an3 cd3 ct3), sl3⟩)
    (c3 : PySem.W.codeIn K cd3 "words_of" = true)
    (k3 : PySem.W.keepIn K (.ref f3) = true)
    (a4 : PySem.W.nsIn K mainGlobals "column_of" = some (some (.ref f4)))
    (l4 : K.lookup f4 = some ⟨oc4, od4, .func (PySem.W.fnOf "column_of" "column_of" (defArgs s_column_of) (defBody s_column_of) (defScope s_column_of) .none kV4 dc4 pm4 an4 cd4 ct4), sl4⟩)
    (c4 : PySem.W.codeIn K cd4 "column_of" = true)
    (k4 : PySem.W.keepIn K (.ref f4) = true)
    (a5 : PySem.W.nsIn K mainGlobals "writes_integer" = some (some (.ref f5)))
    (l5 : K.lookup f5 = some ⟨oc5, od5, .func (PySem.W.fnOf "writes_integer" "writes_integer" (defArgs s_writes_integer) (defBody s_writes_integer) (defScope s_writes_integer) .none kV5 dc5 pm5 an5 cd5 ct5), sl5⟩)
    (c5 : PySem.W.codeIn K cd5 "writes_integer" = true)
    (k5 : PySem.W.keepIn K (.ref f5) = true)
    (a6 : PySem.W.nsIn K mainGlobals "integer_within" = some (some (.ref f6)))
    (l6 : K.lookup f6 = some ⟨oc6, od6, .func (PySem.W.fnOf "integer_within" "integer_within" (defArgs s_integer_within) (defBody s_integer_within) (defScope s_integer_within) .none kV6 dc6 pm6 an6 cd6 ct6), sl6⟩)
    (c6 : PySem.W.codeIn K cd6 "integer_within" = true)
    (k6 : PySem.W.keepIn K (.ref f6) = true)
    (a7 : PySem.W.nsIn K mainGlobals "is_name" = some (some (.ref f7)))
    (l7 : K.lookup f7 = some ⟨oc7, od7, .func (PySem.W.fnOf "is_name" "is_name" (defArgs s_is_name) (defBody s_is_name) (defScope s_is_name) .none kV7 dc7 pm7 an7 cd7 ct7), sl7⟩)
    (c7 : PySem.W.codeIn K cd7 "is_name" = true)
    (k7 : PySem.W.keepIn K (.ref f7) = true)
    (a8 : PySem.W.nsIn K mainGlobals "word_fault" = some (some (.ref f8)))
    (l8 : K.lookup f8 = some ⟨oc8, od8, .func (PySem.W.fnOf "word_fault" "word_fault" (defArgs s_word_fault) (defBody s_word_fault) (defScope s_word_fault) .none kV8 dc8 pm8 an8 cd8 ct8), sl8⟩)
    (c8 : PySem.W.codeIn K cd8 "word_fault" = true)
    (k8 : PySem.W.keepIn K (.ref f8) = true)
    (a9 : PySem.W.nsIn K mainGlobals "item_of" = some (some (.ref f9)))
    (l9 : K.lookup f9 = some ⟨oc9, od9, .func (PySem.W.fnOf "item_of" "item_of" (defArgs s_item_of) (defBody s_item_of) (defScope s_item_of) .none kV9 dc9 pm9 an9 cd9 ct9), sl9⟩)
    (c9 : PySem.W.codeIn K cd9 "item_of" = true)
    (k9 : PySem.W.keepIn K (.ref f9) = true)
    (a10 : PySem.W.nsIn K mainGlobals "line_fault" = some (some (.ref f10)))
    (l10 : K.lookup f10 = some ⟨oc10, od10, .func (PySem.W.fnOf "line_fault" "line_fault" (defArgs s_line_fault) (defBody s_line_fault) (defScope s_line_fault) .none kV10 dc10 pm10 an10 cd10 ct10), sl10⟩)
    (c10 : PySem.W.codeIn K cd10 "line_fault" = true)
    (k10 : PySem.W.keepIn K (.ref f10) = true)
    (a11 : PySem.W.nsIn K mainGlobals "read_items" = some (some (.ref f11)))
    (l11 : K.lookup f11 = some ⟨oc11, od11, .func (PySem.W.fnOf "read_items" "read_items" (defArgs s_read_items) (defBody s_read_items) (defScope s_read_items) .none kV11 dc11 pm11 an11 cd11 ct11), sl11⟩)
    (c11 : PySem.W.codeIn K cd11 "read_items" = true)
    (k11 : PySem.W.keepIn K (.ref f11) = true)
    (a12 : PySem.W.nsIn K mainGlobals "write_items" = some (some (.ref f12)))
    (l12 : K.lookup f12 = some ⟨oc12, od12, .func (PySem.W.fnOf "write_items" "write_items" (defArgs s_write_items) (defBody s_write_items) (defScope s_write_items) .none kV12 dc12 pm12 an12 cd12 ct12), sl12⟩)
    (c12 : PySem.W.codeIn K cd12 "write_items" = true)
    (k12 : PySem.W.keepIn K (.ref f12) = true)
    (a13 : PySem.W.nsIn K mainGlobals "_law_draws" = some (some (.ref f13)))
    (l13 : K.lookup f13 = some ⟨oc13, od13, .func (PySem.W.fnOf "_law_draws" "_law_draws" (defArgs s__law_draws) (defBody s__law_draws) (defScope s__law_draws) .none kV13 dc13 pm13 an13 cd13 ct13), sl13⟩)
    (c13 : PySem.W.codeIn K cd13 "_law_draws" = true)
    (k13 : PySem.W.keepIn K (.ref f13) = true)
    (a14 : PySem.W.nsIn K mainGlobals "_law_take" = some (some (.ref f14)))
    (l14 : K.lookup f14 = some ⟨oc14, od14, .func (PySem.W.fnOf "_law_take" "_law_take" (defArgs s__law_take) (defBody s__law_take) (defScope s__law_take) .none kV14 dc14 pm14 an14 cd14 ct14), sl14⟩)
    (c14 : PySem.W.codeIn K cd14 "_law_take" = true)
    (k14 : PySem.W.keepIn K (.ref f14) = true)
    (a15 : PySem.W.nsIn K mainGlobals "_law_same" = some (some (.ref f15)))
    (l15 : K.lookup f15 = some ⟨oc15, od15, .func (PySem.W.fnOf "_law_same" "_law_same" (defArgs s__law_same) (defBody s__law_same) (defScope s__law_same) .none kV15 dc15 pm15 an15 cd15 ct15), sl15⟩)
    (c15 : PySem.W.codeIn K cd15 "_law_same" = true)
    (k15 : PySem.W.keepIn K (.ref f15) = true)
    (a16 : PySem.W.nsIn K mainGlobals "_law_name" = some (some (.ref f16)))
    (l16 : K.lookup f16 = some ⟨oc16, od16, .func (PySem.W.fnOf "_law_name" "_law_name" (defArgs s__law_name) (defBody s__law_name) (defScope s__law_name) .none kV16 dc16 pm16 an16 cd16 ct16), sl16⟩)
    (c16 : PySem.W.codeIn K cd16 "_law_name" = true)
    (k16 : PySem.W.keepIn K (.ref f16) = true)
    (a17 : PySem.W.nsIn K mainGlobals "_law_items" = some (some (.ref f17)))
    (l17 : K.lookup f17 = some ⟨oc17, od17, .func (PySem.W.fnOf "_law_items" "_law_items" (defArgs s__law_items) (defBody s__law_items) (defScope s__law_items) .none kV17 dc17 pm17 an17 cd17 ct17), sl17⟩)
    (c17 : PySem.W.codeIn K cd17 "_law_items" = true)
    (k17 : PySem.W.keepIn K (.ref f17) = true)
    (a18 : PySem.W.nsIn K mainGlobals "_law_error" = some (some (.ref f18)))
    (l18 : K.lookup f18 = some ⟨oc18, od18, .func (PySem.W.fnOf "_law_error" "_law_error" (defArgs s__law_error) (defBody s__law_error) (defScope s__law_error) .none kV18 dc18 pm18 an18 cd18 ct18), sl18⟩)
    (c18 : PySem.W.codeIn K cd18 "_law_error" = true)
    (k18 : PySem.W.keepIn K (.ref f18) = true)
    (a19 : PySem.W.nsIn K mainGlobals "_law_wrong" = some (some (.ref f19)))
    (l19 : K.lookup f19 = some ⟨oc19, od19, .func (PySem.W.fnOf "_law_wrong" "_law_wrong" (defArgs s__law_wrong) (defBody s__law_wrong) (defScope s__law_wrong) .none kV19 dc19 pm19 an19 cd19 ct19), sl19⟩)
    (c19 : PySem.W.codeIn K cd19 "_law_wrong" = true)
    (k19 : PySem.W.keepIn K (.ref f19) = true)
    (a20 : PySem.W.nsIn K mainGlobals "law" = some (some (.ref f20)))
    (l20 : K.lookup f20 = some ⟨oc20, od20, .func (PySem.W.fnOf "law" "law" (defArgs s_law) (defBody s_law) (defScope s_law) .none kV20 dc20 pm20 an20 cd20 ct20), sl20⟩)
    (c20 : PySem.W.codeIn K cd20 "law" = true)
    (k20 : PySem.W.keepIn K (.ref f20) = true)
    (aCSamphireError : PySem.W.nsIn K mainGlobals "SamphireError" = some (some (.ref CSamphireError)))
    (aCTextError : PySem.W.nsIn K mainGlobals "TextError" = some (some (.ref CTextError)))
    (iCTextError : PySem.W.findIn K (.ref CTextError) "__init__" = some (some (.ref fTextError)))
    (tITextError : PySem.W.typeIn K (.ref fTextError) = some (.type "function"))
    (lkTextError : K.lookup fTextError = some ⟨ocTextError, odTextError, .func ((NF_TextError ccTextError cTextError).fd docTextError pmTextError ctvTextError), oslTextError⟩)
    (hcTextError : PySem.W.codeIn K (.ref cTextError) "TextError.__init__" = true)
    (xLTextError : K.lookup CTextError = some (excClassObj nmTextError qTextError CTextError NTextError bsTextError [.ref CSamphireError, .type "ValueError", .type "Exception", .type "BaseException", .type "object"] true snTextError subTextError abTextError colTextError ddTextError m0TextError m1TextError m2TextError m3TextError m5TextError "ValueError.__new__"))
    (saTextError : PySem.W.findIn K (.ref CTextError) "__setattr__" = some (some (.builtin "object.__setattr__")))
    (sBTextError : PySem.W.subIn K (.ref CTextError) (.type "BaseException") = some true)
    (tCTextError : PySem.W.typeIn K (.ref CTextError) = some (.type "type"))
    (kCTextError : PySem.W.keepIn K (.ref CTextError) = true)
    (coTextError : K.lookup cTextError = some ⟨occTextError, cddTextError, .fields cvsTextError.toArray, cslTextError⟩)
    (flTextError : (match cvsTextError with | _ :: _ :: .str file _ :: _ => (l.prog.main.file : Str) == file | _ => false) = true)
    (ceTextError : K.lookup ccTextError = some ⟨cclTextError, ccdTextError, .cell (some (.ref CTextError)), ccsTextError⟩)
    (mrTextError : PySem.W.mroIn K CTextError (.ref CTextError) = some true)
    (sVTextError : PySem.W.subIn K (.ref CTextError) (.type "ValueError") = some true)
    (anTextError : PySem.W.nsIn K PySem.cStatics "thirdparty.any" = some none)
    (suTextError : PySem.W.ks_superIn K CTextError CTextError "__init__" = some (some (.builtin "ValueError.__init__")))
    (tpTextError : (l.prog.main.scope.names.lookup ("super" : Str)).isSome = false)
    (hgTextError : PySem.W.findIn K (.ref CTextError) "__getattribute__" = some (some (.builtin "BaseException.__getattribute__")))
    (hkTextError : PySem.W.findIn K (.ref CTextError) "__getattr__" = some none)
    (hdTextError : PySem.W.hasDictIn K CTextError = true)
    (haTextError : PySem.W.findIn K (.ref CTextError) "__class__" = some (some (.builtin "object.__class__")))
    (hnTextError : PySem.W.specialIn K (.builtin "object.__class__") "__get__" = some (some (.builtin "getset_descriptor.__get__")))
    (htTextError : PySem.W.takesIn K (.builtin "object.__class__") = some true)
    (hmTextError : PySem.W.mroIn K CTextError (.type "object") = some true)
    (icTextError : PySem.W.isClsIn K CTextError = true)
    (sCTextError : PySem.W.subIn K (.ref CTextError) (.ref CTextError) = some true)
    (nf_line_TextError : PySem.W.findIn K (.ref CTextError) "line" = some none)
    (nf_column_TextError : PySem.W.findIn K (.ref CTextError) "column" = some none)
    (nf_reason_TextError : PySem.W.findIn K (.ref CTextError) "reason" = some none)
    (aCTooLarge : PySem.W.nsIn K mainGlobals "TooLarge" = some (some (.ref CTooLarge)))
    (iCTooLarge : PySem.W.findIn K (.ref CTooLarge) "__init__" = some (some (.ref fTooLarge)))
    (tITooLarge : PySem.W.typeIn K (.ref fTooLarge) = some (.type "function"))
    (lkTooLarge : K.lookup fTooLarge = some ⟨ocTooLarge, odTooLarge, .func ((NF_TooLarge ccTooLarge cTooLarge).fd docTooLarge pmTooLarge ctvTooLarge), oslTooLarge⟩)
    (hcTooLarge : PySem.W.codeIn K (.ref cTooLarge) "TooLarge.__init__" = true)
    (xLTooLarge : K.lookup CTooLarge = some (excClassObj nmTooLarge qTooLarge CTooLarge NTooLarge bsTooLarge [.ref CSamphireError, .type "ValueError", .type "Exception", .type "BaseException", .type "object"] true snTooLarge subTooLarge abTooLarge colTooLarge ddTooLarge m0TooLarge m1TooLarge m2TooLarge m3TooLarge m5TooLarge "ValueError.__new__"))
    (saTooLarge : PySem.W.findIn K (.ref CTooLarge) "__setattr__" = some (some (.builtin "object.__setattr__")))
    (sBTooLarge : PySem.W.subIn K (.ref CTooLarge) (.type "BaseException") = some true)
    (tCTooLarge : PySem.W.typeIn K (.ref CTooLarge) = some (.type "type"))
    (kCTooLarge : PySem.W.keepIn K (.ref CTooLarge) = true)
    (coTooLarge : K.lookup cTooLarge = some ⟨occTooLarge, cddTooLarge, .fields cvsTooLarge.toArray, cslTooLarge⟩)
    (flTooLarge : (match cvsTooLarge with | _ :: _ :: .str file _ :: _ => (l.prog.main.file : Str) == file | _ => false) = true)
    (ceTooLarge : K.lookup ccTooLarge = some ⟨cclTooLarge, ccdTooLarge, .cell (some (.ref CTooLarge)), ccsTooLarge⟩)
    (mrTooLarge : PySem.W.mroIn K CTooLarge (.ref CTooLarge) = some true)
    (sVTooLarge : PySem.W.subIn K (.ref CTooLarge) (.type "ValueError") = some true)
    (anTooLarge : PySem.W.nsIn K PySem.cStatics "thirdparty.any" = some none)
    (suTooLarge : PySem.W.ks_superIn K CTooLarge CTooLarge "__init__" = some (some (.builtin "ValueError.__init__")))
    (tpTooLarge : (l.prog.main.scope.names.lookup ("super" : Str)).isSome = false)
    (hgTooLarge : PySem.W.findIn K (.ref CTooLarge) "__getattribute__" = some (some (.builtin "BaseException.__getattribute__")))
    (hkTooLarge : PySem.W.findIn K (.ref CTooLarge) "__getattr__" = some none)
    (hdTooLarge : PySem.W.hasDictIn K CTooLarge = true)
    (haTooLarge : PySem.W.findIn K (.ref CTooLarge) "__class__" = some (some (.builtin "object.__class__")))
    (hnTooLarge : PySem.W.specialIn K (.builtin "object.__class__") "__get__" = some (some (.builtin "getset_descriptor.__get__")))
    (htTooLarge : PySem.W.takesIn K (.builtin "object.__class__") = some true)
    (hmTooLarge : PySem.W.mroIn K CTooLarge (.type "object") = some true)
    (icTooLarge : PySem.W.isClsIn K CTooLarge = true)
    (sCTooLarge : PySem.W.subIn K (.ref CTooLarge) (.ref CTooLarge) = some true)
    (nf_limit_TooLarge : PySem.W.findIn K (.ref CTooLarge) "limit" = some none)
    (z_abs : PySem.W.nsIn K mainGlobals "abs" = some none)
    (z_bool : PySem.W.nsIn K mainGlobals "bool" = some none)
    (z_enumerate : PySem.W.nsIn K mainGlobals "enumerate" = some none)
    (z_int : PySem.W.nsIn K mainGlobals "int" = some none)
    (z_isinstance : PySem.W.nsIn K mainGlobals "isinstance" = some none)
    (z_len : PySem.W.nsIn K mainGlobals "len" = some none)
    (z_list : PySem.W.nsIn K mainGlobals "list" = some none)
    (z_max : PySem.W.nsIn K mainGlobals "max" = some none)
    (z_range : PySem.W.nsIn K mainGlobals "range" = some none)
    (z_reversed : PySem.W.nsIn K mainGlobals "reversed" = some none)
    (z_str : PySem.W.nsIn K mainGlobals "str" = some none)
    (z_sum : PySem.W.nsIn K mainGlobals "sum" = some none)
    (z_super : PySem.W.nsIn K mainGlobals "super" = some none)
    (z_tuple : PySem.W.nsIn K mainGlobals "tuple" = some none)
    (v_DIGITS : PySem.W.nsIn K mainGlobals "DIGITS" = some (some (.str "0123456789" t_DIGITS)))
    (v_WORD_SIGNS : PySem.W.nsIn K mainGlobals "WORD_SIGNS" = some (some (.str "abcdefghijklmnopqrstuvwxyz0123456789" t_WORD_SIGNS)))
    (v_MOST_IN_NAME : PySem.W.nsIn K mainGlobals "MOST_IN_NAME" = some (some (.int (12) t_MOST_IN_NAME)))
    (v_MOST_WEIGHT : PySem.W.nsIn K mainGlobals "MOST_WEIGHT" = some (some (.int (1000) t_MOST_WEIGHT)))
    (v_MOST_AMOUNT : PySem.W.nsIn K mainGlobals "MOST_AMOUNT" = some (some (.int (1000) t_MOST_AMOUNT)))
    (v_MOST_CHARACTERS : PySem.W.nsIn K mainGlobals "MOST_CHARACTERS" = some (some (.int (100000) t_MOST_CHARACTERS)))
    (v_MOST_LINES : PySem.W.nsIn K mainGlobals "MOST_LINES" = some (some (.int (1000) t_MOST_LINES)))
    (v_WORDS_OF_ITEM : PySem.W.nsIn K mainGlobals "WORDS_OF_ITEM" = some (some (.int (4) t_WORDS_OF_ITEM))) :
    ∃ fd : FuncData, (∀ (s : Shared) (v : Value), BindsTo s fd ⟨[v], []⟩ [("script", v)]) ∧ ∀ base : Heap, K.In base → base.Ns mainGlobals mg → FnOk l.prog w K mg base CX0 8 fa fd ["script"] (spLaw K) := by
  have e : f20 = fa := by
    have e := hfa.symm.trans (PySem.W.mg_of X G a20)
    cases e
    rfl
  subst e
  let t : T l.prog K mg := {
    a_made_of := f1, fd_made_of := _, F_made_of := fun_mk (st := s_made_of) l1 c1 k1, b_made_of := (fun_mk (st := s_made_of) l1 c1 k1).binds (ps := ["text", "signs"]) (fun _ _ _ _ _ _ us hl => match us, hl with | [_, _], _ => rfl),
    g_made_of := PySem.W.mg_of X G a1,
    a_lines_of := f2, fd_lines_of := _, F_lines_of := fun_mk (st := s_lines_of) l2 c2 k2, b_lines_of := (fun_mk (st := s_lines_of) l2 c2 k2).binds (ps := ["text"]) (fun _ _ _ _ _ _ us hl => match us, hl with | [_], _ => rfl),
    g_lines_of := PySem.W.mg_of X G a2,
    a_words_of := f3, fd_words_of := _, F_words_of := fun_mk (st := s_words_of) l3 c3 k3, b_words_of := (fun_mk (st := s_words_of) l3 c3 k3).binds (ps := ["line"]) (fun _ _ _ _ _ _ us hl => match us, hl with | [_], _ => rfl),
    g_words_of := PySem.W.mg_of X G a3,
    a_column_of := f4, fd_column_of := _, F_column_of := fun_mk (st := s_column_of) l4 c4 k4, b_column_of := (fun_mk (st := s_column_of) l4 c4 k4).binds (ps := ["words", "place"]) (fun _ _ _ _ _ _ us hl => match us, hl with | [_, _], _ => rfl),
    g_column_of := PySem.W.mg_of X G a4,
    a_writes_integer := f5, fd_writes_integer := _, F_writes_integer := fun_mk (st := s_writes_integer) l5 c5 k5, b_writes_integer := (fun_mk (st := s_writes_integer) l5 c5 k5).binds (ps := ["word"]) (fun _ _ _ _ _ _ us hl => match us, hl with | [_], _ => rfl),
    g_writes_integer := PySem.W.mg_of X G a5,
    a_integer_within := f6, fd_integer_within := _, F_integer_within := fun_mk (st := s_integer_within) l6 c6 k6, b_integer_within := (fun_mk (st := s_integer_within) l6 c6 k6).binds (ps := ["word", "low", "high"]) (fun _ _ _ _ _ _ us hl => match us, hl with | [_, _, _], _ => rfl),
    g_integer_within := PySem.W.mg_of X G a6,
    a_is_name := f7, fd_is_name := _, F_is_name := fun_mk (st := s_is_name) l7 c7 k7, b_is_name := (fun_mk (st := s_is_name) l7 c7 k7).binds (ps := ["text"]) (fun _ _ _ _ _ _ us hl => match us, hl with | [_], _ => rfl),
    g_is_name := PySem.W.mg_of X G a7,
    a_word_fault := f8, fd_word_fault := _, F_word_fault := fun_mk (st := s_word_fault) l8 c8 k8, b_word_fault := (fun_mk (st := s_word_fault) l8 c8 k8).binds (ps := ["words"]) (fun _ _ _ _ _ _ us hl => match us, hl with | [_], _ => rfl),
    g_word_fault := PySem.W.mg_of X G a8,
    a_item_of := f9, fd_item_of := _, F_item_of := fun_mk (st := s_item_of) l9 c9 k9, b_item_of := (fun_mk (st := s_item_of) l9 c9 k9).binds (ps := ["words"]) (fun _ _ _ _ _ _ us hl => match us, hl with | [_], _ => rfl),
    g_item_of := PySem.W.mg_of X G a9,
    a_line_fault := f10, fd_line_fault := _, F_line_fault := fun_mk (st := s_line_fault) l10 c10 k10, b_line_fault := (fun_mk (st := s_line_fault) l10 c10 k10).binds (ps := ["words", "number", "taken"]) (fun _ _ _ _ _ _ us hl => match us, hl with | [_, _, _], _ => rfl),
    g_line_fault := PySem.W.mg_of X G a10,
    a_read_items := f11, fd_read_items := _, F_read_items := fun_mk (st := s_read_items) l11 c11 k11, b_read_items := (fun_mk (st := s_read_items) l11 c11 k11).binds (ps := ["text"]) (fun _ _ _ _ _ _ us hl => match us, hl with | [_], _ => rfl),
    g_read_items := PySem.W.mg_of X G a11,
    a_write_items := f12, fd_write_items := _, F_write_items := fun_mk (st := s_write_items) l12 c12 k12, b_write_items := (fun_mk (st := s_write_items) l12 c12 k12).binds (ps := ["rows"]) (fun _ _ _ _ _ _ us hl => match us, hl with | [_], _ => rfl),
    g_write_items := PySem.W.mg_of X G a12,
    a__law_draws := f13, fd__law_draws := _, F__law_draws := fun_mk (st := s__law_draws) l13 c13 k13, b__law_draws := (fun_mk (st := s__law_draws) l13 c13 k13).binds (ps := ["script"]) (fun _ _ _ _ _ _ us hl => match us, hl with | [_], _ => rfl),
    g__law_draws := PySem.W.mg_of X G a13,
    a__law_take := f14, fd__law_take := _, F__law_take := fun_mk (st := s__law_take) l14 c14 k14, b__law_take := (fun_mk (st := s__law_take) l14 c14 k14).binds (ps := ["draws", "bound"]) (fun _ _ _ _ _ _ us hl => match us, hl with | [_, _], _ => rfl),
    g__law_take := PySem.W.mg_of X G a14,
    a__law_same := f15, fd__law_same := _, F__law_same := fun_mk (st := s__law_same) l15 c15 k15, b__law_same := (fun_mk (st := s__law_same) l15 c15 k15).binds (ps := ["actual", "due"]) (fun _ _ _ _ _ _ us hl => match us, hl with | [_, _], _ => rfl),
    g__law_same := PySem.W.mg_of X G a15,
    a__law_name := f16, fd__law_name := _, F__law_name := fun_mk (st := s__law_name) l16 c16 k16, b__law_name := (fun_mk (st := s__law_name) l16 c16 k16).binds (ps := ["draws"]) (fun _ _ _ _ _ _ us hl => match us, hl with | [_], _ => rfl),
    g__law_name := PySem.W.mg_of X G a16,
    a__law_items := f17, fd__law_items := _, F__law_items := fun_mk (st := s__law_items) l17 c17 k17, b__law_items := (fun_mk (st := s__law_items) l17 c17 k17).binds (ps := ["draws", "most"]) (fun _ _ _ _ _ _ us hl => match us, hl with | [_, _], _ => rfl),
    g__law_items := PySem.W.mg_of X G a17,
    a__law_error := f18, fd__law_error := _, F__law_error := fun_mk (st := s__law_error) l18 c18 k18, b__law_error := (fun_mk (st := s__law_error) l18 c18 k18).binds (ps := ["text"]) (fun _ _ _ _ _ _ us hl => match us, hl with | [_], _ => rfl),
    g__law_error := PySem.W.mg_of X G a18,
    a__law_wrong := f19, fd__law_wrong := _, F__law_wrong := fun_mk (st := s__law_wrong) l19 c19 k19, b__law_wrong := (fun_mk (st := s__law_wrong) l19 c19 k19).binds (ps := ["draws"]) (fun _ _ _ _ _ _ us hl => match us, hl with | [_], _ => rfl),
    g__law_wrong := PySem.W.mg_of X G a19,
    a_law := f20, fd_law := _, F_law := fun_mk (st := s_law) l20 c20 k20, b_law := (fun_mk (st := s_law) l20 c20 k20).binds (ps := ["script"]) (fun _ _ _ _ _ _ us hl => match us, hl with | [_], _ => rfl),
    g_law := PySem.W.mg_of X G a20,
    C_SamphireError := CSamphireError, mg_SamphireError := PySem.W.mg_of X G aCSamphireError,
    C_TextError := CTextError, a_TextError_init := fTextError, c_TextError := cTextError, cc_TextError := ccTextError, doc_TextError := docTextError, pm_TextError := pmTextError, ctv_TextError := ctvTextError, oc_TextError := ocTextError, od_TextError := odTextError, osl_TextError := oslTextError, lk_TextError := lkTextError, hc_TextError := hcTextError,
    x_TextError := Sup.excT_mk xLTextError rfl saTextError sBTextError tCTextError kCTextError coTextError flTextError ceTextError mrTextError sVTextError (PySem.W.mg_none_of X G z_super) anTextError suTextError tpTextError (PySem.W.mg_of X G aCTextError) iCTextError tITextError ⟨hgTextError, hkTextError, sBTextError, hdTextError, haTextError, hnTextError, htTextError, hmTextError⟩ icTextError sCTextError,
    bx_TextError := .all (fun us hl => match us, hl with | [_, _, _, _], _ => rfl),
    nf_TextError_line := nf_line_TextError,
    nf_TextError_column := nf_column_TextError,
    nf_TextError_reason := nf_reason_TextError,
    C_TooLarge := CTooLarge, a_TooLarge_init := fTooLarge, c_TooLarge := cTooLarge, cc_TooLarge := ccTooLarge, doc_TooLarge := docTooLarge, pm_TooLarge := pmTooLarge, ctv_TooLarge := ctvTooLarge, oc_TooLarge := ocTooLarge, od_TooLarge := odTooLarge, osl_TooLarge := oslTooLarge, lk_TooLarge := lkTooLarge, hc_TooLarge := hcTooLarge,
    x_TooLarge := Sup.excT_mk xLTooLarge rfl saTooLarge sBTooLarge tCTooLarge kCTooLarge coTooLarge flTooLarge ceTooLarge mrTooLarge sVTooLarge (PySem.W.mg_none_of X G z_super) anTooLarge suTooLarge tpTooLarge (PySem.W.mg_of X G aCTooLarge) iCTooLarge tITooLarge ⟨hgTooLarge, hkTooLarge, sBTooLarge, hdTooLarge, haTooLarge, hnTooLarge, htTooLarge, hmTooLarge⟩ icTooLarge sCTooLarge,
    bx_TooLarge := .all (fun us hl => match us, hl with | [_, _], _ => rfl),
    nf_TooLarge_limit := nf_limit_TooLarge,
    z_abs := PySem.W.mg_none_of X G z_abs,
    z_bool := PySem.W.mg_none_of X G z_bool,
    z_enumerate := PySem.W.mg_none_of X G z_enumerate,
    z_int := PySem.W.mg_none_of X G z_int,
    z_isinstance := PySem.W.mg_none_of X G z_isinstance,
    z_len := PySem.W.mg_none_of X G z_len,
    z_list := PySem.W.mg_none_of X G z_list,
    z_max := PySem.W.mg_none_of X G z_max,
    z_range := PySem.W.mg_none_of X G z_range,
    z_reversed := PySem.W.mg_none_of X G z_reversed,
    z_str := PySem.W.mg_none_of X G z_str,
    z_sum := PySem.W.mg_none_of X G z_sum,
    z_super := PySem.W.mg_none_of X G z_super,
    z_tuple := PySem.W.mg_none_of X G z_tuple,
    v_DIGITS := _, g_DIGITS := PySem.W.mg_of X G v_DIGITS, r_DIGITS := ⟨_, rfl⟩,
    v_WORD_SIGNS := _, g_WORD_SIGNS := PySem.W.mg_of X G v_WORD_SIGNS, r_WORD_SIGNS := ⟨_, rfl⟩,
    v_MOST_IN_NAME := _, g_MOST_IN_NAME := PySem.W.mg_of X G v_MOST_IN_NAME, r_MOST_IN_NAME := ⟨_, rfl⟩,
    v_MOST_WEIGHT := _, g_MOST_WEIGHT := PySem.W.mg_of X G v_MOST_WEIGHT, r_MOST_WEIGHT := ⟨_, rfl⟩,
    v_MOST_AMOUNT := _, g_MOST_AMOUNT := PySem.W.mg_of X G v_MOST_AMOUNT, r_MOST_AMOUNT := ⟨_, rfl⟩,
    v_MOST_CHARACTERS := _, g_MOST_CHARACTERS := PySem.W.mg_of X G v_MOST_CHARACTERS, r_MOST_CHARACTERS := ⟨_, rfl⟩,
    v_MOST_LINES := _, g_MOST_LINES := PySem.W.mg_of X G v_MOST_LINES, r_MOST_LINES := ⟨_, rfl⟩,
    v_WORDS_OF_ITEM := _, g_WORDS_OF_ITEM := PySem.W.mg_of X G v_WORDS_OF_ITEM, r_WORDS_OF_ITEM := ⟨_, rfl⟩ }
  exact ⟨t.fd_law, fun s v => .of_eq rfl, fun base _ _ => ok_law t⟩

end K01
open PySem PySem.W PyProof.Rows in
set_option maxRecDepth 100000 in
set_option maxHeartbeats 0 in
theorem PySem.Challenge.cw_samphire_k01_items_as_texts_holds : PySem.Challenge.rw_samphire_k01_items_as_texts.Holds := by
  w_on; o_law; k_head; (case hw => w_witness2)
  k_fill
  refine L2.walk_ofB (l := PySem.Challenge.rw_samphire_k01_items_as_texts) (n := 63) (k := 8) (x := "script") (CX := fun w => L2.CX0) (sp := fun w => K01.spLaw _) rfl (by decide) rfl ⟨rfl, by decide, by decide⟩ (fun w h Y => PySem.W.kIn_of Y) ?F (fun _ H a ns hl hb _ hS => ⟨a, ns, rfl, hS, hl, hb, fun _ => rfl⟩) (fun _ _ _ _ _ h => h)
  case F =>
    intro w mg fa h KX G hmg
    refine' K01.all_mk KX G hmg ?a1 ?l1 ?c1 ?k1 ?a2 ?l2 ?c2 ?k2 ?a3 ?l3 ?c3 ?k3 ?a4 ?l4 ?c4 ?k4 ?a5 ?l5 ?c5 ?k5 ?a6 ?l6 ?c6 ?k6 ?a7 ?l7 ?c7 ?k7 ?a8 ?l8 ?c8 ?k8 ?a9 ?l9 ?c9 ?k9 ?a10 ?l10 ?c10 ?k10 ?a11 ?l11 ?c11 ?k11 ?a12 ?l12 ?c12 ?k12 ?a13 ?l13 ?c13 ?k13 ?a14 ?l14 ?c14 ?k14 ?a15 ?l15 ?c15 ?k15 ?a16 ?l16 ?c16 ?k16 ?a17 ?l17 ?c17 ?k17 ?a18 ?l18 ?c18 ?k18 ?a19 ?l19 ?c19 ?k19 ?a20 ?l20 ?c20 ?k20 ?aCSamphireError ?aCTextError ?iCTextError ?tITextError ?lkTextError ?hcTextError ?xLTextError ?saTextError ?sBTextError ?tCTextError ?kCTextError ?coTextError ?flTextError ?ceTextError ?mrTextError ?sVTextError ?anTextError ?suTextError ?tpTextError ?hgTextError ?hkTextError ?hdTextError ?haTextError ?hnTextError ?htTextError ?hmTextError ?icTextError ?sCTextError ?nf_line_TextError ?nf_column_TextError ?nf_reason_TextError ?aCTooLarge ?iCTooLarge ?tITooLarge ?lkTooLarge ?hcTooLarge ?xLTooLarge ?saTooLarge ?sBTooLarge ?tCTooLarge ?kCTooLarge ?coTooLarge ?flTooLarge ?ceTooLarge ?mrTooLarge ?sVTooLarge ?anTooLarge ?suTooLarge ?tpTooLarge ?hgTooLarge ?hkTooLarge ?hdTooLarge ?haTooLarge ?hnTooLarge ?htTooLarge ?hmTooLarge ?icTooLarge ?sCTooLarge ?nf_limit_TooLarge ?z_abs ?z_bool ?z_enumerate ?z_int ?z_isinstance ?z_len ?z_list ?z_max ?z_range ?z_reversed ?z_str ?z_sum ?z_super ?z_tuple ?v_DIGITS ?v_WORD_SIGNS ?v_MOST_IN_NAME ?v_MOST_WEIGHT ?v_MOST_AMOUNT ?v_MOST_CHARACTERS ?v_MOST_LINES ?v_WORDS_OF_ITEM
    (case aCSamphireError => k_is)
    (case aCTextError => k_is)
    (case aCTooLarge => k_is)
    (case a1 => k_is)
    (case l1 => k_is)
    (case c1 => k_is)
    (case k1 => k_is)
    (case a2 => k_is)
    (case l2 => k_is)
    (case c2 => k_is)
    (case k2 => k_is)
    (case a3 => k_is)
    (case l3 => k_is)
    (case c3 => k_is)
    (case k3 => k_is)
    (case a4 => k_is)
    (case l4 => k_is)
    (case c4 => k_is)
    (case k4 => k_is)
    (case a5 => k_is)
    (case l5 => k_is)
    (case c5 => k_is)
    (case k5 => k_is)
    (case a6 => k_is)
    (case l6 => k_is)
    (case c6 => k_is)
    (case k6 => k_is)
    (case a7 => k_is)
    (case l7 => k_is)
    (case c7 => k_is)
    (case k7 => k_is)
    (case a8 => k_is)
    (case l8 => k_is)
    (case c8 => k_is)
    (case k8 => k_is)
    (case a9 => k_is)
    (case l9 => k_is)
    (case c9 => k_is)
    (case k9 => k_is)
    (case a10 => k_is)
    (case l10 => k_is)
    (case c10 => k_is)
    (case k10 => k_is)
    (case a11 => k_is)
    (case l11 => k_is)
    (case c11 => k_is)
    (case k11 => k_is)
    (case a12 => k_is)
    (case l12 => k_is)
    (case c12 => k_is)
    (case k12 => k_is)
    (case a13 => k_is)
    (case l13 => k_is)
    (case c13 => k_is)
    (case k13 => k_is)
    (case a14 => k_is)
    (case l14 => k_is)
    (case c14 => k_is)
    (case k14 => k_is)
    (case a15 => k_is)
    (case l15 => k_is)
    (case c15 => k_is)
    (case k15 => k_is)
    (case a16 => k_is)
    (case l16 => k_is)
    (case c16 => k_is)
    (case k16 => k_is)
    (case a17 => k_is)
    (case l17 => k_is)
    (case c17 => k_is)
    (case k17 => k_is)
    (case a18 => k_is)
    (case l18 => k_is)
    (case c18 => k_is)
    (case k18 => k_is)
    (case a19 => k_is)
    (case l19 => k_is)
    (case c19 => k_is)
    (case k19 => k_is)
    (case a20 => k_is)
    (case l20 => k_is)
    (case c20 => k_is)
    (case k20 => k_is)
    (case iCTextError => k_is)
    (case tITextError => k_is)
    (case lkTextError => k_is)
    (case hcTextError => k_is)
    (case xLTextError => k_is)
    (case saTextError => k_is)
    (case sBTextError => k_is)
    (case tCTextError => k_is)
    (case kCTextError => k_is)
    (case coTextError => k_is)
    (case flTextError => first | rfl | decide +kernel)
    (case ceTextError => k_is)
    (case mrTextError => first | rfl | k_is)
    (case sVTextError => k_is)
    (case anTextError => k_is)
    (case suTextError => ks_is)
    (case tpTextError => first | rfl | decide +kernel)
    (case hgTextError => k_is)
    (case hkTextError => k_is)
    (case hdTextError => k_is)
    (case haTextError => k_is)
    (case hnTextError => k_is)
    (case htTextError => k_is)
    (case hmTextError => k_is)
    (case icTextError => k_is)
    (case sCTextError => first | rfl | k_is)
    (case nf_line_TextError => k_is)
    (case nf_column_TextError => k_is)
    (case nf_reason_TextError => k_is)
    (case iCTooLarge => k_is)
    (case tITooLarge => k_is)
    (case lkTooLarge => k_is)
    (case hcTooLarge => k_is)
    (case xLTooLarge => k_is)
    (case saTooLarge => k_is)
    (case sBTooLarge => k_is)
    (case tCTooLarge => k_is)
    (case kCTooLarge => k_is)
    (case coTooLarge => k_is)
    (case flTooLarge => first | rfl | decide +kernel)
    (case ceTooLarge => k_is)
    (case mrTooLarge => first | rfl | k_is)
    (case sVTooLarge => k_is)
    (case anTooLarge => k_is)
    (case suTooLarge => ks_is)
    (case tpTooLarge => first | rfl | decide +kernel)
    (case hgTooLarge => k_is)
    (case hkTooLarge => k_is)
    (case hdTooLarge => k_is)
    (case haTooLarge => k_is)
    (case hnTooLarge => k_is)
    (case htTooLarge => k_is)
    (case hmTooLarge => k_is)
    (case icTooLarge => k_is)
    (case sCTooLarge => first | rfl | k_is)
    (case nf_limit_TooLarge => k_is)
    (case z_abs => k_is)
    (case z_bool => k_is)
    (case z_enumerate => k_is)
    (case z_int => k_is)
    (case z_isinstance => k_is)
    (case z_len => k_is)
    (case z_list => k_is)
    (case z_max => k_is)
    (case z_range => k_is)
    (case z_reversed => k_is)
    (case z_str => k_is)
    (case z_sum => k_is)
    (case z_super => k_is)
    (case z_tuple => k_is)
    (case v_DIGITS => k_is)
    (case v_WORD_SIGNS => k_is)
    (case v_MOST_IN_NAME => k_is)
    (case v_MOST_WEIGHT => k_is)
    (case v_MOST_AMOUNT => k_is)
    (case v_MOST_CHARACTERS => k_is)
    (case v_MOST_LINES => k_is)
    (case v_WORDS_OF_ITEM => k_is)
