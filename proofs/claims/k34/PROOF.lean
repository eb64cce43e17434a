import PyProof.Rows.All
import Wide.All
import OpenK.AllK
import Wide.FinOn
import HandS.ForMost
import HandS.ForExc
import HandS.EndBits
import HandS.Wide
import HandS.IsInst
import HandS.ExcInit
import HandS.Nested
import KE.KExcSuper
import HandS.ExcIs
import HandS.ExcField
import HandS.Gcd
import HandS.Rev
import HandS.Walk
import HandS.Style
import HandS.FStr
import HandS.TryOnly
import KE.GoesEnumKw
import HandS.Text
import HandS.SortInts
import HandS.More
import HandS.Deep
import KE.SortData
import KE.SortKeyHeap
import PySem.Challenge.RW_samphire_k34_whole_weighted_estimates
set_option Elab.async false
set_option linter.all false
set_option maxRecDepth 100000

/-! ### an own exception whose __init__ begins with super().__init__(..) -/
namespace Sup
open PySem PySem.Spec PyProof.Rows L2 NdefX
/-- what the written part says of such a class (at C), of its __init__ (at f; its code at c, its cell of the class at cc) -/
structure SupC (P : Program) (K : PySem.W.Frag) (mg : Str → Option Value) (C f c cc : Addr) : Prop where
  T : OexC K C
  cd : ∃ cd, PySem.W.clsIn K C = some cd
  code : ∃ occ cdd vs sl file tf, K.lookup c = some ⟨occ, cdd, .fields vs, sl⟩ ∧ vs[2]? = some (.str file tf) ∧ ((P.main.file : Str) == file) = true
  cell : ∃ cl cld sl, K.lookup cc = some ⟨cl, cld, .cell (some (.ref C)), sl⟩
  sub : PySem.W.mroIn K C (.ref C) = some true
  subV : PySem.W.subIn K (.ref C) (.type "ValueError") = some true
  zs : mg "super" = none
  any : PySem.W.nsIn K PySem.cStatics "thirdparty.any" = some none
  sup : PySem.W.ks_superIn K C C "__init__" = some (some (.builtin "ValueError.__init__"))
  top : (P.main.scope.names.lookup ("super" : Str)).isSome = false
section
variable {CX : CXT} {P : Program} {w : World} {K : PySem.W.Frag} {mg : Str → Option Value} {base : Heap} {N ps : List Str} {F : NF} {f C cc : Addr} {k : Nat} {sp : Sp}
/-- the body's first statement -/
abbrev supSt (arg : Expr) (p0 p1 p2 p3 p4 : Pos) : Stmt := .Expr (.Call (.Attribute (.Call (.Name "super" p0) [] [] p1) "__init__" p2) [arg] [] p3) p4
theorem callW {M : Model} {A : Around} {E : Value → Shared → Prop} {s : Shared} {i : String} {u x : Addr} {pos : Pos} {env : Env} {e : Expr} {Q : Value → Shared → Prop} (he : starEach [e] env = (false, eval e env) :: starEach [] env)
    (h : wpAny M A (spliced (backTo pos (starEach [e] env))) (fun vs s₁ => PySem.W.KxsAt i u x s₁.heap ∧ wpAny M A (call (.ref u) vs) Q E s₁) E s) : wpAny M A (callWith pos (.ref u) [] (backTo pos (starEach [e] env)) []) Q E s := by
  rw [he] at h ⊢
  refine PySem.W.kxs_callWith (i := i) (x := x) rfl ?_
  exact PySem.Calls.evalArgs_plain h
theorem fn_super {oc : Value} {od : Option Addr} {osl : Array (Option Value)} {doc pm ctv : Value} {arg : Expr} {rest : List Stmt} {p0 p1 p2 p3 p4 : Pos} {p : Str} {ps' : List Str}
    (T : SupC P K mg C f F.c cc) (lk : K.lookup f = some ⟨oc, od, .func (F.fd doc pm ctv), osl⟩) (hcl : F.cl = [(("__class__" : Str), cc)]) (hcd : PySem.W.codeIn K (.ref F.c) F.qual = true) (S : NScope N ps ["__class__"] F.scope) (hps : ps = p :: ps')
    (hpar : ∃ ar, (F.params.posonlyargs ++ F.params.args).head? = some ar ∧ ar.arg = p) (hsu : F.scope.names.lookup ("super" : Str) = some .globalImplicit) (hbd : F.body = supSt arg p0 p1 p2 p3 p4 :: rest)
    (hsw : ∀ L : Addr, swapsWith (.Call (.Attribute (.Call (.Name "super" p0) [] [] p1) "__init__" p2) [arg] [] p3) none p4.line (envF F f L) = pure false)
    (hev : ∀ L : Addr, ∃ pl, eval (.Call (.Attribute (.Call (.Name "super" p0) [] [] p1) "__init__" p2) [arg] [] p3) (envF F f L) = (do
        let ov ← attributeBase (.Call (.Name "super" p0) [] [] p1) "__init__" (envF F f L) (eval (.Call (.Name "super" p0) [] [] p1) (envF F f L))
        standAt p2.atName
        let (f', first) ← holding [ov] (getMethod ov "__init__" pl)
        callWith p3 f' first (backTo p3 (starEach [arg] (envF F f L))) []))
    (hst : ∀ L : Addr, starEach [arg] (envF F f L) = (false, eval arg (envF F f L)) :: starEach [] (envF F f L))
    (len : ∀ vs H Q E, sp vs H Q E → vs.length = ps.length)
    (hbody : ∀ (A : Around) (outer : List Env) (s : Shared) (H : Hp) (vs : List V) (Q : VK) (E : XK), Room k (A.deeper (envF F f s.heap.objs.size)) → sp vs H Q E →
      ∃ a vs' ta t, vs = .ref a :: vs' ∧ H a = some (exo a C none) ∧ PA (ncx CX P w K mg base N F f A outer s H E) [arg] ta ∧ PSs (ncx CX P w K mg base N F f A outer s H E) rest t ∧
        ta (startF N vs [none]) H (fun ws H1 => ws.length ≤ 1000 ∧ H1 a = some (exo a C none) ∧ t { nx := fun _ H' => Q .non H', rt := Q } (startF N vs [none]) H1)) :
    FnOk P w K mg base CX (k + 1) f (F.fd doc pm ctv) ps sp := by
  refine ⟨len, fun A outer s H args us vs Q E hr e0 hb r hsp => ?_⟩
  have KX : K.In s.heap := e0.mod.kin.keeps fun b o e => (e0.bs b o e).1
  have hl := len _ _ _ _ hsp
  have lim : s.heap.NoLimit := e0.mod.nolimit.keeps fun b o e => (e0.bs b o e).1
  refine codeAny_call_function hr.depth (KX _ _ lk) rfl S.co S.gen rfl (PySem.W.codeRec_of KX hcd) (hb _ _ _ _ ?_)
  refine wpAny_newFunctionEnv S.nocell (fun ⟨n, _⟩ hy => S.par n (List.of_mem_zip hy).1) (fun h₁ hns hsb => ⟨lim.fresh _ hsb, ?_⟩) S.kind
  show codeAny _ _ (.func F.body (envF F f s.heap.objs.size)) _ _
  refine PySem.ks_codeAny_funcAt ?_
  have kp : ∀ b o, s.heap.get? b = some o → h₁.get? b = some o := fun b o e => hsb.extBut b o (Nat.ne_of_lt (Heap.lt_size e)) (Heap.get?_push_of_some _ e)
  obtain ⟨a, vs', ta, t, hvs, ha, hta, ht, hq⟩ := hbody A outer s H vs Q E (hr.deeper _) hsp
  obtain ⟨cl, cld, csl, hcell⟩ := T.cell
  have hbc : base.get? cc = some ⟨cl, cld, .cell (some (.ref C)), csl⟩ := e0.mod.kin _ _ hcell
  have hlook : ∀ {y : Str} {c : Addr}, F.cl.lookup y = some c → y = "__class__" ∧ c = cc := fun {y c} e => by
    rw [hcl] at e
    by_cases hy : y = "__class__"
    · subst hy
      rw [show List.lookup ("__class__" : Str) [(("__class__" : Str), cc)] = some cc by simp [List.lookup]] at e
      exact ⟨rfl, (Option.some.inj e).symm⟩
    · have hb : (y == ("__class__" : Str)) = false := by simpa using hy
      rw [show List.lookup y [(("__class__" : Str), cc)] = none by simp [List.lookup, hb]] at e
      cases e
  have hlk : F.cl.lookup ("__class__" : Str) = some cc := by rw [hcl]; simp [List.lookup]
  have CA : CellsAt F.cl ["__class__"] [none] s.heap H := {
    len := rfl
    all := fun y c e => by
      obtain ⟨_, rfl⟩ := hlook e
      exact ⟨(e0.bs _ _ hbc).2, _, ⟨_, (e0.bs _ _ hbc).1, rfl⟩⟩
    inj := fun x y c e1 e2 => (hlook e1).1.trans (hlook e2).1.symm
    has := fun i y e => by
      match i, e with
      | 0, e =>
        have ey : ("__class__" : Str) = y := Option.some.inj e
        subst ey
        exact ⟨cc, hlk, fun v hv => by simp at hv⟩ }
  have I : Inv (ncx CX P w K mg base N F f A outer s H E) [] (startF N vs [none]) H { s with heap := h₁, toks := s.toks + (ps.zip us).length } := inv_startN S hr.hd e0 hl r CA hns kp
  have kI : K.In h₁ := KX.keeps kp
  have hN0 : N[0]? = some p := by
    have q := S.pre
    rw [hps] at q
    have z : (N.take ((p :: ps').length + 1))[0]? = some p := by
      have z := congrArg (fun l : List Str => l[0]?) q
      exact z
    rw [List.getElem?_take_of_lt (by simp)] at z
    exact z
  have hs0 : (startF N vs [none])[0]? = some (some (.ref a)) := by rw [hvs]; rfl
  have hploc : F.scope.names.lookup p = some .local := S.par p (by rw [hps]; exact List.mem_cons_self)
  obtain ⟨m, hnm, hlm⟩ := id I.loc
  obtain ⟨u0, ru0, hu0⟩ := hlm 0 p (.ref a) hN0 hs0 (.inl hploc)
  have eu0 : u0 = Value.ref a := ru0
  subst eu0
  have hself : m p = some (.ref a) := by
    rcases hu0 with ⟨_, z⟩ | ⟨z, _⟩
    · exact z
    · have z' : F.scope.names.lookup p = some .cell ∨ F.scope.names.lookup p = some .free := z
      rw [hploc] at z'
      rcases z' with z' | z' <;> cases z'
  obtain ⟨occ, cdd, cvs, csl2, file, tf, hcode, hvs2, hfile⟩ := T.code
  obtain ⟨cdD, hcdD⟩ := T.cd
  have hD : ∃ oD, h₁.get? C = some oD ∧ oD.data = .cls cdD := by
    have hD := hcdD
    unfold PySem.W.clsIn at hD
    split at hD
    · rename_i c d cd' sl ho
      cases hD
      exact ⟨_, kI _ _ ho, rfl⟩
    · cases hD
  obtain ⟨oD, hD1, hD2⟩ := hD
  obtain ⟨nm, q, N', bs, bm, sn, sub, ab, col, dd, k0, k1, k2, k3, k5, hC, hbm⟩ := T.T.cls
  obtain ⟨ar, har1, har2⟩ := hpar
  have hkc : F.scope.names.lookup ("__class__" : Str) = some .free := S.frk _ (by simp)
  obtain ⟨mb, hb1, hb2⟩ := I.mod.blt
  rw [hbd]
  obtain ⟨pl, he⟩ := hev s.heap.objs.size
  refine PySem.ks_wpAt_execs_cons (PySem.ks_wpAt_Expr_any (PySem.ks_wpAt_MethodCall (pl := pl) (PySem.ks_wpAt_super_base (fd := F.fd doc pm ctv) hsu hkc (by decide) rfl (kI _ _ lk) rfl har1 rfl (kI _ _ hcode) rfl hvs2 hfile T.top ?_) he) I.quiet (hsw _))
  -- the names
  refine PySem.W.ks_loadName_global S.kind hsu (Calls.loadGlobal_builtin (by exact I.mod.glob.keeps I.bk) T.zs (by exact hb1.keeps I.bk) ((hb2 _ (by decide)).trans (by decide +kernel)) ⟨rfl, ?_⟩)
  refine wpAny_loadName_free S.kind hkc hlk ⟨_, kI _ _ hcell, rfl⟩ ?_
  refine wpAny_loadName_local S.kind (by rw [har2]; exact hploc) hnm (by rw [har2]; exact hself) ?_
  refine PySem.ks_wpAny_isType_cls hD1 hD2 ⟨rfl, ?_⟩
  obtain ⟨t1, hox⟩ := exo_at I.hok ha
  refine PySem.ks_wpAny_call_super hD1 hD2 hox rfl (fun c e => by cases e) (PySem.W.looks_mroIn kI T.sub) (fun h' hso k' => ?_)
  have I2 : Inv (ncx CX P w K mg base N F f A outer s H E) [] (startF N vs [none]) H { s with heap := h', toks := s.toks + (ps.zip us).length } := I.kept (t' := s.toks + (ps.zip us).length) k'
  have kI2 : K.In h' := kI.keeps k'
  have hox2 : h'.get? a = some ({ cls := .ref C, dict := none, data := .fields #[.ref t1, .none, .none, .none, .bool false, .none] } : Obj) := k' _ _ hox
  have IA : PySem.W.InstAt h' a ({ cls := .ref C, dict := none, data := .fields #[.ref t1, .none, .none, .none, .bool false, .none] } : Obj) C none := ⟨hox2, rfl, rfl, trivial⟩
  have hal : PySem.W.alongIn K "__init__" ((cdD.mro.dropWhile (· != .ref C)).drop 1) = some (some (.builtin "ValueError.__init__")) := by
    have z := T.sup
    unfold PySem.W.ks_superIn at z
    rw [hcdD] at z
    exact z
  refine PySem.W.kxs_getMethod PySem.W.kxs_ValueError hso (PySem.W.looks_opaque kI2 T.any) (l₀ := cdD.mro) (fun A Q E s k q => wpAny_bind ((PySem.W.looks_clsIn kI2 hcdD) A _ E s k (wpAny_pure q))) rfl kI2 hal (IA.type.andThen (PySem.W.looks_subIn kI2 T.subV)) (PySem.W.ks_ne kI2 IA hcdD) (by decide) ?_
  -- the bound __init__ at u
  have ku : ∀ b o, h'.get? b = some o → (h'.push (PySem.W.kxs_mw "ValueError.__init__" a)).get? b = some o := fun b o e => Heap.get?_push_of_some _ e
  have I3 : Inv (ncx CX P w K mg base N F f A outer s H E) [] (startF N vs [none]) H { s with heap := h'.push (PySem.W.kxs_mw "ValueError.__init__" a), toks := s.toks + (ps.zip us).length + 1 } := I2.kept (t' := s.toks + (ps.zip us).length + 1) ku
  have hu : (h'.push (PySem.W.kxs_mw "ValueError.__init__" a)).get? h'.objs.size = some (PySem.W.kxs_mw "ValueError.__init__" a) := Heap.get?_push_at rfl rfl
  have I4 : Inv (ncx CX P w K mg base N F f A outer s H E) [(h'.objs.size, PySem.W.kxs_mw "ValueError.__init__" a)] (startF N vs [none]) H { s with heap := h'.push (PySem.W.kxs_mw "ValueError.__init__" a), toks := s.toks + (ps.zip us).length + 1 } := I3.pins_of fun p hp => by
    have hp1 := List.mem_singleton.mp hp
    subst hp1
    exact ⟨hu, I2.hok.fresh (Nat.le_refl _), fun z => absurd (z ▸ I2.lt) (Nat.lt_irrefl _), I2.nofs (Nat.le_refl _), fun v z => by cases z⟩
  refine callW (i := "ValueError.__init__") (x := a) (hst _) ?_
  refine thn (hta.run p3 _ _ _ H _ I4 hq) fun ws' s5 ⟨ws, H5, I5, r5, hlen, ha5, ht5⟩ => ?_
  have hu5 : s5.heap.get? h'.objs.size = some (PySem.W.kxs_mw "ValueError.__init__" a) := (I5.pin _ (List.mem_append_right _ (List.mem_singleton.mpr rfl))).1
  refine ⟨hu5, ?_⟩
  obtain ⟨t5, hox5⟩ := exo_at I5.hok ha5
  have hws : ws'.length ≤ sizeLine := by
    rw [← Paired.length r5, sizeLine_eq]
    omega
  have I6 : Inv (ncx CX P w K mg base N F f A outer s H E) [] (startF N vs [none]) H5 s5 := I5.pins_of fun p hp => absurd hp (by simp)
  obtain ⟨h5, g5, d5, k5', os5⟩ := s5
  have hC5 := I5.kIn _ _ hC
  show wpAny _ _ (call (.ref h'.objs.size) ws') _ _ _
  refine wpAny_call (codeAny_of_tree ?_)
  show wpAny _ _ (callAny (.ref h'.objs.size) ⟨ws', []⟩) _ _ _
  simp only [callAny]
  refine wpAny_bind (wpAny_load hu5 ?_)
  simp only [PySem.W.kxs_mw, show (Value.type "method-wrapper" == Value.type "method" || Value.type "method-wrapper" == Value.type "builtin_function_or_method" || Value.type "method-wrapper" == Value.type "method-wrapper") = true by decide, if_true]
  refine PySem.W.KFB.if_so (by decide) ?_
  refine wpAny_bind (PySem.W.check_bound_init PySem.F.excBase_ValueError.toExcCallFacts hC5 hox5 rfl ?_)
  refine wpAny_bind (wpAny_pure (wpAny_pure ?_))
  refine ⟨plainId_quiet PySem.F.excBase_ValueError.init.plain _, codeAny_builtin PySem.F.excBase_ValueError.initEntry ?_⟩
  refine PySem.W.exc_init_tree (cls := .ref C) (t0 := t5) (dv := none) (c2 := .none) (c3 := .none) (b4 := .bool false) hox5 hws (fun h6 k6 e6 _ => ?_)
  have J := I6.write (t' := k5') (x := a) (e := a) (o := exo a C none) (by rw [ha5]; exact True.intro) (.inl rfl) k6 ⟨_, e6⟩ (exo_ok e6)
  have eu : upd H5 a (exo a C none) = H5 := by
    funext b
    by_cases hb : b = a
    · rw [hb, upd_same, ha5]
    · rw [upd_ne hb]
  rw [eu] at J
  refine PySem.wpAt_of_wpAny (wpAny_mono (ht.run [] _ (startF N vs [none]) H5 _ J ht5) (fun fl s' hs => ?_) fun e s' hs => hs)
  have fin : ∀ {σ' : L2.St} {H' : Hp} {v : V} {u : Value}, Inv (ncx CX P w K mg base N F f A outer s H E) [] σ' H' s' → L2.RelV v u → Q v H' → CE outer P w H s Q u s' :=
    fun {σ' H' v u} J rv q => ⟨v, H', J.os, J.bare, J.base, J.hok, rv, q⟩
  cases fl with
  | ret u =>
    obtain ⟨v, σ', H', J, rv, q⟩ := hs
    exact fin J rv q
  | next =>
    obtain ⟨σ', H', J, q⟩ := hs
    exact fin (v := V.non) (u := Value.none) J rfl q
  | brk =>
    obtain ⟨_, _, _, q⟩ := hs
    exact False.elim q
  | cont =>
    obtain ⟨_, _, _, q⟩ := hs
    exact False.elim q
end
/-! ### an exception without fields, made -/
section
variable {X : Cx}
theorem mk_endN {pins : List (Addr × Obj)} {σ : L2.St} {H1 H2 : Hp} {Q : XK} {hp hp2 h2 : Heap} {g1 g2 : Array GenState} {d1 d2 : Drawn} {t1 t2 : Nat} {os1 os2 : OsState} {a C : Addr} (T : Raises X (.ref C)) (I1 : Inv X pins σ H1 ⟨hp, g1, d1, t1, os1⟩)
    (ha : hp.objs.size ≤ a) (k : ∀ b o, hp.get? b = some o → hp2.get? b = some o) (un : Un (frs X.stack) [] (upd H1 a (exo a C none)) H2 hp2 h2) (hok : HOk X.prog X.w H2 h2) (ho : os2 = os1) (hb : AllBare g2)
    (ea : H2 a = some (exo a C none)) (q : Q (.ref C) none (del H2 a)) : MkP X pins σ Q (.ref a) ⟨h2, g2, d2, t2, os2⟩ := by
  obtain ⟨t0, hoe⟩ := exo_at hok ea
  have hn : H1 a = none := I1.hok.fresh ha
  obtain ⟨G, g1', g2'⟩ := restrict h2 fun b => decide (b ≠ a)
  have gk : ∀ b, b ≠ a → G.get? b = h2.get? b := fun b hb => g1' b (decide_eq_true hb)
  have ge : G.get? a = none := g2' a (by simp)
  have nha : ∀ {b : Addr} {o : Obj}, hp.get? b = some o → b ≠ a := fun {b o} z => Nat.ne_of_lt (Nat.lt_of_lt_of_le (Heap.lt_size z) ha)
  have up : ∀ {b : Addr}, b ≠ a → H1 b = none → upd H1 a (exo a C none) b = none := fun {b} hb n => by rw [upd_ne hb]; exact n
  have U : Un (frs X.stack) [] H1 (del H2 a) hp G := {
    keep := fun b o z n hf hx => by
      rw [gk b (nha z)]
      exact un.keep b o (k b o z) (up (nha z) n) hf hx
    slot := fun b o z n hf hx => by
      rw [gk b (nha z)]
      exact un.slot b o (k b o z) (up (nha z) n) hf hx
    free := fun b o z n hx => by
      rw [del_ne (nha z)]
      exact un.free b o (k b o z) (up (nha z) n) hx
    there := fun b o z hx => by
      rw [gk b (nha z)]
      exact un.there b o (k b o z) hx
    tups := fun b xs z => by
      rw [del_ne (ne_of_none z hn)]
      exact un.tups b xs (by rw [upd_ne (ne_of_none z hn)]; exact z)
    frzs := fun b o v z => by
      rw [del_ne (ne_of_none z hn)]
      exact un.frzs b o v (by rw [upd_ne (ne_of_none z hn)]; exact z)
    tbls := fun b ps z => by
      rw [del_ne (ne_of_none z hn)]
      exact un.tbls b ps (by rw [upd_ne (ne_of_none z hn)]; exact z) }
  have hok3 : HOk X.prog X.w (del H2 a) G := fun b o z => by
    have hba : b ≠ a := fun e => by
      rw [e, del_same] at z
      cases z
    rw [del_ne hba] at z
    have noa : ∀ {c : Addr}, H2 c = some (.own b) → c ≠ a := fun {c} hc => at_ne ea hc exo_own
    exact (hok b o z).stay (fun c v hc y => by
        have hca : c ≠ a := by
          rcases hc with hc | hc
          · rw [hc]
            exact hba
          · exact noa hc
        rw [gk c hca]
        exact y)
      (fun c hc => by rw [del_ne (noa hc)]; exact hc) (fun c xs hc => by rw [del_ne (at_ne ea hc exo_tup)]; exact hc)
  have J : Inv X pins σ (del H2 a) ⟨G, g2, d2, t2, os2⟩ := I1.call' (ch := []) ho U hok3 hb (fun b z => absurd z (by simp))
  refine ⟨a, _, _, ⟨G, g2, d2, t2, os2⟩, _, .ref C, none, rfl, J, fun b o z => ?_, ge, hoe, ⟨rfl, rfl⟩, rfl, rfl, del_same, rfl, hb, T, q⟩
  by_cases hba : b = a
  · rw [hba, ge] at z
    cases z
  · exact (gk b hba).symm.trans z
/-- C(), C's own __init__ keeping sp and making no field -/
def tMkN (C : Addr) (sp : Sp) : L2.St → Hp → XK → Prop := fun _ H Q => ∀ a, H a = none → sp [.ref a] (upd H a (exo a C none)) (fun v H2 => v = .non ∧ H2 a = some (exo a C none) ∧ Q (.ref C) none (del H2 a)) (fun _ _ _ => False)
theorem pmk_oexN {CX : CXT} {x : Str} {C fI : Addr} {k : Nat} {fd : FuncData} {ps : List Str} {sp : Sp} {p pos : Pos} (T : OexC X.K C) (iC : PySem.W.findIn X.K (.ref C) "__init__" = some (some (.ref fI))) (tI : PySem.W.typeIn X.K (.ref fI) = some (.type "function"))
    (F1 : FnOk X.prog X.w X.K X.mg X.base CX k fI fd ps sp) (hr : Room (k + 1) X.A) (hb : Binds X.K fd ps []) (hx : Passes CX X (fun _ _ _ => False)) (hg : Gl X x) (hm : X.mg x = some (.ref C))
    (hdb : (x == ("__debug__" : Str)) = false := by decide) : PMk X (.Call (.Name x p) [] [] pos) (tMkN C sp) := by
  intro pins s σ H1 Q I1 q1
  obtain ⟨nm, q, N, bs, bm, sn, sub, ab, col, dd, k0, k1, k2, k3, k5, hC, hbm⟩ := T.cls
  refine wpAny_Call_Name_kw (ld_glob I1 hg hm ?_ hdb)
  refine PySem.W.callWith_K0 I1.kIn T.kC ?_
  show wpAny _ _ (call (.ref C) []) _ _ _
  obtain ⟨hp, g, dr, tk, os⟩ := s
  have hsz : hp.objs.size ≤ hp.objs.size + 1 := Nat.le_succ _
  have hn : H1 (hp.objs.size + 1) = none := I1.hok.fresh hsz
  have hq := q1 (hp.objs.size + 1) hn
  have kk : ∀ b o, hp.get? b = some o → ((hp.push (PySem.W.kdv_tup [])).push (PySem.HandSPX.excO C hp.objs.size)).get? b = some o := fun b o e => Heap.get?_push_of_some _ (Heap.get?_push_of_some _ e)
  have hget : ((hp.push (PySem.W.kdv_tup [])).push (PySem.HandSPX.excO C hp.objs.size)).get? (hp.objs.size + 1) = some (PySem.HandSPX.excO C hp.objs.size) := by heap_get
  have I2 : Inv X pins σ (upd H1 (hp.objs.size + 1) (exo (hp.objs.size + 1) C none)) ⟨(hp.push (PySem.W.kdv_tup [])).push (PySem.HandSPX.excO C hp.objs.size), g, dr, tk, os⟩ :=
    I1.laid (t' := tk) (a := hp.objs.size + 1) (o := exo (hp.objs.size + 1) C none) (h' := (hp.push (PySem.W.kdv_tup [])).push (PySem.HandSPX.excO C hp.objs.size)) kk hsz (exo_ok hget)
  have r2 : Vals [V.ref (hp.objs.size + 1)] [Value.ref (hp.objs.size + 1)] := .cons rfl .nil
  have hl : ([Value.ref (hp.objs.size + 1)] ++ []).length = ps.length := by
    have e := r2.length
    rw [F1.len _ _ _ _ hq] at e
    exact e.symm
  refine wpAny_call (PySem.HandSPX.call_own PySem.F.excBase_ValueError (fun Y => PySem.HandSPX.refsVE_contains Y bm hbm) (I1.kIn _ _ hC) (PySem.W.looks_findIn I1.kIn iC) (fun self => PySem.W.bind_fn I1.kIn self tI) (Nat.zero_le _)
    (codeAny_mono (F1.run _ X.stack _ _ ⟨[Value.ref (hp.objs.size + 1)], []⟩ [Value.ref (hp.objs.size + 1)] _ _ (fun _ _ _ => False) (hr.make C [] []) (I2.env0.make C [] []) (hb _ [Value.ref (hp.objs.size + 1)] I2.kIn hl) r2 hq) fun r s' hq' => ?_))
  cases r with
  | error er => exact hx pins σ _ _ er s' I2 hq'
  | ok fl =>
    cases fl with
    | ret u =>
      obtain ⟨v, H2, os2, bare2, un2, hok2, rv, ev, ea, q2⟩ := hq'
      subst ev
      obtain ⟨h2, g2, d2, t2, os'⟩ := s'
      exact ⟨rv, mk_endN (raises_own T.exC T.tyC) I1 hsz kk un2 hok2 os2 bare2 ea q2⟩
    | next => exact False.elim hq'
    | brk => exact False.elim hq'
    | cont => exact False.elim hq'
end
/-! ### a call of a local name that holds a def, which may raise -/
section
variable {X : Cx} {CX : CXT} {k i : Nat} {f : Addr} {fd : FuncData} {ps : List Str} {sp : Sp} {E : L2.St → XK} {x : Str} {p pos : Pos} {e : Expr} {es : List Expr} {t : TA}
def tCallLS (i : Nat) (f : Addr) (sp : Sp) (E : L2.St → XK) (t : TA) : TE := fun σ H Q => σ[i]? = some (some (.ref f)) ∧ t σ H fun vs H1 => sp vs H1 Q (E σ)
theorem pe_callLS (F : FnOk X.prog X.w X.K X.mg X.base CX k f fd ps sp) (hr : Room k X.A) (hN : X.N[i]? = some x) (hv : Vis X.env.scope x) (hk : PySem.W.keepIn X.K (.ref f) = true) (hb : Binds X.K fd ps []) (hx : ∀ σ, PassesAt CX X σ (E σ)) (ha : PA X (e :: es) t)
    (hdb : (x == ("__debug__" : Str)) = false := by decide) (hcd : (x == ("__classdict__" : Str)) = false := by decide)
    (he : starEach (e :: es) X.env = (false, eval e X.env) :: starEach es X.env := by rfl) (hpl : (backTo pos (starEach es X.env)).any (·.1) = false := by rfl) : PE X (.Call (.Name x p) (e :: es) [] pos) (tCallLS i f sp E t) := by
  refine ⟨fun pins s σ H Q I h => ?_⟩
  obtain ⟨hs, ht⟩ := h
  refine wpAny_Call_Name_kw (thn ((pe_var (pos := p) hN hv hdb hcd).run pins s σ H (fun v H1 => v = .ref f ∧ H1 = H) I ⟨.ref f, hs, rfl, rfl⟩) fun u s1 ⟨v, H1, I1, r1, q1⟩ => ?_)
  obtain ⟨rfl, rfl⟩ := q1
  cases r1
  refine PySem.W.callWith_K (h₀ := X.base) I.ok.mod.kin hk (thn (ha.run pos pins s1 σ _ _ I1 ht) fun us s2 ⟨vs, H2, I2, r, q⟩ => ⟨I2.kIn, ?_⟩) he hpl
  exact run_fnS F hr hb (hx σ) I2 r q
end
/-! ### isinstance of a caught error of an own class without fields -/
def rIsX (K : PySem.W.Frag) (a : Addr) (cls : Value) (d : Option Addr) : List V → Hp → VK → Prop := fun xs H Q => ∃ (D : Addr) (c : V) (cv : Value) (b : Bool), cls = .ref D ∧ d = none ∧ ExcC K D ∧ xs = [.ref a, c] ∧ (∀ u, L2.RelV c u → u = cv) ∧ PySem.W.kitOne K (.ref D) cv = some b ∧ Q (.bl b) H
theorem call_isX {X : Cx} {a : Addr} {oe : Obj} {cls : Value} {d : Option Addr} {pn : List (Addr × Obj)} (hz : Zc cls d oe) (hf : ∃ vs, oe.data = .fields vs) : CallR (X.suite a ((a, oe) :: pn)) (.builtin "isinstance") (rIsX X.K a cls d) := by
  intro pins s σ H xs us Q I r h
  obtain ⟨D, c, cv, b, rfl, rfl, C, rfl, hc, e, q⟩ := h
  exact call_isE C hz hf pins s σ H [.ref a, c] us Q I r ⟨c, cv, b, rfl, hc, e, q⟩
/-! ### what a law's text says of an own exception -/
/-- ExcT C f c cc: the class at C over SamphireError .. over ValueError, with its own __init__ at f -/
structure ExcT (P : Program) (K : PySem.W.Frag) (mg : Str → Option Value) (name : Str) (C f c cc : Addr) : Prop where
  S : SupC P K mg C f c cc
  g : mg name = some (.ref C)
  iC : PySem.W.findIn K (.ref C) "__init__" = some (some (.ref f))
  tI : PySem.W.typeIn K (.ref f) = some (.type "function")
  is : ExcC K C
  te : PySem.W.exmOne K (.ref C) (.ref C) = some true
theorem ExcT.xf {P : Program} {K : PySem.W.Frag} {mg : Str → Option Value} {name : Str} {C f c cc : Addr} (T : ExcT P K mg name C f c cc) : XfC K C := ⟨T.is.hg, T.is.hk, T.is.hs, T.is.hd⟩
/-- what k_is finds, put together -/
theorem excT_mk {P : Program} {K : PySem.W.Frag} {mg : Str → Option Value} {name : Str} {C f c cc : Addr} {nm q : Str} {N : Addr} {bs bm : List Value} {sn : List Str} {sub : List Value} {ab : Bool} {col : Option Bool} {dd : Option Addr} {m0 m1 m2 m3 m5 : Option Value}
    {occ : Value} {cdd : Option Addr} {cvs : List Value} {csl : Array (Option Value)} {ccl : Value} {ccd : Option Addr} {ccs : Array (Option Value)}
    (xL : K.lookup C = some (excClassObj nm q C N bs bm true sn sub ab col dd m0 m1 m2 m3 m5 "ValueError.__new__")) (rv : PySem.HandSPX.refsVE bm = true)
    (sa : PySem.W.findIn K (.ref C) "__setattr__" = some (some (.builtin "object.__setattr__"))) (sB : PySem.W.subIn K (.ref C) (.type "BaseException") = some true) (tC : PySem.W.typeIn K (.ref C) = some (.type "type")) (kC : PySem.W.keepIn K (.ref C) = true)
    (code : K.lookup c = some ⟨occ, cdd, .fields cvs.toArray, csl⟩) (hfile : (match cvs with | _ :: _ :: .str file _ :: _ => (P.main.file : Str) == file | _ => false) = true)
    (cell : K.lookup cc = some ⟨ccl, ccd, .cell (some (.ref C)), ccs⟩) (mro : PySem.W.mroIn K C (.ref C) = some true) (sV : PySem.W.subIn K (.ref C) (.type "ValueError") = some true) (zs : mg "super" = none)
    (any : PySem.W.nsIn K PySem.cStatics "thirdparty.any" = some none) (sup : PySem.W.ks_superIn K C C "__init__" = some (some (.builtin "ValueError.__init__"))) (top : (P.main.scope.names.lookup ("super" : Str)).isSome = false)
    (g : mg name = some (.ref C)) (iC : PySem.W.findIn K (.ref C) "__init__" = some (some (.ref f))) (tI : PySem.W.typeIn K (.ref f) = some (.type "function")) (is : ExcC K C) (isc : PySem.W.isClsIn K C = true) (sC : PySem.W.subIn K (.ref C) (.ref C) = some true) : ExcT P K mg name C f c cc where
  S := {
    T := ⟨⟨nm, q, N, bs, bm, sn, sub, ab, col, dd, m0, m1, m2, m3, m5, xL, rv⟩, sa, sB, tC, kC⟩
    cd := ⟨_, by unfold PySem.W.clsIn; rw [xL] <;> rfl⟩
    code := by
      match cvs, code, hfile with
      | a :: b :: .str file tf :: r, code, hfile => exact ⟨_, _, _, _, file, tf, code, rfl, hfile⟩
    cell := ⟨_, _, _, cell⟩
    sub := mro
    subV := sV
    zs := zs
    any := any
    sup := sup
    top := top }
  g := g
  iC := iC
  tI := tI
  is := is
  te := PySem.W.exm_ref sB is.hd tC sC
end Sup

/-! ### list(reversed(a list)) -/
namespace RL
open PySem PySem.Spec PyProof.Rows RT L2
section
variable {prog : Program} {w : World} {A : Around} {E : Value → Shared → Prop} {s : Shared}
theorem extend_rev {R : Result → Shared → Prop} {S it l : Addr} {items : Array Value} {res : Value} {c₀ : Nat} (hh : A.handled = none) (hit : s.heap.IsRevIter it l ((items.size : Int) - 1)) (hl : s.heap.IsList l items) (hne : l ≠ it) (hSi : S ≠ it) (hSl : S ≠ l) (hn : items.size ≤ sizeLine)
    (hS : s.heap.get? S = some { cls := .type "list", data := .seq #[] c₀ })
    (hR : ∀ s' acc' c', Moved (S :: [it]) (fun a b => b = a) s s' → s'.heap.get? S = some { cls := .type "list", dict := none, data := .seq acc' c', slots := #[] } → ItemsOf (fun i v => items[items.size - 1 - i]? = some v) acc' items.size → R (.ok (.ret res)) s') :
    wpAny (model prog w) A.in1 (Builtin.List.listExtendWith (.ref S) (.ref it) res)
      (fun fin s' => match fin with | .done f => R (.ok f) s' | .again c' => c'.quiet = true ∧ codeAny (model prog w) A c' R s') (fun e s' => R (.error e) s') s := by
  have W := (Walks.listRev (prog := prog) (w := w) (A := A.in1) hh it l hne items).toS
  have hSf : S ∉ [it, l] := by simp only [List.mem_cons, List.not_mem_nil, or_false, not_or]; exact ⟨hSi, hSl⟩
  have hT : s.TypeIs (.ref it) "list_reverseiterator" := Heap.IsRevIter.typeIs hit
  have h1 : Builtin.List.listSameRef (.ref S) (.ref it) = false := by simp [Builtin.List.listSameRef, hSi]
  unfold Builtin.List.listExtendWith
  refine wpAny_bind (wpAny_typeOf hT ?_)
  rw [if_neg (by rw [h1]; decide)]
  refine wpAny_bind (wpAny_pyIter_revIter hit ?_)
  refine wpAny_bind (wpAny_holding ?_)
  unfold Builtin.List.listLengthHint
  refine wpAny_bind (wpAny_specialOf hT nolen_lri ?_)
  show wpAny _ A.in1 (specialOf (Value.ref it) (Str.ofString "__length_hint__") >>= _) _ _ _
  refine wpAny_bind (wpAny_specialOf hT hint_lri ?_)
  generalize hid : ("list_reverseiterator.__length_hint__" : String) = id0
  wp_delta
  rw [show splitId id0 = some ("list_reverseiterator", "__length_hint__") from by subst hid; decide +kernel]
  subst hid
  refine wpAny_bind (wpAny_isInstance (b := true) hT (by rw [isSubtype_type]; kernel_rfl) ?_)
  refine wpAny_pure ?_
  rw [if_neg (by decide)]
  have e0 : ((items.size : Nat) : Int) - 1 - ((0 : Nat) : Int) = (items.size : Int) - 1 := by omega
  refine wpAny_pure ⟨plainId_quiet F.plain_extend_loop _, codeAny_extend_loopS W hn _ hSf _ items.size 0 _ _ _ rfl (Nat.zero_le _) ⟨Nat.zero_le _, by rw [e0]; exact hit, hl⟩ hS (ItemsOf.nil _) fun s' acc' c' hm hS' hacc => ?_⟩
  exact hR s' acc' c' hm hS' hacc
theorem init_rev {R : Result → Shared → Prop} {S it l : Addr} {items : Array Value} (hh : A.handled = none) (hit : s.heap.IsRevIter it l ((items.size : Int) - 1)) (hl : s.heap.IsList l items) (hne : l ≠ it) (hSi : S ≠ it) (hSl : S ≠ l) (hn : items.size ≤ sizeLine)
    (hS : s.heap.get? S = some { cls := .type "list", data := .seq #[] })
    (hR : ∀ (h' : Heap) (tk : Nat) (acc : Array Value) (c' : Nat), (∀ b o, b ≠ S → b ≠ it → s.heap.get? b = some o → h'.get? b = some o) → h'.get? S = some { cls := .type "list", dict := none, data := .seq acc c', slots := #[] } → ItemsOf (fun i v => items[items.size - 1 - i]? = some v) acc items.size → R (.ok (.ret .none)) { s with heap := h', toks := tk }) :
    wpAny (model prog w) A.in1 (Builtin.«list.__init__» ⟨[.ref S, .ref it], []⟩)
      (fun fin s' => match fin with | .done f => R (.ok f) s' | .again c' => c'.quiet = true ∧ codeAny (model prog w) A c' R s') (fun e s' => R (.error e) s') s := by
  show wpAny _ A.in1 (do let old ← Builtin.List.listItems (.ref S); Builtin.List.listUpdate (.ref S) (fun _ => #[]); letGo old.toList.reverse; Builtin.List.listExtendWith (.ref S) (.ref it) .none) _ _ s
  refine wpAny_bind ?_
  unfold Builtin.List.listItems
  refine wpAny_bind (wpAny_seqItems hS rfl (wpAny_pure ?_))
  show wpAny _ A.in1 (updateSeq S (fun _ => #[]) >>= fun _ => letGo (#[] : Array Value).toList.reverse >>= fun _ => Builtin.List.listExtendWith (.ref S) (.ref it) .none) _ _ s
  refine wpAny_bind (wpAny_updateSeq hS rfl ?_)
  have hS₂ := Heap.get?_update_self (Obj.mapSeq (fun _ => (#[] : Array Value))) hS rfl
  have oth : ∀ b o, b ≠ S → s.heap.get? b = some o → (s.heap.update S (Obj.mapSeq (fun _ => (#[] : Array Value)))).get? b = some o :=
    fun b o hb e => (Heap.get?_update_other _ _ (Ne.symm hb)).trans e
  refine wpAny_bind (wpAny_letGo ?_)
  refine extend_rev (s := { s with heap := s.heap.update S (Obj.mapSeq (fun _ => (#[] : Array Value))) }) hh (hit.at fun o e => oth it o hSi.symm e) (by obtain ⟨o, ho, x⟩ := hl; exact ⟨o, oth l o hSl.symm ho, x⟩) hne hSi hSl hn hS₂ fun s' acc' c' hm hS' hacc => ?_
  rw [Moved.eq_with hm]
  exact hR s'.heap s'.toks acc' c' (fun b o hb hb2 e => hm.heap b o (by simp [hb, hb2]) (oth b o hb e)) hS' hacc
theorem call_list_rev {it l : Addr} {items : Array Value} {Q : Value → Shared → Prop} (hh : A.handled = none) (hit : s.heap.IsRevIter it l ((items.size : Int) - 1)) (hl : s.heap.IsList l items) (hne : l ≠ it) (hn : items.size ≤ sizeLine)
    (hQ : ∀ (h' : Heap) (tk : Nat) (acc : Array Value) (c' : Nat), (∀ b o, b ≠ it → s.heap.get? b = some o → h'.get? b = some o) → h'.get? s.heap.objs.size = some { cls := .type "list", dict := none, data := .seq acc c', slots := #[] } → ItemsOf (fun i v => items[items.size - 1 - i]? = some v) acc items.size → Q (.ref s.heap.objs.size) { s with heap := h', toks := tk }) :
    wpAny (model prog w) A (call (.type "list") [.ref it]) Q E s := by
  refine callType_codes (Q₁ := fun obj s₁ => obj = .ref s.heap.objs.size ∧ s₁ = { s with heap := s.heap.push { cls := .type "list", data := .seq #[] } }) F.called_list (F.typeCall_list_1 _) F.entry_list_init
    (code_list_new _ ⟨rfl, rfl⟩) fun obj s₁ h₁ => ?_
  obtain ⟨rfl, rfl⟩ := h₁
  have hS : (s.heap.push { cls := .type "list", data := .seq #[] }).get? s.heap.objs.size = some { cls := .type "list", data := .seq #[] } := Heap.get?_push_size _ rfl
  obtain ⟨oi, hoi, _⟩ := id hit
  obtain ⟨ol, hol, _⟩ := id hl
  refine ⟨⟨_, hS, rfl⟩, F.args_list_init_2 _ _, init_rev (A := A.in1) (s := { s with heap := s.heap.push { cls := .type "list", data := .seq #[] } }) hh (hit.at fun o e => Heap.get?_push_of_some _ e) (hl.push _) hne (Nat.ne_of_gt (Heap.lt_size hoi)) (Nat.ne_of_gt (Heap.lt_size hol)) hn hS fun h' tk acc c' hk hS' hacc => ?_⟩
  exact ⟨rfl, hQ h' tk acc c' (fun b o hb e => hk b o (Nat.ne_of_lt (Heap.lt_size e)) hb (Heap.get?_push_of_some _ e)) hS' hacc⟩
end
section
variable {X : Cx}
/-- list(reversed(xs)): a new list -/
def tListRev (K : PySem.W.Frag) (te : TE) : TE := fun σ H Q => te σ H fun x H1 => ∃ a xs, x = .ref a ∧ SqL K H1 a xs ∧ ∀ p, H1 p = none → Q (.ref p) (upd H1 p (.lst xs.reverse))
theorem pe_listRev {e : Expr} {te : TE} {p p2 pos pos2 : Pos} (hc : X.calm = true) (hg : Gl X "list") (hm : X.mg "list" = none) (hg2 : Gl X "reversed") (hm2 : X.mg "reversed" = none) (he : PE X e te)
    (hs : starEach [e] X.env = (false, eval e X.env) :: starEach [] X.env := by rfl)
    (hs2 : starEach [.Call (.Name "reversed" p2) [e] [] pos2] X.env = (false, eval (.Call (.Name "reversed" p2) [e] [] pos2) X.env) :: starEach [] X.env := by rfl) :
    PE X (.Call (.Name "list" p) [.Call (.Name "reversed" p2) [e] [] pos2] [] pos) (tListRev X.K te) := by
  refine ⟨fun pins s σ H Q I h => ?_⟩
  refine Call_ (ld_blt I hg hm boot_list (PyProof.Rows.callWith_type1 (args_cons (Call_ (ld_blt I hg2 hm2 PyProof.Rows.boot_reversed (PyProof.Rows.callWith_type1 (args_cons (thn (he.run pins s σ H _ I h) fun u s1 ⟨v, H1, I1, r1, q1⟩ => args_nil ?_) hs) hs rfl))) hs2) hs2 rfl))
  obtain ⟨a, xs, ev, hq, q⟩ := q1
  subst ev
  obtain rfl : u = Value.ref a := r1
  obtain ⟨its, rv, p', hz⟩ := I1.list hq
  refine call_reversed_list p'.isList (args_nil ?_)
  have k0 : ∀ b o, s1.heap.get? b = some o → (s1.heap.push (revObj a ((its.toArray.size : Int) - 1))).get? b = some o := fun b o e => Heap.get?_push_of_some _ e
  have hl := p'.isList
  obtain ⟨ol, hol, _⟩ := id hl
  have hne : a ≠ s1.heap.objs.size := Nat.ne_of_lt (Heap.lt_size hol)
  have hn : its.toArray.size ≤ sizeLine := by rw [List.size_toArray, ← rv.length]; exact hz
  refine call_list_rev (s := { s1 with heap := s1.heap.push (revObj a ((its.toArray.size : Int) - 1)) }) (I1.ok.hd hc) ⟨_, Heap.get?_push_size _ rfl, rfl, rfl⟩ (hl.push _) hne hn fun h' tk acc c' hk hS' hi => ?_
  have hle : s1.heap.objs.size ≤ (s1.heap.push (revObj a ((its.toArray.size : Int) - 1))).objs.size := by simp [Heap.push]
  have ea : acc.toList.toArray = acc := by simp
  exact ⟨.ref (s1.heap.push (revObj a ((its.toArray.size : Int) - 1))).objs.size, upd H1 (s1.heap.push (revObj a ((its.toArray.size : Int) - 1))).objs.size (.lst xs.reverse), I1.laid (t' := tk) (fun c o e => hk c o (Nat.ne_of_lt (Heap.lt_size e)) (k0 c o e)) hle (show ObjOk X.prog X.w _ _ _ (.lst xs.reverse) from ⟨by rw [List.length_reverse]; exact hz, acc.toList, c', vals_rev rv hi, by rw [ea]; exact hS'⟩), rfl, q _ (I1.hok.fresh hle)⟩
end
end RL
/-! ### xs.extend(a tuple) -/
namespace RL
open PySem PySem.Spec PyProof.Rows RT L2
theorem meets_extend_tup (l : Addr) (items : Array Value) (n : Nat) (b : Addr) (items2 : Array Value) (n2 : Nat) (o : Obj) (hc : o.cls = .type "tuple") (hd : o.data = .seq items2 n2) (hs1 : items.size + items2.size ≤ sizeLine) :
    Meets (Builtin.«list.extend» ⟨[.ref l, .ref b], []⟩) (fun _ R s => s.heap.get? l = some { cls := .type "list", dict := none, data := .seq items n, slots := #[] } ∧ s.heap.get? b = some o ∧ R (.ok (.ret Value.none)) { s with heap := s.heap.update l (Obj.mapSeq fun x => x ++ items2), toks := s.toks }) :=
  .of_wp fun prog w A R s h => by
    obtain ⟨hl, hb, h⟩ := h
    show wpAny _ _ (Builtin.List.listExtendWith (.ref l) (.ref b) .none) _ _ _
    unfold Builtin.List.listExtendWith
    refine wpAny_bind (wpAny_typeOf ⟨o, hb, hc⟩ ?_)
    have h1 : (Builtin.List.listSameRef (.ref l) (.ref b) || Value.type "tuple" == Value.type "list" || Value.type "tuple" == Value.type "tuple") = true := by simp
    simp only [h1, if_true]
    refine wpAny_bind ?_
    unfold Builtin.List.listItems
    refine wpAny_bind (wpAny_seqItems hb hd (wpAny_pure ?_))
    refine wpAny_bind ?_
    refine wpAny_bind (wpAny_seqItems hl rfl (wpAny_pure ?_))
    have hlong : ¬ (!items.isEmpty && Builtin.List.listTooLong (items.size + items2.size)) = true := by
      rw [notLongL hs1, Bool.and_false]
      exact Bool.false_ne_true
    rw [if_neg hlong]
    show wpAny _ _ (updateSeq l (· ++ items2) >>= fun _ => ret .none) _ _ s
    refine wpAny_bind (wpAny_updateSeq hl rfl (hz := by omega) (_hz' := by rw [Array.size_append]; omega) ?_)
    exact wpAny_pure ⟨_, rfl, h⟩
section
variable {X : Cx}
def rExtT : V → List V → Hp → VK → Prop := fun x vs H Q => ∃ l b xs zs, x = .ref l ∧ vs = [.ref b] ∧ H l = some (.lst xs) ∧ H b = some (.tup zs) ∧ xs.length + zs.length ≤ sizeLine ∧ Q .non (upd H l (.lst (xs ++ zs)))
theorem mt_extendT : MtM X "list.extend" rExtT := by
  intro pins s σ H x vs v us Q I rx rv h
  obtain ⟨l, b, xs, zs, rfl, rfl, hH, hB, hz, q⟩ := h
  cases rx
  obtain ⟨u, rfl, ru⟩ := rv.one
  cases ru
  obtain ⟨z, its, n, r, hl, e⟩ := I.lstM hH
  obtain ⟨its2, r2, ⟨o, ho, hc, n2, hd⟩, hz2⟩ := I.tuple (SqT.of hB)
  have hl2 := r2.length
  refine call_meets PySem.F.slot_list_extend ⟨_, e, rfl⟩ PySem.F.entry_list_extend (PySem.F.args_list_extend_2 _ _)
    (meets_extend_tup l its.toArray n b its2.toArray n2 o hc hd (by rw [List.size_toArray, List.size_toArray]; omega)) ⟨e, ho, ?_⟩
  refine ⟨.non, _, I.lset (its' := its ++ its2) hH e (by simp) (r.append r2) ?_, rfl, q⟩
  rw [List.length_append]
  omega
end
end RL
/-! ### enumerate(a list, start=k) -/
namespace RL
open PySem PySem.Spec PyProof.Rows L2
section
variable {M : Model} {A : Around} {E : Value → Shared → Prop} {s : Shared} {env : Env}
theorem callWith_type_kwB {pos : Pos} {T : String} {first : List Value} {args : List (Bool × Sem Value)} {keywords : List (Option Str × Sem Value)} {Q : Value → Shared → Prop}
    (hplain : args.any (·.1) = false) (hkw : keywords.any (·.1.isNone) = false)
    (h : wpAny M A (evalArgs (.type T) true args keywords) (fun a s₁ => wpAny M A (call (.type T) (first ++ a.pos) a.kw) Q E s₁) E s) :
    wpAny M A (callWith pos (.type T) first args keywords) Q E s := by
  unfold callWith
  refine wpAny_bind (wpAny_holding (wpAny_mono h (fun a s₁ h₁ => wpAny_bind (wpAny_standAt ?_)) fun _ _ x => x))
  simp only [hplain, hkw, Bool.or_false]
  refine wpAny_bind (wpAny_pure ?_)
  exact wpAny_bind (wpAny_mono h₁ (fun r s₂ hr => wpAny_bind (wpAny_holding (wpAny_point (wpAny_pure hr)))) fun _ _ x => x)
theorem callWith_type_kw {pos : Pos} {T : String} {e : Expr} {rest : List Expr} {kws : List Keyword} {Q : Value → Shared → Prop}
    (h : wpAny M A (spliced (backTo pos (starEach (e :: rest) env))) (fun vs s₁ => wpAny M A (evalAll ((backToKw pos (keywordEach kws env)).map (·.2)))
      (fun kvs s₂ => wpAny M A (call (.type T) vs (((backToKw pos (keywordEach kws env)).filterMap (·.1)).zip kvs)) Q E s₂) E s₁) E s)
    (he : backTo pos (starEach (e :: rest) env) = (false, eval e env) :: backTo pos (starEach rest env))
    (hplain : (backTo pos (starEach (e :: rest) env)).any (·.1) = false)
    (hall : (backToKw pos (keywordEach kws env)).all (·.1.isSome) = true)
    (hkw : (backToKw pos (keywordEach kws env)).any (·.1.isNone) = false) :
    wpAny M A (callWith pos (.type T) [] (backTo pos (starEach (e :: rest) env)) (backToKw pos (keywordEach kws env))) Q E s := by
  refine callWith_type_kwB hplain hkw ?_
  rw [he] at h ⊢
  exact evalArgs_kwB hall h
end
/-- the list at a as it stands at each turn, each item in a new pair, counted from k -/
def IteS (K : PySem.W.Frag) (a : Addr) (k : Int) : It :=
  ⟨fun i H => ∃ (xs : List V) (x : V), SqL K H a xs ∧ xs[i]? = some x, fun i H v H' => ∃ T x, v = .ref T ∧ H T = none ∧ H' = upd H T (.tup [.int (k + (i : Nat)), x]) ∧ ∀ xs, SqL K H a xs → xs[i]? = some x, fun i H => ∃ xs : List V, SqL K H a xs ∧ xs.length = i⟩
theorem turn_enumS {P : Program} {w : World} {K : PySem.W.Frag} {elts : List Expr} {kk : Nat} {tpos : Pos} (a e it : Addr) (k : Int) :
    Turn P w K (.Tuple elts kk tpos) (IteS K a k) [e, it] e (fun i h => (∃ old, IsEnum h e it (k + ((i : Nat) : Int)) old) ∧ h.IsListIter it a i ∧ e ≠ it ∧ e ≠ a ∧ a ≠ it) where
  mem := by simp
  obj := fun i h st b hb => by
    obtain ⟨⟨old, he⟩, ⟨o, ho, hc, hd⟩, _⟩ := st
    have e' : b = e ∨ b = it := by simpa using hb
    rcases e' with z | z
    · rw [z]; exact ⟨_, he, fun v q => nomatch q⟩
    · rw [z]; exact ⟨o, ho, fun v q => by rw [hd] at q; cases q⟩
  keep := fun i h h' st k => let ⟨⟨old, he⟩, hi, hne⟩ := st; ⟨⟨old, k e (by simp) _ he⟩, hi.at fun o q => k it (by simp) o q, hne⟩
  item := by
    intro X hP hw hK hc i pins s σ H E I hf st hg
    subst hP hw hK
    obtain ⟨⟨old, he⟩, hit, hne, hea, hai⟩ := st
    obtain ⟨xs, x, hq, hx⟩ := hg
    obtain ⟨its, rv, p, hz⟩ := I.list hq
    obtain ⟨u, hu, ru⟩ := rv.get hx
    have hel : e < s.heap.objs.size := Heap.lt_size he
    have hil : it < s.heap.objs.size := by obtain ⟨_, q, _⟩ := hit; exact Heap.lt_size q
    have D := Draws.list (prog := X.prog) (w := X.w) (A := X.A.in1) (I.ok.hd hc) it a hai its.toArray
    have hlt : i < its.toArray.size := by
      have := (List.getElem?_eq_some_iff.mp hu).1
      simpa using this
    refine wpAny_pyNext_enum_itemC D he ⟨hit, p.isList⟩ hlt hne (by simp [hne, hea]) fun u' h' tk hu' ho hst' hT hsz hk => ?_
    have euu : u' = u := by
      have z : its.toArray[i]? = some u := by simpa using hu
      rw [z] at hu'
      exact (Option.some.inj hu').symm
    subst euu
    refine ⟨_, rfl, wpAny_letOwnedTupleGo_enum (s := { s with heap := h', toks := tk + 1 }) ho fun h'' he' sb => ?_⟩
    have hT2 : h''.get? s.heap.objs.size = some { cls := .type "tuple", data := .seq #[.int (k + (i : Nat)) tk, u'] } := (sb.2 _ (Nat.ne_of_gt hel)).trans hT
    have new : ObjOk X.prog X.w (upd H s.heap.objs.size (.tup [.int (k + (i : Nat)), x])) h'' s.heap.objs.size (.tup [.int (k + (i : Nat)), x]) :=
      ⟨by show 2 ≤ sizeLine; decide, [.int (k + (i : Nat)) tk, u'], .cons ⟨_, rfl⟩ (.cons ru .nil), ⟨_, hT2, rfl, _, rfl⟩⟩
    have I1 : Inv X pins σ (upd H s.heap.objs.size (.tup [.int (k + (i : Nat)), x])) { s with heap := h'', toks := tk + 1 } :=
      I.turnedNew (ch := [e, it]) (fun b ob hb q => (sb.2 b (fun z => hb (by simp [z]))).trans (hk b ob (fun z => hb (by simp [z])) (fun z => hb (by simp [z])) q)) hf (Nat.le_refl _) new
    refine ⟨.ref s.heap.objs.size, _, I1, rfl, ⟨_, x, rfl, I.hok.fresh (Nat.le_refl _), rfl, fun ys hy => by rw [I.list_inj hy hq]; exact hx⟩, ⟨⟨u', ?_⟩, hst'.1.at fun o q => (sb.2 it (Ne.symm hne)).trans q, hne, hea, hai⟩, fun b hb => ?_⟩
    · have e1 : k + ((i + 1 : Nat) : Int) = k + (i : Int) + 1 := by omega
      rw [e1]; exact he'
    · have hb' : b < s.heap.objs.size := by
        have e' : b = e ∨ b = it := by simpa using hb
        rcases e' with z | z
        · rw [z]; exact hel
        · rw [z]; exact hil
      rw [upd_ne (Nat.ne_of_lt hb')]
      exact (hf b hb).1
  done := by
    intro X hP hw hK hc i pins s σ H E I hf st hg
    subst hP hw hK
    obtain ⟨⟨old, he⟩, hit, hne, hea, hai⟩ := st
    obtain ⟨xs, hq, hx⟩ := hg
    obtain ⟨its, rv, p, hz⟩ := I.list hq
    obtain ⟨f0, f1, f2, f3, f4, f5⟩ := hf it (by simp)
    have hl := rv.length
    have D := Draws.list (prog := X.prog) (w := X.w) (A := X.A.in1) (I.ok.hd hc) it a hai its.toArray
    have en : i = its.toArray.size := by rw [List.size_toArray]; omega
    subst en
    exact wpAny_pyNext_enum_endD D he ⟨hit, p.isList⟩ fun h' eb => ⟨rfl, I.turned (t' := s.toks) (fun b o hb q => eb b o hb q) f0 f1 f3 f4 f5⟩
  self := fun A i s Q E st h => let ⟨⟨_, he⟩, _⟩ := st; wpAny_pyIter_enum he h
def iEnumS (K : PySem.W.Frag) (ta : TA) (tk : TA) : TI := fun σ H R => ta σ H fun vs H1 => tk σ H1 fun zs H2 => ∃ a xs k, vs = [.ref a] ∧ zs = [.int k] ∧ -(2 ^ 63) ≤ k ∧ k < 2 ^ 63 ∧ SqL K H2 a xs ∧ R (IteS K a k) H2
theorem pi_enumS {X : Cx} {e e2 : Expr} {ta tk : TA} {p pos tpos kp : Pos} {elts : List Expr} {kk : Nat} (hg : Gl X "enumerate") (hm : X.mg "enumerate" = none) (ha : PA X [e] ta) (hkw : PK X [⟨some ("start" : Str), e2, kp⟩] tk)
    (he : backTo pos (starEach [e] X.env) = (false, eval e X.env) :: backTo pos (starEach [] X.env) := by rfl) (hpl : (backTo pos (starEach [e] X.env)).any (·.1) = false := by rfl)
    (hall : (backToKw pos (keywordEach [⟨some ("start" : Str), e2, kp⟩] X.env)).all (·.1.isSome) = true := by rfl) (hnone : (backToKw pos (keywordEach [⟨some ("start" : Str), e2, kp⟩] X.env)).any (·.1.isNone) = false := by rfl)
    (hks : (backToKw pos (keywordEach [⟨some ("start" : Str), e2, kp⟩] X.env)).filterMap (·.1) = [("start" : Str)] := by rfl) :
    PI X (.Tuple elts kk tpos) (.Call (.Name "enumerate" p) [e] [⟨some ("start" : Str), e2, kp⟩] pos) (iEnumS X.K ta tk) := by
  refine ⟨fun pins s σ H R I h => ?_⟩
  refine wpAny_Call_Name_kw (ld_blt I hg hm boot_enumerate (callWith_type_kw (thn (ha.run pos pins s σ H _ I h) fun us s0 ⟨vs, H0, I0, r0, q0⟩ => thn (hkw.run pos pins s0 σ H0 _ I0 q0) fun ws s1 ⟨zs, H1, I1, r2, q1⟩ => ?_) he hpl hall hnone))
  rw [hks]
  obtain ⟨a, xs, k, ex, ez, hk0, hk1, hq, q⟩ := q1
  subst ex ez
  cases r0 with
  | cons r rr =>
    cases rr
    cases r
    cases r2 with
    | cons r3 rr3 =>
      cases rr3
      obtain ⟨t, rfl⟩ := r3
      obtain ⟨its, rv, p', hz⟩ := I1.list hq
      have hal : a < s1.heap.objs.size := by obtain ⟨_, z, _⟩ := p'.isList; exact Heap.lt_size z
      refine enum_begins_start (begins_list a its.toArray) p'.isList hk0 hk1 fun h' he' hit hsz hk => wpAny_pyIter_enum he' ?_
      have I2 : Inv X pins σ H1 { s1 with heap := h' } := I1.kept (t' := s1.toks) hk
      refine ⟨s1.heap.objs.size + 1, [s1.heap.objs.size + 1, s1.heap.objs.size], _, _, H1, rfl, I2, turn_enumS a (s1.heap.objs.size + 1) s1.heap.objs.size k, ⟨⟨.none, ?_⟩, ⟨_, hit, rfl, ?_⟩, Nat.succ_ne_self _, Nat.ne_of_gt (Nat.lt_succ_of_lt hal), Nat.ne_of_lt hal⟩, fun b hb => ?_, q⟩
      · rw [show k + ((0 : Nat) : Int) = k by omega]
        exact he'
      · rfl
      · have e' : b = s1.heap.objs.size + 1 ∨ b = s1.heap.objs.size := by simpa using hb
        have hle : s1.heap.objs.size ≤ b := by
          rcases e' with z | z
          · rw [z]; exact Nat.le_add_right _ _
          · rw [z]; exact Nat.le_refl _
        exact I1.fpOk hle (I1.hok.fresh hle)
end RL
/-! ### a text times an int -/
namespace RL
open PySem PySem.Spec PyProof.Rows L2
def repS (z : Str) (k : Nat) : Str := ⟨(List.replicate k z.cps).foldl (· ++ ·) #[]⟩
theorem foldl_size : ∀ (l : List (Array Nat)) (a : Array Nat), (l.foldl (· ++ ·) a).toList = a.toList ++ (l.map Array.toList).flatten
  | [], a => by simp
  | x :: r, a => by
    rw [List.foldl_cons, foldl_size r (a ++ x), Array.toList_append, List.map_cons, List.flatten_cons, List.append_assoc]
theorem repS_tl (z : Str) (k : Nat) : TL.tl (repS z k) = (List.replicate k z.cps.toList).flatten := by
  show ((List.replicate k z.cps).foldl (· ++ ·) #[]).toList = _
  rw [foldl_size, List.map_replicate]
  rfl
theorem repS_len (z : Str) (k : Nat) : (repS z k).length = k * z.length := by
  show (repS z k).cps.size = _
  rw [← Array.length_toList]
  have h := repS_tl z k
  unfold TL.tl at h
  rw [h]
  simp [List.length_flatten]
  rfl
def rMulS : R2 := fun x y H Q => ∃ (z : Str) (k : Nat), x = .str z ∧ y = .int (k : Int) ∧ 2 ≤ k ∧ k ≤ 100000 ∧ 1 ≤ z.length ∧ z.length ≤ 100 ∧ Q (.str (repS z k)) H
theorem op_mulS {X : Cx} : OpR X (binaryOp .Mult) rMulS := by
  intro pins s σ H x y v u Q I rx ry h
  obtain ⟨z, k, rfl, rfl, hk, hk2, hz, hz2, q⟩ := h
  obtain ⟨t, rfl⟩ := rx
  obtain ⟨t', rfl⟩ := ry
  have hle : z.length * k ≤ 10000000 := by
    have h1 : z.length * k ≤ 100 * k := Nat.mul_le_mul_right k hz2
    omega
  have hno : ((((k : Nat) : Int) == 1) || z.length == 0) = false := by
    have h1 : (((k : Nat) : Int) == 1) = false := by
      apply beq_false_of_ne
      omega
    have h2 : (z.length == 0) = false := by
      apply beq_false_of_ne
      omega
    rw [h1, h2]; rfl
  refine PySem.P.mul_str ?_ ?_ ?_ ?_
  · have h1 : ¬ (k : Int) < -(2 ^ 63 : Int) := by omega
    have h2 : ¬ (k : Int) ≥ 2 ^ 63 := by omega
    rw [decide_eq_false h1, decide_eq_false h2]; rfl
  · intro _ _
    have h3 : (1000 : Int) ≤ (2 ^ 63 - 1) / (k : Int) := by
      rw [Int.le_ediv_iff_mul_le (by omega)]
      omega
    omega
  · intro _ _
    rw [Int.toNat_natCast]
    have hs : 10000000 ≤ sizeLine := by decide
    unfold Builtin.Str.tooLong
    exact decide_eq_false (by omega)
  · rw [if_neg (by omega), if_neg (by rw [hno]; decide)]
    rw [Int.toNat_natCast]
    have hl := repS_len z k
    have hs : 10000000 ≤ sizeLine := by decide
    have hc : k * z.length = z.length * k := Nat.mul_comm _ _
    refine ⟨?_, ⟨.str (repS z k), H, I.tok _, ⟨_, rfl⟩, q⟩⟩
    show (repS z k).length ≤ sizeLine
    omega
end RL

/-! ### Z: single steps of readings, for walking by with_reducible refine -/
namespace Z
open PySem L2
/-- all but what stands at M is as it was -/
def Kp (M : List Addr) (H H' : Hp) : Prop := ∀ b o, b ∉ M → H b = some o → H' b = some o
theorem Kp.refl {M : List Addr} (H : Hp) : Kp M H H := fun _ _ _ h => h
theorem Kp.trans {M : List Addr} {H H1 H2 : Hp} (a : Kp M H H1) (b : Kp M H1 H2) : Kp M H H2 := fun c o n h => b c o n (a c o n h)
theorem Kp.new {M : List Addr} {H : Hp} {p : Addr} {o : HO} (h : H p = none) : Kp M H (upd H p o) := fun b u _ e => by
  rw [upd_ne (ne_of_none e h)]
  exact e
theorem Kp.put {M : List Addr} {H : Hp} {p : Addr} {o : HO} (h : p ∈ M) : Kp M H (upd H p o) := fun b u n e => by
  rw [upd_ne (fun q => n (by rw [q]; exact h))]
  exact e
theorem Kp.sub {M M' : List Addr} {H H' : Hp} (a : Kp M H H') (h : ∀ x, x ∈ M → x ∈ M') : Kp M' H H' := fun b o n e => a b o (fun z => n (h b z)) e
theorem Kp.same {H H' : Hp} (a : Kp [] H H') : Same H H' := fun b o e => a b o (by simp) e
theorem Kp.of_same {M : List Addr} {H H' : Hp} (a : Same H H') : Kp M H H' := fun b o _ e => a b o e
theorem Kp.none {M : List Addr} {H H' : Hp} (a : Kp M H H') {p : Addr} (n : p ∉ M) (h : H' p = Option.none) : H p = Option.none := by
  cases q : H p with
  | none => rfl
  | some o =>
    rw [a p o n q] at h
    cases h
/-- what was not there may be forgotten from M -/
theorem Kp.drop {M : List Addr} {H H' : Hp} {p : Addr} (a : Kp (p :: M) H H') (h : H p = Option.none) : Kp M H H' := fun b o n e => a b o (by
  intro z
  rcases List.mem_cons.mp z with z | z
  · rw [z, h] at e
    cases e
  · exact n z) e
theorem Kp.get {M : List Addr} {H H' : Hp} (a : Kp M H H') {b : Addr} {o : HO} (n : b ∉ M) (e : H b = some o) : H' b = some o := a b o n e
theorem Kp.seq {M : List Addr} {K : PySem.W.Frag} {H H' : Hp} (e : Kp M H H') {a : Addr} {xs : List V} (n : a ∉ M) (h : SqL K H a xs) : SqL K H' a xs := by
  rcases h with (h | ⟨o, h⟩) | h
  · exact .inl (.inl (e _ _ n h))
  · exact .inl (.inr ⟨o, e _ _ n h⟩)
  · exact .inr h
theorem Kp.tup {M : List Addr} {K : PySem.W.Frag} {H H' : Hp} (e : Kp M H H') {a : Addr} {xs : List V} (n : a ∉ M) (h : SqT K H a xs) : SqT K H' a xs := by
  rcases h with (h | ⟨o, h⟩) | h
  · exact .inl (.inl (e _ _ n h))
  · exact .inl (.inr ⟨o, e _ _ n h⟩)
  · exact .inr h
/-- what H0 does not know may change -/
theorem Kp.mut {M : List Addr} {H0 H H' : Hp} {l : Addr} {o : HO} (a : Kp M H0 H) (h : H0 l = Option.none) (e : H' = upd H l o) : Kp M H0 H' := fun b u n z => by
  rw [e, upd_ne (ne_of_none z h)]
  exact a b u n z
theorem Kp.then1 {M : List Addr} {H0 H H' : Hp} {l : Addr} (a : Kp M H0 H) (b : Kp [l] H H') (h : H0 l = Option.none) : Kp M H0 H' := fun c o n e => b c o (by
  intro z
  rw [List.mem_singleton.mp z, h] at e
  cases e) (a c o n e)
/-- a new instance and its dict -/
theorem Kp.made {M : List Addr} {H : Hp} {x dx : Addr} {o u : HO} (nx : H x = Option.none) (nd : H dx = Option.none) : Kp M H (upd (upd H dx u) x o) := fun c o n e => by
  rw [upd_ne (ne_of_none e nx), upd_ne (ne_of_none e nd)]
  exact e
theorem none2 {H : Hp} {x dx l : Addr} {o u : HO} (h : upd (upd H dx u) x o l = Option.none) : H l = Option.none := by
  unfold upd at h
  split at h
  · cases h
  · split at h
    · cases h
    · exact h
theorem nin1 {a b : Addr} (h : b ≠ a) : b ∉ [a] := by simpa using h
theorem nin0 {b : Addr} : b ∉ ([] : List Addr) := by simp
theorem lstL {K : PySem.W.Frag} {H : Hp} {a : Addr} {xs : List V} (h : H a = some (.lst xs)) : SqL K H a xs := .inl (.inl h)
theorem tupT {K : PySem.W.Frag} {H : Hp} {a : Addr} {xs : List V} (h : H a = some (.tup xs)) : SqT K H a xs := .inl (.inl h)

theorem cxK {CX : CXT} {P : Program} {w : World} {K : PySem.W.Frag} {mg : Str → Option Value} {base : Heap} {N : List Str} {qual : Str} {scope : Scope} {f : Addr} {cd : Value} {A : Around} {outer : List Env} {s : Shared} {H : Hp} {E : XK} : (cxOf CX P w K mg base N qual scope f cd A outer s H E).K = K := rfl
/-! named readings of rules -/
def rLenN (K : PySem.W.Frag) : List V → Hp → VK → Prop := fun xs H Q => ∃ p ys, xs = [.ref p] ∧ (SqL K H p ys ∨ SqT K H p ys) ∧ Q (.int ys.length) H
theorem c_len {X : Cx} : CallR X (.builtin "len") (rLenN X.K) := call_len_seq
def rListN (K : PySem.W.Frag) : List V → Hp → VK → Prop := fun xs H Q => ∃ p ys, xs = [.ref p] ∧ (SqL K H p ys ∨ SqT K H p ys) ∧ ∀ l, H l = none → Q (.ref l) (upd H l (.lst ys))
theorem c_list {X : Cx} : CallR X (.type "list") (rListN X.K) := call_list_of
def rTupN (K : PySem.W.Frag) : List V → Hp → VK → Prop := fun xs H Q => ∃ p ys, xs = [.ref p] ∧ ((SqL K H p ys ∧ ∀ l, H l = none → Q (.ref l) (upd H l (.tup ys))) ∨ (SqT K H p ys ∧ Q (.ref p) H))
theorem c_tuple {X : Cx} : CallR X (.type "tuple") (rTupN X.K) := call_tuple_of
def rInt1 : List V → Hp → VK → Prop := fun xs H Q => (∃ i, xs = [.int i] ∧ Q (.int i) H) ∨ ∃ k, xs = [.bl k] ∧ Q (.int (if k then 1 else 0)) H
theorem c_int {X : Cx} : CallR X (.type "int") rInt1 := call_int1
def rAbs : List V → Hp → VK → Prop := fun xs H Q => ∃ i, xs = [.int i] ∧ Q (.int (if i < 0 then -i else i)) H
theorem c_abs {X : Cx} : CallR X (.builtin "abs") rAbs := call_abs
def rIsN : R2 := fun x y H Q => y = .non ∧ Q (.bl (decide (x = .non))) H
theorem o_isN {X : Cx} : OpR X (compareOp .Is) rIsN := op_isN
def rNotN : R2 := fun x y H Q => y = .non ∧ Q (.bl (!decide (x = .non))) H
theorem o_notN {X : Cx} : OpR X (compareOp .IsNot) rNotN := op_notN
def rAddS : R2 := fun x y H Q => ∃ i j, x = .str i ∧ y = .str j ∧ i.length + j.length ≤ sizeLine ∧ Q (.str (i ++ j)) H
theorem o_addS {X : Cx} : OpR X (binaryOp .Add) rAddS := op_add_str
def rInSg : R2 := fun x y H Q => ∃ (c : Nat) (z : Str), x = .str ⟨#[c]⟩ ∧ y = .str z ∧ Q (.bl (decide (c ∈ z.cps.toList))) H
theorem o_inSg {X : Cx} : OpR X (compareOp .In) rInSg := op_in_sign
def rNinSg : R2 := fun x y H Q => ∃ (c : Nat) (z : Str), x = .str ⟨#[c]⟩ ∧ y = .str z ∧ Q (.bl (!decide (c ∈ z.cps.toList))) H
theorem o_ninSg {X : Cx} : OpR X (compareOp .NotIn) rNinSg := op_notIn_sign
/-- // by a divisor of any sign -/
def CDivA (_ j : Int) : Prop := j ≠ 0 ∧ j.natAbs.log2 < 9000
theorem op_fdivA {X : Cx} : OpR X (binaryOp .FloorDiv) (rI CDivA fun i j => .int (i.fdiv j)) := opI fun i j _ _ _ _ _ hc q => PyProof.Rows.floordiv_int hc.1 q (.inl (PyProof.noPylong_of_log2 hc.2))
theorem divA {i j : Int} {b : Nat} (h : j ≠ 0) (hb : j.natAbs < 2 ^ b) (h0 : 0 < b) (h9 : b ≤ 9000) : CDivA i j := ⟨h, Nat.lt_of_lt_of_le (PySem.Flt.log2_lt_of h0 hb) h9⟩
def rLenS : List V → Hp → VK → Prop := fun xs H Q => ∃ x : Str, xs = [.str x] ∧ x.cps.size ≤ 10000000 ∧ Q (.int (x.cps.size : Nat)) H
theorem c_lens {X : Cx} : CallR X (.builtin "len") rLenS := fun pins s σ H xs us Q I r h => call_len pins s σ H xs us Q I r (by obtain ⟨x, rfl, hz, q⟩ := h; exact ⟨.str x, _, rfl, ⟨Nat.le_trans hz (by decide), rfl⟩, q⟩)
def rPopQ : V → List V → Hp → VK → Prop := rPop
section
variable {σ : St} {H : Hp} {Q : VK} {v x y : V} {ta tb tc te : TE} {tA : TT} {D : Ends} {t u ts : TS} {r : R2} {K : PySem.W.Frag} {i : Nat} {A B : Prop}
/-! values -/
theorem var (h : σ[i]? = some (some v)) (q : Q v H) : tVar i σ H Q := ⟨v, h, q⟩
theorem cst (q : Q v H) : tC v σ H Q := q
theorem op (h : ta σ H fun x H1 => tb σ H1 fun y H2 => r x y H2 Q) : tOp r ta tb σ H Q := h
theorem un {r : V → Hp → VK → Prop} (h : ta σ H fun x H1 => r x H1 Q) : tUn r ta σ H Q := h
theorem i0 {g : Int → Int → V} {a b : Int} (q : Q (g a b) H) : rI0 g (.int a) (.int b) H Q := ⟨a, b, rfl, rfl, q⟩
theorem iC {C : Int → Int → Prop} {g : Int → Int → V} {a b : Int} (c : C a b) (q : Q (g a b) H) : rI C g (.int a) (.int b) H Q := ⟨a, b, rfl, rfl, c, q⟩
theorem iU {g : Int → V} {a : Int} (q : Q (g a) H) : rU g (.int a) H Q := ⟨a, rfl, q⟩
theorem eqII {a b : Int} (q : Q (.bl (decide (a = b))) H) : rEq (.int a) (.int b) H Q := ⟨rfl, by
  have e : decide (V.int a = V.int b) = decide (a = b) := by simp
  rw [e]; exact q⟩
theorem neII {a b : Int} (q : Q (.bl (!decide (a = b))) H) : rNe (.int a) (.int b) H Q := ⟨rfl, by
  have e : decide (V.int a = V.int b) = decide (a = b) := by simp
  rw [e]; exact q⟩
theorem eqSS {a b : Str} (q : Q (.bl (decide (a = b))) H) : rEq (.str a) (.str b) H Q := ⟨rfl, by
  have e : decide (V.str a = V.str b) = decide (a = b) := by simp
  rw [e]; exact q⟩
theorem neSS {a b : Str} (q : Q (.bl (!decide (a = b))) H) : rNe (.str a) (.str b) H Q := ⟨rfl, by
  have e : decide (V.str a = V.str b) = decide (a = b) := by simp
  rw [e]; exact q⟩
theorem eqBB {a b : Bool} (q : Q (.bl (decide (a = b))) H) : rEq (.bl a) (.bl b) H Q := ⟨rfl, by
  have e : decide (V.bl a = V.bl b) = decide (a = b) := by simp
  rw [e]; exact q⟩
theorem neBB {a b : Bool} (q : Q (.bl (!decide (a = b))) H) : rNe (.bl a) (.bl b) H Q := ⟨rfl, by
  have e : decide (V.bl a = V.bl b) = decide (a = b) := by simp
  rw [e]; exact q⟩
theorem bl {b : Bool} {q : Bool → Hp → Prop} (h : q b H) : ∃ k, V.bl b = .bl k ∧ q k H := ⟨b, rfl, h⟩
theorem bl' {b : Bool} {q : Bool → Prop} (h : q b) : ∃ k, V.bl b = .bl k ∧ q k := ⟨b, rfl, h⟩
theorem test {Q : Bool → Hp → Prop} (h : te σ H fun x H' => ∃ k, x = .bl k ∧ Q k H') : tTest te σ H Q := h
theorem tbb {Q : Bool → Hp → Prop} (h : te σ H fun x H' => ∃ k, x = .bl k ∧ Q k H') : tB te σ H Q := h
theorem tand {a b : TT} {Q : Bool → Hp → Prop} (h : a σ H fun c H1 => if c = true then b σ H1 Q else Q false H1) : tAnd a b σ H Q := h
theorem tor {a b : TT} {Q : Bool → Hp → Prop} (h : a σ H fun c H1 => if c = true then Q true H1 else b σ H1 Q) : tOr a b σ H Q := h
theorem tnot {a : TT} {Q : Bool → Hp → Prop} (h : a σ H fun c H1 => Q (!c) H1) : tNot a σ H Q := h
theorem tyes {Q : Bool → Hp → Prop} (h : Q true H) : tYes σ H Q := h
theorem andV (h : ta σ H fun x H1 => ∃ c, x = .bl c ∧ if c = true then tb σ H1 Q else Q (.bl false) H1) : tAndV ta tb σ H Q := h
theorem orV (h : ta σ H fun x H1 => ∃ c, x = .bl c ∧ if c = true then Q (.bl true) H1 else tb σ H1 Q) : tOrV ta tb σ H Q := h
theorem notV (h : ta σ H fun x H1 => ∃ c, x = .bl c ∧ Q (.bl (!c)) H1) : tNotV ta σ H Q := h
theorem ifE (h : tA σ H fun c H1 => if c = true then ta σ H1 Q else tb σ H1 Q) : L2.tIf tA ta tb σ H Q := h
theorem chain {r r' : R2} (h : ta σ H fun x H1 => tb σ H1 fun y H2 => r x y H2 fun z H3 => ∃ k, z = .bl k ∧ (if k = true then tc σ H3 fun w' H4 => r' y w' H4 Q else Q (.bl false) H3)) : tChain r r' ta tb tc σ H Q := h
/-! branches -/
theorem ite {p : Prop} [Decidable p] (h1 : p → A) (h2 : ¬p → B) : if decide p = true then A else B := by
  by_cases h : p
  · rw [decide_eq_true h, if_pos rfl]; exact h1 h
  · rw [decide_eq_false h, if_neg Bool.false_ne_true]; exact h2 h
theorem iteN {p : Prop} [Decidable p] (h1 : ¬p → A) (h2 : p → B) : if (!decide p) = true then A else B := by
  by_cases h : p
  · rw [decide_eq_true h]; exact h2 h
  · rw [decide_eq_false h]; exact h1 h
theorem iteB {b : Bool} (h1 : b = true → A) (h2 : b = false → B) : if b = true then A else B := by
  cases b with
  | true => exact h1 rfl
  | false => exact h2 rfl
theorem yes {p : Prop} [Decidable p] (h : p) (q : A) : if decide p = true then A else B := by rw [decide_eq_true h, if_pos rfl]; exact q
theorem no {p : Prop} [Decidable p] (h : ¬p) (q : B) : if decide p = true then A else B := by rw [decide_eq_false h, if_neg Bool.false_ne_true]; exact q
theorem yesN {p : Prop} [Decidable p] (h : ¬p) (q : A) : if (!decide p) = true then A else B := by rw [decide_eq_false h]; exact q
theorem noN {p : Prop} [Decidable p] (h : p) (q : B) : if (!decide p) = true then A else B := by rw [decide_eq_true h]; exact q
theorem yesB (q : A) : if true = true then A else B := q
theorem noNB (q : B) : if (!true) = true then A else B := q
theorem yesNB (q : A) : if (!false) = true then A else B := q
theorem noB (q : B) : if false = true then A else B := q
/-! calls -/
theorem nil {Q : List V → Hp → Prop} (q : Q [] H) : tNil σ H Q := q
theorem cons {Q : List V → Hp → Prop} {tr : TA} (h : ta σ H fun x H1 => tr σ H1 fun xs H2 => Q (x :: xs) H2) : tCons ta tr σ H Q := h
theorem cb {r : List V → Hp → VK → Prop} {a : TA} (h : a σ H fun vs H1 => r vs H1 Q) : tCB r a σ H Q := h
theorem call {sp : Sp} {dvs : List V} {E : XK} {a : TA} (h : a σ H fun vs H1 => sp (vs ++ dvs) H1 Q E) : tCall sp dvs E a σ H Q := h
theorem meth {C : Addr} {m : Str} {sp : Sp} {dvs : List V} {E : XK} {a : TA} (h : ta σ H fun x H1 => ∃ p dx fs, x = .ref p ∧ H1 p = some (.ins C dx fs) ∧ fs.lookup m = none ∧ a σ H1 fun vs H2 => sp (x :: (vs ++ dvs)) H2 Q E) : tMeth C m sp dvs E ta a σ H Q := h
theorem fld {f : Str} (h : ta σ H fun x H1 => ∃ a C dx fs v, x = .ref a ∧ H1 a = some (.ins C dx fs) ∧ Cls K C ∧ NoAttr K C f ∧ fs.lookup f = some v ∧ Q v H1) : tFld K ta f σ H Q := h
theorem int1 {a : Int} (q : Q (.int a) H) : rInt1 [.int a] H Q := .inl ⟨a, rfl, q⟩
theorem intb {b : Bool} (q : Q (.int (if b then 1 else 0)) H) : rInt1 [.bl b] H Q := .inr ⟨b, rfl, q⟩
theorem abs1 {a : Int} (q : Q (.int (if a < 0 then -a else a)) H) : rAbs [.int a] H Q := ⟨a, rfl, q⟩
theorem isN (q : Q (.bl (decide (x = .non))) H) : rIsN x .non H Q := ⟨rfl, q⟩
theorem notN (q : Q (.bl (!decide (x = .non))) H) : rNotN x .non H Q := ⟨rfl, q⟩
theorem addS {a b : Str} (h : a.length + b.length ≤ sizeLine) (q : Q (.str (a ++ b)) H) : rAddS (.str a) (.str b) H Q := ⟨a, b, rfl, rfl, h, q⟩
theorem inSg {c : Nat} {z : Str} (q : Q (.bl (decide (c ∈ z.cps.toList))) H) : rInSg (.str ⟨#[c]⟩) (.str z) H Q := ⟨c, z, rfl, rfl, q⟩
theorem ninSg {c : Nat} {z : Str} (q : Q (.bl (!decide (c ∈ z.cps.toList))) H) : rNinSg (.str ⟨#[c]⟩) (.str z) H Q := ⟨c, z, rfl, rfl, q⟩
/-- a new object -/
theorem new {o : HO} (h : ∀ p, H p = none → Q (.ref p) (upd H p o)) : ∀ p, H p = none → Q (.ref p) (upd H p o) := h
def TupN (Q : VK) (xs : List V) (H1 : Hp) : Prop := xs.length ≤ sizeLine ∧ ∀ p, H1 p = none → Q (.ref p) (upd H1 p (.tup xs))
def LstN (Q : VK) (xs : List V) (H1 : Hp) : Prop := xs.length ≤ sizeLine ∧ ∀ p, H1 p = none → Q (.ref p) (upd H1 p (.lst xs))
theorem tup {a : TA} (h : a σ H (TupN Q)) : tTup a σ H Q := h
theorem lst {a : TA} (h : a σ H (LstN Q)) : tLst a σ H Q := h
/-- a new object, the heap behind it a letter -/
theorem mk {o : HO} {H0 : Hp} {R : Addr → Hp → Prop} (h : ∀ p H1, H0 p = none → Kp [] H0 H1 → H1 p = some o → R p H1) : ∀ p, H0 p = none → R p (upd H0 p o) := fun p n => h p _ n (Kp.new n) upd_same
theorem tupK {xs : List V} (q : ∀ p H1, H p = none → Kp [] H H1 → H1 p = some (.tup xs) → Q (.ref p) H1) (h : xs.length ≤ 100000 := by simp) : TupN Q xs H := ⟨Nat.le_trans h (by decide), mk q⟩
theorem lstK {xs : List V} (q : ∀ p H1, H p = none → Kp [] H H1 → H1 p = some (.lst xs) → Q (.ref p) H1) (h : xs.length ≤ 100000 := by simp) : LstN Q xs H := ⟨Nat.le_trans h (by decide), mk q⟩
theorem sz {n m : Nat} (h : n ≤ m) (hm : m ≤ 10000000 := by decide) : n ≤ sizeLine := Nat.le_trans h (Nat.le_trans hm (by decide))
theorem szl {n m : Nat} (h : n ≤ m) (hm : m ≤ 10000000 := by decide) : n < sizeLine := Nat.lt_of_le_of_lt (Nat.le_trans h hm) (by decide)
/-! subscripts -/
theorem ixL {p : Addr} {xs : List V} {j : Int} (h : SqL K H p xs) (e : atI xs j = some v) (q : Q v H) : rIxL K (.ref p) (.int j) H Q := ⟨p, xs, j, v, rfl, rfl, h, e, q⟩
theorem ixT {p : Addr} {xs : List V} {j : Int} (h : SqT K H p xs) (e : atI xs j = some v) (q : Q v H) : rIxT K (.ref p) (.int j) H Q := ⟨p, xs, j, v, rfl, rfl, h, e, q⟩
theorem setL {p : Addr} {xs : List V} {k : Int} {j : Nat} {v : V} {q : Hp → Prop} (h : H p = some (.lst xs)) (e : ixN xs.length k = some j) (hq : q (upd H p (.lst (xs.set j v)))) : rSetL (.ref p) (.int k) v H q := ⟨p, xs, k, j, rfl, rfl, h, e, hq⟩
theorem gsub {to ti : TE} {t : TSet} {Q : St → Hp → Prop} (h : to σ H fun o H1 => ti σ H1 fun i H2 => t o i v H2 fun H3 => Q σ H3) : gSub to ti t v σ H Q := h
/-! statements -/
/-- a statement whose ways join ahead of the rest -/
def tSeqJ (t u : TS) : TS := tSeq t u
theorem pss_consJ {X : Cx} {st : Stmt} {rest : List Stmt} {t u : TS} (h1 : PS X st t) (h2 : PSs X rest u) : PSs X (st :: rest) (tSeqJ t u) := pss_cons h1 h2
theorem seqJ (J : St → Hp → Prop) (h2 : ∀ σ H, J σ H → u D σ H) (h1 : ∀ N : St → Hp → Prop, (∀ σ H, J σ H → N σ H) → t { D with nx := N } σ H) : tSeqJ t u D σ H := h1 (u D) h2
theorem seqJ' (h : tSeq t u D σ H) : tSeqJ t u D σ H := h
theorem seq (h : t { D with nx := u D } σ H) : tSeq t u D σ H := h
theorem asg {g : TG} (h : te σ H fun x H1 => g x σ H1 D.nx) : tAsg te g D σ H := h
theorem gname {Q : St → Hp → Prop} {σ' : St} (e : σ.set i (some v) = σ') (h : Q σ' H) : gName i v σ H Q := by
  subst e; exact h
def ParK (i j : Nat) (D : Ends) (σ : St) (vs : List V) (H1 : Hp) : Prop := ∃ v w, vs = [v, w] ∧ D.nx ((σ.set i (some v)).set j (some w)) H1
theorem par {i j : Nat} {a : TA} (h : a σ H (ParK i j D σ)) : tPar i j a D σ H := h
theorem par2 {i j : Nat} {v w : V} {σ' : St} (e : (σ.set i (some v)).set j (some w) = σ') (h : D.nx σ' H) : ParK i j D σ [v, w] H := ⟨v, w, rfl, by rw [e]; exact h⟩
theorem aug {ti : TIp} {x : V} (e : σ[i]? = some (some x)) (h : te σ H fun y H1 => ti x y H1 fun z H2 => D.nx (σ.set i (some z)) H2) : tAug i te ti D σ H := ⟨x, e, h⟩
theorem ipI' {f : Int → Int → Int} {a b : Int} (q : Q (.int (f a b)) H) : ipI f (.int a) (.int b) H Q := ⟨a, b, rfl, rfl, q⟩
theorem ifs {c : TT} (h : c σ H fun b H1 => if b = true then t D σ H1 else u D σ H1) : tIfS c t u D σ H := h
theorem ret (h : te σ H D.rt) : tRet te D σ H := h
theorem retN (h : D.rt .non H) : tRetN D σ H := h
theorem next (h : D.nx σ H) : tNext D σ H := h
theorem brk (h : D.bk σ H) : tBreak D σ H := h
theorem drop (h : te σ H fun _ H1 => D.nx σ H1) : tDrop te D σ H := h
theorem bm {T : String} {r : V → List V → Hp → VK → Prop} {to : TE} {a : TA} (h : to σ H fun x H1 => tyV K T x H1 ∧ a σ H1 fun xs H2 => r x xs H2 Q) : tBM K T r to a σ H Q := h
theorem bm0 {T : String} {r : V → List V → Hp → VK → Prop} {to : TE} (h : to σ H fun x H1 => tyV K T x H1 ∧ r x [] H1 Q) : tBM0 K T r to σ H Q := h
theorem app {l : Addr} {xs : List V} {y : V} (h : H l = some (.lst xs)) (z : xs.length < sizeLine) (q : Q .non (upd H l (.lst (xs ++ [y])))) : rAppend (.ref l) [y] H Q := ⟨l, xs, y, rfl, rfl, h, z, q⟩
theorem tyL {p : Addr} {xs : List V} (h : H p = some (.lst xs)) : tyV K "list" (.ref p) H := .inl ⟨rfl, _, SqL.of h⟩
theorem sfld {tv : TE} {f : Str} (h : tv σ H fun y H1 => ta σ H1 fun x H2 => ∃ a C dx fs, x = .ref a ∧ H2 a = some (.ins C dx fs) ∧ Cls K C ∧ NoAttr K C f ∧ fs.length < 1000 ∧ D.nx σ (upd H2 a (.ins C dx (putF f y fs)))) : sFld K ta tv f D σ H := h
theorem sfldaug {tv : TE} {rd : V → V → Hp → VK → Prop} {f : Str} (h : ta σ H fun x H1 => ∃ a C dx fs v, x = .ref a ∧ H1 a = some (.ins C dx fs) ∧ Cls K C ∧ NoAttr K C f ∧ fs.lookup f = some v ∧ tv σ H1 fun y H2 => rd v y H2 fun z H3 => ∃ dx' fs', H3 a = some (.ins C dx' fs') ∧ fs'.length < 1000 ∧ D.nx σ (upd H3 a (.ins C dx' (putF f z fs')))) : sFldAug K ta tv rd f D σ H := h
theorem radd {a b : Int} (q : Q (.int (a + b)) H) : rAdd (.int a) (.int b) H Q := ⟨a, b, rfl, rfl, q⟩
theorem make {C : Addr} {sp : Sp} {dvs : List V} {E : XK} {a : TA} (h : a σ H fun vs H1 => ∀ x dx, H1 x = none → H1 dx = none → dx ≠ x → sp (.ref x :: (vs ++ dvs)) (upd (upd H1 dx (.own x)) x (.ins C dx [])) (fun v H2 => v = .non ∧ Q (.ref x) H2) E) : tMake C sp dvs E a σ H Q := h
/-- while -/
def WhB (W : Nat → St → Hp → Prop) (m : Nat) (tb : TS) (D : Ends) (σ : St) (H1 : Hp) : Prop := ∃ N : St → Hp → Prop, (∀ σ' H', N σ' H' → ∃ m', m' < m ∧ W m' σ' H') ∧ tb { D with nx := N, ct := N, bk := D.nx } σ H1
theorem whb {W : Nat → St → Hp → Prop} {m : Nat} {tb : TS} (h : tb { D with nx := fun σ' H' => ∃ m', m' < m ∧ W m' σ' H', ct := fun σ' H' => ∃ m', m' < m ∧ W m' σ' H', bk := D.nx } σ H) : WhB W m tb D σ H := ⟨_, fun _ _ z => z, h⟩
theorem wh {c : TT} {tb : TS} (W : Nat → St → Hp → Prop) (m : Nat) (h0 : W m σ H) (hs : ∀ m σ H, W m σ H → c σ H fun b H1 => if b = true then WhB W m tb D σ H1 else D.nx σ H1) : tWhile c tb D σ H := ⟨W, ⟨m, h0⟩, hs⟩
/-- calls by values -/
theorem sumL {a : Addr} {ns : List Int} (h : SqL K H a (ns.map V.int)) (q : Q (.int ns.sum) H) : rSum K [.ref a] H Q := ⟨a, ns, rfl, h, q⟩
theorem gcd {a b : Int} (q : Q (.int ((Nat.gcd a.natAbs b.natAbs : Nat) : Int)) H) : rGcd [.int a, .int b] H Q := ⟨a, b, rfl, q⟩
theorem mkN {C : Addr} {sp : Sp} {Q : XK} (h : ∀ a, H a = none → sp [.ref a] (upd H a (exo a C none)) (fun v H2 => v = .non ∧ H2 a = some (exo a C none) ∧ Q (.ref C) none (del H2 a)) (fun _ _ _ => False)) : Sup.tMkN C sp σ H Q := h
theorem gtup {n : Nat} {t : TGs} {a : Addr} {xs : List V} {Q : St → Hp → Prop} (h : SqT K H a xs) (e : xs.length = n) (q : t xs σ H Q) : gTup K n t (.ref a) σ H Q := ⟨a, xs, rfl, h, e, q⟩
theorem gcons {t : TG} {u : TGs} {v : V} {r : List V} {Q : St → Hp → Prop} (q : t v σ H fun σ' H' => u r σ' H' Q) : gCons t u (v :: r) σ H Q := ⟨v, r, rfl, q⟩
theorem gnil {Q : St → Hp → Prop} (q : Q σ H) : gNil [] σ H Q := ⟨rfl, q⟩
theorem lenL {a : Addr} {xs : List V} (h : SqL K H a xs) (q : Q (.int xs.length) H) : rLenN K [.ref a] H Q := ⟨a, xs, rfl, .inl h, q⟩
theorem lenT {a : Addr} {xs : List V} (h : SqT K H a xs) (q : Q (.int xs.length) H) : rLenN K [.ref a] H Q := ⟨a, xs, rfl, .inr h, q⟩
theorem listL {a : Addr} {xs : List V} (h : SqL K H a xs) (q : ∀ p H1, H p = none → Kp [] H H1 → H1 p = some (.lst xs) → Q (.ref p) H1) : rListN K [.ref a] H Q := ⟨a, xs, rfl, .inl h, mk q⟩
theorem isi {A B : String} {x : V} {b : Bool} (ht : TyX K H x (.type A)) (hk : kitB A B = some b) (q : Q (.bl b) H) : rIsi K [x, .ty B] H Q := ⟨x, _, _, _, b, rfl, .ty _, ht, kit_ty hk, q⟩
theorem isiI {B : String} {a : Int} {b : Bool} (hk : kitB "int" B = some b) (q : Q (.bl b) H) : rIsi K [.int a, .ty B] H Q := isi (.base (.int _)) hk q
theorem atM {ns : List Int} {j : Nat} {x : Int} (h : ns[j]? = some x) : atI (ns.map V.int) (j : Int) = some (.int x) := atI_nat (by rw [List.getElem?_map, h]; rfl)
theorem ixN_nat {n j : Nat} (hj : j < n) : ixN n (j : Int) = some j := by
  unfold ixN
  rw [if_pos (by omega), if_pos (by omega)]
  simp
/-- a comprehension, a loop over range(n), over a list -/
def ForK (g : TG) (tb : TS) (D : Ends) (σ : St) (J : It) (H1 : Hp) : Prop := ∃ W : Nat → Nat → St → Hp → Prop, (∃ m, W 0 m σ H1) ∧ ∀ i m σ H, W i m σ H →
  (J.stop i H ∧ D.nx σ H) ∨ (J.go i H ∧ ∃ N : St → Hp → Prop, (∀ σ' H', N σ' H' → ∃ m', m' < m ∧ W (i + 1) m' σ' H') ∧ ∀ x H', J.yld i H x H' → g x σ H' fun σ2 H2 => tb { D with nx := N, ct := N, bk := D.nx } σ2 H2)
def LcK (g : TG) (tt : TT) (te : TE) (vs : List Nat) (σ : St) (Q : VK) (J : It) (H1 : Hp) : Prop := ∀ D, H1 D = none → ∃ W : Nat → Nat → Hp → Prop, (∃ m, W 0 m (upd H1 D (.lst []))) ∧ ∀ i m H, W i m H →
      (J.stop i H ∧ Q (.ref D) H) ∨ (J.go i H ∧ ∃ Nx : Hp → Prop, (∀ H', Nx H' → ∃ m', m' < m ∧ W (i + 1) m' H') ∧ ∀ x H', J.yld i H x H' → g x (wipe σ vs) H' fun σ2 H2 => wipe σ2 vs = wipe σ vs ∧ tt σ2 H2 fun b H3 => if b = true then te σ2 H3 fun y H4 => ∃ acc, H4 D = some (.lst acc) ∧ acc.length < sizeLine ∧ Nx (upd H4 D (.lst (acc ++ [y]))) else Nx H3)
def Rng1K (R : It → Hp → Prop) (vs : List V) (H1 : Hp) : Prop := ∃ j : Int, vs = [.int j] ∧ -(2 ^ 62) ≤ j ∧ j < 2 ^ 62 ∧ R (Itr 0 j.toNat) H1
def ListK (K : PySem.W.Frag) (R : It → Hp → Prop) (x : V) (H1 : Hp) : Prop := ∃ a, x = .ref a ∧ (∃ xs, SqL K H1 a xs) ∧ R (Itl K a) H1
theorem lc {wi : TI} {g : TG} {tt : TT} {vs : List Nat} (h : wi σ H (LcK g tt te vs σ Q)) : tLc wi g tt te vs σ H Q := h
theorem rng1 {a : TA} {R : It → Hp → Prop} (h : a σ H (Rng1K R)) : iRng1 a σ H R := h
theorem ilist {R : It → Hp → Prop} (h : ta σ H (ListK K R)) : iList K ta σ H R := h
theorem for_ {wi : TI} {g : TG} {tb : TS} (h : wi σ H (ForK g tb D σ)) : tFor wi g tb D σ H := h
/-- what one turn of a comprehension asks -/
def LcT (g : TG) (tt : TT) (te : TE) (vs : List Nat) (σ : St) (D : Addr) (P : Hp → Prop) (x : V) (H1 : Hp) : Prop := g x (wipe σ vs) H1 fun σ2 H2 => wipe σ2 vs = wipe σ vs ∧ tt σ2 H2 fun b H3 => if b = true then te σ2 H3 fun y H4 => ∃ acc, H4 D = some (.lst acc) ∧ acc.length < sizeLine ∧ P (upd H4 D (.lst (acc ++ [y]))) else P H3
theorem lcr {g : TG} {tt : TT} {vs : List Nat} {e : Int} (n : Nat) (he : e = (n : Int)) (hb : n < 4611686018427387904) (Pv : Addr → Nat → Hp → Prop) (h0 : ∀ D H1, H D = none → Kp [] H H1 → H1 D = some (.lst []) → Pv D 0 H1)
    (hs : ∀ D i H1, H D = none → i < n → Pv D i H1 → g (.int (i : Int)) (wipe σ vs) H1 fun σ2 H2 => wipe σ2 vs = wipe σ vs ∧ tt σ2 H2 fun b H3 => if b = true then te σ2 H3 fun y H4 => ∃ acc, H4 D = some (.lst acc) ∧ acc.length < sizeLine ∧ Pv D (i + 1) (upd H4 D (.lst (acc ++ [y]))) else Pv D (i + 1) H3)
    (hd : ∀ D H1, H D = none → Pv D n H1 → Q (.ref D) H1) : Rng1K (LcK g tt te vs σ Q) [.int e] H := by
  subst he
  refine ⟨(n : Int), rfl, by omega, by omega, fun D hD => ?_⟩
  rw [show ((n : Int)).toNat = n by simp]
  refine lc_range (lo := 0) (n := n) (Pv D) (h0 D _ hD (Kp.new hD) upd_same) (fun i H1 hi p => ?_) fun H1 p => hd D H1 hD p
  rw [show (0 : Int) + (i : Int) = (i : Int) by omega]
  exact hs D i H1 hD hi p
theorem lcl {g : TG} {tt : TT} {vs : List Nat} {a : Addr} (xs : List V) (hS : SqL K H a xs) (Pv : Addr → Nat → Hp → Prop) (h0 : ∀ D H1, H D = none → Kp [] H H1 → H1 D = some (.lst []) → Pv D 0 H1)
    (hl : ∀ D i H1, H D = none → i ≤ xs.length → Pv D i H1 → SqL K H1 a xs)
    (hs : ∀ D i x H1, H D = none → xs[i]? = some x → Pv D i H1 → g x (wipe σ vs) H1 fun σ2 H2 => wipe σ2 vs = wipe σ vs ∧ tt σ2 H2 fun b H3 => if b = true then te σ2 H3 fun y H4 => ∃ acc, H4 D = some (.lst acc) ∧ acc.length < sizeLine ∧ Pv D (i + 1) (upd H4 D (.lst (acc ++ [y]))) else Pv D (i + 1) H3)
    (hd : ∀ D H1, H D = none → Pv D xs.length H1 → Q (.ref D) H1) : ListK K (LcK g tt te vs σ Q) (.ref a) H :=
  ⟨a, rfl, ⟨xs, hS⟩, fun D hD => lc_list (K := K) (a := a) (xs := xs) (Pv D) (h0 D _ hD (Kp.new hD) upd_same) (fun i H1 hi p => hl D i H1 hD hi p) (fun i x H1 hx p => hs D i x H1 hD hx p) fun H1 p => hd D H1 hD p⟩
/-- over a tuple -/
def TupK (K : PySem.W.Frag) (R : It → Hp → Prop) (x : V) (H1 : Hp) : Prop := ∃ a, x = .ref a ∧ (∃ xs, SqT K H1 a xs) ∧ R (Itt K a) H1
theorem itup {R : It → Hp → Prop} (h : ta σ H (TupK K R)) : iTup K ta σ H R := h
theorem lct {g : TG} {tt : TT} {vs : List Nat} {a : Addr} (xs : List V) (hS : SqT K H a xs) (Pv : Addr → Nat → Hp → Prop) (h0 : ∀ D H1, H D = none → Kp [] H H1 → H1 D = some (.lst []) → Pv D 0 H1)
    (hl : ∀ D i H1, H D = none → i ≤ xs.length → Pv D i H1 → SqT K H1 a xs)
    (hs : ∀ D i x H1, H D = none → xs[i]? = some x → Pv D i H1 → g x (wipe σ vs) H1 fun σ2 H2 => wipe σ2 vs = wipe σ vs ∧ tt σ2 H2 fun b H3 => if b = true then te σ2 H3 fun y H4 => ∃ acc, H4 D = some (.lst acc) ∧ acc.length < sizeLine ∧ Pv D (i + 1) (upd H4 D (.lst (acc ++ [y]))) else Pv D (i + 1) H3)
    (hd : ∀ D H1, H D = none → Pv D xs.length H1 → Q (.ref D) H1) : TupK K (LcK g tt te vs σ Q) (.ref a) H :=
  ⟨a, rfl, ⟨xs, hS⟩, fun D hD => lc_tup (K := K) (a := a) (xs := xs) (Pv D) (h0 D _ hD (Kp.new hD) upd_same) (fun i H1 hi p => hl D i H1 hD hi p) (fun i x H1 hx p => hs D i x H1 hD hx p) fun H1 p => hd D H1 hD p⟩
theorem allL {a : Addr} {bs : List Bool} (h : SqL K H a (bs.map V.bl)) (q : Q (.bl (bs.all id)) H) : rAll K [.ref a] H Q := ⟨a, bs, rfl, h, q⟩
theorem anyL {a : Addr} {bs : List Bool} (h : SqL K H a (bs.map V.bl)) (q : Q (.bl (bs.any id)) H) : rAny K [.ref a] H Q := ⟨a, bs, rfl, h, q⟩
theorem forr {g : TG} {tb : TS} {e : Int} (n : Nat) (he : e = (n : Int)) (hb : n < 4611686018427387904) (Pv : Nat → St → Hp → Prop) (h0 : Pv 0 σ H)
    (hs : ∀ i σ H, i < n → Pv i σ H → g (.int (i : Int)) σ H fun σ2 H2 => tb { D with nx := Pv (i + 1), ct := Pv (i + 1), bk := D.nx } σ2 H2) (hd : ∀ σ H, Pv n σ H → D.nx σ H) : Rng1K (ForK g tb D σ) [.int e] H := by
  subst he
  refine ⟨(n : Int), rfl, by omega, by omega, ?_⟩
  rw [show ((n : Int)).toNat = n by simp]
  refine for_range (lo := 0) (n := n) Pv h0 (fun i σ H1 hi p => ?_) hd
  rw [show (0 : Int) + (i : Int) = (i : Int) by omega]
  exact hs i σ H1 hi p
theorem forl {g : TG} {tb : TS} {a : Addr} (xs : List V) (hS : SqL K H a xs) (Pv : Nat → St → Hp → Prop) (h0 : Pv 0 σ H) (hl : ∀ i σ H, i ≤ xs.length → Pv i σ H → SqL K H a xs)
    (hs : ∀ i x σ H, xs[i]? = some x → Pv i σ H → g x σ H fun σ2 H2 => tb { D with nx := Pv (i + 1), ct := Pv (i + 1), bk := D.nx } σ2 H2) (hd : ∀ σ H, Pv xs.length σ H → D.nx σ H) : ListK K (ForK g tb D σ) (.ref a) H :=
  ⟨a, rfl, ⟨xs, hS⟩, for_list (K := K) (a := a) (xs := xs) Pv h0 hl hs hd⟩
/-! texts -/
def StrK (R : It → Hp → Prop) (v : V) (H1 : Hp) : Prop := ∃ x, v = .str x ∧ R (Its x) H1
theorem istr {R : It → Hp → Prop} (h : ta σ H (StrK R)) : iStr ta σ H R := h
theorem fors {g : TG} {tb : TS} {x : Str} (Pv : Nat → St → Hp → Prop) (h0 : Pv 0 σ H)
    (hs : ∀ i c σ H, x.cps[i]? = some c → Pv i σ H → g (.str ⟨#[c]⟩) σ H fun σ2 H2 => tb { D with nx := Pv (i + 1), ct := Pv (i + 1), bk := D.nx } σ2 H2) (hd : ∀ σ H, Pv x.cps.size σ H → D.nx σ H) : StrK (ForK g tb D σ) (.str x) H :=
  ⟨x, rfl, for_it walk_str Pv h0 (fun _ _ _ _ _ => trivial) (fun i v σ H H' hi p y => by obtain ⟨rfl, c, hc, rfl⟩ := y; exact hs i c σ _ hc p) hd⟩
theorem lcs {g : TG} {tt : TT} {vs : List Nat} {x : Str} (Pv : Addr → Nat → Hp → Prop) (h0 : ∀ D H1, H D = none → Kp [] H H1 → H1 D = some (.lst []) → Pv D 0 H1)
    (hs : ∀ D i c H1, H D = none → x.cps[i]? = some c → Pv D i H1 → g (.str ⟨#[c]⟩) (wipe σ vs) H1 fun σ2 H2 => wipe σ2 vs = wipe σ vs ∧ tt σ2 H2 fun b H3 => if b = true then te σ2 H3 fun y H4 => ∃ acc, H4 D = some (.lst acc) ∧ acc.length < sizeLine ∧ Pv D (i + 1) (upd H4 D (.lst (acc ++ [y]))) else Pv D (i + 1) H3)
    (hd : ∀ D H1, H D = none → Pv D x.cps.size H1 → Q (.ref D) H1) : StrK (LcK g tt te vs σ Q) (.str x) H :=
  ⟨x, rfl, fun D hD => lc_it walk_str (Pv D) (h0 D _ hD (Kp.new hD) upd_same) (fun _ _ _ _ => trivial) (fun i v H H' hi p y => by obtain ⟨rfl, c, hc, rfl⟩ := y; exact hs D i c _ hD hc p) fun H1 p => hd D H1 hD p⟩
theorem lenS {x : Str} (hz : x.cps.size ≤ 10000000) (q : Q (.int (x.cps.size : Nat)) H) : rLenS [.str x] H Q := ⟨x, rfl, hz, q⟩
/-! enumerate -/
def EnumK (K : PySem.W.Frag) (R : It → Hp → Prop) (vs : List V) (H1 : Hp) : Prop := ∃ a xs, vs = [.ref a] ∧ SqL K H1 a xs ∧ R (Ite K a) H1
theorem ienum {a : TA} {R : It → Hp → Prop} (h : a σ H (EnumK K R)) : iEnum K a σ H R := h
theorem fore {g : TG} {tb : TS} {a : Addr} (xs : List V) (hS : SqL K H a xs) (Pv : Nat → St → Hp → Prop) (h0 : Pv 0 σ H) (hl : ∀ i σ H, i ≤ xs.length → Pv i σ H → SqL K H a xs)
    (hs : ∀ i x σ H H' T, xs[i]? = some x → Pv i σ H → H T = none → Kp [] H H' → H' T = some (.tup [.int (i : Nat), x]) → g (.ref T) σ H' fun σ2 H2 => tb { D with nx := Pv (i + 1), ct := Pv (i + 1), bk := D.nx } σ2 H2) (hd : ∀ σ H, Pv xs.length σ H → D.nx σ H) : EnumK K (ForK g tb D σ) [.ref a] H :=
  ⟨a, xs, rfl, hS, for_it (walk_enum (K := K) (a := a) (xs := xs)) Pv h0 hl (fun i v σ H H' hi p y => by
    obtain ⟨T, x, z, rfl, h1, rfl, h2, h3⟩ := y
    cases h2
    exact hs i z σ H _ T h3 p h1 (Kp.new h1) upd_same) hd⟩
/-! dicts -/
theorem dnew (h : ∀ p H1, H p = none → Kp [] H H1 → H1 p = some (.dK []) → Q (.ref p) H1) : tDNewK σ H Q := mk h
theorem din {ty td : TE} (h : ty σ H fun y H1 => td σ H1 fun x H2 => ∃ a o, x = .ref a ∧ DGet H2 a y o ∧ Q (.bl o.isSome) H2) : tDIn ty td σ H Q := h
theorem dput {td ty tv : TE} (h : tv σ H fun v H1 => td σ H1 fun x H2 => ty σ H2 fun y H3 => ∃ a H4, x = .ref a ∧ DPut H3 a y v H4 ∧ D.nx σ H4) : sDPut td ty tv D σ H := h
theorem dget2 {td ty tx : TE} (h : td σ H fun x H1 => ∃ a, x = .ref a ∧ IsD H1 a ∧ ty σ H1 fun y H2 => tx σ H2 fun z H3 => ∃ o, DGet H3 a y o ∧ Q (o.getD z) H3) : tDGet2 td ty tx σ H Q := h
theorem dget {td ty : TE} (h : td σ H fun x H1 => ty σ H1 fun y H2 => ∃ a v, x = .ref a ∧ DGet H2 a y (some v) ∧ Q v H2) : tDGet td ty σ H Q := h
/-! lists and tuples -/
theorem ixA {p : Addr} {xs : List V} {j : Int} (h : SqL K H p xs ∨ SqT K H p xs) (e : atI xs j = some v) (q : Q v H) : rIx K (.ref p) (.int j) H Q := h.elim (fun h => .inl (ixL h e q)) (fun h => .inr (.inl (ixT h e q)))
theorem lenA {a : Addr} {xs : List V} (h : SqL K H a xs ∨ SqT K H a xs) (q : Q (.int xs.length) H) : rLenN K [.ref a] H Q := ⟨a, xs, rfl, h, q⟩
theorem sl {r : V → Option Int → Option Int → Hp → VK → Prop} {tl th : TO} (h : ta σ H fun x H1 => tl σ H1 fun l H2 => th σ H2 fun u H3 => r x l u H3 Q) : tSl r ta tl th σ H Q := h
theorem slno {Q : Option Int → Hp → Prop} (h : Q none H) : tNoPart σ H Q := h
theorem slpart {Q : Option Int → Hp → Prop} (h : ta σ H fun x H1 => ∃ i, x = .int i ∧ Q (some i) H1) : tPart ta σ H Q := h
theorem bint {i : Int} {q : Int → Prop} (h : q i) : ∃ k, V.int i = .int k ∧ q k := ⟨i, rfl, h⟩
theorem slL {p : Addr} {xs : List V} {lo hi : Option Int} (h : SqL K H p xs) (q : ∀ d H1, H d = none → Kp [] H H1 → H1 d = some (.lst (cutV xs lo hi)) → Q (.ref d) H1) : rSlL K (.ref p) lo hi H Q := ⟨p, xs, rfl, h, mk q⟩
theorem cut_take {xs : List V} {k : Nat} (h : k ≤ xs.length) : cutV xs none (some (k : Int)) = xs.take k := by
  unfold cutV
  rw [HT.sIx_none, HT.sIx_nat, List.drop_zero, Nat.sub_zero, Nat.min_eq_left h]
theorem cut_drop {xs : List V} {k : Nat} (h : k ≤ xs.length) : cutV xs (some (k : Int)) none = xs.drop k := by
  unfold cutV
  rw [HT.sIx_none, HT.sIx_nat, Nat.min_eq_left h]
  exact List.take_of_length_le (by rw [List.length_drop] <;> omega)
theorem inq {neg : Bool} {p : Addr} {xs : List V} (h : SqL K H p xs ∨ SqT K H p xs) (fx : flatV x = true) (fs : xs.all flatV = true) (q : Q (.bl (if neg then !inV x xs else inV x xs)) H) : rIn K neg x (.ref p) H Q := ⟨p, xs, rfl, h, fx, fs, q⟩
theorem inV_strs {a : Str} {l : List Str} : inV (.str a) (l.map V.str) = decide (a ∈ l) := by
  unfold inV
  induction l with
  | nil => simp
  | cons b r ih =>
    rw [List.map_cons, List.any_cons, ih]
    show ((b == a) || _) = _
    by_cases e : b = a
    · subst e; simp
    · have e' : ¬ a = b := fun z => e z.symm
      simp [e, e']
theorem strs_flat {l : List Str} : (l.map V.str).all flatV = true := by simp [flatV]
theorem pop {l : Addr} {xs : List V} {y : V} (h : H l = some (.lst xs)) (e : xs[xs.length - 1]? = some y) (q : Q y (upd H l (.lst xs.dropLast))) : rPop (.ref l) [] H Q := ⟨l, xs, y, rfl, rfl, h, e, q⟩
def LRK (K : PySem.W.Frag) (Q : VK) (x : V) (H1 : Hp) : Prop := ∃ a xs, x = .ref a ∧ SqL K H1 a xs ∧ ∀ p, H1 p = none → Q (.ref p) (upd H1 p (.lst xs.reverse))
theorem listrev (h : ta σ H (LRK K Q)) : RL.tListRev K ta σ H Q := h
theorem lrk {a : Addr} {xs : List V} (hS : SqL K H a xs) (q : ∀ p H1, H p = none → Kp [] H H1 → H1 p = some (.lst xs.reverse) → Q (.ref p) H1) : LRK K Q (.ref a) H := ⟨a, xs, rfl, hS, mk q⟩
theorem popS {l : Addr} {xs : List V} {y : V} (h : H l = some (.lst (xs ++ [y]))) (q : Q y (upd H l (.lst xs))) : rPop (.ref l) [] H Q := ⟨l, _, y, rfl, rfl, h, by simp, by rw [List.dropLast_concat]; exact q⟩
theorem extT {l b : Addr} {xs zs : List V} (h : H l = some (.lst xs)) (h2 : H b = some (.tup zs)) (hz : xs.length + zs.length ≤ 10000000) (q : Q .non (upd H l (.lst (xs ++ zs)))) : RL.rExtT (.ref l) [.ref b] H Q := ⟨l, b, xs, zs, rfl, rfl, h, h2, Nat.le_trans hz (by decide), q⟩
theorem slT {p : Addr} {xs : List V} {k : Nat} (h : SqT K H p xs) (h0 : 0 < k) (h1 : k ≤ xs.length) (q : ∀ d H1, H d = none → Kp [] H H1 → H1 d = some (.tup (xs.drop k)) → Q (.ref d) H1) : rSlT K (.ref p) (some (k : Int)) none H Q := ⟨p, xs, rfl, h, fun z => by
  rw [HT.sIx_nat, Nat.min_eq_left h1] at z
  omega, mk (by rw [cut_drop h1]; exact q)⟩
theorem revl (h : ta σ H (LRK K Q)) : tRevL K ta σ H Q := h
theorem idx {a : Addr} {ys : List V} {y : V} (j : Nat) {z : V} (hS : SqL K H a ys) (fy : flatV y = true) (fs : ys.all flatV = true) (hz : ys[j]? = some z) (hy : eqV z y = true) (hn : ∀ (m : Nat) (z' : V), m < j → ys[m]? = some z' → eqV z' y = false) (q : Q (.int (j : Nat)) H) : rIndex K (.ref a) [y] H Q := ⟨a, ys, y, j, z, rfl, rfl, hS, fy, fs, hz, hy, hn, q⟩
theorem truL {p : Addr} {xs : List V} {q : Bool → Prop} (h : H p = some (.lst xs)) (hq : q (!xs.isEmpty)) : ∃ k, TruV K (.ref p) H k ∧ q k := ⟨_, .inl ⟨xs, lstL h, rfl⟩, hq⟩
theorem glst {n : Nat} {t : TGs} {a : Addr} {xs : List V} {Q : St → Hp → Prop} (h : SqL K H a xs) (e : xs.length = n) (q : t xs σ H Q) : gLst K n t (.ref a) σ H Q := ⟨a, xs, rfl, h, e, q⟩
def rSplitQ : V → List V → Hp → VK → Prop := fun x xs H Q => ∃ a b, x = .str a ∧ xs = [.str b] ∧ (b.length == 0) = false ∧ a.length + 2 ≤ sizeLine ∧ rNewStrs (Txt.split a b) H Q
theorem m_split {X : Cx} : MtR X "str.split" rSplitQ := mt_split
theorem split {a b : Str} (hb : (b.length == 0) = false) (hz : a.length ≤ 10000000) (q : ∀ p H1, H p = none → Kp [] H H1 → H1 p = some (.lst ((Txt.split a b).map V.str)) → Q (.ref p) H1) : rSplitQ (.str a) [.str b] H Q := ⟨a, b, rfl, rfl, hb, Nat.le_trans (Nat.add_le_add_right hz 2) (by decide), mk q⟩
def EnSK (K : PySem.W.Frag) (R : It → Hp → Prop) (vs zs : List V) (H2 : Hp) : Prop := ∃ a xs k, vs = [.ref a] ∧ zs = [.int k] ∧ -(2 ^ 63) ≤ k ∧ k < 2 ^ 63 ∧ SqL K H2 a xs ∧ R (RL.IteS K a k) H2
theorem ienumS {a b : TA} {R : It → Hp → Prop} (h : a σ H fun vs H1 => b σ H1 fun zs H2 => EnSK K R vs zs H2) : RL.iEnumS K a b σ H R := h
theorem walk_enumS {a : Addr} {xs : List V} {k : Int} : Walk (RL.IteS K a k) xs.length (fun H => SqL K H a xs) (YPair (fun i => some (.int (k + (i : Nat)))) (fun i => xs[i]?)) := by
  refine ⟨fun i _ hi q => ⟨xs, xs[i], q, by simp [hi]⟩, fun _ q => ⟨xs, q, rfl⟩, fun i H v H' _ q y => ?_⟩
  obtain ⟨T, x, h1, h2, h3, h4⟩ := y
  exact ⟨T, .int (k + (i : Nat)), x, h1, h2, h3, rfl, h4 xs q⟩
theorem fores {g : TG} {tb : TS} {a : Addr} {k : Int} (xs : List V) (hk0 : -(2 ^ 63) ≤ k) (hk1 : k < 2 ^ 63) (hS : SqL K H a xs) (Pv : Nat → St → Hp → Prop) (h0 : Pv 0 σ H) (hl : ∀ i σ H, i ≤ xs.length → Pv i σ H → SqL K H a xs)
    (hs : ∀ i x σ H H' T, xs[i]? = some x → Pv i σ H → H T = none → Kp [] H H' → H' T = some (.tup [.int (k + (i : Nat)), x]) → g (.ref T) σ H' fun σ2 H2 => tb { D with nx := Pv (i + 1), ct := Pv (i + 1), bk := D.nx } σ2 H2) (hd : ∀ σ H, Pv xs.length σ H → D.nx σ H) : EnSK K (ForK g tb D σ) [.ref a] [.int k] H :=
  ⟨a, xs, k, rfl, rfl, hk0, hk1, hS, for_it (walk_enumS (K := K) (a := a) (xs := xs) (k := k)) Pv h0 hl (fun i v σ H H' hi p y => by
    obtain ⟨T, x, z, rfl, h1, rfl, h2, h3⟩ := y
    cases h2
    exact hs i z σ H _ T h3 p h1 (Kp.new h1) upd_same) hd⟩
/-- an f-string of two parts or more -/
def tJoin (ts : List TE) : TE := fun σ H Q => tJs ts Str.empty σ H fun out H1 => Q (.str out) H1
theorem pe_joinedN {X : Cx} {v1 v2 : Expr} {rest : List Expr} {ts : List TE} {pos : Pos} (h : PJ X (v1 :: v2 :: rest) ts) : PE X (.JoinedStr (v1 :: v2 :: rest) pos) (tJoin ts) := pe_joined h
def rJoinQ (K : PySem.W.Frag) : V → List V → Hp → VK → Prop := fun x xs H Q => ∃ a p, ∃ ys : List Str, x = .str a ∧ xs = [.ref p] ∧ (SqL K H p (ys.map V.str) ∨ SqT K H p (ys.map V.str)) ∧ (ys.map (·.length)).sum + ys.length * a.length ≤ 16777216 ∧ Q (.str (Txt.join a ys)) H
theorem m_join {X : Cx} : MtR X "str.join" (rJoinQ X.K) := mt_join
theorem join {a : Str} {p : Addr} {ys : List Str} (h : SqL K H p (ys.map V.str)) (hz : (ys.map (·.length)).sum + ys.length * a.length ≤ 16777216) (q : Q (.str (Txt.join a ys)) H) : rJoinQ K (.str a) [.ref p] H Q := ⟨a, p, ys, rfl, rfl, .inl h, hz, q⟩
theorem lens_le {n : Nat} : ∀ {ys : List Str}, (∀ y ∈ ys, y.length ≤ n) → (ys.map (·.length)).sum ≤ n * ys.length
  | [], _ => by simp
  | y :: r, h => by
    have h1 := h y (by simp)
    have h2 := lens_le (n := n) (ys := r) fun z hz => h z (by simp [hz])
    rw [List.map_cons, List.sum_cons, List.length_cons, Nat.mul_add]
    omega
theorem mulS {x : Str} {k : Nat} (h1 : 2 ≤ k) (h2 : k ≤ 100000) (h3 : 1 ≤ x.length) (h4 : x.length ≤ 100) (q : Q (.str (RL.repS x k)) H) : RL.rMulS (.str x) (.int (k : Int)) H Q := ⟨x, k, rfl, rfl, h1, h2, h3, h4, q⟩
theorem cat {l b : Addr} {xs zs : List V} (h : H l = some (.lst xs)) (h2 : H b = some (.lst zs)) (hz : xs.length + zs.length ≤ 100000) (q : ∀ p H1, H p = none → Kp [] H H1 → H1 p = some (.lst (xs ++ zs)) → Q (.ref p) H1) : rCat (.ref l) (.ref b) H Q := ⟨l, b, xs, zs, rfl, rfl, h, h2, Nat.le_trans hz (by decide), mk q⟩
end
end Z

namespace Z
open PySem L2
/-- what is never reached -/
def tDead : TS := fun _ _ _ => False
theorem ps_dead {X : Cx} {s : Stmt} : PS X s tDead := ⟨fun _ _ _ _ _ _ h => h.elim⟩
theorem u65 {k : Nat} {A : Around} (hr : Room k A) : A.units + 65 < cLine := by have := hr.un; omega
end Z


namespace K34
open PySem L2 Z
def topS (i : Nat) : Stmt := PySem.Challenge.pw_samphire_k34_whole_weighted_estimates.main.body.getD i (.Pass ⟨0, 0, 0, 0⟩)
abbrev s_lowest : Stmt := topS 7
abbrev N_lowest : List Str := ["p", "q", "common"]
theorem sc_lowest : FnScope N_lowest ["p", "q"] (defScope s_lowest) := ⟨rfl, rfl, rfl, by decide +kernel, rfl, by decide +kernel, by decide +kernel⟩
abbrev s_plus : Stmt := topS 8
abbrev N_plus : List Str := ["a", "b"]
theorem sc_plus : FnScope N_plus ["a", "b"] (defScope s_plus) := ⟨rfl, rfl, rfl, by decide +kernel, rfl, by decide +kernel, by decide +kernel⟩
abbrev s_minus : Stmt := topS 9
abbrev N_minus : List Str := ["a", "b"]
theorem sc_minus : FnScope N_minus ["a", "b"] (defScope s_minus) := ⟨rfl, rfl, rfl, by decide +kernel, rfl, by decide +kernel, by decide +kernel⟩
abbrev s_times : Stmt := topS 10
abbrev N_times : List Str := ["a", "b"]
theorem sc_times : FnScope N_times ["a", "b"] (defScope s_times) := ⟨rfl, rfl, rfl, by decide +kernel, rfl, by decide +kernel, by decide +kernel⟩
abbrev s_over : Stmt := topS 11
abbrev N_over : List Str := ["a", "b"]
theorem sc_over : FnScope N_over ["a", "b"] (defScope s_over) := ⟨rfl, rfl, rfl, by decide +kernel, rfl, by decide +kernel, by decide +kernel⟩
abbrev s_sum_of : Stmt := topS 12
abbrev N_sum_of : List Str := ["fractions", "total", "fraction"]
theorem sc_sum_of : FnScope N_sum_of ["fractions"] (defScope s_sum_of) := ⟨rfl, rfl, rfl, by decide +kernel, rfl, by decide +kernel, by decide +kernel⟩
abbrev s_weight_of : Stmt := topS 14
abbrev N_weight_of : List Str := ["things", "item"]
theorem sc_weight_of : FnScope N_weight_of ["things"] (defScope s_weight_of) := ⟨rfl, rfl, rfl, by decide +kernel, rfl, by decide +kernel, by decide +kernel⟩
abbrev s_Uniform_init : Stmt := inClass (topS 16) 0
abbrev N_Uniform_init : List Str := ["self", "size", "seen", "kept"]
theorem sc_Uniform_init : FnScope N_Uniform_init ["self", "size", "seen", "kept"] (defScope s_Uniform_init) := ⟨rfl, rfl, rfl, by decide +kernel, rfl, by decide +kernel, by decide +kernel⟩
abbrev s_Weighted_init : Stmt := inClass (topS 18) 0
abbrev N_Weighted_init : List Str := ["self", "size", "total", "kept"]
theorem sc_Weighted_init : FnScope N_Weighted_init ["self", "size", "total", "kept"] (defScope s_Weighted_init) := ⟨rfl, rfl, rfl, by decide +kernel, rfl, by decide +kernel, by decide +kernel⟩
abbrev s_is_whole : Stmt := topS 20
abbrev N_is_whole : List Str := ["sample", "item", "adjusted"]
theorem sc_is_whole : FnScope N_is_whole ["sample"] (defScope s_is_whole) := ⟨rfl, rfl, rfl, by decide +kernel, rfl, by decide +kernel, by decide +kernel⟩
abbrev s_amount_of : Stmt := topS 21
abbrev N_amount_of : List Str := ["amounts", "item"]
theorem sc_amount_of : FnScope N_amount_of ["amounts", "item"] (defScope s_amount_of) := ⟨rfl, rfl, rfl, by decide +kernel, rfl, by decide +kernel, by decide +kernel⟩
abbrev s_true_sum : Stmt := topS 22
abbrev N_true_sum : List Str := ["things", "amounts", "item"]
theorem sc_true_sum : FnScope N_true_sum ["things", "amounts"] (defScope s_true_sum) := ⟨rfl, rfl, rfl, by decide +kernel, rfl, by decide +kernel, by decide +kernel⟩
abbrev s_mean_of : Stmt := topS 23
abbrev N_mean_of : List Str := ["numbers"]
theorem sc_mean_of : FnScope N_mean_of ["numbers"] (defScope s_mean_of) := ⟨rfl, rfl, rfl, by decide +kernel, rfl, by decide +kernel, by decide +kernel⟩
abbrev s_squares_around : Stmt := topS 24
abbrev N_squares_around : List Str := ["numbers", "middle", "differences", "number"]
theorem sc_squares_around : FnScope N_squares_around ["numbers"] (defScope s_squares_around) := ⟨rfl, rfl, rfl, by decide +kernel, rfl, by decide +kernel, by decide +kernel⟩
abbrev s_ordered_estimates : Stmt := topS 27
abbrev N_ordered_estimates : List Str := ["total", "kept", "amounts", "found", "left", "before", "item", "amount"]
theorem sc_ordered_estimates : FnScope N_ordered_estimates ["total", "kept", "amounts"] (defScope s_ordered_estimates) := ⟨rfl, rfl, rfl, by decide +kernel, rfl, by decide +kernel, by decide +kernel⟩
abbrev s_weighted_estimate : Stmt := topS 28
abbrev N_weighted_estimate : List Str := ["sample", "amounts", "numbers", "many"]
theorem sc_weighted_estimate : FnScope N_weighted_estimate ["sample", "amounts"] (defScope s_weighted_estimate) := ⟨rfl, rfl, rfl, by decide +kernel, rfl, by decide +kernel, by decide +kernel⟩
abbrev s_estimate : Stmt := topS 30
abbrev N_estimate : List Str := ["sample", "amounts"]
theorem sc_estimate : FnScope N_estimate ["sample", "amounts"] (defScope s_estimate) := ⟨rfl, rfl, rfl, by decide +kernel, rfl, by decide +kernel, by decide +kernel⟩
abbrev s_ordered : Stmt := topS 31
abbrev N_ordered : List Str := ["sample", "amounts"]
theorem sc_ordered : FnScope N_ordered ["sample", "amounts"] (defScope s_ordered) := ⟨rfl, rfl, rfl, by decide +kernel, rfl, by decide +kernel, by decide +kernel⟩
abbrev s__law_mix : Stmt := topS 33
abbrev N__law_mix : List Str := ["number", "k"]
theorem sc__law_mix : FnScope N__law_mix ["number", "k"] (defScope s__law_mix) := ⟨rfl, rfl, rfl, by decide +kernel, rfl, by decide +kernel, by decide +kernel⟩
abbrev s__law_numbers : Stmt := topS 34
abbrev N__law_numbers : List Str := ["script", "count", "row", "base", "cell", "rest", "k"]
theorem sc__law_numbers : FnScope N__law_numbers ["script", "count"] (defScope s__law_numbers) := ⟨rfl, rfl, rfl, by decide +kernel, rfl, by decide +kernel, by decide +kernel⟩
abbrev s__law_take : Stmt := topS 35
abbrev N__law_take : List Str := ["row", "bound"]
theorem sc__law_take : FnScope N__law_take ["row", "bound"] (defScope s__law_take) := ⟨rfl, rfl, rfl, by decide +kernel, rfl, by decide +kernel, by decide +kernel⟩
abbrev s__law_low : Stmt := topS 36
abbrev N__law_low : List Str := ["p", "q", "first", "second", "turn"]
theorem sc__law_low : FnScope N__law_low ["p", "q"] (defScope s__law_low) := ⟨rfl, rfl, rfl, by decide +kernel, rfl, by decide +kernel, by decide +kernel⟩
abbrev s__law_plus : Stmt := topS 37
abbrev N__law_plus : List Str := ["one", "other"]
theorem sc__law_plus : FnScope N__law_plus ["one", "other"] (defScope s__law_plus) := ⟨rfl, rfl, rfl, by decide +kernel, rfl, by decide +kernel, by decide +kernel⟩
abbrev s__law_minus : Stmt := topS 38
abbrev N__law_minus : List Str := ["one", "other"]
theorem sc__law_minus : FnScope N__law_minus ["one", "other"] (defScope s__law_minus) := ⟨rfl, rfl, rfl, by decide +kernel, rfl, by decide +kernel, by decide +kernel⟩
abbrev s__law_times : Stmt := topS 39
abbrev N__law_times : List Str := ["one", "other"]
theorem sc__law_times : FnScope N__law_times ["one", "other"] (defScope s__law_times) := ⟨rfl, rfl, rfl, by decide +kernel, rfl, by decide +kernel, by decide +kernel⟩
abbrev s__law_sum : Stmt := topS 41
abbrev N__law_sum : List Str := ["rows", "whole", "one"]
theorem sc__law_sum : FnScope N__law_sum ["rows"] (defScope s__law_sum) := ⟨rfl, rfl, rfl, by decide +kernel, rfl, by decide +kernel, by decide +kernel⟩
abbrev s__law_items : Stmt := topS 42
abbrev N__law_items : List Str := ["row", "many", "found", "k", "weight"]
theorem sc__law_items : FnScope N__law_items ["row", "many"] (defScope s__law_items) := ⟨rfl, rfl, rfl, by decide +kernel, rfl, by decide +kernel, by decide +kernel⟩
abbrev s__law_amounts : Stmt := topS 43
abbrev N__law_amounts : List Str := ["row", "things", "amounts", "item"]
theorem sc__law_amounts : FnScope N__law_amounts ["row", "things"] (defScope s__law_amounts) := ⟨rfl, rfl, rfl, by decide +kernel, rfl, by decide +kernel, by decide +kernel⟩
abbrev s__law_true : Stmt := topS 44
abbrev N__law_true : List Str := ["things", "amounts", "item"]
theorem sc__law_true : FnScope N__law_true ["things", "amounts"] (defScope s__law_true) := ⟨rfl, rfl, rfl, by decide +kernel, rfl, by decide +kernel, by decide +kernel⟩
abbrev s__law_moments : Stmt := topS 45
abbrev N__law_moments : List Str := ["rows", "middle", "spread", "number", "chance", "away"]
theorem sc__law_moments : FnScope N__law_moments ["rows"] (defScope s__law_moments) := ⟨rfl, rfl, rfl, by decide +kernel, rfl, by decide +kernel, by decide +kernel⟩
abbrev s__law_orders : Stmt := topS 46
abbrev N__law_orders : List Str := ["things", "many", "found", "turn", "more", "one", "item"]
theorem sc__law_orders : FnScope N__law_orders ["things", "many"] (defScope s__law_orders) := ⟨rfl, rfl, rfl, by decide +kernel, rfl, by decide +kernel, by decide +kernel⟩
abbrev s__law_order_chance : Stmt := topS 47
abbrev N__law_order_chance : List Str := ["total", "things", "chance", "left", "item"]
theorem sc__law_order_chance : FnScope N__law_order_chance ["total", "things"] (defScope s__law_order_chance) := ⟨rfl, rfl, rfl, by decide +kernel, rfl, by decide +kernel, by decide +kernel⟩
abbrev s_law : Stmt := topS 49
abbrev N_law : List Str := ["script", "row", "things", "amounts", "size", "total", "many", "rows", "told", "each", "kept", "chance", "sample", "answer", "numbers", "middle", "spread", "whole", "item", "k", "one"]
theorem sc_law : FnScope N_law ["script"] (defScope s_law) := ⟨rfl, rfl, rfl, by decide +kernel, rfl, by decide +kernel, by decide +kernel⟩
abbrev s_ZeroDenominator_init : Stmt := inClass (topS 4) 0
abbrev N_ZeroDenominator_init : List Str := ["self", "__class__"]
theorem sc_ZeroDenominator_init : NdefX.NScope N_ZeroDenominator_init ["self"] ["__class__"] (defScope s_ZeroDenominator_init) := NdefX.nscope_by (by decide +kernel)
abbrev NF_ZeroDenominator (cc c : Addr) : NdefX.NF := ⟨"__init__", "ZeroDenominator.__init__", defArgs s_ZeroDenominator_init, defBody s_ZeroDenominator_init, defScope s_ZeroDenominator_init, [(("__class__" : Str), cc)], c⟩
structure T (P : Program) (K : PySem.W.Frag) (mg : Str → Option Value) where
  a_lowest : Addr
  fd_lowest : FuncData
  F_lowest : Fun K "lowest" "lowest" s_lowest a_lowest fd_lowest
  b_lowest : Binds K fd_lowest ["p", "q"] []
  g_lowest : mg "lowest" = some (.ref a_lowest)
  a_plus : Addr
  fd_plus : FuncData
  F_plus : Fun K "plus" "plus" s_plus a_plus fd_plus
  b_plus : Binds K fd_plus ["a", "b"] []
  g_plus : mg "plus" = some (.ref a_plus)
  a_minus : Addr
  fd_minus : FuncData
  F_minus : Fun K "minus" "minus" s_minus a_minus fd_minus
  b_minus : Binds K fd_minus ["a", "b"] []
  g_minus : mg "minus" = some (.ref a_minus)
  a_times : Addr
  fd_times : FuncData
  F_times : Fun K "times" "times" s_times a_times fd_times
  b_times : Binds K fd_times ["a", "b"] []
  g_times : mg "times" = some (.ref a_times)
  a_over : Addr
  fd_over : FuncData
  F_over : Fun K "over" "over" s_over a_over fd_over
  b_over : Binds K fd_over ["a", "b"] []
  g_over : mg "over" = some (.ref a_over)
  a_sum_of : Addr
  fd_sum_of : FuncData
  F_sum_of : Fun K "sum_of" "sum_of" s_sum_of a_sum_of fd_sum_of
  b_sum_of : Binds K fd_sum_of ["fractions"] []
  g_sum_of : mg "sum_of" = some (.ref a_sum_of)
  a_weight_of : Addr
  fd_weight_of : FuncData
  F_weight_of : Fun K "weight_of" "weight_of" s_weight_of a_weight_of fd_weight_of
  b_weight_of : Binds K fd_weight_of ["things"] []
  g_weight_of : mg "weight_of" = some (.ref a_weight_of)
  a_Uniform_init : Addr
  fd_Uniform_init : FuncData
  F_Uniform_init : Fun K "__init__" "Uniform.__init__" s_Uniform_init a_Uniform_init fd_Uniform_init
  b_Uniform_init : Binds K fd_Uniform_init ["self", "size", "seen", "kept"] []
  a_Weighted_init : Addr
  fd_Weighted_init : FuncData
  F_Weighted_init : Fun K "__init__" "Weighted.__init__" s_Weighted_init a_Weighted_init fd_Weighted_init
  b_Weighted_init : Binds K fd_Weighted_init ["self", "size", "total", "kept"] []
  a_is_whole : Addr
  fd_is_whole : FuncData
  F_is_whole : Fun K "is_whole" "is_whole" s_is_whole a_is_whole fd_is_whole
  b_is_whole : Binds K fd_is_whole ["sample"] []
  g_is_whole : mg "is_whole" = some (.ref a_is_whole)
  a_amount_of : Addr
  fd_amount_of : FuncData
  F_amount_of : Fun K "amount_of" "amount_of" s_amount_of a_amount_of fd_amount_of
  b_amount_of : Binds K fd_amount_of ["amounts", "item"] []
  g_amount_of : mg "amount_of" = some (.ref a_amount_of)
  a_true_sum : Addr
  fd_true_sum : FuncData
  F_true_sum : Fun K "true_sum" "true_sum" s_true_sum a_true_sum fd_true_sum
  b_true_sum : Binds K fd_true_sum ["things", "amounts"] []
  g_true_sum : mg "true_sum" = some (.ref a_true_sum)
  a_mean_of : Addr
  fd_mean_of : FuncData
  F_mean_of : Fun K "mean_of" "mean_of" s_mean_of a_mean_of fd_mean_of
  b_mean_of : Binds K fd_mean_of ["numbers"] []
  g_mean_of : mg "mean_of" = some (.ref a_mean_of)
  a_squares_around : Addr
  fd_squares_around : FuncData
  F_squares_around : Fun K "squares_around" "squares_around" s_squares_around a_squares_around fd_squares_around
  b_squares_around : Binds K fd_squares_around ["numbers"] []
  g_squares_around : mg "squares_around" = some (.ref a_squares_around)
  a_ordered_estimates : Addr
  fd_ordered_estimates : FuncData
  F_ordered_estimates : Fun K "ordered_estimates" "ordered_estimates" s_ordered_estimates a_ordered_estimates fd_ordered_estimates
  b_ordered_estimates : Binds K fd_ordered_estimates ["total", "kept", "amounts"] []
  g_ordered_estimates : mg "ordered_estimates" = some (.ref a_ordered_estimates)
  a_weighted_estimate : Addr
  fd_weighted_estimate : FuncData
  F_weighted_estimate : Fun K "weighted_estimate" "weighted_estimate" s_weighted_estimate a_weighted_estimate fd_weighted_estimate
  b_weighted_estimate : Binds K fd_weighted_estimate ["sample", "amounts"] []
  g_weighted_estimate : mg "weighted_estimate" = some (.ref a_weighted_estimate)
  a_estimate : Addr
  fd_estimate : FuncData
  F_estimate : Fun K "estimate" "estimate" s_estimate a_estimate fd_estimate
  b_estimate : Binds K fd_estimate ["sample", "amounts"] []
  g_estimate : mg "estimate" = some (.ref a_estimate)
  a_ordered : Addr
  fd_ordered : FuncData
  F_ordered : Fun K "ordered" "ordered" s_ordered a_ordered fd_ordered
  b_ordered : Binds K fd_ordered ["sample", "amounts"] []
  g_ordered : mg "ordered" = some (.ref a_ordered)
  a__law_mix : Addr
  fd__law_mix : FuncData
  F__law_mix : Fun K "_law_mix" "_law_mix" s__law_mix a__law_mix fd__law_mix
  b__law_mix : Binds K fd__law_mix ["number", "k"] []
  g__law_mix : mg "_law_mix" = some (.ref a__law_mix)
  a__law_numbers : Addr
  fd__law_numbers : FuncData
  F__law_numbers : Fun K "_law_numbers" "_law_numbers" s__law_numbers a__law_numbers fd__law_numbers
  b__law_numbers : Binds K fd__law_numbers ["script", "count"] []
  g__law_numbers : mg "_law_numbers" = some (.ref a__law_numbers)
  a__law_take : Addr
  fd__law_take : FuncData
  F__law_take : Fun K "_law_take" "_law_take" s__law_take a__law_take fd__law_take
  b__law_take : Binds K fd__law_take ["row", "bound"] []
  g__law_take : mg "_law_take" = some (.ref a__law_take)
  a__law_low : Addr
  fd__law_low : FuncData
  F__law_low : Fun K "_law_low" "_law_low" s__law_low a__law_low fd__law_low
  b__law_low : Binds K fd__law_low ["p", "q"] []
  g__law_low : mg "_law_low" = some (.ref a__law_low)
  a__law_plus : Addr
  fd__law_plus : FuncData
  F__law_plus : Fun K "_law_plus" "_law_plus" s__law_plus a__law_plus fd__law_plus
  b__law_plus : Binds K fd__law_plus ["one", "other"] []
  g__law_plus : mg "_law_plus" = some (.ref a__law_plus)
  a__law_minus : Addr
  fd__law_minus : FuncData
  F__law_minus : Fun K "_law_minus" "_law_minus" s__law_minus a__law_minus fd__law_minus
  b__law_minus : Binds K fd__law_minus ["one", "other"] []
  g__law_minus : mg "_law_minus" = some (.ref a__law_minus)
  a__law_times : Addr
  fd__law_times : FuncData
  F__law_times : Fun K "_law_times" "_law_times" s__law_times a__law_times fd__law_times
  b__law_times : Binds K fd__law_times ["one", "other"] []
  g__law_times : mg "_law_times" = some (.ref a__law_times)
  a__law_sum : Addr
  fd__law_sum : FuncData
  F__law_sum : Fun K "_law_sum" "_law_sum" s__law_sum a__law_sum fd__law_sum
  b__law_sum : Binds K fd__law_sum ["rows"] []
  g__law_sum : mg "_law_sum" = some (.ref a__law_sum)
  a__law_items : Addr
  fd__law_items : FuncData
  F__law_items : Fun K "_law_items" "_law_items" s__law_items a__law_items fd__law_items
  b__law_items : Binds K fd__law_items ["row", "many"] []
  g__law_items : mg "_law_items" = some (.ref a__law_items)
  a__law_amounts : Addr
  fd__law_amounts : FuncData
  F__law_amounts : Fun K "_law_amounts" "_law_amounts" s__law_amounts a__law_amounts fd__law_amounts
  b__law_amounts : Binds K fd__law_amounts ["row", "things"] []
  g__law_amounts : mg "_law_amounts" = some (.ref a__law_amounts)
  a__law_true : Addr
  fd__law_true : FuncData
  F__law_true : Fun K "_law_true" "_law_true" s__law_true a__law_true fd__law_true
  b__law_true : Binds K fd__law_true ["things", "amounts"] []
  g__law_true : mg "_law_true" = some (.ref a__law_true)
  a__law_moments : Addr
  fd__law_moments : FuncData
  F__law_moments : Fun K "_law_moments" "_law_moments" s__law_moments a__law_moments fd__law_moments
  b__law_moments : Binds K fd__law_moments ["rows"] []
  g__law_moments : mg "_law_moments" = some (.ref a__law_moments)
  a__law_orders : Addr
  fd__law_orders : FuncData
  F__law_orders : Fun K "_law_orders" "_law_orders" s__law_orders a__law_orders fd__law_orders
  b__law_orders : Binds K fd__law_orders ["things", "many"] []
  g__law_orders : mg "_law_orders" = some (.ref a__law_orders)
  a__law_order_chance : Addr
  fd__law_order_chance : FuncData
  F__law_order_chance : Fun K "_law_order_chance" "_law_order_chance" s__law_order_chance a__law_order_chance fd__law_order_chance
  b__law_order_chance : Binds K fd__law_order_chance ["total", "things"] []
  g__law_order_chance : mg "_law_order_chance" = some (.ref a__law_order_chance)
  a_law : Addr
  fd_law : FuncData
  F_law : Fun K "law" "law" s_law a_law fd_law
  b_law : Binds K fd_law ["script"] []
  g_law : mg "law" = some (.ref a_law)
  C_Uniform : Addr
  cl_Uniform : Cls K C_Uniform
  mg_Uniform : mg "Uniform" = some (.ref C_Uniform)
  mk_Uniform : Mk K C_Uniform a_Uniform_init
  na_Uniform_size : NoAttr K C_Uniform "size"
  na_Uniform_seen : NoAttr K C_Uniform "seen"
  na_Uniform_kept : NoAttr K C_Uniform "kept"
  C_Weighted : Addr
  cl_Weighted : Cls K C_Weighted
  mg_Weighted : mg "Weighted" = some (.ref C_Weighted)
  mk_Weighted : Mk K C_Weighted a_Weighted_init
  na_Weighted_size : NoAttr K C_Weighted "size"
  na_Weighted_total : NoAttr K C_Weighted "total"
  na_Weighted_kept : NoAttr K C_Weighted "kept"
  C_SamphireError : Addr
  mg_SamphireError : mg "SamphireError" = some (.ref C_SamphireError)
  C_ZeroDenominator : Addr
  a_ZeroDenominator_init : Addr
  c_ZeroDenominator : Addr
  cc_ZeroDenominator : Addr
  x_ZeroDenominator : Sup.ExcT P K mg "ZeroDenominator" C_ZeroDenominator a_ZeroDenominator_init c_ZeroDenominator cc_ZeroDenominator
  doc_ZeroDenominator : Value
  pm_ZeroDenominator : Value
  ctv_ZeroDenominator : Value
  oc_ZeroDenominator : Value
  od_ZeroDenominator : Option Addr
  osl_ZeroDenominator : Array (Option Value)
  lk_ZeroDenominator : K.lookup a_ZeroDenominator_init = some ⟨oc_ZeroDenominator, od_ZeroDenominator, .func ((NF_ZeroDenominator cc_ZeroDenominator c_ZeroDenominator).fd doc_ZeroDenominator pm_ZeroDenominator ctv_ZeroDenominator), osl_ZeroDenominator⟩
  hc_ZeroDenominator : PySem.W.codeIn K (.ref c_ZeroDenominator) "ZeroDenominator.__init__" = true
  bx_ZeroDenominator : Binds K ((NF_ZeroDenominator cc_ZeroDenominator c_ZeroDenominator).fd doc_ZeroDenominator pm_ZeroDenominator ctv_ZeroDenominator) ["self"] []
  isa_Uniform : PySem.W.findIn K (.ref C_Uniform) "__class__" = some (some (.builtin "object.__class__"))
  isg_Uniform : PySem.W.specialIn K (.builtin "object.__class__") "__get__" = some (some (.builtin "getset_descriptor.__get__"))
  ist_Uniform : PySem.W.takesIn K (.builtin "object.__class__") = some true
  ism_Uniform : PySem.W.mroIn K C_Uniform (.type "object") = some true
  isa_Weighted : PySem.W.findIn K (.ref C_Weighted) "__class__" = some (some (.builtin "object.__class__"))
  isg_Weighted : PySem.W.specialIn K (.builtin "object.__class__") "__get__" = some (some (.builtin "getset_descriptor.__get__"))
  ist_Weighted : PySem.W.takesIn K (.builtin "object.__class__") = some true
  ism_Weighted : PySem.W.mroIn K C_Weighted (.type "object") = some true
  kit_Weighted_Uniform : PySem.W.kitOne K (.ref C_Weighted) (.ref C_Uniform) = some false
  kit_Weighted_Weighted : PySem.W.kitOne K (.ref C_Weighted) (.ref C_Weighted) = some true
  z_abs : mg "abs" = none
  z_any : mg "any" = none
  z_dict : mg "dict" = none
  z_int : mg "int" = none
  z_isinstance : mg "isinstance" = none
  z_len : mg "len" = none
  z_list : mg "list" = none
  z_max : mg "max" = none
  z_min : mg "min" = none
  z_range : mg "range" = none
  z_sum : mg "sum" = none
  z_super : mg "super" = none
  k_ZERO : Addr
  g_ZERO : mg "ZERO" = some (.ref k_ZERO)
  q_ZERO : ∀ H, SqT K H k_ZERO [.int (0), .int (1)]
  g_gcd : mg "gcd" = some (.builtin "math.gcd")
/-! ### the walk by single steps -/
local macro_rules | `(tactic| walk_at "z1") => `(tactic| first
  | with_reducible refine Z.seq ?_
  | with_reducible refine Z.asg ?_
  | ((with_reducible refine' Z.gname ?zv ?_); (case zv => first | (dsimp only [List.set]; done) | (dsimp only [List.set]; exact rfl)))
  | ((with_reducible refine' Z.var ?zv ?_); (case zv => exact rfl))
  | with_reducible refine Z.cst ?_
  | with_reducible refine Z.op ?_
  | with_reducible refine Z.un ?_
  | with_reducible refine Z.i0 ?_
  | with_reducible refine Z.iU ?_
  | with_reducible refine Z.eqII ?_
  | with_reducible refine Z.neII ?_
  | with_reducible refine Z.eqSS ?_
  | with_reducible refine Z.neSS ?_
  | with_reducible refine Z.eqBB ?_
  | with_reducible refine Z.neBB ?_
  | with_reducible refine Z.bl' ?_
  | with_reducible refine Z.test ?_
  | with_reducible refine Z.tbb ?_
  | with_reducible refine Z.tand ?_
  | with_reducible refine Z.tor ?_
  | with_reducible refine Z.tnot ?_
  | with_reducible refine Z.tyes ?_
  | with_reducible refine Z.andV ?_
  | with_reducible refine Z.orV ?_
  | with_reducible refine Z.notV ?_
  | with_reducible refine Z.ifE ?_
  | with_reducible refine Z.chain ?_
  | with_reducible refine Z.yesB ?_
  | with_reducible refine Z.noB ?_
  | with_reducible refine Z.noNB ?_
  | with_reducible refine Z.yesNB ?_
  | with_reducible refine Z.nil ?_
  | with_reducible refine Z.cons ?_
  | with_reducible refine Z.cb ?_
  | with_reducible refine Z.call ?_
  | with_reducible refine Z.meth ?_
  | with_reducible refine Z.fld ?_
  | with_reducible refine Z.int1 ?_
  | with_reducible refine Z.intb ?_
  | with_reducible refine Z.abs1 ?_
  | with_reducible refine Z.gcons ?_
  | with_reducible refine Z.gnil ?_
  | with_reducible refine Z.gcd ?_
  | ((with_reducible refine' Z.par2 ?zv ?_); (case zv => first | (dsimp only [List.set]; done) | (dsimp only [List.set]; exact rfl)))
  | with_reducible refine Z.isN ?_
  | with_reducible refine Z.notN ?_
  | with_reducible refine Z.inSg ?_
  | with_reducible refine Z.ninSg ?_
  | with_reducible refine Z.tup ?_
  | with_reducible refine Z.lst ?_
  | with_reducible refine Z.gsub ?_
  | with_reducible refine Z.par ?_
  | ((with_reducible refine' Z.aug ?zv ?_); (case zv => exact rfl))
  | with_reducible refine Z.ipI' ?_
  | with_reducible refine Z.ifs ?_
  | with_reducible refine Z.ret ?_
  | with_reducible refine Z.retN ?_
  | with_reducible refine Z.next ?_
  | with_reducible refine Z.brk ?_
  | with_reducible refine Z.drop ?_
  | with_reducible refine Z.bm ?_
  | with_reducible refine Z.bm0 ?_
  | with_reducible refine Z.sfld ?_
  | with_reducible refine Z.sfldaug ?_
  | with_reducible refine Z.radd ?_
  | with_reducible refine Z.make ?_
  | with_reducible refine Z.lc ?_
  | with_reducible refine Z.rng1 ?_
  | with_reducible refine Z.ilist ?_
  | with_reducible refine Z.itup ?_
  | with_reducible refine Z.for_ ?_
  | with_reducible refine Z.istr ?_
  | with_reducible refine Z.ienum ?_
  | with_reducible refine Z.ienumS ?_
  | with_reducible refine Z.din ?_
  | with_reducible refine Z.dput ?_
  | with_reducible refine Z.dget ?_
  | with_reducible refine Z.dget2 ?_
  | with_reducible refine Z.sl ?_
  | with_reducible refine Z.slno ?_
  | with_reducible refine Z.slpart ?_
  | with_reducible refine Z.bint ?_
  | with_reducible refine Z.listrev ?_
  | with_reducible refine Z.revl ?_
  | dsimp only)
local macro_rules | `(tactic| walk_at "z0") => `(tactic| ((try simp only [Z.cxK]); (try dsimp only [L2.start, List.map, List.length, Nat.reduceAdd, Nat.reduceSub, List.replicate, List.cons_append, List.nil_append])))
local macro_rules | `(tactic| walk_at "z") => `(tactic| (repeat (walk_at "z1")))

/-! ### the numbers of a law: _law_mix, _law_numbers, _law_take -/
def DrawsAt (H : Hp) (a : Addr) : Prop := ∃ ns : List Int, H a = some (.lst (ns.map V.int))
theorem DrawsAt.ne {H : Hp} {a l : Addr} (d : DrawsAt H a) (h : H l = none) : a ≠ l := ne_of_none d.choose_spec h
theorem DrawsAt.kp {M : List Addr} {H H' : Hp} {a : Addr} (d : DrawsAt H a) (k : Kp M H H') (n : a ∉ M) : DrawsAt H' a := let ⟨ns, h⟩ := d; ⟨ns, k _ _ n h⟩
theorem DrawsAt.kp0 {H H' : Hp} {a : Addr} (d : DrawsAt H a) (k : Kp [] H H') : DrawsAt H' a := d.kp k nin0
theorem DrawsAt.put {H : Hp} {a b : Addr} {o : HO} (d : DrawsAt H a) (n : a ≠ b) : DrawsAt (upd H b o) a := let ⟨ns, h⟩ := d; ⟨ns, (upd_ne n).trans h⟩
def spMix : Sp := fun vs H Q _ => ∃ n k : Int, vs = [.int n, .int k] ∧ ∀ v, 0 ≤ v → v < 998244353 → Q (.int v) H
theorem ok__law_mix {P : Program} {w : World} {K : PySem.W.Frag} {mg : Str → Option Value} {base : Heap} (T : T P K mg) : FnOk P w K mg base CX0 1 T.a__law_mix T.fd__law_mix ["number", "k"] spMix := by
  refine T.F__law_mix.ok sc__law_mix (fun vs H Q E h => ?_) (fun cdv A outer s H vs Q E hr h => ?_)
  · obtain ⟨n, k, rfl, _⟩ := h
    rfl
  · obtain ⟨n, k, rfl, q⟩ := h
    refine ⟨_, (pss_one (ps_ret (pe_op op_mod (pe_op op_mul (pe_op op_mod (pe_callTy c_int (by rfl) T.z_int (by decide +kernel) (pa_cons (pe_op op_mul (pe_op op_add (pe_op op_add (pe_op op_mod (pe_callTy c_int (by rfl) T.z_int (by decide +kernel) (pa_cons (pv 0) pa_nil)) pe_int) (pe_op op_mul pe_int (pv 1))) pe_int) pe_int) pa_nil)) pe_int) pe_int) pe_int))), ?_⟩
    walk_at "z0"
    walk_at "z"
    refine Z.iC (by decide) ?_
    walk_at "z"
    refine Z.iC (.inl (by decide)) ?_
    walk_at "z"
    refine Z.iC (.inr (by decide)) ?_
    walk_at "z"
    refine Z.iC (by decide) ?_
    walk_at "z"
    refine Z.iC (.inr (by decide)) ?_
    walk_at "z"
    refine Z.iC (by decide) ?_
    walk_at "z"
    exact q _ (Int.emod_nonneg _ (by omega)) (Int.emod_lt_of_pos _ (by omega))
def spTake (K : PySem.W.Frag) : Sp := fun vs H Q _ => ∃ (a : Addr) (m : Int), vs = [.ref a, .int m] ∧ DrawsAt H a ∧ 1 ≤ m ∧ m < 18446744073709551616 ∧ ∀ H' v, 0 ≤ v → v < m → Kp [a] H H' → DrawsAt H' a → Q (.int v) H'
theorem ok__law_take {P : Program} {w : World} {K : PySem.W.Frag} {mg : Str → Option Value} {base : Heap} (T : T P K mg) : FnOk P w K mg base CX0 1 T.a__law_take T.fd__law_take ["row", "bound"] (spTake K) := by
  refine T.F__law_take.ok sc__law_take (fun vs H Q E h => ?_) (fun cdv A outer s H vs Q E hr h => ?_)
  · obtain ⟨a, m, rfl, _⟩ := h
    rfl
  · obtain ⟨a, m, rfl, ⟨ns, ha⟩, h0, h1, q⟩ := h
    refine ⟨_, (pss_cons (ps_if (pt_not (pt_truth (pv 0) (by intro _; rfl))) (pss_one (ps_ret pe_int)) pss_nil)
      (pss_one (ps_ret (pe_op op_mod (pe_callTy c_int (by rfl) T.z_int (by decide +kernel) (pa_cons (pe_bm0 PySem.F.plainAttrs_list PySem.F.slot_list_pop PySem.F.type_list_pop mt_pop (pv 0)) pa_nil)) (pv 1))))), ?_⟩
    walk_at "z0"
    walk_at "z"
    refine Z.truL ha ?_
    cases hns : ns with
    | nil =>
      walk_at "z"
      exact q _ _ (by omega) (by omega) (Kp.refl _) ⟨ns, ha⟩
    | cons n r =>
      rw [show (!!(List.map V.int (n :: r)).isEmpty) = false from rfl]
      walk_at "z"
      refine ⟨Z.tyL ha, ?_⟩
      have hl : 0 < ns.length := by rw [hns]; simp
      have hi : ns.length - 1 < ns.length := by omega
      refine Z.pop ha (y := .int ns[ns.length - 1]) (by rw [List.length_map, List.getElem?_map, List.getElem?_eq_getElem hi]; rfl) ?_
      walk_at "z"
      refine Z.iC (by omega) ?_
      exact q _ _ (Int.emod_nonneg _ (by omega)) (Int.emod_lt_of_pos _ (by omega)) (Kp.put (by simp)) ⟨ns.dropLast, by rw [upd_same, List.map_dropLast]⟩
def spNumbers (K : PySem.W.Frag) : Sp := fun vs H Q _ => ∃ (c : Addr) (ns : List Int) (n : Nat), vs = [.ref c, .int (n : Int)] ∧ SqL K H c (ns.map V.int) ∧ n ≤ 1000 ∧ (∀ z ∈ ns, Builtin.Int.intBits z ≤ 1048576) ∧ ∀ a H', H a = none → Kp [] H H' → DrawsAt H' a → Q (.ref a) H'
theorem ok__law_numbers {P : Program} {w : World} {K : PySem.W.Frag} {mg : Str → Option Value} {base : Heap} (T : T P K mg) : FnOk P w K mg base CX0 2 T.a__law_numbers T.fd__law_numbers ["script", "count"] (spNumbers K) := by
  refine T.F__law_numbers.ok sc__law_numbers (fun vs H Q E h => ?_) (fun cdv A outer s H vs Q E hr h => ?_)
  · obtain ⟨c, ns, n, rfl, _⟩ := h
    rfl
  · obtain ⟨c, ns, n, rfl, hS, hn, hb, q⟩ := h
    refine ⟨_, (pss_cons (ps_set (i := 2) sc__law_numbers.nd rfl (by first | exact Or.inl rfl | exact Or.inr rfl) (pe_lst pa_nil))
      (pss_cons (ps_set (i := 3) sc__law_numbers.nd rfl (by first | exact Or.inl rfl | exact Or.inr rfl) pe_int)
      (Z.pss_consJ (ps_for PassesOwn.never rfl (pi_list (pe_slice sl_list (pv 0) po_none (po_some pe_int))) (pg_name (i := 4) sc__law_numbers.nd rfl (by first | exact Or.inl rfl | exact Or.inr rfl)) (pss_cons (ps_set (i := 3) sc__law_numbers.nd rfl (by first | exact Or.inl rfl | exact Or.inr rfl) (pe_op op_add (pv 3) (pv 4)))
      (pss_one (ps_if (pt_cmpR op_ge (pv 4) pe_int (nomark _)) (pss_cons (ps_set (i := 5) sc__law_numbers.nd rfl (by first | exact Or.inl rfl | exact Or.inr rfl) (pv 4))
      (pss_one (ps_for PassesOwn.never rfl (pi_range1 (by rfl) T.z_range (pa_cons pe_int pa_nil)) (pg_name (i := 6) sc__law_numbers.nd rfl (by first | exact Or.inl rfl | exact Or.inr rfl)) (pss_cons (ps_expr (pe_bm PySem.F.plainAttrs_list PySem.F.slot_list_append PySem.F.type_list_append mt_append (pv 2) (pa_cons (pe_op op_mod (pe_callTy c_int (by rfl) T.z_int (by decide +kernel) (pa_cons (pv 5) pa_nil)) pe_int) pa_nil)))
      (pss_cons (ps_set (i := 5) sc__law_numbers.nd rfl (by first | exact Or.inl rfl | exact Or.inr rfl) (pe_op op_fdivW (pv 5) pe_int))
      (pss_one (ps_if (pt_cmpR op_eq (pv 5) pe_int (nomark _)) (pss_one ps_break) pss_nil))))))) (pss_one (ps_expr (pe_bm PySem.F.plainAttrs_list PySem.F.slot_list_append PySem.F.type_list_append mt_append (pv 2) (pa_cons (pe_call (ok__law_mix T) (hr.mono (by decide)) (by rfl) T.g__law_mix T.F__law_mix.kp T.b__law_mix .nil pass0 (pa_cons (pe_call (ok__law_mix T) (hr.mono (by decide)) (by rfl) T.g__law_mix T.F__law_mix.kp T.b__law_mix .nil pass0 (pa_cons (pv 4) (pa_cons pe_int pa_nil))) (pa_cons pe_int pa_nil))) pa_nil))))))))
      (pss_cons (ps_for PassesOwn.never rfl (pi_range1 (by rfl) T.z_range (pa_cons (pv 1) pa_nil)) (pg_name (i := 6) sc__law_numbers.nd rfl (by first | exact Or.inl rfl | exact Or.inr rfl)) (pss_one (ps_expr (pe_bm PySem.F.plainAttrs_list PySem.F.slot_list_append PySem.F.type_list_append mt_append (pv 2) (pa_cons (pe_call (ok__law_mix T) (hr.mono (by decide)) (by rfl) T.g__law_mix T.F__law_mix.kp T.b__law_mix .nil pass0 (pa_cons (pe_call (ok__law_mix T) (hr.mono (by decide)) (by rfl) T.g__law_mix T.F__law_mix.kp T.b__law_mix .nil pass0 (pa_cons (pe_op op_add (pv 3) (pe_op op_mul pe_int (pv 6))) (pa_cons (pe_op op_add pe_int (pv 6)) pa_nil))) (pa_cons pe_int pa_nil))) pa_nil)))))
      (pss_cons (ps_expr (pe_bm0 PySem.F.plainAttrs_list PySem.F.slot_list_reverse PySem.F.type_list_reverse mt_reverse (pv 2)))
      (pss_one (ps_ret (pv 2)))))))), ?_⟩
    walk_at "z0"
    walk_at "z"
    refine Z.lstK (fun D H1 nD k1 e1 => ?_)
    walk_at "z"
    refine Z.seqJ' ?_
    walk_at "z"
    refine Z.slL (k1.seq nin0 hS) (fun S H2 nS k2 e2 => ?_)
    have e2D := k2.get nin0 e1
    have nDS : D ≠ S := ne_of_none e1 nS
    have hcut : ∃ ms : List Int, cutV (ns.map V.int) none (some 63) = ms.map V.int ∧ ms.length ≤ 63 := by
      unfold cutV
      rw [HT.sIx_none, show (63 : Int) = ((63 : Nat) : Int) from rfl, HT.sIx_nat, List.drop_zero, Nat.sub_zero, ← List.map_take]
      exact ⟨_, rfl, by rw [List.length_take]; omega⟩
    obtain ⟨ms, hms, hm63⟩ := hcut
    rw [hms] at e2
    walk_at "z"
    refine Z.forl (ms.map V.int) (lstL e2) (fun i σ' H' => ∃ y4 y5 y6, ∃ (z : Int) (ds : List Int), σ' = [some (.ref c), some (.int (n : Int)), some (.ref D), some (.int z), y4, y5, y6] ∧ Kp [D] H2 H' ∧ H' D = some (.lst (ds.map V.int)) ∧ ds.length ≤ i * 61) ⟨_, _, _, _, [], rfl, Kp.refl _, e2D, by simp⟩ ?_ ?_ ?_
    · rintro i σ' H' hi ⟨y4, y5, y6, z, ds, rfl, k3, e3, hl⟩
      exact lstL (k3.get (nin1 nDS.symm) e2)
    · rintro i x σ' H' hx ⟨y4, y5, y6, z, ds, rfl, k3, e3, hl⟩
      obtain ⟨u, hu, rfl⟩ : ∃ u, ms[i]? = some u ∧ x = .int u := by
        rw [List.getElem?_map] at hx
        cases hw : ms[i]? with
        | none => rw [hw] at hx; cases hx
        | some r => rw [hw] at hx; exact ⟨r, rfl, (Option.some.inj hx).symm⟩
      have hi : i < ms.length := (List.getElem?_eq_some_iff.mp hu).1
      walk_at "z"
      refine Z.ite (fun h2 => ?_) (fun h2 => ?_)
      · walk_at "z"
        refine Z.forr 60 (by rfl) (by decide) (fun j σ' H' => ∃ y6, ∃ (v : Int) (ds : List Int), σ' = [some (.ref c), some (.int (n : Int)), some (.ref D), some (.int (z + u)), some (.int u), some (.int v), y6] ∧ Kp [D] H2 H' ∧ H' D = some (.lst (ds.map V.int)) ∧ ds.length ≤ i * 61 + j) ⟨_, _, ds, rfl, k3, e3, by omega⟩ ?_ ?_
        · rintro j σ' H' hj ⟨y6, v, ds, rfl, k4, e4, hl4⟩
          walk_at "z"
          refine ⟨Z.tyL e4, ?_⟩
          walk_at "z"
          refine Z.iC (by decide) ?_
          walk_at "z"
          refine Z.app e4 (Z.szl (m := 100000) (by rw [List.length_map]; omega)) ?_
          walk_at "z"
          refine Z.iC ⟨by decide, by decide⟩ ?_
          walk_at "z"
          have e5 : upd H' D (.lst (ds.map V.int ++ [.int (v % 840)])) D = some (.lst ((ds ++ [v % 840]).map V.int)) := by rw [upd_same, List.map_append]; rfl
          have k5 : Kp [D] H2 (upd H' D (.lst (ds.map V.int ++ [.int (v % 840)]))) := k4.trans (Kp.put (by simp))
          refine Z.ite (fun h3 => ?_) (fun h3 => ?_)
          · walk_at "z"
            exact ⟨_, _, _, _, ds ++ [v % 840], rfl, k5, e5, by simp; omega⟩
          · walk_at "z"
            exact ⟨_, _, ds ++ [v % 840], rfl, k5, e5, by simp; omega⟩
        · rintro σ' H' ⟨y6, v, ds, rfl, k4, e4, hl4⟩
          exact ⟨_, _, _, _, ds, rfl, k4, e4, by omega⟩
      · walk_at "z"
        refine ⟨Z.tyL e3, ?_⟩
        walk_at "z"
        refine ⟨_, _, rfl, fun v0 _ _ => ?_⟩
        walk_at "z"
        refine ⟨_, _, rfl, fun v1 _ _ => ?_⟩
        walk_at "z"
        refine Z.app e3 (Z.szl (m := 100000) (by rw [List.length_map]; omega)) ?_
        walk_at "z"
        exact ⟨_, _, _, _, ds ++ [v1], rfl, k3.trans (Kp.put (by simp)), by rw [upd_same, List.map_append]; rfl, by simp; omega⟩
    · rintro σ' H' ⟨y4, y5, y6, z, ds, rfl, k3, e3, hl⟩
      rw [List.length_map] at hl
      walk_at "z"
      refine Z.forr n (by rfl) (by omega) (fun j σ' H' => ∃ y6, ∃ (ds : List Int), σ' = [some (.ref c), some (.int (n : Int)), some (.ref D), some (.int z), y4, y5, y6] ∧ Kp [D] H2 H' ∧ H' D = some (.lst (ds.map V.int)) ∧ ds.length ≤ ms.length * 61 + j) ⟨_, ds, rfl, k3, e3, by omega⟩ ?_ ?_
      · rintro j σ' H' hj ⟨y6, ds, rfl, k4, e4, hl4⟩
        walk_at "z"
        refine ⟨Z.tyL e4, ?_⟩
        walk_at "z"
        refine Z.iC (.inl (by decide)) ?_
        walk_at "z"
        refine ⟨_, _, rfl, fun v0 _ _ => ?_⟩
        walk_at "z"
        refine ⟨_, _, rfl, fun v1 _ _ => ?_⟩
        walk_at "z"
        refine Z.app e4 (Z.szl (m := 100000) (by rw [List.length_map]; omega)) ?_
        walk_at "z"
        exact ⟨_, ds ++ [v1], rfl, k4.trans (Kp.put (by simp)), by rw [upd_same, List.map_append]; rfl, by simp; omega⟩
      · rintro σ' H' ⟨y6, ds, rfl, k4, e4, hl4⟩
        walk_at "z"
        refine ⟨Z.tyL e4, ?_⟩
        refine ⟨D, _, rfl, rfl, e4, ?_⟩
        walk_at "z"
        have nSD : H1 D = none → False := fun z => by rw [e1] at z; cases z
        refine q D _ nD ?_ ⟨ds.reverse, by rw [upd_same, List.map_reverse]⟩
        exact ((k1.trans k2).then1 k4 nD).mut nD rfl

/-! ### items of a law: _law_name, _law_items -/
theorem mem_append_one {α : Type} {P : α → Prop} {l : List α} {x : α} (h : ∀ n ∈ l, P n) (hx : P x) : ∀ n ∈ l ++ [x], P n := fun n hn => by
  rcases List.mem_append.mp hn with h1 | h1
  · exact h n h1
  · rw [List.mem_singleton.mp h1]; exact hx
theorem mem_set_of {α : Type} {P : α → Prop} {l : List α} {j : Nat} {x : α} (h : ∀ n ∈ l, P n) (hx : P x) : ∀ n ∈ l.set j x, P n := fun n hn => by
  rcases List.mem_or_eq_of_mem_set hn with h1 | h1
  · exact h n h1
  · rw [h1]; exact hx
structure Row where
  k : Str
  g : Str
  w : Int
  m : Int
def Row.vs (r : Row) : List V := [.str r.k, .str r.g, .int r.w, .int r.m]
def RowAt (H : Hp) (p : Addr) (r : Row) : Prop := H p = some (.tup r.vs)
def RowsAt (H : Hp) (ps : List (Addr × Row)) : Prop := ∀ x ∈ ps, RowAt H x.1 x.2
def refs (ps : List (Addr × Row)) : List V := ps.map fun x => V.ref x.1
theorem refs_len (ps : List (Addr × Row)) : (refs ps).length = ps.length := by unfold refs; rw [List.length_map]
theorem refs_at {ps : List (Addr × Row)} {i : Nat} {x : Addr × Row} (h : ps[i]? = some x) : (refs ps)[i]? = some (.ref x.1) := by unfold refs; rw [List.getElem?_map, h]; rfl
theorem refs_of {ps : List (Addr × Row)} {i : Nat} {v : V} (h : (refs ps)[i]? = some v) : ∃ x, ps[i]? = some x ∧ v = .ref x.1 := by
  unfold refs at h
  rw [List.getElem?_map] at h
  cases e : ps[i]? with
  | none => rw [e] at h; cases h
  | some x => rw [e] at h; exact ⟨x, rfl, (Option.some.inj h).symm⟩
theorem refs_snoc (ps : List (Addr × Row)) (x : Addr × Row) : refs (ps ++ [x]) = refs ps ++ [.ref x.1] := by unfold refs; rw [List.map_append]; rfl
theorem RowsAt.kp {M : List Addr} {H H' : Hp} {ps : List (Addr × Row)} (r : RowsAt H ps) (k : Kp M H H') (n : ∀ x ∈ M, ∃ xs, H x = some (.lst xs)) : RowsAt H' ps := fun x hx => k _ _ (fun z => by
  obtain ⟨xs, e⟩ := n _ z
  have e2 := r x hx
  unfold RowAt at e2
  rw [e] at e2
  cases e2) (r x hx)
theorem RowsAt.kp0 {H H' : Hp} {ps : List (Addr × Row)} (r : RowsAt H ps) (k : Kp [] H H') : RowsAt H' ps := r.kp k fun _ h => by cases h
theorem RowsAt.kp1 {H H' : Hp} {a : Addr} {ps : List (Addr × Row)} {xs : List V} (r : RowsAt H ps) (k : Kp [a] H H') (e : H a = some (.lst xs)) : RowsAt H' ps := r.kp k fun x h => by
  rw [List.mem_singleton.mp h]
  exact ⟨xs, e⟩
theorem RowsAt.kpd {H H' : Hp} {a : Addr} {ps : List (Addr × Row)} (r : RowsAt H ps) (k : Kp [a] H H') (d : DrawsAt H a) : RowsAt H' ps := let ⟨_, e⟩ := d; r.kp1 k e
theorem RowsAt.snoc {H : Hp} {ps : List (Addr × Row)} {x : Addr × Row} (r : RowsAt H ps) (h : RowAt H x.1 x.2) : RowsAt H (ps ++ [x]) := fun y hy => by
  rcases List.mem_append.mp hy with z | z
  · exact r y z
  · rw [List.mem_singleton.mp z]; exact h
theorem pickS (l : List Str) {v : Int} (h0 : 0 ≤ v) (h1 : v < (l.length : Nat)) : ∃ s, s ∈ l ∧ atI (l.map V.str) v = some (.str s) := by
  obtain ⟨j, rfl⟩ : ∃ j : Nat, v = (j : Int) := ⟨v.toNat, by omega⟩
  have hj : j < l.length := by omega
  exact ⟨l[j], List.getElem_mem hj, atI_nat (by rw [List.getElem?_map, List.getElem?_eq_getElem hj]; rfl)⟩
theorem pickI (l : List Int) {v : Int} (h0 : 0 ≤ v) (h1 : v < (l.length : Nat)) : ∃ s, s ∈ l ∧ atI (l.map V.int) v = some (.int s) := by
  obtain ⟨j, rfl⟩ : ∃ j : Nat, v = (j : Int) := ⟨v.toNat, by omega⟩
  have hj : j < l.length := by omega
  exact ⟨l[j], List.getElem_mem hj, atI_nat (by rw [List.getElem?_map, List.getElem?_eq_getElem hj]; rfl)⟩
structure RowS (r : Row) : Prop where
  k : PyData.strOk r.k = true
  g : PyData.strOk r.g = true
  kz : r.k.cps.size ≤ 20
  gz : r.g.cps.size ≤ 20
def smallS (l : List Str) : Bool := l.all fun s => PyData.strOk s && decide (s.cps.size ≤ 20)
theorem smallS_of {l : List Str} (h : smallS l = true) {s : Str} (hs : s ∈ l) : PyData.strOk s = true ∧ s.cps.size ≤ 20 := by
  have h1 := List.all_eq_true.mp h s hs
  rw [Bool.and_eq_true, decide_eq_true_eq] at h1
  exact h1
def rowD (r : Row) : PyData := .tuple [.str r.k, .str r.g, .int r.w, .int r.m]
theorem dpRow {K : PySem.W.Frag} {H : Hp} {p : Addr} {r : Row} (h : RowAt H p r) : Dp K H (.ref p) (rowD r) := .tup (tupT h) (.cons (.str _) (.cons (.str _) (.cons (.int _) (.cons (.int _) .nil))))
def rowsD (ps : List (Addr × Row)) : List PyData := ps.map fun x => rowD x.2
theorem dpRowsAll {K : PySem.W.Frag} {H : Hp} : ∀ {ps : List (Addr × Row)}, RowsAt H ps → DpAll K H (refs ps) (rowsD ps)
  | [], _ => .nil
  | x :: r, h => .cons (dpRow (h x (by simp))) (dpRowsAll (ps := r) fun y hy => h y (by simp [hy]))
theorem dpRows {K : PySem.W.Frag} {H : Hp} {p : Addr} {ps : List (Addr × Row)} (h : H p = some (.lst (refs ps))) (r : RowsAt H ps) : Dp K H (.ref p) (.list (rowsD ps)) := .lst (lstL h) (dpRowsAll r)
theorem rowD_lay {r : Row} (h : RowS r) : PyData.canLay0 (rowD r) = true := by simp [rowD, PyData.canLay0, PyData.canLayAll0, h.k, h.g]
theorem layRows : ∀ {ps : List (Addr × Row)}, (∀ x ∈ ps, RowS x.2) → PyData.canLayAll0 (rowsD ps) = true
  | [], _ => by simp [rowsD, PyData.canLayAll0]
  | x :: r, h => by
    have ih := layRows (ps := r) fun y hy => h y (by simp [hy])
    show PyData.canLayAll0 (rowD x.2 :: rowsD r) = true
    rw [PyData.canLayAll0, rowD_lay (h x (by simp)), ih]; rfl
theorem rowD_depth (r : Row) : (rowD r).depth = 1 := by simp [rowD, PyData.depth, PyData.depthAll]
theorem depthRows : ∀ ps : List (Addr × Row), PyData.depthAll (rowsD ps) ≤ 1
  | [] => by simp [rowsD, PyData.depthAll]
  | x :: r => by
    have ih := depthRows r
    show PyData.depthAll (rowD x.2 :: rowsD r) ≤ 1
    rw [PyData.depthAll, rowD_depth]
    omega
theorem shRows {ps : List (Addr × Row)} (h : ∀ x ∈ ps, RowS x.2) : SeqAt.shaped (.list (rowsD ps)) = true := by
  have := depthRows ps
  simp [SeqAt.shaped, PyData.canLay0, PyData.depth, layRows h]
  omega
theorem shNil : SeqAt.shaped (.list []) = true := by decide +kernel
theorem neRows {K : PySem.W.Frag} {H : Hp} {Q : VK} {a b : Addr} {ps : List (Addr × Row)} (h1 : H a = some (.lst (refs ps))) (h2 : H b = some (.lst (refs ps))) (r : RowsAt H ps) (s : ∀ x ∈ ps, RowS x.2) (q : Q (.bl false) H) : rNeD K (.ref a) (.ref b) H Q :=
  ⟨_, _, dpRows h1 r, dpRows h2 r, shRows s, shRows s, by rw [SeqAt.eqv_refl _ (by rw [PyData.canLay0]; exact layRows s)]; exact q⟩
theorem eqvAll_nil : ∀ l : List PyData, PyData.eqvAll l [] = l.isEmpty
  | [] => by simp [PyData.eqvAll]
  | _ :: _ => by simp [PyData.eqvAll]
theorem eqNil {K : PySem.W.Frag} {H : Hp} {Q : VK} {a b : Addr} {ps : List (Addr × Row)} (h1 : H a = some (.lst (refs ps))) (h2 : H b = some (.lst [])) (r : RowsAt H ps) (s : ∀ x ∈ ps, RowS x.2) (q : Q (.bl ps.isEmpty) H) : rEqD K (.ref a) (.ref b) H Q :=
  ⟨_, _, dpRows h1 r, .lst (ds := []) (lstL h2) .nil, shRows s, shNil, by
    rw [PyData.eqv, eqvAll_nil]
    have e : (rowsD ps).isEmpty = ps.isEmpty := by cases ps <;> rfl
    rw [e]; exact q⟩
/-! what is a name, an item -/
theorem RowAt.k0 {K : PySem.W.Frag} {H : Hp} {Q : VK} {p : Addr} {r : Row} (h : RowAt H p r) (q : Q (.str r.k) H) : rIxT K (.ref p) (.int 0) H Q := Z.ixT (tupT h) rfl q
theorem RowAt.g1 {K : PySem.W.Frag} {H : Hp} {Q : VK} {p : Addr} {r : Row} (h : RowAt H p r) (q : Q (.str r.g) H) : rIxT K (.ref p) (.int 1) H Q := Z.ixT (tupT h) rfl q
theorem RowAt.w2 {K : PySem.W.Frag} {H : Hp} {Q : VK} {p : Addr} {r : Row} (h : RowAt H p r) (q : Q (.int r.w) H) : rIxT K (.ref p) (.int 2) H Q := Z.ixT (tupT h) rfl q
theorem RowAt.m3 {K : PySem.W.Frag} {H : Hp} {Q : VK} {p : Addr} {r : Row} (h : RowAt H p r) (q : Q (.int r.m) H) : rIxT K (.ref p) (.int 3) H Q := Z.ixT (tupT h) rfl q
theorem RowAt.kp0 {H H' : Hp} {p : Addr} {r : Row} (h : RowAt H p r) (k : Kp [] H H') : RowAt H' p r := k.get nin0 h

/-! ### items of a law: k + digit -/
def key7 (i : Nat) : Str := "k" ++ (⟨#[("3104526" : Str).cps.toList.getD i 0]⟩ : Str)
theorem key7_at {i : Nat} (h : i < 7) : atI ("3104526" : Str).cps.toList (i : Int) = some (("3104526" : Str).cps.toList.getD i 0) := by
  have h7 : ("3104526" : Str).cps.toList.length = 7 := by decide +kernel
  rw [atI_nat (v := ("3104526" : Str).cps.toList.getD i 0)]
  rw [List.getD_eq_getElem?_getD, List.getElem?_eq_getElem (by omega)]
  rfl
theorem key7_all : ∀ i : Fin 7, (PyData.strOk (key7 i.val) = true ∧ (key7 i.val).cps.size = 2) ∧ ∀ j : Fin 7, key7 i.val = key7 j.val → i = j := by decide +kernel
theorem key7_inj {i j : Nat} (hi : i < 7) (hj : j < 7) (h : key7 i = key7 j) : i = j := by
  have := (key7_all ⟨i, hi⟩).2 ⟨j, hj⟩ h
  exact congrArg Fin.val this
structure Row7 (i : Nat) (r : Row) : Prop where
  k : r.k = key7 i
  g : r.g ∈ (["x", "y"] : List Str)
  w0 : 1 ≤ r.w
  w1 : r.w ≤ 1000
  m0 : -9 ≤ r.m
  m1 : r.m ≤ 9
theorem g7_small : smallS ["x", "y"] = true := by decide +kernel
theorem Row7.s {i : Nat} {r : Row} (h : Row7 i r) (hi : i < 7) : RowS r := by
  have h1 := (key7_all ⟨i, hi⟩).1
  have h2 := smallS_of g7_small h.g
  refine ⟨?_, h2.1, ?_, h2.2⟩
  · rw [h.k]; exact h1.1
  · rw [h.k]; exact Nat.le_trans (Nat.le_of_eq h1.2) (by decide)
structure Items7 (H H' : Hp) (a p : Addr) (n : Nat) (ps : List (Addr × Row)) : Prop where
  kp : Kp [a] H H'
  dr : DrawsAt H' a
  at_ : H' p = some (.lst (refs ps))
  rows : RowsAt H' ps
  len : ps.length = n
  ok : ∀ (i : Nat) (x : Addr × Row), ps[i]? = some x → Row7 i x.2
def spItems7 (K : PySem.W.Frag) : Sp := fun vs H Q _ => ∃ (a : Addr) (n : Nat), vs = [.ref a, .int (n : Int)] ∧ DrawsAt H a ∧ n ≤ 7 ∧ ∀ H' p ps, H p = none → Items7 H H' a p n ps → Q (.ref p) H'
theorem ok__law_items {P : Program} {w : World} {K : PySem.W.Frag} {mg : Str → Option Value} {base : Heap} (T : T P K mg) : FnOk P w K mg base CX0 2 T.a__law_items T.fd__law_items ["row", "many"] (spItems7 K) := by
  refine T.F__law_items.ok sc__law_items (fun vs H Q E h => ?_) (fun cdv A outer s H vs Q E hr h => ?_)
  · obtain ⟨a, n, rfl, _⟩ := h
    rfl
  · obtain ⟨a, n, rfl, hd, hn, q⟩ := h
    refine ⟨_, (pss_cons (ps_set (i := 2) sc__law_items.nd rfl (by first | exact Or.inl rfl | exact Or.inr rfl) (pe_lst pa_nil))
      (pss_cons (ps_for PassesOwn.never rfl (pi_range1 (by rfl) T.z_range (pa_cons (pv 1) pa_nil)) (pg_name (i := 3) sc__law_items.nd rfl (by first | exact Or.inl rfl | exact Or.inr rfl)) (pss_cons (ps_set (i := 4) sc__law_items.nd rfl (by first | exact Or.inl rfl | exact Or.inr rfl) (pe_op op_add pe_int (pe_call (ok__law_take T) (hr.mono (by decide)) (by rfl) T.g__law_take T.F__law_take.kp T.b__law_take .nil pass0 (pa_cons (pv 0) (pa_cons pe_int pa_nil)))))
      (Z.pss_consJ (ps_if (pt_cmpR op_eq (pe_call (ok__law_take T) (hr.mono (by decide)) (by rfl) T.g__law_take T.F__law_take.kp T.b__law_take .nil pass0 (pa_cons (pv 0) (pa_cons pe_int pa_nil))) pe_int (nomark _)) (pss_one (ps_set (i := 4) sc__law_items.nd rfl (by first | exact Or.inl rfl | exact Or.inr rfl) (pe_ix ix_list (pe_lst (pa_cons pe_int (pa_cons pe_int (pa_cons pe_int (pa_cons pe_int pa_nil))))) (pe_call (ok__law_take T) (hr.mono (by decide)) (by rfl) T.g__law_take T.F__law_take.kp T.b__law_take .nil pass0 (pa_cons (pv 0) (pa_cons pe_int pa_nil))) (fun _ _ => rfl)))) pss_nil)
      (pss_one (ps_expr (pe_bm PySem.F.plainAttrs_list PySem.F.slot_list_append PySem.F.type_list_append mt_append (pv 2) (pa_cons (pe_tup (pa_cons (pe_op o_addS pe_str (pe_ix ix_str pe_str (pv 3) (fun _ _ => rfl))) (pa_cons (pe_ix ix_list (pe_lst (pa_cons pe_str (pa_cons pe_str pa_nil))) (pe_call (ok__law_take T) (hr.mono (by decide)) (by rfl) T.g__law_take T.F__law_take.kp T.b__law_take .nil pass0 (pa_cons (pv 0) (pa_cons pe_int pa_nil))) (fun _ _ => rfl)) (pa_cons (pv 4) (pa_cons (pe_op op_sub (pe_call (ok__law_take T) (hr.mono (by decide)) (by rfl) T.g__law_take T.F__law_take.kp T.b__law_take .nil pass0 (pa_cons (pv 0) (pa_cons pe_int pa_nil))) pe_int) pa_nil))))) pa_nil)))))))
      (pss_one (ps_ret (pv 2))))), ?_⟩
    walk_at "z0"
    walk_at "z"
    refine Z.lstK (fun F H1 nF k1 e1 => ?_)
    have d1 := hd.kp0 k1
    have naF : a ≠ F := hd.ne nF
    walk_at "z"
    refine Z.forr n (by rfl) (by omega) (fun i σ' H' => ∃ y3 y4, ∃ ps : List (Addr × Row), σ' = [some (.ref a), some (.int (n : Int)), some (.ref F), y3, y4] ∧ Kp [a] H H' ∧ DrawsAt H' a ∧ H' F = some (.lst (refs ps)) ∧ RowsAt H' ps ∧ ps.length = i ∧ ∀ (j : Nat) (x : Addr × Row), ps[j]? = some x → Row7 j x.2) ⟨_, _, [], rfl, k1.sub (by simp), d1, e1, (fun x hx => by cases hx), rfl, fun j x hx => by simp at hx⟩ ?_ ?_
    · rintro i σ' H2 hi ⟨y3, y4, ps, rfl, k2, d2, e2, r2, hl2, hok⟩
      walk_at "z"
      refine ⟨a, 9, rfl, d2, by decide, by decide, fun H3 v hv0 hv1 k3 d3 => ?_⟩
      have e3 := k3.get (nin1 naF.symm) e2
      have r3 := r2.kpd k3 d2
      walk_at "z"
      refine Z.seqJ (fun σ' H' => ∃ w : Int, σ' = [some (.ref a), some (.int (n : Int)), some (.ref F), some (.int (i : Int)), some (.int w)] ∧ 1 ≤ w ∧ w ≤ 1000 ∧ Kp [a] H H' ∧ DrawsAt H' a ∧ H' F = some (.lst (refs ps)) ∧ RowsAt H' ps) ?_ ?_
      · rintro σ' H4 ⟨w, rfl, hw0, hw1, k4, d4, e4, r4⟩
        walk_at "z"
        refine ⟨Z.tyL e4, ?_⟩
        walk_at "z"
        refine ⟨_, _, _, rfl, rfl, (show ("3104526" : Str).length ≤ sizeLine by decide +kernel), key7_at (i := i) (by omega), ?_⟩
        refine Z.addS (show ("k" : Str).length + 1 ≤ sizeLine by decide +kernel) ?_
        walk_at "z"
        refine Z.lstK (fun b H5 nb k5 e5 => ?_)
        have d5 := d4.kp0 k5
        have nab : a ≠ b := d4.ne nb
        walk_at "z"
        refine ⟨a, 2, rfl, d5, by decide, by decide, fun H6 v6 hv60 hv61 k6 d6 => ?_⟩
        obtain ⟨s, hs, es⟩ := pickS ["x", "y"] hv60 hv61
        refine Z.ixL (lstL (k6.get (nin1 nab.symm) e5)) es ?_
        walk_at "z"
        refine ⟨a, 19, rfl, d6, by decide, by decide, fun H7 v7 hv70 hv71 k7 d7 => ?_⟩
        walk_at "z"
        refine Z.tupK (fun t H8 nt k8 e8 => ?_)
        have k48 := ((k5.sub (M' := [a]) (by simp)).trans k6).trans (k7.trans (k8.sub (by simp)))
        have e8F := k8.get nin0 (k7.get (nin1 naF.symm) (k6.get (nin1 naF.symm) (k5.get nin0 e4)))
        have r8 := (((r4.kp0 k5).kpd k6 d5).kpd k7 d6).kp0 k8
        have d8 := d7.kp0 k8
        have ntF : t ≠ F := fun z => by rw [z, e8F] at e8; cases e8
        have kF : Kp [F] H8 (upd H8 F (.lst (refs ps ++ [.ref t]))) := Kp.put (by simp)
        walk_at "z"
        refine Z.app e8F (Z.szl (m := 1000) (by rw [refs_len]; omega)) ?_
        refine ⟨_, _, ps ++ [(t, ⟨key7 i, s, w, v7 - 9⟩)], rfl, (k4.trans k48).mut nF rfl, d8.put naF, by rw [upd_same, refs_snoc], (r8.kp1 kF e8F).snoc (show RowAt _ t ⟨key7 i, s, w, v7 - 9⟩ from kF.get (nin1 ntF) e8), by simp [hl2], fun j x hx => ?_⟩
        rw [List.getElem?_append] at hx
        split at hx
        · exact hok j x hx
        · have hj : j - ps.length = 0 := by
            have := (List.getElem?_eq_some_iff.mp hx).1
            simp at this
            exact this
          rw [hj] at hx
          have e : j = i := by omega
          subst e
          cases hx
          exact ⟨rfl, hs, hw0, hw1, by show -9 ≤ v7 - 9; omega, by show v7 - 9 ≤ 9; omega⟩
      · intro N jn
        walk_at "z"
        refine ⟨a, 6, rfl, d3, by decide, by decide, fun H4 v4 hv40 hv41 k4 d4 => ?_⟩
        have e4 := k4.get (nin1 naF.symm) e3
        have r4 := r3.kpd k4 d3
        walk_at "z"
        refine Z.ite (fun h2 => ?_) (fun h2 => ?_)
        · walk_at "z"
          refine Z.lstK (fun b H5 nb k5 e5 => ?_)
          have d5 := d4.kp0 k5
          have nab : a ≠ b := d4.ne nb
          walk_at "z"
          refine ⟨a, 4, rfl, d5, by decide, by decide, fun H6 v6 hv60 hv61 k6 d6 => ?_⟩
          obtain ⟨s, hs, es⟩ := pickI [1000, 1, 40, 7] hv60 hv61
          refine Z.ixL (lstL (k6.get (nin1 nab.symm) e5)) es ?_
          walk_at "z"
          have hs2 : 1 ≤ s ∧ s ≤ 1000 := by
            simp only [List.mem_cons, List.not_mem_nil, or_false] at hs
            rcases hs with rfl | rfl | rfl | rfl <;> decide
          exact jn _ _ ⟨s, rfl, hs2.1, hs2.2, ((k2.trans k3).trans k4).trans ((k5.sub (by simp)).trans k6), d6, k6.get (nin1 naF.symm) (k5.get nin0 e4), (r4.kp0 k5).kpd k6 d5⟩
        · walk_at "z"
          exact jn _ _ ⟨_, rfl, by omega, by omega, (k2.trans k3).trans k4, d4, e4, r4⟩
    · rintro σ' H2 ⟨y3, y4, ps, rfl, k2, d2, e2, r2, hl2, hok⟩
      walk_at "z"
      exact q H2 F ps nF ⟨k2, d2, e2, r2, hl2, hok⟩

/-! ### sums of lists of ints -/
theorem sum_nonneg : ∀ {l : List Int}, (∀ n ∈ l, 0 ≤ n) → 0 ≤ l.sum
  | [], _ => by simp
  | a :: r, h => by
    have h1 := h a (by simp)
    have h2 := sum_nonneg (l := r) fun n hn => h n (by simp [hn])
    rw [List.sum_cons]
    omega
theorem sum_le {c : Int} : ∀ {l : List Int}, (∀ n ∈ l, n ≤ c) → l.sum ≤ c * l.length
  | [], _ => by simp
  | a :: r, h => by
    have h1 := h a (by simp)
    have h2 := sum_le (c := c) (l := r) fun n hn => h n (by simp [hn])
    rw [List.sum_cons, List.length_cons, show c * ((r.length + 1 : Nat) : Int) = c * r.length + c by rw [Int.natCast_add, Int.mul_add]; simp]
    omega
theorem sum_ge_mem : ∀ {l : List Int}, (∀ n ∈ l, 0 ≤ n) → ∀ x ∈ l, x ≤ l.sum
  | [], _, x, hx => by simp at hx
  | a :: r, h, x, hx => by
    have h1 := h a (by simp)
    have h3 := sum_nonneg (l := r) fun n hn => h n (by simp [hn])
    rw [List.sum_cons]
    rcases List.mem_cons.mp hx with e | e
    · omega
    · have h2 := sum_ge_mem (l := r) (fun n hn => h n (by simp [hn])) x e
      omega
theorem take_nonneg {l : List Int} (h : ∀ n ∈ l, 0 ≤ n) (i : Nat) : 0 ≤ (l.take i).sum := sum_nonneg fun n hn => h n (List.mem_of_mem_take hn)
/-! ### lists of ints as data -/
theorem layInts : ∀ ws : List Int, PyData.canLayAll0 (ws.map PyData.int) = true
  | [] => by simp [PyData.canLayAll0]
  | w :: r => by simp [PyData.canLayAll0, PyData.canLay0, layInts r]
theorem depthInts : ∀ ws : List Int, PyData.depthAll (ws.map PyData.int) = 0
  | [] => by simp [PyData.depthAll]
  | w :: r => by simp [PyData.depthAll, PyData.depth, depthInts r]
theorem shInts (ws : List Int) : SeqAt.shaped (.list (ws.map PyData.int)) = true := by
  simp [SeqAt.shaped, PyData.canLay0, PyData.depth, layInts, depthInts]
theorem dpInts {K : PySem.W.Frag} {H : Hp} : ∀ ws : List Int, DpAll K H (ws.map V.int) (ws.map PyData.int)
  | [] => .nil
  | w :: r => .cons (.int w) (dpInts r)
theorem dpI {K : PySem.W.Frag} {H : Hp} {a : Addr} {ws : List Int} (h : SqL K H a (ws.map V.int)) : Dp K H (.ref a) (.list (ws.map PyData.int)) := .lst h (dpInts ws)
theorem eqvI (ws : List Int) : PyData.eqv (.list (ws.map PyData.int)) (.list (ws.map PyData.int)) = true := SeqAt.eqv_refl _ (by simp [PyData.canLay0, layInts])
theorem neLL {K : PySem.W.Frag} {H : Hp} {Q : VK} {a b : Addr} {ws : List Int} (h1 : SqL K H a (ws.map V.int)) (h2 : SqL K H b (ws.map V.int)) (q : Q (.bl false) H) : rNeD K (.ref a) (.ref b) H Q :=
  ⟨_, _, dpI h1, dpI h2, shInts _, shInts _, by rw [eqvI]; exact q⟩
theorem eqLL {K : PySem.W.Frag} {H : Hp} {Q : VK} {a b : Addr} {ws : List Int} (h1 : SqL K H a (ws.map V.int)) (h2 : SqL K H b (ws.map V.int)) (q : Q (.bl true) H) : rEqD K (.ref a) (.ref b) H Q :=
  ⟨_, _, dpI h1, dpI h2, shInts _, shInts _, by rw [eqvI]; exact q⟩

/-! ### Euclid and lowest terms -/
def eStep (p : Nat × Nat) : Nat × Nat := if p.2 = 0 then p else (p.2, p.1 % p.2)
def euc : Nat → Nat × Nat → Nat × Nat
  | 0, p => p
  | i + 1, p => euc i (eStep p)
theorem euc_succ : ∀ (i : Nat) (p : Nat × Nat), euc (i + 1) p = eStep (euc i p)
  | 0, p => rfl
  | i + 1, p => euc_succ i (eStep p)
theorem eStep_gcd (p : Nat × Nat) : Nat.gcd (eStep p).1 (eStep p).2 = Nat.gcd p.1 p.2 := by
  unfold eStep
  split
  · rfl
  · show Nat.gcd p.2 (p.1 % p.2) = Nat.gcd p.1 p.2
    rw [Nat.gcd_comm p.1 p.2, Nat.gcd_rec p.2 p.1, Nat.gcd_comm]
theorem euc_gcd : ∀ (i : Nat) (p : Nat × Nat), Nat.gcd (euc i p).1 (euc i p).2 = Nat.gcd p.1 p.2
  | 0, p => rfl
  | i + 1, p => (euc_gcd i (eStep p)).trans (eStep_gcd p)
theorem eStep_zero {p : Nat × Nat} (h : p.2 = 0) : eStep p = p := if_pos h
theorem euc_zero : ∀ (i : Nat) {p : Nat × Nat}, p.2 = 0 → euc i p = p
  | 0, _, _ => rfl
  | i + 1, p, h => by
    show euc i (eStep p) = p
    rw [eStep_zero h]
    exact euc_zero i h
theorem eStep2 (p : Nat × Nat) : 2 * (eStep (eStep p)).2 ≤ p.2 := by
  obtain ⟨a, b⟩ := p
  by_cases hb : b = 0
  · rw [eStep_zero (p := (a, b)) hb, eStep_zero (p := (a, b)) hb]
    show 2 * b ≤ b
    omega
  · have e1 : eStep (a, b) = (b, a % b) := if_neg hb
    rw [e1]
    have hc : a % b < b := Nat.mod_lt _ (by omega)
    by_cases h0 : a % b = 0
    · rw [eStep_zero (p := (b, a % b)) h0]
      show 2 * (a % b) ≤ b
      omega
    · have e2 : eStep (b, a % b) = (a % b, b % (a % b)) := if_neg h0
      rw [e2]
      show 2 * (b % (a % b)) ≤ b
      have h1 : b % (a % b) < a % b := Nat.mod_lt _ (by omega)
      have h2 := Nat.div_add_mod b (a % b)
      have h3 : 1 ≤ b / (a % b) := Nat.div_pos (by omega) (by omega)
      have h4 : (a % b) * 1 ≤ (a % b) * (b / (a % b)) := Nat.mul_le_mul_left _ h3
      omega
theorem euc_end : ∀ (n : Nat) (p : Nat × Nat), p.2 < 2 ^ n → (euc (2 * n) p).2 = 0
  | 0, p, h => by
    have h' : p.2 < 1 := h
    show p.2 = 0
    omega
  | n + 1, p, h => by
    show (euc (2 * n) (eStep (eStep p))).2 = 0
    refine euc_end n _ ?_
    have := eStep2 p
    rw [Nat.pow_succ] at h
    omega
theorem euc_add : ∀ (i j : Nat) (p : Nat × Nat), euc (i + j) p = euc j (euc i p)
  | 0, j, p => by rw [Nat.zero_add]; rfl
  | i + 1, j, p => by
    rw [show i + 1 + j = (i + j) + 1 by omega]
    exact euc_add i j (eStep p)
theorem euc_5000 {p : Nat × Nat} (h : p.2 < 2 ^ 2400) : (euc 5000 p).2 = 0 := by
  rw [show (5000 : Nat) = 2 * 2400 + 200 from rfl, euc_add, euc_zero 200 (euc_end 2400 p h)]
  exact euc_end 2400 p h
def gN (p q : Int) : Nat := Nat.gcd p.natAbs q.natAbs
def gI (p q : Int) : Int := if q < 0 then -(gN p q : Int) else (gN p q : Int)
def lo (p q : Int) : Int × Int := (p.fdiv (gI p q), q.fdiv (gI p q))
theorem gN_pos {p q : Int} (h : q ≠ 0) : 0 < gN p q := Nat.gcd_pos_of_pos_right _ (by omega)
theorem gI_ne {p q : Int} (h : q ≠ 0) : gI p q ≠ 0 := by
  have := gN_pos (p := p) h
  unfold gI
  split <;> omega
theorem gN_le {p q : Int} (h : q ≠ 0) : gN p q ≤ q.natAbs := Nat.le_of_dvd (by omega) (Nat.gcd_dvd_right _ _)
theorem gI_abs (p q : Int) : (gI p q).natAbs = gN p q := by
  unfold gI
  split <;> omega
theorem dvdI {g : Nat} {p : Int} (h : g ∣ p.natAbs) : ∃ a : Int, p = (g : Int) * a ∧ p.natAbs = g * a.natAbs := by
  obtain ⟨c, hc⟩ := Int.ofNat_dvd_left.mpr h
  refine ⟨c, hc, ?_⟩
  rw [hc, Int.natAbs_mul]
  simp
/-- lowest terms: exactly divided, a denominator of at least 1, no common part -/
theorem lo_spec {p q : Int} (h : q ≠ 0) : ∃ a b : Int, lo p q = (a, b) ∧ 1 ≤ b ∧ Nat.gcd a.natAbs b.natAbs = 1 ∧ p = gI p q * a ∧ q = gI p q * b := by
  obtain ⟨a, ha, ha2⟩ := dvdI (Nat.gcd_dvd_left p.natAbs q.natAbs)
  obtain ⟨b, hb, hb2⟩ := dvdI (Nat.gcd_dvd_right p.natAbs q.natAbs)
  have hg := gN_pos (p := p) h
  have hcop : Nat.gcd a.natAbs b.natAbs = 1 := by
    have e := Nat.gcd_mul_left (gN p q) a.natAbs b.natAbs
    have e2 : gN p q * a.natAbs = p.natAbs := ha2.symm
    have e3 : gN p q * b.natAbs = q.natAbs := hb2.symm
    rw [e2, e3] at e
    have e4 : gN p q * 1 = gN p q * Nat.gcd a.natAbs b.natAbs := by rw [Nat.mul_one]; exact e
    exact (Nat.eq_of_mul_eq_mul_left hg e4).symm
  have ha' : p = (gN p q : Int) * a := ha
  have hb' : q = (gN p q : Int) * b := hb
  have gpos : (0 : Int) < (gN p q : Int) := by omega
  have hb0 : b ≠ 0 := fun z => by
    rw [z, Int.mul_zero] at hb'
    exact h hb'
  by_cases hq : q < 0
  · have eg : gI p q = -(gN p q : Int) := if_pos hq
    have hbn : b < 0 := by
      rcases Int.lt_or_le b 0 with z | z
      · exact z
      · have := Int.mul_nonneg (Int.le_of_lt gpos) z
        omega
    have ep : p = gI p q * -a := by rw [eg, Int.neg_mul_neg]; exact ha'
    have eq : q = gI p q * -b := by rw [eg, Int.neg_mul_neg]; exact hb'
    refine ⟨-a, -b, ?_, by omega, by rw [Int.natAbs_neg, Int.natAbs_neg]; exact hcop, ep, eq⟩
    have g0 := gI_ne (p := p) h
    unfold lo
    have f1 : p.fdiv (gI p q) = -a := by
      have := Int.mul_fdiv_cancel_left (-a) g0
      rw [← ep] at this
      exact this
    have f2 : q.fdiv (gI p q) = -b := by
      have := Int.mul_fdiv_cancel_left (-b) g0
      rw [← eq] at this
      exact this
    rw [f1, f2]
  · have eg : gI p q = (gN p q : Int) := if_neg hq
    have hbp : 0 < b := by
      rcases Int.lt_or_le 0 b with z | z
      · exact z
      · have := Int.mul_nonpos_of_nonneg_of_nonpos (Int.le_of_lt gpos) z
        omega
    have ep : p = gI p q * a := by rw [eg]; exact ha'
    have eq : q = gI p q * b := by rw [eg]; exact hb'
    refine ⟨a, b, ?_, by omega, hcop, ep, eq⟩
    have g0 := gI_ne (p := p) h
    unfold lo
    have f1 : p.fdiv (gI p q) = a := by
      have := Int.mul_fdiv_cancel_left a g0
      rw [← ep] at this
      exact this
    have f2 : q.fdiv (gI p q) = b := by
      have := Int.mul_fdiv_cancel_left b g0
      rw [← eq] at this
      exact this
    rw [f1, f2]
theorem lo_pos {p q : Int} (h : q ≠ 0) : 1 ≤ (lo p q).2 := by
  obtain ⟨a, b, e, h1, _⟩ := lo_spec (p := p) h
  rw [e]; exact h1
theorem lo_cop {p q : Int} (h : q ≠ 0) : Nat.gcd (lo p q).1.natAbs (lo p q).2.natAbs = 1 := by
  obtain ⟨a, b, e, _, h1, _⟩ := lo_spec (p := p) h
  rw [e]; exact h1
theorem abs_le_mul {g a : Int} (h : g ≠ 0) : a.natAbs ≤ (g * a).natAbs := by
  rw [Int.natAbs_mul]
  exact Nat.le_mul_of_pos_left _ (by omega)
theorem lo_abs1 {p q : Int} (h : q ≠ 0) : (lo p q).1.natAbs ≤ p.natAbs := by
  obtain ⟨a, b, e, _, _, h1, _⟩ := lo_spec (p := p) h
  rw [e]
  have := abs_le_mul (a := a) (gI_ne (p := p) h)
  rw [← h1] at this
  exact this
theorem lo_abs2 {p q : Int} (h : q ≠ 0) : (lo p q).2.natAbs ≤ q.natAbs := by
  obtain ⟨a, b, e, _, _, _, h1⟩ := lo_spec (p := p) h
  rw [e]
  have := abs_le_mul (a := b) (gI_ne (p := p) h)
  rw [← h1] at this
  exact this

/-! ### fractions: tuples of two ints -/
section frac
variable {K : PySem.W.Frag}
abbrev Fr := Int × Int
def frV (f : Fr) : List V := [.int f.1, .int f.2]
/-- at x there is no tuple -/
def NoTup (H : Hp) (x : Addr) : Prop := ∀ xs, ¬ Rd H x (.tup xs)
theorem NoTup.of {H : Hp} {x : Addr} {o : HO} (h : H x = some o) (n : ∀ xs, o ≠ .tup xs ∧ ∀ u, o ≠ .frz u (.tup xs)) : NoTup H x := fun xs r => by
  rcases r with r | ⟨u, r⟩
  · rw [h] at r; exact (n xs).1 (Option.some.inj r)
  · rw [h] at r; exact (n xs).2 u (Option.some.inj r)
theorem NoTup.lst {H : Hp} {x : Addr} {xs : List V} (h : H x = some (.lst xs)) : NoTup H x := NoTup.of h fun ys => ⟨by simp, by simp⟩
theorem NoTup.new {H : Hp} {x : Addr} (h : H x = none) : NoTup H x := fun xs r => by
  rcases r with r | ⟨u, r⟩ <;> rw [h] at r <;> cases r
theorem kpTup {K : PySem.W.Frag} {M : List Addr} {H H' : Hp} {a : Addr} {xs : List V} (h : SqT K H a xs) (k : Kp M H H') (n : ∀ x ∈ M, NoTup H x) : SqT K H' a xs := by
  rcases h with h | h
  · have na : a ∉ M := fun z => n a z xs h
    exact k.tup na (.inl h)
  · exact .inr h
/-- a fraction at a, a new one or one of the top -/
def FrAt (K : PySem.W.Frag) (H : Hp) (a : Addr) (f : Fr) : Prop := SqT K H a (frV f)
theorem FrAt.kp {M : List Addr} {H H' : Hp} {a : Addr} {f : Fr} (h : FrAt K H a f) (k : Kp M H H') (n : ∀ x ∈ M, NoTup H x) : FrAt K H' a f := kpTup h k n
theorem FrAt.kp0 {H H' : Hp} {a : Addr} {f : Fr} (h : FrAt K H a f) (k : Kp [] H H') : FrAt K H' a f := k.tup nin0 h
theorem FrAt.kpl {H H' : Hp} {a l : Addr} {f : Fr} {xs : List V} (h : FrAt K H a f) (k : Kp [l] H H') (e : H l = some (.lst xs)) : FrAt K H' a f := kpTup h k fun x hx => by
  rw [List.mem_singleton.mp hx]
  exact NoTup.lst e
theorem fr0 (f : Fr) : atI (frV f) 0 = some (.int f.1) := rfl
theorem fr1 (f : Fr) : atI (frV f) 1 = some (.int f.2) := rfl
/-- small enough for the machine's ints -/
def FrB (n : Nat) (f : Fr) : Prop := f.1.natAbs < 2 ^ n ∧ f.2.natAbs < 2 ^ n
theorem FrB.mono {n m : Nat} {f : Fr} (h : FrB n f) (l : n ≤ m) : FrB m f := ⟨Nat.lt_of_lt_of_le h.1 (Nat.pow_le_pow_right (by decide) l), Nat.lt_of_lt_of_le h.2 (Nat.pow_le_pow_right (by decide) l)⟩
theorem lo_B {n : Nat} {p q : Int} (h : q ≠ 0) (h1 : p.natAbs < 2 ^ n) (h2 : q.natAbs < 2 ^ n) : FrB n (lo p q) := ⟨Nat.lt_of_le_of_lt (lo_abs1 h) h1, Nat.lt_of_le_of_lt (lo_abs2 h) h2⟩
theorem add_B {n : Nat} {a b : Int} (h1 : a.natAbs < 2 ^ n) (h2 : b.natAbs < 2 ^ n) : (a + b).natAbs < 2 ^ (n + 1) := by
  rw [Nat.pow_succ]
  omega
theorem sub_B {n : Nat} {a b : Int} (h1 : a.natAbs < 2 ^ n) (h2 : b.natAbs < 2 ^ n) : (a - b).natAbs < 2 ^ (n + 1) := by
  rw [Nat.pow_succ]
  omega
theorem mul_B {n m : Nat} {a b : Int} (h1 : a.natAbs < 2 ^ n) (h2 : b.natAbs < 2 ^ m) : (a * b).natAbs < 2 ^ (n + m) := wide_lt h1 h2
theorem up_B {n m : Nat} {a : Int} (h : a.natAbs < 2 ^ n) (l : n ≤ m) : a.natAbs < 2 ^ m := Nat.lt_of_lt_of_le h (Nat.pow_le_pow_right (by decide) l)
theorem mul_ok {n : Nat} {a b : Int} (h1 : a.natAbs < 2 ^ n) (h2 : b.natAbs < 2 ^ n) (h0 : 0 < n := by omega) (h : n ≤ 400000 := by omega) : CMulW a b := wide_mul h1 h2 h0 h0 (by omega)
def fplus (f g : Fr) : Fr := lo (f.1 * g.2 + g.1 * f.2) (f.2 * g.2)
def fminus (f g : Fr) : Fr := lo (f.1 * g.2 - g.1 * f.2) (f.2 * g.2)
def ftimes (f g : Fr) : Fr := lo (f.1 * g.1) (f.2 * g.2)
def fover (f g : Fr) : Fr := lo (f.1 * g.2) (f.2 * g.1)
def fless (f g : Fr) : Bool := decide (f.1 * g.2 < g.1 * f.2)
theorem fplus_B {n m : Nat} {f g : Fr} (hf : FrB n f) (hg : FrB m g) (h1 : f.2 ≠ 0) (h2 : g.2 ≠ 0) : FrB (n + m + 1) (fplus f g) :=
  lo_B (Int.mul_ne_zero h1 h2) (add_B (mul_B hf.1 hg.2) (by rw [Nat.add_comm n m]; exact mul_B hg.1 hf.2)) (up_B (mul_B hf.2 hg.2) (by omega))
theorem fminus_B {n m : Nat} {f g : Fr} (hf : FrB n f) (hg : FrB m g) (h1 : f.2 ≠ 0) (h2 : g.2 ≠ 0) : FrB (n + m + 1) (fminus f g) :=
  lo_B (Int.mul_ne_zero h1 h2) (sub_B (mul_B hf.1 hg.2) (by rw [Nat.add_comm n m]; exact mul_B hg.1 hf.2)) (up_B (mul_B hf.2 hg.2) (by omega))
theorem ftimes_B {n m : Nat} {f g : Fr} (hf : FrB n f) (hg : FrB m g) (h1 : f.2 ≠ 0) (h2 : g.2 ≠ 0) : FrB (n + m) (ftimes f g) := lo_B (Int.mul_ne_zero h1 h2) (mul_B hf.1 hg.1) (mul_B hf.2 hg.2)
theorem fplus_pos {f g : Fr} (h1 : f.2 ≠ 0) (h2 : g.2 ≠ 0) : 1 ≤ (fplus f g).2 := lo_pos (Int.mul_ne_zero h1 h2)
/-! ### samphire.errors, samphire.ratios -/
def spZD (C : Addr) : Sp := fun vs H Q _ => ∃ a : Addr, vs = [.ref a] ∧ H a = some (exo a C none) ∧ Q .non H
theorem ok_ZeroDenominator_init {P : Program} {w : World} {K : PySem.W.Frag} {mg : Str → Option Value} {base : Heap} (T : T P K mg) : FnOk P w K mg base CX0 1 T.a_ZeroDenominator_init ((NF_ZeroDenominator T.cc_ZeroDenominator T.c_ZeroDenominator).fd T.doc_ZeroDenominator T.pm_ZeroDenominator T.ctv_ZeroDenominator) ["self"] (spZD T.C_ZeroDenominator) := by
  refine Sup.fn_super (F := NF_ZeroDenominator T.cc_ZeroDenominator T.c_ZeroDenominator) (p := "self") (ps' := []) T.x_ZeroDenominator.S T.lk_ZeroDenominator rfl T.hc_ZeroDenominator sc_ZeroDenominator_init rfl ⟨_, rfl, rfl⟩ rfl rfl (fun _ => rfl) (fun _ => ⟨_, rfl⟩) (fun _ => rfl) (fun vs H Q E h => ?_) (fun A outer s H vs Q E hr h => ?_)
  · obtain ⟨a, rfl, _⟩ := h
    rfl
  · obtain ⟨a, rfl, ha, q⟩ := h
    exact ⟨a, [], _, _, rfl, ha, pa_cons pe_str pa_nil, pss_nil, by decide, ha, q⟩
def spLowest (K : PySem.W.Frag) (C : Addr) : Sp := fun vs H Q E => ∃ p q : Int, vs = [.int p, .int q] ∧ q.natAbs < 2 ^ 8000 ∧ (q = 0 → E (.ref C) none H) ∧ (q ≠ 0 → ∀ H' b, H b = none → Kp [] H H' → FrAt K H' b (lo p q) → Q (.ref b) H')
theorem del_upd {H : Hp} {a : Addr} {o : HO} (h : H a = none) : del (upd H a o) a = H := by
  funext b
  by_cases hb : b = a
  · rw [hb, del_same, h]
  · rw [del_ne hb, upd_ne hb]
theorem ok_lowest {P : Program} {w : World} {K : PySem.W.Frag} {mg : Str → Option Value} {base : Heap} (T : T P K mg) : FnOk P w K mg base (L2.CX P w) 3 T.a_lowest T.fd_lowest ["p", "q"] (spLowest K T.C_ZeroDenominator) := by
  refine T.F_lowest.okX sc_lowest (fun vs H Q E h => ?_) (fun cdv A outer s H vs Q E hr h => ?_)
  · obtain ⟨p, q, rfl, _⟩ := h
    rfl
  · obtain ⟨p, q, rfl, hb, h0, h1⟩ := h
    refine ⟨_, (pss_cons (ps_if (pt_cmpR op_eq (pv 1) pe_int (nomark _)) (pss_one (ps_raise rfl (takes_of rfl rfl rfl rfl) (Sup.pmk_oexN T.x_ZeroDenominator.S.T T.x_ZeroDenominator.iC T.x_ZeroDenominator.tI (ok_ZeroDenominator_init T) (hr.mono (by decide)) (T.bx_ZeroDenominator) pass0 (by rfl) T.x_ZeroDenominator.g))) pss_nil)
      (pss_cons (ps_set (i := 2) sc_lowest.nd rfl (by first | exact Or.inl rfl | exact Or.inr rfl) (pe_callBfun cr_gcd (by rfl) T.g_gcd (pa_cons (pv 0) (pa_cons (pv 1) pa_nil))))
      (Z.pss_consJ (ps_if (pt_cmpR op_lt (pv 1) pe_int (nomark _)) (pss_one (ps_set (i := 2) sc_lowest.nd rfl (by first | exact Or.inl rfl | exact Or.inr rfl) (pe_un un_neg (pv 2)))) pss_nil)
      (pss_one (ps_ret (pe_tup (pa_cons (pe_op Z.op_fdivA (pv 0) (pv 2)) (pa_cons (pe_op Z.op_fdivA (pv 1) (pv 2)) pa_nil)))))))), ?_⟩
    walk_at "z0"
    walk_at "z"
    refine Z.ite (fun hq => ?_) (fun hq => ?_)
    · refine Z.mkN fun a na => ⟨a, rfl, upd_same, rfl, upd_same, ?_⟩
      rw [del_upd na]
      exact h0 hq
    · walk_at "z"
      have hg := gI_ne (p := p) hq
      have hdv : Z.CDivA p (gI p q) := Z.divA (b := 8000) hg (by rw [gI_abs]; exact Nat.lt_of_le_of_lt (gN_le hq) hb) (by decide) (by decide)
      have hdv2 : Z.CDivA q (gI p q) := hdv
      refine Z.seqJ (fun σ' H' => σ' = [some (.int p), some (.int q), some (.int (gI p q))] ∧ H' = H) ?_ ?_
      · rintro σ' H' ⟨rfl, rfl⟩
        walk_at "z"
        refine Z.iC hdv ?_
        walk_at "z"
        refine Z.iC hdv2 ?_
        refine Z.tupK (fun b H1 nb k1 e1 => ?_)
        exact h1 hq _ _ nb k1 (tupT e1)
      · intro N jn
        walk_at "z"
        refine Z.ite (fun h2 => ?_) (fun h2 => ?_)
        · walk_at "z"
          refine jn _ _ ⟨?_, rfl⟩
          unfold gI
          rw [if_pos h2]; rfl
        · walk_at "z"
          refine jn _ _ ⟨?_, rfl⟩
          unfold gI
          rw [if_neg h2]; rfl
/-- two fractions in, a fraction out -/
def spF2 (K : PySem.W.Frag) (o : Fr → Fr → Fr) : Sp := fun vs H Q _ => ∃ (a b : Addr) (f g : Fr), vs = [.ref a, .ref b] ∧ FrAt K H a f ∧ FrAt K H b g ∧ f.2 ≠ 0 ∧ g.2 ≠ 0 ∧ FrB 3900 f ∧ FrB 3900 g ∧ ∀ H' c, H c = none → Kp [] H H' → FrAt K H' c (o f g) → Q (.ref c) H'
theorem ok_plus {P : Program} {w : World} {K : PySem.W.Frag} {mg : Str → Option Value} {base : Heap} (T : T P K mg) : FnOk P w K mg base CX0 4 T.a_plus T.fd_plus ["a", "b"] (spF2 K fplus) := by
  refine T.F_plus.ok sc_plus (fun vs H Q E h => ?_) (fun cdv A outer s H vs Q E hr h => ?_)
  · obtain ⟨a, b, f, g, rfl, _⟩ := h
    rfl
  · obtain ⟨a, b, f, g, rfl, ha, hb, hf, hg, Bf, Bg, q⟩ := h
    refine ⟨_, (pss_one (ps_ret (pe_call (ok_lowest T) (hr.mono (by decide)) (by rfl) T.g_lowest T.F_lowest.kp T.b_lowest .nil passL (pa_cons (pe_op op_add (pe_op op_mulW (pe_ix ix_tup (pv 0) pe_int (fun _ _ => rfl)) (pe_ix ix_tup (pv 1) pe_int (fun _ _ => rfl))) (pe_op op_mulW (pe_ix ix_tup (pv 1) pe_int (fun _ _ => rfl)) (pe_ix ix_tup (pv 0) pe_int (fun _ _ => rfl)))) (pa_cons (pe_op op_mulW (pe_ix ix_tup (pv 0) pe_int (fun _ _ => rfl)) (pe_ix ix_tup (pv 1) pe_int (fun _ _ => rfl))) pa_nil))))), ?_⟩
    walk_at "z0"
    walk_at "z"
    refine Z.ixT ha (fr0 f) ?_
    walk_at "z"
    refine Z.ixT hb (fr1 g) ?_
    walk_at "z"
    refine Z.iC (mul_ok Bf.1 Bg.2) ?_
    walk_at "z"
    refine Z.ixT hb (fr0 g) ?_
    walk_at "z"
    refine Z.ixT ha (fr1 f) ?_
    walk_at "z"
    refine Z.iC (mul_ok Bg.1 Bf.2) ?_
    walk_at "z"
    refine Z.ixT ha (fr1 f) ?_
    walk_at "z"
    refine Z.ixT hb (fr1 g) ?_
    walk_at "z"
    refine Z.iC (mul_ok Bf.2 Bg.2) ?_
    walk_at "z"
    exact ⟨_, _, rfl, up_B (mul_B Bf.2 Bg.2) (by decide), fun z => absurd z (Int.mul_ne_zero hf hg), fun _ H' c nc k e => q _ _ nc k e⟩
theorem ok_minus {P : Program} {w : World} {K : PySem.W.Frag} {mg : Str → Option Value} {base : Heap} (T : T P K mg) : FnOk P w K mg base CX0 4 T.a_minus T.fd_minus ["a", "b"] (spF2 K fminus) := by
  refine T.F_minus.ok sc_minus (fun vs H Q E h => ?_) (fun cdv A outer s H vs Q E hr h => ?_)
  · obtain ⟨a, b, f, g, rfl, _⟩ := h
    rfl
  · obtain ⟨a, b, f, g, rfl, ha, hb, hf, hg, Bf, Bg, q⟩ := h
    refine ⟨_, (pss_one (ps_ret (pe_call (ok_lowest T) (hr.mono (by decide)) (by rfl) T.g_lowest T.F_lowest.kp T.b_lowest .nil passL (pa_cons (pe_op op_sub (pe_op op_mulW (pe_ix ix_tup (pv 0) pe_int (fun _ _ => rfl)) (pe_ix ix_tup (pv 1) pe_int (fun _ _ => rfl))) (pe_op op_mulW (pe_ix ix_tup (pv 1) pe_int (fun _ _ => rfl)) (pe_ix ix_tup (pv 0) pe_int (fun _ _ => rfl)))) (pa_cons (pe_op op_mulW (pe_ix ix_tup (pv 0) pe_int (fun _ _ => rfl)) (pe_ix ix_tup (pv 1) pe_int (fun _ _ => rfl))) pa_nil))))), ?_⟩
    walk_at "z0"
    walk_at "z"
    refine Z.ixT ha (fr0 f) ?_
    walk_at "z"
    refine Z.ixT hb (fr1 g) ?_
    walk_at "z"
    refine Z.iC (mul_ok Bf.1 Bg.2) ?_
    walk_at "z"
    refine Z.ixT hb (fr0 g) ?_
    walk_at "z"
    refine Z.ixT ha (fr1 f) ?_
    walk_at "z"
    refine Z.iC (mul_ok Bg.1 Bf.2) ?_
    walk_at "z"
    refine Z.ixT ha (fr1 f) ?_
    walk_at "z"
    refine Z.ixT hb (fr1 g) ?_
    walk_at "z"
    refine Z.iC (mul_ok Bf.2 Bg.2) ?_
    walk_at "z"
    exact ⟨_, _, rfl, up_B (mul_B Bf.2 Bg.2) (by decide), fun z => absurd z (Int.mul_ne_zero hf hg), fun _ H' c nc k e => q _ _ nc k e⟩
theorem ok_times {P : Program} {w : World} {K : PySem.W.Frag} {mg : Str → Option Value} {base : Heap} (T : T P K mg) : FnOk P w K mg base CX0 4 T.a_times T.fd_times ["a", "b"] (spF2 K ftimes) := by
  refine T.F_times.ok sc_times (fun vs H Q E h => ?_) (fun cdv A outer s H vs Q E hr h => ?_)
  · obtain ⟨a, b, f, g, rfl, _⟩ := h
    rfl
  · obtain ⟨a, b, f, g, rfl, ha, hb, hf, hg, Bf, Bg, q⟩ := h
    refine ⟨_, (pss_one (ps_ret (pe_call (ok_lowest T) (hr.mono (by decide)) (by rfl) T.g_lowest T.F_lowest.kp T.b_lowest .nil passL (pa_cons (pe_op op_mulW (pe_ix ix_tup (pv 0) pe_int (fun _ _ => rfl)) (pe_ix ix_tup (pv 1) pe_int (fun _ _ => rfl))) (pa_cons (pe_op op_mulW (pe_ix ix_tup (pv 0) pe_int (fun _ _ => rfl)) (pe_ix ix_tup (pv 1) pe_int (fun _ _ => rfl))) pa_nil))))), ?_⟩
    walk_at "z0"
    walk_at "z"
    refine Z.ixT ha (fr0 f) ?_
    walk_at "z"
    refine Z.ixT hb (fr0 g) ?_
    walk_at "z"
    refine Z.iC (mul_ok Bf.1 Bg.1) ?_
    walk_at "z"
    refine Z.ixT ha (fr1 f) ?_
    walk_at "z"
    refine Z.ixT hb (fr1 g) ?_
    walk_at "z"
    refine Z.iC (mul_ok Bf.2 Bg.2) ?_
    walk_at "z"
    exact ⟨_, _, rfl, up_B (mul_B Bf.2 Bg.2) (by decide), fun z => absurd z (Int.mul_ne_zero hf hg), fun _ H' c nc k e => q _ _ nc k e⟩
def spOver (K : PySem.W.Frag) (C : Addr) : Sp := fun vs H Q E => ∃ (a b : Addr) (f g : Fr), vs = [.ref a, .ref b] ∧ FrAt K H a f ∧ FrAt K H b g ∧ f.2 ≠ 0 ∧ FrB 3900 f ∧ FrB 3900 g ∧ (g.1 = 0 → E (.ref C) none H) ∧ (g.1 ≠ 0 → ∀ H' c, H c = none → Kp [] H H' → FrAt K H' c (fover f g) → Q (.ref c) H')
theorem ok_over {P : Program} {w : World} {K : PySem.W.Frag} {mg : Str → Option Value} {base : Heap} (T : T P K mg) : FnOk P w K mg base (L2.CX P w) 4 T.a_over T.fd_over ["a", "b"] (spOver K T.C_ZeroDenominator) := by
  refine T.F_over.okX sc_over (fun vs H Q E h => ?_) (fun cdv A outer s H vs Q E hr h => ?_)
  · obtain ⟨a, b, f, g, rfl, _⟩ := h
    rfl
  · obtain ⟨a, b, f, g, rfl, ha, hb, hf, Bf, Bg, q0, q1⟩ := h
    refine ⟨_, (pss_one (ps_ret (pe_call (ok_lowest T) (hr.mono (by decide)) (by rfl) T.g_lowest T.F_lowest.kp T.b_lowest .nil (passes_call (takes_of rfl rfl rfl rfl) (fun _ _ _ _ h => h)) (pa_cons (pe_op op_mulW (pe_ix ix_tup (pv 0) pe_int (fun _ _ => rfl)) (pe_ix ix_tup (pv 1) pe_int (fun _ _ => rfl))) (pa_cons (pe_op op_mulW (pe_ix ix_tup (pv 0) pe_int (fun _ _ => rfl)) (pe_ix ix_tup (pv 1) pe_int (fun _ _ => rfl))) pa_nil))))), ?_⟩
    walk_at "z0"
    walk_at "z"
    refine Z.ixT ha (fr0 f) ?_
    walk_at "z"
    refine Z.ixT hb (fr1 g) ?_
    walk_at "z"
    refine Z.iC (mul_ok Bf.1 Bg.2) ?_
    walk_at "z"
    refine Z.ixT ha (fr1 f) ?_
    walk_at "z"
    refine Z.ixT hb (fr0 g) ?_
    walk_at "z"
    refine Z.iC (mul_ok Bf.2 Bg.1) ?_
    walk_at "z"
    refine ⟨_, _, rfl, up_B (mul_B Bf.2 Bg.1) (by decide), fun z => ?_, fun z H' c nc k e => ?_⟩
    · rcases Int.mul_eq_zero.mp z with z | z
      · exact absurd z hf
      · exact q0 z
    · exact q1 (fun y => z (by rw [y, Int.mul_zero])) _ _ nc k e
/-- lists of fractions -/
def FrsAt (K : PySem.W.Frag) (H : Hp) (as : List Addr) (fs : List Fr) : Prop := Paired (fun a f => FrAt K H a f) as fs
theorem FrsAt.kp {M : List Addr} {H H' : Hp} {as : List Addr} {fs : List Fr} (h : FrsAt K H as fs) (k : Kp M H H') (n : ∀ x ∈ M, NoTup H x) : FrsAt K H' as fs := by
  induction h with
  | nil => exact .nil
  | cons r t ih => exact .cons (FrAt.kp r k n) ih
theorem FrsAt.kp0 {H H' : Hp} {as : List Addr} {fs : List Fr} (h : FrsAt K H as fs) (k : Kp [] H H') : FrsAt K H' as fs := h.kp k fun _ h => by cases h
theorem FrsAt.kpl {H H' : Hp} {as : List Addr} {fs : List Fr} {l : Addr} {xs : List V} (h : FrsAt K H as fs) (k : Kp [l] H H') (e : H l = some (.lst xs)) : FrsAt K H' as fs := h.kp k fun x hx => by
  rw [List.mem_singleton.mp hx]
  exact NoTup.lst e
theorem FrsAt.get {H : Hp} : ∀ {as : List Addr} {fs : List Fr} {i : Nat} {v : V}, FrsAt K H as fs → (as.map V.ref)[i]? = some v → ∃ a f, v = .ref a ∧ fs[i]? = some f ∧ FrAt K H a f
  | _, _, i, v, .nil, h => by simp at h
  | _, _, 0, v, .cons r t, h => by
    simp at h
    exact ⟨_, _, h.symm, rfl, r⟩
  | _, _, i + 1, v, .cons r t, h => by
    obtain ⟨a, f, e1, e2, e3⟩ := FrsAt.get (i := i) t (by simpa using h)
    exact ⟨a, f, e1, by simpa using e2, e3⟩
theorem FrsAt.len {H : Hp} {as : List Addr} {fs : List Fr} (h : FrsAt K H as fs) : as.length = fs.length := Paired.length h
theorem FrsAt.snoc {H : Hp} {as : List Addr} {fs : List Fr} {a : Addr} {f : Fr} (h : FrsAt K H as fs) (r : FrAt K H a f) : FrsAt K H (as ++ [a]) (fs ++ [f]) := by
  induction h with
  | nil => exact .cons r .nil
  | cons r t ih => exact .cons r ih
theorem FrsAt.app {H : Hp} {as bs : List Addr} {fs gs : List Fr} (h : FrsAt K H as fs) (r : FrsAt K H bs gs) : FrsAt K H (as ++ bs) (fs ++ gs) := by
  induction h with
  | nil => exact r
  | cons r t ih => exact .cons r ih
theorem FrsAt.take {H : Hp} : ∀ {as : List Addr} {fs : List Fr} (i : Nat), FrsAt K H as fs → FrsAt K H (as.take i) (fs.take i)
  | _, _, 0, _ => by rw [List.take_zero, List.take_zero]; exact .nil
  | _, _, i + 1, .nil => by rw [List.take_nil, List.take_nil]; exact .nil
  | _, _, i + 1, .cons r t => .cons r (FrsAt.take i t)
theorem FrsAt.drop {H : Hp} : ∀ {as : List Addr} {fs : List Fr} (i : Nat), FrsAt K H as fs → FrsAt K H (as.drop i) (fs.drop i)
  | _, _, 0, h => h
  | _, _, i + 1, .nil => by rw [List.drop_nil, List.drop_nil]; exact .nil
  | _, _, i + 1, .cons r t => FrsAt.drop i t
/-- data -/
def frD (f : Fr) : PyData := .tuple [.int f.1, .int f.2]
theorem dpF {H : Hp} {a : Addr} {f : Fr} (h : FrAt K H a f) : Dp K H (.ref a) (frD f) := .tup h (.cons (.int _) (.cons (.int _) .nil))
theorem frD_sh (f : Fr) : SeqAt.shaped (frD f) = true := by
  simp [frD, SeqAt.shaped, PyData.canLay0, PyData.canLayAll0, PyData.depth, PyData.depthAll]
theorem frD_eq (f : Fr) : PyData.eqv (frD f) (frD f) = true := SeqAt.eqv_refl _ (by simp [frD, PyData.canLay0, PyData.canLayAll0])
theorem neFF {K : PySem.W.Frag} {H : Hp} {Q : VK} {a b : Addr} {f : Fr} (h1 : FrAt K H a f) (h2 : FrAt K H b f) (q : Q (.bl false) H) : rNeD K (.ref a) (.ref b) H Q :=
  ⟨_, _, dpF h1, dpF h2, frD_sh _, frD_sh _, by rw [frD_eq]; exact q⟩
theorem dpFs {K : PySem.W.Frag} {H : Hp} : ∀ {as : List Addr} {fs : List Fr}, FrsAt K H as fs → DpAll K H (as.map V.ref) (fs.map frD)
  | _, _, .nil => .nil
  | _, _, .cons r t => .cons (dpF r) (dpFs t)
theorem layFs : ∀ fs : List Fr, PyData.canLayAll0 (fs.map frD) = true
  | [] => by simp [PyData.canLayAll0]
  | f :: r => by simp [PyData.canLayAll0, frD, PyData.canLay0, layFs r]
theorem depthFs : ∀ fs : List Fr, PyData.depthAll (fs.map frD) ≤ 1
  | [] => by simp [PyData.depthAll]
  | f :: r => by
    have := depthFs r
    simp [PyData.depthAll, frD, PyData.depth]
    exact Nat.max_le.mpr ⟨by omega, this⟩
theorem shFs (fs : List Fr) : SeqAt.shaped (.list (fs.map frD)) = true := by
  have := depthFs fs
  simp only [SeqAt.shaped, PyData.canLay0, PyData.depth, layFs, Bool.true_and]
  exact decide_eq_true (by omega)
theorem neFL {K : PySem.W.Frag} {H : Hp} {Q : VK} {a b : Addr} {as : List Addr} {fs : List Fr} (h1 : H a = some (.lst (as.map V.ref))) (h2 : H b = some (.lst (as.map V.ref))) (h : FrsAt K H as fs) (q : Q (.bl false) H) : rNeD K (.ref a) (.ref b) H Q :=
  ⟨_, _, .lst (lstL h1) (dpFs h), .lst (lstL h2) (dpFs h), shFs _, shFs _, by rw [SeqAt.eqv_refl (.list (fs.map frD)) (by simp [PyData.canLay0, layFs])]; exact q⟩
end frac
/-- sums, from the left -/
def fsum (t : Fr) (fs : List Fr) : Fr := fs.foldl fplus t
theorem fsum_B : ∀ {fs : List Fr} {t : Fr} {n m : Nat}, FrB n t → t.2 ≠ 0 → (∀ f ∈ fs, FrB m f ∧ f.2 ≠ 0) → FrB (n + fs.length * (m + 1)) (fsum t fs) ∧ (fsum t fs).2 ≠ 0
  | [], t, n, m, h, h0, _ => by
    refine ⟨?_, h0⟩
    show FrB (n + 0 * (m + 1)) t
    rw [Nat.zero_mul]
    exact h
  | f :: r, t, n, m, h, h0, hf => by
    have h1 := hf f (by simp)
    have hp := fplus_pos h0 h1.2
    have ih := fsum_B (fs := r) (t := fplus t f) (n := n + m + 1) (m := m) (fplus_B h h1.1 h0 h1.2) (by omega) fun g hg => hf g (by simp [hg])
    refine ⟨?_, ih.2⟩
    have e : n + (f :: r).length * (m + 1) = n + m + 1 + r.length * (m + 1) := by
      rw [List.length_cons, Nat.add_mul]
      omega
    rw [e]
    exact ih.1
theorem fsum_take {t : Fr} {fs : List Fr} {i : Nat} {f : Fr} (h : fs[i]? = some f) : fsum t (fs.take (i + 1)) = fplus (fsum t (fs.take i)) f := by
  unfold fsum
  rw [List.take_add_one, h, List.foldl_append]
  rfl
def spSumOf (K : PySem.W.Frag) (m k : Nat) : Sp := fun vs H Q _ => ∃ (a : Addr) (as : List Addr) (fs : List Fr), vs = [.ref a] ∧ SqL K H a (as.map V.ref) ∧ FrsAt K H as fs ∧ (∀ f ∈ fs, FrB m f ∧ f.2 ≠ 0) ∧ fs.length ≤ k ∧ ∀ H' c, Kp [] H H' → FrAt K H' c (fsum (0, 1) fs) → Q (.ref c) H'
theorem ok_sum_of_any {P : Program} {w : World} {K : PySem.W.Frag} {mg : Str → Option Value} {base : Heap} (T : T P K mg) (m k : Nat) (hm : m ≤ 3900) (hk : 1 + k * (m + 1) ≤ 3900) : FnOk P w K mg base CX0 5 T.a_sum_of T.fd_sum_of ["fractions"] (spSumOf K m k) := by
  refine T.F_sum_of.ok sc_sum_of (fun vs H Q E h => ?_) (fun cdv A outer s H vs Q E hr h => ?_)
  · obtain ⟨a, as, fs, rfl, _⟩ := h
    rfl
  · obtain ⟨a, as, fs, rfl, hS, hF, hB, hl, q⟩ := h
    refine ⟨_, (pss_cons (ps_set (i := 1) sc_sum_of.nd rfl (by first | exact Or.inl rfl | exact Or.inr rfl) (pe_glob (v := .ref T.k_ZERO) (by rfl) T.g_ZERO rfl))
      (pss_cons (ps_for PassesOwn.never rfl (pi_list (pv 0)) (pg_name (i := 2) sc_sum_of.nd rfl (by first | exact Or.inl rfl | exact Or.inr rfl)) (pss_one (ps_set (i := 1) sc_sum_of.nd rfl (by first | exact Or.inl rfl | exact Or.inr rfl) (pe_call (ok_plus T) (hr.mono (by decide)) (by rfl) T.g_plus T.F_plus.kp T.b_plus .nil pass0 (pa_cons (pv 1) (pa_cons (pv 2) pa_nil))))))
      (pss_one (ps_ret (pv 1))))), ?_⟩
    walk_at "z0"
    walk_at "z"
    refine Z.forl (as.map V.ref) hS (fun i σ' H' => ∃ c y, σ' = [some (.ref a), some (.ref c), y] ∧ Kp [] H H' ∧ FrAt K H' c (fsum (0, 1) (fs.take i))) ?_ ?_ ?_ ?_
    · exact ⟨T.k_ZERO, none, rfl, Kp.refl _, T.q_ZERO H⟩
    · rintro i σ' H' _ ⟨c, y, rfl, k2, _⟩
      exact k2.seq nin0 hS
    · rintro i v σ' H' hv ⟨c, y, rfl, k2, e2⟩
      obtain ⟨x, f, rfl, hf, hx⟩ := (hF.kp0 k2).get hv
      have hfB := hB f (List.mem_of_getElem? hf)
      have hB1 := fsum_B (fs := fs.take i) (t := (0, 1)) (n := 1) (m := m) ⟨by decide, by decide⟩ (by decide) fun g hg => hB g (List.mem_of_mem_take hg)
      have hle : 1 + (fs.take i).length * (m + 1) ≤ 3900 := Nat.le_trans (Nat.add_le_add_left (Nat.mul_le_mul_right _ (Nat.le_trans (by rw [List.length_take]; exact Nat.min_le_right _ _) hl)) 1) hk
      walk_at "z"
      refine ⟨c, x, _, f, rfl, e2, hx, hB1.2, hfB.2, hB1.1.mono hle, hfB.1.mono hm, fun H3 d nd k3 e3 => ?_⟩
      walk_at "z"
      exact ⟨d, _, rfl, k2.trans k3, by rw [fsum_take hf]; exact e3⟩
    · rintro σ' H' ⟨c, y, rfl, k2, e2⟩
      walk_at "z"
      rw [List.length_map, hF.len, List.take_length] at e2
      exact q _ _ k2 e2

/-! ### fractions as rational numbers -/
def rv (f : Int × Int) : Rat := (f.1 : Rat) / (f.2 : Rat)
theorem ratNe {q : Int} (h : q ≠ 0) : (q : Rat) ≠ 0 := fun z => h (by exact_mod_cast z)
theorem ratPos {q : Int} (h : 0 < q) : (0 : Rat) < (q : Rat) := by exact_mod_cast h
theorem div_eqR {a b c : Rat} (h : b ≠ 0) : a / b = c ↔ a = c * b := by
  constructor
  · rintro rfl
    rw [Rat.div_mul_cancel h]
  · rintro rfl
    rw [Rat.mul_div_cancel h]
theorem rv_lo {p q : Int} (h : q ≠ 0) : rv (lo p q) = (p : Rat) / (q : Rat) := by
  obtain ⟨a, b, e, h1, h2, h3, h4⟩ := lo_spec (p := p) h
  rw [e]
  have hb : (b : Rat) ≠ 0 := ratNe (by omega)
  have hg : (gI p q : Rat) ≠ 0 := ratNe (gI_ne h)
  have hq : (q : Rat) = (gI p q : Rat) * (b : Rat) := by exact_mod_cast h4
  have hp : (p : Rat) = (gI p q : Rat) * (a : Rat) := by exact_mod_cast h3
  show (a : Rat) / (b : Rat) = (p : Rat) / (q : Rat)
  rw [hp, hq]
  grind

/-- a fraction in lowest terms -/
def Low (f : Int × Int) : Prop := 1 ≤ f.2 ∧ Nat.gcd f.1.natAbs f.2.natAbs = 1
theorem lo_low {p q : Int} (h : q ≠ 0) : Low (lo p q) := ⟨lo_pos h, lo_cop h⟩
theorem Low.ne {f : Int × Int} (h : Low f) : f.2 ≠ 0 := by have := h.1; omega
theorem Low.pos {f : Int × Int} (h : Low f) : (0 : Rat) < (f.2 : Rat) := ratPos (by have := h.1; omega)
theorem rv_eqI {f g : Int × Int} (h1 : f.2 ≠ 0) (h2 : g.2 ≠ 0) : rv f = rv g ↔ f.1 * g.2 = g.1 * f.2 := by
  have a1 := ratNe h1
  have a2 := ratNe h2
  unfold rv
  constructor
  · intro h
    have h3 : (f.1 : Rat) * (g.2 : Rat) = (g.1 : Rat) * (f.2 : Rat) := by grind
    exact_mod_cast h3
  · intro h
    have h3 : (f.1 : Rat) * (g.2 : Rat) = (g.1 : Rat) * (f.2 : Rat) := by exact_mod_cast h
    grind
theorem low_eq {f g : Int × Int} (h1 : Low f) (h2 : Low g) (h : rv f = rv g) : f = g := by
  have h3 := (rv_eqI h1.ne h2.ne).mp h
  obtain ⟨a, b⟩ := f
  obtain ⟨c, d⟩ := g
  obtain ⟨hb, h1⟩ := h1
  obtain ⟨hd, h2⟩ := h2
  dsimp only at *
  have e1 : a.natAbs * d.natAbs = c.natAbs * b.natAbs := by rw [← Int.natAbs_mul, ← Int.natAbs_mul, h3]
  have d1 : b.natAbs ∣ d.natAbs := by
    have : b.natAbs ∣ a.natAbs * d.natAbs := ⟨c.natAbs, by rw [e1, Nat.mul_comm]⟩
    exact Nat.Coprime.dvd_of_dvd_mul_left (Nat.Coprime.symm h1) this
  have d2 : d.natAbs ∣ b.natAbs := by
    have : d.natAbs ∣ c.natAbs * b.natAbs := ⟨a.natAbs, by rw [← e1, Nat.mul_comm]⟩
    exact Nat.Coprime.dvd_of_dvd_mul_left (Nat.Coprime.symm h2) this
  have e2 := Nat.dvd_antisymm d1 d2
  have e3 : b = d := by omega
  subst e3
  have e4 : a = c := Int.eq_of_mul_eq_mul_right (by omega) h3
  rw [e4]
theorem rv_lt {f g : Int × Int} (h1 : 1 ≤ f.2) (h2 : 1 ≤ g.2) : f.1 * g.2 < g.1 * f.2 ↔ rv f < rv g := by
  have a1 : (0 : Rat) < (f.2 : Rat) := ratPos (by omega)
  have a2 : (0 : Rat) < (g.2 : Rat) := ratPos (by omega)
  have e1 : (f.1 : Rat) = rv f * (f.2 : Rat) := by unfold rv; rw [Rat.div_mul_cancel (ratNe (by omega))]
  have e2 : (g.1 : Rat) = rv g * (g.2 : Rat) := by unfold rv; rw [Rat.div_mul_cancel (ratNe (by omega))]
  have hp : (0 : Rat) < (f.2 : Rat) * (g.2 : Rat) := Rat.mul_pos a1 a2
  have k : f.1 * g.2 < g.1 * f.2 ↔ (f.1 : Rat) * (g.2 : Rat) < (g.1 : Rat) * (f.2 : Rat) := by
    constructor
    · intro h; exact_mod_cast h
    · intro h; exact_mod_cast h
  rw [k, e1, e2]
  have e3 : rv f * (f.2 : Rat) * (g.2 : Rat) = rv f * ((f.2 : Rat) * (g.2 : Rat)) := by grind
  have e4 : rv g * (g.2 : Rat) * (f.2 : Rat) = rv g * ((f.2 : Rat) * (g.2 : Rat)) := by grind
  rw [e3, e4]
  constructor
  · intro h
    by_cases z : rv f < rv g
    · exact z
    · by_cases z2 : rv f = rv g
      · rw [z2] at h; exact absurd h (Rat.lt_irrefl)
      · have z3 : rv g < rv f := by grind
        have := Rat.mul_lt_mul_of_pos_right z3 hp
        grind
  · intro h
    exact Rat.mul_lt_mul_of_pos_right h hp
theorem rv_pos {f : Int × Int} (h1 : 1 ≤ f.2) : 0 < f.1 ↔ 0 < rv f := by
  have := rv_lt (f := (0, 1)) (g := f) (by decide) h1
  have e : rv (0, 1) = 0 := by unfold rv; grind
  rw [e] at this
  rw [← this]
  show _ ↔ 0 * f.2 < f.1 * 1
  rw [Int.zero_mul, Int.mul_one]
theorem rv_int (n : Int) : rv (n, 1) = (n : Rat) := by unfold rv; grind

/-! ### the law's own fractions -/
def spLow (K : PySem.W.Frag) : Sp := fun vs H Q _ => ∃ p q : Int, vs = [.int p, .int q] ∧ 1 ≤ q ∧ q.natAbs < 2 ^ 1900 ∧ ∀ H' b, H b = none → Kp [] H H' → FrAt K H' b (lo p q) → Q (.ref b) H'
theorem abs_if (i : Int) : (if i < 0 then -i else i) = (i.natAbs : Int) := by
  split <;> omega
theorem euc_4000 {p : Nat × Nat} (h : p.2 < 2 ^ 1900) : (euc 4000 p).2 = 0 := by
  rw [show (4000 : Nat) = 2 * 1900 + 200 from rfl, euc_add, euc_zero 200 (euc_end 1900 p h)]
  exact euc_end 1900 p h
theorem gI_pos {p q : Int} (h : 1 ≤ q) : gI p q = (gN p q : Int) := by
  unfold gI
  rw [if_neg (by omega)]

theorem ok__law_low {P : Program} {w : World} {K : PySem.W.Frag} {mg : Str → Option Value} {base : Heap} (T : T P K mg) : FnOk P w K mg base CX0 1 T.a__law_low T.fd__law_low ["p", "q"] (spLow K) := by
  refine T.F__law_low.ok sc__law_low (fun vs H Q E h => ?_) (fun cdv A outer s H vs Q E hr h => ?_)
  · obtain ⟨p, q, rfl, _⟩ := h
    rfl
  · obtain ⟨p, q, rfl, hq, hb, q1⟩ := h
    have hg := gI_ne (p := p) (q := q) (by omega)
    have hdv : Z.CDivA p (gI p q) := Z.divA (b := 1900) hg (by rw [gI_abs]; exact Nat.lt_of_le_of_lt (gN_le (by omega)) hb) (by decide) (by decide)
    have hdv2 : Z.CDivA q (gI p q) := hdv
    have eq : q = (q.natAbs : Int) := by omega
    refine ⟨_, (pss_cons (ps_par (i := 2) (j := 3) rfl sc__law_low.nd rfl rfl (by decide) rfl rfl (pa_cons (pe_callB c_abs (by rfl) T.z_abs (by decide +kernel) (pa_cons (pv 0) pa_nil)) (pa_cons (pv 1) pa_nil)) (by rfl))
      (Z.pss_consJ (ps_for PassesOwn.never rfl (pi_range1 (by rfl) T.z_range (pa_cons pe_int pa_nil)) (pg_name (i := 4) sc__law_low.nd rfl (by first | exact Or.inl rfl | exact Or.inr rfl)) (pss_cons (ps_if (pt_cmpR op_eq (pv 3) pe_int (nomark _)) (pss_one ps_break) pss_nil)
      (pss_one (ps_par (i := 2) (j := 3) rfl sc__law_low.nd rfl rfl (by decide) rfl rfl (pa_cons (pv 3) (pa_cons (pe_op op_mod (pe_callTy c_int (by rfl) T.z_int (by decide +kernel) (pa_cons (pv 2) pa_nil)) (pv 3)) pa_nil)) (by rfl)))))
      (pss_one (ps_ret (pe_tup (pa_cons (pe_op Z.op_fdivA (pv 0) (pv 2)) (pa_cons (pe_op Z.op_fdivA (pv 1) (pv 2)) pa_nil))))))), ?_⟩
    walk_at "z0"
    walk_at "z"
    rw [abs_if]
    refine Z.seqJ (fun σ' H' => ∃ y z : Option V, σ' = [some (.int p), some (.int q), some (.int (gI p q)), y, z] ∧ H' = H) ?_ ?_
    · rintro σ' H' ⟨y, z, rfl, rfl⟩
      walk_at "z"
      refine Z.iC hdv ?_
      walk_at "z"
      refine Z.iC hdv2 ?_
      refine Z.tupK (fun b H1 nb k1 e1 => ?_)
      exact q1 _ _ nb k1 (tupT e1)
    · intro N jn
      walk_at "z"
      refine Z.forr 4000 ?_ (by decide) (fun i σ' H' => ∃ z : Option V, σ' = [some (.int p), some (.int q), some (.int ((euc i (p.natAbs, q.natAbs)).1 : Int)), some (.int ((euc i (p.natAbs, q.natAbs)).2 : Int)), z] ∧ H' = H) ?_ ?_ ?_
      · rfl
      · refine ⟨none, ?_, rfl⟩
        show _ = [some (V.int p), some (V.int q), some (V.int (p.natAbs : Int)), some (V.int (q.natAbs : Int)), none]
        rw [← eq]
      · rintro i σ' H' hi ⟨z, rfl, rfl⟩
        walk_at "z"
        refine Z.ite (fun h2 => ?_) (fun h2 => ?_)
        · walk_at "z"
          have h0 : (euc i (p.natAbs, q.natAbs)).2 = 0 := by omega
          have eg := euc_gcd i (p.natAbs, q.natAbs)
          rw [h0, Nat.gcd_zero_right] at eg
          have eg2 : (((euc i (p.natAbs, q.natAbs)).1 : Nat) : Int) = gI p q := by rw [eg]; exact (gI_pos hq).symm
          rw [eg2]
          exact jn _ _ ⟨_, _, rfl, rfl⟩
        · walk_at "z"
          refine Z.iC (by omega) ?_
          walk_at "z"
          have es : euc (i + 1) (p.natAbs, q.natAbs) = ((euc i (p.natAbs, q.natAbs)).2, (euc i (p.natAbs, q.natAbs)).1 % (euc i (p.natAbs, q.natAbs)).2) := by
            rw [euc_succ]
            exact if_neg (by omega)
          refine ⟨some (.int (i : Int)), ?_, rfl⟩
          rw [es]
          rfl
      · rintro σ' H' ⟨z, rfl, rfl⟩
        have h0 := euc_4000 (p := (p.natAbs, q.natAbs)) hb
        have eg := euc_gcd 4000 (p.natAbs, q.natAbs)
        rw [h0, Nat.gcd_zero_right] at eg
        have eg2 : (((euc 4000 (p.natAbs, q.natAbs)).1 : Nat) : Int) = gI p q := by rw [eg]; exact (gI_pos hq).symm
        walk_at "z"
        rw [eg2]
        exact jn _ _ ⟨_, _, rfl, rfl⟩

/-- two fractions in, a fraction out; smaller ones -/
def spG2 (K : PySem.W.Frag) (o : Fr → Fr → Fr) : Sp := fun vs H Q _ => ∃ (a b : Addr) (f g : Fr), vs = [.ref a, .ref b] ∧ FrAt K H a f ∧ FrAt K H b g ∧ 1 ≤ f.2 ∧ 1 ≤ g.2 ∧ (∃ n m, FrB n f ∧ FrB m g ∧ n + m ≤ 1900) ∧ ∀ H' c, H c = none → Kp [] H H' → FrAt K H' c (o f g) → Q (.ref c) H'
theorem ok__law_plus {P : Program} {w : World} {K : PySem.W.Frag} {mg : Str → Option Value} {base : Heap} (T : T P K mg) : FnOk P w K mg base CX0 2 T.a__law_plus T.fd__law_plus ["one", "other"] (spG2 K fplus) := by
  refine T.F__law_plus.ok sc__law_plus (fun vs H Q E h => ?_) (fun cdv A outer s H vs Q E hr h => ?_)
  · obtain ⟨a, b, f, g, rfl, _⟩ := h
    rfl
  · obtain ⟨a, b, f, g, rfl, ha, hb, hf, hg, ⟨n, m, Bf0, Bg0, hnm⟩, q⟩ := h
    have Bf : FrB 1900 f := Bf0.mono (by omega)
    have Bg : FrB 1900 g := Bg0.mono (by omega)
    refine ⟨_, (pss_one (ps_ret (pe_call (ok__law_low T) (hr.mono (by decide)) (by rfl) T.g__law_low T.F__law_low.kp T.b__law_low .nil pass0 (pa_cons (pe_op op_add (pe_op op_mulW (pe_ix ix_tup (pv 0) pe_int (fun _ _ => rfl)) (pe_ix ix_tup (pv 1) pe_int (fun _ _ => rfl))) (pe_op op_mulW (pe_ix ix_tup (pv 1) pe_int (fun _ _ => rfl)) (pe_ix ix_tup (pv 0) pe_int (fun _ _ => rfl)))) (pa_cons (pe_op op_mulW (pe_ix ix_tup (pv 0) pe_int (fun _ _ => rfl)) (pe_ix ix_tup (pv 1) pe_int (fun _ _ => rfl))) pa_nil))))), ?_⟩
    walk_at "z0"
    walk_at "z"
    refine Z.ixT ha (fr0 f) ?_
    walk_at "z"
    refine Z.ixT hb (fr1 g) ?_
    walk_at "z"
    refine Z.iC (mul_ok Bf.1 Bg.2) ?_
    walk_at "z"
    refine Z.ixT hb (fr0 g) ?_
    walk_at "z"
    refine Z.ixT ha (fr1 f) ?_
    walk_at "z"
    refine Z.iC (mul_ok Bg.1 Bf.2) ?_
    walk_at "z"
    refine Z.ixT ha (fr1 f) ?_
    walk_at "z"
    refine Z.ixT hb (fr1 g) ?_
    walk_at "z"
    refine Z.iC (mul_ok Bf.2 Bg.2) ?_
    walk_at "z"
    have h0 := Int.mul_pos (show 0 < f.2 by omega) (show 0 < g.2 by omega)
    exact ⟨_, _, rfl, by omega, up_B (mul_B Bf0.2 Bg0.2) hnm, fun H' c nc k e => q _ _ nc k e⟩
theorem ok__law_times {P : Program} {w : World} {K : PySem.W.Frag} {mg : Str → Option Value} {base : Heap} (T : T P K mg) : FnOk P w K mg base CX0 2 T.a__law_times T.fd__law_times ["one", "other"] (spG2 K ftimes) := by
  refine T.F__law_times.ok sc__law_times (fun vs H Q E h => ?_) (fun cdv A outer s H vs Q E hr h => ?_)
  · obtain ⟨a, b, f, g, rfl, _⟩ := h
    rfl
  · obtain ⟨a, b, f, g, rfl, ha, hb, hf, hg, ⟨n, m, Bf0, Bg0, hnm⟩, q⟩ := h
    have Bf : FrB 1900 f := Bf0.mono (by omega)
    have Bg : FrB 1900 g := Bg0.mono (by omega)
    refine ⟨_, (pss_one (ps_ret (pe_call (ok__law_low T) (hr.mono (by decide)) (by rfl) T.g__law_low T.F__law_low.kp T.b__law_low .nil pass0 (pa_cons (pe_op op_mulW (pe_ix ix_tup (pv 0) pe_int (fun _ _ => rfl)) (pe_ix ix_tup (pv 1) pe_int (fun _ _ => rfl))) (pa_cons (pe_op op_mulW (pe_ix ix_tup (pv 0) pe_int (fun _ _ => rfl)) (pe_ix ix_tup (pv 1) pe_int (fun _ _ => rfl))) pa_nil))))), ?_⟩
    walk_at "z0"
    walk_at "z"
    refine Z.ixT ha (fr0 f) ?_
    walk_at "z"
    refine Z.ixT hb (fr0 g) ?_
    walk_at "z"
    refine Z.iC (mul_ok Bf.1 Bg.1) ?_
    walk_at "z"
    refine Z.ixT ha (fr1 f) ?_
    walk_at "z"
    refine Z.ixT hb (fr1 g) ?_
    walk_at "z"
    refine Z.iC (mul_ok Bf.2 Bg.2) ?_
    walk_at "z"
    have h0 := Int.mul_pos (show 0 < f.2 by omega) (show 0 < g.2 by omega)
    exact ⟨_, _, rfl, by omega, up_B (mul_B Bf0.2 Bg0.2) hnm, fun H' c nc k e => q _ _ nc k e⟩

theorem ok__law_minus {P : Program} {w : World} {K : PySem.W.Frag} {mg : Str → Option Value} {base : Heap} (T : T P K mg) : FnOk P w K mg base CX0 2 T.a__law_minus T.fd__law_minus ["one", "other"] (spG2 K fminus) := by
  refine T.F__law_minus.ok sc__law_minus (fun vs H Q E h => ?_) (fun cdv A outer s H vs Q E hr h => ?_)
  · obtain ⟨a, b, f, g, rfl, _⟩ := h
    rfl
  · obtain ⟨a, b, f, g, rfl, ha, hb, hf, hg, ⟨n, m, Bf0, Bg0, hnm⟩, q⟩ := h
    have Bf : FrB 1900 f := Bf0.mono (by omega)
    have Bg : FrB 1900 g := Bg0.mono (by omega)
    refine ⟨_, (pss_one (ps_ret (pe_call (ok__law_low T) (hr.mono (by decide)) (by rfl) T.g__law_low T.F__law_low.kp T.b__law_low .nil pass0 (pa_cons (pe_op op_sub (pe_op op_mulW (pe_ix ix_tup (pv 0) pe_int (fun _ _ => rfl)) (pe_ix ix_tup (pv 1) pe_int (fun _ _ => rfl))) (pe_op op_mulW (pe_ix ix_tup (pv 1) pe_int (fun _ _ => rfl)) (pe_ix ix_tup (pv 0) pe_int (fun _ _ => rfl)))) (pa_cons (pe_op op_mulW (pe_ix ix_tup (pv 0) pe_int (fun _ _ => rfl)) (pe_ix ix_tup (pv 1) pe_int (fun _ _ => rfl))) pa_nil))))), ?_⟩
    walk_at "z0"
    walk_at "z"
    refine Z.ixT ha (fr0 f) ?_
    walk_at "z"
    refine Z.ixT hb (fr1 g) ?_
    walk_at "z"
    refine Z.iC (mul_ok Bf.1 Bg.2) ?_
    walk_at "z"
    refine Z.ixT hb (fr0 g) ?_
    walk_at "z"
    refine Z.ixT ha (fr1 f) ?_
    walk_at "z"
    refine Z.iC (mul_ok Bg.1 Bf.2) ?_
    walk_at "z"
    refine Z.ixT ha (fr1 f) ?_
    walk_at "z"
    refine Z.ixT hb (fr1 g) ?_
    walk_at "z"
    refine Z.iC (mul_ok Bf.2 Bg.2) ?_
    walk_at "z"
    have h0 := Int.mul_pos (show 0 < f.2 by omega) (show 0 < g.2 by omega)
    exact ⟨_, _, rfl, by omega, up_B (mul_B Bf0.2 Bg0.2) hnm, fun H' c nc k e => q _ _ nc k e⟩

theorem low_zero : Low (0, 1) := ⟨by decide, by decide⟩
theorem rv_zero : rv (0, 1) = 0 := by unfold rv; grind

/-! ### calculations with fractions, as rational numbers -/
theorem rv_fplus {f g : Fr} (h1 : f.2 ≠ 0) (h2 : g.2 ≠ 0) : rv (fplus f g) = rv f + rv g := by
  unfold fplus
  rw [rv_lo (Int.mul_ne_zero h1 h2)]
  have a1 := ratNe h1
  have a2 := ratNe h2
  have e1 : ((f.1 * g.2 + g.1 * f.2 : Int) : Rat) = (f.1 : Rat) * (g.2 : Rat) + (g.1 : Rat) * (f.2 : Rat) := by exact_mod_cast rfl
  have e2 : ((f.2 * g.2 : Int) : Rat) = (f.2 : Rat) * (g.2 : Rat) := by exact_mod_cast rfl
  rw [e1, e2]
  unfold rv
  grind
theorem rv_fminus {f g : Fr} (h1 : f.2 ≠ 0) (h2 : g.2 ≠ 0) : rv (fminus f g) = rv f - rv g := by
  unfold fminus
  rw [rv_lo (Int.mul_ne_zero h1 h2)]
  have a1 := ratNe h1
  have a2 := ratNe h2
  have e1 : ((f.1 * g.2 - g.1 * f.2 : Int) : Rat) = (f.1 : Rat) * (g.2 : Rat) - (g.1 : Rat) * (f.2 : Rat) := by exact_mod_cast rfl
  have e2 : ((f.2 * g.2 : Int) : Rat) = (f.2 : Rat) * (g.2 : Rat) := by exact_mod_cast rfl
  rw [e1, e2]
  unfold rv
  grind
theorem rv_ftimes {f g : Fr} (h1 : f.2 ≠ 0) (h2 : g.2 ≠ 0) : rv (ftimes f g) = rv f * rv g := by
  unfold ftimes
  rw [rv_lo (Int.mul_ne_zero h1 h2)]
  have a1 := ratNe h1
  have a2 := ratNe h2
  have e1 : ((f.1 * g.1 : Int) : Rat) = (f.1 : Rat) * (g.1 : Rat) := by exact_mod_cast rfl
  have e2 : ((f.2 * g.2 : Int) : Rat) = (f.2 : Rat) * (g.2 : Rat) := by exact_mod_cast rfl
  rw [e1, e2]
  unfold rv
  grind
theorem fless_iff {f g : Fr} (h1 : 1 ≤ f.2) (h2 : 1 ≤ g.2) : fless f g = decide (rv f < rv g) := by
  unfold fless
  rw [decide_eq_decide]
  exact rv_lt h1 h2
theorem fplus_low {f g : Fr} (h1 : f.2 ≠ 0) (h2 : g.2 ≠ 0) : Low (fplus f g) := lo_low (Int.mul_ne_zero h1 h2)
theorem rv_fsum : ∀ {fs : List Fr} {t : Fr}, Low t → (∀ f ∈ fs, f.2 ≠ 0) → rv (fsum t fs) = rv t + (fs.map rv).sum ∧ Low (fsum t fs)
  | [], t, h, _ => ⟨by show rv t = rv t + 0; grind, h⟩
  | f :: r, t, h, hf => by
    have h1 := hf f (by simp)
    have ih := rv_fsum (fs := r) (t := fplus t f) (fplus_low h.ne h1) fun g hg => hf g (by simp [hg])
    refine ⟨?_, ih.2⟩
    show rv (fsum (fplus t f) r) = _
    rw [ih.1, rv_fplus h.ne h1, List.map_cons, List.sum_cons]
    grind
theorem eqv_fr (f g : Fr) : PyData.eqv (frD f) (frD g) = decide (f = g) := by
  obtain ⟨a, b⟩ := f
  obtain ⟨c, d⟩ := g
  simp [frD, PyData.eqv, PyData.eqvAll, Prod.ext_iff]
  rfl
theorem eqF {K : PySem.W.Frag} {H : Hp} {Q : VK} {a b : Addr} {f g : Fr} (h1 : FrAt K H a f) (h2 : FrAt K H b g) (q : Q (.bl (decide (f = g))) H) : rEqD K (.ref a) (.ref b) H Q :=
  ⟨_, _, dpF h1, dpF h2, frD_sh _, frD_sh _, by rw [eqv_fr]; exact q⟩
theorem neF {K : PySem.W.Frag} {H : Hp} {Q : VK} {a b : Addr} {f g : Fr} (h1 : FrAt K H a f) (h2 : FrAt K H b g) (q : Q (.bl (!decide (f = g))) H) : rNeD K (.ref a) (.ref b) H Q :=
  ⟨_, _, dpF h1, dpF h2, frD_sh _, frD_sh _, by rw [eqv_fr]; exact q⟩

def spLawSum (K : PySem.W.Frag) (m k : Nat) : Sp := fun vs H Q _ => ∃ (a : Addr) (as : List Addr) (fs : List Fr), vs = [.ref a] ∧ SqL K H a (as.map V.ref) ∧ FrsAt K H as fs ∧ (∀ f ∈ fs, 1 ≤ f.2 ∧ FrB m f) ∧ fs.length ≤ k ∧ ∀ H' c, Kp [] H H' → FrAt K H' c (fsum (0, 1) fs) → Q (.ref c) H'
theorem ok__law_sum_any {P : Program} {w : World} {K : PySem.W.Frag} {mg : Str → Option Value} {base : Heap} (T : T P K mg) (m k : Nat) (hk : k * (m + 1) ≤ 1900) : FnOk P w K mg base CX0 3 T.a__law_sum T.fd__law_sum ["rows"] (spLawSum K m k) := by
  refine T.F__law_sum.ok sc__law_sum (fun vs H Q E h => ?_) (fun cdv A outer s H vs Q E hr h => ?_)
  · obtain ⟨a, as, fs, rfl, _⟩ := h
    rfl
  · obtain ⟨a, as, fs, rfl, hS, hF, hB, hl, q⟩ := h
    refine ⟨_, (pss_cons (ps_set (i := 1) sc__law_sum.nd rfl (by first | exact Or.inl rfl | exact Or.inr rfl) (pe_tup (pa_cons pe_int (pa_cons pe_int pa_nil))))
      (pss_cons (ps_for PassesOwn.never rfl (pi_list (pv 0)) (pg_name (i := 2) sc__law_sum.nd rfl (by first | exact Or.inl rfl | exact Or.inr rfl)) (pss_one (ps_set (i := 1) sc__law_sum.nd rfl (by first | exact Or.inl rfl | exact Or.inr rfl) (pe_call (ok__law_plus T) (hr.mono (by decide)) (by rfl) T.g__law_plus T.F__law_plus.kp T.b__law_plus .nil pass0 (pa_cons (pv 1) (pa_cons (pv 2) pa_nil))))))
      (pss_one (ps_ret (pv 1))))), ?_⟩
    walk_at "z0"
    walk_at "z"
    refine Z.tupK (fun b H1 nb k1 e1 => ?_)
    walk_at "z"
    refine Z.forl (as.map V.ref) (k1.seq nin0 hS) (fun i σ' H' => ∃ c y, σ' = [some (.ref a), some (.ref c), y] ∧ Kp [] H H' ∧ FrAt K H' c (fsum (0, 1) (fs.take i))) ?_ ?_ ?_ ?_
    · exact ⟨b, none, rfl, k1, tupT e1⟩
    · rintro i σ' H' _ ⟨c, y, rfl, k2, _⟩
      exact k2.seq nin0 hS
    · rintro i v σ' H' hv ⟨c, y, rfl, k2, e2⟩
      obtain ⟨x, f, rfl, hf, hx⟩ := (hF.kp0 k2).get hv
      have hfB := hB f (List.mem_of_getElem? hf)
      have hB1 := fsum_B (fs := fs.take i) (t := (0, 1)) (n := 1) (m := m) ⟨by decide, by decide⟩ (by decide) fun g hg => ⟨(hB g (List.mem_of_mem_take hg)).2, by have := (hB g (List.mem_of_mem_take hg)).1; omega⟩
      have hlow := rv_fsum (fs := fs.take i) low_zero fun g hg => by have := (hB g (List.mem_of_mem_take hg)).1; omega
      have hi : i < fs.length := (List.getElem?_eq_some_iff.mp hf).1
      have hle : 1 + (fs.take i).length * (m + 1) + m ≤ 1900 := by
        have h1 : (fs.take i).length + 1 ≤ k := by rw [List.length_take]; omega
        have h2 := Nat.mul_le_mul_right (m + 1) h1
        rw [Nat.add_mul, Nat.one_mul] at h2
        omega
      walk_at "z"
      refine ⟨c, x, _, f, rfl, e2, hx, hlow.2.1, hfB.1, ⟨_, _, hB1.1, hfB.2, hle⟩, fun H3 d nd k3 e3 => ?_⟩
      walk_at "z"
      exact ⟨d, _, rfl, k2.trans k3, by rw [fsum_take hf]; exact e3⟩
    · rintro σ' H' ⟨c, y, rfl, k2, e2⟩
      walk_at "z"
      rw [List.length_map, hF.len, List.take_length] at e2
      exact q _ _ k2 e2

/-- a promise for each of many -/
def spEx {ι : Type} (p : ι → Prop) (sp : ι → Sp) : Sp := fun vs H Q E => ∃ i, p i ∧ sp i vs H Q E
theorem fnEx {ι : Type} {P : Program} {w : World} {K : PySem.W.Frag} {mg : Str → Option Value} {base : Heap} {CX : CXT} {k : Nat} {f : Addr} {fd : FuncData} {ps : List Str} {p : ι → Prop} {sp : ι → Sp} (F : ∀ i, p i → FnOk P w K mg base CX k f fd ps (sp i)) : FnOk P w K mg base CX k f fd ps (spEx p sp) :=
  ⟨fun vs H Q E ⟨i, hi, q⟩ => (F i hi).len vs H Q E q, fun A outer s H args us vs Q E hr he hb hv ⟨i, hi, hs⟩ => (F i hi).run A outer s H args us vs Q E hr he hb hv hs⟩

/-! ### samphire.estimates, for weighted samples -/
def amt (kvs : List (Key × V)) (k : Str) : Int := match valV kvs (.inr k) with | some (.int n) => n | _ => 0
def AmtOk (kvs : List (Key × V)) : Prop := ∀ k v, valV kvs (.inr k) = some v → ∃ n : Int, v = .int n ∧ n.natAbs ≤ 10
theorem amt_le {kvs : List (Key × V)} (h : AmtOk kvs) (k : Str) : (amt kvs k).natAbs ≤ 10 := by
  unfold amt
  cases e : valV kvs (.inr k) with
  | none => decide
  | some v =>
    obtain ⟨n, rfl, hn⟩ := h k v e
    exact hn
def spAmountOf (K : PySem.W.Frag) : Sp := fun vs H Q _ => ∃ (d t : Addr) (kvs : List (Key × V)) (r : Row), vs = [.ref d, .ref t] ∧ H d = some (.dK kvs) ∧ AmtOk kvs ∧ RowAt H t r ∧ Q (.int (amt kvs r.k)) H
theorem getD_amt {kvs : List (Key × V)} (h : AmtOk kvs) (k : Str) : (valV kvs (.inr k)).getD (.int 0) = .int (amt kvs k) := by
  unfold amt
  cases e : valV kvs (.inr k) with
  | none => rfl
  | some v =>
    obtain ⟨n, rfl, hn⟩ := h k v e
    rfl
theorem ok_amount_of {P : Program} {w : World} {K : PySem.W.Frag} {mg : Str → Option Value} {base : Heap} (T : T P K mg) : FnOk P w K mg base CX0 1 T.a_amount_of T.fd_amount_of ["amounts", "item"] (spAmountOf K) := by
  refine T.F_amount_of.ok sc_amount_of (fun vs H Q E h => ?_) (fun cdv A outer s H vs Q E hr h => ?_)
  · obtain ⟨d, t, kvs, r, rfl, _⟩ := h
    rfl
  · obtain ⟨d, t, kvs, r, rfl, hd, ho, ht, q⟩ := h
    refine ⟨_, (pss_one (ps_ret (pe_dget2 (Nat.lt_of_le_of_lt (Nat.add_le_add_left (by decide) _) (hu_of hr)) (pv 0) (pe_ix ix_tup (pv 1) pe_int (fun _ _ => rfl)) pe_int ⟨by rfl, by rfl, by rfl, by rfl⟩))), ?_⟩
    walk_at "z0"
    walk_at "z"
    refine ⟨d, rfl, .inl ⟨kvs, .inl hd⟩, ?_⟩
    walk_at "z"
    refine RowAt.k0 ht ?_
    walk_at "z"
    refine ⟨_, DGet.k (k := .inr r.k) hd, ?_⟩
    rw [getD_amt ho]
    exact q
def amts (kvs : List (Key × V)) (ps : List (Addr × Row)) : List Int := ps.map fun x => amt kvs x.2.k
theorem amts_B {kvs : List (Key × V)} (h : AmtOk kvs) {ps : List (Addr × Row)} : ∀ z ∈ amts kvs ps, z.natAbs ≤ 10 := fun z hz => by
  obtain ⟨x, _, rfl⟩ := List.mem_map.mp hz
  exact amt_le h _
theorem sum_absI {c : Nat} : ∀ {l : List Int}, (∀ x ∈ l, x.natAbs ≤ c) → l.sum.natAbs ≤ c * l.length
  | [], _ => by simp
  | a :: r, h => by
    have h1 := h a (by simp)
    have h2 := sum_absI (c := c) (l := r) fun z hz => h z (by simp [hz])
    rw [List.sum_cons, List.length_cons, Nat.mul_add]
    omega
def spTrueSum (K : PySem.W.Frag) : Sp := fun vs H Q _ => ∃ (l d : Addr) (ps : List (Addr × Row)) (kvs : List (Key × V)), vs = [.ref l, .ref d] ∧ H l = some (.lst (refs ps)) ∧ RowsAt H ps ∧ ps.length ≤ 1000 ∧ H d = some (.dK kvs) ∧ AmtOk kvs ∧ ∀ H', Kp [] H H' → Q (.int (amts kvs ps).sum) H'
theorem ok_true_sum {P : Program} {w : World} {K : PySem.W.Frag} {mg : Str → Option Value} {base : Heap} (T : T P K mg) : FnOk P w K mg base CX0 2 T.a_true_sum T.fd_true_sum ["things", "amounts"] (spTrueSum K) := by
  refine T.F_true_sum.ok sc_true_sum (fun vs H Q E h => ?_) (fun cdv A outer s H vs Q E hr h => ?_)
  · obtain ⟨l, d, ps, kvs, rfl, _⟩ := h
    rfl
  · obtain ⟨l, d, ps, kvs, rfl, hl, hps, hn, hd, ho, q⟩ := h
    refine ⟨_, (pss_one (ps_ret (pe_callB (cr_sum rfl) (by rfl) T.z_sum (by decide +kernel) (pa_cons (pe_lc (own := [("item", 2)]) (g := gName 2) rfl sc_true_sum.nd (pi_list (pv 0)) (blkOk_by (own := [("item", 2)]) (N := N_true_sum) (sc := defScope s_true_sum) (by decide +kernel)) (fun _ _ _ _ _ => (pg_name (i := 2) sc_true_sum.nd rfl (by first | exact Or.inl rfl | exact Or.inr rfl))) (fun _ _ _ _ _ => pts_nil) (fun _ _ _ _ _ => (pe_call (ok_amount_of T) (hr.mono (by decide)) (by rfl) T.g_amount_of T.F_amount_of.kp T.b_amount_of .nil pass0 (pa_cons (pv 1) (pa_cons (pv 2) pa_nil))))) pa_nil)))), ?_⟩
    walk_at "z0"
    walk_at "z"
    refine Z.lcl (refs ps) (lstL hl) (fun D i H' => Kp [] H H' ∧ H' D = some (.lst ((amts kvs (ps.take i)).map V.int))) ?_ ?_ ?_ ?_
    · intro D H1 nD k1 e1
      exact ⟨k1, e1⟩
    · rintro D i H1 nD hi ⟨k1, e1⟩
      exact lstL (k1.get nin0 hl)
    · rintro D i v H1 nD hv ⟨k1, e1⟩
      obtain ⟨x, hx, rfl⟩ := refs_of hv
      have hi : i < ps.length := (List.getElem?_eq_some_iff.mp hx).1
      dsimp only [wipe, List.set]
      walk_at "z"
      refine ⟨rfl, ?_⟩
      walk_at "z"
      refine ⟨d, x.1, kvs, x.2, rfl, k1.get nin0 hd, ho, (hps.kp0 k1) x (List.mem_of_getElem? hx), ?_⟩
      refine ⟨_, e1, Z.szl (m := 1000) (by unfold amts; rw [List.length_map, List.length_map, List.length_take]; omega), k1.mut nD rfl, ?_⟩
      rw [upd_same, List.take_add_one, hx]
      unfold amts
      rw [List.map_append, List.map_append]; rfl
    · rintro D H1 nD ⟨k1, e1⟩
      rw [refs_len, List.take_length] at e1
      walk_at "z"
      refine Z.sumL (lstL e1) ?_
      exact q H1 k1
theorem ok_sum_of {P : Program} {w : World} {K : PySem.W.Frag} {mg : Str → Option Value} {base : Heap} (T : T P K mg) : FnOk P w K mg base CX0 5 T.a_sum_of T.fd_sum_of ["fractions"] (spEx (fun i : Nat × Nat => i.1 ≤ 3900 ∧ 1 + i.2 * (i.1 + 1) ≤ 3900) fun i => spSumOf K i.1 i.2) := fnEx fun i h => ok_sum_of_any T i.1 i.2 h.1 h.2
theorem rv_fover {f g : Fr} (h1 : f.2 ≠ 0) (h2 : g.2 ≠ 0) (h3 : g.1 ≠ 0) : rv (fover f g) = rv f / rv g := by
  unfold fover
  rw [rv_lo (Int.mul_ne_zero h1 h3)]
  have a1 := ratNe h1
  have a2 := ratNe h2
  have a3 := ratNe h3
  have e1 : ((f.1 * g.2 : Int) : Rat) = (f.1 : Rat) * (g.2 : Rat) := by exact_mod_cast rfl
  have e2 : ((f.2 * g.1 : Int) : Rat) = (f.2 : Rat) * (g.1 : Rat) := by exact_mod_cast rfl
  rw [e1, e2]
  unfold rv
  grind
def meanR (ws : List Rat) : Rat := ws.sum / (ws.length : Rat)
def spMean (K : PySem.W.Frag) : Sp := fun vs H Q _ => ∃ (l : Addr) (as : List Addr) (fs : List Fr), vs = [.ref l] ∧ SqL K H l (as.map V.ref) ∧ FrsAt K H as fs ∧ (∀ f ∈ fs, 1 ≤ f.2 ∧ FrB 30 f) ∧ 1 ≤ fs.length ∧ fs.length ≤ 3 ∧ ∀ H' c g, Kp [] H H' → FrAt K H' c g → Low g → FrB 100 g → rv g = meanR (fs.map rv) → Q (.ref c) H'
theorem ok_mean_of {P : Program} {w : World} {K : PySem.W.Frag} {mg : Str → Option Value} {base : Heap} (T : T P K mg) : FnOk P w K mg base CX0 6 T.a_mean_of T.fd_mean_of ["numbers"] (spMean K) := by
  refine T.F_mean_of.ok sc_mean_of (fun vs H Q E h => ?_) (fun cdv A outer s H vs Q E hr h => ?_)
  · obtain ⟨l, as, fs, rfl, _⟩ := h
    rfl
  · obtain ⟨l, as, fs, rfl, hS, hF, hB, h1, h6, q⟩ := h
    refine ⟨_, (pss_one (ps_ret (pe_call (ok_over T) (hr.mono (by decide)) (by rfl) T.g_over T.F_over.kp T.b_over .nil passL (pa_cons (pe_call (ok_sum_of T) (hr.mono (by decide)) (by rfl) T.g_sum_of T.F_sum_of.kp T.b_sum_of .nil pass0 (pa_cons (pv 0) pa_nil)) (pa_cons (pe_tup (pa_cons (pe_callB c_len (by rfl) T.z_len (by decide +kernel) (pa_cons (pv 0) pa_nil)) (pa_cons pe_int pa_nil))) pa_nil))))), ?_⟩
    have hs := rv_fsum (fs := fs) low_zero fun f hf => by have := (hB f hf).1; omega
    have hsB := fsum_B (fs := fs) (t := (0, 1)) (n := 1) (m := 30) ⟨by decide, by decide⟩ (by decide) fun f hf => ⟨(hB f hf).2, by have := (hB f hf).1; omega⟩
    have hsB2 : FrB 94 (fsum (0, 1) fs) := hsB.1.mono (by omega)
    walk_at "z0"
    walk_at "z"
    refine ⟨(30, 3), ⟨by decide, by decide⟩, l, as, fs, rfl, hS, hF, fun f hf => ⟨(hB f hf).2, by have := (hB f hf).1; omega⟩, h6, fun H1 c1 k1 e1 => ?_⟩
    walk_at "z"
    refine Z.lenL (k1.seq nin0 hS) ?_
    rw [List.length_map, hF.len]
    walk_at "z"
    refine Z.tupK (fun t H2 nt k2 e2 => ?_)
    walk_at "z"
    have hg0 : ((fs.length : Int), (1 : Int)).1 ≠ 0 := by show (fs.length : Int) ≠ 0; omega
    have hgB : FrB 3 ((fs.length : Int), 1) := ⟨by show fs.length < 8; omega, by show 1 < 8; decide⟩
    refine ⟨c1, t, _, ((fs.length : Int), 1), rfl, e1.kp0 k2, tupT e2, hsB.2, hsB2.mono (by decide), hgB.mono (by decide), fun z => absurd z hg0, fun _ H3 c3 n3 k3 e3 => ?_⟩
    have hne := Int.mul_ne_zero hs.2.ne hg0
    refine q H3 c3 _ ((k1.trans k2).trans k3) e3 (lo_low hne) (lo_B hne (up_B (mul_B hsB2.1 hgB.2) (by decide)) (up_B (mul_B hsB2.2 hgB.1) (by decide))) ?_
    rw [rv_fover hs.2.ne (by show (1 : Int) ≠ 0; decide) hg0, hs.1, rv_zero, rv_int]
    unfold meanR
    rw [List.length_map]
    have e10 : (((fs.length : Nat) : Int) : Rat) = (fs.length : Rat) := by exact_mod_cast rfl
    rw [e10]
    grind
def sqR (ws : List Rat) : Rat := (ws.map fun w => (w - meanR ws) * (w - meanR ws)).sum
def spSq (K : PySem.W.Frag) : Sp := fun vs H Q _ => ∃ (l : Addr) (as : List Addr) (fs : List Fr), vs = [.ref l] ∧ SqL K H l (as.map V.ref) ∧ FrsAt K H as fs ∧ (∀ f ∈ fs, 1 ≤ f.2 ∧ FrB 30 f) ∧ 1 ≤ fs.length ∧ fs.length ≤ 3 ∧ ∀ H' c g, Kp [] H H' → FrAt K H' c g → Low g → FrB 800 g → rv g = sqR (fs.map rv) → Q (.ref c) H'
theorem ok_squares_around {P : Program} {w : World} {K : PySem.W.Frag} {mg : Str → Option Value} {base : Heap} (T : T P K mg) : FnOk P w K mg base CX0 7 T.a_squares_around T.fd_squares_around ["numbers"] (spSq K) := by
  refine T.F_squares_around.ok sc_squares_around (fun vs H Q E h => ?_) (fun cdv A outer s H vs Q E hr h => ?_)
  · obtain ⟨l, as, fs, rfl, _⟩ := h
    rfl
  · obtain ⟨l, as, fs, rfl, hS, hF, hB, h1, h6, q⟩ := h
    refine ⟨_, (pss_cons (ps_set (i := 1) sc_squares_around.nd rfl (by first | exact Or.inl rfl | exact Or.inr rfl) (pe_call (ok_mean_of T) (hr.mono (by decide)) (by rfl) T.g_mean_of T.F_mean_of.kp T.b_mean_of .nil pass0 (pa_cons (pv 0) pa_nil)))
      (pss_cons (ps_setLc (i := 2) (own := [("number", 3)]) (g := gName 3) rfl sc_squares_around.nd rfl rfl (sw_true rfl rfl rfl (by decide +kernel)) (pi_list (pv 0)) (blkOk_by (own := [("number", 3)]) (N := N_squares_around) (sc := defScope s_squares_around) (by decide +kernel)) (fun _ _ _ _ _ => (pg_name (i := 3) sc_squares_around.nd rfl (by first | exact Or.inl rfl | exact Or.inr rfl))) (fun _ _ _ _ _ => pts_nil) (fun _ _ _ _ _ => (pe_call (ok_minus T) (hr.mono (by decide)) (by rfl) T.g_minus T.F_minus.kp T.b_minus .nil pass0 (pa_cons (pv 3) (pa_cons (pv 1) pa_nil)))))
      (pss_one (ps_ret (pe_call (ok_sum_of T) (hr.mono (by decide)) (by rfl) T.g_sum_of T.F_sum_of.kp T.b_sum_of .nil pass0 (pa_cons (pe_lc (own := [("number", 3)]) (g := gName 3) rfl sc_squares_around.nd (pi_list (pv 2)) (blkOk_by (own := [("number", 3)]) (N := N_squares_around) (sc := defScope s_squares_around) (by decide +kernel)) (fun _ _ _ _ _ => (pg_name (i := 3) sc_squares_around.nd rfl (by first | exact Or.inl rfl | exact Or.inr rfl))) (fun _ _ _ _ _ => pts_nil) (fun _ _ _ _ _ => (pe_call (ok_times T) (hr.mono (by decide)) (by rfl) T.g_times T.F_times.kp T.b_times .nil pass0 (pa_cons (pv 3) (pa_cons (pv 3) pa_nil))))) pa_nil)))))), ?_⟩
    walk_at "z0"
    walk_at "z"
    refine ⟨l, as, fs, rfl, hS, hF, hB, h1, h6, fun H1 M g k1 e1 hgL hgB hg => ?_⟩
    have hS1 := k1.seq nin0 hS
    have F1 := hF.kp0 k1
    have hdB : ∀ f ∈ fs, FrB 131 (fminus f g) ∧ 1 ≤ (fminus f g).2 := fun f hf => by
      have h2 := hB f hf
      exact ⟨fminus_B (n := 30) (m := 100) h2.2 hgB (by omega) hgL.ne, lo_pos (Int.mul_ne_zero (by omega) hgL.ne)⟩
    walk_at "z"
    refine Z.lcl (as.map V.ref) hS1 (fun D i H' => ∃ bs : List Addr, Kp [] H1 H' ∧ H' D = some (.lst (bs.map V.ref)) ∧ FrsAt K H' bs ((fs.take i).map fun f => fminus f g)) ?_ ?_ ?_ ?_
    · intro D H2 nD k2 e2
      exact ⟨[], k2, e2, .nil⟩
    · rintro D i H2 nD hi ⟨bs, k2, e2, F2⟩
      exact k2.seq nin0 hS1
    · rintro D i v H2 nD hv ⟨bs, k2, e2, F2⟩
      obtain ⟨x, f, rfl, hf, hx⟩ := (F1.kp0 k2).get hv
      have hi : i < fs.length := (List.getElem?_eq_some_iff.mp hf).1
      have hfB := hB f (List.mem_of_getElem? hf)
      dsimp only [wipe, List.set]
      walk_at "z"
      refine ⟨rfl, ?_⟩
      walk_at "z"
      refine ⟨x, M, f, g, rfl, hx, e1.kp0 k2, by omega, hgL.ne, hfB.2.mono (by decide), hgB.mono (by decide), fun H3 c3 n3 k3 e3 => ?_⟩
      have e3D := k3.get nin0 e2
      refine ⟨_, e3D, Z.szl (m := 1000) (by rw [List.length_map, F2.len, List.length_map, List.length_take]; omega), bs ++ [c3], (k2.trans k3).mut nD rfl, by rw [upd_same, List.map_append]; rfl, ?_⟩
      rw [List.take_add_one, hf, List.map_append]
      exact ((F2.kp0 k3).snoc e3).kpl (Kp.put (by simp)) e3D
    · rintro D H2 nD ⟨bs, k2, e2, F2⟩
      rw [List.length_map, F1.len, List.take_length] at F2
      walk_at "z"
      refine Z.lcl (bs.map V.ref) (lstL e2) (fun D2 i H' => ∃ cs : List Addr, Kp [] H2 H' ∧ H' D2 = some (.lst (cs.map V.ref)) ∧ FrsAt K H' cs ((fs.take i).map fun f => ftimes (fminus f g) (fminus f g))) ?_ ?_ ?_ ?_
      · intro D2 H3 nD2 k3 e3
        exact ⟨[], k3, e3, .nil⟩
      · rintro D2 i H3 nD2 hi ⟨cs, k3, e3, F3⟩
        exact lstL (k3.get nin0 e2)
      · rintro D2 i v H3 nD2 hv ⟨cs, k3, e3, F3⟩
        obtain ⟨x, d, rfl, hd, hx⟩ := (F2.kp0 k3).get hv
        rw [List.getElem?_map] at hd
        cases hy : fs[i]? with
        | none => rw [hy] at hd; cases hd
        | some f =>
          rw [hy] at hd
          obtain rfl := Option.some.inj hd
          have hi : i < fs.length := (List.getElem?_eq_some_iff.mp hy).1
          have hdb := hdB f (List.mem_of_getElem? hy)
          dsimp only [wipe, List.set]
          walk_at "z"
          refine ⟨rfl, ?_⟩
          walk_at "z"
          refine ⟨x, x, fminus f g, fminus f g, rfl, hx, hx, by omega, by omega, hdb.1.mono (by decide), hdb.1.mono (by decide), fun H4 c4 n4 k4 e4 => ?_⟩
          have e4D := k4.get nin0 e3
          refine ⟨_, e4D, Z.szl (m := 1000) (by rw [List.length_map, F3.len, List.length_map, List.length_take]; omega), cs ++ [c4], (k3.trans k4).mut nD2 rfl, by rw [upd_same, List.map_append]; rfl, ?_⟩
          rw [List.take_add_one, hy, List.map_append]
          exact ((F3.kp0 k4).snoc e4).kpl (Kp.put (by simp)) e4D
      · rintro D2 H3 nD2 ⟨cs, k3, e3, F3⟩
        rw [List.length_map, F2.len, List.length_map, List.take_length] at F3
        have hsB : ∀ z ∈ fs.map (fun f => ftimes (fminus f g) (fminus f g)), FrB 262 z ∧ z.2 ≠ 0 := fun z hz => by
          obtain ⟨f, hf, rfl⟩ := List.mem_map.mp hz
          have hdb := hdB f hf
          have h2 := lo_pos (p := (fminus f g).1 * (fminus f g).1) (Int.mul_ne_zero (show (fminus f g).2 ≠ 0 by omega) (show (fminus f g).2 ≠ 0 by omega))
          exact ⟨ftimes_B (n := 131) (m := 131) hdb.1 hdb.1 (by omega) (by omega), by show (lo _ _).2 ≠ 0; omega⟩
        walk_at "z"
        refine ⟨(262, 3), ⟨by decide, by decide⟩, D2, cs, _, rfl, lstL e3, F3, hsB, by rw [List.length_map]; exact h6, fun H4 c4 k4 e4 => ?_⟩
        have hs := rv_fsum (fs := fs.map fun f => ftimes (fminus f g) (fminus f g)) low_zero fun f hf => (hsB f hf).2
        have hsum := fsum_B (fs := fs.map fun f => ftimes (fminus f g) (fminus f g)) (t := (0, 1)) (n := 1) (m := 262) ⟨by decide, by decide⟩ (by decide) hsB
        refine q H4 c4 _ (((k1.trans k2).trans k3).trans k4) e4 hs.2 (hsum.1.mono (by rw [List.length_map]; omega)) ?_
        rw [hs.1, rv_zero]
        unfold sqR
        rw [List.map_map, List.map_map]
        have e9 : fs.map (rv ∘ fun f => ftimes (fminus f g) (fminus f g)) = fs.map ((fun w => (w - meanR (fs.map rv)) * (w - meanR (fs.map rv))) ∘ rv) := List.map_congr_left fun f hf => by
          have hdb := hdB f hf
          have h2 := hB f hf
          simp only [Function.comp_apply]
          rw [rv_ftimes (by omega) (by omega), rv_fminus (by omega) hgL.ne, hg]
        rw [e9]
        grind

/-! ### weighted samples as objects -/
def wf (size total : Int) (k : Addr) : List (Str × V) := [("size", .int size), ("total", .int total), ("kept", .ref k)]
theorem wf_mk (size total : Int) (k : Addr) : putF "kept" (.ref k) (putF "total" (.int total) (putF "size" (.int size) [])) = wf size total k := by
  have n1 : ¬ (("size" : Str) = "total") := by decide +kernel
  have n2 : ¬ (("size" : Str) = "kept") := by decide +kernel
  have n3 : ¬ (("total" : Str) = "kept") := by decide +kernel
  have e1 : putF "total" (.int total) (putF "size" (.int size) []) = [(("size" : Str), V.int size), (("total" : Str), V.int total)] := by
    show (if ("size" : Str) = "total" then _ else (("size" : Str), V.int size) :: [(("total" : Str), V.int total)]) = _
    rw [if_neg n1]
  rw [e1]
  show (if ("size" : Str) = "kept" then _ else (("size" : Str), V.int size) :: (if ("total" : Str) = "kept" then _ else (("total" : Str), V.int total) :: [(("kept" : Str), V.ref k)])) = _
  rw [if_neg n2, if_neg n3]; rfl
theorem wf_total (size total : Int) (k : Addr) : (wf size total k).lookup ("total" : Str) = some (.int total) := rfl
theorem wf_kept (size total : Int) (k : Addr) : (wf size total k).lookup ("kept" : Str) = some (.ref k) := rfl
def WtAt (C : Addr) (H : Hp) (x k : Addr) (size total : Int) (ps : List (Addr × Row)) : Prop := (∃ dx, H x = some (.ins C dx (wf size total k))) ∧ H k = some (.lst (refs ps))
theorem WtAt.kp0 {C : Addr} {H H' : Hp} {x k : Addr} {size total : Int} {ps : List (Addr × Row)} (h : WtAt C H x k size total ps) (kk : Kp [] H H') : WtAt C H' x k size total ps := let ⟨⟨dx, h1⟩, h2⟩ := h; ⟨⟨dx, kk.get nin0 h1⟩, kk.get nin0 h2⟩
def spWInit (K : PySem.W.Frag) (C : Addr) : Sp := fun vs H Q _ => ∃ (x b dx : Addr) (size total : Int) (ps : List (Addr × Row)), vs = [.ref x, .int size, .int total, .ref b] ∧ H x = some (.ins C dx []) ∧ H b = some (.lst (refs ps)) ∧ ∀ H' k, H k = none → Kp [x] H H' → WtAt C H' x k size total ps → Q .non H'
theorem ok_Weighted_init {P : Program} {w : World} {K : PySem.W.Frag} {mg : Str → Option Value} {base : Heap} (T : T P K mg) : FnOk P w K mg base CX0 1 T.a_Weighted_init T.fd_Weighted_init ["self", "size", "total", "kept"] (spWInit K T.C_Weighted) := by
  refine T.F_Weighted_init.ok sc_Weighted_init (fun vs H Q E h => ?_) (fun cdv A outer s H vs Q E hr h => ?_)
  · obtain ⟨x, b, dx, size, total, ps, rfl, _⟩ := h
    rfl
  · obtain ⟨x, b, dx, size, total, ps, rfl, hx, hb, q⟩ := h
    refine ⟨_, (pss_cons (ps_fld (pv 0) (pv 1) rfl)
      (pss_cons (ps_fld (pv 0) (pv 2) rfl)
      (pss_one (ps_fld (pv 0) (pe_callTy c_list (by rfl) T.z_list (by decide +kernel) (pa_cons (pv 3) pa_nil)) rfl)))), ?_⟩
    have nbx : b ≠ x := fun z => by rw [z, hx] at hb; cases hb
    walk_at "z0"
    walk_at "z"
    refine ⟨x, _, dx, [], rfl, hx, T.cl_Weighted, T.na_Weighted_size, by decide, ?_⟩
    walk_at "z"
    refine ⟨x, _, dx, _, rfl, upd_same, T.cl_Weighted, T.na_Weighted_total, by show 1 < 1000; decide, ?_⟩
    walk_at "z"
    rw [upd_upd]
    refine Z.listL (lstL ((upd_ne nbx).trans hb)) fun k H1 nk k1 e1 => ?_
    have hx1 := k1.get nin0 (show upd H x _ x = some _ from upd_same)
    have nxk : x ≠ k := ne_of_none (show upd H x _ x = some _ from upd_same) nk
    have nk0 : H k = none := by rwa [upd_ne nxk.symm] at nk
    walk_at "z"
    refine ⟨x, _, dx, _, rfl, hx1, T.cl_Weighted, T.na_Weighted_kept, by show 2 < 1000; decide, ?_⟩
    walk_at "z"
    rw [wf_mk]
    exact q _ k nk0 (((Kp.put (by simp)).trans (k1.sub (by simp))).trans (Kp.put (by simp))) ⟨⟨dx, upd_same⟩, (upd_ne nxk.symm).trans e1⟩
theorem tyW {P : Program} {K : PySem.W.Frag} {mg : Str → Option Value} (T : T P K mg) {H : Hp} {x k : Addr} {size total : Int} {ps : List (Addr × Row)} (h : WtAt T.C_Weighted H x k size total ps) : TyX K H (.ref x) (.ref T.C_Weighted) :=
  let ⟨⟨_, h1⟩, _⟩ := h
  .base (.ins h1 T.cl_Weighted T.isa_Weighted T.isg_Weighted T.ist_Weighted T.ism_Weighted)
theorem isW {P : Program} {K : PySem.W.Frag} {mg : Str → Option Value} (T : T P K mg) {H : Hp} {Q : VK} {x k : Addr} {size total : Int} {ps : List (Addr × Row)} (h : WtAt T.C_Weighted H x k size total ps) (q : Q (.bl true) H) : rIsi K [.ref x, .ref T.C_Weighted] H Q :=
  ⟨_, _, _, _, true, rfl, .own _, tyW T h, T.kit_Weighted_Weighted, q⟩
theorem isWU {P : Program} {K : PySem.W.Frag} {mg : Str → Option Value} (T : T P K mg) {H : Hp} {Q : VK} {x k : Addr} {size total : Int} {ps : List (Addr × Row)} (h : WtAt T.C_Weighted H x k size total ps) (q : Q (.bl false) H) : rIsi K [.ref x, .ref T.C_Uniform] H Q :=
  ⟨_, _, _, _, false, rfl, .own _, tyW T h, T.kit_Weighted_Uniform, q⟩
def wts (ps : List (Addr × Row)) : List Int := ps.map fun x => x.2.w
def spWeightOf (K : PySem.W.Frag) : Sp := fun vs H Q _ => ∃ (l : Addr) (ps : List (Addr × Row)), vs = [.ref l] ∧ H l = some (.lst (refs ps)) ∧ RowsAt H ps ∧ ps.length ≤ 1000 ∧ ∀ H', Kp [] H H' → Q (.int (wts ps).sum) H'
theorem ok_weight_of {P : Program} {w : World} {K : PySem.W.Frag} {mg : Str → Option Value} {base : Heap} (T : T P K mg) : FnOk P w K mg base CX0 1 T.a_weight_of T.fd_weight_of ["things"] (spWeightOf K) := by
  refine T.F_weight_of.ok sc_weight_of (fun vs H Q E h => ?_) (fun cdv A outer s H vs Q E hr h => ?_)
  · obtain ⟨l, ps, rfl, _⟩ := h
    rfl
  · obtain ⟨l, ps, rfl, hl, hps, hn, q⟩ := h
    refine ⟨_, (pss_one (ps_ret (pe_callB (cr_sum rfl) (by rfl) T.z_sum (by decide +kernel) (pa_cons (pe_lc (own := [("item", 1)]) (g := gName 1) rfl sc_weight_of.nd (pi_list (pv 0)) (blkOk_by (own := [("item", 1)]) (N := N_weight_of) (sc := defScope s_weight_of) (by decide +kernel)) (fun _ _ _ _ _ => (pg_name (i := 1) sc_weight_of.nd rfl (by first | exact Or.inl rfl | exact Or.inr rfl))) (fun _ _ _ _ _ => pts_nil) (fun _ _ _ _ _ => (pe_ix (ix_tup : IxR _ (rIxT K)) (pv 1) pe_int (fun _ _ => rfl)))) pa_nil)))), ?_⟩
    walk_at "z0"
    walk_at "z"
    refine Z.lcl (refs ps) (lstL hl) (fun D i H' => Kp [] H H' ∧ H' D = some (.lst ((wts (ps.take i)).map V.int))) ?_ ?_ ?_ ?_
    · intro D H1 nD k1 e1
      exact ⟨k1, e1⟩
    · rintro D i H1 nD hi ⟨k1, e1⟩
      exact lstL (k1.get nin0 hl)
    · rintro D i v H1 nD hv ⟨k1, e1⟩
      obtain ⟨x, hx, rfl⟩ := refs_of hv
      have hi : i < ps.length := (List.getElem?_eq_some_iff.mp hx).1
      dsimp only [wipe, List.set]
      walk_at "z"
      refine ⟨rfl, ?_⟩
      walk_at "z"
      refine RowAt.w2 ((hps.kp0 k1) x (List.mem_of_getElem? hx)) ?_
      refine ⟨_, e1, Z.szl (m := 1000) (by unfold wts; rw [List.length_map, List.length_map, List.length_take]; omega), k1.mut nD rfl, ?_⟩
      rw [upd_same, List.take_add_one, hx]
      unfold wts
      rw [List.map_append, List.map_append]; rfl
    · rintro D H1 nD ⟨k1, e1⟩
      rw [refs_len, List.take_length] at e1
      walk_at "z"
      refine Z.sumL (lstL e1) ?_
      exact q H1 k1
def spWhole (K : PySem.W.Frag) (C : Addr) : Sp := fun vs H Q _ => ∃ (x k : Addr) (size total : Int) (ps : List (Addr × Row)), vs = [.ref x] ∧ WtAt C H x k size total ps ∧ RowsAt H ps ∧ ps.length ≤ 1000 ∧ ∀ H', Kp [] H H' → Q (.bl (decide ((wts ps).sum = total))) H'
theorem ok_is_whole {P : Program} {w : World} {K : PySem.W.Frag} {mg : Str → Option Value} {base : Heap} (T : T P K mg) : FnOk P w K mg base CX0 3 T.a_is_whole T.fd_is_whole ["sample"] (spWhole K T.C_Weighted) := by
  refine T.F_is_whole.ok sc_is_whole (fun vs H Q E h => ?_) (fun cdv A outer s H vs Q E hr h => ?_)
  · obtain ⟨x, k, size, total, ps, rfl, _⟩ := h
    rfl
  · obtain ⟨x, k, size, total, ps, rfl, hU, hps, hn, q⟩ := h
    obtain ⟨⟨dx, hx⟩, hk⟩ := id hU
    refine ⟨_, (pss_cons (ps_if (pt_val (pe_callB call_isi (by rfl) T.z_isinstance (by decide +kernel) (pa_cons (pv 0) (pa_cons (pe_glob (v := .ref T.C_Uniform) (by rfl) T.mg_Uniform rfl) pa_nil)))) (pss_one Z.ps_dead) pss_nil)
      (pss_cons (ps_if (pt_val (pe_callB call_isi (by rfl) T.z_isinstance (by decide +kernel) (pa_cons (pv 0) (pa_cons (pe_glob (v := .ref T.C_Weighted) (by rfl) T.mg_Weighted rfl) pa_nil)))) (pss_one (ps_ret (pe_cmpR op_eq (pe_call (ok_weight_of T) (hr.mono (by decide)) (by rfl) T.g_weight_of T.F_weight_of.kp T.b_weight_of .nil pass0 (pa_cons (pe_fld (pv 0) rfl) pa_nil)) (pe_fld (pv 0) rfl) (nomark _)))) pss_nil)
      (pss_cons Z.ps_dead
      (pss_one Z.ps_dead)))), ?_⟩
    walk_at "z0"
    walk_at "z"
    refine isWU T hU ?_
    walk_at "z"
    refine isW T hU ?_
    walk_at "z"
    refine ⟨x, _, dx, _, _, rfl, hx, T.cl_Weighted, T.na_Weighted_kept, wf_kept size total k, ?_⟩
    walk_at "z"
    refine ⟨k, ps, rfl, hk, hps, hn, fun H1 k1 => ?_⟩
    walk_at "z"
    refine ⟨x, _, dx, _, _, rfl, k1.get nin0 hx, T.cl_Weighted, T.na_Weighted_total, wf_total size total k, ?_⟩
    walk_at "z"
    exact q H1 k1
/-! the ordered estimates -/
structure RowW (r : Row) : Prop where
  w0 : 1 ≤ r.w
  w1 : r.w ≤ 1000
def ordF (kvs : List (Key × V)) : Int → Int → List (Addr × Row) → List Fr
  | _, _, [] => []
  | b, l, x :: r => fplus (b, 1) (lo (amt kvs x.2.k * l) x.2.w) :: ordF kvs (b + amt kvs x.2.k) (l - x.2.w) r
theorem ordF_snoc (kvs : List (Key × V)) (x : Addr × Row) : ∀ (ps : List (Addr × Row)) (b l : Int), ordF kvs b l (ps ++ [x]) = ordF kvs b l ps ++ [fplus (b + (amts kvs ps).sum, 1) (lo (amt kvs x.2.k * (l - (wts ps).sum)) x.2.w)]
  | [], b, l => by
    show [fplus (b, 1) (lo (amt kvs x.2.k * l) x.2.w)] = [fplus (b + 0, 1) (lo (amt kvs x.2.k * (l - 0)) x.2.w)]
    rw [Int.add_zero, Int.sub_zero]
  | y :: r, b, l => by
    have ih := ordF_snoc kvs x r (b + amt kvs y.2.k) (l - y.2.w)
    show _ :: ordF kvs _ _ (r ++ [x]) = _ :: (ordF kvs _ _ r ++ _)
    rw [ih]
    have e1 : (amts kvs (y :: r)).sum = amt kvs y.2.k + (amts kvs r).sum := by unfold amts; rw [List.map_cons, List.sum_cons]
    have e2 : (wts (y :: r)).sum = y.2.w + (wts r).sum := by unfold wts; rw [List.map_cons, List.sum_cons]
    rw [e1, e2, show b + (amt kvs y.2.k + (amts kvs r).sum) = b + amt kvs y.2.k + (amts kvs r).sum by omega, show l - (y.2.w + (wts r).sum) = l - y.2.w - (wts r).sum by omega]
theorem ordF_len (kvs : List (Key × V)) : ∀ (ps : List (Addr × Row)) (b l : Int), (ordF kvs b l ps).length = ps.length
  | [], _, _ => rfl
  | y :: r, b, l => by
    show (_ :: ordF kvs _ _ r).length = _
    rw [List.length_cons, ordF_len kvs r, List.length_cons]
theorem amt_mul_B {a l : Int} (ha : a.natAbs ≤ 10) (hl : l.natAbs ≤ 8000) : (a * l).natAbs < 2 ^ 17 := by
  rw [Int.natAbs_mul]
  exact Nat.lt_of_le_of_lt (Nat.mul_le_mul ha hl) (by decide)
theorem sum_leI {c : Int} : ∀ {l : List Int}, (∀ x ∈ l, 0 ≤ x ∧ x ≤ c) → 0 ≤ l.sum ∧ l.sum ≤ c * l.length
  | [], _ => by simp
  | a :: r, h => by
    have h1 := h a (by simp)
    have h2 := sum_leI (c := c) (l := r) fun z hz => h z (by simp [hz])
    rw [List.sum_cons, List.length_cons]
    have e : c * ((r.length + 1 : Nat) : Int) = c * (r.length : Int) + c := by rw [Int.natCast_add, Int.mul_add]; omega
    omega
theorem wts_B {ps : List (Addr × Row)} (hW : ∀ x ∈ ps, RowW x.2) (h3 : ps.length ≤ 3) : 0 ≤ (wts ps).sum ∧ (wts ps).sum ≤ 3000 := by
  have h := sum_leI (c := 1000) (l := wts ps) fun z hz => by
    obtain ⟨x, hx, rfl⟩ := List.mem_map.mp hz
    have := hW x hx
    exact ⟨by have := this.w0; omega, this.w1⟩
  have hl : (wts ps).length = ps.length := by unfold wts; rw [List.length_map]
  rw [hl] at h
  omega
theorem amts_S {kvs : List (Key × V)} (ho : AmtOk kvs) {ps : List (Addr × Row)} (h3 : ps.length ≤ 3) : (amts kvs ps).sum.natAbs ≤ 30 := by
  have h := sum_absI (c := 10) (l := amts kvs ps) (amts_B ho)
  have hl : (amts kvs ps).length = ps.length := by unfold amts; rw [List.length_map]
  rw [hl] at h
  omega
theorem ord1_B {kvs : List (Key × V)} (ho : AmtOk kvs) {b l : Int} {x : Addr × Row} (hx : RowW x.2) (hb : b.natAbs ≤ 30) (hl : l.natAbs ≤ 8000) : 1 ≤ (fplus (b, 1) (lo (amt kvs x.2.k * l) x.2.w)).2 ∧ FrB 30 (fplus (b, 1) (lo (amt kvs x.2.k * l) x.2.w)) := by
  have h0 := hx.w0
  have h1 := hx.w1
  have hw0 : x.2.w ≠ 0 := by omega
  have hL := lo_low (p := amt kvs x.2.k * l) hw0
  have hB : FrB 17 (lo (amt kvs x.2.k * l) x.2.w) := lo_B hw0 (amt_mul_B (amt_le ho _) hl) (Nat.lt_of_le_of_lt (show x.2.w.natAbs ≤ 1000 by omega) (by decide))
  have hb1 : FrB 5 (b, 1) := ⟨by show b.natAbs < 2 ^ 5; omega, by show (1 : Nat) < 2 ^ 5; decide⟩
  exact ⟨(fplus_low (f := (b, 1)) (by show (1 : Int) ≠ 0; decide) hL.ne).1, (fplus_B hb1 hB (by show (1 : Int) ≠ 0; decide) hL.ne).mono (by decide)⟩
theorem ordF_B {kvs : List (Key × V)} (ho : AmtOk kvs) {T : Int} (hT0 : 0 ≤ T) (hT : T ≤ 5000) : ∀ (n : Nat) (ps : List (Addr × Row)), ps.length = n → n ≤ 3 → (∀ x ∈ ps, RowW x.2) → ∀ f ∈ ordF kvs 0 T ps, 1 ≤ f.2 ∧ FrB 30 f
  | 0, ps, h, _, _ => by
    rw [List.length_eq_zero_iff.mp h]
    intro f hf; cases hf
  | n + 1, ps, h, h3, hW => by
    have hne : ps ≠ [] := fun z => by rw [z] at h; simp at h
    have e := (List.dropLast_concat_getLast hne).symm
    have hl : ps.dropLast.length = n := by rw [List.length_dropLast]; omega
    rw [e] at hW ⊢
    generalize ps.getLast hne = x at hW ⊢
    generalize ps.dropLast = us at hl hW ⊢
    have hu : ∀ x ∈ us, RowW x.2 := fun z hz => hW z (by simp [hz])
    rw [ordF_snoc]
    have ih := ordF_B ho hT0 hT n us hl (by omega) hu
    have w := wts_B hu (by omega)
    have a := amts_S ho (ps := us) (by omega)
    exact mem_append_one ih (ord1_B ho (hW x (by simp)) (by omega) (by omega))
def spOrd (K : PySem.W.Frag) : Sp := fun vs H Q _ => ∃ (l d : Addr) (t : Int) (ps : List (Addr × Row)) (kvs : List (Key × V)), vs = [.int t, .ref l, .ref d] ∧ H l = some (.lst (refs ps)) ∧ RowsAt H ps ∧ ps.length ≤ 3 ∧ (∀ x ∈ ps, RowW x.2) ∧ 0 ≤ t ∧ t ≤ 5000 ∧ H d = some (.dK kvs) ∧ AmtOk kvs ∧ ∀ H' D as, H D = none → Kp [] H H' → H' D = some (.lst (as.map V.ref)) → FrsAt K H' as (ordF kvs 0 t ps) → Q (.ref D) H'
theorem ok_ordered_estimates {P : Program} {w : World} {K : PySem.W.Frag} {mg : Str → Option Value} {base : Heap} (T : T P K mg) : FnOk P w K mg base CX0 5 T.a_ordered_estimates T.fd_ordered_estimates ["total", "kept", "amounts"] (spOrd K) := by
  refine T.F_ordered_estimates.ok sc_ordered_estimates (fun vs H Q E h => ?_) (fun cdv A outer s H vs Q E hr h => ?_)
  · obtain ⟨l, d, t, ps, kvs, rfl, _⟩ := h
    rfl
  · obtain ⟨l, d, t, ps, kvs, rfl, hl, hps, hn, hW, ht0, ht1, hd, ho, q⟩ := h
    refine ⟨_, (pss_cons (ps_set (i := 3) sc_ordered_estimates.nd rfl (by first | exact Or.inl rfl | exact Or.inr rfl) (pe_lst pa_nil))
      (pss_cons (ps_set (i := 4) sc_ordered_estimates.nd rfl (by first | exact Or.inl rfl | exact Or.inr rfl) (pv 0))
      (pss_cons (ps_set (i := 5) sc_ordered_estimates.nd rfl (by first | exact Or.inl rfl | exact Or.inr rfl) pe_int)
      (pss_cons (ps_for PassesOwn.never rfl (pi_list (pv 1)) (pg_name (i := 6) sc_ordered_estimates.nd rfl (by first | exact Or.inl rfl | exact Or.inr rfl)) (pss_cons (ps_set (i := 7) sc_ordered_estimates.nd rfl (by first | exact Or.inl rfl | exact Or.inr rfl) (pe_call (ok_amount_of T) (hr.mono (by decide)) (by rfl) T.g_amount_of T.F_amount_of.kp T.b_amount_of .nil pass0 (pa_cons (pv 2) (pa_cons (pv 6) pa_nil))))
      (pss_cons (ps_expr (pe_bm PySem.F.plainAttrs_list PySem.F.slot_list_append PySem.F.type_list_append mt_append (pv 3) (pa_cons (pe_call (ok_plus T) (hr.mono (by decide)) (by rfl) T.g_plus T.F_plus.kp T.b_plus .nil pass0 (pa_cons (pe_tup (pa_cons (pv 5) (pa_cons pe_int pa_nil))) (pa_cons (pe_call (ok_lowest T) (hr.mono (by decide)) (by rfl) T.g_lowest T.F_lowest.kp T.b_lowest .nil passL (pa_cons (pe_op op_mulW (pv 7) (pv 4)) (pa_cons (pe_ix ix_tup (pv 6) pe_int (fun _ _ => rfl)) pa_nil))) pa_nil))) pa_nil)))
      (pss_cons (ps_aug (i := 5) sc_ordered_estimates.nd rfl (by first | exact Or.inl rfl | exact Or.inr rfl) (pv 7) ip_add)
      (pss_one (ps_aug (i := 4) sc_ordered_estimates.nd rfl (by first | exact Or.inl rfl | exact Or.inr rfl) (pe_ix ix_tup (pv 6) pe_int (fun _ _ => rfl)) ip_sub))))))
      (pss_one (ps_ret (pv 3))))))), ?_⟩
    walk_at "z0"
    walk_at "z"
    refine Z.lstK (fun F H1 nF k1 e1 => ?_)
    walk_at "z"
    refine Z.forl (refs ps) (lstL (k1.get nin0 hl)) (fun i σ' H' => ∃ (y6 y7 : Option V) (as : List Addr), σ' = [some (.int t), some (.ref l), some (.ref d), some (.ref F), some (.int (t - (wts (ps.take i)).sum)), some (.int ((amts kvs (ps.take i)).sum)), y6, y7] ∧ Kp [] H H' ∧ H' F = some (.lst (as.map V.ref)) ∧ FrsAt K H' as (ordF kvs 0 t (ps.take i))) ?_ ?_ ?_ ?_
    · exact ⟨none, none, [], by show _ = [_, _, _, _, some (V.int (t - 0)), some (V.int 0), _, _]; rw [Int.sub_zero], k1, e1, .nil⟩
    · rintro i σ' H' _ ⟨y6, y7, as, rfl, k2, _⟩
      exact lstL (k2.get nin0 hl)
    · rintro i v σ' H2 hv ⟨y6, y7, as, rfl, k2, e2, F2⟩
      obtain ⟨x, hx, rfl⟩ := refs_of hv
      have hxm := List.mem_of_getElem? hx
      have hi : i < ps.length := (List.getElem?_eq_some_iff.mp hx).1
      have htk : ∀ y ∈ ps.take i, RowW y.2 := fun y hy => hW y (List.mem_of_mem_take hy)
      have hw := wts_B htk (by rw [List.length_take]; omega)
      have ha := amts_S ho (ps := ps.take i) (by rw [List.length_take]; omega)
      have hxW := hW x hxm
      have hx0 := hxW.w0
      have hx1 := hxW.w1
      have hxa := amt_le ho x.2.k
      have ewi : (wts (ps.take (i + 1))).sum = (wts (ps.take i)).sum + x.2.w := by
        rw [List.take_add_one, hx]
        unfold wts
        rw [List.map_append, List.sum_append]
        simp
      have eai : (amts kvs (ps.take (i + 1))).sum = (amts kvs (ps.take i)).sum + amt kvs x.2.k := by
        rw [List.take_add_one, hx]
        unfold amts
        rw [List.map_append, List.sum_append]
        simp
      walk_at "z"
      refine ⟨d, x.1, kvs, x.2, rfl, k2.get nin0 hd, ho, (hps.kp0 k2) x hxm, ?_⟩
      walk_at "z"
      refine ⟨Z.tyL e2, ?_⟩
      walk_at "z"
      refine Z.tupK (fun b1 H3 nb1 k3 e3 => ?_)
      walk_at "z"
      refine Z.iC (mul_ok (n := 20) (Nat.lt_of_le_of_lt hxa (by decide)) (Nat.lt_of_le_of_lt (show (t - (wts (ps.take i)).sum).natAbs ≤ 8000 by omega) (by decide))) ?_
      walk_at "z"
      have r3 := (hps.kp0 (k2.trans k3)) x hxm
      refine RowAt.w2 r3 ?_
      walk_at "z"
      have hw0 : x.2.w ≠ 0 := by omega
      refine ⟨_, _, rfl, up_B (n := 10) (show x.2.w.natAbs < 2 ^ 10 by omega) (by decide), fun z => absurd z hw0, fun _ H4 c4 n4 k4 e4 => ?_⟩
      walk_at "z"
      have hL := lo_low (p := amt kvs x.2.k * (t - (wts (ps.take i)).sum)) hw0
      have hB : FrB 17 (lo (amt kvs x.2.k * (t - (wts (ps.take i)).sum)) x.2.w) := lo_B hw0 (amt_mul_B (amt_le ho _) (by omega)) (Nat.lt_of_le_of_lt (show x.2.w.natAbs ≤ 1000 by omega) (by decide))
      have hb1 : FrB 5 ((amts kvs (ps.take i)).sum, 1) := ⟨by show (amts kvs (ps.take i)).sum.natAbs < 2 ^ 5; omega, by show (1 : Nat) < 2 ^ 5; decide⟩
      refine ⟨b1, c4, ((amts kvs (ps.take i)).sum, 1), _, rfl, (show FrAt K H3 b1 ((amts kvs (ps.take i)).sum, 1) from tupT e3).kp0 k4, e4, by show (1 : Int) ≠ 0; decide, hL.ne, hb1.mono (by decide), hB.mono (by decide), fun H5 c5 n5 k5 e5 => ?_⟩
      have k25 := (k3.trans k4).trans k5
      have e5F := k25.get nin0 e2
      walk_at "z"
      refine Z.app e5F (Z.szl (m := 1000) (by rw [List.length_map, F2.len, ordF_len, List.length_take]; omega)) ?_
      have e6F : upd H5 F (.lst (as.map V.ref ++ [V.ref c5])) F = some (.lst ((as ++ [c5]).map V.ref)) := by rw [upd_same, List.map_append]; rfl
      have k6 : Kp [F] H5 (upd H5 F (.lst (as.map V.ref ++ [V.ref c5]))) := Kp.put (by simp)
      generalize upd H5 F (.lst (as.map V.ref ++ [V.ref c5])) = H6 at e6F k6 ⊢
      have k06 : Kp [] H H6 := (k2.trans k25).then1 k6 nF
      walk_at "z"
      refine RowAt.w2 ((hps.kp0 k06) x hxm) ?_
      walk_at "z"
      refine ⟨some (.ref x.1), some (.int (amt kvs x.2.k)), as ++ [c5], ?_, k06, e6F, ?_⟩
      · rw [ewi, eai, ← Int.sub_sub]; rfl
      · rw [List.take_add_one, hx]
        show FrsAt K H6 (as ++ [c5]) (ordF kvs 0 t (ps.take i ++ [x]))
        rw [ordF_snoc, Int.zero_add]
        exact ((F2.kp0 k25).snoc e5).kpl k6 e5F
    · rintro σ' H2 ⟨y6, y7, as, rfl, k2, e2, F2⟩
      rw [refs_len, List.take_length] at F2
      walk_at "z"
      exact q H2 F as nF k2 e2 F2

/-! the answers -/
theorem castNe {n : Nat} (h : 1 ≤ n) : (n : Rat) ≠ 0 := by
  have : (0 : Rat) < (n : Rat) := by exact_mod_cast h
  grind
/-- the numbers of a sample -/
def numsR (kvs : List (Key × V)) (T : Int) (ps : List (Addr × Row)) : List Rat := if (wts ps).sum = T then [(((amts kvs ps).sum : Int) : Rat)] else (ordF kvs 0 T ps).map rv
def varR (kvs : List (Key × V)) (T : Int) (ps : List (Addr × Row)) : Rat := if (wts ps).sum = T then 0 else 1 / ((ps.length * (ps.length - 1) : Nat) : Rat) * sqR ((ordF kvs 0 T ps).map rv)
structure AnsAt (K : PySem.W.Frag) (H : Hp) (t : Addr) (T : Int) (kvs : List (Key × V)) (ps : List (Addr × Row)) (e : Addr) (ef : Fr) (v : V) : Prop where
  at_ : H t = some (.tup [.ref e, v])
  est : FrAt K H e ef
  low : Low ef
  B : FrB 100 ef
  rv : rv ef = meanR (numsR kvs T ps)
  var : (v = .non ∧ ps.length = 1 ∧ (wts ps).sum ≠ T) ∨ (¬ (ps.length = 1 ∧ (wts ps).sum ≠ T) ∧ ∃ w vf, v = .ref w ∧ FrAt K H w vf ∧ Low vf ∧ FrB 810 vf ∧ K34.rv vf = varR kvs T ps)
def spEst (K : PySem.W.Frag) (C : Addr) (P : List (Addr × Row) → Int → Prop) : Sp := fun vs H Q _ => ∃ (x k d : Addr) (size t : Int) (ps : List (Addr × Row)) (kvs : List (Key × V)), vs = [.ref x, .ref d] ∧ WtAt C H x k size t ps ∧ RowsAt H ps ∧ 1 ≤ ps.length ∧ ps.length ≤ 3 ∧ (∀ x ∈ ps, RowW x.2) ∧ 0 ≤ t ∧ t ≤ 5000 ∧ P ps t ∧ H d = some (.dK kvs) ∧ AmtOk kvs ∧ ∀ H' r e ef v, Kp [] H H' → AnsAt K H' r t kvs ps e ef v → Q (.ref r) H'
theorem ok_weighted_estimate {P : Program} {w : World} {K : PySem.W.Frag} {mg : Str → Option Value} {base : Heap} (T : T P K mg) : FnOk P w K mg base CX0 8 T.a_weighted_estimate T.fd_weighted_estimate ["sample", "amounts"] (spEst K T.C_Weighted (fun ps t => (wts ps).sum ≠ t)) := by
  refine T.F_weighted_estimate.ok sc_weighted_estimate (fun vs H Q E h => ?_) (fun cdv A outer s H vs Q E hr h => ?_)
  · obtain ⟨_, _, _, _, _, _, _, rfl, _⟩ := h
    rfl
  · obtain ⟨x, k, d, size, t, ps, kvs, rfl, hU, hps, hs1, hs3, hW, ht0, ht1, hne, hd, ho, q⟩ := h
    obtain ⟨⟨dx, hx⟩, hk⟩ := id hU
    have hoB := ordF_B ho ht0 ht1 _ ps rfl hs3 hW
    have hol := ordF_len kvs ps 0 t
    have hnum : numsR kvs t ps = (ordF kvs 0 t ps).map rv := by unfold numsR; rw [if_neg hne]
    refine ⟨_, (pss_cons (ps_set (i := 2) sc_weighted_estimate.nd rfl (by first | exact Or.inl rfl | exact Or.inr rfl) (pe_call (ok_ordered_estimates T) (hr.mono (by decide)) (by rfl) T.g_ordered_estimates T.F_ordered_estimates.kp T.b_ordered_estimates .nil pass0 (pa_cons (pe_fld (pv 0) rfl) (pa_cons (pe_fld (pv 0) rfl) (pa_cons (pv 1) pa_nil)))))
      (pss_cons (ps_set (i := 3) sc_weighted_estimate.nd rfl (by first | exact Or.inl rfl | exact Or.inr rfl) (pe_callB c_len (by rfl) T.z_len (by decide +kernel) (pa_cons (pv 2) pa_nil)))
      (pss_cons (ps_if (pt_cmpR op_eq (pv 3) pe_int (nomark _)) (pss_one (ps_ret (pe_tup (pa_cons (pe_ix ix_list (pv 2) pe_int (fun _ _ => rfl)) (pa_cons pe_non pa_nil))))) pss_nil)
      (pss_one (ps_ret (pe_tup (pa_cons (pe_call (ok_mean_of T) (hr.mono (by decide)) (by rfl) T.g_mean_of T.F_mean_of.kp T.b_mean_of .nil pass0 (pa_cons (pv 2) pa_nil)) (pa_cons (pe_call (ok_times T) (hr.mono (by decide)) (by rfl) T.g_times T.F_times.kp T.b_times .nil pass0 (pa_cons (pe_call (ok_lowest T) (hr.mono (by decide)) (by rfl) T.g_lowest T.F_lowest.kp T.b_lowest .nil passL (pa_cons pe_int (pa_cons (pe_op op_mulW (pv 3) (pe_op op_sub (pv 3) pe_int)) pa_nil))) (pa_cons (pe_call (ok_squares_around T) (hr.mono (by decide)) (by rfl) T.g_squares_around T.F_squares_around.kp T.b_squares_around .nil pass0 (pa_cons (pv 2) pa_nil)) pa_nil))) pa_nil)))))))), ?_⟩
    walk_at "z0"
    walk_at "z"
    refine ⟨x, _, dx, _, _, rfl, hx, T.cl_Weighted, T.na_Weighted_total, wf_total size t k, ?_⟩
    walk_at "z"
    refine ⟨x, _, dx, _, _, rfl, hx, T.cl_Weighted, T.na_Weighted_kept, wf_kept size t k, ?_⟩
    walk_at "z"
    refine ⟨k, d, t, ps, kvs, rfl, hk, hps, hs3, hW, ht0, ht1, hd, ho, fun H1 D as _ k1 e1 F1 => ?_⟩
    walk_at "z"
    refine Z.lenL (lstL e1) ?_
    rw [List.length_map, F1.len, hol]
    walk_at "z"
    refine Z.ite (fun h1 => ?_) (fun h1 => ?_)
    · have hs1' : ps.length = 1 := by omega
      obtain ⟨f, hf⟩ : ∃ f, ordF kvs 0 t ps = [f] := List.length_eq_one_iff.mp (by rw [hol]; exact hs1')
      rw [hf] at F1
      obtain ⟨a, ha⟩ : ∃ a, as = [a] := List.length_eq_one_iff.mp F1.len
      subst ha
      have hfB := hoB f (by rw [hf]; simp)
      obtain ⟨x0, f0, hx0, hf0, hxa⟩ := F1.get (i := 0) (v := .ref a) rfl
      obtain rfl := Option.some.inj hf0
      cases hx0
      walk_at "z"
      refine Z.ixL (lstL e1) (show atI [V.ref a] 0 = some (.ref a) from rfl) ?_
      walk_at "z"
      refine Z.tupK (fun r H2 nr k2 e2 => ?_)
      have hLf : Low f := by
        match ps, hs1' with
        | [y], _ =>
          have e : [fplus (0, 1) (lo (amt kvs y.2.k * t) y.2.w)] = [f] := hf
          rw [← (List.cons.inj e).1]
          have := (hW y (by simp)).w0
          exact fplus_low (f := (0, 1)) (by show (1 : Int) ≠ 0; decide) (lo_low (by omega)).ne
      refine q H2 r a f .non (k1.trans k2) ⟨e2, hxa.kp0 k2, hLf, hfB.2.mono (by decide), ?_, .inl ⟨rfl, hs1', hne⟩⟩
      rw [hnum, hf]
      show rv f = (rv f + 0) / ((1 : Nat) : Rat)
      grind
    · have hs2 : 2 ≤ ps.length := by omega
      walk_at "z"
      refine ⟨D, as, _, rfl, lstL e1, F1, hoB, by omega, by omega, fun H2 c2 g2 k2 e2 hg2L hg2B hg2 => ?_⟩
      walk_at "z"
      refine Z.iC (mul_ok (n := 10) (by rw [Int.natAbs_natCast]; omega) (by omega)) ?_
      walk_at "z"
      have hk0' : ((ps.length : Nat) : Int) ≠ 0 := by omega
      have hq0 : ((ps.length : Nat) : Int) * (((ps.length : Nat) : Int) - 1) ≠ 0 := Int.mul_ne_zero hk0' (by omega)
      have hqB : (((ps.length : Nat) : Int) * (((ps.length : Nat) : Int) - 1)).natAbs < 2 ^ 6 := by
        rw [Int.natAbs_mul]
        exact Nat.lt_of_le_of_lt (Nat.mul_le_mul (show _ ≤ 6 by omega) (show _ ≤ 6 by omega)) (by decide)
      refine ⟨_, _, rfl, up_B hqB (by decide), fun z => absurd z hq0, fun _ H3 f nf k3 e3 => ?_⟩
      have fB : FrB 6 (lo 1 (((ps.length : Nat) : Int) * (((ps.length : Nat) : Int) - 1))) := lo_B hq0 (by decide) hqB
      have lf := (lo_low (p := 1) hq0)
      have k23 := k2.trans k3
      walk_at "z"
      refine ⟨D, as, _, rfl, lstL (k23.get nin0 e1), F1.kp0 k23, hoB, by omega, by omega, fun H4 c4 g4 k4 e4 hg4L hg4B hg4 => ?_⟩
      walk_at "z"
      refine ⟨f, c4, _, g4, rfl, e3.kp0 k4, e4, lf.ne, hg4L.ne, fB.mono (by decide), hg4B.mono (by decide), fun H5 c5 n5 k5 e5 => ?_⟩
      walk_at "z"
      refine Z.tupK (fun r H6 nr k6 e6 => ?_)
      have k36 := ((k3.trans k4).trans k5).trans k6
      refine q H6 r c2 g2 (.ref c5) ((k1.trans k2).trans k36) ⟨e6, e2.kp0 k36, hg2L, hg2B, by rw [hnum]; exact hg2, .inr ⟨by omega, c5, _, rfl, e5.kp0 k6, lo_low (Int.mul_ne_zero lf.ne hg4L.ne), (ftimes_B fB hg4B lf.ne hg4L.ne).mono (by decide), ?_⟩⟩
      rw [rv_ftimes lf.ne hg4L.ne, hg4, rv_lo hq0]
      unfold varR
      rw [if_neg hne]
      have e11 : ((((ps.length : Nat) : Int) * (((ps.length : Nat) : Int) - 1) : Int) : Rat) = ((ps.length * (ps.length - 1) : Nat) : Rat) := by
        have : ((ps.length : Nat) : Int) * (((ps.length : Nat) : Int) - 1) = ((ps.length * (ps.length - 1) : Nat) : Int) := by rw [Int.natCast_mul, Int.natCast_sub (by omega)]; rfl
        rw [this]
        exact_mod_cast rfl
      rw [e11]
      rfl
theorem ok_estimate {P : Program} {w : World} {K : PySem.W.Frag} {mg : Str → Option Value} {base : Heap} (T : T P K mg) : FnOk P w K mg base CX0 9 T.a_estimate T.fd_estimate ["sample", "amounts"] (spEst K T.C_Weighted (fun _ _ => True)) := by
  refine T.F_estimate.ok sc_estimate (fun vs H Q E h => ?_) (fun cdv A outer s H vs Q E hr h => ?_)
  · obtain ⟨_, _, _, _, _, _, _, rfl, _⟩ := h
    rfl
  · obtain ⟨x, k, d, size, t, ps, kvs, rfl, hU, hps, hs1, hs3, hW, ht0, ht1, _, hd, ho, q⟩ := h
    obtain ⟨⟨dx, hx⟩, hk⟩ := id hU
    refine ⟨_, (pss_cons (ps_if (pt_val (pe_call (ok_is_whole T) (hr.mono (by decide)) (by rfl) T.g_is_whole T.F_is_whole.kp T.b_is_whole .nil pass0 (pa_cons (pv 0) pa_nil))) (pss_one (ps_ret (pe_tup (pa_cons (pe_tup (pa_cons (pe_call (ok_true_sum T) (hr.mono (by decide)) (by rfl) T.g_true_sum T.F_true_sum.kp T.b_true_sum .nil pass0 (pa_cons (pe_fld (pv 0) rfl) (pa_cons (pv 1) pa_nil))) (pa_cons pe_int pa_nil))) (pa_cons (pe_glob (v := .ref T.k_ZERO) (by rfl) T.g_ZERO rfl) pa_nil))))) pss_nil)
      (pss_cons (ps_if (pt_val (pe_callB call_isi (by rfl) T.z_isinstance (by decide +kernel) (pa_cons (pv 0) (pa_cons (pe_glob (v := .ref T.C_Uniform) (by rfl) T.mg_Uniform rfl) pa_nil)))) (pss_one Z.ps_dead) pss_nil)
      (pss_cons (ps_if (pt_val (pe_callB call_isi (by rfl) T.z_isinstance (by decide +kernel) (pa_cons (pv 0) (pa_cons (pe_glob (v := .ref T.C_Weighted) (by rfl) T.mg_Weighted rfl) pa_nil)))) (pss_one (ps_ret (pe_call (ok_weighted_estimate T) (hr.mono (by decide)) (by rfl) T.g_weighted_estimate T.F_weighted_estimate.kp T.b_weighted_estimate .nil pass0 (pa_cons (pv 0) (pa_cons (pv 1) pa_nil))))) pss_nil)
      (pss_one Z.ps_dead)))), ?_⟩
    walk_at "z0"
    walk_at "z"
    refine ⟨x, k, size, t, ps, rfl, hU, hps, by omega, fun H0 k0 => ?_⟩
    have hx0 := k0.get nin0 hx
    walk_at "z"
    refine Z.ite (fun h1 => ?_) (fun h1 => ?_)
    · walk_at "z"
      refine ⟨x, _, dx, _, _, rfl, hx0, T.cl_Weighted, T.na_Weighted_kept, wf_kept size t k, ?_⟩
      walk_at "z"
      refine ⟨k, d, ps, kvs, rfl, k0.get nin0 hk, hps.kp0 k0, by omega, k0.get nin0 hd, ho, fun H1 k1 => ?_⟩
      walk_at "z"
      refine Z.tupK (fun e H2 ne k2 e2 => ?_)
      walk_at "z"
      refine Z.tupK (fun r H3 nr k3 e3 => ?_)
      have ha := amts_S ho (ps := ps) hs3
      have lw : Low ((amts kvs ps).sum, 1) := ⟨show (1 : Int) ≤ 1 by decide, by simp⟩
      refine q H3 r e ((amts kvs ps).sum, 1) (.ref T.k_ZERO) (((k0.trans k1).trans k2).trans k3) ⟨e3, tupT (k3.get nin0 e2), lw, ⟨by show (amts kvs ps).sum.natAbs < 2 ^ 100; omega, by show (1 : Nat) < 2 ^ 100; decide⟩, ?_, .inr ⟨fun z => z.2 h1, T.k_ZERO, (0, 1), rfl, T.q_ZERO H3, low_zero, ⟨by decide, by decide⟩, ?_⟩⟩
      · unfold numsR
        rw [if_pos h1, rv_int]
        show _ = ((((amts kvs ps).sum : Int) : Rat) + 0) / ((1 : Nat) : Rat)
        grind
      · rw [rv_zero]
        unfold varR
        rw [if_pos h1]
    · walk_at "z"
      refine isWU T (hU.kp0 k0) ?_
      walk_at "z"
      refine isW T (hU.kp0 k0) ?_
      walk_at "z"
      exact ⟨x, k, d, size, t, ps, kvs, rfl, hU.kp0 k0, hps.kp0 k0, hs1, hs3, hW, ht0, ht1, h1, k0.get nin0 hd, ho, fun H' r e ef v k1 A => q H' r e ef v (k0.trans k1) A⟩
def spOrdered (K : PySem.W.Frag) (C : Addr) : Sp := fun vs H Q _ => ∃ (x k d : Addr) (size t : Int) (ps : List (Addr × Row)) (kvs : List (Key × V)), vs = [.ref x, .ref d] ∧ WtAt C H x k size t ps ∧ RowsAt H ps ∧ 1 ≤ ps.length ∧ ps.length ≤ 3 ∧ (∀ x ∈ ps, RowW x.2) ∧ 0 ≤ t ∧ t ≤ 5000 ∧ H d = some (.dK kvs) ∧ AmtOk kvs ∧ ∀ H' D as fs, H D = none → Kp [] H H' → H' D = some (.lst (as.map V.ref)) → FrsAt K H' as fs → (∀ f ∈ fs, 1 ≤ f.2 ∧ FrB 30 f) → fs.map rv = numsR kvs t ps → Q (.ref D) H'
theorem ok_ordered {P : Program} {w : World} {K : PySem.W.Frag} {mg : Str → Option Value} {base : Heap} (T : T P K mg) : FnOk P w K mg base CX0 6 T.a_ordered T.fd_ordered ["sample", "amounts"] (spOrdered K T.C_Weighted) := by
  refine T.F_ordered.ok sc_ordered (fun vs H Q E h => ?_) (fun cdv A outer s H vs Q E hr h => ?_)
  · obtain ⟨_, _, _, _, _, _, _, rfl, _⟩ := h
    rfl
  · obtain ⟨x, k, d, size, t, ps, kvs, rfl, hU, hps, hs1, hs3, hW, ht0, ht1, hd, ho, q⟩ := h
    obtain ⟨⟨dx, hx⟩, hk⟩ := id hU
    refine ⟨_, (pss_cons (ps_if (pt_val (pe_call (ok_is_whole T) (hr.mono (by decide)) (by rfl) T.g_is_whole T.F_is_whole.kp T.b_is_whole .nil pass0 (pa_cons (pv 0) pa_nil))) (pss_one (ps_ret (pe_lst (pa_cons (pe_tup (pa_cons (pe_call (ok_true_sum T) (hr.mono (by decide)) (by rfl) T.g_true_sum T.F_true_sum.kp T.b_true_sum .nil pass0 (pa_cons (pe_fld (pv 0) rfl) (pa_cons (pv 1) pa_nil))) (pa_cons pe_int pa_nil))) pa_nil)))) pss_nil)
      (pss_one (ps_ret (pe_call (ok_ordered_estimates T) (hr.mono (by decide)) (by rfl) T.g_ordered_estimates T.F_ordered_estimates.kp T.b_ordered_estimates .nil pass0 (pa_cons (pe_fld (pv 0) rfl) (pa_cons (pe_fld (pv 0) rfl) (pa_cons (pv 1) pa_nil))))))), ?_⟩
    walk_at "z0"
    walk_at "z"
    refine ⟨x, k, size, t, ps, rfl, hU, hps, by omega, fun H0 k0 => ?_⟩
    have hx0 := k0.get nin0 hx
    walk_at "z"
    refine Z.ite (fun h1 => ?_) (fun h1 => ?_)
    · walk_at "z"
      refine ⟨x, _, dx, _, _, rfl, hx0, T.cl_Weighted, T.na_Weighted_kept, wf_kept size t k, ?_⟩
      walk_at "z"
      refine ⟨k, d, ps, kvs, rfl, k0.get nin0 hk, hps.kp0 k0, by omega, k0.get nin0 hd, ho, fun H1 k1 => ?_⟩
      walk_at "z"
      refine Z.tupK (fun e H2 ne k2 e2 => ?_)
      walk_at "z"
      refine Z.lstK (fun D H3 nD k3 e3 => ?_)
      have ha := amts_S ho (ps := ps) hs3
      refine q H3 D [e] [((amts kvs ps).sum, 1)] (((k0.trans k1).trans k2).none nin0 nD) (((k0.trans k1).trans k2).trans k3) e3 (.cons (tupT (k3.get nin0 e2)) .nil) (fun f hf => ?_) ?_
      · rw [List.mem_singleton.mp hf]
        exact ⟨by show (1 : Int) ≤ 1; decide, by show (amts kvs ps).sum.natAbs < 2 ^ 30; omega, by show (1 : Nat) < 2 ^ 30; decide⟩
      · unfold numsR
        rw [if_pos h1, ← rv_int]; rfl
    · walk_at "z"
      refine ⟨x, _, dx, _, _, rfl, hx0, T.cl_Weighted, T.na_Weighted_total, wf_total size t k, ?_⟩
      walk_at "z"
      refine ⟨x, _, dx, _, _, rfl, hx0, T.cl_Weighted, T.na_Weighted_kept, wf_kept size t k, ?_⟩
      walk_at "z"
      refine ⟨k, d, t, ps, kvs, rfl, k0.get nin0 hk, hps.kp0 k0, hs3, hW, ht0, ht1, k0.get nin0 hd, ho, fun H1 D as nD k1 e1 F1 => ?_⟩
      refine q H1 D as _ (k0.none nin0 nD) (k0.trans k1) e1 F1 (ordF_B ho ht0 ht1 _ ps rfl hs3 hW) ?_
      unfold numsR
      rw [if_neg h1]

/-! ### orders drawn one after the other -/
def nin (o : List (Addr × Row)) (x : Addr × Row) : Bool := decide (∀ z ∈ o, z.2.k ≠ x.2.k)
def rem (xs o : List (Addr × Row)) : List (Addr × Row) := xs.filter (nin o)
def ordS (xs : List (Addr × Row)) : Nat → List (List (Addr × Row))
  | 0 => [[]]
  | m + 1 => (ordS xs m).flatMap fun o => (rem xs o).map fun x => o ++ [x]
theorem rem_nil (xs : List (Addr × Row)) : rem xs [] = xs := by
  unfold rem
  rw [List.filter_eq_self]
  intro x _
  unfold nin
  exact decide_eq_true fun z hz => by cases hz
theorem rem_snoc (xs o : List (Addr × Row)) (x : Addr × Row) : rem xs (o ++ [x]) = (rem xs o).filter fun z => decide (x.2.k ≠ z.2.k) := by
  unfold rem
  rw [List.filter_filter]
  refine List.filter_congr fun z _ => ?_
  unfold nin
  rw [Bool.eq_iff_iff, Bool.and_eq_true, decide_eq_true_eq, decide_eq_true_eq, decide_eq_true_eq]
  constructor
  · intro h
    exact ⟨h x (by simp), fun y hy => h y (by simp [hy])⟩
  · rintro ⟨h1, h2⟩ y hy
    rcases List.mem_append.mp hy with h | h
    · exact h2 y h
    · rw [List.mem_singleton.mp h]; exact h1
theorem filt_none {x : Addr × Row} : ∀ {L : List (Addr × Row)}, (∀ z ∈ L, x.2.k ≠ z.2.k) → (L.filter fun z => decide (x.2.k ≠ z.2.k)) = L := fun {L} h => by
  rw [List.filter_eq_self]
  intro z hz
  exact decide_eq_true (h z hz)
theorem rem_one (f : Addr × Row → Rat) (g : Addr × Row → Int) {x : Addr × Row} : ∀ {L : List (Addr × Row)}, L.Pairwise (fun a b => a.2.k ≠ b.2.k) → x ∈ L →
    ((L.filter fun z => decide (x.2.k ≠ z.2.k)).map f).sum + f x = (L.map f).sum ∧ ((L.filter fun z => decide (x.2.k ≠ z.2.k)).map g).sum + g x = (L.map g).sum ∧ (L.filter fun z => decide (x.2.k ≠ z.2.k)).length + 1 = L.length
  | [], _, h => by cases h
  | y :: r, hp, h => by
    obtain ⟨h1, h2⟩ := List.pairwise_cons.mp hp
    rcases List.mem_cons.mp h with rfl | h
    · rw [List.filter_cons_of_neg (by simp), filt_none h1]
      rw [List.map_cons, List.sum_cons, List.map_cons, List.sum_cons]
      exact ⟨by grind, by omega, rfl⟩
    · have ih := rem_one f g h2 h
      rw [List.filter_cons_of_pos (by simp; exact fun z => h1 x h z.symm)]
      rw [List.map_cons, List.sum_cons, List.map_cons, List.sum_cons, List.map_cons, List.sum_cons, List.map_cons, List.sum_cons, List.length_cons, List.length_cons]
      exact ⟨by rw [← ih.1]; grind, by omega, by omega⟩
structure GoodO (xs o : List (Addr × Row)) : Prop where
  sub : ∀ x ∈ o, x ∈ xs
  fr : ∀ f : Addr × Row → Rat, ((rem xs o).map f).sum + (o.map f).sum = (xs.map f).sum
  fi : ∀ f : Addr × Row → Int, ((rem xs o).map f).sum + (o.map f).sum = (xs.map f).sum
  len : (rem xs o).length + o.length = xs.length
theorem good_nil (xs : List (Addr × Row)) : GoodO xs [] := by
  refine ⟨fun x hx => (by cases hx), fun f => ?_, fun f => ?_, ?_⟩
  · rw [rem_nil]; show _ + (0 : Rat) = _; grind
  · rw [rem_nil]; show _ + (0 : Int) = _; omega
  · rw [rem_nil]; rfl
theorem good_snoc {xs o : List (Addr × Row)} (hx : xs.Pairwise fun a b => a.2.k ≠ b.2.k) (h : GoodO xs o) {x : Addr × Row} (hm : x ∈ rem xs o) : GoodO xs (o ++ [x]) := by
  have hp : (rem xs o).Pairwise (fun a b => a.2.k ≠ b.2.k) := hx.sublist List.filter_sublist
  refine ⟨fun y hy => ?_, fun f => ?_, fun f => ?_, ?_⟩
  · rcases List.mem_append.mp hy with z | z
    · exact h.sub y z
    · rw [List.mem_singleton.mp z]; exact (List.mem_filter.mp hm).1
  · have e := (rem_one f (fun _ => 0) hp hm).1
    have e2 := h.fr f
    rw [rem_snoc, List.map_append, List.sum_append, ← e2, ← e]
    simp only [List.map_cons, List.map_nil, List.sum_cons, List.sum_nil]
    grind
  · have e := (rem_one (fun _ => 0) f hp hm).2.1
    have e2 := h.fi f
    rw [rem_snoc, List.map_append, List.sum_append, ← e2, ← e]
    simp only [List.map_cons, List.map_nil, List.sum_cons, List.sum_nil]
    omega
  · have e := (rem_one (fun _ => 0) (fun _ => 0) hp hm).2.2
    have e2 := h.len
    rw [rem_snoc, List.length_append]
    simp only [List.length_cons, List.length_nil]
    omega
theorem ordS_good {xs : List (Addr × Row)} (hx : xs.Pairwise fun a b => a.2.k ≠ b.2.k) : ∀ m, ∀ o ∈ ordS xs m, GoodO xs o ∧ o.length = m
  | 0, o, h => by rw [List.mem_singleton.mp h]; exact ⟨good_nil xs, rfl⟩
  | m + 1, o, h => by
    obtain ⟨o', h1, h2⟩ := List.mem_flatMap.mp h
    obtain ⟨x, hx', rfl⟩ := List.mem_map.mp h2
    have ih := ordS_good hx m o' h1
    exact ⟨good_snoc hx ih.1 hx', by rw [List.length_append, ih.2]; rfl⟩
theorem ordS_len {xs : List (Addr × Row)} (hx : xs.Pairwise fun a b => a.2.k ≠ b.2.k) (hn : xs.length ≤ 5) : ∀ m, m ≤ 3 → (ordS xs m).length ≤ [1, 5, 20, 60].getD m 0 := by
  have step : ∀ (c : Nat) (L : List (List (Addr × Row))), (∀ o ∈ L, (rem xs o).length ≤ c) → (L.flatMap fun o => (rem xs o).map fun x => o ++ [x]).length ≤ c * L.length := by
    intro c L
    induction L with
    | nil => intro _; simp
    | cons o r ih =>
      intro h
      have h1 := h o (by simp)
      have h2 := ih fun z hz => h z (by simp [hz])
      rw [List.flatMap_cons, List.length_append, List.length_map, List.length_cons, Nat.mul_add]
      omega
  have st2 : ∀ m c, c + m = 5 → (ordS xs (m + 1)).length ≤ c * (ordS xs m).length := fun m c hc => by
    refine step c _ fun o ho => ?_
    have g := ordS_good hx m o ho
    have := g.1.len
    omega
  intro m hm
  have h0 : (ordS xs 0).length = 1 := rfl
  have h1 := st2 0 5 rfl
  have h2 := st2 1 4 rfl
  have h3 := st2 2 3 rfl
  simp only [Nat.zero_add, Nat.reduceAdd] at h1 h2 h3
  match m, hm with
  | 0, _ => exact Nat.le_of_eq h0
  | 1, _ => show _ ≤ 5; omega
  | 2, _ => show _ ≤ 20; omega
  | 3, _ => show _ ≤ 60; omega
/-! chances -/
def chO (T : Int) (o : List (Addr × Row)) : Fr × Int := o.foldl (fun c x => (ftimes c.1 (lo x.2.w (if c.2 < 1 then 1 else c.2)), c.2 - x.2.w)) ((1, 1), T)
theorem chO_left (T : Int) : ∀ o : List (Addr × Row), (chO T o).2 = T - (wts o).sum := by
  have h : ∀ (o : List (Addr × Row)) (c : Fr × Int), (o.foldl (fun c x => (ftimes c.1 (lo x.2.w (if c.2 < 1 then 1 else c.2)), c.2 - x.2.w)) c).2 = c.2 - (wts o).sum := by
    intro o
    induction o with
    | nil => intro c; show c.2 = c.2 - 0; omega
    | cons x r ih =>
      intro c
      rw [List.foldl_cons, ih]
      have e2 : (wts (x :: r)).sum = x.2.w + (wts r).sum := by unfold wts; rw [List.map_cons, List.sum_cons]
      rw [e2]
      show c.2 - x.2.w - _ = _
      omega
  exact fun o => h o _
def chF (T : Int) (o : List (Addr × Row)) : Fr := (chO T o).1
theorem chF_snoc (T : Int) (o : List (Addr × Row)) (x : Addr × Row) : chF T (o ++ [x]) = ftimes (chF T o) (lo x.2.w (if T - (wts o).sum < 1 then 1 else T - (wts o).sum)) := by
  unfold chF
  have e : chO T (o ++ [x]) = (ftimes (chO T o).1 (lo x.2.w (if (chO T o).2 < 1 then 1 else (chO T o).2)), (chO T o).2 - x.2.w) := by
    unfold chO
    rw [List.foldl_append]; rfl
  rw [e, chO_left]
theorem mx_pos (z : Int) : 1 ≤ (if z < 1 then 1 else z) := by split <;> omega
theorem chF_low (T : Int) : ∀ (n : Nat) (o : List (Addr × Row)), o.length = n → Low (chF T o)
  | 0, o, h => by
    rw [List.length_eq_zero_iff.mp h]
    exact ⟨show (1 : Int) ≤ 1 by decide, show Nat.gcd (1 : Int).natAbs (1 : Int).natAbs = 1 by decide⟩
  | n + 1, o, h => by
    have hne : o ≠ [] := fun z => by rw [z] at h; simp at h
    rw [← List.dropLast_concat_getLast hne, chF_snoc]
    have ih := chF_low T n o.dropLast (by rw [List.length_dropLast]; omega)
    have h2 := mx_pos (T - (wts o.dropLast).sum)
    exact lo_low (Int.mul_ne_zero ih.ne (lo_low (by omega)).ne)
theorem chF_B {T : Int} (hT : T ≤ 8000) : ∀ (n : Nat) (o : List (Addr × Row)), o.length = n → (∀ x ∈ o, RowW x.2) → FrB (1 + 13 * n) (chF T o)
  | 0, o, h, _ => by
    rw [List.length_eq_zero_iff.mp h]
    exact ⟨show (1 : Nat) < 2 ^ 1 by decide, show (1 : Nat) < 2 ^ 1 by decide⟩
  | n + 1, o, h, hW => by
    have hne : o ≠ [] := fun z => by rw [z] at h; simp at h
    have e := (List.dropLast_concat_getLast hne).symm
    have hl : o.dropLast.length = n := by rw [List.length_dropLast]; omega
    rw [e] at hW ⊢
    generalize o.getLast hne = x at hW ⊢
    generalize o.dropLast = us at hl hW ⊢
    have ih := chF_B hT n us hl fun z hz => hW z (by simp [hz])
    have hx := hW x (by simp)
    have h0 := hx.w0
    have h1 := hx.w1
    have hL := chF_low T n us hl
    have hws : 0 ≤ (wts us).sum := (sum_leI (c := 1000) (l := wts us) fun z hz => by
      obtain ⟨y, hy, rfl⟩ := List.mem_map.mp hz
      have := hW y (by simp [hy])
      exact ⟨by have := this.w0; omega, this.w1⟩).1
    rw [chF_snoc]
    generalize hm : (if T - (wts us).sum < 1 then 1 else T - (wts us).sum) = mx
    have hmx : 1 ≤ mx ∧ mx ≤ 8000 := by
      rw [← hm]
      split <;> omega
    have hB2 : FrB 13 (lo x.2.w mx) := lo_B (by omega) (Nat.lt_of_le_of_lt (show x.2.w.natAbs ≤ 1000 by omega) (by decide)) (Nat.lt_of_le_of_lt (show mx.natAbs ≤ 8000 by omega) (by decide))
    exact (ftimes_B ih hB2 hL.ne (lo_low (by omega)).ne).mono (by omega)
theorem wts_R (o : List (Addr × Row)) : (o.map fun x => ((x.2.w : Int) : Rat)).sum = (((wts o).sum : Int) : Rat) := by
  induction o with
  | nil => show (0 : Rat) = ((0 : Int) : Rat); grind
  | cons x r ih =>
    have e2 : (wts (x :: r)).sum = x.2.w + (wts r).sum := by unfold wts; rw [List.map_cons, List.sum_cons]
    rw [e2, List.map_cons, List.sum_cons, ih]
    exact_mod_cast rfl
theorem amts_R (kvs : List (Key × V)) (o : List (Addr × Row)) : (o.map fun x => ((amt kvs x.2.k : Int) : Rat)).sum = (((amts kvs o).sum : Int) : Rat) := by
  induction o with
  | nil => show (0 : Rat) = ((0 : Int) : Rat); grind
  | cons x r ih =>
    have e2 : (amts kvs (x :: r)).sum = amt kvs x.2.k + (amts kvs r).sum := by unfold amts; rw [List.map_cons, List.sum_cons]
    rw [e2, List.map_cons, List.sum_cons, ih]
    exact_mod_cast rfl
/-! means over all orders -/
def ch (T : Int) (o : List (Addr × Row)) : Rat := rv (chF T o)
def ex (T : Int) (L : List (List (Addr × Row))) (f : List (Addr × Row) → Rat) : Rat := (L.map fun o => f o * ch T o).sum
theorem ex_congr {T : Int} {f g : List (Addr × Row) → Rat} {L : List (List (Addr × Row))} (h : ∀ o ∈ L, f o = g o) : ex T L f = ex T L g := by
  unfold ex
  congr 1
  exact List.map_congr_left fun o ho => by rw [h o ho]
theorem ex_lin (T : Int) (a b : Rat) (f g : List (Addr × Row) → Rat) : ∀ L : List (List (Addr × Row)), ex T L (fun o => a * f o + b * g o) = a * ex T L f + b * ex T L g
  | [] => by show (0 : Rat) = a * 0 + b * 0; grind
  | o :: r => by
    have ih := ex_lin T a b f g r
    unfold ex at ih ⊢
    rw [List.map_cons, List.map_cons, List.map_cons, List.sum_cons, List.sum_cons, List.sum_cons, ih]
    grind
/-- the last estimate of an order -/
def qE (kvs : List (Key × V)) (T : Int) (o : List (Addr × Row)) (x : Addr × Row) : Rat := (((amts kvs o).sum : Int) : Rat) + ((amt kvs x.2.k : Int) : Rat) * ((T : Rat) - (((wts o).sum : Int) : Rat)) / ((x.2.w : Int) : Rat)
theorem in_sum (kvs : List (Key × V)) (l c a b Y : Rat) : ∀ R : List (Addr × Row), (∀ x ∈ R, ((x.2.w : Int) : Rat) ≠ 0) →
    (R.map fun x => (a + b * (Y + ((amt kvs x.2.k : Int) : Rat) * l / ((x.2.w : Int) : Rat))) * (c * (((x.2.w : Int) : Rat) / l))).sum = c / l * ((a + b * Y) * (R.map fun x => ((x.2.w : Int) : Rat)).sum + b * l * (R.map fun x => ((amt kvs x.2.k : Int) : Rat)).sum)
  | [], _ => by show (0 : Rat) = c / l * ((a + b * Y) * 0 + b * l * 0); grind
  | x :: r, h => by
    have ih := in_sum kvs l c a b Y r fun z hz => h z (by simp [hz])
    have hx := h x (by simp)
    rw [List.map_cons, List.sum_cons, List.map_cons, List.sum_cons, List.map_cons, List.sum_cons, ih]
    grind
theorem sum_flat (f : List (Addr × Row) → Rat) (g : List (Addr × Row) → List (List (Addr × Row))) (h : List (Addr × Row) → Rat) : ∀ L : List (List (Addr × Row)), (∀ o ∈ L, ((g o).map f).sum = h o) → ((L.flatMap g).map f).sum = (L.map h).sum
  | [], _ => rfl
  | o :: r, hh => by
    rw [List.flatMap_cons, List.map_append, List.sum_append, hh o (by simp), sum_flat f g h r fun z hz => hh z (by simp [hz]), List.map_cons, List.sum_cons]
structure Sit (xs : List (Addr × Row)) (T : Int) : Prop where
  nd : xs.Pairwise fun a b => a.2.k ≠ b.2.k
  ws : ∀ x ∈ xs, RowW x.2
  tot : (wts xs).sum = T
theorem Sit.left {xs : List (Addr × Row)} {T : Int} (S : Sit xs T) {o : List (Addr × Row)} (g : GoodO xs o) : T - (wts o).sum = (wts (rem xs o)).sum := by
  have := g.fi fun x => x.2.w
  have e := S.tot
  unfold wts at e ⊢
  omega
theorem sum_geI : ∀ {l : List Int}, (∀ x ∈ l, 1 ≤ x) → (l.length : Int) ≤ l.sum
  | [], _ => by simp
  | a :: r, h => by
    have h1 := h a (by simp)
    have h2 := sum_geI (l := r) fun z hz => h z (by simp [hz])
    rw [List.sum_cons, List.length_cons]
    omega
theorem Sit.left_pos {xs : List (Addr × Row)} {T : Int} (S : Sit xs T) {o : List (Addr × Row)} (g : GoodO xs o) (h : o.length < xs.length) : 1 ≤ T - (wts o).sum := by
  rw [S.left g]
  have h1 := sum_geI (l := wts (rem xs o)) fun z hz => by
    obtain ⟨x, hx, rfl⟩ := List.mem_map.mp hz
    exact (S.ws x (List.mem_filter.mp hx).1).w0
  have h2 : (wts (rem xs o)).length = (rem xs o).length := by unfold wts; rw [List.length_map]
  have := g.len
  omega
/-- one step: what is linear in the last estimate -/
theorem ex_step {xs : List (Addr × Row)} {T : Int} (S : Sit xs T) (kvs : List (Key × V)) {m : Nat} (hm : m < xs.length) (f a b : List (Addr × Row) → Rat) (hf : ∀ o ∈ ordS xs m, ∀ x ∈ rem xs o, f (o ++ [x]) = a o + b o * qE kvs T o x) :
    ex T (ordS xs (m + 1)) f = ex T (ordS xs m) fun o => a o + b o * (((amts kvs xs).sum : Int) : Rat) := by
  unfold ex
  refine sum_flat _ _ _ _ fun o ho => ?_
  obtain ⟨g, hl⟩ := ordS_good S.nd m o ho
  have hp := S.left_pos g (by omega)
  rw [List.map_map]
  have hlR : ((T : Rat) - (((wts o).sum : Int) : Rat)) ≠ 0 := by
    have e : (T : Rat) - (((wts o).sum : Int) : Rat) = ((T - (wts o).sum : Int) : Rat) := by exact_mod_cast rfl
    rw [e]
    exact ratNe (by omega)
  have e1 : (rem xs o).map ((fun o => f o * ch T o) ∘ fun x => o ++ [x]) = (rem xs o).map fun x => (a o + b o * ((((amts kvs o).sum : Int) : Rat) + ((amt kvs x.2.k : Int) : Rat) * ((T : Rat) - (((wts o).sum : Int) : Rat)) / ((x.2.w : Int) : Rat))) * (ch T o * (((x.2.w : Int) : Rat) / ((T : Rat) - (((wts o).sum : Int) : Rat)))) := List.map_congr_left fun x hx => by
    simp only [Function.comp_apply]
    rw [hf o ho x hx]
    have e2 : ch T (o ++ [x]) = ch T o * (((x.2.w : Int) : Rat) / ((T : Rat) - (((wts o).sum : Int) : Rat))) := by
      unfold ch
      rw [chF_snoc, if_neg (by omega), rv_ftimes (chF_low T _ o rfl).ne (lo_low (by omega)).ne, rv_lo (by omega)]
      have e : (T : Rat) - (((wts o).sum : Int) : Rat) = ((T - (wts o).sum : Int) : Rat) := by exact_mod_cast rfl
      rw [e]
    rw [e2]
    rfl
  rw [e1, in_sum kvs _ _ _ _ _ _ (fun x hx => ratNe (by have := (S.ws x (List.mem_filter.mp hx).1).w0; omega))]
  have h1 := g.fr fun x => ((x.2.w : Int) : Rat)
  have h2 := g.fr fun x => ((amt kvs x.2.k : Int) : Rat)
  rw [wts_R o, wts_R xs, S.tot] at h1
  rw [amts_R kvs o, amts_R kvs xs] at h2
  generalize ((rem xs o).map fun x => ((x.2.w : Int) : Rat)).sum = A at *
  generalize ((rem xs o).map fun x => ((amt kvs x.2.k : Int) : Rat)).sum = B at *
  have h3 : A = (T : Rat) - (((wts o).sum : Int) : Rat) := by grind
  rw [← h3] at hlR ⊢
  grind
theorem ex_one {xs : List (Addr × Row)} {T : Int} (S : Sit xs T) : ∀ m, m ≤ xs.length → ex T (ordS xs m) (fun _ => 1) = 1
  | 0, _ => by
    show (1 : Rat) * rv (1, 1) + 0 = 1
    rw [rv_int]
    grind
  | m + 1, h => by
    rw [ex_step S [] (by omega) (fun _ => 1) (fun _ => 1) (fun _ => 0) (fun _ _ _ _ => by grind)]
    have e : (fun o : List (Addr × Row) => (1 : Rat) + 0 * (((amts [] xs).sum : Int) : Rat)) = fun _ => 1 := by funext o; grind
    rw [e]
    exact ex_one S m (by omega)
def nums (kvs : List (Key × V)) (T : Int) (o : List (Addr × Row)) : List Rat := (ordF kvs 0 T o).map rv
theorem nums_len (kvs : List (Key × V)) (T : Int) (o : List (Addr × Row)) : (nums kvs T o).length = o.length := by unfold nums; rw [List.length_map, ordF_len]
theorem nums_snoc (kvs : List (Key × V)) (T : Int) (o : List (Addr × Row)) {x : Addr × Row} (hx : RowW x.2) : nums kvs T (o ++ [x]) = nums kvs T o ++ [qE kvs T o x] := by
  unfold nums
  rw [ordF_snoc, List.map_append]
  have h0 : x.2.w ≠ 0 := by have := hx.w0; omega
  show _ ++ [rv _] = _
  rw [rv_fplus (by show (1 : Int) ≠ 0; decide) (lo_low h0).ne, rv_int, rv_lo h0, Int.zero_add]
  unfold qE
  have e : ((amt kvs x.2.k * (T - (wts o).sum) : Int) : Rat) = ((amt kvs x.2.k : Int) : Rat) * ((T : Rat) - (((wts o).sum : Int) : Rat)) := by exact_mod_cast rfl
  rw [e]
theorem sum_snoc (a : List Rat) (x : Rat) : (a ++ [x]).sum = a.sum + x := by
  rw [List.sum_append, List.sum_cons, List.sum_nil]; grind
def sq2 (ws : List Rat) : Rat := (ws.map fun w => w * w).sum
theorem sq2_snoc (a : List Rat) (x : Rat) : sq2 (a ++ [x]) = sq2 a + x * x := by
  unfold sq2
  rw [List.map_append, List.sum_append, List.map_cons, List.map_nil, List.sum_cons, List.sum_nil]; grind
theorem ex_s1 {xs : List (Addr × Row)} {T : Int} (S : Sit xs T) (kvs : List (Key × V)) : ∀ m, m ≤ xs.length → ex T (ordS xs m) (fun o => (nums kvs T o).sum) = (m : Rat) * (((amts kvs xs).sum : Int) : Rat)
  | 0, _ => by
    show (0 : Rat) * rv (1, 1) + 0 = ((0 : Nat) : Rat) * _
    grind
  | m + 1, h => by
    have ih := ex_s1 S kvs m (by omega)
    have h1 := ex_one S m (by omega)
    rw [ex_step S kvs (by omega) _ (fun o => (nums kvs T o).sum) (fun _ => 1) (fun o ho x hx => by
      rw [nums_snoc kvs T o (S.ws x (List.mem_filter.mp hx).1), sum_snoc]; grind)]
    have e : (fun o : List (Addr × Row) => (nums kvs T o).sum + 1 * (((amts kvs xs).sum : Int) : Rat)) = fun o => 1 * (nums kvs T o).sum + (((amts kvs xs).sum : Int) : Rat) * 1 := by funext o; grind
    rw [e, ex_lin T 1 _ (fun o => (nums kvs T o).sum) (fun _ => 1), ih, h1]
    have e2 : ((m + 1 : Nat) : Rat) = (m : Rat) + 1 := by exact_mod_cast rfl
    rw [e2]
    grind
theorem ex_s2 {xs : List (Addr × Row)} {T : Int} (S : Sit xs T) (kvs : List (Key × V)) : ∀ m, m ≤ xs.length → ex T (ordS xs m) (fun o => (nums kvs T o).sum * (nums kvs T o).sum - sq2 (nums kvs T o)) = (m : Rat) * ((m : Rat) - 1) * ((((amts kvs xs).sum : Int) : Rat) * (((amts kvs xs).sum : Int) : Rat))
  | 0, _ => by
    show ((0 : Rat) * 0 - 0) * rv (1, 1) + 0 = ((0 : Nat) : Rat) * _ * _
    grind
  | m + 1, h => by
    have ih := ex_s2 S kvs m (by omega)
    have h1 := ex_s1 S kvs m (by omega)
    rw [ex_step S kvs (by omega) _ (fun o => (nums kvs T o).sum * (nums kvs T o).sum - sq2 (nums kvs T o)) (fun o => 2 * (nums kvs T o).sum) (fun o ho x hx => by
      rw [nums_snoc kvs T o (S.ws x (List.mem_filter.mp hx).1), sum_snoc, sq2_snoc]; grind)]
    have e : (fun o : List (Addr × Row) => (nums kvs T o).sum * (nums kvs T o).sum - sq2 (nums kvs T o) + 2 * (nums kvs T o).sum * (((amts kvs xs).sum : Int) : Rat)) = fun o => 1 * ((nums kvs T o).sum * (nums kvs T o).sum - sq2 (nums kvs T o)) + (2 * (((amts kvs xs).sum : Int) : Rat)) * (nums kvs T o).sum := by funext o; grind
    rw [e, ex_lin T 1 _ (fun o => (nums kvs T o).sum * (nums kvs T o).sum - sq2 (nums kvs T o)) (fun o => (nums kvs T o).sum), ih, h1]
    have e2 : ((m + 1 : Nat) : Rat) = (m : Rat) + 1 := by exact_mod_cast rfl
    rw [e2]
    grind
theorem ex_at {xs : List (Addr × Row)} {T : Int} (S : Sit xs T) (kvs : List (Key × V)) (k : Nat) : ∀ m, m ≤ xs.length → k < m → ex T (ordS xs m) (fun o => (nums kvs T o).getD k 0) = (((amts kvs xs).sum : Int) : Rat)
  | 0, _, h => by omega
  | m + 1, h, hk => by
    by_cases hkm : k = m
    · subst hkm
      rw [ex_step S kvs (by omega) _ (fun _ => 0) (fun _ => 1) (fun o ho x hx => by
        have hl := (ordS_good S.nd k o ho).2
        have hnl := nums_len kvs T o
        rw [nums_snoc kvs T o (S.ws x (List.mem_filter.mp hx).1), List.getD_eq_getElem?_getD, List.getElem?_append_right (by omega), hnl, hl, Nat.sub_self]
        show qE kvs T o x = _
        grind)]
      have e : (fun o : List (Addr × Row) => (0 : Rat) + 1 * (((amts kvs xs).sum : Int) : Rat)) = fun o => (((amts kvs xs).sum : Int) : Rat) * 1 + 0 * 1 := by funext o; grind
      rw [e, ex_lin T _ 0 (fun _ => 1) (fun _ => 1), ex_one S k (by omega)]
      grind
    · have ih := ex_at S kvs k m (by omega) (by omega)
      rw [ex_step S kvs (by omega) _ (fun o => (nums kvs T o).getD k 0) (fun _ => 0) (fun o ho x hx => by
        have hl := (ordS_good S.nd m o ho).2
        have hnl := nums_len kvs T o
        rw [nums_snoc kvs T o (S.ws x (List.mem_filter.mp hx).1), List.getD_eq_getElem?_getD, List.getElem?_append_left (by omega), ← List.getD_eq_getElem?_getD]
        grind)]
      have e : (fun o : List (Addr × Row) => (nums kvs T o).getD k 0 + 0 * (((amts kvs xs).sum : Int) : Rat)) = fun o => (nums kvs T o).getD k 0 := by funext o; grind
      rw [e]
      exact ih

/-! ### common denominators -/
def DenB (D n : Nat) (x : Rat) : Prop := ∃ z : Int, x * (D : Rat) = (z : Rat) ∧ z.natAbs ≤ 2 ^ n
theorem DenB.mono {D n m : Nat} {x : Rat} (h : DenB D n x) (l : n ≤ m) : DenB D m x := let ⟨z, h1, h2⟩ := h; ⟨z, h1, Nat.le_trans h2 (Nat.pow_le_pow_right (by decide) l)⟩
theorem DenB.add {D n : Nat} {x y : Rat} (h : DenB D n x) (g : DenB D n y) : DenB D (n + 1) (x + y) := by
  obtain ⟨z, h1, h2⟩ := h
  obtain ⟨t, g1, g2⟩ := g
  refine ⟨z + t, ?_, ?_⟩
  · have e : ((z + t : Int) : Rat) = (z : Rat) + (t : Rat) := by exact_mod_cast rfl
    rw [e, ← h1, ← g1]; grind
  · rw [Nat.pow_succ]; omega
theorem DenB.neg {D n : Nat} {x : Rat} (h : DenB D n x) : DenB D n (-x) := by
  obtain ⟨z, h1, h2⟩ := h
  refine ⟨-z, ?_, by omega⟩
  have e : ((-z : Int) : Rat) = -(z : Rat) := by exact_mod_cast rfl
  rw [e, ← h1]; grind
theorem DenB.sub {D n : Nat} {x y : Rat} (h : DenB D n x) (g : DenB D n y) : DenB D (n + 1) (x - y) := by
  have := h.add g.neg
  rw [show x - y = x + -y by grind]
  exact this
theorem DenB.mul {D E n m : Nat} {x y : Rat} (h : DenB D n x) (g : DenB E m y) : DenB (D * E) (n + m) (x * y) := by
  obtain ⟨z, h1, h2⟩ := h
  obtain ⟨t, g1, g2⟩ := g
  refine ⟨z * t, ?_, ?_⟩
  · have e : ((z * t : Int) : Rat) = (z : Rat) * (t : Rat) := by exact_mod_cast rfl
    have e2 : ((D * E : Nat) : Rat) = (D : Rat) * (E : Rat) := by exact_mod_cast rfl
    rw [e, e2, ← h1, ← g1]; grind
  · rw [Int.natAbs_mul, Nat.pow_add]
    exact Nat.mul_le_mul h2 g2
theorem DenB.int {D d n : Nat} {z : Int} (hD : D ≤ 2 ^ d) (h : z.natAbs ≤ 2 ^ n) : DenB D (n + d) (z : Rat) := by
  refine ⟨z * (D : Int), by exact_mod_cast rfl, ?_⟩
  rw [Int.natAbs_mul, Int.natAbs_natCast, Nat.pow_add]
  exact Nat.mul_le_mul h hD
theorem DenB.up {D E n e : Nat} {x : Rat} (h : DenB D n x) (hE : E ≤ 2 ^ e) : DenB (D * E) (n + e) x := by
  obtain ⟨z, h1, h2⟩ := h
  refine ⟨z * (E : Int), ?_, ?_⟩
  · have e : ((z * (E : Int) : Int) : Rat) = (z : Rat) * (E : Rat) := by exact_mod_cast rfl
    have e2 : ((D * E : Nat) : Rat) = (D : Rat) * (E : Rat) := by exact_mod_cast rfl
    rw [e, e2, ← h1]; grind
  · rw [Int.natAbs_mul, Int.natAbs_natCast, Nat.pow_add]
    exact Nat.mul_le_mul h2 hE
theorem DenB.div6 {D n k : Nat} {x : Rat} (h : DenB D n x) (hk : k = 1 ∨ k = 2 ∨ k = 3 ∨ k = 6) : DenB (D * 6) (n + 3) (x / (k : Rat)) := by
  obtain ⟨z, h1, h2⟩ := h
  obtain ⟨q, hq, hq6⟩ : ∃ q : Nat, k * q = 6 ∧ q ≤ 6 := by
    rcases hk with rfl | rfl | rfl | rfl
    · exact ⟨6, rfl, by decide⟩
    · exact ⟨3, rfl, by decide⟩
    · exact ⟨2, rfl, by decide⟩
    · exact ⟨1, rfl, by decide⟩
  refine ⟨z * (q : Int), ?_, ?_⟩
  · have e : ((z * (q : Int) : Int) : Rat) = (z : Rat) * (q : Rat) := by exact_mod_cast rfl
    have e2 : ((D * 6 : Nat) : Rat) = (D : Rat) * ((k : Rat) * (q : Rat)) := by rw [← hq]; exact_mod_cast rfl
    have hk0 := castNe (n := k) (by omega)
    rw [e, e2, ← h1]; grind
  · rw [Int.natAbs_mul, Int.natAbs_natCast, Nat.pow_add]
    exact Nat.mul_le_mul h2 (Nat.le_trans hq6 (by decide))
theorem DenB.sum3 {D n : Nat} : ∀ {l : List Rat}, l.length ≤ 3 → (∀ x ∈ l, DenB D n x) → DenB D (n + 2) l.sum
  | [], _, _ => ⟨0, by show (0 : Rat) * _ = ((0 : Int) : Rat); grind, by simp⟩
  | [a], _, h => by
    rw [show [a].sum = a by show a + 0 = a; grind]
    exact (h a (by simp)).mono (by omega)
  | [a, b], _, h => by
    rw [show [a, b].sum = a + b by show a + (b + 0) = a + b; grind]
    exact ((h a (by simp)).add (h b (by simp))).mono (by omega)
  | [a, b, c], _, h => by
    rw [show [a, b, c].sum = (a + b) + c by show a + (b + (c + 0)) = _; grind]
    exact ((h a (by simp)).add (h b (by simp))).add ((h c (by simp)).mono (by omega))
  | _ :: _ :: _ :: _ :: r, h, _ => by simp at h
theorem DenB.sumN {D n : Nat} : ∀ {l : List Rat}, (∀ x ∈ l, DenB D n x) → ∃ z : Int, l.sum * (D : Rat) = (z : Rat) ∧ z.natAbs ≤ l.length * 2 ^ n
  | [], _ => ⟨0, by show (0 : Rat) * _ = ((0 : Int) : Rat); grind, by simp⟩
  | a :: r, h => by
    obtain ⟨z, h1, h2⟩ := h a (by simp)
    obtain ⟨t, g1, g2⟩ := DenB.sumN (l := r) fun x hx => h x (by simp [hx])
    refine ⟨z + t, ?_, ?_⟩
    · have e : ((z + t : Int) : Rat) = (z : Rat) + (t : Rat) := by exact_mod_cast rfl
      rw [List.sum_cons, e, ← h1, ← g1]; grind
    · rw [List.length_cons, Nat.add_mul]; omega
theorem DenB.sum64 {D n : Nat} {l : List Rat} (hl : l.length ≤ 64) (h : ∀ x ∈ l, DenB D n x) : DenB D (n + 6) l.sum := by
  obtain ⟨z, h1, h2⟩ := DenB.sumN h
  refine ⟨z, h1, Nat.le_trans h2 ?_⟩
  rw [Nat.pow_add, Nat.mul_comm]
  exact Nat.mul_le_mul (Nat.le_refl _) (Nat.le_trans hl (by decide))
/-- what a common denominator says of a fraction in lowest terms -/
theorem den_B {D n d k : Nat} {f : Fr} (hL : Low f) (h : DenB D n (rv f)) (hD1 : 1 ≤ D) (hD : D ≤ 2 ^ d) (hd : d < k) (hn : n < k) : FrB k f := by
  obtain ⟨z, h1, h2⟩ := h
  obtain ⟨p, q⟩ := f
  have hq1 : 1 ≤ q := hL.1
  have hco : Nat.gcd p.natAbs q.natAbs = 1 := hL.2
  have hq0 : (q : Rat) ≠ 0 := ratNe (by omega)
  have e : p * (D : Int) = z * q := by
    have : (p : Rat) * (D : Rat) = (z : Rat) * (q : Rat) := by
      rw [← h1]; unfold rv; grind
    exact_mod_cast this
  have e2 : p.natAbs * D = z.natAbs * q.natAbs := by
    have := congrArg Int.natAbs e
    rwa [Int.natAbs_mul, Int.natAbs_mul, Int.natAbs_natCast] at this
  have hdv : q.natAbs ∣ D := by
    have h3 : q.natAbs ∣ p.natAbs * D := ⟨z.natAbs, by rw [e2, Nat.mul_comm]⟩
    exact Nat.Coprime.dvd_of_dvd_mul_left (show Nat.Coprime q.natAbs p.natAbs from (Nat.gcd_comm _ _).trans hco) h3
  obtain ⟨c, hc⟩ := hdv
  have hc1 : 1 ≤ c := by
    rcases Nat.eq_zero_or_pos c with z | z
    · rw [z] at hc; omega
    · exact z
  have hp : p.natAbs ≤ z.natAbs := by
    rw [hc, ← Nat.mul_assoc, Nat.mul_right_comm] at e2
    have h5 : p.natAbs * c = z.natAbs := Nat.eq_of_mul_eq_mul_right (show 0 < q.natAbs by omega) e2
    rw [← h5]
    exact Nat.le_mul_of_pos_right _ hc1
  have hq : q.natAbs ≤ D := Nat.le_of_dvd hD1 ⟨c, hc⟩
  exact ⟨Nat.lt_of_le_of_lt hp (Nat.lt_of_le_of_lt h2 (Nat.pow_lt_pow_right (by decide) hn)), Nat.lt_of_le_of_lt hq (Nat.lt_of_le_of_lt hD (Nat.pow_lt_pow_right (by decide) hd))⟩
/-! products of a list -/
def prodN : List Nat → Nat
  | [] => 1
  | x :: r => x * prodN r
theorem prodN_le {b : Nat} : ∀ {l : List Nat}, (∀ x ∈ l, 1 ≤ x ∧ x ≤ 2 ^ b) → 1 ≤ prodN l ∧ prodN l ≤ 2 ^ (b * l.length)
  | [], _ => by simp [prodN]
  | x :: r, h => by
    have h1 := h x (by simp)
    have h2 := prodN_le (l := r) fun z hz => h z (by simp [hz])
    refine ⟨Nat.mul_le_mul h1.1 h2.1, ?_⟩
    show x * prodN r ≤ _
    rw [List.length_cons, Nat.mul_add, Nat.mul_one, Nat.add_comm, Nat.pow_add]
    exact Nat.mul_le_mul h1.2 h2.2
theorem prodN_mem : ∀ {l : List Nat} {x : Nat}, x ∈ l → ∃ c, prodN l = x * c
  | [], _, h => by cases h
  | y :: r, x, h => by
    rcases List.mem_cons.mp h with rfl | h
    · exact ⟨prodN r, rfl⟩
    · obtain ⟨c, hc⟩ := prodN_mem h
      exact ⟨y * c, by show y * prodN r = _; rw [hc]; exact Nat.mul_left_comm _ _ _⟩
/-- p / x, where x divides D -/
theorem den_frac {D d n : Nat} {p x : Int} {c : Nat} (hx : 1 ≤ x) (hD : D = x.natAbs * c) (hD1 : 1 ≤ D) (hDd : D ≤ 2 ^ d) (hp : p.natAbs ≤ 2 ^ n) : DenB D (n + d) ((p : Rat) / (x : Rat)) := by
  refine ⟨p * (c : Int), ?_, ?_⟩
  · have e : ((p * (c : Int) : Int) : Rat) = (p : Rat) * (c : Rat) := by exact_mod_cast rfl
    have hx0 : (x : Rat) ≠ 0 := ratNe (by omega)
    have e2 : (D : Rat) = (x : Rat) * (c : Rat) := by
      have : (D : Int) = x * (c : Int) := by
        rw [hD, Int.natCast_mul]
        congr 1
        omega
      exact_mod_cast this
    rw [e, e2]; grind
  · rw [Int.natAbs_mul, Int.natAbs_natCast, Nat.pow_add]
    refine Nat.mul_le_mul hp (Nat.le_trans ?_ hDd)
    rw [hD]
    exact Nat.le_mul_of_pos_left _ (by omega)
/-! the denominators of all orders -/
def dW (xs : List (Addr × Row)) : Nat := prodN (xs.map fun x => x.2.w.natAbs)
def mx1 (z : Int) : Nat := if z < 1 then 1 else z.natAbs
def d1 (T : Int) (xs : List (Addr × Row)) : Nat := prodN (xs.map fun x => mx1 (T - x.2.w))
def d2 (T : Int) (xs : List (Addr × Row)) : Nat := prodN (xs.flatMap fun x => xs.map fun y => mx1 (T - (x.2.w + y.2.w)))
theorem mx1_B {z : Int} (h : z ≤ 8000) : 1 ≤ mx1 z ∧ mx1 z ≤ 2 ^ 13 := by
  unfold mx1
  split
  · exact ⟨by decide, by decide⟩
  · exact ⟨by omega, by omega⟩
structure Sit5 (xs : List (Addr × Row)) (T : Int) : Prop extends Sit xs T where
  n1 : 1 ≤ xs.length
  n5 : xs.length ≤ 5
theorem Sit5.T1 {xs : List (Addr × Row)} {T : Int} (S : Sit5 xs T) : 1 ≤ T ∧ T ≤ 5000 := by
  have h := sum_leI (c := 1000) (l := wts xs) fun z hz => by
    obtain ⟨x, hx, rfl⟩ := List.mem_map.mp hz
    have := S.ws x hx
    exact ⟨by have := this.w0; omega, this.w1⟩
  have h2 := sum_geI (l := wts xs) fun z hz => by
    obtain ⟨x, hx, rfl⟩ := List.mem_map.mp hz
    exact (S.ws x hx).w0
  have hl : (wts xs).length = xs.length := by unfold wts; rw [List.length_map]
  have := S.n1
  have := S.n5
  rw [hl] at h h2
  rw [S.tot] at h h2
  omega
theorem dW_B {xs : List (Addr × Row)} {T : Int} (S : Sit5 xs T) : 1 ≤ dW xs ∧ dW xs ≤ 2 ^ 50 := by
  have h := prodN_le (b := 10) (l := xs.map fun x => x.2.w.natAbs) fun z hz => by
    obtain ⟨x, hx, rfl⟩ := List.mem_map.mp hz
    have := (S.ws x hx).w0
    have := (S.ws x hx).w1
    exact ⟨by omega, by omega⟩
  rw [List.length_map] at h
  exact ⟨h.1, Nat.le_trans h.2 (Nat.pow_le_pow_right (by decide) (by have := S.n5; omega))⟩
theorem d1_B {xs : List (Addr × Row)} {T : Int} (S : Sit5 xs T) : 1 ≤ d1 T xs ∧ d1 T xs ≤ 2 ^ 65 := by
  have hT := S.T1
  have h := prodN_le (b := 13) (l := xs.map fun x => mx1 (T - x.2.w)) fun z hz => by
    obtain ⟨x, hx, rfl⟩ := List.mem_map.mp hz
    have := (S.ws x hx).w0
    exact mx1_B (by omega)
  rw [List.length_map] at h
  exact ⟨h.1, Nat.le_trans h.2 (Nat.pow_le_pow_right (by decide) (by have := S.n5; omega))⟩
theorem d2_B {xs : List (Addr × Row)} {T : Int} (S : Sit5 xs T) : 1 ≤ d2 T xs ∧ d2 T xs ≤ 2 ^ 325 := by
  have hT := S.T1
  have h := prodN_le (b := 13) (l := xs.flatMap fun x => xs.map fun y => mx1 (T - (x.2.w + y.2.w))) fun z hz => by
    obtain ⟨x, hx, h2⟩ := List.mem_flatMap.mp hz
    obtain ⟨y, hy, rfl⟩ := List.mem_map.mp h2
    have := (S.ws x hx).w0
    have := (S.ws y hy).w0
    exact mx1_B (by omega)
  have hl : (xs.flatMap fun x => xs.map fun y => mx1 (T - (x.2.w + y.2.w))).length ≤ 25 := by
    have : ∀ L : List (Addr × Row), (L.flatMap fun x => xs.map fun y => mx1 (T - (x.2.w + y.2.w))).length = xs.length * L.length := by
      intro L
      induction L with
      | nil => rfl
      | cons a r ih => rw [List.flatMap_cons, List.length_append, List.length_map, ih, List.length_cons, Nat.mul_add]; omega
    rw [this]
    exact Nat.mul_le_mul S.n5 S.n5
  exact ⟨h.1, Nat.le_trans h.2 (Nat.pow_le_pow_right (by decide) (by omega))⟩
def dC (T : Int) (xs : List (Addr × Row)) : Nat := T.natAbs * (d1 T xs * d2 T xs)
theorem dC_B {xs : List (Addr × Row)} {T : Int} (S : Sit5 xs T) : 1 ≤ dC T xs ∧ dC T xs ≤ 2 ^ 403 := by
  have hT := S.T1
  have h1 := d1_B S
  have h2 := d2_B S
  refine ⟨Nat.mul_le_mul (show 1 ≤ T.natAbs by omega) (Nat.mul_le_mul h1.1 h2.1), ?_⟩
  have h3 : T.natAbs * (d1 T xs * d2 T xs) ≤ 2 ^ 13 * (2 ^ 65 * 2 ^ 325) := Nat.mul_le_mul (show T.natAbs ≤ 2 ^ 13 by omega) (Nat.mul_le_mul h1.2 h2.2)
  rw [← Nat.pow_add, ← Nat.pow_add] at h3
  exact h3
theorem mx1_eq {z : Int} (h : 1 ≤ z) : mx1 z = z.natAbs := by unfold mx1; rw [if_neg (by omega)]
/-- the chance of an order of at most three -/
theorem ch_D {xs : List (Addr × Row)} {T : Int} (S : Sit5 xs T) {m : Nat} (hm : m ≤ 3) (hmn : m ≤ xs.length) : ∀ o ∈ ordS xs m, DenB (dC T xs) 440 (ch T o) := by
  have hT := S.T1
  have h1 := d1_B S
  have h2 := d2_B S
  have step : ∀ (o : List (Addr × Row)) (x : Addr × Row), GoodO xs o → o.length < xs.length → x ∈ rem xs o → ch T (o ++ [x]) = ch T o * ((x.2.w : Rat) / ((T - (wts o).sum : Int) : Rat)) := fun o x g hl hx => by
    have hp := S.left_pos g hl
    unfold ch
    rw [chF_snoc, if_neg (by omega), rv_ftimes (chF_low T _ o rfl).ne (lo_low (by omega)).ne, rv_lo (by omega)]
  have hwB : ∀ x ∈ xs, x.2.w.natAbs ≤ 2 ^ 10 := fun x hx => by
    have := (S.ws x hx).w0
    have := (S.ws x hx).w1
    omega
  have c0 : ch T [] = 1 := by show rv (1, 1) = 1; rw [rv_int]; rfl
  have hone : DenB 1 0 (1 : Rat) := ⟨1, by show (1 : Rat) * ((1 : Nat) : Rat) = ((1 : Int) : Rat); grind, by decide⟩
  have t1 : ∀ x ∈ xs, DenB T.natAbs 23 ((x.2.w : Rat) / ((T - (wts []).sum : Int) : Rat)) := fun x hx => by
    have e : T - (wts []).sum = T := by show T - 0 = T; omega
    rw [e]
    exact den_frac (d := 13) (n := 10) (c := 1) hT.1 (by omega) (by omega) (by omega) (hwB x hx)
  have t2 : ∀ a ∈ xs, ∀ x ∈ xs, 1 ≤ T - (wts [a]).sum → DenB (d1 T xs) 75 ((x.2.w : Rat) / ((T - (wts [a]).sum : Int) : Rat)) := fun a ha x hx hp => by
    have e : (wts [a]).sum = a.2.w := by show a.2.w + 0 = a.2.w; omega
    rw [e] at hp ⊢
    obtain ⟨c, hc⟩ := prodN_mem (l := xs.map fun x => mx1 (T - x.2.w)) (x := mx1 (T - a.2.w)) (List.mem_map.mpr ⟨a, ha, rfl⟩)
    rw [mx1_eq hp] at hc
    exact den_frac (d := 65) (n := 10) hp hc h1.1 h1.2 (hwB x hx)
  have t3 : ∀ a ∈ xs, ∀ b ∈ xs, ∀ x ∈ xs, 1 ≤ T - (wts [a, b]).sum → DenB (d2 T xs) 335 ((x.2.w : Rat) / ((T - (wts [a, b]).sum : Int) : Rat)) := fun a ha b hb x hx hp => by
    have e : (wts [a, b]).sum = a.2.w + b.2.w := by show a.2.w + (b.2.w + 0) = _; omega
    rw [e] at hp ⊢
    obtain ⟨c, hc⟩ := prodN_mem (l := xs.flatMap fun x => xs.map fun y => mx1 (T - (x.2.w + y.2.w))) (x := mx1 (T - (a.2.w + b.2.w))) (List.mem_flatMap.mpr ⟨a, ha, List.mem_map.mpr ⟨b, hb, rfl⟩⟩)
    rw [mx1_eq hp] at hc
    exact den_frac (d := 325) (n := 10) hp hc h2.1 h2.2 (hwB x hx)
  have g0 := good_nil xs
  have full : ∀ {D n : Nat} {x : Rat}, D ≤ 2 ^ 0 → True := fun _ => trivial
  intro o ho
  have h12 : d1 T xs * d2 T xs ≤ 2 ^ 390 := by
    have := Nat.mul_le_mul h1.2 h2.2
    rwa [← Nat.pow_add] at this
  match m, hm, ho with
  | 0, _, ho =>
    rw [List.mem_singleton.mp ho, c0]
    have := DenB.int (d := 403) (n := 0) (z := 1) (dC_B S).2 (by decide)
    exact (show DenB (dC T xs) (0 + 403) (1 : Rat) from by rw [show (1 : Rat) = ((1 : Int) : Rat) by rfl]; exact this).mono (by decide)
  | 1, _, ho =>
    obtain ⟨o0, h0, hx0⟩ := List.mem_flatMap.mp ho
    rw [List.mem_singleton.mp h0] at hx0
    obtain ⟨a, ha, rfl⟩ := List.mem_map.mp hx0
    have ham := (List.mem_filter.mp ha).1
    rw [step [] a g0 (by show 0 < _; omega) ha, c0]
    rw [show (1 : Rat) * ((a.2.w : Rat) / ((T - (wts []).sum : Int) : Rat)) = (a.2.w : Rat) / ((T - (wts []).sum : Int) : Rat) by grind]
    exact ((t1 a ham).up h12).mono (by decide)
  | 2, _, ho =>
    obtain ⟨o1, h1', hx1⟩ := List.mem_flatMap.mp ho
    obtain ⟨b, hb, rfl⟩ := List.mem_map.mp hx1
    have hbm := (List.mem_filter.mp hb).1
    have g1 := ordS_good S.nd 1 o1 h1'
    obtain ⟨o0, h0, hx0⟩ := List.mem_flatMap.mp h1'
    rw [List.mem_singleton.mp h0] at hx0
    obtain ⟨a, ha, rfl⟩ := List.mem_map.mp hx0
    have ham := (List.mem_filter.mp ha).1
    have hp := S.left_pos g1.1 (by omega)
    rw [step _ b g1.1 (by omega) hb]
    rw [show ([] : List (Addr × Row)) ++ [a] = [a] from rfl] at hp ⊢
    rw [show ch T [a] = (a.2.w : Rat) / ((T - (wts []).sum : Int) : Rat) by
      have := step [] a g0 (by show 0 < _; omega) ha
      rw [c0] at this
      rw [show ([] : List (Addr × Row)) ++ [a] = [a] from rfl] at this
      rw [this]; grind]
    have h := ((t1 a ham).mul ((t2 a ham b hbm hp).up h2.2))
    exact h.mono (by decide)
  | 3, _, ho =>
    obtain ⟨o2, h2', hx2⟩ := List.mem_flatMap.mp ho
    obtain ⟨c, hc, rfl⟩ := List.mem_map.mp hx2
    have hcm := (List.mem_filter.mp hc).1
    have g2 := ordS_good S.nd 2 o2 h2'
    obtain ⟨o1, h1', hx1⟩ := List.mem_flatMap.mp h2'
    obtain ⟨b, hb, rfl⟩ := List.mem_map.mp hx1
    have hbm := (List.mem_filter.mp hb).1
    have g1 := ordS_good S.nd 1 o1 h1'
    obtain ⟨o0, h0, hx0⟩ := List.mem_flatMap.mp h1'
    rw [List.mem_singleton.mp h0] at hx0
    obtain ⟨a, ha, rfl⟩ := List.mem_map.mp hx0
    have ham := (List.mem_filter.mp ha).1
    have hp1 := S.left_pos g1.1 (by omega)
    have hp2 := S.left_pos g2.1 (by omega)
    rw [step _ c g2.1 (by omega) hc, step _ b g1.1 (by omega) hb]
    rw [show ([] : List (Addr × Row)) ++ [a] = [a] from rfl] at hp1 hp2 ⊢
    rw [show [a] ++ [b] = [a, b] from rfl] at hp2 ⊢
    rw [show ch T [a] = (a.2.w : Rat) / ((T - (wts []).sum : Int) : Rat) by
      have := step [] a g0 (by show 0 < _; omega) ha
      rw [c0] at this
      rw [show ([] : List (Addr × Row)) ++ [a] = [a] from rfl] at this
      rw [this]; grind]
    have h := (t1 a ham).mul ((t2 a ham b hbm hp1).mul (t3 a ham b hbm c hcm hp2))
    rw [← show (a.2.w : Rat) / ((T - (wts []).sum : Int) : Rat) * ((b.2.w : Rat) / ((T - (wts [a]).sum : Int) : Rat) * ((c.2.w : Rat) / ((T - (wts [a, b]).sum : Int) : Rat))) = (a.2.w : Rat) / ((T - (wts []).sum : Int) : Rat) * ((b.2.w : Rat) / ((T - (wts [a]).sum : Int) : Rat)) * ((c.2.w : Rat) / ((T - (wts [a, b]).sum : Int) : Rat)) by grind]
    exact h.mono (by decide)

/-! ### what the law asks, over all orders -/
theorem nums_D {xs : List (Addr × Row)} {T : Int} (S : Sit5 xs T) {kvs : List (Key × V)} (ho : AmtOk kvs) : ∀ (m : Nat) (o : List (Addr × Row)), o.length = m → m ≤ 3 → (∀ x ∈ o, x ∈ xs) → ∀ v ∈ nums kvs T o, DenB (dW xs) 68 v
  | 0, o, h, _, _ => by
    rw [List.length_eq_zero_iff.mp h]
    intro v hv; cases hv
  | m + 1, o, h, h3, hs => by
    have hne : o ≠ [] := fun z => by rw [z] at h; simp at h
    have e := (List.dropLast_concat_getLast hne).symm
    have hl : o.dropLast.length = m := by rw [List.length_dropLast]; omega
    rw [e] at hs ⊢
    generalize o.getLast hne = x at hs ⊢
    generalize o.dropLast = us at hl hs ⊢
    have hxm := hs x (by simp)
    have hu : ∀ x ∈ us, x ∈ xs := fun z hz => hs z (by simp [hz])
    rw [nums_snoc kvs T us (S.ws x hxm)]
    refine mem_append_one (nums_D S ho m us hl (by omega) hu) ?_
    have hT := S.T1
    have hw := wts_B (ps := us) (fun z hz => S.ws z (hu z hz)) (by omega)
    have ha := amts_S ho (ps := us) (by omega)
    have hd := dW_B S
    obtain ⟨c, hc⟩ := prodN_mem (l := xs.map fun x => x.2.w.natAbs) (x := x.2.w.natAbs) (List.mem_map.mpr ⟨x, hxm, rfl⟩)
    have hb := DenB.int (D := dW xs) (d := 50) (n := 5) (z := (amts kvs us).sum) hd.2 (by omega)
    have hf := den_frac (D := dW xs) (d := 50) (n := 17) (p := amt kvs x.2.k * (T - (wts us).sum)) (x := x.2.w) (S.ws x hxm).w0 hc hd.1 hd.2 (Nat.le_of_lt (amt_mul_B (amt_le ho _) (by omega)))
    have e2 : qE kvs T us x = (((amts kvs us).sum : Int) : Rat) + ((amt kvs x.2.k * (T - (wts us).sum) : Int) : Rat) / ((x.2.w : Int) : Rat) := by
      unfold qE
      have : ((amt kvs x.2.k * (T - (wts us).sum) : Int) : Rat) = ((amt kvs x.2.k : Int) : Rat) * ((T : Rat) - (((wts us).sum : Int) : Rat)) := by exact_mod_cast rfl
      rw [this]
    rw [e2]
    exact (hb.mono (show 55 ≤ 67 by decide)).add hf
theorem Sit5.whole {xs : List (Addr × Row)} {T : Int} (S : Sit5 xs T) {o : List (Addr × Row)} (g : GoodO xs o) : (wts o).sum = T ↔ o.length = xs.length := by
  constructor
  · intro h
    refine Decidable.byContradiction fun z => ?_
    have := g.len
    have := S.left_pos g (by omega)
    omega
  · intro h
    have h1 := S.left g
    have h2 := g.len
    have e : rem xs o = [] := List.length_eq_zero_iff.mp (by omega)
    rw [e] at h1
    have : T - (wts o).sum = 0 := h1
    omega
theorem whole_amts {xs o : List (Addr × Row)} (kvs : List (Key × V)) (g : GoodO xs o) (h : o.length = xs.length) : (amts kvs o).sum = (amts kvs xs).sum := by
  have h1 := g.fi fun x => amt kvs x.2.k
  have h2 := g.len
  have e : rem xs o = [] := List.length_eq_zero_iff.mp (by omega)
  rw [e] at h1
  have h3 : (0 : Int) + (amts kvs o).sum = (amts kvs xs).sum := h1
  omega
theorem numsR_D {xs : List (Addr × Row)} {T : Int} (S : Sit5 xs T) {kvs : List (Key × V)} (ho : AmtOk kvs) {m : Nat} {o : List (Addr × Row)} (hl : o.length = m) (h1 : 1 ≤ m) (h3 : m ≤ 3) (hs : ∀ x ∈ o, x ∈ xs) : (∀ v ∈ numsR kvs T o, DenB (dW xs) 68 v) ∧ 1 ≤ (numsR kvs T o).length ∧ (numsR kvs T o).length ≤ 3 := by
  unfold numsR
  split
  · refine ⟨fun v hv => ?_, Nat.le_refl 1, show (1 : Nat) ≤ 3 by decide⟩
    rw [List.mem_singleton.mp hv]
    have ha := amts_S ho (ps := o) (by omega)
    exact (DenB.int (D := dW xs) (d := 50) (n := 5) (dW_B S).2 (by omega)).mono (by decide)
  · refine ⟨nums_D S ho m o hl h3 hs, ?_, ?_⟩
    · have := nums_len kvs T o; unfold nums at this; omega
    · have := nums_len kvs T o; unfold nums at this; omega
theorem mean_D {D n : Nat} {l : List Rat} (h : ∀ v ∈ l, DenB D n v) (h1 : 1 ≤ l.length) (h3 : l.length ≤ 3) : DenB (D * 6) (n + 5) (meanR l) := by
  unfold meanR
  exact (DenB.sum3 h3 h).div6 (by omega)
def dE (xs : List (Addr × Row)) : Nat := dW xs * 6
theorem dE_B {xs : List (Addr × Row)} {T : Int} (S : Sit5 xs T) : 1 ≤ dE xs ∧ dE xs ≤ 2 ^ 53 := by
  have h := dW_B S
  unfold dE
  omega
def dV (xs : List (Addr × Row)) : Nat := dE xs * (dE xs * 6)
theorem dV2_B {xs : List (Addr × Row)} {T : Int} (S : Sit5 xs T) : 1 ≤ dE xs * 6 ∧ dE xs * 6 ≤ 2 ^ 56 := by
  have h := dE_B S
  omega
theorem dV_B {xs : List (Addr × Row)} {T : Int} (S : Sit5 xs T) : 1 ≤ dV xs ∧ dV xs ≤ 2 ^ 109 := by
  have h1 := dE_B S
  have h2 := dV2_B S
  refine ⟨Nat.mul_le_mul h1.1 h2.1, ?_⟩
  have := Nat.mul_le_mul h1.2 h2.2
  rwa [← Nat.pow_add] at this
theorem sq_D {xs : List (Addr × Row)} {T : Int} (S : Sit5 xs T) {l : List Rat} (h : ∀ v ∈ l, DenB (dW xs) 68 v) (h1 : 1 ≤ l.length) (h3 : l.length ≤ 3) : DenB (dE xs * dE xs) 150 (sqR l) := by
  have hm := mean_D h h1 h3
  unfold sqR
  refine DenB.sum3 (n := 148) (by rw [List.length_map]; exact h3) fun z hz => ?_
  obtain ⟨v, hv, rfl⟩ := List.mem_map.mp hz
  have hv2 : DenB (dE xs) 73 v := ((h v hv).up (E := 6) (e := 3) (by decide)).mono (by decide)
  have hd : DenB (dE xs) 74 (v - meanR l) := hv2.sub hm
  exact hd.mul hd
theorem varR_D {xs : List (Addr × Row)} {T : Int} (S : Sit5 xs T) {kvs : List (Key × V)} (ho : AmtOk kvs) {m : Nat} {o : List (Addr × Row)} (hl : o.length = m) (h1 : 1 ≤ m) (h3 : m ≤ 3) (hs : ∀ x ∈ o, x ∈ xs) (hv : ¬ (o.length = 1 ∧ (wts o).sum ≠ T)) : DenB (dV xs) 153 (varR kvs T o) := by
  have hd := dV_B S
  by_cases hw : (wts o).sum = T
  · unfold varR
    rw [if_pos hw]
    have := DenB.int (D := dV xs) (d := 109) (n := 0) (z := 0) hd.2 (by decide)
    exact (show DenB (dV xs) (0 + 109) (0 : Rat) from this).mono (by decide)
  · have hR := numsR_D S ho hl h1 h3 hs
    unfold numsR at hR
    rw [if_neg hw] at hR
    unfold varR
    rw [if_neg hw]
    have hq := sq_D S hR.1 hR.2.1 hR.2.2
    have h2 : 2 ≤ o.length := by omega
    have hk : o.length * (o.length - 1) = 2 ∨ o.length * (o.length - 1) = 6 := by
      have : o.length = 2 ∨ o.length = 3 := by omega
      rcases this with z | z <;> rw [z]
      · exact .inl rfl
      · exact .inr rfl
    have h6 := hq.div6 (k := o.length * (o.length - 1)) (by omega)
    have e : dE xs * dE xs * 6 = dV xs := Nat.mul_assoc _ _ _
    rw [e] at h6
    rw [show 1 / ((o.length * (o.length - 1) : Nat) : Rat) * sqR ((ordF kvs 0 T o).map rv) = sqR ((ordF kvs 0 T o).map rv) / ((o.length * (o.length - 1) : Nat) : Rat) by grind]
    exact h6
/-- the one denominator of all sums, and its bound -/
def dA (T : Int) (xs : List (Addr × Row)) : Nat := dV xs * dC T xs
theorem dA_B {xs : List (Addr × Row)} {T : Int} (S : Sit5 xs T) : 1 ≤ dA T xs ∧ dA T xs ≤ 2 ^ 512 := by
  have h1 := dV_B S
  have h2 := dC_B S
  refine ⟨Nat.mul_le_mul h1.1 h2.1, ?_⟩
  have := Nat.mul_le_mul h1.2 h2.2
  rwa [← Nat.pow_add] at this
structure TermD (kvs : List (Key × V)) (T : Int) (xs o : List (Addr × Row)) : Prop where
  est : DenB (dA T xs) 650 (meanR (numsR kvs T o) * ch T o)
  var : ¬ (o.length = 1 ∧ (wts o).sum ≠ T) → DenB (dA T xs) 650 (varR kvs T o * ch T o)
  sp : DenB (dA T xs) 650 (ch T o * ((meanR (numsR kvs T o) - (((amts kvs xs).sum : Int) : Rat)) * (meanR (numsR kvs T o) - (((amts kvs xs).sum : Int) : Rat))))
  at_ : ∀ v ∈ numsR kvs T o, DenB (dA T xs) 650 (v * ch T o)
theorem term_D {xs : List (Addr × Row)} {T : Int} (S : Sit5 xs T) {kvs : List (Key × V)} (ho : AmtOk kvs) {m : Nat} (h1 : 1 ≤ m) (h3 : m ≤ 3) (hmn : m ≤ xs.length) {o : List (Addr × Row)} (hm : o ∈ ordS xs m) : TermD kvs T xs o := by
  obtain ⟨g, hl⟩ := ordS_good S.nd m o hm
  have hc := ch_D S h3 hmn o hm
  have hR := numsR_D S ho hl h1 h3 g.sub
  have he : DenB (dE xs) 73 (meanR (numsR kvs T o)) := mean_D hR.1 hR.2.1 hR.2.2
  have h6 := (dV2_B S).2
  have hab := sum_absI (c := 10) (l := amts kvs xs) (amts_B ho)
  have hal : (amts kvs xs).length = xs.length := by unfold amts; rw [List.length_map]
  have hS6 : (amts kvs xs).sum.natAbs ≤ 2 ^ 6 := by rw [hal] at hab; have := S.n5; omega
  have hS : DenB (dE xs) 73 (((amts kvs xs).sum : Int) : Rat) := (DenB.int (d := 53) (n := 6) (dE_B S).2 hS6).mono (by decide)
  have hdf := he.sub hS
  have hsq : DenB (dV xs) 151 _ := (show DenB (dE xs * dE xs * 6) _ _ from (hdf.mul hdf).up (E := 6) (e := 3) (by decide)) |> fun z => by rw [Nat.mul_assoc] at z; exact z
  refine ⟨?_, fun hv => ?_, ?_, fun v hv => ?_⟩
  · exact (((he.up h6 : DenB (dV xs) _ _).mul hc : DenB (dA T xs) _ _)).mono (by decide)
  · exact ((varR_D S ho hl h1 h3 g.sub hv).mul hc : DenB (dA T xs) _ _).mono (by decide)
  · rw [Rat.mul_comm]
    exact (hsq.mul hc : DenB (dA T xs) _ _).mono (by decide)
  · have hv2 : DenB (dE xs) 71 v := (hR.1 v hv).up (E := 6) (e := 3) (by decide)
    exact ((hv2.up h6 : DenB (dV xs) _ _).mul hc : DenB (dA T xs) _ _).mono (by decide)
/-! the values -/
theorem ex_scale {T : Int} (a : Rat) (f : List (Addr × Row) → Rat) (L : List (List (Addr × Row))) : ex T L (fun o => a * f o) = a * ex T L f := by
  have := ex_lin T a 0 f (fun _ => 0) L
  rw [show (fun o => a * f o) = fun o => a * f o + 0 * (0 : Rat) by funext o; grind, this]
  grind
theorem sq_around (m : Rat) : ∀ ws : List Rat, (ws.map fun w => (w - m) * (w - m)).sum = sq2 ws - 2 * m * ws.sum + (ws.length : Rat) * (m * m)
  | [] => by show (0 : Rat) = 0 - 2 * m * 0 + ((0 : Nat) : Rat) * (m * m); grind
  | w :: r => by
    have ih := sq_around m r
    have e : ((r.length + 1 : Nat) : Rat) = (r.length : Rat) + 1 := by exact_mod_cast rfl
    unfold sq2 at ih ⊢
    rw [List.map_cons, List.map_cons, List.sum_cons, List.sum_cons, List.sum_cons, ih, List.length_cons, e]
    grind
theorem sqR_eq {ws : List Rat} {s : Nat} (h : ws.length = s) (h1 : 1 ≤ s) : sqR ws = sq2 ws - ws.sum * ws.sum / (s : Rat) := by
  unfold sqR meanR
  rw [sq_around, h]
  have h0 := castNe h1
  grind
structure FinO (kvs : List (Key × V)) (T : Int) (xs : List (Addr × Row)) (m : Nat) : Prop where
  mean : ex T (ordS xs m) (fun o => meanR (numsR kvs T o)) = (((amts kvs xs).sum : Int) : Rat)
  var : ¬ (m = 1 ∧ xs.length ≠ 1) → ex T (ordS xs m) (varR kvs T) = ((ordS xs m).map fun o => ch T o * ((meanR (numsR kvs T o) - (((amts kvs xs).sum : Int) : Rat)) * (meanR (numsR kvs T o) - (((amts kvs xs).sum : Int) : Rat)))).sum
  at_ : m < xs.length → ∀ k, k < m → ex T (ordS xs m) (fun o => (numsR kvs T o).getD k 0) = (((amts kvs xs).sum : Int) : Rat)
theorem fin_o {xs : List (Addr × Row)} {T : Int} (S : Sit5 xs T) (kvs : List (Key × V)) {m : Nat} (h1 : 1 ≤ m) (hmn : m ≤ xs.length) : FinO kvs T xs m := by
  have esp : ((ordS xs m).map fun o => ch T o * ((meanR (numsR kvs T o) - (((amts kvs xs).sum : Int) : Rat)) * (meanR (numsR kvs T o) - (((amts kvs xs).sum : Int) : Rat)))).sum = ex T (ordS xs m) fun o => (meanR (numsR kvs T o) - (((amts kvs xs).sum : Int) : Rat)) * (meanR (numsR kvs T o) - (((amts kvs xs).sum : Int) : Rat)) := by
    unfold ex
    congr 1
    exact List.map_congr_left fun o _ => Rat.mul_comm _ _
  rw [show FinO kvs T xs m ↔ FinO kvs T xs m from Iff.rfl]
  have hone := ex_one S.toSit m hmn
  by_cases hw : m = xs.length
  · have hn : ∀ o ∈ ordS xs m, numsR kvs T o = [(((amts kvs xs).sum : Int) : Rat)] ∧ (wts o).sum = T := fun o ho => by
      obtain ⟨g, hl⟩ := ordS_good S.nd m o ho
      have e := (S.whole g).mpr (by omega)
      unfold numsR
      rw [if_pos e, whole_amts kvs g (by omega)]
      exact ⟨rfl, e⟩
    have hme : ∀ o ∈ ordS xs m, meanR (numsR kvs T o) = (((amts kvs xs).sum : Int) : Rat) := fun o ho => by
      rw [(hn o ho).1]
      show (_ + 0) / ((1 : Nat) : Rat) = _
      grind
    refine ⟨?_, fun _ => ?_, fun z => by omega⟩
    · rw [ex_congr (g := fun o => (((amts kvs xs).sum : Int) : Rat) * 1) (fun o ho => by rw [hme o ho]; grind), ex_scale _ (fun _ => 1), hone]
      grind
    · rw [esp, ex_congr (g := fun o => 0 * 1) (fun o ho => by unfold varR; rw [if_pos (hn o ho).2]; grind), ex_congr (f := fun o => (meanR (numsR kvs T o) - (((amts kvs xs).sum : Int) : Rat)) * (meanR (numsR kvs T o) - (((amts kvs xs).sum : Int) : Rat))) (g := fun o => 0 * 1) (fun o ho => by rw [hme o ho]; grind)]
  · have hn : ∀ o ∈ ordS xs m, numsR kvs T o = nums kvs T o ∧ (wts o).sum ≠ T ∧ (nums kvs T o).length = m := fun o ho => by
      obtain ⟨g, hl⟩ := ordS_good S.nd m o ho
      have e : (wts o).sum ≠ T := fun z => hw (by rw [← hl]; exact (S.whole g).mp z)
      have := nums_len kvs T o
      unfold numsR
      rw [if_neg e]
      exact ⟨rfl, e, by omega⟩
    have hme : ∀ o ∈ ordS xs m, meanR (numsR kvs T o) = 1 / (m : Rat) * (nums kvs T o).sum := fun o ho => by
      obtain ⟨e1, e2, e3⟩ := hn o ho
      rw [e1]
      unfold meanR
      rw [e3]
      grind
    have hm0 := castNe h1
    have s1 := ex_s1 S.toSit kvs m hmn
    have s2 := ex_s2 S.toSit kvs m hmn
    have hs2 : ex T (ordS xs m) (fun o => (nums kvs T o).sum * (nums kvs T o).sum - sq2 (nums kvs T o)) = ex T (ordS xs m) (fun o => (nums kvs T o).sum * (nums kvs T o).sum) - ex T (ordS xs m) (fun o => sq2 (nums kvs T o)) := by
      have := ex_lin T 1 (-1) (fun o => (nums kvs T o).sum * (nums kvs T o).sum) (fun o => sq2 (nums kvs T o)) (ordS xs m)
      rw [ex_congr (g := fun o => 1 * ((nums kvs T o).sum * (nums kvs T o).sum) + (-1) * sq2 (nums kvs T o)) (fun o _ => by grind), this]
      grind
    rw [hs2] at s2
    refine ⟨?_, fun hv => ?_, fun _ k hk => ?_⟩
    · rw [ex_congr hme, ex_scale, s1]
      grind
    · rw [esp]
      have hm2 : 2 ≤ m := by omega
      have hm1 : ((m - 1 : Nat) : Rat) = (m : Rat) - 1 := by
        obtain ⟨d, rfl⟩ : ∃ d, m = d + 1 := ⟨m - 1, by omega⟩
        rw [Nat.add_sub_cancel]
        have : ((d + 1 : Nat) : Rat) = (d : Rat) + 1 := by exact_mod_cast rfl
        rw [this]; grind
      have hm10 : (m : Rat) - 1 ≠ 0 := by rw [← hm1]; exact castNe (by omega)
      have e1 : ∀ o ∈ ordS xs m, varR kvs T o = 1 / ((m : Rat) * ((m : Rat) - 1)) * sq2 (nums kvs T o) + (-(1 / ((m : Rat) * ((m : Rat) - 1)) / (m : Rat))) * ((nums kvs T o).sum * (nums kvs T o).sum) := fun o ho => by
        obtain ⟨q1, q2, q3⟩ := hn o ho
        have hl := (ordS_good S.nd m o ho).2
        unfold varR
        rw [if_neg q2, hl]
        have e : ((m * (m - 1) : Nat) : Rat) = (m : Rat) * ((m : Rat) - 1) := by
          rw [← hm1]; exact_mod_cast rfl
        rw [e]
        have := sqR_eq q3 h1
        unfold nums at this ⊢
        rw [this]
        grind
      rw [ex_congr e1, ex_lin T _ _ (fun o => sq2 (nums kvs T o)) (fun o => (nums kvs T o).sum * (nums kvs T o).sum)]
      generalize hSv : (((amts kvs xs).sum : Int) : Rat) = Sv at *
      have e2 : ∀ o ∈ ordS xs m, (meanR (numsR kvs T o) - Sv) * (meanR (numsR kvs T o) - Sv) = 1 / (m : Rat) * (1 / (m : Rat)) * ((nums kvs T o).sum * (nums kvs T o).sum) + 1 * (-(2 * Sv * (1 / (m : Rat))) * (nums kvs T o).sum + Sv * Sv * 1) := fun o ho => by
        rw [hme o ho]; grind
      rw [ex_congr e2, ex_lin T _ 1 (fun o => (nums kvs T o).sum * (nums kvs T o).sum) (fun o => -(2 * Sv * (1 / (m : Rat))) * (nums kvs T o).sum + Sv * Sv * 1), ex_lin T _ _ (fun o => (nums kvs T o).sum) (fun _ => 1), s1, hone]
      generalize ex T (ordS xs m) (fun o => (nums kvs T o).sum * (nums kvs T o).sum) = A at *
      generalize ex T (ordS xs m) (fun o => sq2 (nums kvs T o)) = B at *
      have hB : B = A - (m : Rat) * ((m : Rat) - 1) * (Sv * Sv) := by grind
      rw [hB]
      generalize (m : Rat) = M at *
      have hMM : M * (M - 1) ≠ 0 := fun h => by
        rcases Rat.mul_eq_zero.mp h with z | z
        · exact hm0 z
        · exact hm10 z
      grind
    · rw [ex_congr (g := fun o => (nums kvs T o).getD k 0) fun o ho => by rw [(hn o ho).1]]
      exact ex_at S.toSit kvs k m hmn hk

/-! ### the law's own: amounts, true sums -/
theorem valV_putK {kvs : List (Key × V)} {k : Key} {v : V} (k' : Key) : valV (putK kvs k v) k' = if k' = k then some v else valV kvs k' := by
  rw [valV_put]
theorem AmtOk.put {kvs : List (Key × V)} (h : AmtOk kvs) {s : Str} {n : Int} (hn : n.natAbs ≤ 10) : AmtOk (putK kvs (.inr s) (.int n)) := by
  intro k v e
  rw [valV_putK] at e
  split at e
  · cases e
    exact ⟨n, rfl, hn⟩
  · exact h k v e
theorem putK_le9 {κ : Type} [DecidableEq κ] (kvs : List (κ × V)) (k : κ) (v : V) : (putK kvs k v).length ≤ kvs.length + 1 := by
  unfold putK
  split
  · rw [List.length_map]; omega
  · rw [List.length_append]; simp
def spAmounts (K : PySem.W.Frag) : Sp := fun vs H Q _ => ∃ (a l : Addr) (ps : List (Addr × Row)), vs = [.ref a, .ref l] ∧ DrawsAt H a ∧ H l = some (.lst (refs ps)) ∧ RowsAt H ps ∧ l ≠ a ∧ ps.length ≤ 10 ∧ ∀ H' d kvs, H d = none → Kp [a] H H' → DrawsAt H' a → H' d = some (.dK kvs) → AmtOk kvs → Q (.ref d) H'
theorem ok__law_amounts {P : Program} {w : World} {K : PySem.W.Frag} {mg : Str → Option Value} {base : Heap} (T : T P K mg) : FnOk P w K mg base CX0 2 T.a__law_amounts T.fd__law_amounts ["row", "things"] (spAmounts K) := by
  refine T.F__law_amounts.ok sc__law_amounts (fun vs H Q E h => ?_) (fun cdv A outer s H vs Q E hr h => ?_)
  · obtain ⟨a, l, ps, rfl, _⟩ := h
    rfl
  · obtain ⟨a, l, ps, rfl, hd, hl, hps, nla, hn, q⟩ := h
    refine ⟨_, (pss_cons (ps_set (i := 2) sc__law_amounts.nd rfl (by first | exact Or.inl rfl | exact Or.inr rfl) (pe_disp (pps_cons pe_str pe_int pps_nil) (by rfl) (by rfl) (fun z => by cases z) (by decide)))
      (pss_cons (ps_for PassesOwn.never rfl (pi_list (pv 1)) (pg_name (i := 3) sc__law_amounts.nd rfl (by first | exact Or.inl rfl | exact Or.inr rfl)) (pss_one (ps_if (pt_cmpR op_gt (pe_call (ok__law_take T) (hr.mono (by decide)) (by rfl) T.g__law_take T.F__law_take.kp T.b__law_take .nil pass0 (pa_cons (pv 0) (pa_cons pe_int pa_nil))) pe_int (nomark _)) (pss_one (ps_dput (hu_of hr) (pv 2) (pe_ix ix_tup (pv 3) pe_int (fun _ _ => rfl)) (pe_op op_sub (pe_call (ok__law_take T) (hr.mono (by decide)) (by rfl) T.g__law_take T.F__law_take.kp T.b__law_take .nil pass0 (pa_cons (pv 0) (pa_cons pe_int pa_nil))) pe_int) rfl)) pss_nil)))
      (pss_one (ps_ret (pv 2))))), ?_⟩
    walk_at "z0"
    walk_at "z"
    intro p np
    walk_at "z"
    dsimp only [tPairs]
    walk_at "z"
    refine ⟨upd_same, [(.inr "other", .int 5)], rfl, by decide, ?_⟩
    rw [upd_upd]
    have e1 : upd H p (.dK (mergeK [] [((.inr "other" : Key), V.int 5)])) p = some (.dK (mergeK [] [((.inr "other" : Key), V.int 5)])) := upd_same
    have k1 : Kp [] H (upd H p (.dK (mergeK [] [((.inr "other" : Key), V.int 5)]))) := Kp.new np
    have ho1 : AmtOk (mergeK [] [((.inr "other" : Key), V.int 5)]) := AmtOk.put (kvs := []) (fun k v e => by cases e) (by decide)
    have hl1 : (mergeK [] [((.inr "other" : Key), V.int 5)]).length ≤ 1 := by decide
    generalize mergeK [] [((.inr "other" : Key), V.int 5)] = kv1 at e1 k1 ho1 hl1 ⊢
    generalize upd H p (.dK kv1) = H1 at e1 k1 ⊢
    have nap : a ≠ p := hd.ne np
    have nlp : l ≠ p := ne_of_none hl np
    walk_at "z"
    refine Z.forl (refs ps) (lstL (k1.get nin0 hl)) (fun i σ' H' => ∃ y kvs, σ' = [some (.ref a), some (.ref l), some (.ref p), y] ∧ Kp [a] H H' ∧ DrawsAt H' a ∧ H' p = some (.dK kvs) ∧ AmtOk kvs ∧ kvs.length ≤ 1 + i) ⟨_, kv1, rfl, k1.sub (by simp), hd.kp0 k1, e1, ho1, by omega⟩ ?_ ?_ ?_
    · rintro i σ' H' hi ⟨y, kvs, rfl, k2, d2, e2, ho2, hl2⟩
      exact lstL (k2.get (nin1 nla) hl)
    · rintro i v σ' H2 hv ⟨y, kvs, rfl, k2, d2, e2, ho2, hl2⟩
      obtain ⟨x, hx, rfl⟩ := refs_of hv
      have hi : i < ps.length := (List.getElem?_eq_some_iff.mp hx).1
      walk_at "z"
      refine ⟨a, 5, rfl, d2, by decide, by decide, fun H3 v3 hv30 hv31 k3 d3 => ?_⟩
      have e3 := k3.get (nin1 nap.symm) e2
      walk_at "z"
      refine Z.ite (fun h1 => ?_) (fun h1 => ?_)
      · walk_at "z"
        refine ⟨a, 21, rfl, d3, by decide, by decide, fun H4 v4 hv40 hv41 k4 d4 => ?_⟩
        have e4 := k4.get (nin1 nap.symm) e3
        have r4 := ((hps.kpd (k2.trans k3) hd).kpd k4 d3) x (List.mem_of_getElem? hx)
        walk_at "z"
        refine RowAt.k0 r4 ?_
        refine ⟨p, _, rfl, DPut.k (k := .inr x.2.k) e4 (by have : 100000 ≤ sizeLine := (by decide); omega), ?_⟩
        walk_at "z"
        have hp := putK_le9 kvs (.inr x.2.k) (.int (v4 - 10))
        exact ⟨_, _, rfl, ((k2.trans k3).trans k4).mut np rfl, d4.put nap, upd_same, ho2.put (by omega), by omega⟩
      · walk_at "z"
        exact ⟨_, kvs, rfl, k2.trans k3, d3, e3, ho2, by omega⟩
    · rintro σ' H' ⟨y, kvs, rfl, k2, d2, e2, ho2, hl2⟩
      walk_at "z"
      exact q H' p kvs np k2 d2 e2 ho2
def spLTrue (K : PySem.W.Frag) : Sp := spTrueSum K
theorem ok__law_true {P : Program} {w : World} {K : PySem.W.Frag} {mg : Str → Option Value} {base : Heap} (T : T P K mg) : FnOk P w K mg base CX0 1 T.a__law_true T.fd__law_true ["things", "amounts"] (spLTrue K) := by
  refine T.F__law_true.ok sc__law_true (fun vs H Q E h => ?_) (fun cdv A outer s H vs Q E hr h => ?_)
  · obtain ⟨l, d, ps, kvs, rfl, _⟩ := h
    rfl
  · obtain ⟨l, d, ps, kvs, rfl, hl, hps, hn, hd, ho, q⟩ := h
    refine ⟨_, (pss_one (ps_ret (pe_callB (cr_sum rfl) (by rfl) T.z_sum (by decide +kernel) (pa_cons (pe_lc (own := [("item", 2)]) (g := gName 2) rfl sc__law_true.nd (pi_list (pv 0)) (blkOk_by (own := [("item", 2)]) (N := N__law_true) (sc := defScope s__law_true) (by decide +kernel)) (fun _ _ _ _ _ => (pg_name (i := 2) sc__law_true.nd rfl (by first | exact Or.inl rfl | exact Or.inr rfl))) (fun _ _ _ _ _ => pts_nil) (fun _ _ _ _ _ => (pe_dget2 (Nat.lt_of_le_of_lt (Nat.add_le_add_left (by decide) _) (hu_of hr)) (pv 1) (pe_ix (ix_tup : IxR _ (rIxT K)) (pv 2) pe_int (fun _ _ => rfl)) pe_int ⟨by rfl, by rfl, by rfl, by rfl⟩))) pa_nil)))), ?_⟩
    walk_at "z0"
    walk_at "z"
    refine Z.lcl (refs ps) (lstL hl) (fun D i H' => Kp [] H H' ∧ H' D = some (.lst ((amts kvs (ps.take i)).map V.int))) ?_ ?_ ?_ ?_
    · intro D H1 nD k1 e1
      exact ⟨k1, e1⟩
    · rintro D i H1 nD hi ⟨k1, e1⟩
      exact lstL (k1.get nin0 hl)
    · rintro D i v H1 nD hv ⟨k1, e1⟩
      obtain ⟨x, hx, rfl⟩ := refs_of hv
      have hi : i < ps.length := (List.getElem?_eq_some_iff.mp hx).1
      dsimp only [wipe, List.set]
      walk_at "z"
      refine ⟨rfl, ?_⟩
      walk_at "z"
      refine ⟨d, rfl, .inl ⟨kvs, .inl (k1.get nin0 hd)⟩, ?_⟩
      walk_at "z"
      refine RowAt.k0 ((hps.kp0 k1) x (List.mem_of_getElem? hx)) ?_
      walk_at "z"
      refine ⟨_, DGet.k (k := .inr x.2.k) (k1.get nin0 hd), ?_⟩
      rw [getD_amt ho]
      refine ⟨_, e1, Z.szl (m := 1000) (by unfold amts; rw [List.length_map, List.length_map, List.length_take]; omega), k1.mut nD rfl, ?_⟩
      rw [upd_same, List.take_add_one, hx]
      unfold amts
      rw [List.map_append, List.map_append]; rfl
    · rintro D H1 nD ⟨k1, e1⟩
      rw [refs_len, List.take_length] at e1
      walk_at "z"
      refine Z.sumL (lstL e1) ?_
      exact q H1 k1

/-! ### lists of lists of rows -/
def ILst := Addr × List (Addr × Row)
def srefs (L : List (Addr × List (Addr × Row))) : List V := L.map fun o => V.ref o.1
theorem srefs_len (L : List (Addr × List (Addr × Row))) : (srefs L).length = L.length := by unfold srefs; rw [List.length_map]
theorem srefs_of {L : List (Addr × List (Addr × Row))} {i : Nat} {v : V} (h : (srefs L)[i]? = some v) : ∃ o, L[i]? = some o ∧ v = .ref o.1 := by
  unfold srefs at h
  rw [List.getElem?_map] at h
  cases hx : L[i]? with
  | none => rw [hx] at h; cases h
  | some r => rw [hx] at h; exact ⟨r, rfl, (Option.some.inj h).symm⟩
def SetsAt (H : Hp) (L : List (Addr × List (Addr × Row))) : Prop := ∀ o ∈ L, H o.1 = some (.lst (refs o.2))
theorem SetsAt.kp0 {H H' : Hp} {L : List (Addr × List (Addr × Row))} (h : SetsAt H L) (k : Kp [] H H') : SetsAt H' L := fun o ho => k.get nin0 (h o ho)
theorem SetsAt.put {H : Hp} {L : List (Addr × List (Addr × Row))} {D : Addr} {u : HO} (h : SetsAt H L) (n : ∀ o ∈ L, o.1 ≠ D) : SetsAt (upd H D u) L := fun o ho => (upd_ne (n o ho)).trans (h o ho)
theorem SetsAt.snoc {H : Hp} {L : List (Addr × List (Addr × Row))} {o : Addr × List (Addr × Row)} (h : SetsAt H L) (e : H o.1 = some (.lst (refs o.2))) : SetsAt H (L ++ [o]) := mem_append_one h e

/-! ### _law_orders -/
theorem key_inj {xs : List (Addr × Row)} (h : xs.Pairwise fun a b => a.2.k ≠ b.2.k) : ∀ {a b : Addr × Row}, a ∈ xs → b ∈ xs → a.2.k = b.2.k → a = b := by
  induction xs with
  | nil => intro a b ha; cases ha
  | cons y r ih =>
    intro a b ha hb e
    obtain ⟨h1, h2⟩ := List.pairwise_cons.mp h
    rcases List.mem_cons.mp ha with hay | ha2
    · rcases List.mem_cons.mp hb with hby | hb2
      · rw [hay, hby]
      · rw [hay] at e; exact absurd e (h1 b hb2)
    · rcases List.mem_cons.mp hb with hby | hb2
      · rw [hby] at e; exact absurd e.symm (h1 a ha2)
      · exact ih h2 ha2 hb2 e
theorem ninD {xs o : List (Addr × Row)} (h : xs.Pairwise fun a b => a.2.k ≠ b.2.k) (hS : ∀ x ∈ xs, RowS x.2) {x : Addr × Row} (hx : x ∈ xs) (ho : ∀ z ∈ o, z ∈ xs) : (!(rowsD o).any fun z => PyData.eqv z (rowD x.2)) = nin o x := by
  unfold nin rowsD
  rw [List.any_map]
  induction o with
  | nil => simp
  | cons y r ih =>
    have ih := ih fun z hz => ho z (by simp [hz])
    rw [List.any_cons, Bool.not_or, ih]
    have e : PyData.eqv (rowD y.2) (rowD x.2) = decide (y.2.k = x.2.k) := by
      by_cases hk : y.2.k = x.2.k
      · rw [decide_eq_true hk, key_inj h (ho y (by simp)) hx hk]
        exact SeqAt.eqv_refl _ (rowD_lay (hS x hx))
      · rw [decide_eq_false hk]
        simp [rowD, PyData.eqv, PyData.eqvAll, hk]
    show (!PyData.eqv (rowD y.2) (rowD x.2) && _) = _
    rw [e, Bool.eq_iff_iff, Bool.and_eq_true, Bool.not_eq_true', decide_eq_false_iff_not, decide_eq_true_eq, decide_eq_true_eq]
    constructor
    · rintro ⟨h1, h2⟩ z hz
      rcases List.mem_cons.mp hz with rfl | hz
      · exact h1
      · exact h2 z hz
    · intro h1
      exact ⟨h1 y (by simp), fun z hz => h1 z (by simp [hz])⟩
theorem shRow {r : Row} (h : RowS r) : SeqAt.shaped (rowD r) = true := by
  simp [SeqAt.shaped, rowD_lay h, rowD_depth]
def spOrders (K : PySem.W.Frag) : Sp := fun vs H Q _ => ∃ (l : Addr) (many : Nat) (xs : List (Addr × Row)), vs = [.ref l, .int (many : Int)] ∧ H l = some (.lst (refs xs)) ∧ RowsAt H xs ∧ (∀ x ∈ xs, RowS x.2) ∧ xs.Pairwise (fun a b => a.2.k ≠ b.2.k) ∧ xs.length ≤ 5 ∧ many ≤ 3 ∧
  ∀ H' F L, Kp [] H H' → H' F = some (.lst (srefs L)) → SetsAt H' L → L.map (fun o => o.2) = ordS xs many → Q (.ref F) H'
theorem ok__law_orders {P : Program} {w : World} {K : PySem.W.Frag} {mg : Str → Option Value} {base : Heap} (T : T P K mg) : FnOk P w K mg base CX0 1 T.a__law_orders T.fd__law_orders ["things", "many"] (spOrders K) := by
  refine T.F__law_orders.ok sc__law_orders (fun vs H Q E h => ?_) (fun cdv A outer s H vs Q E hr h => ?_)
  · obtain ⟨l, many, xs, rfl, _⟩ := h
    rfl
  · obtain ⟨l, many, xs, rfl, hl, hps, hS, hnd, hn, hm3, q⟩ := h
    refine ⟨_, (pss_cons (ps_set (i := 2) sc__law_orders.nd rfl (by first | exact Or.inl rfl | exact Or.inr rfl) (pe_lst (pa_cons (pe_lst pa_nil) pa_nil)))
      (pss_cons (ps_for PassesOwn.never rfl (pi_range1 (by rfl) T.z_range (pa_cons (pv 1) pa_nil)) (pg_name (i := 3) sc__law_orders.nd rfl (by first | exact Or.inl rfl | exact Or.inr rfl)) (pss_cons (ps_set (i := 4) sc__law_orders.nd rfl (by first | exact Or.inl rfl | exact Or.inr rfl) (pe_lst pa_nil))
      (pss_cons (ps_for PassesOwn.never rfl (pi_list (pv 2)) (pg_name (i := 5) sc__law_orders.nd rfl (by first | exact Or.inl rfl | exact Or.inr rfl)) (pss_one (ps_set (i := 4) sc__law_orders.nd rfl (by first | exact Or.inl rfl | exact Or.inr rfl) (pe_op op_cat (pv 4) (pe_lc (own := [("item", 6)]) (g := gName 6) rfl sc__law_orders.nd (pi_list (pv 0)) (blkOk_by (own := [("item", 6)]) (N := N__law_orders) (sc := defScope s__law_orders) (by decide +kernel)) (fun _ _ _ _ _ => (pg_name (i := 6) sc__law_orders.nd rfl (by first | exact Or.inl rfl | exact Or.inr rfl))) (fun _ _ _ _ _ => (pts_one (pt_cmpR (op_notInD (Z.u65 hr) : OpR _ _ (rNotInD K)) (pv 6) (pv 5) rfl))) (fun _ _ _ _ _ => (pe_op op_cat (pv 5) (pe_lst (pa_cons (pv 6) pa_nil)))))))))
      (pss_one (ps_set (i := 2) sc__law_orders.nd rfl (by first | exact Or.inl rfl | exact Or.inr rfl) (pv 4))))))
      (pss_one (ps_ret (pv 2))))), ?_⟩
    walk_at "z0"
    walk_at "z"
    refine Z.lstK (fun E1 H1 nE1 k1 e1 => ?_)
    walk_at "z"
    refine Z.lstK (fun F H2 nF k2 e2 => ?_)
    have k12 := k1.trans k2
    have e2E := k2.get nin0 e1
    have e2l := k12.get nin0 hl
    walk_at "z"
    refine Z.forr many (by rfl) (by omega) (fun i σ' H' => ∃ (y3 y4 y5 : Option V) (F' : Addr) (L : List (Addr × List (Addr × Row))), σ' = [some (.ref l), some (.int (many : Int)), some (.ref F'), y3, y4, y5, none] ∧ Kp [] H2 H' ∧ H' F' = some (.lst (srefs L)) ∧ SetsAt H' L ∧ L.map (fun o => o.2) = ordS xs i) ?_ ?_ ?_
    · refine ⟨none, none, none, F, [(E1, [])], rfl, Kp.refl _, e2, fun o ho => ?_, rfl⟩
      rw [List.mem_singleton.mp ho]; exact e2E
    · rintro i σ' H3 hi ⟨y3, y4, y5, F', L, rfl, k3, e3, S3, hL⟩
      have hLl : L.length ≤ 60 := by
        have h1 := ordS_len hnd hn i (by omega)
        rw [← hL, List.length_map] at h1
        have : i = 0 ∨ i = 1 ∨ i = 2 := by omega
        rcases this with rfl | rfl | rfl
        · exact Nat.le_trans h1 (by decide)
        · exact Nat.le_trans h1 (by decide)
        · exact Nat.le_trans h1 (by decide)
      have hgood : ∀ o ∈ L, GoodO xs o.2 := fun o ho => (ordS_good hnd i o.2 (by rw [← hL]; exact List.mem_map.mpr ⟨o, ho, rfl⟩)).1
      have hlen : ∀ o ∈ L, o.2.length = i := fun o ho => (ordS_good hnd i o.2 (by rw [← hL]; exact List.mem_map.mpr ⟨o, ho, rfl⟩)).2
      walk_at "z"
      refine Z.lstK (fun M H4 nM k4 e4 => ?_)
      walk_at "z"
      refine Z.forl (srefs L) (lstL (k4.get nin0 e3)) (fun j σ' H' => ∃ (y5 : Option V) (M' : Addr) (L2 : List (Addr × List (Addr × Row))), σ' = [some (.ref l), some (.int (many : Int)), some (.ref F'), some (.int (i : Int)), some (.ref M'), y5, none] ∧ Kp [] H4 H' ∧ H' M' = some (.lst (srefs L2)) ∧ SetsAt H' L2 ∧ L2.length ≤ 5 * j ∧ L2.map (fun o => o.2) = (L.take j).flatMap fun o => (rem xs o.2).map fun x => o.2 ++ [x]) ?_ ?_ ?_ ?_
      · exact ⟨y5, M, [], rfl, Kp.refl _, e4, (fun o ho => by cases ho), by simp, rfl⟩
      · rintro j σ' H5 _ ⟨y5, M', L2, rfl, k5, _⟩
        exact lstL ((k4.trans k5).get nin0 e3)
      · rintro j v σ' H5 hv ⟨y5, M', L2, rfl, k5, e5, S5, hl5, hL5⟩
        obtain ⟨o, ho, rfl⟩ := srefs_of hv
        have hj : j < L.length := (List.getElem?_eq_some_iff.mp ho).1
        have hom := List.mem_of_getElem? ho
        have hog := hgood o hom
        have hol := hlen o hom
        have k35 := k4.trans k5
        have e5l := (k3.trans k35).get nin0 e2l
        have e5o := (S3.kp0 k35) o hom
        have r5 := hps.kp0 ((k12.trans k3).trans k35)
        walk_at "z"
        refine Z.lcl (refs xs) (lstL e5l) (fun D t H' => ∃ L3 : List (Addr × List (Addr × Row)), Kp [] H5 H' ∧ H' D = some (.lst (srefs L3)) ∧ SetsAt H' L3 ∧ (∀ o ∈ L3, o.1 ≠ D) ∧ L3.length ≤ t ∧ L3.map (fun o => o.2) = ((xs.take t).filter (nin o.2)).map fun x => o.2 ++ [x]) ?_ ?_ ?_ ?_
        · intro D H6 nD k6 e6
          exact ⟨[], k6, e6, (fun o ho => by cases ho), (fun o ho => by cases ho), by simp, rfl⟩
        · rintro D t H6 nD ht ⟨L3, k6, _⟩
          exact lstL (k6.get nin0 e5l)
        · rintro D t v H6 nD hv ⟨L3, k6, e6, S6, n6, hl6, hL6⟩
          obtain ⟨x, hx, rfl⟩ := refs_of hv
          have hxm := List.mem_of_getElem? hx
          have ht : t < xs.length := (List.getElem?_eq_some_iff.mp hx).1
          have r6 := r5.kp0 k6
          have e6o := k6.get nin0 e5o
          have r6o : RowsAt H6 o.2 := fun z hz => r6 z (hog.sub z hz)
          dsimp only [wipe, List.set]
          walk_at "z"
          refine ⟨rfl, ?_⟩
          walk_at "z"
          refine ⟨rowD x.2, rowsD o.2, dpRow (r6 x hxm), dpRows e6o r6o, shRow (hS x hxm), shRows fun z hz => hS z (hog.sub z hz), ?_⟩
          rw [ninD hnd hS hxm hog.sub]
          rw [List.take_add_one, hx, List.filter_append, List.map_append]
          refine ⟨_, rfl, ?_⟩
          unfold nin
          refine Z.ite (fun h1 => ?_) (fun h1 => ?_)
          · walk_at "z"
            refine Z.lstK (fun g H7 ng k7 e7 => ?_)
            refine Z.cat (k7.get nin0 e6o) e7 (by rw [refs_len]; simp; omega) (fun c H8 nc k8 e8 => ?_)
            have k68 := k7.trans k8
            have e8D := k68.get nin0 e6
            have e8c : H8 c = some (.lst (refs (o.2 ++ [x]))) := by rw [e8, refs_snoc]
            have ncD : c ≠ D := fun z => by rw [z] at nc; rw [k7.get nin0 e6] at nc; cases nc
            refine ⟨_, e8D, Z.szl (m := 1000) (by rw [srefs_len]; omega), L3 ++ [(c, o.2 ++ [x])], (k6.trans k68).mut nD rfl, by rw [upd_same]; unfold srefs; rw [List.map_append]; rfl, ?_, mem_append_one n6 ncD, by rw [List.length_append]; simp; omega, ?_⟩
            · exact ((S6.kp0 k68).snoc (o := (c, o.2 ++ [x])) e8c).put (mem_append_one n6 ncD)
            · rw [List.map_append, hL6]
              congr 1
              have h2 : decide (∀ z ∈ o.2, z.2.k ≠ x.2.k) = true := decide_eq_true h1
              simp only [Option.toList_some, List.map_cons, List.map_nil, List.filter_cons, List.filter_nil]
              rw [if_pos h2]; rfl
          · walk_at "z"
            refine ⟨L3, k6, e6, S6, n6, by omega, ?_⟩
            rw [hL6]
            have h2 : ¬ (decide (∀ z ∈ o.2, z.2.k ≠ x.2.k) = true) := fun z => h1 (of_decide_eq_true z)
            simp only [Option.toList_some, List.filter_cons, List.filter_nil]
            rw [if_neg h2]
            unfold nin
            rw [List.map_nil, List.append_nil]
        · rintro D H6 nD ⟨L3, k6, e6, S6, n6, hl6, hL6⟩
          rw [refs_len, List.take_length] at hL6
          rw [refs_len] at hl6
          refine Z.cat (k6.get nin0 e5) e6 (by rw [srefs_len, srefs_len]; omega) (fun M2 H7 nM2 k7 e7 => ?_)
          walk_at "z"
          refine ⟨_, M2, L2 ++ L3, rfl, (k5.trans k6).trans k7, by rw [e7]; unfold srefs; rw [List.map_append], fun o' ho' => ?_, by rw [List.length_append]; omega, ?_⟩
          · rcases List.mem_append.mp ho' with z | z
            · exact ((S5.kp0 k6).kp0 k7) o' z
            · exact (S6.kp0 k7) o' z
          · rw [List.map_append, hL5, hL6, List.take_add_one, ho, List.flatMap_append]
            congr 1
            simp only [Option.toList_some, List.flatMap_cons, List.flatMap_nil, List.append_nil]
            rfl
      · rintro σ' H5 ⟨y5, M', L2, rfl, k5, e5, S5, hl5, hL5⟩
        rw [srefs_len, List.take_length] at hL5
        walk_at "z"
        refine ⟨_, _, _, M', L2, rfl, (k3.trans k4).trans k5, e5, S5, ?_⟩
        rw [hL5]
        show _ = (ordS xs i).flatMap fun o => (rem xs o).map fun x => o ++ [x]
        rw [← hL, List.flatMap_map]
    · rintro σ' H3 ⟨y3, y4, y5, F', L, rfl, k3, e3, S3, hL⟩
      walk_at "z"
      exact q H3 F' L (k12.trans k3) e3 S3 hL
/-! the chance of an order -/
def spChance (K : PySem.W.Frag) : Sp := fun vs H Q _ => ∃ (l : Addr) (T : Int) (o : List (Addr × Row)), vs = [.int T, .ref l] ∧ H l = some (.lst (refs o)) ∧ RowsAt H o ∧ (∀ x ∈ o, RowW x.2) ∧ 0 ≤ T ∧ T ≤ 5000 ∧ o.length ≤ 3 ∧ ∀ H' c, Kp [] H H' → FrAt K H' c (chF T o) → Q (.ref c) H'
theorem ok__law_order_chance {P : Program} {w : World} {K : PySem.W.Frag} {mg : Str → Option Value} {base : Heap} (T : T P K mg) : FnOk P w K mg base CX0 3 T.a__law_order_chance T.fd__law_order_chance ["total", "things"] (spChance K) := by
  refine T.F__law_order_chance.ok sc__law_order_chance (fun vs H Q E h => ?_) (fun cdv A outer s H vs Q E hr h => ?_)
  · obtain ⟨l, T, o, rfl, _⟩ := h
    rfl
  · obtain ⟨l, t, o, rfl, hl, hps, hW, ht0, ht1, h3, q⟩ := h
    refine ⟨_, (pss_cons (ps_set (i := 2) sc__law_order_chance.nd rfl (by first | exact Or.inl rfl | exact Or.inr rfl) (pe_tup (pa_cons pe_int (pa_cons pe_int pa_nil))))
      (pss_cons (ps_set (i := 3) sc__law_order_chance.nd rfl (by first | exact Or.inl rfl | exact Or.inr rfl) (pv 0))
      (pss_cons (ps_for PassesOwn.never rfl (pi_list (pv 1)) (pg_name (i := 4) sc__law_order_chance.nd rfl (by first | exact Or.inl rfl | exact Or.inr rfl)) (pss_cons (ps_set (i := 2) sc__law_order_chance.nd rfl (by first | exact Or.inl rfl | exact Or.inr rfl) (pe_call (ok__law_times T) (hr.mono (by decide)) (by rfl) T.g__law_times T.F__law_times.kp T.b__law_times .nil pass0 (pa_cons (pv 2) (pa_cons (pe_call (ok__law_low T) (hr.mono (by decide)) (by rfl) T.g__law_low T.F__law_low.kp T.b__law_low .nil pass0 (pa_cons (pe_ix ix_tup (pv 4) pe_int (fun _ _ => rfl)) (pa_cons (pe_callB (call_max2 rfl) (by rfl) T.z_max (by decide +kernel) (pa_cons pe_int (pa_cons (pv 3) pa_nil))) pa_nil))) pa_nil))))
      (pss_one (ps_set (i := 3) sc__law_order_chance.nd rfl (by first | exact Or.inl rfl | exact Or.inr rfl) (pe_op op_sub (pv 3) (pe_ix ix_tup (pv 4) pe_int (fun _ _ => rfl)))))))
      (pss_one (ps_ret (pv 2)))))), ?_⟩
    walk_at "z0"
    walk_at "z"
    refine Z.tupK (fun b H1 nb k1 e1 => ?_)
    walk_at "z"
    refine Z.forl (refs o) (lstL (k1.get nin0 hl)) (fun i σ' H' => ∃ (y4 : Option V) (c : Addr), σ' = [some (.int t), some (.ref l), some (.ref c), some (.int (t - (wts (o.take i)).sum)), y4] ∧ Kp [] H H' ∧ FrAt K H' c (chF t (o.take i))) ?_ ?_ ?_ ?_
    · exact ⟨none, b, by show _ = [_, _, _, some (V.int (t - 0)), _]; rw [Int.sub_zero], k1, tupT e1⟩
    · rintro i σ' H' _ ⟨y4, c, rfl, k2, _⟩
      exact lstL (k2.get nin0 hl)
    · rintro i v σ' H2 hv ⟨y4, c, rfl, k2, e2⟩
      obtain ⟨x, hx, rfl⟩ := refs_of hv
      have hxm := List.mem_of_getElem? hx
      have hi : i < o.length := (List.getElem?_eq_some_iff.mp hx).1
      have htk : ∀ y ∈ o.take i, RowW y.2 := fun y hy => hW y (List.mem_of_mem_take hy)
      have hw := wts_B htk (by rw [List.length_take]; omega)
      have hx0 := (hW x hxm).w0
      have hx1 := (hW x hxm).w1
      have hcL := chF_low t _ (o.take i) rfl
      have hcB := (chF_B (T := t) (by omega) _ (o.take i) rfl htk).mono (show 1 + 13 * (o.take i).length ≤ 40 by rw [List.length_take]; omega)
      have ewi : (wts (o.take (i + 1))).sum = (wts (o.take i)).sum + x.2.w := by
        rw [List.take_add_one, hx]
        unfold wts
        rw [List.map_append, List.sum_append]
        simp
      walk_at "z"
      refine RowAt.w2 ((hps.kp0 k2) x hxm) ?_
      walk_at "z"
      refine ⟨_, _, rfl, ?_⟩
      generalize hmx : (if (1 : Int) < t - (wts (o.take i)).sum then t - (wts (o.take i)).sum else 1) = mx
      have hmx1 : 1 ≤ mx ∧ mx ≤ 8000 := by rw [← hmx]; split <;> omega
      have hmx2 : mx = (if t - (wts (o.take i)).sum < 1 then 1 else t - (wts (o.take i)).sum) := by rw [← hmx]; split <;> split <;> omega
      walk_at "z"
      refine ⟨_, _, rfl, hmx1.1, up_B (n := 13) (show mx.natAbs < 2 ^ 13 by omega) (by decide), fun H3 c3 n3 k3 e3 => ?_⟩
      walk_at "z"
      have hB3 : FrB 13 (lo x.2.w mx) := lo_B (by omega) (Nat.lt_of_le_of_lt (show x.2.w.natAbs ≤ 1000 by omega) (by decide)) (Nat.lt_of_le_of_lt (show mx.natAbs ≤ 8000 by omega) (by decide))
      refine ⟨c, c3, chF t (o.take i), lo x.2.w mx, rfl, e2.kp0 k3, e3, hcL.1, (lo_low (by omega)).1, ⟨40, 13, hcB, hB3, by decide⟩, fun H4 c4 n4 k4 e4 => ?_⟩
      have k24 := (k2.trans k3).trans k4
      walk_at "z"
      refine RowAt.w2 ((hps.kp0 k24) x hxm) ?_
      walk_at "z"
      refine ⟨some (.ref x.1), c4, ?_, k24, ?_⟩
      · rw [ewi, ← Int.sub_sub]
      · rw [List.take_add_one, hx]
        show FrAt K H4 c4 (chF t (o.take i ++ [x]))
        rw [chF_snoc, ← hmx2]
        exact e4
    · rintro σ' H2 ⟨y4, c, rfl, k2, e2⟩
      rw [refs_len, List.take_length] at e2
      walk_at "z"
      exact q H2 c k2 e2
/-! sums with told bounds -/
def spLawSumG (K : PySem.W.Frag) : Sp := fun vs H Q _ => ∃ (a : Addr) (as : List Addr) (fs : List Fr), vs = [.ref a] ∧ SqL K H a (as.map V.ref) ∧ FrsAt K H as fs ∧ (∀ f ∈ fs, 1 ≤ f.2 ∧ FrB 900 f) ∧ (∀ i, FrB 900 (fsum (0, 1) (fs.take i))) ∧ ∀ H' c, Kp [] H H' → FrAt K H' c (fsum (0, 1) fs) → Q (.ref c) H'
theorem ok__law_sum {P : Program} {w : World} {K : PySem.W.Frag} {mg : Str → Option Value} {base : Heap} (T : T P K mg) : FnOk P w K mg base CX0 3 T.a__law_sum T.fd__law_sum ["rows"] (spLawSumG K) := by
  refine T.F__law_sum.ok sc__law_sum (fun vs H Q E h => ?_) (fun cdv A outer s H vs Q E hr h => ?_)
  · obtain ⟨a, as, fs, rfl, _⟩ := h
    rfl
  · obtain ⟨a, as, fs, rfl, hS, hF, hB, hP, q⟩ := h
    refine ⟨_, (pss_cons (ps_set (i := 1) sc__law_sum.nd rfl (by first | exact Or.inl rfl | exact Or.inr rfl) (pe_tup (pa_cons pe_int (pa_cons pe_int pa_nil))))
      (pss_cons (ps_for PassesOwn.never rfl (pi_list (pv 0)) (pg_name (i := 2) sc__law_sum.nd rfl (by first | exact Or.inl rfl | exact Or.inr rfl)) (pss_one (ps_set (i := 1) sc__law_sum.nd rfl (by first | exact Or.inl rfl | exact Or.inr rfl) (pe_call (ok__law_plus T) (hr.mono (by decide)) (by rfl) T.g__law_plus T.F__law_plus.kp T.b__law_plus .nil pass0 (pa_cons (pv 1) (pa_cons (pv 2) pa_nil))))))
      (pss_one (ps_ret (pv 1))))), ?_⟩
    walk_at "z0"
    walk_at "z"
    refine Z.tupK (fun b H1 nb k1 e1 => ?_)
    walk_at "z"
    refine Z.forl (as.map V.ref) (k1.seq nin0 hS) (fun i σ' H' => ∃ c y, σ' = [some (.ref a), some (.ref c), y] ∧ Kp [] H H' ∧ FrAt K H' c (fsum (0, 1) (fs.take i))) ?_ ?_ ?_ ?_
    · exact ⟨b, none, rfl, k1, tupT e1⟩
    · rintro i σ' H' _ ⟨c, y, rfl, k2, _⟩
      exact k2.seq nin0 hS
    · rintro i v σ' H' hv ⟨c, y, rfl, k2, e2⟩
      obtain ⟨x, f, rfl, hf, hx⟩ := (hF.kp0 k2).get hv
      have hfB := hB f (List.mem_of_getElem? hf)
      have hlow := rv_fsum (fs := fs.take i) low_zero fun g hg => by have := (hB g (List.mem_of_mem_take hg)).1; omega
      walk_at "z"
      refine ⟨c, x, _, f, rfl, e2, hx, hlow.2.1, hfB.1, ⟨900, 900, hP i, hfB.2, by decide⟩, fun H3 d nd k3 e3 => ?_⟩
      walk_at "z"
      exact ⟨d, _, rfl, k2.trans k3, by rw [fsum_take hf]; exact e3⟩
    · rintro σ' H' ⟨c, y, rfl, k2, e2⟩
      walk_at "z"
      rw [List.length_map, hF.len, List.take_length] at e2
      exact q _ _ k2 e2

/-! ### moments, each with its chance -/
def PrAt (K : PySem.W.Frag) (H : Hp) (t : Addr) (p : Fr × Fr) : Prop := ∃ e d, H t = some (.tup [.ref e, .ref d]) ∧ FrAt K H e p.1 ∧ FrAt K H d p.2
theorem PrAt.kp0 {K : PySem.W.Frag} {H H' : Hp} {t : Addr} {p : Fr × Fr} (h : PrAt K H t p) (k : Kp [] H H') : PrAt K H' t p := let ⟨e, d, h1, h2, h3⟩ := h; ⟨e, d, k.get nin0 h1, h2.kp0 k, h3.kp0 k⟩
theorem PrAt.kpl {K : PySem.W.Frag} {H H' : Hp} {t l : Addr} {p : Fr × Fr} {xs : List V} (h : PrAt K H t p) (k : Kp [l] H H') (el : H l = some (.lst xs)) : PrAt K H' t p :=
  let ⟨e, d, h1, h2, h3⟩ := h
  ⟨e, d, k.get (nin1 fun z => by rw [z, el] at h1; cases h1) h1, h2.kpl k el, h3.kpl k el⟩
def PrsAt (K : PySem.W.Frag) (H : Hp) (ts : List Addr) (fs : List (Fr × Fr)) : Prop := Paired (fun t p => PrAt K H t p) ts fs
theorem PrsAt.kp0 {K : PySem.W.Frag} {H H' : Hp} {ts : List Addr} {fs : List (Fr × Fr)} (h : PrsAt K H ts fs) (k : Kp [] H H') : PrsAt K H' ts fs := by
  induction h with
  | nil => exact .nil
  | cons r t ih => exact .cons (PrAt.kp0 r k) ih
theorem PrsAt.kpl {K : PySem.W.Frag} {H H' : Hp} {ts : List Addr} {l : Addr} {fs : List (Fr × Fr)} {xs : List V} (h : PrsAt K H ts fs) (k : Kp [l] H H') (el : H l = some (.lst xs)) : PrsAt K H' ts fs := by
  induction h with
  | nil => exact .nil
  | cons r t ih => exact .cons (PrAt.kpl r k el) ih
theorem PrsAt.len {K : PySem.W.Frag} {H : Hp} {ts : List Addr} {fs : List (Fr × Fr)} (h : PrsAt K H ts fs) : ts.length = fs.length := Paired.length h
theorem PrsAt.snoc {K : PySem.W.Frag} {H : Hp} {ts : List Addr} {fs : List (Fr × Fr)} {t : Addr} {p : Fr × Fr} (h : PrsAt K H ts fs) (r : PrAt K H t p) : PrsAt K H (ts ++ [t]) (fs ++ [p]) := by
  induction h with
  | nil => exact .cons r .nil
  | cons r t ih => exact .cons r ih
theorem PrsAt.get {K : PySem.W.Frag} {H : Hp} : ∀ {ts : List Addr} {fs : List (Fr × Fr)} {i : Nat} {v : V}, PrsAt K H ts fs → (ts.map V.ref)[i]? = some v → ∃ t p, v = .ref t ∧ fs[i]? = some p ∧ PrAt K H t p
  | _, _, i, v, .nil, h => by simp at h
  | _, _, 0, v, .cons r t, h => by
    simp at h
    exact ⟨_, _, h.symm, rfl, r⟩
  | _, _, i + 1, v, .cons r t, h => by
    obtain ⟨a, f, e1, e2, e3⟩ := PrsAt.get (i := i) t (by simpa using h)
    exact ⟨a, f, e1, by simpa using e2, e3⟩
def spreadP (M : Rat) (fs : List (Fr × Fr)) : Rat := (fs.map fun p => rv p.2 * ((rv p.1 - M) * (rv p.1 - M))).sum
theorem spreadP_take {M : Rat} {fs : List (Fr × Fr)} {i : Nat} {p : Fr × Fr} (h : fs[i]? = some p) : spreadP M (fs.take (i + 1)) = spreadP M (fs.take i) + rv p.2 * ((rv p.1 - M) * (rv p.1 - M)) := by
  unfold spreadP
  rw [List.take_add_one, h, List.map_append, List.sum_append]
  show _ + (rv p.2 * ((rv p.1 - M) * (rv p.1 - M)) + 0) = _
  grind
def spMoments (K : PySem.W.Frag) : Sp := fun vs H Q _ => ∃ (l : Addr) (ts : List Addr) (fs : List (Fr × Fr)) (M : Int), vs = [.ref l] ∧ H l = some (.lst (ts.map V.ref)) ∧ PrsAt K H ts fs ∧ (∀ p ∈ fs, 1 ≤ p.1.2 ∧ FrB 100 p.1 ∧ 1 ≤ p.2.2 ∧ FrB 40 p.2) ∧ fs.length ≤ 60 ∧ M.natAbs ≤ 60 ∧
  (∀ i, FrB 900 (fsum (0, 1) ((fs.map fun p => ftimes p.1 p.2).take i))) ∧ (∀ i g, Low g → rv g = spreadP (M : Rat) (fs.take i) → FrB 900 g) ∧ (fs.map fun p => rv p.1 * rv p.2).sum = (M : Rat) ∧
  ∀ H' t m s g, Kp [] H H' → H' t = some (.tup [.ref m, .ref s]) → FrAt K H' m (M, 1) → FrAt K H' s g → Low g → rv g = spreadP (M : Rat) fs → Q (.ref t) H'
theorem ok__law_moments {P : Program} {w : World} {K : PySem.W.Frag} {mg : Str → Option Value} {base : Heap} (T : T P K mg) : FnOk P w K mg base CX0 4 T.a__law_moments T.fd__law_moments ["rows"] (spMoments K) := by
  refine T.F__law_moments.ok sc__law_moments (fun vs H Q E h => ?_) (fun cdv A outer s H vs Q E hr h => ?_)
  · obtain ⟨l, ts, fs, M, rfl, _⟩ := h
    rfl
  · obtain ⟨l, ts, fs, M, rfl, hl, hP, hB, hn, hM, hpre, hsp, hmean, q⟩ := h
    refine ⟨_, (pss_cons (ps_set (i := 1) sc__law_moments.nd rfl (by first | exact Or.inl rfl | exact Or.inr rfl) (pe_call (ok__law_sum T) (hr.mono (by decide)) (by rfl) T.g__law_sum T.F__law_sum.kp T.b__law_sum .nil pass0 (pa_cons (pe_lc (own := [("number", 3), ("chance", 4)]) (g := gTup K 2 (gCons (gName 3) (gCons (gName 4) gNil))) rfl sc__law_moments.nd (pi_list (pv 0)) (blkOk_by (own := [("number", 3), ("chance", 4)]) (N := N__law_moments) (sc := defScope s__law_moments) (by decide +kernel)) (fun _ _ _ _ _ => (pg_tup rfl (pgs_cons (pg_name (i := 3) sc__law_moments.nd rfl (by first | exact Or.inl rfl | exact Or.inr rfl)) (pgs_cons (pg_name (i := 4) sc__law_moments.nd rfl (by first | exact Or.inl rfl | exact Or.inr rfl)) pgs_nil)))) (fun _ _ _ _ _ => pts_nil) (fun _ _ _ _ _ => (pe_call (ok__law_times T) (hr.mono (by decide)) (by rfl) T.g__law_times T.F__law_times.kp T.b__law_times .nil pass0 (pa_cons (pv 3) (pa_cons (pv 4) pa_nil))))) pa_nil)))
      (pss_cons (ps_set (i := 2) sc__law_moments.nd rfl (by first | exact Or.inl rfl | exact Or.inr rfl) (pe_tup (pa_cons pe_int (pa_cons pe_int pa_nil))))
      (pss_cons (ps_for PassesOwn.never rfl (pi_list (pv 0)) (pg_tup rfl (pgs_cons (pg_name (i := 3) sc__law_moments.nd rfl (by first | exact Or.inl rfl | exact Or.inr rfl)) (pgs_cons (pg_name (i := 4) sc__law_moments.nd rfl (by first | exact Or.inl rfl | exact Or.inr rfl)) pgs_nil))) (pss_cons (ps_set (i := 5) sc__law_moments.nd rfl (by first | exact Or.inl rfl | exact Or.inr rfl) (pe_call (ok__law_minus T) (hr.mono (by decide)) (by rfl) T.g__law_minus T.F__law_minus.kp T.b__law_minus .nil pass0 (pa_cons (pv 3) (pa_cons (pv 1) pa_nil))))
      (pss_one (ps_set (i := 2) sc__law_moments.nd rfl (by first | exact Or.inl rfl | exact Or.inr rfl) (pe_call (ok__law_plus T) (hr.mono (by decide)) (by rfl) T.g__law_plus T.F__law_plus.kp T.b__law_plus .nil pass0 (pa_cons (pv 2) (pa_cons (pe_call (ok__law_times T) (hr.mono (by decide)) (by rfl) T.g__law_times T.F__law_times.kp T.b__law_times .nil pass0 (pa_cons (pv 4) (pa_cons (pe_call (ok__law_times T) (hr.mono (by decide)) (by rfl) T.g__law_times T.F__law_times.kp T.b__law_times .nil pass0 (pa_cons (pv 5) (pa_cons (pv 5) pa_nil))) pa_nil))) pa_nil)))))))
      (pss_one (ps_ret (pe_tup (pa_cons (pv 1) (pa_cons (pv 2) pa_nil)))))))), ?_⟩
    walk_at "z0"
    walk_at "z"
    refine Z.lcl (ts.map V.ref) (lstL hl) (fun D i H' => ∃ as : List Addr, Kp [] H H' ∧ H' D = some (.lst (as.map V.ref)) ∧ FrsAt K H' as ((fs.take i).map fun p => ftimes p.1 p.2)) ?_ ?_ ?_ ?_
    · intro D H1 nD k1 e1
      exact ⟨[], k1, e1, .nil⟩
    · rintro D i H1 nD hi ⟨as, k1, e1, F1⟩
      exact lstL (k1.get nin0 hl)
    · rintro D i v H1 nD hv ⟨as, k1, e1, F1⟩
      obtain ⟨t, p, rfl, hf, e, d, ht, he, hd⟩ := (hP.kp0 k1).get hv
      have hi : i < fs.length := (List.getElem?_eq_some_iff.mp hf).1
      obtain ⟨b1, b2, b3, b4⟩ := hB p (List.mem_of_getElem? hf)
      dsimp only [wipe, List.set]
      refine Z.gtup (tupT ht) rfl ?_
      walk_at "z"
      refine ⟨rfl, ?_⟩
      walk_at "z"
      refine ⟨e, d, p.1, p.2, rfl, he, hd, b1, b3, ⟨100, 40, b2, b4, by decide⟩, fun H2 c2 n2 k2 e2 => ?_⟩
      have e2D := k2.get nin0 e1
      refine ⟨_, e2D, Z.szl (m := 1000) (by rw [List.length_map, F1.len, List.length_map, List.length_take]; omega), as ++ [c2], (k1.trans k2).mut nD rfl, by rw [upd_same, List.map_append]; rfl, ?_⟩
      rw [List.take_add_one, hf, List.map_append]
      exact ((F1.kp0 k2).snoc e2).kpl (Kp.put (by simp)) e2D
    · rintro D H1 nD ⟨as, k1, e1, F1⟩
      rw [List.length_map, hP.len, List.take_length] at F1
      have htB : ∀ z ∈ fs.map (fun p => ftimes p.1 p.2), 1 ≤ z.2 ∧ FrB 900 z := fun z hz => by
        obtain ⟨p, hp, rfl⟩ := List.mem_map.mp hz
        obtain ⟨b1, b2, b3, b4⟩ := hB p hp
        exact ⟨lo_pos (Int.mul_ne_zero (by omega) (by omega)), (ftimes_B (n := 100) (m := 40) b2 b4 (by omega) (by omega)).mono (by decide)⟩
      walk_at "z"
      refine ⟨D, as, _, rfl, lstL e1, F1, htB, hpre, fun H2 m k2 e2 => ?_⟩
      have hs := rv_fsum (fs := fs.map fun p => ftimes p.1 p.2) low_zero fun f hf => by have := (htB f hf).1; omega
      have hmid : fsum (0, 1) (fs.map fun p => ftimes p.1 p.2) = (M, 1) := by
        refine low_eq hs.2 ⟨show (1 : Int) ≤ 1 by decide, by simp⟩ ?_
        rw [hs.1, rv_zero, rv_int, List.map_map, ← hmean]
        have e9 : fs.map (rv ∘ fun p => ftimes p.1 p.2) = fs.map fun p => rv p.1 * rv p.2 := List.map_congr_left fun p hp => by
          obtain ⟨b1, b2, b3, b4⟩ := hB p hp
          simp only [Function.comp_apply]
          rw [rv_ftimes (by omega) (by omega)]
        rw [e9]
        grind
      rw [hmid] at e2
      have hmL : Low (M, 1) := ⟨show (1 : Int) ≤ 1 by decide, by simp⟩
      have hmB : FrB 6 (M, 1) := ⟨by show M.natAbs < 64; omega, by show 1 < 64; decide⟩
      have k12 := k1.trans k2
      walk_at "z"
      refine Z.tupK (fun z0 H3 nz k3 e3 => ?_)
      have k13 := k12.trans k3
      walk_at "z"
      refine Z.forl (ts.map V.ref) (lstL (k13.get nin0 hl)) (fun i σ' H' => ∃ (y3 y4 y5 : Option V) (s : Addr) (g : Fr), σ' = [some (.ref l), some (.ref m), some (.ref s), y3, y4, y5] ∧ Kp [] H3 H' ∧ FrAt K H' s g ∧ Low g ∧ rv g = spreadP (M : Rat) (fs.take i)) ?_ ?_ ?_ ?_
      · exact ⟨_, _, _, z0, (0, 1), rfl, Kp.refl _, tupT e3, low_zero, by rw [rv_zero]; rfl⟩
      · rintro i σ' H4 _ ⟨y3, y4, y5, s, g, rfl, k4, _⟩
        exact lstL ((k13.trans k4).get nin0 hl)
      · rintro i v σ' H4 hv ⟨y3, y4, y5, s, g, rfl, k4, e4, hgL, hg⟩
        have hgB := hsp i g hgL hg
        have k14 := k13.trans k4
        obtain ⟨t, p, rfl, hf, e, d, ht, he, hd⟩ := (hP.kp0 k14).get hv
        have hi : i < fs.length := (List.getElem?_eq_some_iff.mp hf).1
        obtain ⟨b1, b2, b3, b4⟩ := hB p (List.mem_of_getElem? hf)
        have e4m := (e2.kp0 k3).kp0 k4
        refine Z.gtup (tupT ht) rfl ?_
        walk_at "z"
        refine ⟨e, m, p.1, (M, 1), rfl, he, e4m, b1, hmL.1, ⟨100, 6, b2, hmB, by decide⟩, fun H5 c5 n5 k5 e5 => ?_⟩
        have aL : Low (fminus p.1 (M, 1)) := lo_low (Int.mul_ne_zero (by omega) hmL.ne)
        have aB : FrB 107 (fminus p.1 (M, 1)) := fminus_B (n := 100) (m := 6) b2 hmB (by omega) hmL.ne
        walk_at "z"
        refine ⟨c5, c5, _, _, rfl, e5, e5, aL.1, aL.1, ⟨107, 107, aB, aB, by decide⟩, fun H6 c6 n6 k6 e6 => ?_⟩
        have qL : Low (ftimes (fminus p.1 (M, 1)) (fminus p.1 (M, 1))) := lo_low (Int.mul_ne_zero aL.ne aL.ne)
        have qB : FrB 214 (ftimes (fminus p.1 (M, 1)) (fminus p.1 (M, 1))) := ftimes_B (n := 107) (m := 107) aB aB aL.ne aL.ne
        walk_at "z"
        refine ⟨d, c6, p.2, _, rfl, (hd.kp0 k5).kp0 k6, e6, b3, qL.1, ⟨40, 214, b4, qB, by decide⟩, fun H7 c7 n7 k7 e7 => ?_⟩
        have pL : Low (ftimes p.2 (ftimes (fminus p.1 (M, 1)) (fminus p.1 (M, 1)))) := lo_low (Int.mul_ne_zero (by omega) qL.ne)
        have pB : FrB 254 (ftimes p.2 (ftimes (fminus p.1 (M, 1)) (fminus p.1 (M, 1)))) := ftimes_B (n := 40) (m := 214) b4 qB (by omega) qL.ne
        walk_at "z"
        refine ⟨s, c7, g, _, rfl, (((e4.kp0 k5).kp0 k6).kp0 k7), e7, hgL.1, pL.1, ⟨900, 254, hgB, pB, by decide⟩, fun H8 c8 n8 k8 e8 => ?_⟩
        walk_at "z"
        refine ⟨_, _, _, c8, _, rfl, (((k4.trans k5).trans k6).trans k7).trans k8, e8, fplus_low hgL.ne pL.ne, ?_⟩
        rw [rv_fplus hgL.ne pL.ne, rv_ftimes (by omega) qL.ne, rv_ftimes aL.ne aL.ne, rv_fminus (by omega) hmL.ne, rv_int, hg, spreadP_take hf]
      · rintro σ' H4 ⟨y3, y4, y5, s, g, rfl, k4, e4, hgL, hg⟩
        rw [List.length_map, hP.len, List.take_length] at hg
        walk_at "z"
        refine Z.tupK (fun t H5 nt k5 e5 => ?_)
        exact q H5 t m s g ((k13.trans k4).trans k5) e5 (((e2.kp0 k3).kp0 k4).kp0 k5) (e4.kp0 k5) hgL hg

theorem tyTup {K : PySem.W.Frag} {H : Hp} {a : Addr} {xs : List V} (h : SqT K H a xs) : TyX K H (.ref a) (.type "tuple") := by
  rcases h with (h | ⟨o, h⟩) | ⟨o, its, n, h1, h2, _⟩
  · exact .base (.tup h)
  · exact .fTuple h
  · exact .kTuple h1 h2

/-! ### k34: the law -/
def spLaw (K : PySem.W.Frag) : Sp := fun vs H Q _ => ∃ (a : Addr) (ns : List Int), vs = [.ref a] ∧ SqL K H a (ns.map V.int) ∧ ns.length ≤ 63 ∧ (∀ z ∈ ns, Builtin.Int.intBits z ≤ 1048576) ∧ ∀ H', Q (.bl true) H'
theorem items_nd {ps : List (Addr × Row)} (hl : ps.length ≤ 7) (h : ∀ (i : Nat) (x : Addr × Row), ps[i]? = some x → Row7 i x.2) : ps.Pairwise fun a b => a.2.k ≠ b.2.k := by
  rw [List.pairwise_iff_getElem]
  intro i j hi hj hij e
  have h1 := (h i ps[i] (List.getElem?_eq_getElem hi)).k
  have h2 := (h j ps[j] (List.getElem?_eq_getElem hj)).k
  rw [h1, h2] at e
  have := key7_inj (by omega) (by omega) e
  omega
theorem ex_take {T : Int} {O : List (List (Addr × Row))} {i : Nat} {o : List (Addr × Row)} (f : List (Addr × Row) → Rat) (h : O[i]? = some o) : ex T (O.take (i + 1)) f = ex T (O.take i) f + f o * ch T o := by
  unfold ex
  rw [List.take_add_one, h, List.map_append, List.sum_append]
  show _ + (f o * ch T o + 0) = _
  grind
theorem pre_B {xs : List (Addr × Row)} {T : Int} (S : Sit5 xs T) {O : List (List (Addr × Row))} (hO : O.length ≤ 60) {f : List (Addr × Row) → Rat} (h : ∀ o ∈ O, DenB (dA T xs) 650 (f o * ch T o)) (i : Nat) {g : Fr} (hL : Low g) (hg : rv g = ex T (O.take i) f) : FrB 900 g := by
  have hd := dA_B S
  refine den_B (D := dA T xs) (n := 656) (d := 512) hL ?_ hd.1 hd.2 (by decide) (by decide)
  rw [hg]
  unfold ex
  refine DenB.sum64 (n := 650) (by rw [List.length_map, List.length_take]; omega) fun z hz => ?_
  obtain ⟨o, ho, rfl⟩ := List.mem_map.mp hz
  exact h o (List.mem_of_mem_take ho)
theorem take_nd {α : Type} {l : List α} {i : Nat} {x : α} (h : l[i]? = some x) : l.take (i + 1) = l.take i ++ [x] := by rw [List.take_add_one, h]; rfl
theorem zip_map {c : List (Addr × Row) → Fr} {f : List (Addr × Row) → Rat} (G : Rat → Fr → Rat) : ∀ {fcs : List (Fr × Fr)} {O : List (List (Addr × Row))}, fcs.map (fun p => rv p.1) = O.map f → fcs.map (fun p => p.2) = O.map c → fcs.map (fun p => G (rv p.1) p.2) = O.map (fun o => G (f o) (c o))
  | [], [], _, _ => rfl
  | [], o :: r, h, _ => by simp at h
  | p :: q, [], h, _ => by simp at h
  | p :: q, o :: r, h1, h2 => by
    rw [List.map_cons, List.map_cons] at h1 h2
    obtain ⟨a1, b1⟩ := List.cons.inj h1
    obtain ⟨a2, b2⟩ := List.cons.inj h2
    rw [List.map_cons, List.map_cons, a1, a2, zip_map G b1 b2]
set_option maxHeartbeats 4000000 in
theorem ok_law {P : Program} {w : World} {K : PySem.W.Frag} {mg : Str → Option Value} {base : Heap} (T : T P K mg) : FnOk P w K mg base CX0 10 T.a_law T.fd_law ["script"] (spLaw K) := by
  refine T.F_law.ok sc_law (fun vs H Q E h => ?_) (fun cdv A outer s H vs Q E hr h => ?_)
  · obtain ⟨a, ns, rfl, _⟩ := h
    rfl
  · obtain ⟨c, ns, rfl, hS, hlen, hb, q⟩ := h
    refine ⟨_, (pss_cons (ps_set (i := 1) sc_law.nd rfl (by first | exact Or.inl rfl | exact Or.inr rfl) (pe_call (ok__law_numbers T) (hr.mono (by decide)) (by rfl) T.g__law_numbers T.F__law_numbers.kp T.b__law_numbers .nil pass0 (pa_cons (pv 0) (pa_cons pe_int pa_nil))))
      (pss_cons (ps_set (i := 2) sc_law.nd rfl (by first | exact Or.inl rfl | exact Or.inr rfl) (pe_call (ok__law_items T) (hr.mono (by decide)) (by rfl) T.g__law_items T.F__law_items.kp T.b__law_items .nil pass0 (pa_cons (pv 1) (pa_cons (pe_op op_add pe_int (pe_call (ok__law_take T) (hr.mono (by decide)) (by rfl) T.g__law_take T.F__law_take.kp T.b__law_take .nil pass0 (pa_cons (pv 1) (pa_cons pe_int pa_nil)))) pa_nil))))
      (pss_cons (ps_set (i := 3) sc_law.nd rfl (by first | exact Or.inl rfl | exact Or.inr rfl) (pe_call (ok__law_amounts T) (hr.mono (by decide)) (by rfl) T.g__law_amounts T.F__law_amounts.kp T.b__law_amounts .nil pass0 (pa_cons (pv 1) (pa_cons (pv 2) pa_nil))))
      (pss_cons (ps_set (i := 4) sc_law.nd rfl (by first | exact Or.inl rfl | exact Or.inr rfl) (pe_op op_add pe_int (pe_call (ok__law_take T) (hr.mono (by decide)) (by rfl) T.g__law_take T.F__law_take.kp T.b__law_take .nil pass0 (pa_cons (pv 1) (pa_cons pe_int pa_nil)))))
      (pss_cons (ps_set (i := 5) sc_law.nd rfl (by first | exact Or.inl rfl | exact Or.inr rfl) (pe_callB (cr_sum rfl) (by rfl) T.z_sum (by decide +kernel) (pa_cons (pe_lc (own := [("item", 18)]) (g := gName 18) rfl sc_law.nd (pi_list (pv 2)) (blkOk_by (own := [("item", 18)]) (N := N_law) (sc := defScope s_law) (by decide +kernel)) (fun _ _ _ _ _ => (pg_name (i := 18) sc_law.nd rfl (by first | exact Or.inl rfl | exact Or.inr rfl))) (fun _ _ _ _ _ => pts_nil) (fun _ _ _ _ _ => (pe_ix (ix_tup : IxR _ (rIxT K)) (pv 18) pe_int (fun _ _ => rfl)))) pa_nil)))
      (pss_cons (ps_set (i := 6) sc_law.nd rfl (by first | exact Or.inl rfl | exact Or.inr rfl) (pe_callB (call_min2 rfl) (by rfl) T.z_min (by decide +kernel) (pa_cons (pv 4) (pa_cons (pe_callB c_len (by rfl) T.z_len (by decide +kernel) (pa_cons (pv 2) pa_nil)) pa_nil))))
      (pss_cons (ps_set (i := 7) sc_law.nd rfl (by first | exact Or.inl rfl | exact Or.inr rfl) (pe_lst pa_nil))
      (pss_cons (ps_set (i := 8) sc_law.nd rfl (by first | exact Or.inl rfl | exact Or.inr rfl) (pe_tup (pa_cons pe_int (pa_cons pe_int pa_nil))))
      (pss_cons (ps_set (i := 9) sc_law.nd rfl (by first | exact Or.inl rfl | exact Or.inr rfl) (pe_lc (own := [("k", 19)]) (g := gName 19) rfl sc_law.nd (pi_range1 (by rfl) T.z_range (pa_cons (pv 6) pa_nil)) (blkOk_by (own := [("k", 19)]) (N := N_law) (sc := defScope s_law) (by decide +kernel)) (fun _ _ _ _ _ => (pg_name (i := 19) sc_law.nd rfl (by first | exact Or.inl rfl | exact Or.inr rfl))) (fun _ _ _ _ _ => pts_nil) (fun _ _ _ _ _ => (pe_tup (pa_cons pe_int (pa_cons pe_int pa_nil))))))
      (pss_cons (ps_for PassesOwn.never rfl (pi_list (pe_call (ok__law_orders T) (hr.mono (by decide)) (by rfl) T.g__law_orders T.F__law_orders.kp T.b__law_orders .nil pass0 (pa_cons (pv 2) (pa_cons (pv 6) pa_nil)))) (pg_name (i := 10) sc_law.nd rfl (by first | exact Or.inl rfl | exact Or.inr rfl)) (pss_cons (ps_set (i := 11) sc_law.nd rfl (by first | exact Or.inl rfl | exact Or.inr rfl) (pe_call (ok__law_order_chance T) (hr.mono (by decide)) (by rfl) T.g__law_order_chance T.F__law_order_chance.kp T.b__law_order_chance .nil pass0 (pa_cons (pv 5) (pa_cons (pv 10) pa_nil))))
      (pss_cons (ps_set (i := 12) sc_law.nd rfl (by first | exact Or.inl rfl | exact Or.inr rfl) (pe_make T.mk_Weighted (ok_Weighted_init T) (hr.mono (by decide)) (by rfl) T.mg_Weighted T.b_Weighted_init .nil pass0 (pa_cons (pv 4) (pa_cons (pv 5) (pa_cons (pe_callTy c_list (by rfl) T.z_list (by decide +kernel) (pa_cons (pv 10) pa_nil)) pa_nil)))))
      (pss_cons (ps_set (i := 13) sc_law.nd rfl (by first | exact Or.inl rfl | exact Or.inr rfl) (pe_call (ok_estimate T) (hr.mono (by decide)) (by rfl) T.g_estimate T.F_estimate.kp T.b_estimate .nil pass0 (pa_cons (pv 12) (pa_cons (pe_callTy call_dictD (by rfl) T.z_dict (by decide +kernel) (pa_cons (pv 3) pa_nil)) pa_nil))))
      (pss_cons (ps_set (i := 14) sc_law.nd rfl (by first | exact Or.inl rfl | exact Or.inr rfl) (pe_call (ok_ordered T) (hr.mono (by decide)) (by rfl) T.g_ordered T.F_ordered.kp T.b_ordered .nil pass0 (pa_cons (pv 12) (pa_cons (pe_callTy call_dictD (by rfl) T.z_dict (by decide +kernel) (pa_cons (pv 3) pa_nil)) pa_nil))))
      (pss_cons (ps_if (PW.pt (pw_or (pt_cmpR op_ne (pe_call (ok_is_whole T) (hr.mono (by decide)) (by rfl) T.g_is_whole T.F_is_whole.kp T.b_is_whole .nil pass0 (pa_cons (pv 12) pa_nil)) (pe_cmpR op_eq (pv 6) (pe_callB c_len (by rfl) T.z_len (by decide +kernel) (pa_cons (pv 2) pa_nil)) (nomark _)) (nomark _)) (pw_or1 (pt_cmpR (op_neD hr.units) (pe_fld (pv 12) rfl) (pv 10) (nomark _))))) (pss_one (ps_ret pe_bl)) pss_nil)
      (Z.pss_consJ (ps_if (pt_cmpR op_ne (pe_cmpR o_isN (pe_ix ix_tup (pv 13) pe_int (fun _ _ => rfl)) pe_non (nomark _)) (pe_and (pe_cmpR op_eq (pv 6) pe_int (nomark _)) (pe_one (pe_cmpR op_gt (pe_callB c_len (by rfl) T.z_len (by decide +kernel) (pa_cons (pv 2) pa_nil)) pe_int (nomark _)))) (nomark _)) (pss_one (ps_ret pe_bl)) pss_nil)
      (pss_cons (ps_if (pt_cmpR (op_neD hr.units) (pe_call (ok__law_times T) (hr.mono (by decide)) (by rfl) T.g__law_times T.F__law_times.kp T.b__law_times .nil pass0 (pa_cons (pe_call (ok__law_sum T) (hr.mono (by decide)) (by rfl) T.g__law_sum T.F__law_sum.kp T.b__law_sum .nil pass0 (pa_cons (pv 14) pa_nil)) (pa_cons (pe_tup (pa_cons pe_int (pa_cons (pe_callB (call_max2 rfl) (by rfl) T.z_max (by decide +kernel) (pa_cons pe_int (pa_cons (pe_callB c_len (by rfl) T.z_len (by decide +kernel) (pa_cons (pv 14) pa_nil)) pa_nil))) pa_nil))) pa_nil))) (pe_ix ix_tup (pv 13) pe_int (fun _ _ => rfl)) (nomark _)) (pss_one (ps_ret pe_bl)) pss_nil)
      (pss_cons (ps_expr (pe_bm PySem.F.plainAttrs_list PySem.F.slot_list_append PySem.F.type_list_append mt_append (pv 7) (pa_cons (pe_tup (pa_cons (pe_ix ix_tup (pv 13) pe_int (fun _ _ => rfl)) (pa_cons (pv 11) pa_nil))) pa_nil)))
      (Z.pss_consJ (ps_if (pt_cmpR o_notN (pe_ix ix_tup (pv 13) pe_int (fun _ _ => rfl)) pe_non (nomark _)) (pss_one (ps_set (i := 8) sc_law.nd rfl (by first | exact Or.inl rfl | exact Or.inr rfl) (pe_call (ok__law_plus T) (hr.mono (by decide)) (by rfl) T.g__law_plus T.F__law_plus.kp T.b__law_plus .nil pass0 (pa_cons (pv 8) (pa_cons (pe_call (ok__law_times T) (hr.mono (by decide)) (by rfl) T.g__law_times T.F__law_times.kp T.b__law_times .nil pass0 (pa_cons (pe_ix ix_tup (pv 13) pe_int (fun _ _ => rfl)) (pa_cons (pv 11) pa_nil))) pa_nil))))) pss_nil)
      (pss_one (ps_if (pt_cmpR op_lt (pv 6) (pe_callB c_len (by rfl) T.z_len (by decide +kernel) (pa_cons (pv 2) pa_nil)) (nomark _)) (pss_cons (ps_if (pt_cmpR op_ne (pe_callB c_len (by rfl) T.z_len (by decide +kernel) (pa_cons (pv 14) pa_nil)) (pv 6) (nomark _)) (pss_one (ps_ret pe_bl)) pss_nil)
      (pss_one (ps_set (i := 9) sc_law.nd rfl (by first | exact Or.inl rfl | exact Or.inr rfl) (pe_lc (own := [("k", 19)]) (g := gName 19) rfl sc_law.nd (pi_range1 (by rfl) T.z_range (pa_cons (pv 6) pa_nil)) (blkOk_by (own := [("k", 19)]) (N := N_law) (sc := defScope s_law) (by decide +kernel)) (fun _ _ _ _ _ => (pg_name (i := 19) sc_law.nd rfl (by first | exact Or.inl rfl | exact Or.inr rfl))) (fun _ _ _ _ _ => pts_nil) (fun _ _ _ _ _ => (pe_call (ok__law_plus T) (hr.mono (by decide)) (by rfl) T.g__law_plus T.F__law_plus.kp T.b__law_plus .nil pass0 (pa_cons (pe_ix (ix_list : IxR _ (rIxL K)) (pv 9) (pv 19) (fun _ _ => rfl)) (pa_cons (pe_call (ok__law_times T) (hr.mono (by decide)) (by rfl) T.g__law_times T.F__law_times.kp T.b__law_times .nil pass0 (pa_cons (pe_ix (ix_list : IxR _ (rIxL K)) (pv 14) (pv 19) (fun _ _ => rfl)) (pa_cons (pv 11) pa_nil))) pa_nil)))))))) pss_nil))))))))))))
      (pss_cons (ps_asg (pe_call (ok__law_moments T) (hr.mono (by decide)) (by rfl) T.g__law_moments T.F__law_moments.kp T.b__law_moments .nil pass0 (pa_cons (pv 7) pa_nil)) (pg_tup rfl (pgs_cons (pg_name (i := 15) sc_law.nd rfl (by first | exact Or.inl rfl | exact Or.inr rfl)) (pgs_cons (pg_name (i := 16) sc_law.nd rfl (by first | exact Or.inl rfl | exact Or.inr rfl)) pgs_nil))))
      (pss_cons (ps_set (i := 17) sc_law.nd rfl (by first | exact Or.inl rfl | exact Or.inr rfl) (pe_tup (pa_cons (pe_call (ok__law_true T) (hr.mono (by decide)) (by rfl) T.g__law_true T.F__law_true.kp T.b__law_true .nil pass0 (pa_cons (pv 2) (pa_cons (pv 3) pa_nil))) (pa_cons pe_int pa_nil))))
      (Z.pss_consJ (ps_if (PW.pt (pw_or (pt_cmpR (op_neD hr.units) (pv 15) (pv 17) (nomark _)) (pw_or1 (PW.pt (pw_and (pt_cmpR op_lt (pv 6) (pe_callB c_len (by rfl) T.z_len (by decide +kernel) (pa_cons (pv 2) pa_nil)) (nomark _)) (pw_and1 (pt_val (pe_callB (cr_any rfl) (by rfl) T.z_any (by decide +kernel) (pa_cons (pe_lc (own := [("one", 20)]) (g := gName 20) rfl sc_law.nd (pi_list (pv 9)) (blkOk_by (own := [("one", 20)]) (N := N_law) (sc := defScope s_law) (by decide +kernel)) (fun _ _ _ _ _ => (pg_name (i := 20) sc_law.nd rfl (by first | exact Or.inl rfl | exact Or.inr rfl))) (fun _ _ _ _ _ => pts_nil) (fun _ _ _ _ _ => (pe_cmpR (op_neD hr.units : OpR _ _ (rNeD K)) (pv 20) (pv 17) (nomark _)))) pa_nil))))))))) (pss_one (ps_ret pe_bl)) pss_nil)
      (pss_one (ps_ret (pe_or (pe_and (pe_cmpR op_eq (pv 6) pe_int (nomark _)) (pe_one (pe_cmpR op_gt (pe_callB c_len (by rfl) T.z_len (by decide +kernel) (pa_cons (pv 2) pa_nil)) pe_int (nomark _)))) (pe_one (pe_cmpR (op_eqD hr.units) (pv 8) (pv 16) (nomark _))))))))))))))))))), ?_⟩
    walk_at "z0"
    walk_at "z"
    refine ⟨c, ns, 90, rfl, hS, by decide, hb, fun a H1 na k1 d1 => ?_⟩
    walk_at "z"
    refine ⟨a, 5, rfl, d1, by decide, by decide, fun H2 n2 hn0 hn1 k2 d2 => ?_⟩
    obtain ⟨n, hn⟩ : ∃ n : Nat, 1 + n2 = (n : Int) := ⟨(1 + n2).toNat, by omega⟩
    have hnn1 : 1 ≤ n := by omega
    have hnn5 : n ≤ 5 := by omega
    walk_at "z"
    rw [hn]
    refine ⟨a, n, rfl, d2, by omega, fun H3 p ps np I => ?_⟩
    have hpl : ps.length = n := I.len
    have hpS : ∀ x ∈ ps, RowS x.2 := fun x hx => by
      obtain ⟨j, hj, he⟩ := List.getElem_of_mem hx
      exact (I.ok j x (by rw [List.getElem?_eq_getElem hj, he])).s (by omega)
    have hpW : ∀ x ∈ ps, RowW x.2 := fun x hx => by
      obtain ⟨j, hj, he⟩ := List.getElem_of_mem hx
      have := I.ok j x (by rw [List.getElem?_eq_getElem hj, he])
      exact ⟨this.w0, this.w1⟩
    have S5 : Sit5 ps (wts ps).sum := { nd := items_nd (by omega) I.ok, ws := hpW, tot := rfl, n1 := by omega, n5 := by omega }
    have hT := S5.T1
    have npa : p ≠ a := fun z => by obtain ⟨ns2, h2⟩ := d2; rw [← z, np] at h2; cases h2
    walk_at "z"
    refine ⟨a, p, ps, rfl, I.dr, I.at_, I.rows, npa, by omega, fun H4 d kvs nd k4 d4 e4 ho_amt => ?_⟩
    have e4p := k4.get (nin1 npa) I.at_
    have r4 := I.rows.kpd k4 I.dr
    have nda : d ≠ a := fun z => by obtain ⟨ns2, h2⟩ := I.dr; rw [← z, nd] at h2; cases h2
    walk_at "z"
    refine ⟨a, 3, rfl, d4, by decide, by decide, fun H5 s5 hs0 hs1 k5 d5 => ?_⟩
    obtain ⟨size, hsz⟩ : ∃ n : Nat, 1 + s5 = (n : Int) := ⟨(1 + s5).toNat, by omega⟩
    have e5p := k5.get (nin1 npa) e4p
    have r5 := r4.kpd k5 d4
    have e5d := k5.get (nin1 nda) e4
    walk_at "z"
    rw [hsz]
    refine Z.lcl (refs ps) (lstL e5p) (fun D i H' => Kp [] H5 H' ∧ H' D = some (.lst ((wts (ps.take i)).map V.int))) ?_ ?_ ?_ ?_
    · intro D H6 nD k6 e6
      exact ⟨k6, e6⟩
    · rintro D i H6 nD hi ⟨k6, e6⟩
      exact lstL (k6.get nin0 e5p)
    · rintro D i v H6 nD hv ⟨k6, e6⟩
      obtain ⟨x, hx, rfl⟩ := refs_of hv
      have hi : i < ps.length := (List.getElem?_eq_some_iff.mp hx).1
      dsimp only [wipe, List.set]
      walk_at "z"
      refine ⟨rfl, ?_⟩
      walk_at "z"
      refine RowAt.w2 ((r5.kp0 k6) x (List.mem_of_getElem? hx)) ?_
      refine ⟨_, e6, Z.szl (m := 1000) (by unfold wts; rw [List.length_map, List.length_map, List.length_take]; omega), k6.mut nD rfl, ?_⟩
      rw [upd_same, List.take_add_one, hx]
      unfold wts
      rw [List.map_append, List.map_append]; rfl
    rintro D0 H6 nD0 ⟨k6, e6⟩
    rw [refs_len, List.take_length] at e6
    walk_at "z"
    refine Z.sumL (lstL e6) ?_
    have e6p := k6.get nin0 e5p
    have e6d := k6.get nin0 e5d
    have r6 := r5.kp0 k6
    walk_at "z"
    refine Z.lenL (lstL e6p) ?_
    rw [refs_len, hpl]
    walk_at "z"
    refine ⟨_, _, rfl, ?_⟩
    obtain ⟨m, hm, hmeq⟩ : ∃ m : Nat, (if (n : Int) < (size : Int) then (n : Int) else (size : Int)) = (m : Int) ∧ m = min size n := by
      refine ⟨min size n, ?_, rfl⟩
      split <;> omega
    rw [hm]
    have hm1 : 1 ≤ m := by omega
    have hm3 : m ≤ 3 := by omega
    have hmn : m ≤ n := by omega
    have hFin := fin_o S5 kvs hm1 (by omega : m ≤ ps.length)
    have hTerm : ∀ o ∈ ordS ps m, TermD kvs (wts ps).sum ps o := fun o ho => term_D S5 ho_amt hm1 hm3 (by omega) ho
    have hOl : (ordS ps m).length ≤ 60 := by
      have h1 := ordS_len S5.nd (by omega) m hm3
      have : m = 1 ∨ m = 2 ∨ m = 3 := by omega
      rcases this with rfl | rfl | rfl
      · exact Nat.le_trans h1 (by decide)
      · exact Nat.le_trans h1 (by decide)
      · exact Nat.le_trans h1 (by decide)
    generalize hTt : (wts ps).sum = t at *
    walk_at "z"
    refine Z.lstK (fun R H7 nR k7 e7 => ?_)
    walk_at "z"
    refine Z.tupK (fun W H8 nW k8 e8 => ?_)
    walk_at "z"
    refine Z.lcr m rfl (by omega) (fun D i H' => ∃ (es : List Addr), Kp [] H8 H' ∧ H' D = some (.lst (es.map V.ref)) ∧ FrsAt K H' es (List.replicate i (0, 1))) ?_ ?_ ?_
    · intro D H9 nD k9 e9
      exact ⟨[], k9, e9, .nil⟩
    · rintro D j H9 nD hj ⟨es, k9, e9, F9⟩
      dsimp only [wipe, List.set]
      walk_at "z"
      refine ⟨rfl, ?_⟩
      walk_at "z"
      refine Z.tupK (fun z0 H10 nz k10 e10 => ?_)
      have e10D := k10.get nin0 e9
      refine ⟨_, e10D, Z.szl (m := 1000) (by rw [List.length_map, F9.len, List.length_replicate]; omega), es ++ [z0], (k9.trans k10).mut nD rfl, by rw [upd_same, List.map_append]; rfl, ?_⟩
      rw [List.replicate_succ']
      exact ((F9.kp0 k10).snoc (tupT e10 : FrAt K H10 z0 (0, 1))).kpl (Kp.put (by simp)) e10D
    rintro E0 H9 nE0 ⟨es0, k9, e9, F9⟩
    have k69 := (k7.trans k8).trans k9
    have e9R := (k8.trans k9).get nin0 e7
    have e9p := k69.get nin0 e6p
    have e9d := k69.get nin0 e6d
    have r9 := r6.kp0 k69
    walk_at "z"
    refine ⟨p, m, ps, rfl, e9p, r9, hpS, S5.nd, by omega, hm3, fun H10 F L k10 e10 SL hL => ?_⟩
    have hLl : L.length ≤ 60 := by rw [← hL, List.length_map] at hOl; exact hOl
    have e10p := k10.get nin0 e9p
    have e10d := k10.get nin0 e9d
    have e10R := k10.get nin0 e9R
    have e10E := k10.get nin0 e9
    have r10 := r9.kp0 k10
    have F10 := F9.kp0 k10
    have e10W : FrAt K H10 W (0, 1) := (tupT (k10.get nin0 (k9.get nin0 e8)) : FrAt K H10 W (0, 1))
    have nRE : R ≠ E0 := ne_of_none (k8.get nin0 e7) nE0 
    have hoL : ∀ {i : Nat} {o : Addr × List (Addr × Row)}, L[i]? = some o → (ordS ps m)[i]? = some o.2 := fun {i o} h => by rw [← hL, List.getElem?_map, h]; rfl
    have npR : p ≠ R := ne_of_none e6p nR
    have ndR : d ≠ R := ne_of_none e6d nR
    have hOne : ordS ps m ≠ [] := fun z => by
      have h1 := ex_one S5.toSit m (by omega)
      rw [z] at h1
      have h2 : (0 : Rat) = 1 := h1
      grind
    have nFR : F ≠ R := fun z => by
      rw [z, e10R] at e10
      cases L with
      | nil => exact hOne (by rw [← hL]; rfl)
      | cons o r => simp [srefs] at e10
    walk_at "z"
    refine Z.forl (srefs L) (lstL e10) (fun i σ' H' => ∃ (y10 y11 y12 y13 y14 : Option V) (tw E : Addr) (ts es : List Addr) (fcs : List (Fr × Fr)) (tf : Fr) (efs : List Fr), σ' = [some (.ref c), some (.ref a), some (.ref p), some (.ref d), some (.int (size : Int)), some (.int t), some (.int (m : Int)), some (.ref R), some (.ref tw), some (.ref E), y10, y11, y12, y13, y14, none, none, none, none, none, none] ∧ Kp [R] H10 H' ∧
      H' R = some (.lst (ts.map V.ref)) ∧ PrsAt K H' ts fcs ∧ fcs.length = i ∧ fcs.map (fun p => rv p.1) = ((ordS ps m).take i).map (fun o => meanR (numsR kvs t o)) ∧ fcs.map (fun p => p.2) = ((ordS ps m).take i).map (chF t) ∧ (∀ p ∈ fcs, 1 ≤ p.1.2 ∧ FrB 100 p.1 ∧ 1 ≤ p.2.2 ∧ FrB 40 p.2) ∧
      FrAt K H' tw tf ∧ Low tf ∧ (¬ (m = 1 ∧ n ≠ 1) → rv tf = ex t ((ordS ps m).take i) (varR kvs t)) ∧
      H' E = some (.lst (es.map V.ref)) ∧ E ≠ R ∧ FrsAt K H' es efs ∧ efs.length = m ∧ (∀ k f, efs[k]? = some f → Low f ∧ (m < n → rv f = ex t ((ordS ps m).take i) (fun o => (numsR kvs t o).getD k 0)))) ?_ ?_ ?_ ?_
    · refine ⟨none, none, none, none, none, W, E0, [], es0, [], (0, 1), List.replicate m (0, 1), rfl, Kp.refl _, e10R, .nil, rfl, rfl, rfl, (fun f hf => by cases hf), e10W, low_zero, fun _ => by rw [rv_zero]; rfl, e10E, nRE.symm, F10, by rw [List.length_replicate], fun k f hf => ?_⟩
      have hf0 : f = (0, 1) := (List.mem_replicate.mp (List.mem_of_getElem? hf)).2
      rw [hf0]
      exact ⟨low_zero, fun _ => by rw [rv_zero]; rfl⟩
    · rintro i σ' H' _ ⟨y10, y11, y12, y13, y14, tw, E, ts, es, fcs, tf, efs, rfl, k11, eR, _⟩
      exact lstL (k11.get (nin1 nFR) e10)
    · rintro i v σ' H11 hv ⟨y10, y11, y12, y13, y14, tw, E, ts, es, fcs, tf, efs, rfl, k11, e11R, P11, hfl, hfm, hfc, hfB, e11W, htL, htv, e11E, nER, F11, hefl, hefs⟩
      obtain ⟨o, ho, rfl⟩ := srefs_of hv
      have hoO := hoL ho
      have hoM := List.mem_of_getElem? hoO
      have hom := List.mem_of_getElem? ho
      obtain ⟨g, hol⟩ := ordS_good S5.nd m o.2 hoM
      have hi : i < L.length := (List.getElem?_eq_some_iff.mp ho).1
      have hTo := hTerm o.2 hoM
      have e10o := SL o hom
      have noR : o.1 ≠ R := fun z => by
        rw [z, e10R] at e10o
        have h1 := congrArg (fun u => match u with | some (HO.lst xs) => xs.length | _ => 0) e10o
        simp [refs_len, hol] at h1
        omega
      have e11o := k11.get (nin1 noR) e10o
      have e11p := k11.get (nin1 npR) e10p
      have e11d := k11.get (nin1 ndR) e10d
      have r11 := r10.kp1 k11 e10R
      have r11o : RowsAt H11 o.2 := fun x hx => r11 x (g.sub x hx)
      have hoS : ∀ x ∈ o.2, RowS x.2 := fun x hx => hpS x (g.sub x hx)
      have hoW : ∀ x ∈ o.2, RowW x.2 := fun x hx => hpW x (g.sub x hx)
      have hwh := S5.whole g
      walk_at "z"
      refine ⟨o.1, t, o.2, rfl, e11o, r11o, hoW, by omega, by omega, by omega, fun H12 cc k12 e12 => ?_⟩
      have hcL := chF_low t _ o.2 rfl
      have hcB : FrB 40 (chF t o.2) := (chF_B (T := t) (by omega) _ o.2 rfl hoW).mono (by omega)
      walk_at "z"
      refine Z.listL (lstL (k12.get nin0 e11o)) (fun g1 H13 ng1 k13 e13 => ?_)
      walk_at "z"
      intro x dx nx ndx nxd
      refine ⟨x, g1, dx, (size : Int), t, o.2, rfl, upd_same, ?_, fun H14 kk nk k14 hU => ⟨rfl, ?_⟩⟩
      · rw [upd_ne (ne_of_none e13 nx), upd_ne (ne_of_none e13 ndx)]; exact e13
      have k1314 : Kp [] H13 H14 := (Kp.made (M := []) nx ndx).then1 k14 nx
      have k1114 := (k12.trans k13).trans k1314
      walk_at "z"
      refine ⟨d, kvs, rfl, .inl (k1114.get nin0 e11d), fun d2 nd2 => ?_⟩
      have k15 : Kp [] H14 (upd H14 d2 (.dK kvs)) := Kp.new nd2
      have e15 : upd H14 d2 (.dK kvs) d2 = some (.dK kvs) := upd_same
      generalize upd H14 d2 (.dK kvs) = H15 at k15 e15 ⊢
      have k1115 := k1114.trans k15
      walk_at "z"
      refine ⟨x, kk, d2, (size : Int), t, o.2, kvs, rfl, hU.kp0 k15, r11o.kp0 k1115, by omega, by omega, hoW, by omega, by omega, trivial, e15, ho_amt, fun H16 t2 e ef av k16 A => ?_⟩
      have k1116 := k1115.trans k16
      walk_at "z"
      refine ⟨d, kvs, rfl, .inl (k1116.get nin0 e11d), fun d3 nd3 => ?_⟩
      have k17 : Kp [] H16 (upd H16 d3 (.dK kvs)) := Kp.new nd3
      have e17 : upd H16 d3 (.dK kvs) d3 = some (.dK kvs) := upd_same
      generalize upd H16 d3 (.dK kvs) = H17 at k17 e17 ⊢
      have k1117 := k1116.trans k17
      have k1517 := k16.trans k17
      walk_at "z"
      refine ⟨x, kk, d3, (size : Int), t, o.2, kvs, rfl, (hU.kp0 k15).kp0 k1517, r11o.kp0 k1117, by omega, by omega, hoW, by omega, by omega, e17, ho_amt, fun H18 D as fs nD k18 e18 F18 hfsB hfs => ?_⟩
      have k1118 := k1117.trans k18
      have k1518 := k1517.trans k18
      have nDR : D ≠ R := fun z => ne_of_none (k1117.get nin0 e11R) nD z.symm
      have hfsl : fs.length = (numsR kvs t o.2).length := by rw [← hfs, List.length_map]
      have hnl : (m < n → (numsR kvs t o.2).length = m) ∧ (m = n → (numsR kvs t o.2).length = 1) := by
        unfold numsR
        constructor
        · intro h
          rw [if_neg (fun z => by have := hwh.mp z; omega), List.length_map, ordF_len]; exact hol
        · intro h
          rw [if_pos (hwh.mpr (by omega))]; rfl
      have hfs13 : 1 ≤ fs.length ∧ fs.length ≤ 3 := by
        rcases Nat.lt_or_ge m n with z | z
        · have := hnl.1 z; omega
        · have := hnl.2 (by omega); omega
      walk_at "z"
      refine ⟨x, kk, (size : Int), t, o.2, rfl, (hU.kp0 k15).kp0 k1518, r11o.kp0 k1118, by omega, fun H19 k19 => ?_⟩
      have k1119 := k1118.trans k19
      have k1519 := k1518.trans k19
      have hU19 := (hU.kp0 k15).kp0 k1519
      have A19e : FrAt K H19 e ef := A.est.kp0 ((k17.trans k18).trans k19)
      have A19 := ((k17.trans k18).trans k19).get nin0 A.at_
      walk_at "z"
      refine Z.lenL (lstL (k1119.get nin0 e11p)) ?_
      rw [refs_len, hpl]
      walk_at "z"
      refine Z.noN ?_ ?_
      · rw [decide_eq_decide]
        constructor
        · intro z; have := hwh.mp z; omega
        · intro z; exact hwh.mpr (by omega)
      walk_at "z"
      obtain ⟨⟨dx19, hx19⟩, hk19⟩ := id hU19
      refine ⟨x, _, dx19, _, _, rfl, hx19, T.cl_Weighted, T.na_Weighted_kept, wf_kept (size : Int) t kk, ?_⟩
      walk_at "z"
      refine neRows hk19 (k1119.get nin0 e11o) (r11o.kp0 k1119) hoS ?_
      walk_at "z"
      have hav : decide (av = .non) = (decide (m = 1) && decide (1 < n)) := by
        rcases A.var with ⟨h1, h2, h3⟩ | ⟨h1, w, vf, h2, _⟩
        · have : o.2.length ≠ ps.length := fun z => h3 (hwh.mpr z)
          rw [h1, decide_eq_true rfl, decide_eq_true (show m = 1 by omega), decide_eq_true (show 1 < n by omega)]; rfl
        · rw [h2, decide_eq_false (by simp)]
          by_cases hs : m = 1
          · rw [decide_eq_true hs, decide_eq_false (show ¬ 1 < n from fun z => h1 ⟨by omega, fun z2 => by have := hwh.mp z2; omega⟩)]; rfl
          · rw [decide_eq_false hs]; rfl
      have k1019 : Kp [R] H10 H19 := k11.trans (k1119.sub (by simp))
      refine Z.seqJ (fun σ' H' => σ' = [some (.ref c), some (.ref a), some (.ref p), some (.ref d), some (.int (size : Int)), some (.int t), some (.int (m : Int)), some (.ref R), some (.ref tw), some (.ref E), some (.ref o.1), some (.ref cc), some (.ref x), some (.ref t2), some (.ref D), none, none, none, none, none, none] ∧ H19 = H') ?_ ?_
      · rintro σ' H' ⟨rfl, rfl⟩
        have e19D := k19.get nin0 e18
        have F19 := F18.kp0 k19
        walk_at "z"
        refine ⟨D, as, fs, rfl, lstL e19D, F19, fun f hf => ⟨(hfsB f hf).1, (hfsB f hf).2.mono (by decide)⟩, fun j => ?_, fun H20 c20 k20 e20 => ?_⟩
        · have h1 := fsum_B (fs := fs.take j) (t := (0, 1)) (n := 1) (m := 30) ⟨by decide, by decide⟩ (by decide) fun f hf => ⟨(hfsB f (List.mem_of_mem_take hf)).2, by have := (hfsB f (List.mem_of_mem_take hf)).1; omega⟩
          exact h1.1.mono (by have : (fs.take j).length ≤ 3 := by rw [List.length_take]; omega
                              omega)
        have hs := rv_fsum (fs := fs) low_zero fun f hf => by have := (hfsB f hf).1; omega
        have hsB : FrB 94 (fsum (0, 1) fs) := (fsum_B (fs := fs) (t := (0, 1)) (n := 1) (m := 30) ⟨by decide, by decide⟩ (by decide) fun f hf => ⟨(hfsB f hf).2, by have := (hfsB f hf).1; omega⟩).1.mono (by omega)
        walk_at "z"
        refine Z.lenL (lstL (k20.get nin0 e19D)) ?_
        rw [List.length_map, F19.len]
        walk_at "z"
        refine ⟨_, _, rfl, ?_⟩
        generalize hmx : (if (1 : Int) < ((fs.length : Nat) : Int) then ((fs.length : Nat) : Int) else 1) = mx
        have hmx' : mx = ((fs.length : Nat) : Int) := by rw [← hmx]; split <;> omega
        subst hmx'
        walk_at "z"
        refine Z.tupK (fun u1 H21 nu1 k21 e21 => ?_)
        walk_at "z"
        have hl1 : 1 ≤ ((1 : Int), ((fs.length : Nat) : Int)).2 := by show (1 : Int) ≤ (fs.length : Int); omega
        have hlB : FrB 2 ((1 : Int), ((fs.length : Nat) : Int)) := ⟨by show (1 : Nat) < 4; decide, by show ((fs.length : Nat) : Int).natAbs < 4; rw [Int.natAbs_natCast]; omega⟩
        refine ⟨c20, u1, fsum (0, 1) fs, ((1 : Int), ((fs.length : Nat) : Int)), rfl, e20.kp0 k21, tupT e21, hs.2.1, hl1, ⟨94, 2, hsB, hlB, by decide⟩, fun H22 c22 n22 k22 e22 => ?_⟩
        have k1922 := (k20.trans k21).trans k22
        walk_at "z"
        refine Z.ixT (tupT (k1922.get nin0 A19)) (show atI [V.ref e, av] 0 = some (.ref e) from rfl) ?_
        refine neF e22 (A19e.kp0 k1922) ?_
        refine Z.bl' ?_
        refine Z.noN ?_ ?_
        · refine low_eq (lo_low (Int.mul_ne_zero hs.2.ne (by omega))) A.low ?_
          show rv (ftimes _ _) = _
          rw [rv_ftimes hs.2.ne (by omega), hs.1, rv_zero, A.rv, hfs]
          unfold meanR
          rw [← hfsl]
          have hcn := castNe hfs13.1
          have e10 : rv ((1 : Int), ((fs.length : Nat) : Int)) = 1 / (fs.length : Rat) := by
            unfold rv
            exact_mod_cast rfl
          rw [e10]
          grind
        have k1122 := k1119.trans k1922
        have e22R := k1122.get nin0 e11R
        walk_at "z"
        refine ⟨Z.tyL e22R, ?_⟩
        walk_at "z"
        refine Z.ixT (tupT (k1922.get nin0 A19)) (show atI [V.ref e, av] 0 = some (.ref e) from rfl) ?_
        walk_at "z"
        refine Z.tupK (fun u2 H23 nu2 k23 e23 => ?_)
        walk_at "z"
        have k1923 := k1922.trans k23
        have k1223 := ((((k13.trans k1314).trans k15).trans k1519).trans k1923)
        have e23R := k23.get nin0 e22R
        have p23 : PrAt K H23 u2 (ef, chF t o.2) := ⟨e, cc, e23, A19e.kp0 k1923, e12.kp0 k1223⟩
        have P23 := (P11.kp0 (k1122.trans k23)).snoc p23
        refine Z.app e23R (Z.szl (m := 1000) (by rw [List.length_map, P11.len]; omega)) ?_
        have e24R : upd H23 R (.lst (ts.map V.ref ++ [V.ref u2])) R = some (.lst ((ts ++ [u2]).map V.ref)) := by rw [upd_same, List.map_append]; rfl
        have k24 : Kp [R] H23 (upd H23 R (.lst (ts.map V.ref ++ [V.ref u2]))) := Kp.put (by simp)
        generalize upd H23 R (.lst (ts.map V.ref ++ [V.ref u2])) = H24 at e24R k24 ⊢
        have P24 := P23.kpl k24 e23R
        have k1124 : Kp [R] H11 H24 := ((k1122.trans k23).sub (by simp)).trans k24
        have k1024 : Kp [R] H10 H24 := k11.trans k1124
        have e24t := k24.get (nin1 (show t2 ≠ R from fun z => by
          have h1 := k1923.get nin0 A19
          rw [z, e23R] at h1; cases h1)) (k1923.get nin0 A19)
        have e24c : FrAt K H24 cc (chF t o.2) := (e12.kp0 k1223).kpl k24 e23R
        have e24W : FrAt K H24 tw tf := (e11W.kp0 (k1122.trans k23)).kpl k24 e23R
        have e24D := k24.get (nin1 nDR) (k1923.get nin0 e19D)
        have F24 : FrsAt K H24 as fs := (F19.kp0 k1923).kpl k24 e23R
        have e24E := k1124.get (nin1 nER) e11E
        have FE24 : FrsAt K H24 es efs := (F11.kp0 (k1122.trans k23)).kpl k24 e23R
        have hfm' : (fcs ++ [(ef, chF t o.2)]).map (fun p => rv p.1) = ((ordS ps m).take (i + 1)).map (fun o => meanR (numsR kvs t o)) := by
          rw [List.map_append, hfm, take_nd hoO, List.map_append]
          congr 1
          show [rv ef] = [meanR (numsR kvs t o.2)]
          rw [A.rv]
        have hfc' : (fcs ++ [(ef, chF t o.2)]).map (fun p => p.2) = ((ordS ps m).take (i + 1)).map (chF t) := by
          rw [List.map_append, hfc, take_nd hoO, List.map_append]; rfl
        have hfB' : ∀ p ∈ fcs ++ [(ef, chF t o.2)], 1 ≤ p.1.2 ∧ FrB 100 p.1 ∧ 1 ≤ p.2.2 ∧ FrB 40 p.2 := mem_append_one hfB ⟨A.low.1, A.B, hcL.1, hcB⟩
        have hvs : ∀ w vf, av = .ref w → FrAt K H16 w vf → FrAt K H24 w vf := fun w vf _ h => (h.kp0 ((k17.trans k18).trans (k19.trans k1923))).kpl k24 e23R
        walk_at "z"
        refine Z.seqJ (fun σ' H' => ∃ (tw2 : Addr) (tf2 : Fr), σ' = [some (.ref c), some (.ref a), some (.ref p), some (.ref d), some (.int (size : Int)), some (.int t), some (.int (m : Int)), some (.ref R), some (.ref tw2), some (.ref E), some (.ref o.1), some (.ref cc), some (.ref x), some (.ref t2), some (.ref D), none, none, none, none, none, none] ∧ Kp [] H24 H' ∧ FrAt K H' tw2 tf2 ∧ Low tf2 ∧ (¬ (m = 1 ∧ n ≠ 1) → rv tf2 = ex t ((ordS ps m).take (i + 1)) (varR kvs t))) ?_ ?_
        · rintro σ' H25 ⟨tw2, tf2, rfl, k25, e25W, htL2, htv2⟩
          have k1025 : Kp [R] H10 H25 := k1024.trans (k25.sub (by simp))
          have e25p := k1025.get (nin1 npR) e10p
          have e25R := k25.get nin0 e24R
          have P25 := P24.kp0 k25
          have e25D := k25.get nin0 e24D
          have F25 := F24.kp0 k25
          have e25c := e24c.kp0 k25
          have e25E := k25.get nin0 e24E
          have FE25 := FE24.kp0 k25
          walk_at "z"
          refine Z.lenL (lstL e25p) ?_
          rw [refs_len, hpl]
          walk_at "z"
          refine Z.ite (fun h1 => ?_) (fun h1 => ?_)
          · have hmn' : m < n := by omega
            have hfm1 : fs.length = m := by rw [hfsl]; exact hnl.1 hmn'
            walk_at "z"
            refine Z.lenL (lstL e25D) ?_
            rw [List.length_map, F25.len]
            walk_at "z"
            refine Z.noN (by rw [hfm1]) ?_
            walk_at "z"
            refine Z.lcr m rfl (by omega) (fun D2 j H' => ∃ (es2 : List Addr) (efs2 : List Fr), Kp [] H25 H' ∧ H' D2 = some (.lst (es2.map V.ref)) ∧ FrsAt K H' es2 efs2 ∧ efs2.length = j ∧ (∀ k f, efs2[k]? = some f → Low f ∧ rv f = ex t ((ordS ps m).take (i + 1)) (fun o => (numsR kvs t o).getD k 0))) ?_ ?_ ?_
            · intro D2 H26 nD2 k26 e26
              exact ⟨[], [], k26, e26, .nil, rfl, fun k f hf => by simp at hf⟩
            · rintro D2 j H26 nD2 hj ⟨es2, efs2, k26, e26, F26, hl26, h26⟩
              dsimp only [wipe, List.set]
              walk_at "z"
              refine ⟨rfl, ?_⟩
              have FE26 := FE25.kp0 k26
              have FN26 := F25.kp0 k26
              have hesl : es.length = m := by rw [F11.len, hefl]
              have hasl : as.length = m := by rw [F25.len, hfm1]
              obtain ⟨a1, f1, ha1, hf1, hA1⟩ := FE26.get (i := j) (v := .ref es[j]) (by rw [List.getElem?_map, List.getElem?_eq_getElem (by omega)]; rfl)
              obtain ⟨a2, f2, ha2, hf2, hA2⟩ := FN26.get (i := j) (v := .ref as[j]) (by rw [List.getElem?_map, List.getElem?_eq_getElem (by omega)]; rfl)
              have ea1 : es[j] = a1 := by injection ha1
              have ea2 : as[j] = a2 := by injection ha2
              have hl1 := hefs j f1 hf1
              have hf2B := hfsB f2 (List.mem_of_getElem? hf2)
              have hf2v : rv f2 = (numsR kvs t o.2).getD j 0 := by
                rw [← hfs, List.getD_eq_getElem?_getD, List.getElem?_map, hf2]; rfl
              walk_at "z"
              refine Z.ixL (lstL (k26.get nin0 e25E)) (atI_nat (v := .ref a1) (by rw [List.getElem?_map, List.getElem?_eq_getElem (by omega), ← ea1]; rfl)) ?_
              walk_at "z"
              refine Z.ixL (lstL (k26.get nin0 e25D)) (atI_nat (v := .ref a2) (by rw [List.getElem?_map, List.getElem?_eq_getElem (by omega), ← ea2]; rfl)) ?_
              walk_at "z"
              refine ⟨a2, cc, f2, chF t o.2, rfl, hA2, e25c.kp0 k26, hf2B.1, hcL.1, ⟨30, 40, hf2B.2, hcB, by decide⟩, fun H27 c27 n27 k27 e27 => ?_⟩
              walk_at "z"
              have tL : Low (ftimes f2 (chF t o.2)) := lo_low (Int.mul_ne_zero (by omega) hcL.ne)
              have tB : FrB 70 (ftimes f2 (chF t o.2)) := ftimes_B (n := 30) (m := 40) hf2B.2 hcB (by omega) hcL.ne
              have f1B : FrB 900 f1 := pre_B S5 hOl (f := fun o => (numsR kvs t o).getD j 0) (fun o' ho' => by
                have hD' := (hTerm o' ho').at_
                rw [List.getD_eq_getElem?_getD]
                cases hx : (numsR kvs t o')[j]? with
                | none =>
                  have hz := DenB.int (D := dA t ps) (d := 512) (n := 0) (z := 0) (dA_B S5).2 (by decide)
                  have : (none : Option Rat).getD 0 * ch t o' = ((0 : Int) : Rat) := by show (0 : Rat) * _ = _; grind
                  rw [this]
                  exact hz.mono (by decide)
                | some v => exact hD' v (List.mem_of_getElem? hx)) i hl1.1 (hl1.2 hmn')
              refine ⟨a1, c27, f1, _, rfl, hA1.kp0 k27, e27, hl1.1.1, tL.1, ⟨900, 70, f1B, tB, by decide⟩, fun H28 c28 n28 k28 e28 => ?_⟩
              have k2628 := k27.trans k28
              have e28D := k2628.get nin0 e26
              refine ⟨_, e28D, Z.szl (m := 1000) (by rw [List.length_map, F26.len]; omega), es2 ++ [c28], efs2 ++ [fplus f1 (ftimes f2 (chF t o.2))], (k26.trans k2628).mut nD2 rfl, by rw [upd_same, List.map_append]; rfl, ((F26.kp0 k2628).snoc e28).kpl (Kp.put (by simp)) e28D, by rw [List.length_append, hl26]; rfl, fun k f hf => ?_⟩
              rcases Nat.lt_or_ge k efs2.length with z | z
              · rw [List.getElem?_append_left z] at hf
                exact h26 k f hf
              · rw [List.getElem?_append_right z] at hf
                have hk : k - efs2.length = 0 := by
                  rcases Nat.eq_zero_or_pos (k - efs2.length) with w | w
                  · exact w
                  · rw [List.getElem?_eq_none (by simp; omega)] at hf; cases hf
                rw [hk] at hf
                obtain rfl := Option.some.inj hf
                have hkj : k = j := by omega
                subst hkj
                refine ⟨fplus_low hl1.1.ne tL.ne, ?_⟩
                rw [rv_fplus hl1.1.ne tL.ne, rv_ftimes (by omega) hcL.ne, hl1.2 hmn', ex_take _ hoO, hf2v]
                rfl
            · rintro D2 H26 nD2 ⟨es2, efs2, k26, e26, F26, hl26, h26⟩
              have nD2R : D2 ≠ R := fun z => ne_of_none e25R nD2 z.symm
              walk_at "z"
              refine ⟨_, _, _, _, _, tw2, D2, ts ++ [u2], es2, fcs ++ [(ef, chF t o.2)], tf2, efs2, rfl, k1025.trans (k26.sub (by simp)), k26.get nin0 e25R, P25.kp0 k26, by rw [List.length_append, hfl]; rfl, hfm', hfc', hfB', e25W.kp0 k26, htL2, htv2, e26, nD2R, F26, hl26, fun k f hf => ⟨(h26 k f hf).1, fun _ => (h26 k f hf).2⟩⟩
          · walk_at "z"
            refine ⟨_, _, _, _, _, tw2, E, ts ++ [u2], es, fcs ++ [(ef, chF t o.2)], tf2, efs, rfl, k1025, e25R, P25, by rw [List.length_append, hfl]; rfl, hfm', hfc', hfB', e25W, htL2, htv2, e25E, nER, FE25, hefl, fun k f hf => ⟨(hefs k f hf).1, fun z => absurd z (by omega)⟩⟩
        · intro N jn
          walk_at "z"
          refine Z.ixT (tupT e24t) (show atI [V.ref e, av] 1 = some av from rfl) ?_
          walk_at "z"
          rcases A.var with ⟨h1, h2, h3⟩ | ⟨h1, w, vf, h2, hw, hwL, hwB, hwv⟩
          · subst h1
            walk_at "z"
            refine Z.noN rfl ?_
            walk_at "z"
            exact jn _ _ ⟨tw, tf, rfl, Kp.refl _, e24W, htL, fun z => absurd ⟨by omega, fun z2 => h3 (hwh.mpr (by omega))⟩ z⟩
          · subst h2
            have hnx : ¬ (m = 1 ∧ n ≠ 1) := fun z => h1 ⟨by omega, fun z2 => by have := hwh.mp z2; omega⟩
            have tfB : FrB 900 tf := pre_B S5 hOl (f := varR kvs t) (fun o' ho' => by
              obtain ⟨g', hl'⟩ := ordS_good S5.nd m o' ho'
              exact (hTerm o' ho').var fun z => hnx ⟨by omega, fun z2 => z.2 ((S5.whole g').mpr (by omega))⟩) i htL (htv hnx)
            walk_at "z"
            refine Z.yesN (by simp) ?_
            walk_at "z"
            refine Z.ixT (tupT e24t) (show atI [V.ref e, V.ref w] 1 = some (.ref w) from rfl) ?_
            walk_at "z"
            refine ⟨w, cc, vf, chF t o.2, rfl, hvs w vf rfl hw, e24c, hwL.1, hcL.1, ⟨810, 40, hwB, hcB, by decide⟩, fun H25 c25 n25 k25 e25 => ?_⟩
            walk_at "z"
            have tL : Low (ftimes vf (chF t o.2)) := lo_low (Int.mul_ne_zero hwL.ne hcL.ne)
            have tB : FrB 850 (ftimes vf (chF t o.2)) := ftimes_B (n := 810) (m := 40) hwB hcB hwL.ne hcL.ne
            refine ⟨tw, c25, tf, _, rfl, e24W.kp0 k25, e25, htL.1, tL.1, ⟨900, 850, tfB, tB, by decide⟩, fun H26 c26 n26 k26 e26 => ?_⟩
            walk_at "z"
            refine jn _ _ ⟨c26, _, rfl, k25.trans k26, e26, fplus_low htL.ne tL.ne, fun z => ?_⟩
            rw [rv_fplus htL.ne tL.ne, rv_ftimes hwL.ne hcL.ne, htv z, hwv, ex_take _ hoO]
            rfl
      · intro N jn
        walk_at "z"
        refine Z.ixT (tupT A19) (show atI [V.ref e, av] 1 = some av from rfl) ?_
        walk_at "z"
        rw [hav]
        refine Z.ite (fun h1 => ?_) (fun h1 => ?_)
        · walk_at "z"
          refine Z.lenL (lstL (k1119.get nin0 e11p)) ?_
          rw [refs_len, hpl]
          walk_at "z"
          refine Z.noN ?_ ?_
          · rw [decide_eq_true (show m = 1 by omega), Bool.true_and, decide_eq_decide]; omega
          · walk_at "z"
            exact jn _ _ ⟨rfl, rfl⟩
        · walk_at "z"
          refine Z.noN ?_ ?_
          · rw [decide_eq_false (show ¬ m = 1 by omega)]; rfl
          · walk_at "z"
            exact jn _ _ ⟨rfl, rfl⟩
    · rintro σ' H11 ⟨y10, y11, y12, y13, y14, tw, E, ts, es, fcs, tf, efs, rfl, k11, e11R, P11, hfl, hfm, hfc, hfB, e11W, htL, htv, e11E, nER, F11, hefl, hefs⟩
      have hOL : (ordS ps m).take (srefs L).length = ordS ps m := List.take_of_length_le (by rw [srefs_len, ← hL, List.length_map]; exact Nat.le_refl _)
      rw [hOL] at hfm hfc htv hefs
      rw [srefs_len] at hfl
      have e11p := k11.get (nin1 npR) e10p
      have e11d := k11.get (nin1 ndR) e10d
      have r11 := r10.kp1 k11 e10R
      have hMabs : (amts kvs ps).sum.natAbs ≤ 60 := by
        have h1 := sum_absI (c := 10) (l := amts kvs ps) (amts_B ho_amt)
        have h2 : (amts kvs ps).length = n := by unfold amts; rw [List.length_map]; exact hpl
        rw [h2] at h1
        omega
      have hz := zip_map (fun r c => r * rv c) hfm hfc
      have hzs := zip_map (fun r c => rv c * ((r - (((amts kvs ps).sum : Int) : Rat)) * (r - (((amts kvs ps).sum : Int) : Rat)))) hfm hfc
      have hsprd : ∀ j, spreadP (((amts kvs ps).sum : Int) : Rat) (fcs.take j) = (((ordS ps m).take j).map fun o => ch t o * ((meanR (numsR kvs t o) - (((amts kvs ps).sum : Int) : Rat)) * (meanR (numsR kvs t o) - (((amts kvs ps).sum : Int) : Rat)))).sum := fun j => by
        unfold spreadP
        rw [List.map_take, hzs, List.map_take]
        rfl
      walk_at "z"
      refine ⟨R, ts, fcs, (amts kvs ps).sum, rfl, e11R, P11, hfB, by omega, hMabs, fun j => ?_, fun j g hgL hg => ?_, ?_, fun H12 tt mm ss g k12 et em es' hgL hg => ?_⟩
      · have hs := rv_fsum (fs := (fcs.map fun p => ftimes p.1 p.2).take j) low_zero fun f hf => by
          obtain ⟨p', hp', rfl⟩ := List.mem_map.mp (List.mem_of_mem_take hf)
          have h1 := hfB p' hp'
          exact (lo_low (Int.mul_ne_zero (by omega) (by omega))).ne
        refine pre_B S5 hOl (f := fun o => meanR (numsR kvs t o)) (fun o ho => (hTerm o ho).est) j hs.2 ?_
        rw [hs.1, rv_zero]
        unfold ex
        have e1 : ((fcs.map fun p => ftimes p.1 p.2).take j).map rv = ((ordS ps m).take j).map fun o => meanR (numsR kvs t o) * ch t o := by
          rw [List.map_take, List.map_map, List.map_take]
          congr 1
          rw [← show (fcs.map fun p => rv p.1 * rv p.2) = (ordS ps m).map fun o => meanR (numsR kvs t o) * ch t o from hz]
          refine List.map_congr_left fun p' hp' => ?_
          have h1 := hfB p' hp'
          simp only [Function.comp_apply]
          rw [rv_ftimes (by omega) (by omega)]
        rw [e1]
        grind
      · refine pre_B S5 hOl (f := fun o => (meanR (numsR kvs t o) - (((amts kvs ps).sum : Int) : Rat)) * (meanR (numsR kvs t o) - (((amts kvs ps).sum : Int) : Rat))) (fun o ho => by rw [Rat.mul_comm]; exact (hTerm o ho).sp) j hgL ?_
        rw [hg, hsprd]
        unfold ex
        congr 1
        exact List.map_congr_left fun o _ => Rat.mul_comm _ _
      · rw [← hFin.mean]
        unfold ex
        rw [show (fcs.map fun p => rv p.1 * rv p.2) = (ordS ps m).map fun o => meanR (numsR kvs t o) * ch t o from hz]
      walk_at "z"
      refine Z.gtup (tupT et) rfl ?_
      walk_at "z"
      have e12p := k12.get nin0 e11p
      have r12 := r11.kp0 k12
      have e12d := k12.get nin0 e11d
      refine ⟨p, d, ps, kvs, rfl, e12p, r12, by omega, e12d, ho_amt, fun H13 k13 => ?_⟩
      walk_at "z"
      refine Z.tupK (fun wh H14 nwh k14 e14 => ?_)
      have k1214 := k13.trans k14
      have e14w : FrAt K H14 wh ((amts kvs ps).sum, 1) := tupT e14
      have wL : Low ((amts kvs ps).sum, 1) := ⟨show (1 : Int) ≤ 1 by decide, by simp⟩
      walk_at "z"
      refine Z.seqJ (fun σ' H' => σ' = [some (.ref c), some (.ref a), some (.ref p), some (.ref d), some (.int (size : Int)), some (.int t), some (.int (m : Int)), some (.ref R), some (.ref tw), some (.ref E), y10, y11, y12, y13, y14, some (.ref mm), some (.ref ss), some (.ref wh), none, none, none] ∧ Kp [] H14 H') ?_ ?_
      · rintro σ' H15 ⟨rfl, k15⟩
        have k1215 := k1214.trans k15
        have e15p := k1215.get nin0 e12p
        have e15W := e11W.kp0 (k12.trans k1215)
        have e15s := es'.kp0 k1215
        have hsumt : ¬ (m = 1 ∧ n ≠ 1) → tf = g := fun hx => by
          refine low_eq htL hgL ?_
          have h1 := hsprd fcs.length
          rw [List.take_length, hfl, List.take_of_length_le (by rw [← hL, List.length_map]; exact Nat.le_refl _)] at h1
          rw [htv hx, hg, h1, hFin.var (fun z => hx ⟨z.1, by omega⟩)]
        walk_at "z"
        refine Z.ite (fun h1 => ?_) (fun h1 => ?_)
        · walk_at "z"
          refine Z.lenL (lstL e15p) ?_
          rw [refs_len, hpl]
          walk_at "z"
          refine Z.ite (fun h2 => ?_) (fun h2 => ?_)
          · exact q H15
          · walk_at "z"
            refine eqF e15W e15s ?_
            rw [hsumt (fun z => by omega), decide_eq_true rfl]
            exact q H15
        · refine ⟨_, rfl, ?_⟩
          walk_at "z"
          refine eqF e15W e15s ?_
          rw [hsumt (fun z => by omega), decide_eq_true rfl]
          exact q H15
      · intro N jn
        walk_at "z"
        refine neF (em.kp0 k1214) e14w ?_
        refine Z.bl' ?_
        refine Z.noN rfl ?_
        walk_at "z"
        refine Z.lenL (lstL (k1214.get nin0 e12p)) ?_
        rw [refs_len, hpl]
        walk_at "z"
        refine Z.ite (fun h1 => ?_) (fun h1 => ?_)
        · have hmn' : m < n := by omega
          have e14E := (k12.trans k1214).get nin0 e11E
          have F14 := F11.kp0 (k12.trans k1214)
          have hall : ∀ (k : Nat) (f : Fr), efs[k]? = some f → f = ((amts kvs ps).sum, 1) := fun k f hf => by
            have h2 := hefs k f hf
            refine low_eq h2.1 wL ?_
            have hk : k < m := by rw [← hefl]; exact (List.getElem?_eq_some_iff.mp hf).1
            rw [h2.2 hmn', hFin.at_ (by omega) k hk, rv_int]
          walk_at "z"
          refine Z.lcl (es.map V.ref) (lstL e14E) (fun D2 j H' => Kp [] H14 H' ∧ H' D2 = some (.lst ((List.replicate j false).map V.bl))) ?_ ?_ ?_ ?_
          · intro D2 H15 nD2 k15 e15
            exact ⟨k15, e15⟩
          · rintro D2 j H15 nD2 hj ⟨k15, e15⟩
            exact lstL (k15.get nin0 e14E)
          · rintro D2 j v H15 nD2 hv ⟨k15, e15⟩
            obtain ⟨u, f, rfl, hf, hu⟩ := (F14.kp0 k15).get hv
            dsimp only [wipe, List.set]
            walk_at "z"
            refine ⟨rfl, ?_⟩
            walk_at "z"
            have hj2 : j < efs.length := (List.getElem?_eq_some_iff.mp hf).1
            refine neF hu (e14w.kp0 k15) ?_
            rw [hall j f hf, decide_eq_true rfl]
            refine ⟨_, e15, Z.szl (m := 1000) (by rw [List.length_map, List.length_replicate]; omega), k15.mut nD2 rfl, ?_⟩
            rw [upd_same, List.replicate_succ', List.map_append]; rfl
          · rintro D2 H15 nD2 ⟨k15, e15⟩
            walk_at "z"
            refine Z.anyL (bs := List.replicate (es.map V.ref).length false) (lstL e15) ?_
            have hany : (List.replicate (es.map V.ref).length false).any id = false := by
              rw [List.any_eq_false]
              intro b hb
              rw [(List.mem_replicate.mp hb).2]; simp
            rw [hany]
            walk_at "z"
            exact jn _ _ ⟨rfl, k15⟩
        · walk_at "z"
          exact jn _ _ ⟨rfl, Kp.refl _⟩

set_option maxHeartbeats 4000000 in
theorem all_mk {l : PySem.W.OpenLaw} {w : World} {K : PySem.W.Frag} {h : Heap} {mg : Str → Option Value} {fa : Addr} (X : K.In h) (G : h.Ns mainGlobals mg) (hfa : mg "law" = some (.ref fa))
    {CSamphireError : Addr}
    {CZeroDenominator fZeroDenominator cZeroDenominator ccZeroDenominator : Addr}
    {CUniform : Addr}
    {CWeighted : Addr}
    {od1 an1 : Option Addr} {sl1 : Array (Option Value)} {oc1 kV1 dc1 pm1 cd1 ct1 : Value} {f1 : Addr}
    {od2 an2 : Option Addr} {sl2 : Array (Option Value)} {oc2 kV2 dc2 pm2 cd2 ct2 : Value} {f2 : Addr}
    {od3 an3 : Option Addr} {sl3 : Array (Option Value)} {oc3 kV3 dc3 pm3 cd3 ct3 : Value} {f3 : Addr}
    {od4 an4 : Option Addr} {sl4 : Array (Option Value)} {oc4 kV4 dc4 pm4 cd4 ct4 : Value} {f4 : Addr}
    {od5 an5 : Option Addr} {sl5 : Array (Option Value)} {oc5 kV5 dc5 pm5 cd5 ct5 : Value} {f5 : Addr}
    {od6 an6 : Option Addr} {sl6 : Array (Option Value)} {oc6 kV6 dc6 pm6 cd6 ct6 : Value} {f6 : Addr}
    {od7 an7 : Option Addr} {sl7 : Array (Option Value)} {oc7 kV7 dc7 pm7 cd7 ct7 : Value} {f7 : Addr}
    {od8 an8 : Option Addr} {sl8 : Array (Option Value)} {oc8 kV8 dc8 pm8 cd8 ct8 : Value} {f8 : Addr}
    {od9 an9 : Option Addr} {sl9 : Array (Option Value)} {oc9 kV9 dc9 pm9 cd9 ct9 : Value} {f9 : Addr}
    {od10 an10 : Option Addr} {sl10 : Array (Option Value)} {oc10 kV10 dc10 pm10 cd10 ct10 : Value} {f10 : Addr}
    {od11 an11 : Option Addr} {sl11 : Array (Option Value)} {oc11 kV11 dc11 pm11 cd11 ct11 : Value} {f11 : Addr}
    {od12 an12 : Option Addr} {sl12 : Array (Option Value)} {oc12 kV12 dc12 pm12 cd12 ct12 : Value} {f12 : Addr}
    {od13 an13 : Option Addr} {sl13 : Array (Option Value)} {oc13 kV13 dc13 pm13 cd13 ct13 : Value} {f13 : Addr}
    {od14 an14 : Option Addr} {sl14 : Array (Option Value)} {oc14 kV14 dc14 pm14 cd14 ct14 : Value} {f14 : Addr}
    {od15 an15 : Option Addr} {sl15 : Array (Option Value)} {oc15 kV15 dc15 pm15 cd15 ct15 : Value} {f15 : Addr}
    {od16 an16 : Option Addr} {sl16 : Array (Option Value)} {oc16 kV16 dc16 pm16 cd16 ct16 : Value} {f16 : Addr}
    {od17 an17 : Option Addr} {sl17 : Array (Option Value)} {oc17 kV17 dc17 pm17 cd17 ct17 : Value} {f17 : Addr}
    {od18 an18 : Option Addr} {sl18 : Array (Option Value)} {oc18 kV18 dc18 pm18 cd18 ct18 : Value} {f18 : Addr}
    {od19 an19 : Option Addr} {sl19 : Array (Option Value)} {oc19 kV19 dc19 pm19 cd19 ct19 : Value} {f19 : Addr}
    {od20 an20 : Option Addr} {sl20 : Array (Option Value)} {oc20 kV20 dc20 pm20 cd20 ct20 : Value} {f20 : Addr}
    {od21 an21 : Option Addr} {sl21 : Array (Option Value)} {oc21 kV21 dc21 pm21 cd21 ct21 : Value} {f21 : Addr}
    {od22 an22 : Option Addr} {sl22 : Array (Option Value)} {oc22 kV22 dc22 pm22 cd22 ct22 : Value} {f22 : Addr}
    {od23 an23 : Option Addr} {sl23 : Array (Option Value)} {oc23 kV23 dc23 pm23 cd23 ct23 : Value} {f23 : Addr}
    {od24 an24 : Option Addr} {sl24 : Array (Option Value)} {oc24 kV24 dc24 pm24 cd24 ct24 : Value} {f24 : Addr}
    {od25 an25 : Option Addr} {sl25 : Array (Option Value)} {oc25 kV25 dc25 pm25 cd25 ct25 : Value} {f25 : Addr}
    {od26 an26 : Option Addr} {sl26 : Array (Option Value)} {oc26 kV26 dc26 pm26 cd26 ct26 : Value} {f26 : Addr}
    {od27 an27 : Option Addr} {sl27 : Array (Option Value)} {oc27 kV27 dc27 pm27 cd27 ct27 : Value} {f27 : Addr}
    {od28 an28 : Option Addr} {sl28 : Array (Option Value)} {oc28 kV28 dc28 pm28 cd28 ct28 : Value} {f28 : Addr}
    {od29 an29 : Option Addr} {sl29 : Array (Option Value)} {oc29 kV29 dc29 pm29 cd29 ct29 : Value} {f29 : Addr}
    {od30 an30 : Option Addr} {sl30 : Array (Option Value)} {oc30 kV30 dc30 pm30 cd30 ct30 : Value} {f30 : Addr}
    {od31 an31 : Option Addr} {sl31 : Array (Option Value)} {oc31 kV31 dc31 pm31 cd31 ct31 : Value} {f31 : Addr}
    {od32 an32 : Option Addr} {sl32 : Array (Option Value)} {oc32 kV32 dc32 pm32 cd32 ct32 : Value} {f32 : Addr}
    {od33 an33 : Option Addr} {sl33 : Array (Option Value)} {oc33 kV33 dc33 pm33 cd33 ct33 : Value} {f33 : Addr}
    {nmZeroDenominator qZeroDenominator : Str} {NZeroDenominator : Addr} {bsZeroDenominator : List Value} {snZeroDenominator : List Str} {subZeroDenominator : List Value} {abZeroDenominator : Bool} {colZeroDenominator : Option Bool} {ddZeroDenominator : Option Addr} {m0ZeroDenominator m1ZeroDenominator m2ZeroDenominator m3ZeroDenominator m5ZeroDenominator : Option Value} {occZeroDenominator : Value} {cddZeroDenominator : Option Addr} {cvsZeroDenominator : List Value} {cslZeroDenominator : Array (Option Value)} {cclZeroDenominator : Value} {ccdZeroDenominator : Option Addr} {ccsZeroDenominator : Array (Option Value)} {ocZeroDenominator : Value} {odZeroDenominator : Option Addr} {oslZeroDenominator : Array (Option Value)} {docZeroDenominator pmZeroDenominator ctvZeroDenominator : Value}
    {k_ZERO : Addr} {od_ZERO : Option Addr} {nn_ZERO : Nat} {sl_ZERO : Array (Option Value)} {t0_ZERO t1_ZERO : Tok}
    (a1 : PySem.W.nsIn K mainGlobals "lowest" = some (some (.ref f1)))
    (l1 : K.lookup f1 = some ⟨oc1, od1, .func (PySem.W.fnOf "lowest" "lowest" (defArgs s_lowest) (defBody s_lowest) (defScope s_lowest) .none kV1 dc1 pm1 an1 cd1 ct1), sl1⟩)
    (c1 : PySem.W.codeIn K cd1 "lowest" = true)
    (k1 : PySem.W.keepIn K (.ref f1) = true)
    (a2 : PySem.W.nsIn K mainGlobals "plus" = some (some (.ref f2)))
    (l2 : K.lookup f2 = some ⟨oc2, od2, .func (PySem.W.fnOf "plus" "plus" (defArgs s_plus) (defBody s_plus) (defScope s_plus) .none kV2 dc2 pm2 an2 cd2 ct2), sl2⟩)
    (c2 : PySem.W.codeIn K cd2 "plus" = true)
    (k2 : PySem.W.keepIn K (.ref f2) = true)
    (a3 : PySem.W.nsIn K mainGlobals "minus" = some (some (.ref f3)))
    (l3 : K.lookup f3 = some ⟨oc3, od3, .func (PySem.W.fnOf "minus" "minus" (defArgs s_minus) (defBody s_minus) (defScope s_minus) .none kV3 dc3 pm3 an3 cd3 ct3), sl3⟩)
    (c3 : PySem.W.codeIn K cd3 "minus" = true)
    (k3 : PySem.W.keepIn K (.ref f3) = true)
    (a4 : PySem.W.nsIn K mainGlobals "times" = some (some (.ref f4)))
    (l4 : K.lookup f4 = some ⟨oc4, od4, .func (PySem.W.fnOf "times" "times" (defArgs s_times) (defBody s_times) (defScope s_times) .none kV4 dc4 pm4 an4 cd4 ct4), sl4⟩)
    (c4 : PySem.W.codeIn K cd4 "times" = true)
    (k4 : PySem.W.keepIn K (.ref f4) = true)
    (a5 : PySem.W.nsIn K mainGlobals "over" = some (some (.ref f5)))
    (l5 : K.lookup f5 = some ⟨oc5, od5, .func (PySem.W.fnOf "over" "over" (defArgs s_over) (defBody s_over) (defScope s_over) .none kV5 dc5 pm5 an5 cd5 ct5), sl5⟩)
    (c5 : PySem.W.codeIn K cd5 "over" = true)
    (k5 : PySem.W.keepIn K (.ref f5) = true)
    (a6 : PySem.W.nsIn K mainGlobals "sum_of" = some (some (.ref f6)))
    (l6 : K.lookup f6 = some ⟨oc6, od6, .func (PySem.W.fnOf "sum_of" "sum_of" (defArgs s_sum_of) (defBody s_sum_of) (defScope s_sum_of) .none kV6 dc6 pm6 an6 cd6 ct6), sl6⟩)
    (c6 : PySem.W.codeIn K cd6 "sum_of" = true)
    (k6 : PySem.W.keepIn K (.ref f6) = true)
    (a7 : PySem.W.nsIn K mainGlobals "weight_of" = some (some (.ref f7)))
    (l7 : K.lookup f7 = some ⟨oc7, od7, .func (PySem.W.fnOf "weight_of" "weight_of" (defArgs s_weight_of) (defBody s_weight_of) (defScope s_weight_of) .none kV7 dc7 pm7 an7 cd7 ct7), sl7⟩)
    (c7 : PySem.W.codeIn K cd7 "weight_of" = true)
    (k7 : PySem.W.keepIn K (.ref f7) = true)
    (a8 : PySem.W.findIn K (.ref CUniform) "__init__" = some (some (.ref f8)))
    (i8 : PySem.W.isFn K (.ref f8) = true)
    (l8 : K.lookup f8 = some ⟨oc8, od8, .func (PySem.W.fnOf "__init__" "Uniform.__init__" (defArgs s_Uniform_init) (defBody s_Uniform_init) (defScope s_Uniform_init) .none kV8 dc8 pm8 an8 cd8 ct8), sl8⟩)
    (c8 : PySem.W.codeIn K cd8 "Uniform.__init__" = true)
    (k8 : PySem.W.keepIn K (.ref f8) = true)
    (a9 : PySem.W.findIn K (.ref CWeighted) "__init__" = some (some (.ref f9)))
    (i9 : PySem.W.isFn K (.ref f9) = true)
    (l9 : K.lookup f9 = some ⟨oc9, od9, .func (PySem.W.fnOf "__init__" "Weighted.__init__" (defArgs s_Weighted_init) (defBody s_Weighted_init) (defScope s_Weighted_init) .none kV9 dc9 pm9 an9 cd9 ct9), sl9⟩)
    (c9 : PySem.W.codeIn K cd9 "Weighted.__init__" = true)
    (k9 : PySem.W.keepIn K (.ref f9) = true)
    (a10 : PySem.W.nsIn K mainGlobals "is_whole" = some (some (.ref f10)))
    (l10 : K.lookup f10 = some ⟨oc10, od10, .func (PySem.W.fnOf "is_whole" "is_whole" (defArgs s_is_whole) (defBody s_is_whole) (defScope s_is_whole) .none kV10 dc10 pm10 an10 cd10 ct10), sl10⟩)
    (c10 : PySem.W.codeIn K cd10 "is_whole" = true)
    (k10 : PySem.W.keepIn K (.ref f10) = true)
    (a11 : PySem.W.nsIn K mainGlobals "amount_of" = some (some (.ref f11)))
    (l11 : K.lookup f11 = some ⟨oc11, od11, .func (PySem.W.fnOf "amount_of" "amount_of" (defArgs s_amount_of) (defBody s_amount_of) (defScope s_amount_of) .none kV11 dc11 pm11 an11 cd11 ct11), sl11⟩)
    (c11 : PySem.W.codeIn K cd11 "amount_of" = true)
    (k11 : PySem.W.keepIn K (.ref f11) = true)
    (a12 : PySem.W.nsIn K mainGlobals "true_sum" = some (some (.ref f12)))
    (l12 : K.lookup f12 = some ⟨oc12, od12, .func (PySem.W.fnOf "true_sum" "true_sum" (defArgs s_true_sum) (defBody s_true_sum) (defScope s_true_sum) .none kV12 dc12 pm12 an12 cd12 ct12), sl12⟩)
    (c12 : PySem.W.codeIn K cd12 "true_sum" = true)
    (k12 : PySem.W.keepIn K (.ref f12) = true)
    (a13 : PySem.W.nsIn K mainGlobals "mean_of" = some (some (.ref f13)))
    (l13 : K.lookup f13 = some ⟨oc13, od13, .func (PySem.W.fnOf "mean_of" "mean_of" (defArgs s_mean_of) (defBody s_mean_of) (defScope s_mean_of) .none kV13 dc13 pm13 an13 cd13 ct13), sl13⟩)
    (c13 : PySem.W.codeIn K cd13 "mean_of" = true)
    (k13 : PySem.W.keepIn K (.ref f13) = true)
    (a14 : PySem.W.nsIn K mainGlobals "squares_around" = some (some (.ref f14)))
    (l14 : K.lookup f14 = some ⟨oc14, od14, .func (PySem.W.fnOf "squares_around" "squares_around" (defArgs s_squares_around) (defBody s_squares_around) (defScope s_squares_around) .none kV14 dc14 pm14 an14 cd14 ct14), sl14⟩)
    (c14 : PySem.W.codeIn K cd14 "squares_around" = true)
    (k14 : PySem.W.keepIn K (.ref f14) = true)
    (a15 : PySem.W.nsIn K mainGlobals "ordered_estimates" = some (some (.ref f15)))
    (l15 : K.lookup f15 = some ⟨oc15, od15, .func (PySem.W.fnOf "ordered_estimates" "ordered_estimates" (defArgs s_ordered_estimates) (defBody s_ordered_estimates) (defScope s_ordered_estimates) .none kV15 dc15 pm15 an15 cd15 ct15), sl15⟩)
    (c15 : PySem.W.codeIn K cd15 "ordered_estimates" = true)
    (k15 : PySem.W.keepIn K (.ref f15) = true)
    (a16 : PySem.W.nsIn K mainGlobals "weighted_estimate" = some (some (.ref f16)))
    (l16 : K.lookup f16 = some ⟨oc16, od16, .func (PySem.W.fnOf "weighted_estimate" "weighted_estimate" (defArgs s_weighted_estimate) (defBody s_weighted_estimate) (defScope s_weighted_estimate) .none kV16 dc16 pm16 an16 cd16 ct16), sl16⟩)
    (c16 : PySem.W.codeIn K cd16 "weighted_estimate" = true)
    (k16 : PySem.W.keepIn K (.ref f16) = true)
    (a17 : PySem.W.nsIn K mainGlobals "estimate" = some (some (.ref f17)))
    (l17 : K.lookup f17 = some ⟨oc17, od17, .func (PySem.W.fnOf "estimate" "estimate" (defArgs s_estimate) (defBody s_estimate) (defScope s_estimate) .none kV17 dc17 pm17 an17 cd17 ct17), sl17⟩)
    (c17 : PySem.W.codeIn K cd17 "estimate" = true)
    (k17 : PySem.W.keepIn K (.ref f17) = true)
    (a18 : PySem.W.nsIn K mainGlobals "ordered" = some (some (.ref f18)))
    (l18 : K.lookup f18 = some ⟨oc18, od18, .func (PySem.W.fnOf "ordered" "ordered" (defArgs s_ordered) (defBody s_ordered) (defScope s_ordered) .none kV18 dc18 pm18 an18 cd18 ct18), sl18⟩)
    (c18 : PySem.W.codeIn K cd18 "ordered" = true)
    (k18 : PySem.W.keepIn K (.ref f18) = true)
    (a19 : PySem.W.nsIn K mainGlobals "_law_mix" = some (some (.ref f19)))
    (l19 : K.lookup f19 = some ⟨oc19, od19, .func (PySem.W.fnOf "_law_mix" "_law_mix" (defArgs s__law_mix) (defBody s__law_mix) (defScope s__law_mix) .none kV19 dc19 pm19 an19 cd19 ct19), sl19⟩)
    (c19 : PySem.W.codeIn K cd19 "_law_mix" = true)
    (k19 : PySem.W.keepIn K (.ref f19) = true)
    (a20 : PySem.W.nsIn K mainGlobals "_law_numbers" = some (some (.ref f20)))
    (l20 : K.lookup f20 = some ⟨oc20, od20, .func (PySem.W.fnOf "_law_numbers" "_law_numbers" (defArgs s__law_numbers) (defBody s__law_numbers) (defScope s__law_numbers) .none kV20 dc20 pm20 an20 cd20 ct20), sl20⟩)
    (c20 : PySem.W.codeIn K cd20 "_law_numbers" = true)
    (k20 : PySem.W.keepIn K (.ref f20) = true)
    (a21 : PySem.W.nsIn K mainGlobals "_law_take" = some (some (.ref f21)))
    (l21 : K.lookup f21 = some ⟨oc21, od21, .func (PySem.W.fnOf "_law_take" "_law_take" (defArgs s__law_take) (defBody s__law_take) (defScope s__law_take) .none kV21 dc21 pm21 an21 cd21 ct21), sl21⟩)
    (c21 : PySem.W.codeIn K cd21 "_law_take" = true)
    (k21 : PySem.W.keepIn K (.ref f21) = true)
    (a22 : PySem.W.nsIn K mainGlobals "_law_low" = some (some (.ref f22)))
    (l22 : K.lookup f22 = some ⟨oc22, od22, .func (PySem.W.fnOf "_law_low" "_law_low" (defArgs s__law_low) (defBody s__law_low) (defScope s__law_low) .none kV22 dc22 pm22 an22 cd22 ct22), sl22⟩)
    (c22 : PySem.W.codeIn K cd22 "_law_low" = true)
    (k22 : PySem.W.keepIn K (.ref f22) = true)
    (a23 : PySem.W.nsIn K mainGlobals "_law_plus" = some (some (.ref f23)))
    (l23 : K.lookup f23 = some ⟨oc23, od23, .func (PySem.W.fnOf "_law_plus" "_law_plus" (defArgs s__law_plus) (defBody s__law_plus) (defScope s__law_plus) .none kV23 dc23 pm23 an23 cd23 ct23), sl23⟩)
    (c23 : PySem.W.codeIn K cd23 "_law_plus" = true)
    (k23 : PySem.W.keepIn K (.ref f23) = true)
    (a24 : PySem.W.nsIn K mainGlobals "_law_minus" = some (some (.ref f24)))
    (l24 : K.lookup f24 = some ⟨oc24, od24, .func (PySem.W.fnOf "_law_minus" "_law_minus" (defArgs s__law_minus) (defBody s__law_minus) (defScope s__law_minus) .none kV24 dc24 pm24 an24 cd24 ct24), sl24⟩)
    (c24 : PySem.W.codeIn K cd24 "_law_minus" = true)
    (k24 : PySem.W.keepIn K (.ref f24) = true)
    (a25 : PySem.W.nsIn K mainGlobals "_law_times" = some (some (.ref f25)))
    (l25 : K.lookup f25 = some ⟨oc25, od25, .func (PySem.W.fnOf "_law_times" "_law_times" (defArgs s__law_times) (defBody s__law_times) (defScope s__law_times) .none kV25 dc25 pm25 an25 cd25 ct25), sl25⟩)
    (c25 : PySem.W.codeIn K cd25 "_law_times" = true)
    (k25 : PySem.W.keepIn K (.ref f25) = true)
    (a26 : PySem.W.nsIn K mainGlobals "_law_sum" = some (some (.ref f26)))
    (l26 : K.lookup f26 = some ⟨oc26, od26, .func (PySem.W.fnOf "_law_sum" "_law_sum" (defArgs s__law_sum) (defBody s__law_sum) (defScope s__law_sum) .none kV26 dc26 pm26 an26 cd26 ct26), sl26⟩)
    (c26 : PySem.W.codeIn K cd26 "_law_sum" = true)
    (k26 : PySem.W.keepIn K (.ref f26) = true)
    (a27 : PySem.W.nsIn K mainGlobals "_law_items" = some (some (.ref f27)))
    (l27 : K.lookup f27 = some ⟨oc27, od27, .func (PySem.W.fnOf "_law_items" "_law_items" (defArgs s__law_items) (defBody s__law_items) (defScope s__law_items) .none kV27 dc27 pm27 an27 cd27 ct27), sl27⟩)
    (c27 : PySem.W.codeIn K cd27 "_law_items" = true)
    (k27 : PySem.W.keepIn K (.ref f27) = true)
    (a28 : PySem.W.nsIn K mainGlobals "_law_amounts" = some (some (.ref f28)))
    (l28 : K.lookup f28 = some ⟨oc28, od28, .func (PySem.W.fnOf "_law_amounts" "_law_amounts" (defArgs s__law_amounts) (defBody s__law_amounts) (defScope s__law_amounts) .none kV28 dc28 pm28 an28 cd28 ct28), sl28⟩)
    (c28 : PySem.W.codeIn K cd28 "_law_amounts" = true)
    (k28 : PySem.W.keepIn K (.ref f28) = true)
    (a29 : PySem.W.nsIn K mainGlobals "_law_true" = some (some (.ref f29)))
    (l29 : K.lookup f29 = some ⟨oc29, od29, .func (PySem.W.fnOf "_law_true" "_law_true" (defArgs s__law_true) (defBody s__law_true) (defScope s__law_true) .none kV29 dc29 pm29 an29 cd29 ct29), sl29⟩)
    (c29 : PySem.W.codeIn K cd29 "_law_true" = true)
    (k29 : PySem.W.keepIn K (.ref f29) = true)
    (a30 : PySem.W.nsIn K mainGlobals "_law_moments" = some (some (.ref f30)))
    (l30 : K.lookup f30 = some ⟨oc30, od30, .func (PySem.W.fnOf "_law_moments" "_law_moments" (defArgs s__law_moments) (defBody s__law_moments) (defScope s__law_moments) .none kV30 dc30 pm30 an30 cd30 ct30), sl30⟩)
    (c30 : PySem.W.codeIn K cd30 "_law_moments" = true)
    (k30 : PySem.W.keepIn K (.ref f30) = true)
    (a31 : PySem.W.nsIn K mainGlobals "_law_orders" = some (some (.ref f31)))
    (l31 : K.lookup f31 = some ⟨oc31, od31, .func (PySem.W.fnOf "_law_orders" "_law_orders" (defArgs s__law_orders) (defBody s__law_orders) (defScope s__law_orders) .none kV31 dc31 pm31 an31 cd31 ct31), sl31⟩)
    (c31 : PySem.W.codeIn K cd31 "_law_orders" = true)
    (k31 : PySem.W.keepIn K (.ref f31) = true)
    (a32 : PySem.W.nsIn K mainGlobals "_law_order_chance" = some (some (.ref f32)))
    (l32 : K.lookup f32 = some ⟨oc32, od32, .func (PySem.W.fnOf "_law_order_chance" "_law_order_chance" (defArgs s__law_order_chance) (defBody s__law_order_chance) (defScope s__law_order_chance) .none kV32 dc32 pm32 an32 cd32 ct32), sl32⟩)
    (c32 : PySem.W.codeIn K cd32 "_law_order_chance" = true)
    (k32 : PySem.W.keepIn K (.ref f32) = true)
    (a33 : PySem.W.nsIn K mainGlobals "law" = some (some (.ref f33)))
    (l33 : K.lookup f33 = some ⟨oc33, od33, .func (PySem.W.fnOf "law" "law" (defArgs s_law) (defBody s_law) (defScope s_law) .none kV33 dc33 pm33 an33 cd33 ct33), sl33⟩)
    (c33 : PySem.W.codeIn K cd33 "law" = true)
    (k33 : PySem.W.keepIn K (.ref f33) = true)
    (aCSamphireError : PySem.W.nsIn K mainGlobals "SamphireError" = some (some (.ref CSamphireError)))
    (aCZeroDenominator : PySem.W.nsIn K mainGlobals "ZeroDenominator" = some (some (.ref CZeroDenominator)))
    (iCZeroDenominator : PySem.W.findIn K (.ref CZeroDenominator) "__init__" = some (some (.ref fZeroDenominator)))
    (tIZeroDenominator : PySem.W.typeIn K (.ref fZeroDenominator) = some (.type "function"))
    (lkZeroDenominator : K.lookup fZeroDenominator = some ⟨ocZeroDenominator, odZeroDenominator, .func ((NF_ZeroDenominator ccZeroDenominator cZeroDenominator).fd docZeroDenominator pmZeroDenominator ctvZeroDenominator), oslZeroDenominator⟩)
    (hcZeroDenominator : PySem.W.codeIn K (.ref cZeroDenominator) "ZeroDenominator.__init__" = true)
    (xLZeroDenominator : K.lookup CZeroDenominator = some (excClassObj nmZeroDenominator qZeroDenominator CZeroDenominator NZeroDenominator bsZeroDenominator [.ref CSamphireError, .type "ValueError", .type "Exception", .type "BaseException", .type "object"] true snZeroDenominator subZeroDenominator abZeroDenominator colZeroDenominator ddZeroDenominator m0ZeroDenominator m1ZeroDenominator m2ZeroDenominator m3ZeroDenominator m5ZeroDenominator "ValueError.__new__"))
    (saZeroDenominator : PySem.W.findIn K (.ref CZeroDenominator) "__setattr__" = some (some (.builtin "object.__setattr__")))
    (sBZeroDenominator : PySem.W.subIn K (.ref CZeroDenominator) (.type "BaseException") = some true)
    (tCZeroDenominator : PySem.W.typeIn K (.ref CZeroDenominator) = some (.type "type"))
    (kCZeroDenominator : PySem.W.keepIn K (.ref CZeroDenominator) = true)
    (coZeroDenominator : K.lookup cZeroDenominator = some ⟨occZeroDenominator, cddZeroDenominator, .fields cvsZeroDenominator.toArray, cslZeroDenominator⟩)
    (flZeroDenominator : (match cvsZeroDenominator with | _ :: _ :: .str file _ :: _ => (l.prog.main.file : Str) == file | _ => false) = true)
    (ceZeroDenominator : K.lookup ccZeroDenominator = some ⟨cclZeroDenominator, ccdZeroDenominator, .cell (some (.ref CZeroDenominator)), ccsZeroDenominator⟩)
    (mrZeroDenominator : PySem.W.mroIn K CZeroDenominator (.ref CZeroDenominator) = some true)
    (sVZeroDenominator : PySem.W.subIn K (.ref CZeroDenominator) (.type "ValueError") = some true)
    (anZeroDenominator : PySem.W.nsIn K PySem.cStatics "thirdparty.any" = some none)
    (suZeroDenominator : PySem.W.ks_superIn K CZeroDenominator CZeroDenominator "__init__" = some (some (.builtin "ValueError.__init__")))
    (tpZeroDenominator : (l.prog.main.scope.names.lookup ("super" : Str)).isSome = false)
    (hgZeroDenominator : PySem.W.findIn K (.ref CZeroDenominator) "__getattribute__" = some (some (.builtin "BaseException.__getattribute__")))
    (hkZeroDenominator : PySem.W.findIn K (.ref CZeroDenominator) "__getattr__" = some none)
    (hdZeroDenominator : PySem.W.hasDictIn K CZeroDenominator = true)
    (haZeroDenominator : PySem.W.findIn K (.ref CZeroDenominator) "__class__" = some (some (.builtin "object.__class__")))
    (hnZeroDenominator : PySem.W.specialIn K (.builtin "object.__class__") "__get__" = some (some (.builtin "getset_descriptor.__get__")))
    (htZeroDenominator : PySem.W.takesIn K (.builtin "object.__class__") = some true)
    (hmZeroDenominator : PySem.W.mroIn K CZeroDenominator (.type "object") = some true)
    (icZeroDenominator : PySem.W.isClsIn K CZeroDenominator = true)
    (sCZeroDenominator : PySem.W.subIn K (.ref CZeroDenominator) (.ref CZeroDenominator) = some true)
    (kitWeightedWeighted : PySem.W.kitOne K (.ref CWeighted) (.ref CWeighted) = some true)
    (aCUniform : PySem.W.nsIn K mainGlobals "Uniform" = some (some (.ref CUniform)))
    (pgUniform : PySem.W.plainGet K CUniform Str.empty = true) (hdUniform : PySem.W.hasDictIn K CUniform = true) (poUniform : PySem.W.plainOver K CUniform = true) (saUniform : PySem.W.findIn K (.ref CUniform) "__setattr__" = some (some (.builtin "object.__setattr__"))) (mkUniform : PySem.W.makesIn K CUniform = true) (kcUniform : PySem.W.keepIn K (.ref CUniform) = true)
    (nUniform_size : PySem.W.findIn K (.ref CUniform) "size" = some none)
    (nUniform_seen : PySem.W.findIn K (.ref CUniform) "seen" = some none)
    (nUniform_kept : PySem.W.findIn K (.ref CUniform) "kept" = some none)
    (aCWeighted : PySem.W.nsIn K mainGlobals "Weighted" = some (some (.ref CWeighted)))
    (pgWeighted : PySem.W.plainGet K CWeighted Str.empty = true) (hdWeighted : PySem.W.hasDictIn K CWeighted = true) (poWeighted : PySem.W.plainOver K CWeighted = true) (saWeighted : PySem.W.findIn K (.ref CWeighted) "__setattr__" = some (some (.builtin "object.__setattr__"))) (mkWeighted : PySem.W.makesIn K CWeighted = true) (kcWeighted : PySem.W.keepIn K (.ref CWeighted) = true)
    (nWeighted_size : PySem.W.findIn K (.ref CWeighted) "size" = some none)
    (nWeighted_total : PySem.W.findIn K (.ref CWeighted) "total" = some none)
    (nWeighted_kept : PySem.W.findIn K (.ref CWeighted) "kept" = some none)
    (isaUniform : PySem.W.findIn K (.ref CUniform) "__class__" = some (some (.builtin "object.__class__")))
    (isgUniform : PySem.W.specialIn K (.builtin "object.__class__") "__get__" = some (some (.builtin "getset_descriptor.__get__")))
    (istUniform : PySem.W.takesIn K (.builtin "object.__class__") = some true)
    (ismUniform : PySem.W.mroIn K CUniform (.type "object") = some true)
    (isaWeighted : PySem.W.findIn K (.ref CWeighted) "__class__" = some (some (.builtin "object.__class__")))
    (isgWeighted : PySem.W.specialIn K (.builtin "object.__class__") "__get__" = some (some (.builtin "getset_descriptor.__get__")))
    (istWeighted : PySem.W.takesIn K (.builtin "object.__class__") = some true)
    (ismWeighted : PySem.W.mroIn K CWeighted (.type "object") = some true)
    (kitWeightedUniform : PySem.W.kitOne K (.ref CWeighted) (.ref CUniform) = some false)
    (z_abs : PySem.W.nsIn K mainGlobals "abs" = some none)
    (z_any : PySem.W.nsIn K mainGlobals "any" = some none)
    (z_dict : PySem.W.nsIn K mainGlobals "dict" = some none)
    (z_int : PySem.W.nsIn K mainGlobals "int" = some none)
    (z_isinstance : PySem.W.nsIn K mainGlobals "isinstance" = some none)
    (z_len : PySem.W.nsIn K mainGlobals "len" = some none)
    (z_list : PySem.W.nsIn K mainGlobals "list" = some none)
    (z_max : PySem.W.nsIn K mainGlobals "max" = some none)
    (z_min : PySem.W.nsIn K mainGlobals "min" = some none)
    (z_range : PySem.W.nsIn K mainGlobals "range" = some none)
    (z_sum : PySem.W.nsIn K mainGlobals "sum" = some none)
    (z_super : PySem.W.nsIn K mainGlobals "super" = some none)
    (v_ZERO : PySem.W.nsIn K mainGlobals "ZERO" = some (some (.ref k_ZERO)))
    (l_ZERO : K.lookup k_ZERO = some ⟨.type "tuple", od_ZERO, .seq #[.int (0) t0_ZERO, .int (1) t1_ZERO] nn_ZERO, sl_ZERO⟩)
    (g_gcd : PySem.W.nsIn K mainGlobals "gcd" = some (some (.builtin "math.gcd"))) :
    ∃ fd : FuncData, (∀ (s : Shared) (v : Value), BindsTo s fd ⟨[v], []⟩ [("script", v)]) ∧ ∀ base : Heap, K.In base → base.Ns mainGlobals mg → FnOk l.prog w K mg base CX0 10 fa fd ["script"] (spLaw K) := by
  have e : f33 = fa := by
    have e := hfa.symm.trans (PySem.W.mg_of X G a33)
    cases e
    rfl
  subst e
  let t : T l.prog K mg := {
    a_lowest := f1, fd_lowest := _, F_lowest := fun_mk (st := s_lowest) l1 c1 k1, b_lowest := (fun_mk (st := s_lowest) l1 c1 k1).binds (ps := ["p", "q"]) (fun _ _ _ _ _ _ us hl => match us, hl with | [_, _], _ => rfl),
    g_lowest := PySem.W.mg_of X G a1,
    a_plus := f2, fd_plus := _, F_plus := fun_mk (st := s_plus) l2 c2 k2, b_plus := (fun_mk (st := s_plus) l2 c2 k2).binds (ps := ["a", "b"]) (fun _ _ _ _ _ _ us hl => match us, hl with | [_, _], _ => rfl),
    g_plus := PySem.W.mg_of X G a2,
    a_minus := f3, fd_minus := _, F_minus := fun_mk (st := s_minus) l3 c3 k3, b_minus := (fun_mk (st := s_minus) l3 c3 k3).binds (ps := ["a", "b"]) (fun _ _ _ _ _ _ us hl => match us, hl with | [_, _], _ => rfl),
    g_minus := PySem.W.mg_of X G a3,
    a_times := f4, fd_times := _, F_times := fun_mk (st := s_times) l4 c4 k4, b_times := (fun_mk (st := s_times) l4 c4 k4).binds (ps := ["a", "b"]) (fun _ _ _ _ _ _ us hl => match us, hl with | [_, _], _ => rfl),
    g_times := PySem.W.mg_of X G a4,
    a_over := f5, fd_over := _, F_over := fun_mk (st := s_over) l5 c5 k5, b_over := (fun_mk (st := s_over) l5 c5 k5).binds (ps := ["a", "b"]) (fun _ _ _ _ _ _ us hl => match us, hl with | [_, _], _ => rfl),
    g_over := PySem.W.mg_of X G a5,
    a_sum_of := f6, fd_sum_of := _, F_sum_of := fun_mk (st := s_sum_of) l6 c6 k6, b_sum_of := (fun_mk (st := s_sum_of) l6 c6 k6).binds (ps := ["fractions"]) (fun _ _ _ _ _ _ us hl => match us, hl with | [_], _ => rfl),
    g_sum_of := PySem.W.mg_of X G a6,
    a_weight_of := f7, fd_weight_of := _, F_weight_of := fun_mk (st := s_weight_of) l7 c7 k7, b_weight_of := (fun_mk (st := s_weight_of) l7 c7 k7).binds (ps := ["things"]) (fun _ _ _ _ _ _ us hl => match us, hl with | [_], _ => rfl),
    g_weight_of := PySem.W.mg_of X G a7,
    a_Uniform_init := f8, fd_Uniform_init := _, F_Uniform_init := fun_mk (st := s_Uniform_init) l8 c8 k8, b_Uniform_init := (fun_mk (st := s_Uniform_init) l8 c8 k8).binds (ps := ["self", "size", "seen", "kept"]) (fun _ _ _ _ _ _ us hl => match us, hl with | [_, _, _, _], _ => rfl),
    a_Weighted_init := f9, fd_Weighted_init := _, F_Weighted_init := fun_mk (st := s_Weighted_init) l9 c9 k9, b_Weighted_init := (fun_mk (st := s_Weighted_init) l9 c9 k9).binds (ps := ["self", "size", "total", "kept"]) (fun _ _ _ _ _ _ us hl => match us, hl with | [_, _, _, _], _ => rfl),
    a_is_whole := f10, fd_is_whole := _, F_is_whole := fun_mk (st := s_is_whole) l10 c10 k10, b_is_whole := (fun_mk (st := s_is_whole) l10 c10 k10).binds (ps := ["sample"]) (fun _ _ _ _ _ _ us hl => match us, hl with | [_], _ => rfl),
    g_is_whole := PySem.W.mg_of X G a10,
    a_amount_of := f11, fd_amount_of := _, F_amount_of := fun_mk (st := s_amount_of) l11 c11 k11, b_amount_of := (fun_mk (st := s_amount_of) l11 c11 k11).binds (ps := ["amounts", "item"]) (fun _ _ _ _ _ _ us hl => match us, hl with | [_, _], _ => rfl),
    g_amount_of := PySem.W.mg_of X G a11,
    a_true_sum := f12, fd_true_sum := _, F_true_sum := fun_mk (st := s_true_sum) l12 c12 k12, b_true_sum := (fun_mk (st := s_true_sum) l12 c12 k12).binds (ps := ["things", "amounts"]) (fun _ _ _ _ _ _ us hl => match us, hl with | [_, _], _ => rfl),
    g_true_sum := PySem.W.mg_of X G a12,
    a_mean_of := f13, fd_mean_of := _, F_mean_of := fun_mk (st := s_mean_of) l13 c13 k13, b_mean_of := (fun_mk (st := s_mean_of) l13 c13 k13).binds (ps := ["numbers"]) (fun _ _ _ _ _ _ us hl => match us, hl with | [_], _ => rfl),
    g_mean_of := PySem.W.mg_of X G a13,
    a_squares_around := f14, fd_squares_around := _, F_squares_around := fun_mk (st := s_squares_around) l14 c14 k14, b_squares_around := (fun_mk (st := s_squares_around) l14 c14 k14).binds (ps := ["numbers"]) (fun _ _ _ _ _ _ us hl => match us, hl with | [_], _ => rfl),
    g_squares_around := PySem.W.mg_of X G a14,
    a_ordered_estimates := f15, fd_ordered_estimates := _, F_ordered_estimates := fun_mk (st := s_ordered_estimates) l15 c15 k15, b_ordered_estimates := (fun_mk (st := s_ordered_estimates) l15 c15 k15).binds (ps := ["total", "kept", "amounts"]) (fun _ _ _ _ _ _ us hl => match us, hl with | [_, _, _], _ => rfl),
    g_ordered_estimates := PySem.W.mg_of X G a15,
    a_weighted_estimate := f16, fd_weighted_estimate := _, F_weighted_estimate := fun_mk (st := s_weighted_estimate) l16 c16 k16, b_weighted_estimate := (fun_mk (st := s_weighted_estimate) l16 c16 k16).binds (ps := ["sample", "amounts"]) (fun _ _ _ _ _ _ us hl => match us, hl with | [_, _], _ => rfl),
    g_weighted_estimate := PySem.W.mg_of X G a16,
    a_estimate := f17, fd_estimate := _, F_estimate := fun_mk (st := s_estimate) l17 c17 k17, b_estimate := (fun_mk (st := s_estimate) l17 c17 k17).binds (ps := ["sample", "amounts"]) (fun _ _ _ _ _ _ us hl => match us, hl with | [_, _], _ => rfl),
    g_estimate := PySem.W.mg_of X G a17,
    a_ordered := f18, fd_ordered := _, F_ordered := fun_mk (st := s_ordered) l18 c18 k18, b_ordered := (fun_mk (st := s_ordered) l18 c18 k18).binds (ps := ["sample", "amounts"]) (fun _ _ _ _ _ _ us hl => match us, hl with | [_, _], _ => rfl),
    g_ordered := PySem.W.mg_of X G a18,
    a__law_mix := f19, fd__law_mix := _, F__law_mix := fun_mk (st := s__law_mix) l19 c19 k19, b__law_mix := (fun_mk (st := s__law_mix) l19 c19 k19).binds (ps := ["number", "k"]) (fun _ _ _ _ _ _ us hl => match us, hl with | [_, _], _ => rfl),
    g__law_mix := PySem.W.mg_of X G a19,
    a__law_numbers := f20, fd__law_numbers := _, F__law_numbers := fun_mk (st := s__law_numbers) l20 c20 k20, b__law_numbers := (fun_mk (st := s__law_numbers) l20 c20 k20).binds (ps := ["script", "count"]) (fun _ _ _ _ _ _ us hl => match us, hl with | [_, _], _ => rfl),
    g__law_numbers := PySem.W.mg_of X G a20,
    a__law_take := f21, fd__law_take := _, F__law_take := fun_mk (st := s__law_take) l21 c21 k21, b__law_take := (fun_mk (st := s__law_take) l21 c21 k21).binds (ps := ["row", "bound"]) (fun _ _ _ _ _ _ us hl => match us, hl with | [_, _], _ => rfl),
    g__law_take := PySem.W.mg_of X G a21,
    a__law_low := f22, fd__law_low := _, F__law_low := fun_mk (st := s__law_low) l22 c22 k22, b__law_low := (fun_mk (st := s__law_low) l22 c22 k22).binds (ps := ["p", "q"]) (fun _ _ _ _ _ _ us hl => match us, hl with | [_, _], _ => rfl),
    g__law_low := PySem.W.mg_of X G a22,
    a__law_plus := f23, fd__law_plus := _, F__law_plus := fun_mk (st := s__law_plus) l23 c23 k23, b__law_plus := (fun_mk (st := s__law_plus) l23 c23 k23).binds (ps := ["one", "other"]) (fun _ _ _ _ _ _ us hl => match us, hl with | [_, _], _ => rfl),
    g__law_plus := PySem.W.mg_of X G a23,
    a__law_minus := f24, fd__law_minus := _, F__law_minus := fun_mk (st := s__law_minus) l24 c24 k24, b__law_minus := (fun_mk (st := s__law_minus) l24 c24 k24).binds (ps := ["one", "other"]) (fun _ _ _ _ _ _ us hl => match us, hl with | [_, _], _ => rfl),
    g__law_minus := PySem.W.mg_of X G a24,
    a__law_times := f25, fd__law_times := _, F__law_times := fun_mk (st := s__law_times) l25 c25 k25, b__law_times := (fun_mk (st := s__law_times) l25 c25 k25).binds (ps := ["one", "other"]) (fun _ _ _ _ _ _ us hl => match us, hl with | [_, _], _ => rfl),
    g__law_times := PySem.W.mg_of X G a25,
    a__law_sum := f26, fd__law_sum := _, F__law_sum := fun_mk (st := s__law_sum) l26 c26 k26, b__law_sum := (fun_mk (st := s__law_sum) l26 c26 k26).binds (ps := ["rows"]) (fun _ _ _ _ _ _ us hl => match us, hl with | [_], _ => rfl),
    g__law_sum := PySem.W.mg_of X G a26,
    a__law_items := f27, fd__law_items := _, F__law_items := fun_mk (st := s__law_items) l27 c27 k27, b__law_items := (fun_mk (st := s__law_items) l27 c27 k27).binds (ps := ["row", "many"]) (fun _ _ _ _ _ _ us hl => match us, hl with | [_, _], _ => rfl),
    g__law_items := PySem.W.mg_of X G a27,
    a__law_amounts := f28, fd__law_amounts := _, F__law_amounts := fun_mk (st := s__law_amounts) l28 c28 k28, b__law_amounts := (fun_mk (st := s__law_amounts) l28 c28 k28).binds (ps := ["row", "things"]) (fun _ _ _ _ _ _ us hl => match us, hl with | [_, _], _ => rfl),
    g__law_amounts := PySem.W.mg_of X G a28,
    a__law_true := f29, fd__law_true := _, F__law_true := fun_mk (st := s__law_true) l29 c29 k29, b__law_true := (fun_mk (st := s__law_true) l29 c29 k29).binds (ps := ["things", "amounts"]) (fun _ _ _ _ _ _ us hl => match us, hl with | [_, _], _ => rfl),
    g__law_true := PySem.W.mg_of X G a29,
    a__law_moments := f30, fd__law_moments := _, F__law_moments := fun_mk (st := s__law_moments) l30 c30 k30, b__law_moments := (fun_mk (st := s__law_moments) l30 c30 k30).binds (ps := ["rows"]) (fun _ _ _ _ _ _ us hl => match us, hl with | [_], _ => rfl),
    g__law_moments := PySem.W.mg_of X G a30,
    a__law_orders := f31, fd__law_orders := _, F__law_orders := fun_mk (st := s__law_orders) l31 c31 k31, b__law_orders := (fun_mk (st := s__law_orders) l31 c31 k31).binds (ps := ["things", "many"]) (fun _ _ _ _ _ _ us hl => match us, hl with | [_, _], _ => rfl),
    g__law_orders := PySem.W.mg_of X G a31,
    a__law_order_chance := f32, fd__law_order_chance := _, F__law_order_chance := fun_mk (st := s__law_order_chance) l32 c32 k32, b__law_order_chance := (fun_mk (st := s__law_order_chance) l32 c32 k32).binds (ps := ["total", "things"]) (fun _ _ _ _ _ _ us hl => match us, hl with | [_, _], _ => rfl),
    g__law_order_chance := PySem.W.mg_of X G a32,
    a_law := f33, fd_law := _, F_law := fun_mk (st := s_law) l33 c33 k33, b_law := (fun_mk (st := s_law) l33 c33 k33).binds (ps := ["script"]) (fun _ _ _ _ _ _ us hl => match us, hl with | [_], _ => rfl),
    g_law := PySem.W.mg_of X G a33,
    C_SamphireError := CSamphireError, mg_SamphireError := PySem.W.mg_of X G aCSamphireError,
    C_ZeroDenominator := CZeroDenominator, a_ZeroDenominator_init := fZeroDenominator, c_ZeroDenominator := cZeroDenominator, cc_ZeroDenominator := ccZeroDenominator, doc_ZeroDenominator := docZeroDenominator, pm_ZeroDenominator := pmZeroDenominator, ctv_ZeroDenominator := ctvZeroDenominator, oc_ZeroDenominator := ocZeroDenominator, od_ZeroDenominator := odZeroDenominator, osl_ZeroDenominator := oslZeroDenominator, lk_ZeroDenominator := lkZeroDenominator, hc_ZeroDenominator := hcZeroDenominator,
    x_ZeroDenominator := Sup.excT_mk xLZeroDenominator rfl saZeroDenominator sBZeroDenominator tCZeroDenominator kCZeroDenominator coZeroDenominator flZeroDenominator ceZeroDenominator mrZeroDenominator sVZeroDenominator (PySem.W.mg_none_of X G z_super) anZeroDenominator suZeroDenominator tpZeroDenominator (PySem.W.mg_of X G aCZeroDenominator) iCZeroDenominator tIZeroDenominator ⟨hgZeroDenominator, hkZeroDenominator, sBZeroDenominator, hdZeroDenominator, haZeroDenominator, hnZeroDenominator, htZeroDenominator, hmZeroDenominator⟩ icZeroDenominator sCZeroDenominator,
    bx_ZeroDenominator := .all (fun us hl => match us, hl with | [_], _ => rfl),
    kit_Weighted_Weighted := kitWeightedWeighted,
    C_Uniform := CUniform, cl_Uniform := ⟨pgUniform, hdUniform, poUniform, saUniform⟩, mg_Uniform := PySem.W.mg_of X G aCUniform,
    mk_Uniform := ⟨mkUniform, a8, i8, kcUniform⟩,
    na_Uniform_size := nUniform_size,
    na_Uniform_seen := nUniform_seen,
    na_Uniform_kept := nUniform_kept,
    C_Weighted := CWeighted, cl_Weighted := ⟨pgWeighted, hdWeighted, poWeighted, saWeighted⟩, mg_Weighted := PySem.W.mg_of X G aCWeighted,
    mk_Weighted := ⟨mkWeighted, a9, i9, kcWeighted⟩,
    na_Weighted_size := nWeighted_size,
    na_Weighted_total := nWeighted_total,
    na_Weighted_kept := nWeighted_kept,
    isa_Uniform := isaUniform,
    isg_Uniform := isgUniform,
    ist_Uniform := istUniform,
    ism_Uniform := ismUniform,
    isa_Weighted := isaWeighted,
    isg_Weighted := isgWeighted,
    ist_Weighted := istWeighted,
    ism_Weighted := ismWeighted,
    kit_Weighted_Uniform := kitWeightedUniform,
    z_abs := PySem.W.mg_none_of X G z_abs,
    z_any := PySem.W.mg_none_of X G z_any,
    z_dict := PySem.W.mg_none_of X G z_dict,
    z_int := PySem.W.mg_none_of X G z_int,
    z_isinstance := PySem.W.mg_none_of X G z_isinstance,
    z_len := PySem.W.mg_none_of X G z_len,
    z_list := PySem.W.mg_none_of X G z_list,
    z_max := PySem.W.mg_none_of X G z_max,
    z_min := PySem.W.mg_none_of X G z_min,
    z_range := PySem.W.mg_none_of X G z_range,
    z_sum := PySem.W.mg_none_of X G z_sum,
    z_super := PySem.W.mg_none_of X G z_super,
    k_ZERO := k_ZERO, g_ZERO := PySem.W.mg_of X G v_ZERO, q_ZERO := fun H => .inr ⟨_, _, _, l_ZERO, rfl, rfl, (show 2 ≤ sizeLine by decide), (.cons ⟨_, rfl⟩ (.cons ⟨_, rfl⟩ .nil))⟩,
    g_gcd := PySem.W.mg_of X G g_gcd }
  exact ⟨t.fd_law, fun s v => .of_eq rfl, fun base _ _ => ok_law t⟩

end K34
open PySem PySem.W PyProof.Rows in
set_option maxRecDepth 100000 in
set_option maxHeartbeats 0 in
theorem PySem.Challenge.cw_samphire_k34_whole_weighted_estimates_holds : PySem.Challenge.rw_samphire_k34_whole_weighted_estimates.Holds := by
  w_on; o_law; k_head; (case hw => w_witness2)
  k_fill
  refine L2.walk_ofB (l := PySem.Challenge.rw_samphire_k34_whole_weighted_estimates) (n := 63) (k := 10) (x := "script") (CX := fun w => L2.CX0) (sp := fun w => K34.spLaw _) rfl (by decide) rfl ⟨rfl, by decide, by decide⟩ (fun w h Y => PySem.W.kIn_of Y) ?F (fun _ H a ns hl hb _ hS => ⟨a, ns, rfl, hS, hl, hb, fun _ => rfl⟩) (fun _ _ _ _ _ h => h)
  case F =>
    intro w mg fa h KX G hmg
    refine' K34.all_mk KX G hmg ?a1 ?l1 ?c1 ?k1 ?a2 ?l2 ?c2 ?k2 ?a3 ?l3 ?c3 ?k3 ?a4 ?l4 ?c4 ?k4 ?a5 ?l5 ?c5 ?k5 ?a6 ?l6 ?c6 ?k6 ?a7 ?l7 ?c7 ?k7 ?a8 ?i8 ?l8 ?c8 ?k8 ?a9 ?i9 ?l9 ?c9 ?k9 ?a10 ?l10 ?c10 ?k10 ?a11 ?l11 ?c11 ?k11 ?a12 ?l12 ?c12 ?k12 ?a13 ?l13 ?c13 ?k13 ?a14 ?l14 ?c14 ?k14 ?a15 ?l15 ?c15 ?k15 ?a16 ?l16 ?c16 ?k16 ?a17 ?l17 ?c17 ?k17 ?a18 ?l18 ?c18 ?k18 ?a19 ?l19 ?c19 ?k19 ?a20 ?l20 ?c20 ?k20 ?a21 ?l21 ?c21 ?k21 ?a22 ?l22 ?c22 ?k22 ?a23 ?l23 ?c23 ?k23 ?a24 ?l24 ?c24 ?k24 ?a25 ?l25 ?c25 ?k25 ?a26 ?l26 ?c26 ?k26 ?a27 ?l27 ?c27 ?k27 ?a28 ?l28 ?c28 ?k28 ?a29 ?l29 ?c29 ?k29 ?a30 ?l30 ?c30 ?k30 ?a31 ?l31 ?c31 ?k31 ?a32 ?l32 ?c32 ?k32 ?a33 ?l33 ?c33 ?k33 ?aCSamphireError ?aCZeroDenominator ?iCZeroDenominator ?tIZeroDenominator ?lkZeroDenominator ?hcZeroDenominator ?xLZeroDenominator ?saZeroDenominator ?sBZeroDenominator ?tCZeroDenominator ?kCZeroDenominator ?coZeroDenominator ?flZeroDenominator ?ceZeroDenominator ?mrZeroDenominator ?sVZeroDenominator ?anZeroDenominator ?suZeroDenominator ?tpZeroDenominator ?hgZeroDenominator ?hkZeroDenominator ?hdZeroDenominator ?haZeroDenominator ?hnZeroDenominator ?htZeroDenominator ?hmZeroDenominator ?icZeroDenominator ?sCZeroDenominator ?kitWeightedWeighted ?aCUniform ?pgUniform ?hdUniform ?poUniform ?saUniform ?mkUniform ?kcUniform ?nUniform_size ?nUniform_seen ?nUniform_kept ?aCWeighted ?pgWeighted ?hdWeighted ?poWeighted ?saWeighted ?mkWeighted ?kcWeighted ?nWeighted_size ?nWeighted_total ?nWeighted_kept ?isaUniform ?isgUniform ?istUniform ?ismUniform ?isaWeighted ?isgWeighted ?istWeighted ?ismWeighted ?kitWeightedUniform ?z_abs ?z_any ?z_dict ?z_int ?z_isinstance ?z_len ?z_list ?z_max ?z_min ?z_range ?z_sum ?z_super ?v_ZERO ?l_ZERO ?g_gcd
    (case aCSamphireError => k_is)
    (case aCZeroDenominator => k_is)
    (case aCUniform => k_is)
    (case aCWeighted => k_is)
    (case a1 => k_is)
    (case l1 => k_is)
    (case c1 => k_is)
    (case k1 => k_is)
    (case a2 => k_is)
    (case l2 => k_is)
    (case c2 => k_is)
    (case k2 => k_is)
    (case a3 => k_is)
    (case l3 => k_is)
    (case c3 => k_is)
    (case k3 => k_is)
    (case a4 => k_is)
    (case l4 => k_is)
    (case c4 => k_is)
    (case k4 => k_is)
    (case a5 => k_is)
    (case l5 => k_is)
    (case c5 => k_is)
    (case k5 => k_is)
    (case a6 => k_is)
    (case l6 => k_is)
    (case c6 => k_is)
    (case k6 => k_is)
    (case a7 => k_is)
    (case l7 => k_is)
    (case c7 => k_is)
    (case k7 => k_is)
    (case a8 => k_is)
    (case i8 => k_is)
    (case l8 => k_is)
    (case c8 => k_is)
    (case k8 => k_is)
    (case a9 => k_is)
    (case i9 => k_is)
    (case l9 => k_is)
    (case c9 => k_is)
    (case k9 => k_is)
    (case a10 => k_is)
    (case l10 => k_is)
    (case c10 => k_is)
    (case k10 => k_is)
    (case a11 => k_is)
    (case l11 => k_is)
    (case c11 => k_is)
    (case k11 => k_is)
    (case a12 => k_is)
    (case l12 => k_is)
    (case c12 => k_is)
    (case k12 => k_is)
    (case a13 => k_is)
    (case l13 => k_is)
    (case c13 => k_is)
    (case k13 => k_is)
    (case a14 => k_is)
    (case l14 => k_is)
    (case c14 => k_is)
    (case k14 => k_is)
    (case a15 => k_is)
    (case l15 => k_is)
    (case c15 => k_is)
    (case k15 => k_is)
    (case a16 => k_is)
    (case l16 => k_is)
    (case c16 => k_is)
    (case k16 => k_is)
    (case a17 => k_is)
    (case l17 => k_is)
    (case c17 => k_is)
    (case k17 => k_is)
    (case a18 => k_is)
    (case l18 => k_is)
    (case c18 => k_is)
    (case k18 => k_is)
    (case a19 => k_is)
    (case l19 => k_is)
    (case c19 => k_is)
    (case k19 => k_is)
    (case a20 => k_is)
    (case l20 => k_is)
    (case c20 => k_is)
    (case k20 => k_is)
    (case a21 => k_is)
    (case l21 => k_is)
    (case c21 => k_is)
    (case k21 => k_is)
    (case a22 => k_is)
    (case l22 => k_is)
    (case c22 => k_is)
    (case k22 => k_is)
    (case a23 => k_is)
    (case l23 => k_is)
    (case c23 => k_is)
    (case k23 => k_is)
    (case a24 => k_is)
    (case l24 => k_is)
    (case c24 => k_is)
    (case k24 => k_is)
    (case a25 => k_is)
    (case l25 => k_is)
    (case c25 => k_is)
    (case k25 => k_is)
    (case a26 => k_is)
    (case l26 => k_is)
    (case c26 => k_is)
    (case k26 => k_is)
    (case a27 => k_is)
    (case l27 => k_is)
    (case c27 => k_is)
    (case k27 => k_is)
    (case a28 => k_is)
    (case l28 => k_is)
    (case c28 => k_is)
    (case k28 => k_is)
    (case a29 => k_is)
    (case l29 => k_is)
    (case c29 => k_is)
    (case k29 => k_is)
    (case a30 => k_is)
    (case l30 => k_is)
    (case c30 => k_is)
    (case k30 => k_is)
    (case a31 => k_is)
    (case l31 => k_is)
    (case c31 => k_is)
    (case k31 => k_is)
    (case a32 => k_is)
    (case l32 => k_is)
    (case c32 => k_is)
    (case k32 => k_is)
    (case a33 => k_is)
    (case l33 => k_is)
    (case c33 => k_is)
    (case k33 => k_is)
    (case iCZeroDenominator => k_is)
    (case tIZeroDenominator => k_is)
    (case lkZeroDenominator => k_is)
    (case hcZeroDenominator => k_is)
    (case xLZeroDenominator => k_is)
    (case saZeroDenominator => k_is)
    (case sBZeroDenominator => k_is)
    (case tCZeroDenominator => k_is)
    (case kCZeroDenominator => k_is)
    (case coZeroDenominator => k_is)
    (case flZeroDenominator => first | rfl | decide +kernel)
    (case ceZeroDenominator => k_is)
    (case mrZeroDenominator => first | rfl | k_is)
    (case sVZeroDenominator => k_is)
    (case anZeroDenominator => k_is)
    (case suZeroDenominator => ks_is)
    (case tpZeroDenominator => first | rfl | decide +kernel)
    (case hgZeroDenominator => k_is)
    (case hkZeroDenominator => k_is)
    (case hdZeroDenominator => k_is)
    (case haZeroDenominator => k_is)
    (case hnZeroDenominator => k_is)
    (case htZeroDenominator => k_is)
    (case hmZeroDenominator => k_is)
    (case icZeroDenominator => k_is)
    (case sCZeroDenominator => first | rfl | k_is)
    (case kitWeightedWeighted => first | rfl | k_is | decide +kernel)
    (case pgUniform => k_is)
    (case hdUniform => k_is)
    (case poUniform => k_is)
    (case saUniform => k_is)
    (case mkUniform => k_is)
    (case kcUniform => k_is)
    (case nUniform_size => k_is)
    (case nUniform_seen => k_is)
    (case nUniform_kept => k_is)
    (case pgWeighted => k_is)
    (case hdWeighted => k_is)
    (case poWeighted => k_is)
    (case saWeighted => k_is)
    (case mkWeighted => k_is)
    (case kcWeighted => k_is)
    (case nWeighted_size => k_is)
    (case nWeighted_total => k_is)
    (case nWeighted_kept => k_is)
    (case isaUniform => k_is)
    (case isgUniform => k_is)
    (case istUniform => k_is)
    (case ismUniform => k_is)
    (case isaWeighted => k_is)
    (case isgWeighted => k_is)
    (case istWeighted => k_is)
    (case ismWeighted => k_is)
    (case kitWeightedUniform => first | rfl | k_is | decide +kernel)
    (case z_abs => k_is)
    (case z_any => k_is)
    (case z_dict => k_is)
    (case z_int => k_is)
    (case z_isinstance => k_is)
    (case z_len => k_is)
    (case z_list => k_is)
    (case z_max => k_is)
    (case z_min => k_is)
    (case z_range => k_is)
    (case z_sum => k_is)
    (case z_super => k_is)
    (case v_ZERO => k_is)
    (case l_ZERO => k_is)
    (case g_gcd => k_is)
