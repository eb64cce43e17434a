import PyProof.Rows.All
import HandS.NoneIn
import Wide.All
import OpenK.AllK
import Wide.FinOn
import HandS.ForMost
import HandS.ForExc
import HandS.EndBits
import HandS.Wide
import HandS.IsInst
import HandS.ExcInit
import HandS.Nested
import KE.KExcSuper
import HandS.ExcIs
import HandS.ExcField
import HandS.Gcd
import HandS.Rev
import HandS.Walk
import HandS.Style
import HandS.FStr
import HandS.TryOnly
import KE.GoesEnumKw
import HandS.Text
import HandS.SortInts
import HandS.More
import HandS.ClsMeth
import HandS.WordsExc
import HandS.Deep
import HandS.StrMore
import HandS.TryMany
import KE.SortData
import KE.SortKeyHeap
import HandS.RevRange
import HandS.Lambda
import HandS.EndTab
import PyProof.Rows.TupSub
import HandS.SortKw
import KE.KSortKey
import PySem.Challenge.RW_samphire_k58_plans_checked
set_option Elab.async false
set_option linter.all false
set_option maxRecDepth 100000

/-! ### an own exception whose __init__ begins with super().__init__(..) -/
namespace Sup
open PySem PySem.Spec PyProof.Rows L2 NdefX
/-- what the written part says of such a class (at C), of its __init__ (at f; its code at c, its cell of the class at cc) -/
structure SupC (P : Program) (K : PySem.W.Frag) (mg : Str → Option Value) (C f c cc : Addr) : Prop where
  T : OexC K C
  cd : ∃ cd, PySem.W.clsIn K C = some cd
  code : ∃ occ cdd vs sl file tf, K.lookup c = some ⟨occ, cdd, .fields vs, sl⟩ ∧ vs[2]? = some (.str file tf) ∧ ((P.main.file : Str) == file) = true
  cell : ∃ cl cld sl, K.lookup cc = some ⟨cl, cld, .cell (some (.ref C)), sl⟩
  sub : PySem.W.mroIn K C (.ref C) = some true
  subV : PySem.W.subIn K (.ref C) (.type "ValueError") = some true
  zs : mg "super" = none
  any : PySem.W.nsIn K PySem.cStatics "thirdparty.any" = some none
  sup : PySem.W.ks_superIn K C C "__init__" = some (some (.builtin "ValueError.__init__"))
  top : (P.main.scope.names.lookup ("super" : Str)).isSome = false
section
variable {CX : CXT} {P : Program} {w : World} {K : PySem.W.Frag} {mg : Str → Option Value} {base : Heap} {N ps : List Str} {F : NF} {f C cc : Addr} {k : Nat} {sp : Sp}
/-- the body's first statement -/
abbrev supSt (arg : Expr) (p0 p1 p2 p3 p4 : Pos) : Stmt := .Expr (.Call (.Attribute (.Call (.Name "super" p0) [] [] p1) "__init__" p2) [arg] [] p3) p4
theorem callW {M : Model} {A : Around} {E : Value → Shared → Prop} {s : Shared} {i : String} {u x : Addr} {pos : Pos} {env : Env} {e : Expr} {Q : Value → Shared → Prop} (he : starEach [e] env = (false, eval e env) :: starEach [] env)
    (h : wpAny M A (spliced (backTo pos (starEach [e] env))) (fun vs s₁ => PySem.W.KxsAt i u x s₁.heap ∧ wpAny M A (call (.ref u) vs) Q E s₁) E s) : wpAny M A (callWith pos (.ref u) [] (backTo pos (starEach [e] env)) []) Q E s := by
  rw [he] at h ⊢
  refine PySem.W.kxs_callWith (i := i) (x := x) rfl ?_
  exact PySem.Calls.evalArgs_plain h
theorem fn_super {oc : Value} {od : Option Addr} {osl : Array (Option Value)} {doc pm ctv : Value} {arg : Expr} {rest : List Stmt} {p0 p1 p2 p3 p4 : Pos} {p : Str} {ps' : List Str}
    (T : SupC P K mg C f F.c cc) (lk : K.lookup f = some ⟨oc, od, .func (F.fd doc pm ctv), osl⟩) (hcl : F.cl = [(("__class__" : Str), cc)]) (hcd : PySem.W.codeIn K (.ref F.c) F.qual = true) (S : NScope N ps ["__class__"] F.scope) (hps : ps = p :: ps')
    (hpar : ∃ ar, (F.params.posonlyargs ++ F.params.args).head? = some ar ∧ ar.arg = p) (hsu : F.scope.names.lookup ("super" : Str) = some .globalImplicit) (hbd : F.body = supSt arg p0 p1 p2 p3 p4 :: rest)
    (hsw : ∀ L : Addr, swapsWith (.Call (.Attribute (.Call (.Name "super" p0) [] [] p1) "__init__" p2) [arg] [] p3) none p4.line (envF F f L) = pure false)
    (hev : ∀ L : Addr, ∃ pl, eval (.Call (.Attribute (.Call (.Name "super" p0) [] [] p1) "__init__" p2) [arg] [] p3) (envF F f L) = (do
        let ov ← attributeBase (.Call (.Name "super" p0) [] [] p1) "__init__" (envF F f L) (eval (.Call (.Name "super" p0) [] [] p1) (envF F f L))
        standAt p2.atName
        let (f', first) ← holding [ov] (getMethod ov "__init__" pl)
        callWith p3 f' first (backTo p3 (starEach [arg] (envF F f L))) []))
    (hst : ∀ L : Addr, starEach [arg] (envF F f L) = (false, eval arg (envF F f L)) :: starEach [] (envF F f L))
    (len : ∀ vs H Q E, sp vs H Q E → vs.length = ps.length)
    (hbody : ∀ (A : Around) (outer : List Env) (s : Shared) (H : Hp) (vs : List V) (Q : VK) (E : XK), Room k (A.deeper (envF F f s.heap.objs.size)) → sp vs H Q E →
      ∃ a vs' ta t, vs = .ref a :: vs' ∧ H a = some (exo a C none) ∧ PA (ncx CX P w K mg base N F f A outer s H E) [arg] ta ∧ PSs (ncx CX P w K mg base N F f A outer s H E) rest t ∧
        ta (startF N vs [none]) H (fun ws H1 => ws.length ≤ 1000 ∧ H1 a = some (exo a C none) ∧ t { nx := fun _ H' => Q .non H', rt := Q } (startF N vs [none]) H1)) :
    FnOk P w K mg base CX (k + 1) f (F.fd doc pm ctv) ps sp := by
  refine ⟨len, fun A outer s H args us vs Q E hr e0 hb r hsp => ?_⟩
  have KX : K.In s.heap := e0.mod.kin.keeps fun b o e => (e0.bs b o e).1
  have hl := len _ _ _ _ hsp
  have lim : s.heap.NoLimit := e0.mod.nolimit.keeps fun b o e => (e0.bs b o e).1
  refine codeAny_call_function hr.depth (KX _ _ lk) rfl S.co S.gen rfl (PySem.W.codeRec_of KX hcd) (hb _ _ _ _ ?_)
  refine wpAny_newFunctionEnv S.nocell (fun ⟨n, _⟩ hy => S.par n (List.of_mem_zip hy).1) (fun h₁ hns hsb => ⟨lim.fresh _ hsb, ?_⟩) S.kind
  show codeAny _ _ (.func F.body (envF F f s.heap.objs.size)) _ _
  refine PySem.ks_codeAny_funcAt ?_
  have kp : ∀ b o, s.heap.get? b = some o → h₁.get? b = some o := fun b o e => hsb.extBut b o (Nat.ne_of_lt (Heap.lt_size e)) (Heap.get?_push_of_some _ e)
  obtain ⟨a, vs', ta, t, hvs, ha, hta, ht, hq⟩ := hbody A outer s H vs Q E (hr.deeper _) hsp
  obtain ⟨cl, cld, csl, hcell⟩ := T.cell
  have hbc : base.get? cc = some ⟨cl, cld, .cell (some (.ref C)), csl⟩ := e0.mod.kin _ _ hcell
  have hlook : ∀ {y : Str} {c : Addr}, F.cl.lookup y = some c → y = "__class__" ∧ c = cc := fun {y c} e => by
    rw [hcl] at e
    by_cases hy : y = "__class__"
    · subst hy
      rw [show List.lookup ("__class__" : Str) [(("__class__" : Str), cc)] = some cc by simp [List.lookup]] at e
      exact ⟨rfl, (Option.some.inj e).symm⟩
    · have hb : (y == ("__class__" : Str)) = false := by simpa using hy
      rw [show List.lookup y [(("__class__" : Str), cc)] = none by simp [List.lookup, hb]] at e
      cases e
  have hlk : F.cl.lookup ("__class__" : Str) = some cc := by rw [hcl]; simp [List.lookup]
  have CA : CellsAt F.cl ["__class__"] [none] s.heap H := {
    len := rfl
    all := fun y c e => by
      obtain ⟨_, rfl⟩ := hlook e
      exact ⟨(e0.bs _ _ hbc).2, _, ⟨_, (e0.bs _ _ hbc).1, rfl⟩⟩
    inj := fun x y c e1 e2 => (hlook e1).1.trans (hlook e2).1.symm
    has := fun i y e => by
      match i, e with
      | 0, e =>
        have ey : ("__class__" : Str) = y := Option.some.inj e
        subst ey
        exact ⟨cc, hlk, fun v hv => by simp at hv⟩ }
  have I : Inv (ncx CX P w K mg base N F f A outer s H E) [] (startF N vs [none]) H { s with heap := h₁, toks := s.toks + (ps.zip us).length } := inv_startN S hr.hd e0 hl r CA hns kp
  have kI : K.In h₁ := KX.keeps kp
  have hN0 : N[0]? = some p := by
    have q := S.pre
    rw [hps] at q
    have z : (N.take ((p :: ps').length + 1))[0]? = some p := by
      have z := congrArg (fun l : List Str => l[0]?) q
      exact z
    rw [List.getElem?_take_of_lt (by simp)] at z
    exact z
  have hs0 : (startF N vs [none])[0]? = some (some (.ref a)) := by rw [hvs]; rfl
  have hploc : F.scope.names.lookup p = some .local := S.par p (by rw [hps]; exact List.mem_cons_self)
  obtain ⟨m, hnm, hlm⟩ := id I.loc
  obtain ⟨u0, ru0, hu0⟩ := hlm 0 p (.ref a) hN0 hs0 (.inl hploc)
  have eu0 : u0 = Value.ref a := ru0
  subst eu0
  have hself : m p = some (.ref a) := by
    rcases hu0 with ⟨_, z⟩ | ⟨z, _⟩
    · exact z
    · have z' : F.scope.names.lookup p = some .cell ∨ F.scope.names.lookup p = some .free := z
      rw [hploc] at z'
      rcases z' with z' | z' <;> cases z'
  obtain ⟨occ, cdd, cvs, csl2, file, tf, hcode, hvs2, hfile⟩ := T.code
  obtain ⟨cdD, hcdD⟩ := T.cd
  have hD : ∃ oD, h₁.get? C = some oD ∧ oD.data = .cls cdD := by
    have hD := hcdD
    unfold PySem.W.clsIn at hD
    split at hD
    · rename_i c d cd' sl ho
      cases hD
      exact ⟨_, kI _ _ ho, rfl⟩
    · cases hD
  obtain ⟨oD, hD1, hD2⟩ := hD
  obtain ⟨nm, q, N', bs, bm, sn, sub, ab, col, dd, k0, k1, k2, k3, k5, hC, hbm⟩ := T.T.cls
  obtain ⟨ar, har1, har2⟩ := hpar
  have hkc : F.scope.names.lookup ("__class__" : Str) = some .free := S.frk _ (by simp)
  obtain ⟨mb, hb1, hb2⟩ := I.mod.blt
  rw [hbd]
  obtain ⟨pl, he⟩ := hev s.heap.objs.size
  refine PySem.ks_wpAt_execs_cons (PySem.ks_wpAt_Expr_any (PySem.ks_wpAt_MethodCall (pl := pl) (PySem.ks_wpAt_super_base (fd := F.fd doc pm ctv) hsu hkc (by decide) rfl (kI _ _ lk) rfl har1 rfl (kI _ _ hcode) rfl hvs2 hfile T.top ?_) he) I.quiet (hsw _))
  -- the names
  refine PySem.W.ks_loadName_global S.kind hsu (Calls.loadGlobal_builtin (by exact I.mod.glob.keeps I.bk) T.zs (by exact hb1.keeps I.bk) ((hb2 _ (by decide)).trans (by decide +kernel)) ⟨rfl, ?_⟩)
  refine wpAny_loadName_free S.kind hkc hlk ⟨_, kI _ _ hcell, rfl⟩ ?_
  refine wpAny_loadName_local S.kind (by rw [har2]; exact hploc) hnm (by rw [har2]; exact hself) ?_
  refine PySem.ks_wpAny_isType_cls hD1 hD2 ⟨rfl, ?_⟩
  obtain ⟨t1, hox⟩ := exo_at I.hok ha
  refine PySem.ks_wpAny_call_super hD1 hD2 hox rfl (fun c e => by cases e) (PySem.W.looks_mroIn kI T.sub) (fun h' hso k' => ?_)
  have I2 : Inv (ncx CX P w K mg base N F f A outer s H E) [] (startF N vs [none]) H { s with heap := h', toks := s.toks + (ps.zip us).length } := I.kept (t' := s.toks + (ps.zip us).length) k'
  have kI2 : K.In h' := kI.keeps k'
  have hox2 : h'.get? a = some ({ cls := .ref C, dict := none, data := .fields #[.ref t1, .none, .none, .none, .bool false, .none] } : Obj) := k' _ _ hox
  have IA : PySem.W.InstAt h' a ({ cls := .ref C, dict := none, data := .fields #[.ref t1, .none, .none, .none, .bool false, .none] } : Obj) C none := ⟨hox2, rfl, rfl, trivial⟩
  have hal : PySem.W.alongIn K "__init__" ((cdD.mro.dropWhile (· != .ref C)).drop 1) = some (some (.builtin "ValueError.__init__")) := by
    have z := T.sup
    unfold PySem.W.ks_superIn at z
    rw [hcdD] at z
    exact z
  refine PySem.W.kxs_getMethod PySem.W.kxs_ValueError hso (PySem.W.looks_opaque kI2 T.any) (l₀ := cdD.mro) (fun A Q E s k q => wpAny_bind ((PySem.W.looks_clsIn kI2 hcdD) A _ E s k (wpAny_pure q))) rfl kI2 hal (IA.type.andThen (PySem.W.looks_subIn kI2 T.subV)) (PySem.W.ks_ne kI2 IA hcdD) (by decide) ?_
  -- the bound __init__ at u
  have ku : ∀ b o, h'.get? b = some o → (h'.push (PySem.W.kxs_mw "ValueError.__init__" a)).get? b = some o := fun b o e => Heap.get?_push_of_some _ e
  have I3 : Inv (ncx CX P w K mg base N F f A outer s H E) [] (startF N vs [none]) H { s with heap := h'.push (PySem.W.kxs_mw "ValueError.__init__" a), toks := s.toks + (ps.zip us).length + 1 } := I2.kept (t' := s.toks + (ps.zip us).length + 1) ku
  have hu : (h'.push (PySem.W.kxs_mw "ValueError.__init__" a)).get? h'.objs.size = some (PySem.W.kxs_mw "ValueError.__init__" a) := Heap.get?_push_at rfl rfl
  have I4 : Inv (ncx CX P w K mg base N F f A outer s H E) [(h'.objs.size, PySem.W.kxs_mw "ValueError.__init__" a)] (startF N vs [none]) H { s with heap := h'.push (PySem.W.kxs_mw "ValueError.__init__" a), toks := s.toks + (ps.zip us).length + 1 } := I3.pins_of fun p hp => by
    have hp1 := List.mem_singleton.mp hp
    subst hp1
    exact ⟨hu, I2.hok.fresh (Nat.le_refl _), fun z => absurd (z ▸ I2.lt) (Nat.lt_irrefl _), I2.nofs (Nat.le_refl _), fun v z => by cases z⟩
  refine callW (i := "ValueError.__init__") (x := a) (hst _) ?_
  refine thn (hta.run p3 _ _ _ H _ I4 hq) fun ws' s5 ⟨ws, H5, I5, r5, hlen, ha5, ht5⟩ => ?_
  have hu5 : s5.heap.get? h'.objs.size = some (PySem.W.kxs_mw "ValueError.__init__" a) := (I5.pin _ (List.mem_append_right _ (List.mem_singleton.mpr rfl))).1
  refine ⟨hu5, ?_⟩
  obtain ⟨t5, hox5⟩ := exo_at I5.hok ha5
  have hws : ws'.length ≤ sizeLine := by
    rw [← Paired.length r5, sizeLine_eq]
    omega
  have I6 : Inv (ncx CX P w K mg base N F f A outer s H E) [] (startF N vs [none]) H5 s5 := I5.pins_of fun p hp => absurd hp (by simp)
  obtain ⟨h5, g5, d5, k5', os5⟩ := s5
  have hC5 := I5.kIn _ _ hC
  show wpAny _ _ (call (.ref h'.objs.size) ws') _ _ _
  refine wpAny_call (codeAny_of_tree ?_)
  show wpAny _ _ (callAny (.ref h'.objs.size) ⟨ws', []⟩) _ _ _
  simp only [callAny]
  refine wpAny_bind (wpAny_load hu5 ?_)
  simp only [PySem.W.kxs_mw, show (Value.type "method-wrapper" == Value.type "method" || Value.type "method-wrapper" == Value.type "builtin_function_or_method" || Value.type "method-wrapper" == Value.type "method-wrapper") = true by decide, if_true]
  refine PySem.W.KFB.if_so (by decide) ?_
  refine wpAny_bind (PySem.W.check_bound_init PySem.F.excBase_ValueError.toExcCallFacts hC5 hox5 rfl ?_)
  refine wpAny_bind (wpAny_pure (wpAny_pure ?_))
  refine ⟨plainId_quiet PySem.F.excBase_ValueError.init.plain _, codeAny_builtin PySem.F.excBase_ValueError.initEntry ?_⟩
  refine PySem.W.exc_init_tree (cls := .ref C) (t0 := t5) (dv := none) (c2 := .none) (c3 := .none) (b4 := .bool false) hox5 hws (fun h6 k6 e6 _ => ?_)
  have J := I6.write (t' := k5') (x := a) (e := a) (o := exo a C none) (by rw [ha5]; exact True.intro) (.inl rfl) k6 ⟨_, e6⟩ (exo_ok e6)
  have eu : upd H5 a (exo a C none) = H5 := by
    funext b
    by_cases hb : b = a
    · rw [hb, upd_same, ha5]
    · rw [upd_ne hb]
  rw [eu] at J
  refine PySem.wpAt_of_wpAny (wpAny_mono (ht.run [] _ (startF N vs [none]) H5 _ J ht5) (fun fl s' hs => ?_) fun e s' hs => hs)
  have fin : ∀ {σ' : L2.St} {H' : Hp} {v : V} {u : Value}, Inv (ncx CX P w K mg base N F f A outer s H E) [] σ' H' s' → L2.RelV v u → Q v H' → CE outer P w H s Q u s' :=
    fun {σ' H' v u} J rv q => ⟨v, H', J.os, J.bare, J.base, J.hok, rv, q⟩
  cases fl with
  | ret u =>
    obtain ⟨v, σ', H', J, rv, q⟩ := hs
    exact fin J rv q
  | next =>
    obtain ⟨σ', H', J, q⟩ := hs
    exact fin (v := V.non) (u := Value.none) J rfl q
  | brk =>
    obtain ⟨_, _, _, q⟩ := hs
    exact False.elim q
  | cont =>
    obtain ⟨_, _, _, q⟩ := hs
    exact False.elim q
end
/-! ### an exception without fields, made -/
section
variable {X : Cx}
theorem mk_endN {pins : List (Addr × Obj)} {σ : L2.St} {H1 H2 : Hp} {Q : XK} {hp hp2 h2 : Heap} {g1 g2 : Array GenState} {d1 d2 : Drawn} {t1 t2 : Nat} {os1 os2 : OsState} {a C : Addr} (T : Raises X (.ref C)) (I1 : Inv X pins σ H1 ⟨hp, g1, d1, t1, os1⟩)
    (ha : hp.objs.size ≤ a) (k : ∀ b o, hp.get? b = some o → hp2.get? b = some o) (un : Un (frs X.stack) [] (upd H1 a (exo a C none)) H2 hp2 h2) (hok : HOk X.prog X.w H2 h2) (ho : os2 = os1) (hb : AllBare g2)
    (ea : H2 a = some (exo a C none)) (q : Q (.ref C) none (del H2 a)) : MkP X pins σ Q (.ref a) ⟨h2, g2, d2, t2, os2⟩ := by
  obtain ⟨t0, hoe⟩ := exo_at hok ea
  have hn : H1 a = none := I1.hok.fresh ha
  obtain ⟨G, g1', g2'⟩ := restrict h2 fun b => decide (b ≠ a)
  have gk : ∀ b, b ≠ a → G.get? b = h2.get? b := fun b hb => g1' b (decide_eq_true hb)
  have ge : G.get? a = none := g2' a (by simp)
  have nha : ∀ {b : Addr} {o : Obj}, hp.get? b = some o → b ≠ a := fun {b o} z => Nat.ne_of_lt (Nat.lt_of_lt_of_le (Heap.lt_size z) ha)
  have up : ∀ {b : Addr}, b ≠ a → H1 b = none → upd H1 a (exo a C none) b = none := fun {b} hb n => by rw [upd_ne hb]; exact n
  have U : Un (frs X.stack) [] H1 (del H2 a) hp G := {
    keep := fun b o z n hf hx => by
      rw [gk b (nha z)]
      exact un.keep b o (k b o z) (up (nha z) n) hf hx
    slot := fun b o z n hf hx => by
      rw [gk b (nha z)]
      exact un.slot b o (k b o z) (up (nha z) n) hf hx
    free := fun b o z n hx => by
      rw [del_ne (nha z)]
      exact un.free b o (k b o z) (up (nha z) n) hx
    there := fun b o z hx => by
      rw [gk b (nha z)]
      exact un.there b o (k b o z) hx
    tups := fun b xs z => by
      rw [del_ne (ne_of_none z hn)]
      exact un.tups b xs (by rw [upd_ne (ne_of_none z hn)]; exact z)
    frzs := fun b o v z => by
      rw [del_ne (ne_of_none z hn)]
      exact un.frzs b o v (by rw [upd_ne (ne_of_none z hn)]; exact z)
    tbls := fun b ps z => by
      rw [del_ne (ne_of_none z hn)]
      exact un.tbls b ps (by rw [upd_ne (ne_of_none z hn)]; exact z) }
  have hok3 : HOk X.prog X.w (del H2 a) G := fun b o z => by
    have hba : b ≠ a := fun e => by
      rw [e, del_same] at z
      cases z
    rw [del_ne hba] at z
    have noa : ∀ {c : Addr}, H2 c = some (.own b) → c ≠ a := fun {c} hc => at_ne ea hc exo_own
    exact (hok b o z).stay (fun c v hc y => by
        have hca : c ≠ a := by
          rcases hc with hc | hc
          · rw [hc]
            exact hba
          · exact noa hc
        rw [gk c hca]
        exact y)
      (fun c hc => by rw [del_ne (noa hc)]; exact hc) (fun c xs hc => by rw [del_ne (at_ne ea hc exo_tup)]; exact hc)
  have J : Inv X pins σ (del H2 a) ⟨G, g2, d2, t2, os2⟩ := I1.call' (ch := []) ho U hok3 hb (fun b z => absurd z (by simp))
  refine ⟨a, _, _, ⟨G, g2, d2, t2, os2⟩, _, .ref C, none, rfl, J, fun b o z => ?_, ge, hoe, ⟨rfl, rfl⟩, rfl, rfl, del_same, rfl, hb, T, q⟩
  by_cases hba : b = a
  · rw [hba, ge] at z
    cases z
  · exact (gk b hba).symm.trans z
/-- C(), C's own __init__ keeping sp and making no field -/
def tMkN (C : Addr) (sp : Sp) : L2.St → Hp → XK → Prop := fun _ H Q => ∀ a, H a = none → sp [.ref a] (upd H a (exo a C none)) (fun v H2 => v = .non ∧ H2 a = some (exo a C none) ∧ Q (.ref C) none (del H2 a)) (fun _ _ _ => False)
theorem pmk_oexN {CX : CXT} {x : Str} {C fI : Addr} {k : Nat} {fd : FuncData} {ps : List Str} {sp : Sp} {p pos : Pos} (T : OexC X.K C) (iC : PySem.W.findIn X.K (.ref C) "__init__" = some (some (.ref fI))) (tI : PySem.W.typeIn X.K (.ref fI) = some (.type "function"))
    (F1 : FnOk X.prog X.w X.K X.mg X.base CX k fI fd ps sp) (hr : Room (k + 1) X.A) (hb : Binds X.K fd ps []) (hx : Passes CX X (fun _ _ _ => False)) (hg : Gl X x) (hm : X.mg x = some (.ref C))
    (hdb : (x == ("__debug__" : Str)) = false := by decide) : PMk X (.Call (.Name x p) [] [] pos) (tMkN C sp) := by
  intro pins s σ H1 Q I1 q1
  obtain ⟨nm, q, N, bs, bm, sn, sub, ab, col, dd, k0, k1, k2, k3, k5, hC, hbm⟩ := T.cls
  refine wpAny_Call_Name_kw (ld_glob I1 hg hm ?_ hdb)
  refine PySem.W.callWith_K0 I1.kIn T.kC ?_
  show wpAny _ _ (call (.ref C) []) _ _ _
  obtain ⟨hp, g, dr, tk, os⟩ := s
  have hsz : hp.objs.size ≤ hp.objs.size + 1 := Nat.le_succ _
  have hn : H1 (hp.objs.size + 1) = none := I1.hok.fresh hsz
  have hq := q1 (hp.objs.size + 1) hn
  have kk : ∀ b o, hp.get? b = some o → ((hp.push (PySem.W.kdv_tup [])).push (PySem.HandSPX.excO C hp.objs.size)).get? b = some o := fun b o e => Heap.get?_push_of_some _ (Heap.get?_push_of_some _ e)
  have hget : ((hp.push (PySem.W.kdv_tup [])).push (PySem.HandSPX.excO C hp.objs.size)).get? (hp.objs.size + 1) = some (PySem.HandSPX.excO C hp.objs.size) := by heap_get
  have I2 : Inv X pins σ (upd H1 (hp.objs.size + 1) (exo (hp.objs.size + 1) C none)) ⟨(hp.push (PySem.W.kdv_tup [])).push (PySem.HandSPX.excO C hp.objs.size), g, dr, tk, os⟩ :=
    I1.laid (t' := tk) (a := hp.objs.size + 1) (o := exo (hp.objs.size + 1) C none) (h' := (hp.push (PySem.W.kdv_tup [])).push (PySem.HandSPX.excO C hp.objs.size)) kk hsz (exo_ok hget)
  have r2 : Vals [V.ref (hp.objs.size + 1)] [Value.ref (hp.objs.size + 1)] := .cons rfl .nil
  have hl : ([Value.ref (hp.objs.size + 1)] ++ []).length = ps.length := by
    have e := r2.length
    rw [F1.len _ _ _ _ hq] at e
    exact e.symm
  refine wpAny_call (PySem.HandSPX.call_own PySem.F.excBase_ValueError (fun Y => PySem.HandSPX.refsVE_contains Y bm hbm) (I1.kIn _ _ hC) (PySem.W.looks_findIn I1.kIn iC) (fun self => PySem.W.bind_fn I1.kIn self tI) (Nat.zero_le _)
    (codeAny_mono (F1.run _ X.stack _ _ ⟨[Value.ref (hp.objs.size + 1)], []⟩ [Value.ref (hp.objs.size + 1)] _ _ (fun _ _ _ => False) (hr.make C [] []) (I2.env0.make C [] []) (hb _ [Value.ref (hp.objs.size + 1)] I2.kIn hl) r2 hq) fun r s' hq' => ?_))
  cases r with
  | error er => exact hx pins σ _ _ er s' I2 hq'
  | ok fl =>
    cases fl with
    | ret u =>
      obtain ⟨v, H2, os2, bare2, un2, hok2, rv, ev, ea, q2⟩ := hq'
      subst ev
      obtain ⟨h2, g2, d2, t2, os'⟩ := s'
      exact ⟨rv, mk_endN (raises_own T.exC T.tyC) I1 hsz kk un2 hok2 os2 bare2 ea q2⟩
    | next => exact False.elim hq'
    | brk => exact False.elim hq'
    | cont => exact False.elim hq'
end
/-! ### a call of a local name that holds a def, which may raise -/
section
variable {X : Cx} {CX : CXT} {k i : Nat} {f : Addr} {fd : FuncData} {ps : List Str} {sp : Sp} {E : L2.St → XK} {x : Str} {p pos : Pos} {e : Expr} {es : List Expr} {t : TA}
def tCallLS (i : Nat) (f : Addr) (sp : Sp) (E : L2.St → XK) (t : TA) : TE := fun σ H Q => σ[i]? = some (some (.ref f)) ∧ t σ H fun vs H1 => sp vs H1 Q (E σ)
theorem pe_callLS (F : FnOk X.prog X.w X.K X.mg X.base CX k f fd ps sp) (hr : Room k X.A) (hN : X.N[i]? = some x) (hv : Vis X.env.scope x) (hk : PySem.W.keepIn X.K (.ref f) = true) (hb : Binds X.K fd ps []) (hx : ∀ σ, PassesAt CX X σ (E σ)) (ha : PA X (e :: es) t)
    (hdb : (x == ("__debug__" : Str)) = false := by decide) (hcd : (x == ("__classdict__" : Str)) = false := by decide)
    (he : starEach (e :: es) X.env = (false, eval e X.env) :: starEach es X.env := by rfl) (hpl : (backTo pos (starEach es X.env)).any (·.1) = false := by rfl) : PE X (.Call (.Name x p) (e :: es) [] pos) (tCallLS i f sp E t) := by
  refine ⟨fun pins s σ H Q I h => ?_⟩
  obtain ⟨hs, ht⟩ := h
  refine wpAny_Call_Name_kw (thn ((pe_var (pos := p) hN hv hdb hcd).run pins s σ H (fun v H1 => v = .ref f ∧ H1 = H) I ⟨.ref f, hs, rfl, rfl⟩) fun u s1 ⟨v, H1, I1, r1, q1⟩ => ?_)
  obtain ⟨rfl, rfl⟩ := q1
  cases r1
  refine PySem.W.callWith_K (h₀ := X.base) I.ok.mod.kin hk (thn (ha.run pos pins s1 σ _ _ I1 ht) fun us s2 ⟨vs, H2, I2, r, q⟩ => ⟨I2.kIn, ?_⟩) he hpl
  exact run_fnS F hr hb (hx σ) I2 r q
end
/-! ### isinstance of a caught error of an own class without fields -/
def rIsX (K : PySem.W.Frag) (a : Addr) (cls : Value) (d : Option Addr) : List V → Hp → VK → Prop := fun xs H Q => ∃ (D : Addr) (c : V) (cv : Value) (b : Bool), cls = .ref D ∧ d = none ∧ ExcC K D ∧ xs = [.ref a, c] ∧ (∀ u, L2.RelV c u → u = cv) ∧ PySem.W.kitOne K (.ref D) cv = some b ∧ Q (.bl b) H
theorem call_isX {X : Cx} {a : Addr} {oe : Obj} {cls : Value} {d : Option Addr} {pn : List (Addr × Obj)} (hz : Zc cls d oe) (hf : ∃ vs, oe.data = .fields vs) : CallR (X.suite a ((a, oe) :: pn)) (.builtin "isinstance") (rIsX X.K a cls d) := by
  intro pins s σ H xs us Q I r h
  obtain ⟨D, c, cv, b, rfl, rfl, C, rfl, hc, e, q⟩ := h
  exact call_isE C hz hf pins s σ H [.ref a, c] us Q I r ⟨c, cv, b, rfl, hc, e, q⟩
/-! ### what a law's text says of an own exception -/
/-- ExcT C f c cc: the class at C over SamphireError .. over ValueError, with its own __init__ at f -/
structure ExcT (P : Program) (K : PySem.W.Frag) (mg : Str → Option Value) (name : Str) (C f c cc : Addr) : Prop where
  S : SupC P K mg C f c cc
  g : mg name = some (.ref C)
  iC : PySem.W.findIn K (.ref C) "__init__" = some (some (.ref f))
  tI : PySem.W.typeIn K (.ref f) = some (.type "function")
  is : ExcC K C
  te : PySem.W.exmOne K (.ref C) (.ref C) = some true
theorem ExcT.xf {P : Program} {K : PySem.W.Frag} {mg : Str → Option Value} {name : Str} {C f c cc : Addr} (T : ExcT P K mg name C f c cc) : XfC K C := ⟨T.is.hg, T.is.hk, T.is.hs, T.is.hd⟩
/-- the file that a code object tells -/
def flIs (cvs : List Value) (f : Str) : Bool := match cvs with | _ :: _ :: .str file _ :: _ => f == file | _ => false
/-- what k_is finds, put together -/
theorem excT_mk {P : Program} {K : PySem.W.Frag} {mg : Str → Option Value} {name : Str} {C f c cc : Addr} {nm q : Str} {N : Addr} {bs bm : List Value} {sn : List Str} {sub : List Value} {ab : Bool} {col : Option Bool} {dd : Option Addr} {m0 m1 m2 m3 m5 : Option Value}
    {occ : Value} {cdd : Option Addr} {cvs : List Value} {csl : Array (Option Value)} {ccl : Value} {ccd : Option Addr} {ccs : Array (Option Value)}
    (xL : K.lookup C = some (excClassObj nm q C N bs bm true sn sub ab col dd m0 m1 m2 m3 m5 "ValueError.__new__")) (rv : PySem.HandSPX.refsVE bm = true)
    (sa : PySem.W.findIn K (.ref C) "__setattr__" = some (some (.builtin "object.__setattr__"))) (sB : PySem.W.subIn K (.ref C) (.type "BaseException") = some true) (tC : PySem.W.typeIn K (.ref C) = some (.type "type")) (kC : PySem.W.keepIn K (.ref C) = true)
    (code : K.lookup c = some ⟨occ, cdd, .fields cvs.toArray, csl⟩) (hfile : flIs cvs P.main.file = true)
    (cell : K.lookup cc = some ⟨ccl, ccd, .cell (some (.ref C)), ccs⟩) (mro : PySem.W.mroIn K C (.ref C) = some true) (sV : PySem.W.subIn K (.ref C) (.type "ValueError") = some true) (zs : mg "super" = none)
    (any : PySem.W.nsIn K PySem.cStatics "thirdparty.any" = some none) (sup : PySem.W.ks_superIn K C C "__init__" = some (some (.builtin "ValueError.__init__"))) (top : (P.main.scope.names.lookup ("super" : Str)).isSome = false)
    (g : mg name = some (.ref C)) (iC : PySem.W.findIn K (.ref C) "__init__" = some (some (.ref f))) (tI : PySem.W.typeIn K (.ref f) = some (.type "function")) (is : ExcC K C) (isc : PySem.W.isClsIn K C = true) (sC : PySem.W.subIn K (.ref C) (.ref C) = some true) : ExcT P K mg name C f c cc where
  S := {
    T := ⟨⟨nm, q, N, bs, bm, sn, sub, ab, col, dd, m0, m1, m2, m3, m5, xL, rv⟩, sa, sB, tC, kC⟩
    cd := ⟨_, by unfold PySem.W.clsIn; rw [xL] <;> rfl⟩
    code := by
      match cvs, code, hfile with
      | a :: b :: .str file tf :: r, code, hfile => exact ⟨_, _, _, _, file, tf, code, rfl, hfile⟩
    cell := ⟨_, _, _, cell⟩
    sub := mro
    subV := sV
    zs := zs
    any := any
    sup := sup
    top := top }
  g := g
  iC := iC
  tI := tI
  is := is
  te := PySem.W.exm_ref sB is.hd tC sC
end Sup

/-! ### list(reversed(a list)) -/
namespace RL
open PySem PySem.Spec PyProof.Rows RT L2
section
variable {prog : Program} {w : World} {A : Around} {E : Value → Shared → Prop} {s : Shared}
theorem extend_rev {R : Result → Shared → Prop} {S it l : Addr} {items : Array Value} {res : Value} {c₀ : Nat} (hh : A.handled = none) (hit : s.heap.IsRevIter it l ((items.size : Int) - 1)) (hl : s.heap.IsList l items) (hne : l ≠ it) (hSi : S ≠ it) (hSl : S ≠ l) (hn : items.size ≤ sizeLine)
    (hS : s.heap.get? S = some { cls := .type "list", data := .seq #[] c₀ })
    (hR : ∀ s' acc' c', Moved (S :: [it]) (fun a b => b = a) s s' → s'.heap.get? S = some { cls := .type "list", dict := none, data := .seq acc' c', slots := #[] } → ItemsOf (fun i v => items[items.size - 1 - i]? = some v) acc' items.size → R (.ok (.ret res)) s') :
    wpAny (model prog w) A.in1 (Builtin.List.listExtendWith (.ref S) (.ref it) res)
      (fun fin s' => match fin with | .done f => R (.ok f) s' | .again c' => c'.quiet = true ∧ codeAny (model prog w) A c' R s') (fun e s' => R (.error e) s') s := by
  have W := (Walks.listRev (prog := prog) (w := w) (A := A.in1) hh it l hne items).toS
  have hSf : S ∉ [it, l] := by simp only [List.mem_cons, List.not_mem_nil, or_false, not_or]; exact ⟨hSi, hSl⟩
  have hT : s.TypeIs (.ref it) "list_reverseiterator" := Heap.IsRevIter.typeIs hit
  have h1 : Builtin.List.listSameRef (.ref S) (.ref it) = false := by simp [Builtin.List.listSameRef, hSi]
  unfold Builtin.List.listExtendWith
  refine wpAny_bind (wpAny_typeOf hT ?_)
  rw [if_neg (by rw [h1]; decide)]
  refine wpAny_bind (wpAny_pyIter_revIter hit ?_)
  refine wpAny_bind (wpAny_holding ?_)
  unfold Builtin.List.listLengthHint
  refine wpAny_bind (wpAny_specialOf hT nolen_lri ?_)
  show wpAny _ A.in1 (specialOf (Value.ref it) (Str.ofString "__length_hint__") >>= _) _ _ _
  refine wpAny_bind (wpAny_specialOf hT hint_lri ?_)
  generalize hid : ("list_reverseiterator.__length_hint__" : String) = id0
  wp_delta
  rw [show splitId id0 = some ("list_reverseiterator", "__length_hint__") from by subst hid; decide +kernel]
  subst hid
  refine wpAny_bind (wpAny_isInstance (b := true) hT (by rw [isSubtype_type]; kernel_rfl) ?_)
  refine wpAny_pure ?_
  rw [if_neg (by decide)]
  have e0 : ((items.size : Nat) : Int) - 1 - ((0 : Nat) : Int) = (items.size : Int) - 1 := by omega
  refine wpAny_pure ⟨plainId_quiet F.plain_extend_loop _, codeAny_extend_loopS W hn _ hSf _ items.size 0 _ _ _ rfl (Nat.zero_le _) ⟨Nat.zero_le _, by rw [e0]; exact hit, hl⟩ hS (ItemsOf.nil _) fun s' acc' c' hm hS' hacc => ?_⟩
  exact hR s' acc' c' hm hS' hacc
theorem init_rev {R : Result → Shared → Prop} {S it l : Addr} {items : Array Value} (hh : A.handled = none) (hit : s.heap.IsRevIter it l ((items.size : Int) - 1)) (hl : s.heap.IsList l items) (hne : l ≠ it) (hSi : S ≠ it) (hSl : S ≠ l) (hn : items.size ≤ sizeLine)
    (hS : s.heap.get? S = some { cls := .type "list", data := .seq #[] })
    (hR : ∀ (h' : Heap) (tk : Nat) (acc : Array Value) (c' : Nat), (∀ b o, b ≠ S → b ≠ it → s.heap.get? b = some o → h'.get? b = some o) → h'.get? S = some { cls := .type "list", dict := none, data := .seq acc c', slots := #[] } → ItemsOf (fun i v => items[items.size - 1 - i]? = some v) acc items.size → R (.ok (.ret .none)) { s with heap := h', toks := tk }) :
    wpAny (model prog w) A.in1 (Builtin.«list.__init__» ⟨[.ref S, .ref it], []⟩)
      (fun fin s' => match fin with | .done f => R (.ok f) s' | .again c' => c'.quiet = true ∧ codeAny (model prog w) A c' R s') (fun e s' => R (.error e) s') s := by
  show wpAny _ A.in1 (do let old ← Builtin.List.listItems (.ref S); Builtin.List.listUpdate (.ref S) (fun _ => #[]); letGo old.toList.reverse; Builtin.List.listExtendWith (.ref S) (.ref it) .none) _ _ s
  refine wpAny_bind ?_
  unfold Builtin.List.listItems
  refine wpAny_bind (wpAny_seqItems hS rfl (wpAny_pure ?_))
  show wpAny _ A.in1 (updateSeq S (fun _ => #[]) >>= fun _ => letGo (#[] : Array Value).toList.reverse >>= fun _ => Builtin.List.listExtendWith (.ref S) (.ref it) .none) _ _ s
  refine wpAny_bind (wpAny_updateSeq hS rfl ?_)
  have hS₂ := Heap.get?_update_self (Obj.mapSeq (fun _ => (#[] : Array Value))) hS rfl
  have oth : ∀ b o, b ≠ S → s.heap.get? b = some o → (s.heap.update S (Obj.mapSeq (fun _ => (#[] : Array Value)))).get? b = some o :=
    fun b o hb e => (Heap.get?_update_other _ _ (Ne.symm hb)).trans e
  refine wpAny_bind (wpAny_letGo ?_)
  refine extend_rev (s := { s with heap := s.heap.update S (Obj.mapSeq (fun _ => (#[] : Array Value))) }) hh (hit.at fun o e => oth it o hSi.symm e) (by obtain ⟨o, ho, x⟩ := hl; exact ⟨o, oth l o hSl.symm ho, x⟩) hne hSi hSl hn hS₂ fun s' acc' c' hm hS' hacc => ?_
  rw [Moved.eq_with hm]
  exact hR s'.heap s'.toks acc' c' (fun b o hb hb2 e => hm.heap b o (by simp [hb, hb2]) (oth b o hb e)) hS' hacc
theorem call_list_rev {it l : Addr} {items : Array Value} {Q : Value → Shared → Prop} (hh : A.handled = none) (hit : s.heap.IsRevIter it l ((items.size : Int) - 1)) (hl : s.heap.IsList l items) (hne : l ≠ it) (hn : items.size ≤ sizeLine)
    (hQ : ∀ (h' : Heap) (tk : Nat) (acc : Array Value) (c' : Nat), (∀ b o, b ≠ it → s.heap.get? b = some o → h'.get? b = some o) → h'.get? s.heap.objs.size = some { cls := .type "list", dict := none, data := .seq acc c', slots := #[] } → ItemsOf (fun i v => items[items.size - 1 - i]? = some v) acc items.size → Q (.ref s.heap.objs.size) { s with heap := h', toks := tk }) :
    wpAny (model prog w) A (call (.type "list") [.ref it]) Q E s := by
  refine callType_codes (Q₁ := fun obj s₁ => obj = .ref s.heap.objs.size ∧ s₁ = { s with heap := s.heap.push { cls := .type "list", data := .seq #[] } }) F.called_list (F.typeCall_list_1 _) F.entry_list_init
    (code_list_new _ ⟨rfl, rfl⟩) fun obj s₁ h₁ => ?_
  obtain ⟨rfl, rfl⟩ := h₁
  have hS : (s.heap.push { cls := .type "list", data := .seq #[] }).get? s.heap.objs.size = some { cls := .type "list", data := .seq #[] } := Heap.get?_push_size _ rfl
  obtain ⟨oi, hoi, _⟩ := id hit
  obtain ⟨ol, hol, _⟩ := id hl
  refine ⟨⟨_, hS, rfl⟩, F.args_list_init_2 _ _, init_rev (A := A.in1) (s := { s with heap := s.heap.push { cls := .type "list", data := .seq #[] } }) hh (hit.at fun o e => Heap.get?_push_of_some _ e) (hl.push _) hne (Nat.ne_of_gt (Heap.lt_size hoi)) (Nat.ne_of_gt (Heap.lt_size hol)) hn hS fun h' tk acc c' hk hS' hacc => ?_⟩
  exact ⟨rfl, hQ h' tk acc c' (fun b o hb e => hk b o (Nat.ne_of_lt (Heap.lt_size e)) hb (Heap.get?_push_of_some _ e)) hS' hacc⟩
end
section
variable {X : Cx}
/-- list(reversed(xs)): a new list -/
def tListRev (K : PySem.W.Frag) (te : TE) : TE := fun σ H Q => te σ H fun x H1 => ∃ a xs, x = .ref a ∧ SqL K H1 a xs ∧ ∀ p, H1 p = none → Q (.ref p) (upd H1 p (.lst xs.reverse))
theorem pe_listRev {e : Expr} {te : TE} {p p2 pos pos2 : Pos} (hc : X.calm = true) (hg : Gl X "list") (hm : X.mg "list" = none) (hg2 : Gl X "reversed") (hm2 : X.mg "reversed" = none) (he : PE X e te)
    (hs : starEach [e] X.env = (false, eval e X.env) :: starEach [] X.env := by rfl)
    (hs2 : starEach [.Call (.Name "reversed" p2) [e] [] pos2] X.env = (false, eval (.Call (.Name "reversed" p2) [e] [] pos2) X.env) :: starEach [] X.env := by rfl) :
    PE X (.Call (.Name "list" p) [.Call (.Name "reversed" p2) [e] [] pos2] [] pos) (tListRev X.K te) := by
  refine ⟨fun pins s σ H Q I h => ?_⟩
  refine Call_ (ld_blt I hg hm boot_list (PyProof.Rows.callWith_type1 (args_cons (Call_ (ld_blt I hg2 hm2 PyProof.Rows.boot_reversed (PyProof.Rows.callWith_type1 (args_cons (thn (he.run pins s σ H _ I h) fun u s1 ⟨v, H1, I1, r1, q1⟩ => args_nil ?_) hs) hs rfl))) hs2) hs2 rfl))
  obtain ⟨a, xs, ev, hq, q⟩ := q1
  subst ev
  obtain rfl : u = Value.ref a := r1
  obtain ⟨its, rv, p', hz⟩ := I1.list hq
  refine call_reversed_list p'.isList (args_nil ?_)
  have k0 : ∀ b o, s1.heap.get? b = some o → (s1.heap.push (revObj a ((its.toArray.size : Int) - 1))).get? b = some o := fun b o e => Heap.get?_push_of_some _ e
  have hl := p'.isList
  obtain ⟨ol, hol, _⟩ := id hl
  have hne : a ≠ s1.heap.objs.size := Nat.ne_of_lt (Heap.lt_size hol)
  have hn : its.toArray.size ≤ sizeLine := by rw [List.size_toArray, ← rv.length]; exact hz
  refine call_list_rev (s := { s1 with heap := s1.heap.push (revObj a ((its.toArray.size : Int) - 1)) }) (I1.ok.hd hc) ⟨_, Heap.get?_push_size _ rfl, rfl, rfl⟩ (hl.push _) hne hn fun h' tk acc c' hk hS' hi => ?_
  have hle : s1.heap.objs.size ≤ (s1.heap.push (revObj a ((its.toArray.size : Int) - 1))).objs.size := by simp [Heap.push]
  have ea : acc.toList.toArray = acc := by simp
  exact ⟨.ref (s1.heap.push (revObj a ((its.toArray.size : Int) - 1))).objs.size, upd H1 (s1.heap.push (revObj a ((its.toArray.size : Int) - 1))).objs.size (.lst xs.reverse), I1.laid (t' := tk) (fun c o e => hk c o (Nat.ne_of_lt (Heap.lt_size e)) (k0 c o e)) hle (show ObjOk X.prog X.w _ _ _ (.lst xs.reverse) from ⟨by rw [List.length_reverse]; exact hz, acc.toList, c', vals_rev rv hi, by rw [ea]; exact hS'⟩), rfl, q _ (I1.hok.fresh hle)⟩
end
end RL
/-! ### xs.extend(a tuple) -/
namespace RL
open PySem PySem.Spec PyProof.Rows RT L2
theorem meets_extend_tup (l : Addr) (items : Array Value) (n : Nat) (b : Addr) (items2 : Array Value) (n2 : Nat) (o : Obj) (hc : o.cls = .type "tuple") (hd : o.data = .seq items2 n2) (hs1 : items.size + items2.size ≤ sizeLine) :
    Meets (Builtin.«list.extend» ⟨[.ref l, .ref b], []⟩) (fun _ R s => s.heap.get? l = some { cls := .type "list", dict := none, data := .seq items n, slots := #[] } ∧ s.heap.get? b = some o ∧ R (.ok (.ret Value.none)) { s with heap := s.heap.update l (Obj.mapSeq fun x => x ++ items2), toks := s.toks }) :=
  .of_wp fun prog w A R s h => by
    obtain ⟨hl, hb, h⟩ := h
    show wpAny _ _ (Builtin.List.listExtendWith (.ref l) (.ref b) .none) _ _ _
    unfold Builtin.List.listExtendWith
    refine wpAny_bind (wpAny_typeOf ⟨o, hb, hc⟩ ?_)
    have h1 : (Builtin.List.listSameRef (.ref l) (.ref b) || Value.type "tuple" == Value.type "list" || Value.type "tuple" == Value.type "tuple") = true := by simp
    simp only [h1, if_true]
    refine wpAny_bind ?_
    unfold Builtin.List.listItems
    refine wpAny_bind (wpAny_seqItems hb hd (wpAny_pure ?_))
    refine wpAny_bind ?_
    refine wpAny_bind (wpAny_seqItems hl rfl (wpAny_pure ?_))
    have hlong : ¬ (!items.isEmpty && Builtin.List.listTooLong (items.size + items2.size)) = true := by
      rw [notLongL hs1, Bool.and_false]
      exact Bool.false_ne_true
    rw [if_neg hlong]
    show wpAny _ _ (updateSeq l (· ++ items2) >>= fun _ => ret .none) _ _ s
    refine wpAny_bind (wpAny_updateSeq hl rfl (hz := by omega) (_hz' := by rw [Array.size_append]; omega) ?_)
    exact wpAny_pure ⟨_, rfl, h⟩
section
variable {X : Cx}
def rExtT : V → List V → Hp → VK → Prop := fun x vs H Q => ∃ l b xs zs, x = .ref l ∧ vs = [.ref b] ∧ H l = some (.lst xs) ∧ H b = some (.tup zs) ∧ xs.length + zs.length ≤ sizeLine ∧ Q .non (upd H l (.lst (xs ++ zs)))
theorem mt_extendT : MtM X "list.extend" rExtT := by
  intro pins s σ H x vs v us Q I rx rv h
  obtain ⟨l, b, xs, zs, rfl, rfl, hH, hB, hz, q⟩ := h
  cases rx
  obtain ⟨u, rfl, ru⟩ := rv.one
  cases ru
  obtain ⟨z, its, n, r, hl, e⟩ := I.lstM hH
  obtain ⟨its2, r2, ⟨o, ho, hc, n2, hd⟩, hz2⟩ := I.tuple (SqT.of hB)
  have hl2 := r2.length
  refine call_meets PySem.F.slot_list_extend ⟨_, e, rfl⟩ PySem.F.entry_list_extend (PySem.F.args_list_extend_2 _ _)
    (meets_extend_tup l its.toArray n b its2.toArray n2 o hc hd (by rw [List.size_toArray, List.size_toArray]; omega)) ⟨e, ho, ?_⟩
  refine ⟨.non, _, I.lset (its' := its ++ its2) hH e (by simp) (r.append r2) ?_, rfl, q⟩
  rw [List.length_append]
  omega
end
end RL
/-! ### enumerate(a list, start=k) -/
namespace RL
open PySem PySem.Spec PyProof.Rows L2
section
variable {M : Model} {A : Around} {E : Value → Shared → Prop} {s : Shared} {env : Env}
theorem callWith_type_kwB {pos : Pos} {T : String} {first : List Value} {args : List (Bool × Sem Value)} {keywords : List (Option Str × Sem Value)} {Q : Value → Shared → Prop}
    (hplain : args.any (·.1) = false) (hkw : keywords.any (·.1.isNone) = false)
    (h : wpAny M A (evalArgs (.type T) true args keywords) (fun a s₁ => wpAny M A (call (.type T) (first ++ a.pos) a.kw) Q E s₁) E s) :
    wpAny M A (callWith pos (.type T) first args keywords) Q E s := by
  unfold callWith
  refine wpAny_bind (wpAny_holding (wpAny_mono h (fun a s₁ h₁ => wpAny_bind (wpAny_standAt ?_)) fun _ _ x => x))
  simp only [hplain, hkw, Bool.or_false]
  refine wpAny_bind (wpAny_pure ?_)
  exact wpAny_bind (wpAny_mono h₁ (fun r s₂ hr => wpAny_bind (wpAny_holding (wpAny_point (wpAny_pure hr)))) fun _ _ x => x)
theorem callWith_type_kw {pos : Pos} {T : String} {e : Expr} {rest : List Expr} {kws : List Keyword} {Q : Value → Shared → Prop}
    (h : wpAny M A (spliced (backTo pos (starEach (e :: rest) env))) (fun vs s₁ => wpAny M A (evalAll ((backToKw pos (keywordEach kws env)).map (·.2)))
      (fun kvs s₂ => wpAny M A (call (.type T) vs (((backToKw pos (keywordEach kws env)).filterMap (·.1)).zip kvs)) Q E s₂) E s₁) E s)
    (he : backTo pos (starEach (e :: rest) env) = (false, eval e env) :: backTo pos (starEach rest env))
    (hplain : (backTo pos (starEach (e :: rest) env)).any (·.1) = false)
    (hall : (backToKw pos (keywordEach kws env)).all (·.1.isSome) = true)
    (hkw : (backToKw pos (keywordEach kws env)).any (·.1.isNone) = false) :
    wpAny M A (callWith pos (.type T) [] (backTo pos (starEach (e :: rest) env)) (backToKw pos (keywordEach kws env))) Q E s := by
  refine callWith_type_kwB hplain hkw ?_
  rw [he] at h ⊢
  exact evalArgs_kwB hall h
end
/-- the list at a as it stands at each turn, each item in a new pair, counted from k -/
def IteS (K : PySem.W.Frag) (a : Addr) (k : Int) : It :=
  ⟨fun i H => ∃ (xs : List V) (x : V), SqL K H a xs ∧ xs[i]? = some x, fun i H v H' => ∃ T x, v = .ref T ∧ H T = none ∧ H' = upd H T (.tup [.int (k + (i : Nat)), x]) ∧ ∀ xs, SqL K H a xs → xs[i]? = some x, fun i H => ∃ xs : List V, SqL K H a xs ∧ xs.length = i⟩
theorem turn_enumS {P : Program} {w : World} {K : PySem.W.Frag} {elts : List Expr} {kk : Nat} {tpos : Pos} (a e it : Addr) (k : Int) :
    Turn P w K (.Tuple elts kk tpos) (IteS K a k) [e, it] e (fun i h => (∃ old, IsEnum h e it (k + ((i : Nat) : Int)) old) ∧ h.IsListIter it a i ∧ e ≠ it ∧ e ≠ a ∧ a ≠ it) where
  mem := by simp
  obj := fun i h st b hb => by
    obtain ⟨⟨old, he⟩, ⟨o, ho, hc, hd⟩, _⟩ := st
    have e' : b = e ∨ b = it := by simpa using hb
    rcases e' with z | z
    · rw [z]; exact ⟨_, he, fun v q => nomatch q⟩
    · rw [z]; exact ⟨o, ho, fun v q => by rw [hd] at q; cases q⟩
  keep := fun i h h' st k => let ⟨⟨old, he⟩, hi, hne⟩ := st; ⟨⟨old, k e (by simp) _ he⟩, hi.at fun o q => k it (by simp) o q, hne⟩
  item := by
    intro X hP hw hK hc i pins s σ H E I hf st hg
    subst hP hw hK
    obtain ⟨⟨old, he⟩, hit, hne, hea, hai⟩ := st
    obtain ⟨xs, x, hq, hx⟩ := hg
    obtain ⟨its, rv, p, hz⟩ := I.list hq
    obtain ⟨u, hu, ru⟩ := rv.get hx
    have hel : e < s.heap.objs.size := Heap.lt_size he
    have hil : it < s.heap.objs.size := by obtain ⟨_, q, _⟩ := hit; exact Heap.lt_size q
    have D := Draws.list (prog := X.prog) (w := X.w) (A := X.A.in1) (I.ok.hd hc) it a hai its.toArray
    have hlt : i < its.toArray.size := by
      have := (List.getElem?_eq_some_iff.mp hu).1
      simpa using this
    refine wpAny_pyNext_enum_itemC D he ⟨hit, p.isList⟩ hlt hne (by simp [hne, hea]) fun u' h' tk hu' ho hst' hT hsz hk => ?_
    have euu : u' = u := by
      have z : its.toArray[i]? = some u := by simpa using hu
      rw [z] at hu'
      exact (Option.some.inj hu').symm
    subst euu
    refine ⟨_, rfl, wpAny_letOwnedTupleGo_enum (s := { s with heap := h', toks := tk + 1 }) ho fun h'' he' sb => ?_⟩
    have hT2 : h''.get? s.heap.objs.size = some { cls := .type "tuple", data := .seq #[.int (k + (i : Nat)) tk, u'] } := (sb.2 _ (Nat.ne_of_gt hel)).trans hT
    have new : ObjOk X.prog X.w (upd H s.heap.objs.size (.tup [.int (k + (i : Nat)), x])) h'' s.heap.objs.size (.tup [.int (k + (i : Nat)), x]) :=
      ⟨by show 2 ≤ sizeLine; decide, [.int (k + (i : Nat)) tk, u'], .cons ⟨_, rfl⟩ (.cons ru .nil), ⟨_, hT2, rfl, _, rfl⟩⟩
    have I1 : Inv X pins σ (upd H s.heap.objs.size (.tup [.int (k + (i : Nat)), x])) { s with heap := h'', toks := tk + 1 } :=
      I.turnedNew (ch := [e, it]) (fun b ob hb q => (sb.2 b (fun z => hb (by simp [z]))).trans (hk b ob (fun z => hb (by simp [z])) (fun z => hb (by simp [z])) q)) hf (Nat.le_refl _) new
    refine ⟨.ref s.heap.objs.size, _, I1, rfl, ⟨_, x, rfl, I.hok.fresh (Nat.le_refl _), rfl, fun ys hy => by rw [I.list_inj hy hq]; exact hx⟩, ⟨⟨u', ?_⟩, hst'.1.at fun o q => (sb.2 it (Ne.symm hne)).trans q, hne, hea, hai⟩, fun b hb => ?_⟩
    · have e1 : k + ((i + 1 : Nat) : Int) = k + (i : Int) + 1 := by omega
      rw [e1]; exact he'
    · have hb' : b < s.heap.objs.size := by
        have e' : b = e ∨ b = it := by simpa using hb
        rcases e' with z | z
        · rw [z]; exact hel
        · rw [z]; exact hil
      rw [upd_ne (Nat.ne_of_lt hb')]
      exact (hf b hb).1
  done := by
    intro X hP hw hK hc i pins s σ H E I hf st hg
    subst hP hw hK
    obtain ⟨⟨old, he⟩, hit, hne, hea, hai⟩ := st
    obtain ⟨xs, hq, hx⟩ := hg
    obtain ⟨its, rv, p, hz⟩ := I.list hq
    obtain ⟨f0, f1, f2, f3, f4, f5⟩ := hf it (by simp)
    have hl := rv.length
    have D := Draws.list (prog := X.prog) (w := X.w) (A := X.A.in1) (I.ok.hd hc) it a hai its.toArray
    have en : i = its.toArray.size := by rw [List.size_toArray]; omega
    subst en
    exact wpAny_pyNext_enum_endD D he ⟨hit, p.isList⟩ fun h' eb => ⟨rfl, I.turned (t' := s.toks) (fun b o hb q => eb b o hb q) f0 f1 f3 f4 f5⟩
  self := fun A i s Q E st h => let ⟨⟨_, he⟩, _⟩ := st; wpAny_pyIter_enum he h
def iEnumS (K : PySem.W.Frag) (ta : TA) (tk : TA) : TI := fun σ H R => ta σ H fun vs H1 => tk σ H1 fun zs H2 => ∃ a xs k, vs = [.ref a] ∧ zs = [.int k] ∧ -(2 ^ 63) ≤ k ∧ k < 2 ^ 63 ∧ SqL K H2 a xs ∧ R (IteS K a k) H2
theorem pi_enumS {X : Cx} {e e2 : Expr} {ta tk : TA} {p pos tpos kp : Pos} {elts : List Expr} {kk : Nat} (hg : Gl X "enumerate") (hm : X.mg "enumerate" = none) (ha : PA X [e] ta) (hkw : PK X [⟨some ("start" : Str), e2, kp⟩] tk)
    (he : backTo pos (starEach [e] X.env) = (false, eval e X.env) :: backTo pos (starEach [] X.env) := by rfl) (hpl : (backTo pos (starEach [e] X.env)).any (·.1) = false := by rfl)
    (hall : (backToKw pos (keywordEach [⟨some ("start" : Str), e2, kp⟩] X.env)).all (·.1.isSome) = true := by rfl) (hnone : (backToKw pos (keywordEach [⟨some ("start" : Str), e2, kp⟩] X.env)).any (·.1.isNone) = false := by rfl)
    (hks : (backToKw pos (keywordEach [⟨some ("start" : Str), e2, kp⟩] X.env)).filterMap (·.1) = [("start" : Str)] := by rfl) :
    PI X (.Tuple elts kk tpos) (.Call (.Name "enumerate" p) [e] [⟨some ("start" : Str), e2, kp⟩] pos) (iEnumS X.K ta tk) := by
  refine ⟨fun pins s σ H R I h => ?_⟩
  refine wpAny_Call_Name_kw (ld_blt I hg hm boot_enumerate (callWith_type_kw (thn (ha.run pos pins s σ H _ I h) fun us s0 ⟨vs, H0, I0, r0, q0⟩ => thn (hkw.run pos pins s0 σ H0 _ I0 q0) fun ws s1 ⟨zs, H1, I1, r2, q1⟩ => ?_) he hpl hall hnone))
  rw [hks]
  obtain ⟨a, xs, k, ex, ez, hk0, hk1, hq, q⟩ := q1
  subst ex ez
  cases r0 with
  | cons r rr =>
    cases rr
    cases r
    cases r2 with
    | cons r3 rr3 =>
      cases rr3
      obtain ⟨t, rfl⟩ := r3
      obtain ⟨its, rv, p', hz⟩ := I1.list hq
      have hal : a < s1.heap.objs.size := by obtain ⟨_, z, _⟩ := p'.isList; exact Heap.lt_size z
      refine enum_begins_start (begins_list a its.toArray) p'.isList hk0 hk1 fun h' he' hit hsz hk => wpAny_pyIter_enum he' ?_
      have I2 : Inv X pins σ H1 { s1 with heap := h' } := I1.kept (t' := s1.toks) hk
      refine ⟨s1.heap.objs.size + 1, [s1.heap.objs.size + 1, s1.heap.objs.size], _, _, H1, rfl, I2, turn_enumS a (s1.heap.objs.size + 1) s1.heap.objs.size k, ⟨⟨.none, ?_⟩, ⟨_, hit, rfl, ?_⟩, Nat.succ_ne_self _, Nat.ne_of_gt (Nat.lt_succ_of_lt hal), Nat.ne_of_lt hal⟩, fun b hb => ?_, q⟩
      · rw [show k + ((0 : Nat) : Int) = k by omega]
        exact he'
      · rfl
      · have e' : b = s1.heap.objs.size + 1 ∨ b = s1.heap.objs.size := by simpa using hb
        have hle : s1.heap.objs.size ≤ b := by
          rcases e' with z | z
          · rw [z]; exact Nat.le_add_right _ _
          · rw [z]; exact Nat.le_refl _
        exact I1.fpOk hle (I1.hok.fresh hle)
end RL
/-! ### a text times an int -/
namespace RL
open PySem PySem.Spec PyProof.Rows L2
def repS (z : Str) (k : Nat) : Str := ⟨(List.replicate k z.cps).foldl (· ++ ·) #[]⟩
theorem foldl_size : ∀ (l : List (Array Nat)) (a : Array Nat), (l.foldl (· ++ ·) a).toList = a.toList ++ (l.map Array.toList).flatten
  | [], a => by simp
  | x :: r, a => by
    rw [List.foldl_cons, foldl_size r (a ++ x), Array.toList_append, List.map_cons, List.flatten_cons, List.append_assoc]
theorem repS_tl (z : Str) (k : Nat) : TL.tl (repS z k) = (List.replicate k z.cps.toList).flatten := by
  show ((List.replicate k z.cps).foldl (· ++ ·) #[]).toList = _
  rw [foldl_size, List.map_replicate]
  rfl
theorem repS_len (z : Str) (k : Nat) : (repS z k).length = k * z.length := by
  show (repS z k).cps.size = _
  rw [← Array.length_toList]
  have h := repS_tl z k
  unfold TL.tl at h
  rw [h]
  simp [List.length_flatten]
  rfl
def rMulS : R2 := fun x y H Q => ∃ (z : Str) (k : Nat), x = .str z ∧ y = .int (k : Int) ∧ 2 ≤ k ∧ k ≤ 100000 ∧ 1 ≤ z.length ∧ z.length ≤ 100 ∧ Q (.str (repS z k)) H
theorem op_mulS {X : Cx} : OpR X (binaryOp .Mult) rMulS := by
  intro pins s σ H x y v u Q I rx ry h
  obtain ⟨z, k, rfl, rfl, hk, hk2, hz, hz2, q⟩ := h
  obtain ⟨t, rfl⟩ := rx
  obtain ⟨t', rfl⟩ := ry
  have hle : z.length * k ≤ 10000000 := by
    have h1 : z.length * k ≤ 100 * k := Nat.mul_le_mul_right k hz2
    omega
  have hno : ((((k : Nat) : Int) == 1) || z.length == 0) = false := by
    have h1 : (((k : Nat) : Int) == 1) = false := by
      apply beq_false_of_ne
      omega
    have h2 : (z.length == 0) = false := by
      apply beq_false_of_ne
      omega
    rw [h1, h2]; rfl
  refine PySem.P.mul_str ?_ ?_ ?_ ?_
  · have h1 : ¬ (k : Int) < -(2 ^ 63 : Int) := by omega
    have h2 : ¬ (k : Int) ≥ 2 ^ 63 := by omega
    rw [decide_eq_false h1, decide_eq_false h2]; rfl
  · intro _ _
    have h3 : (1000 : Int) ≤ (2 ^ 63 - 1) / (k : Int) := by
      rw [Int.le_ediv_iff_mul_le (by omega)]
      omega
    omega
  · intro _ _
    rw [Int.toNat_natCast]
    have hs : 10000000 ≤ sizeLine := by decide
    unfold Builtin.Str.tooLong
    exact decide_eq_false (by omega)
  · rw [if_neg (by omega), if_neg (by rw [hno]; decide)]
    rw [Int.toNat_natCast]
    have hl := repS_len z k
    have hs : 10000000 ≤ sizeLine := by decide
    have hc : k * z.length = z.length * k := Nat.mul_comm _ _
    refine ⟨?_, ⟨.str (repS z k), H, I.tok _, ⟨_, rfl⟩, q⟩⟩
    show (repS z k).length ≤ sizeLine
    omega
end RL

/-! ### list(d.values()); d.get(y, x), y may be None -/
namespace DV
open PySem PySem.Spec PyProof.Rows L2
theorem vals_at {κ : Type} : ∀ {kvs : List (κ × V)} {vs : List (κ × Value)} {acc : List Value}, KV kvs vs → acc.length = vs.length → (∀ (j : Nat) (v : Value), acc[j]? = some v → ∃ k : κ, vs[j]? = some (k, v)) → Vals (kvs.map (·.2)) acc
  | _, _, [], .nil, _, _ => .nil
  | _, _, _ :: _, .nil, h, _ => by simp at h
  | _, _, [], .cons _ _, h, _ => by simp at h
  | _, _, u :: acc, .cons r t, h, g => by
    obtain ⟨k, e⟩ := g 0 u rfl
    simp only [List.getElem?_cons_zero, Option.some.injEq] at e
    refine .cons ?_ (vals_at t (by simpa using h) fun j v hj => ?_)
    · have := r.2
      rw [e] at this
      exact this
    · obtain ⟨k, e⟩ := g (j + 1) v (by simpa using hj)
      exact ⟨k, by simpa using e⟩
section
variable {X : Cx}
/-- list(d.values()): a new list -/
def tListVals (td : TE) : TE := fun σ H Q => td σ H fun x H1 => ∃ a kvs, x = V.ref a ∧ H1 a = some (.dK kvs) ∧ ∀ p, H1 p = none → Q (.ref p) (upd H1 p (.lst (kvs.map (·.2))))
theorem pe_listVals {o : Expr} {p pos apos mpos : Pos} {td : TE} (hc : X.calm = true) (hg : Gl X "list") (hm : X.mg "list" = none) (hd : PE X o td) (hbase : attributeBase o "values" X.env (eval o X.env) = eval o X.env := by rfl) (hline : (apos.endLine == mpos.line) = true := by rfl)
    (hse : starEach [Expr.Call (.Attribute o "values" apos) [] [] mpos] X.env = (false, eval (Expr.Call (.Attribute o "values" apos) [] [] mpos) X.env) :: starEach [] X.env := by rfl) :
    PE X (.Call (.Name "list" p) [.Call (.Attribute o "values" apos) [] [] mpos] [] pos) (tListVals td) := by
  refine ⟨fun pins s σ H Q I h => ?_⟩
  refine Call_ (ld_blt I hg hm boot_list (PyProof.Rows.callWith_type1 (args_cons (wpAny_Call_method0_late hbase hline (thn (hd.run pins s σ H _ I h) fun v s1 ⟨x, H1, I1, r1, a, kvs, ex, ha, q⟩ => ?_)) hse) hse rfl))
  subst ex
  obtain rfl : v = Value.ref a := r1
  obtain ⟨hz, hsys, vs, rel, dof⟩ := dk_of I1.hok ha
  obtain ⟨ep, dat⟩ := dof.dictAt
  have dat' := dat
  obtain ⟨ob, es, ho, ex, hdat, hko, hpr, hnd⟩ := dat'
  refine ⟨"dict", "dict.values", F.plainAttrs_dict, F.slot_dict_values, F.type_dict_values, ⟨ob, ho, ex.1⟩, fun b e => ?_, Calls.callWith_builtin rfl (PySem.evalArgs_none ?_)⟩
  · cases e
    exact ⟨ob, ho, ex.2.1⟩
  refine call_meetsIn F.slot_dict_values ⟨ob, ho, ex.1⟩ F.entry_dict_values (F.args_dict_values_1 _) (meets_dict_values (mixKind X.prog X.w) a hsys) ⟨⟨vs, dof⟩, ?_⟩
  refine args_nil ?_
  have k1 : ∀ b u, s1.heap.get? b = some u → (s1.heap.push { cls := .type "dict_values", data := .fields #[.ref a] }).get? b = some u := fun b u e => Heap.get?_push_of_some _ e
  have dat1 : (s1.heap.push { cls := .type "dict_values", data := .fields #[.ref a] }).DictAt (mixKind X.prog X.w) a vs ep := dat.keep k1
  have hle : s1.heap.objs.size ≤ (s1.heap.push { cls := .type "dict_values", data := .fields #[.ref a] }).objs.size := by simp [Heap.push]
  refine PySem.W.kdl_call (PySem.W.kdl_values (knd := mixKind X.prog X.w) (kvs := vs) (ep := ep) (r := s1.heap.objs.size) (d := a)) (I.ok.hd hc) ⟨⟨_, Heap.get?_push_size _ rfl, rfl, rfl⟩, dat1⟩ (by rw [← rel.length]; exact hz) fun h' tk acc c' hk hD hacc => ?_
  have hv : Vals (kvs.map (·.2)) acc.toList := vals_at rel (by rw [Array.length_toList]; exact hacc.1) fun j v e => hacc.2 j v (by rw [← Array.getElem?_toList]; exact e)
  exact ⟨.ref _, upd H1 _ (.lst (kvs.map (·.2))), I1.laid (t' := tk) (fun b u e => hk b u (k1 b u e)) hle
    (show ObjOk X.prog X.w _ _ _ (.lst (kvs.map (·.2))) from ⟨by rw [List.length_map]; exact hz, acc.toList, c', hv, by rw [Array.toArray_toList]; exact hD⟩), rfl, q _ (I1.hok.fresh hle)⟩
/-- d.get(None, x) of a dict whose keys are ints and texts -/
theorem d_getNone {pins : List (Addr × Obj)} {σ : L2.St} {H : Hp} {s : Shared} {a : Addr} {kvs : List (Key × V)} {A : Around} {E : Value → Shared → Prop} {d : V} {r : Value} {Q : Value → Shared → Prop} (I : Inv X pins σ H s) (e : Rd H a (.dK kvs)) (rd : RelV d r) (h : ∀ s', Inv X pins σ H s' → Q r s') :
    wpAny (model X.prog X.w) A (call (.builtin "dict.get") [.ref a, .none, r]) Q E s := by
  obtain ⟨_, hd, vs, _, dd⟩ := dk_rd I.hok e
  obtain ⟨f, hm, hf⟩ := none_map dd
  refine call_meetsIn PySem.F.slot_dict_get dd.typeIs PySem.F.entry_dict_get (PySem.F.args_dict_get_3 _ _ _) (meets_dict_get_default (noneKind X.prog X.w) (k := none) a (show (noneKind X.prog X.w).is none .none = true from rfl) hd r) ⟨f, hm, ?_⟩
  rw [hf]
  exact h _ (I.tok _)
def tDGet2N (td ty tx : TE) : TE := fun σ H Q => td σ H fun x H1 => ∃ a, x = .ref a ∧ IsD H1 a ∧ ty σ H1 fun y H2 => tx σ H2 fun z H3 => (∃ o, DGet H3 a y o ∧ Q (o.getD z) H3) ∨ (∃ kvs, y = .non ∧ Rd H3 a (.dK kvs) ∧ Q z H3)
theorem dget2N {td ty tx : TE} {σ : L2.St} {H : Hp} {Q : VK} (h : td σ H fun x H1 => ∃ a, x = .ref a ∧ IsD H1 a ∧ ty σ H1 fun y H2 => tx σ H2 fun z H3 => (∃ o, DGet H3 a y o ∧ Q (o.getD z) H3) ∨ (∃ kvs, y = .non ∧ Rd H3 a (.dK kvs) ∧ Q z H3)) : tDGet2N td ty tx σ H Q := h
theorem pe_dget2N {o e f : Expr} {apos cpos : Pos} {td ty tx : TE} (hu : X.A.units + 1 < cLine) (ho : PE X o td) (he : PE X e ty) (hf : PE X f tx) (m : M2 X o "get" apos e f cpos) : PE X (.Call (.Attribute o "get" apos) [e, f] [] cpos) (tDGet2N td ty tx) := by
  refine ⟨fun pins s σ H Q I h => ?_⟩
  refine wpAny_Call_method m.base m.few m.line PySem.F.plainAttrs_dict PySem.F.slot_dict_get PySem.F.type_dict_get (thn (ho.run pins s σ H _ I h) fun u s1 ⟨x, H1, I1, rx, a, ex, d, q1⟩ => ?_)
  subst ex
  obtain rfl : u = Value.ref a := rx
  obtain ⟨t1, t2, _⟩ := isD_at I1 d
  refine ⟨t1, t2, ?_⟩
  rw [m.trees]
  refine Calls.callWith_builtin rfl (Calls.evalArgs_plain (Calls.spliced_cons (thn (he.run pins s1 σ H1 _ I1 q1) fun iv s2 ⟨y, H2, I2, ry, q2⟩ =>
    Calls.spliced_cons (thn (hf.run pins s2 σ H2 _ I2 q2) fun fv s3 ⟨z, H3, I3, rz, q3⟩ => Calls.spliced_nil ?_))))
  rcases q3 with ⟨ov, g, q3⟩ | ⟨kvs, ey, e3, q3⟩
  · exact d_get2 hu I3 g ry rz fun w' s4 I4 rw' => ⟨_, H3, I4, rw', q3⟩
  · subst ey
    obtain rfl : iv = Value.none := ry
    exact d_getNone I3 e3 rz fun s4 I4 => ⟨_, H3, I4, rz, q3⟩
def rListDK : List V → Hp → VK → Prop := fun xs H Q => ∃ (a : Addr) (kvs : List (Key × V)), xs = [.ref a] ∧ Rd H a (.dK kvs) ∧ ∀ p, H p = none → Q (.ref p) (upd H p (.lst (kvs.map fun kv => kV kv.1)))
theorem c_listD (hc : X.calm = true) : CallR X (.type "list") rListDK := call_listD hc
def rSortedDK : List V → Hp → VK → Prop := fun xs H Q => ∃ (a : Addr) (kvs : List (Key × V)) (ks : List Str), xs = [.ref a] ∧ Rd H a (.dK kvs) ∧ kvs.map (·.1) = ks.map Sum.inr ∧ ks.length < 64 ∧
    ∀ ys p, ys.Perm ks → sortedS ys = true → H p = none → Q (.ref p) (upd H p (.lst (ys.map V.str)))
theorem c_sortedD (hc : X.calm = true) : CallR X (.builtin "sorted") rSortedDK := call_sortedD hc
def rLenDK : List V → Hp → VK → Prop := fun xs H Q => ∃ a kvs, xs = [V.ref a] ∧ H a = some (.dK kvs) ∧ Q (.int kvs.length) H
theorem c_lenD : CallR X (.builtin "len") rLenDK := call_lenD
end
def ValsK (Q : VK) (x : V) (H1 : Hp) : Prop := ∃ a kvs, x = V.ref a ∧ H1 a = some (.dK kvs) ∧ ∀ p, H1 p = none → Q (.ref p) (upd H1 p (.lst (kvs.map (·.2))))
theorem lvals {td : TE} {σ : L2.St} {H : Hp} {Q : VK} (h : td σ H (ValsK Q)) : tListVals td σ H Q := h
/-! comprehensions over a dict's keys: the dict is locked meanwhile -/
def KeysK (R : It → Hp → Prop) (x : V) (H1 : Hp) : Prop := ∃ d o, x = .ref d ∧ ((∃ kvs, H1 d = some (.frz o (.dK kvs)) ∧ R (Itk d o kvs) H1) ∨ ∃ kvs, H1 d = some (.frz o (.dT kvs)) ∧ R (Itkt d o kvs) H1)
theorem ikeys {td : TE} {σ : L2.St} {H : Hp} {R : It → Hp → Prop} (h : td σ H (KeysK R)) : iKeys td σ H R := h
theorem lock {t : TE} {σ : L2.St} {H : Hp} {Q : VK} {d : Addr} {kvs : List (Key × V)} (e : H d = some (.dK kvs)) (q : ∀ od, t σ (upd H d (.frz od (.dK kvs))) fun v H' => H' d = some (.frz od (.dK kvs)) ∧ Q v (upd H' d (.dK kvs))) : tLockE t σ H Q := ⟨d, _, e, trivial, q⟩
theorem sorted_le : ∀ {l : List Str}, sortedS l = true → l.Pairwise fun a b => a.cps.toList ≤ b.cps.toList
  | [], _ => .nil
  | x :: r, h => by
    have : ∀ (r : List Str) (x : Str), risingS x r = true → (x :: r).Pairwise fun a b => a.cps.toList ≤ b.cps.toList := by
      intro r
      induction r with
      | nil => intro x _; exact List.pairwise_singleton _ _
      | cons y r ih =>
        intro x h
        unfold risingS at h
        rw [ltCps_eq, Bool.and_eq_true] at h
        have h2 := ih y h.2
        have hxy : x.cps.toList ≤ y.cps.toList := by
          have := h.1
          simp only [Bool.not_eq_true', decide_eq_false_iff_not] at this
          exact List.not_lt.mp this
        refine List.pairwise_cons.mpr ⟨fun z hz => ?_, h2⟩
        rcases List.mem_cons.mp hz with rfl | hz
        · exact hxy
        · exact List.le_trans hxy ((List.pairwise_cons.mp h2).1 z hz)
    exact this r x h
theorem sorted_uniq {l m : List Str} (p : l.Perm m) (hl : sortedS l = true) (hm : sortedS m = true) : l = m := by
  refine List.Perm.eq_of_pairwise (le := fun a b : Str => a.cps.toList ≤ b.cps.toList) (fun a b _ _ h1 h2 => ?_) (sorted_le hl) (sorted_le hm) p
  have := List.le_antisymm h1 h2
  exact TL.ext_tl this
end DV

/-! ### C(..) within a try, where C's __init__ raises -/
namespace MkS
open PySem PySem.Spec PyProof.Rows L2
section
variable {X : Cx} {CX : CXT} {k : Nat} {f C : Addr} {fd : FuncData} {ps : List Str} {sp : Sp} {x : Str} {p pos : Pos} {e : Expr} {es : List Expr} {t : TA}
theorem run_makeS {pins : List (Addr × Obj)} {σ : L2.St} {H : Hp} {s : Shared} {Q : VK} {E : XK} {us : List Value} {vs dvs : List V} {ds : List Value} (M : Mk X.K C f) (F : FnOk X.prog X.w X.K X.mg X.base CX k f fd ps sp) (hr : Room (k + 1) X.A) (hb : Binds X.K fd ps ds) (hd : Vals dvs ds)
    (hx : PassesAt CX X σ E) (I : Inv X pins σ H s) (r : Vals vs us)
    (h : ∀ x dx, H x = none → H dx = none → dx ≠ x → sp (.ref x :: (vs ++ dvs)) (upd (upd H dx (.own x)) x (.ins C dx [])) (fun v H2 => v = .non ∧ Q (.ref x) H2) E) :
    wpAny (model X.prog X.w) X.A (call (.ref C) us) (EP X pins σ Q) X.xe s := by
  have hq := h (s.heap.objs.size + 1) s.heap.objs.size (I.hok.fresh (Nat.le_succ _)) (I.hok.fresh (Nat.le_refl _)) (Nat.ne_of_lt (Nat.lt_succ_self _))
  have I2 := Inv.made (C := C) I
  have r2 : Vals (V.ref (s.heap.objs.size + 1) :: (vs ++ dvs)) (Value.ref (s.heap.objs.size + 1) :: (us ++ ds)) := .cons rfl (r.append hd)
  have hl : (Value.ref (s.heap.objs.size + 1) :: us ++ ds).length = ps.length := by
    have e := r2.length
    rw [F.len _ _ _ _ hq] at e
    exact e.symm
  refine wpAny_call (make_map (f := f) I.kIn M.makes M.init (beq_iff_eq.mp M.fn) (codeAny_mono (F.run _ X.stack _ _ ⟨Value.ref (s.heap.objs.size + 1) :: us, []⟩ (Value.ref (s.heap.objs.size + 1) :: (us ++ ds)) _ _ E (hr.make C us [])
    (I2.env0.make C us []) (hb _ (Value.ref (s.heap.objs.size + 1) :: us) I2.kIn hl) r2 hq) fun r s' hq' => ?_))
  cases r with
  | error e => exact hx pins _ _ e s' I2 hq'
  | ok fl =>
    cases fl with
    | ret u =>
      obtain ⟨v, H', I3, rv, ev, q3⟩ := I2.after hq'
      subst ev
      exact ⟨rv, ⟨V.ref (s.heap.objs.size + 1), H', I3, rfl, q3⟩⟩
    | next => exact False.elim hq'
    | brk => exact False.elim hq'
    | cont => exact False.elim hq'
def tMakeS (C : Addr) (sp : Sp) (E : L2.St → XK) (a : TA) : TE := fun σ H Q => a σ H fun vs H1 => ∀ x dx, H1 x = none → H1 dx = none → dx ≠ x → sp (.ref x :: (vs ++ [])) (upd (upd H1 dx (.own x)) x (.ins C dx [])) (fun v H2 => v = .non ∧ Q (.ref x) H2) (E σ)
theorem pe_makeS {E : L2.St → XK} (M : Mk X.K C f) (F : FnOk X.prog X.w X.K X.mg X.base CX k f fd ps sp) (hr : Room (k + 1) X.A) (hg : Gl X x) (hm : X.mg x = some (.ref C)) (hb : Binds X.K fd ps []) (hx : ∀ σ, PassesAt CX X σ (E σ))
    (ha : PA X (e :: es) t) (hdb : (x == ("__debug__" : Str)) = false := by decide) (he : starEach (e :: es) X.env = (false, eval e X.env) :: starEach es X.env := by rfl) (hpl : (backTo pos (starEach es X.env)).any (·.1) = false := by rfl) :
    PE X (.Call (.Name x p) (e :: es) [] pos) (tMakeS C sp E t) := by
  refine ⟨fun pins s σ H Q I h => ?_⟩
  refine wpAny_Call_Name_kw (ld_glob I hg hm ?_ hdb)
  refine PySem.W.callWith_K (h₀ := X.base) I.ok.mod.kin M.kp (thn (ha.run pos pins s σ H _ I h) fun us s1 ⟨vs, H1, I1, r, q⟩ => ⟨I1.kIn, ?_⟩) he hpl
  exact run_makeS M F hr hb .nil (hx σ) I1 r q
theorem makeS {σ : L2.St} {H : Hp} {Q : VK} {E : L2.St → XK} {a : TA} (h : a σ H fun vs H1 => ∀ x dx, H1 x = none → H1 dx = none → dx ≠ x → sp (.ref x :: (vs ++ [])) (upd (upd H1 dx (.own x)) x (.ins C dx [])) (fun v H2 => v = .non ∧ Q (.ref x) H2) (E σ)) : tMakeS C sp E a σ H Q := h
end
end MkS

/-! ### Z: single steps of readings, for walking by with_reducible refine -/
namespace Z
open PySem L2
/-- all but what stands at M is as it was -/
def Kp (M : List Addr) (H H' : Hp) : Prop := ∀ b o, b ∉ M → H b = some o → H' b = some o
theorem Kp.refl {M : List Addr} (H : Hp) : Kp M H H := fun _ _ _ h => h
theorem Kp.trans {M : List Addr} {H H1 H2 : Hp} (a : Kp M H H1) (b : Kp M H1 H2) : Kp M H H2 := fun c o n h => b c o n (a c o n h)
theorem Kp.new {M : List Addr} {H : Hp} {p : Addr} {o : HO} (h : H p = none) : Kp M H (upd H p o) := fun b u _ e => by
  rw [upd_ne (ne_of_none e h)]
  exact e
theorem Kp.put {M : List Addr} {H : Hp} {p : Addr} {o : HO} (h : p ∈ M) : Kp M H (upd H p o) := fun b u n e => by
  rw [upd_ne (fun q => n (by rw [q]; exact h))]
  exact e
theorem Kp.sub {M M' : List Addr} {H H' : Hp} (a : Kp M H H') (h : ∀ x, x ∈ M → x ∈ M') : Kp M' H H' := fun b o n e => a b o (fun z => n (h b z)) e
theorem Kp.same {H H' : Hp} (a : Kp [] H H') : Same H H' := fun b o e => a b o (by simp) e
theorem Kp.of_same {M : List Addr} {H H' : Hp} (a : Same H H') : Kp M H H' := fun b o _ e => a b o e
theorem Kp.none {M : List Addr} {H H' : Hp} (a : Kp M H H') {p : Addr} (n : p ∉ M) (h : H' p = Option.none) : H p = Option.none := by
  cases q : H p with
  | none => rfl
  | some o =>
    rw [a p o n q] at h
    cases h
/-- what was not there may be forgotten from M -/
theorem Kp.drop {M : List Addr} {H H' : Hp} {p : Addr} (a : Kp (p :: M) H H') (h : H p = Option.none) : Kp M H H' := fun b o n e => a b o (by
  intro z
  rcases List.mem_cons.mp z with z | z
  · rw [z, h] at e
    cases e
  · exact n z) e
theorem Kp.get {M : List Addr} {H H' : Hp} (a : Kp M H H') {b : Addr} {o : HO} (n : b ∉ M) (e : H b = some o) : H' b = some o := a b o n e
theorem Kp.seq {M : List Addr} {K : PySem.W.Frag} {H H' : Hp} (e : Kp M H H') {a : Addr} {xs : List V} (n : a ∉ M) (h : SqL K H a xs) : SqL K H' a xs := by
  rcases h with (h | ⟨o, h⟩) | h
  · exact .inl (.inl (e _ _ n h))
  · exact .inl (.inr ⟨o, e _ _ n h⟩)
  · exact .inr h
theorem Kp.tup {M : List Addr} {K : PySem.W.Frag} {H H' : Hp} (e : Kp M H H') {a : Addr} {xs : List V} (n : a ∉ M) (h : SqT K H a xs) : SqT K H' a xs := by
  rcases h with (h | ⟨o, h⟩) | h
  · exact .inl (.inl (e _ _ n h))
  · exact .inl (.inr ⟨o, e _ _ n h⟩)
  · exact .inr h
/-- what H0 does not know may change -/
theorem Kp.mut {M : List Addr} {H0 H H' : Hp} {l : Addr} {o : HO} (a : Kp M H0 H) (h : H0 l = Option.none) (e : H' = upd H l o) : Kp M H0 H' := fun b u n z => by
  rw [e, upd_ne (ne_of_none z h)]
  exact a b u n z
theorem Kp.then1 {M : List Addr} {H0 H H' : Hp} {l : Addr} (a : Kp M H0 H) (b : Kp [l] H H') (h : H0 l = Option.none) : Kp M H0 H' := fun c o n e => b c o (by
  intro z
  rw [List.mem_singleton.mp z, h] at e
  cases e) (a c o n e)
/-- a new instance and its dict -/
theorem Kp.made {M : List Addr} {H : Hp} {x dx : Addr} {o u : HO} (nx : H x = Option.none) (nd : H dx = Option.none) : Kp M H (upd (upd H dx u) x o) := fun c o n e => by
  rw [upd_ne (ne_of_none e nx), upd_ne (ne_of_none e nd)]
  exact e
theorem none2 {H : Hp} {x dx l : Addr} {o u : HO} (h : upd (upd H dx u) x o l = Option.none) : H l = Option.none := by
  unfold upd at h
  split at h
  · cases h
  · split at h
    · cases h
    · exact h
theorem nin1 {a b : Addr} (h : b ≠ a) : b ∉ [a] := by simpa using h
theorem nin0 {b : Addr} : b ∉ ([] : List Addr) := by simp
theorem lstL {K : PySem.W.Frag} {H : Hp} {a : Addr} {xs : List V} (h : H a = some (.lst xs)) : SqL K H a xs := .inl (.inl h)
theorem tupT {K : PySem.W.Frag} {H : Hp} {a : Addr} {xs : List V} (h : H a = some (.tup xs)) : SqT K H a xs := .inl (.inl h)

theorem cxK {CX : CXT} {P : Program} {w : World} {K : PySem.W.Frag} {mg : Str → Option Value} {base : Heap} {N : List Str} {qual : Str} {scope : Scope} {f : Addr} {cd : Value} {A : Around} {outer : List Env} {s : Shared} {H : Hp} {E : XK} : (cxOf CX P w K mg base N qual scope f cd A outer s H E).K = K := rfl
/-! named readings of rules -/
def rLenN (K : PySem.W.Frag) : List V → Hp → VK → Prop := fun xs H Q => ∃ p ys, xs = [.ref p] ∧ (SqL K H p ys ∨ SqT K H p ys) ∧ Q (.int ys.length) H
theorem c_len {X : Cx} : CallR X (.builtin "len") (rLenN X.K) := call_len_seq
def rListN (K : PySem.W.Frag) : List V → Hp → VK → Prop := fun xs H Q => ∃ p ys, xs = [.ref p] ∧ (SqL K H p ys ∨ SqT K H p ys) ∧ ∀ l, H l = none → Q (.ref l) (upd H l (.lst ys))
theorem c_list {X : Cx} : CallR X (.type "list") (rListN X.K) := call_list_of
def rTupN (K : PySem.W.Frag) : List V → Hp → VK → Prop := fun xs H Q => ∃ p ys, xs = [.ref p] ∧ ((SqL K H p ys ∧ ∀ l, H l = none → Q (.ref l) (upd H l (.tup ys))) ∨ (SqT K H p ys ∧ Q (.ref p) H))
theorem c_tuple {X : Cx} : CallR X (.type "tuple") (rTupN X.K) := call_tuple_of
def rInt1 : List V → Hp → VK → Prop := fun xs H Q => (∃ i, xs = [.int i] ∧ Q (.int i) H) ∨ ∃ k, xs = [.bl k] ∧ Q (.int (if k then 1 else 0)) H
theorem c_int {X : Cx} : CallR X (.type "int") rInt1 := call_int1
def rAbs : List V → Hp → VK → Prop := fun xs H Q => ∃ i, xs = [.int i] ∧ Q (.int (if i < 0 then -i else i)) H
theorem c_abs {X : Cx} : CallR X (.builtin "abs") rAbs := call_abs
def rIsN : R2 := fun x y H Q => y = .non ∧ Q (.bl (decide (x = .non))) H
theorem o_isN {X : Cx} : OpR X (compareOp .Is) rIsN := op_isN
def rNotN : R2 := fun x y H Q => y = .non ∧ Q (.bl (!decide (x = .non))) H
theorem o_notN {X : Cx} : OpR X (compareOp .IsNot) rNotN := op_notN
def rAddS : R2 := fun x y H Q => ∃ i j, x = .str i ∧ y = .str j ∧ i.length + j.length ≤ sizeLine ∧ Q (.str (i ++ j)) H
theorem o_addS {X : Cx} : OpR X (binaryOp .Add) rAddS := op_add_str
def rInSg : R2 := fun x y H Q => ∃ (c : Nat) (z : Str), x = .str ⟨#[c]⟩ ∧ y = .str z ∧ Q (.bl (decide (c ∈ z.cps.toList))) H
theorem o_inSg {X : Cx} : OpR X (compareOp .In) rInSg := op_in_sign
def rNinSg : R2 := fun x y H Q => ∃ (c : Nat) (z : Str), x = .str ⟨#[c]⟩ ∧ y = .str z ∧ Q (.bl (!decide (c ∈ z.cps.toList))) H
theorem o_ninSg {X : Cx} : OpR X (compareOp .NotIn) rNinSg := op_notIn_sign
/-- // by a divisor of any sign -/
def CDivA (_ j : Int) : Prop := j ≠ 0 ∧ j.natAbs.log2 < 9000
theorem op_fdivA {X : Cx} : OpR X (binaryOp .FloorDiv) (rI CDivA fun i j => .int (i.fdiv j)) := opI fun i j _ _ _ _ _ hc q => PyProof.Rows.floordiv_int hc.1 q (.inl (PyProof.noPylong_of_log2 hc.2))
theorem divA {i j : Int} {b : Nat} (h : j ≠ 0) (hb : j.natAbs < 2 ^ b) (h0 : 0 < b) (h9 : b ≤ 9000) : CDivA i j := ⟨h, Nat.lt_of_lt_of_le (PySem.Flt.log2_lt_of h0 hb) h9⟩
def rLenS : List V → Hp → VK → Prop := fun xs H Q => ∃ x : Str, xs = [.str x] ∧ x.cps.size ≤ 10000000 ∧ Q (.int (x.cps.size : Nat)) H
theorem c_lens {X : Cx} : CallR X (.builtin "len") rLenS := fun pins s σ H xs us Q I r h => call_len pins s σ H xs us Q I r (by obtain ⟨x, rfl, hz, q⟩ := h; exact ⟨.str x, _, rfl, ⟨Nat.le_trans hz (by decide), rfl⟩, q⟩)
def rPopQ : V → List V → Hp → VK → Prop := rPop
section
variable {σ : St} {H : Hp} {Q : VK} {v x y : V} {ta tb tc te : TE} {tA : TT} {D : Ends} {t u ts : TS} {r : R2} {K : PySem.W.Frag} {i : Nat} {A B : Prop}
/-! values -/
theorem var (h : σ[i]? = some (some v)) (q : Q v H) : tVar i σ H Q := ⟨v, h, q⟩
theorem cst (q : Q v H) : tC v σ H Q := q
theorem op (h : ta σ H fun x H1 => tb σ H1 fun y H2 => r x y H2 Q) : tOp r ta tb σ H Q := h
theorem un {r : V → Hp → VK → Prop} (h : ta σ H fun x H1 => r x H1 Q) : tUn r ta σ H Q := h
theorem i0 {g : Int → Int → V} {a b : Int} (q : Q (g a b) H) : rI0 g (.int a) (.int b) H Q := ⟨a, b, rfl, rfl, q⟩
theorem iC {C : Int → Int → Prop} {g : Int → Int → V} {a b : Int} (c : C a b) (q : Q (g a b) H) : rI C g (.int a) (.int b) H Q := ⟨a, b, rfl, rfl, c, q⟩
theorem iU {g : Int → V} {a : Int} (q : Q (g a) H) : rU g (.int a) H Q := ⟨a, rfl, q⟩
theorem eqII {a b : Int} (q : Q (.bl (decide (a = b))) H) : rEq (.int a) (.int b) H Q := ⟨rfl, by
  have e : decide (V.int a = V.int b) = decide (a = b) := by simp
  rw [e]; exact q⟩
theorem neII {a b : Int} (q : Q (.bl (!decide (a = b))) H) : rNe (.int a) (.int b) H Q := ⟨rfl, by
  have e : decide (V.int a = V.int b) = decide (a = b) := by simp
  rw [e]; exact q⟩
theorem eqSS {a b : Str} (q : Q (.bl (decide (a = b))) H) : rEq (.str a) (.str b) H Q := ⟨rfl, by
  have e : decide (V.str a = V.str b) = decide (a = b) := by simp
  rw [e]; exact q⟩
theorem neSS {a b : Str} (q : Q (.bl (!decide (a = b))) H) : rNe (.str a) (.str b) H Q := ⟨rfl, by
  have e : decide (V.str a = V.str b) = decide (a = b) := by simp
  rw [e]; exact q⟩
theorem eqBB {a b : Bool} (q : Q (.bl (decide (a = b))) H) : rEq (.bl a) (.bl b) H Q := ⟨rfl, by
  have e : decide (V.bl a = V.bl b) = decide (a = b) := by simp
  rw [e]; exact q⟩
theorem neBB {a b : Bool} (q : Q (.bl (!decide (a = b))) H) : rNe (.bl a) (.bl b) H Q := ⟨rfl, by
  have e : decide (V.bl a = V.bl b) = decide (a = b) := by simp
  rw [e]; exact q⟩
theorem bl {b : Bool} {q : Bool → Hp → Prop} (h : q b H) : ∃ k, V.bl b = .bl k ∧ q k H := ⟨b, rfl, h⟩
theorem bl' {b : Bool} {q : Bool → Prop} (h : q b) : ∃ k, V.bl b = .bl k ∧ q k := ⟨b, rfl, h⟩
theorem test {Q : Bool → Hp → Prop} (h : te σ H fun x H' => ∃ k, x = .bl k ∧ Q k H') : tTest te σ H Q := h
theorem tbb {Q : Bool → Hp → Prop} (h : te σ H fun x H' => ∃ k, x = .bl k ∧ Q k H') : tB te σ H Q := h
theorem tand {a b : TT} {Q : Bool → Hp → Prop} (h : a σ H fun c H1 => if c = true then b σ H1 Q else Q false H1) : tAnd a b σ H Q := h
theorem tor {a b : TT} {Q : Bool → Hp → Prop} (h : a σ H fun c H1 => if c = true then Q true H1 else b σ H1 Q) : tOr a b σ H Q := h
theorem tnot {a : TT} {Q : Bool → Hp → Prop} (h : a σ H fun c H1 => Q (!c) H1) : tNot a σ H Q := h
theorem tyes {Q : Bool → Hp → Prop} (h : Q true H) : tYes σ H Q := h
theorem andV (h : ta σ H fun x H1 => ∃ c, x = .bl c ∧ if c = true then tb σ H1 Q else Q (.bl false) H1) : tAndV ta tb σ H Q := h
theorem orV (h : ta σ H fun x H1 => ∃ c, x = .bl c ∧ if c = true then Q (.bl true) H1 else tb σ H1 Q) : tOrV ta tb σ H Q := h
theorem notV (h : ta σ H fun x H1 => ∃ c, x = .bl c ∧ Q (.bl (!c)) H1) : tNotV ta σ H Q := h
theorem ifE (h : tA σ H fun c H1 => if c = true then ta σ H1 Q else tb σ H1 Q) : L2.tIf tA ta tb σ H Q := h
theorem chain {r r' : R2} (h : ta σ H fun x H1 => tb σ H1 fun y H2 => r x y H2 fun z H3 => ∃ k, z = .bl k ∧ (if k = true then tc σ H3 fun w' H4 => r' y w' H4 Q else Q (.bl false) H3)) : tChain r r' ta tb tc σ H Q := h
/-! branches -/
theorem ite {p : Prop} [Decidable p] (h1 : p → A) (h2 : ¬p → B) : if decide p = true then A else B := by
  by_cases h : p
  · rw [decide_eq_true h, if_pos rfl]; exact h1 h
  · rw [decide_eq_false h, if_neg Bool.false_ne_true]; exact h2 h
theorem iteN {p : Prop} [Decidable p] (h1 : ¬p → A) (h2 : p → B) : if (!decide p) = true then A else B := by
  by_cases h : p
  · rw [decide_eq_true h]; exact h2 h
  · rw [decide_eq_false h]; exact h1 h
theorem iteB {b : Bool} (h1 : b = true → A) (h2 : b = false → B) : if b = true then A else B := by
  cases b with
  | true => exact h1 rfl
  | false => exact h2 rfl
theorem yes {p : Prop} [Decidable p] (h : p) (q : A) : if decide p = true then A else B := by rw [decide_eq_true h, if_pos rfl]; exact q
theorem no {p : Prop} [Decidable p] (h : ¬p) (q : B) : if decide p = true then A else B := by rw [decide_eq_false h, if_neg Bool.false_ne_true]; exact q
theorem yesN {p : Prop} [Decidable p] (h : ¬p) (q : A) : if (!decide p) = true then A else B := by rw [decide_eq_false h]; exact q
theorem noN {p : Prop} [Decidable p] (h : p) (q : B) : if (!decide p) = true then A else B := by rw [decide_eq_true h]; exact q
theorem yesB (q : A) : if true = true then A else B := q
theorem noNB (q : B) : if (!true) = true then A else B := q
theorem yesNB (q : A) : if (!false) = true then A else B := q
theorem noB (q : B) : if false = true then A else B := q
/-! calls -/
theorem nil {Q : List V → Hp → Prop} (q : Q [] H) : tNil σ H Q := q
theorem cons {Q : List V → Hp → Prop} {tr : TA} (h : ta σ H fun x H1 => tr σ H1 fun xs H2 => Q (x :: xs) H2) : tCons ta tr σ H Q := h
theorem cb {r : List V → Hp → VK → Prop} {a : TA} (h : a σ H fun vs H1 => r vs H1 Q) : tCB r a σ H Q := h
theorem call {sp : Sp} {dvs : List V} {E : XK} {a : TA} (h : a σ H fun vs H1 => sp (vs ++ dvs) H1 Q E) : tCall sp dvs E a σ H Q := h
theorem meth {C : Addr} {m : Str} {sp : Sp} {dvs : List V} {E : XK} {a : TA} (h : ta σ H fun x H1 => ∃ p dx fs, x = .ref p ∧ H1 p = some (.ins C dx fs) ∧ fs.lookup m = none ∧ a σ H1 fun vs H2 => sp (x :: (vs ++ dvs)) H2 Q E) : tMeth C m sp dvs E ta a σ H Q := h
theorem fld {f : Str} (h : ta σ H fun x H1 => ∃ a C dx fs v, x = .ref a ∧ H1 a = some (.ins C dx fs) ∧ Cls K C ∧ NoAttr K C f ∧ fs.lookup f = some v ∧ Q v H1) : tFld K ta f σ H Q := h
theorem int1 {a : Int} (q : Q (.int a) H) : rInt1 [.int a] H Q := .inl ⟨a, rfl, q⟩
theorem intb {b : Bool} (q : Q (.int (if b then 1 else 0)) H) : rInt1 [.bl b] H Q := .inr ⟨b, rfl, q⟩
theorem abs1 {a : Int} (q : Q (.int (if a < 0 then -a else a)) H) : rAbs [.int a] H Q := ⟨a, rfl, q⟩
theorem isN (q : Q (.bl (decide (x = .non))) H) : rIsN x .non H Q := ⟨rfl, q⟩
theorem notN (q : Q (.bl (!decide (x = .non))) H) : rNotN x .non H Q := ⟨rfl, q⟩
theorem addS {a b : Str} (h : a.length + b.length ≤ sizeLine) (q : Q (.str (a ++ b)) H) : rAddS (.str a) (.str b) H Q := ⟨a, b, rfl, rfl, h, q⟩
theorem inSg {c : Nat} {z : Str} (q : Q (.bl (decide (c ∈ z.cps.toList))) H) : rInSg (.str ⟨#[c]⟩) (.str z) H Q := ⟨c, z, rfl, rfl, q⟩
theorem ninSg {c : Nat} {z : Str} (q : Q (.bl (!decide (c ∈ z.cps.toList))) H) : rNinSg (.str ⟨#[c]⟩) (.str z) H Q := ⟨c, z, rfl, rfl, q⟩
/-- a new object -/
theorem new {o : HO} (h : ∀ p, H p = none → Q (.ref p) (upd H p o)) : ∀ p, H p = none → Q (.ref p) (upd H p o) := h
def TupN (Q : VK) (xs : List V) (H1 : Hp) : Prop := xs.length ≤ sizeLine ∧ ∀ p, H1 p = none → Q (.ref p) (upd H1 p (.tup xs))
def LstN (Q : VK) (xs : List V) (H1 : Hp) : Prop := xs.length ≤ sizeLine ∧ ∀ p, H1 p = none → Q (.ref p) (upd H1 p (.lst xs))
theorem tup {a : TA} (h : a σ H (TupN Q)) : tTup a σ H Q := h
theorem lst {a : TA} (h : a σ H (LstN Q)) : tLst a σ H Q := h
/-- a new object, the heap behind it a letter -/
theorem mk {o : HO} {H0 : Hp} {R : Addr → Hp → Prop} (h : ∀ p H1, H0 p = none → Kp [] H0 H1 → H1 p = some o → R p H1) : ∀ p, H0 p = none → R p (upd H0 p o) := fun p n => h p _ n (Kp.new n) upd_same
theorem tupK {xs : List V} (q : ∀ p H1, H p = none → Kp [] H H1 → H1 p = some (.tup xs) → Q (.ref p) H1) (h : xs.length ≤ 100000 := by simp) : TupN Q xs H := ⟨Nat.le_trans h (by decide), mk q⟩
theorem lstK {xs : List V} (q : ∀ p H1, H p = none → Kp [] H H1 → H1 p = some (.lst xs) → Q (.ref p) H1) (h : xs.length ≤ 100000 := by simp) : LstN Q xs H := ⟨Nat.le_trans h (by decide), mk q⟩
theorem sz {n m : Nat} (h : n ≤ m) (hm : m ≤ 10000000 := by decide) : n ≤ sizeLine := Nat.le_trans h (Nat.le_trans hm (by decide))
theorem szl {n m : Nat} (h : n ≤ m) (hm : m ≤ 10000000 := by decide) : n < sizeLine := Nat.lt_of_le_of_lt (Nat.le_trans h hm) (by decide)
/-! subscripts -/
theorem ixL {p : Addr} {xs : List V} {j : Int} (h : SqL K H p xs) (e : atI xs j = some v) (q : Q v H) : rIxL K (.ref p) (.int j) H Q := ⟨p, xs, j, v, rfl, rfl, h, e, q⟩
theorem ixT {p : Addr} {xs : List V} {j : Int} (h : SqT K H p xs) (e : atI xs j = some v) (q : Q v H) : rIxT K (.ref p) (.int j) H Q := ⟨p, xs, j, v, rfl, rfl, h, e, q⟩
theorem setL {p : Addr} {xs : List V} {k : Int} {j : Nat} {v : V} {q : Hp → Prop} (h : H p = some (.lst xs)) (e : ixN xs.length k = some j) (hq : q (upd H p (.lst (xs.set j v)))) : rSetL (.ref p) (.int k) v H q := ⟨p, xs, k, j, rfl, rfl, h, e, hq⟩
theorem gsub {to ti : TE} {t : TSet} {Q : St → Hp → Prop} (h : to σ H fun o H1 => ti σ H1 fun i H2 => t o i v H2 fun H3 => Q σ H3) : gSub to ti t v σ H Q := h
/-! statements -/
/-- a statement whose ways join ahead of the rest -/
def tSeqJ (t u : TS) : TS := tSeq t u
theorem pss_consJ {X : Cx} {st : Stmt} {rest : List Stmt} {t u : TS} (h1 : PS X st t) (h2 : PSs X rest u) : PSs X (st :: rest) (tSeqJ t u) := pss_cons h1 h2
theorem seqJ (J : St → Hp → Prop) (h2 : ∀ σ H, J σ H → u D σ H) (h1 : ∀ N : St → Hp → Prop, (∀ σ H, J σ H → N σ H) → t { D with nx := N } σ H) : tSeqJ t u D σ H := h1 (u D) h2
theorem seqJ' (h : tSeq t u D σ H) : tSeqJ t u D σ H := h
theorem seq (h : t { D with nx := u D } σ H) : tSeq t u D σ H := h
theorem asg {g : TG} (h : te σ H fun x H1 => g x σ H1 D.nx) : tAsg te g D σ H := h
theorem gname {Q : St → Hp → Prop} {σ' : St} (e : σ.set i (some v) = σ') (h : Q σ' H) : gName i v σ H Q := by
  subst e; exact h
def ParK (i j : Nat) (D : Ends) (σ : St) (vs : List V) (H1 : Hp) : Prop := ∃ v w, vs = [v, w] ∧ D.nx ((σ.set i (some v)).set j (some w)) H1
theorem par {i j : Nat} {a : TA} (h : a σ H (ParK i j D σ)) : tPar i j a D σ H := h
theorem par2 {i j : Nat} {v w : V} {σ' : St} (e : (σ.set i (some v)).set j (some w) = σ') (h : D.nx σ' H) : ParK i j D σ [v, w] H := ⟨v, w, rfl, by rw [e]; exact h⟩
theorem aug {ti : TIp} {x : V} (e : σ[i]? = some (some x)) (h : te σ H fun y H1 => ti x y H1 fun z H2 => D.nx (σ.set i (some z)) H2) : tAug i te ti D σ H := ⟨x, e, h⟩
theorem ipI' {f : Int → Int → Int} {a b : Int} (q : Q (.int (f a b)) H) : ipI f (.int a) (.int b) H Q := ⟨a, b, rfl, rfl, q⟩
theorem ifs {c : TT} (h : c σ H fun b H1 => if b = true then t D σ H1 else u D σ H1) : tIfS c t u D σ H := h
theorem ret (h : te σ H D.rt) : tRet te D σ H := h
theorem retN (h : D.rt .non H) : tRetN D σ H := h
theorem next (h : D.nx σ H) : tNext D σ H := h
theorem brk (h : D.bk σ H) : tBreak D σ H := h
theorem drop (h : te σ H fun _ H1 => D.nx σ H1) : tDrop te D σ H := h
theorem bm {T : String} {r : V → List V → Hp → VK → Prop} {to : TE} {a : TA} (h : to σ H fun x H1 => tyV K T x H1 ∧ a σ H1 fun xs H2 => r x xs H2 Q) : tBM K T r to a σ H Q := h
theorem bm0 {T : String} {r : V → List V → Hp → VK → Prop} {to : TE} (h : to σ H fun x H1 => tyV K T x H1 ∧ r x [] H1 Q) : tBM0 K T r to σ H Q := h
theorem app {l : Addr} {xs : List V} {y : V} (h : H l = some (.lst xs)) (z : xs.length < sizeLine) (q : Q .non (upd H l (.lst (xs ++ [y])))) : rAppend (.ref l) [y] H Q := ⟨l, xs, y, rfl, rfl, h, z, q⟩
theorem tyL {p : Addr} {xs : List V} (h : H p = some (.lst xs)) : tyV K "list" (.ref p) H := .inl ⟨rfl, _, SqL.of h⟩
theorem sfld {tv : TE} {f : Str} (h : tv σ H fun y H1 => ta σ H1 fun x H2 => ∃ a C dx fs, x = .ref a ∧ H2 a = some (.ins C dx fs) ∧ Cls K C ∧ NoAttr K C f ∧ fs.length < 1000 ∧ D.nx σ (upd H2 a (.ins C dx (putF f y fs)))) : sFld K ta tv f D σ H := h
theorem sfldaug {tv : TE} {rd : V → V → Hp → VK → Prop} {f : Str} (h : ta σ H fun x H1 => ∃ a C dx fs v, x = .ref a ∧ H1 a = some (.ins C dx fs) ∧ Cls K C ∧ NoAttr K C f ∧ fs.lookup f = some v ∧ tv σ H1 fun y H2 => rd v y H2 fun z H3 => ∃ dx' fs', H3 a = some (.ins C dx' fs') ∧ fs'.length < 1000 ∧ D.nx σ (upd H3 a (.ins C dx' (putF f z fs')))) : sFldAug K ta tv rd f D σ H := h
theorem radd {a b : Int} (q : Q (.int (a + b)) H) : rAdd (.int a) (.int b) H Q := ⟨a, b, rfl, rfl, q⟩
theorem make {C : Addr} {sp : Sp} {dvs : List V} {E : XK} {a : TA} (h : a σ H fun vs H1 => ∀ x dx, H1 x = none → H1 dx = none → dx ≠ x → sp (.ref x :: (vs ++ dvs)) (upd (upd H1 dx (.own x)) x (.ins C dx [])) (fun v H2 => v = .non ∧ Q (.ref x) H2) E) : tMake C sp dvs E a σ H Q := h
/-- while -/
def WhB (W : Nat → St → Hp → Prop) (m : Nat) (tb : TS) (D : Ends) (σ : St) (H1 : Hp) : Prop := ∃ N : St → Hp → Prop, (∀ σ' H', N σ' H' → ∃ m', m' < m ∧ W m' σ' H') ∧ tb { D with nx := N, ct := N, bk := D.nx } σ H1
theorem whb {W : Nat → St → Hp → Prop} {m : Nat} {tb : TS} (h : tb { D with nx := fun σ' H' => ∃ m', m' < m ∧ W m' σ' H', ct := fun σ' H' => ∃ m', m' < m ∧ W m' σ' H', bk := D.nx } σ H) : WhB W m tb D σ H := ⟨_, fun _ _ z => z, h⟩
theorem wh {c : TT} {tb : TS} (W : Nat → St → Hp → Prop) (m : Nat) (h0 : W m σ H) (hs : ∀ m σ H, W m σ H → c σ H fun b H1 => if b = true then WhB W m tb D σ H1 else D.nx σ H1) : tWhile c tb D σ H := ⟨W, ⟨m, h0⟩, hs⟩
/-- calls by values -/
theorem sumL {a : Addr} {ns : List Int} (h : SqL K H a (ns.map V.int)) (q : Q (.int ns.sum) H) : rSum K [.ref a] H Q := ⟨a, ns, rfl, h, q⟩
theorem gcd {a b : Int} (q : Q (.int ((Nat.gcd a.natAbs b.natAbs : Nat) : Int)) H) : rGcd [.int a, .int b] H Q := ⟨a, b, rfl, q⟩
theorem mkN {C : Addr} {sp : Sp} {Q : XK} (h : ∀ a, H a = none → sp [.ref a] (upd H a (exo a C none)) (fun v H2 => v = .non ∧ H2 a = some (exo a C none) ∧ Q (.ref C) none (del H2 a)) (fun _ _ _ => False)) : Sup.tMkN C sp σ H Q := h
theorem gtup {n : Nat} {t : TGs} {a : Addr} {xs : List V} {Q : St → Hp → Prop} (h : SqT K H a xs) (e : xs.length = n) (q : t xs σ H Q) : gTup K n t (.ref a) σ H Q := ⟨a, xs, rfl, h, e, q⟩
theorem gcons {t : TG} {u : TGs} {v : V} {r : List V} {Q : St → Hp → Prop} (q : t v σ H fun σ' H' => u r σ' H' Q) : gCons t u (v :: r) σ H Q := ⟨v, r, rfl, q⟩
theorem gnil {Q : St → Hp → Prop} (q : Q σ H) : gNil [] σ H Q := ⟨rfl, q⟩
theorem lenL {a : Addr} {xs : List V} (h : SqL K H a xs) (q : Q (.int xs.length) H) : rLenN K [.ref a] H Q := ⟨a, xs, rfl, .inl h, q⟩
theorem lenT {a : Addr} {xs : List V} (h : SqT K H a xs) (q : Q (.int xs.length) H) : rLenN K [.ref a] H Q := ⟨a, xs, rfl, .inr h, q⟩
theorem listL {a : Addr} {xs : List V} (h : SqL K H a xs) (q : ∀ p H1, H p = none → Kp [] H H1 → H1 p = some (.lst xs) → Q (.ref p) H1) : rListN K [.ref a] H Q := ⟨a, xs, rfl, .inl h, mk q⟩
theorem isi {A B : String} {x : V} {b : Bool} (ht : TyX K H x (.type A)) (hk : kitB A B = some b) (q : Q (.bl b) H) : rIsi K [x, .ty B] H Q := ⟨x, _, _, _, b, rfl, .ty _, ht, kit_ty hk, q⟩
theorem isiI {B : String} {a : Int} {b : Bool} (hk : kitB "int" B = some b) (q : Q (.bl b) H) : rIsi K [.int a, .ty B] H Q := isi (.base (.int _)) hk q
theorem atM {ns : List Int} {j : Nat} {x : Int} (h : ns[j]? = some x) : atI (ns.map V.int) (j : Int) = some (.int x) := atI_nat (by rw [List.getElem?_map, h]; rfl)
theorem ixN_nat {n j : Nat} (hj : j < n) : ixN n (j : Int) = some j := by
  unfold ixN
  rw [if_pos (by omega), if_pos (by omega)]
  simp
/-- a comprehension, a loop over range(n), over a list -/
def ForK (g : TG) (tb : TS) (D : Ends) (σ : St) (J : It) (H1 : Hp) : Prop := ∃ W : Nat → Nat → St → Hp → Prop, (∃ m, W 0 m σ H1) ∧ ∀ i m σ H, W i m σ H →
  (J.stop i H ∧ D.nx σ H) ∨ (J.go i H ∧ ∃ N : St → Hp → Prop, (∀ σ' H', N σ' H' → ∃ m', m' < m ∧ W (i + 1) m' σ' H') ∧ ∀ x H', J.yld i H x H' → g x σ H' fun σ2 H2 => tb { D with nx := N, ct := N, bk := D.nx } σ2 H2)
def LcK (g : TG) (tt : TT) (te : TE) (vs : List Nat) (σ : St) (Q : VK) (J : It) (H1 : Hp) : Prop := ∀ D, H1 D = none → ∃ W : Nat → Nat → Hp → Prop, (∃ m, W 0 m (upd H1 D (.lst []))) ∧ ∀ i m H, W i m H →
      (J.stop i H ∧ Q (.ref D) H) ∨ (J.go i H ∧ ∃ Nx : Hp → Prop, (∀ H', Nx H' → ∃ m', m' < m ∧ W (i + 1) m' H') ∧ ∀ x H', J.yld i H x H' → g x (wipe σ vs) H' fun σ2 H2 => wipe σ2 vs = wipe σ vs ∧ tt σ2 H2 fun b H3 => if b = true then te σ2 H3 fun y H4 => ∃ acc, H4 D = some (.lst acc) ∧ acc.length < sizeLine ∧ Nx (upd H4 D (.lst (acc ++ [y]))) else Nx H3)
def Rng1K (R : It → Hp → Prop) (vs : List V) (H1 : Hp) : Prop := ∃ j : Int, vs = [.int j] ∧ -(2 ^ 62) ≤ j ∧ j < 2 ^ 62 ∧ R (Itr 0 j.toNat) H1
def ListK (K : PySem.W.Frag) (R : It → Hp → Prop) (x : V) (H1 : Hp) : Prop := ∃ a, x = .ref a ∧ (∃ xs, SqL K H1 a xs) ∧ R (Itl K a) H1
theorem lc {wi : TI} {g : TG} {tt : TT} {vs : List Nat} (h : wi σ H (LcK g tt te vs σ Q)) : tLc wi g tt te vs σ H Q := h
theorem rng1 {a : TA} {R : It → Hp → Prop} (h : a σ H (Rng1K R)) : iRng1 a σ H R := h
theorem ilist {R : It → Hp → Prop} (h : ta σ H (ListK K R)) : iList K ta σ H R := h
theorem for_ {wi : TI} {g : TG} {tb : TS} (h : wi σ H (ForK g tb D σ)) : tFor wi g tb D σ H := h
/-- what one turn of a comprehension asks -/
def LcT (g : TG) (tt : TT) (te : TE) (vs : List Nat) (σ : St) (D : Addr) (P : Hp → Prop) (x : V) (H1 : Hp) : Prop := g x (wipe σ vs) H1 fun σ2 H2 => wipe σ2 vs = wipe σ vs ∧ tt σ2 H2 fun b H3 => if b = true then te σ2 H3 fun y H4 => ∃ acc, H4 D = some (.lst acc) ∧ acc.length < sizeLine ∧ P (upd H4 D (.lst (acc ++ [y]))) else P H3
theorem lcr {g : TG} {tt : TT} {vs : List Nat} {e : Int} (n : Nat) (he : e = (n : Int)) (hb : n < 4611686018427387904) (Pv : Addr → Nat → Hp → Prop) (h0 : ∀ D H1, H D = none → Kp [] H H1 → H1 D = some (.lst []) → Pv D 0 H1)
    (hs : ∀ D i H1, H D = none → i < n → Pv D i H1 → g (.int (i : Int)) (wipe σ vs) H1 fun σ2 H2 => wipe σ2 vs = wipe σ vs ∧ tt σ2 H2 fun b H3 => if b = true then te σ2 H3 fun y H4 => ∃ acc, H4 D = some (.lst acc) ∧ acc.length < sizeLine ∧ Pv D (i + 1) (upd H4 D (.lst (acc ++ [y]))) else Pv D (i + 1) H3)
    (hd : ∀ D H1, H D = none → Pv D n H1 → Q (.ref D) H1) : Rng1K (LcK g tt te vs σ Q) [.int e] H := by
  subst he
  refine ⟨(n : Int), rfl, by omega, by omega, fun D hD => ?_⟩
  rw [show ((n : Int)).toNat = n by simp]
  refine lc_range (lo := 0) (n := n) (Pv D) (h0 D _ hD (Kp.new hD) upd_same) (fun i H1 hi p => ?_) fun H1 p => hd D H1 hD p
  rw [show (0 : Int) + (i : Int) = (i : Int) by omega]
  exact hs D i H1 hD hi p
theorem lcl {g : TG} {tt : TT} {vs : List Nat} {a : Addr} (xs : List V) (hS : SqL K H a xs) (Pv : Addr → Nat → Hp → Prop) (h0 : ∀ D H1, H D = none → Kp [] H H1 → H1 D = some (.lst []) → Pv D 0 H1)
    (hl : ∀ D i H1, H D = none → i ≤ xs.length → Pv D i H1 → SqL K H1 a xs)
    (hs : ∀ D i x H1, H D = none → xs[i]? = some x → Pv D i H1 → g x (wipe σ vs) H1 fun σ2 H2 => wipe σ2 vs = wipe σ vs ∧ tt σ2 H2 fun b H3 => if b = true then te σ2 H3 fun y H4 => ∃ acc, H4 D = some (.lst acc) ∧ acc.length < sizeLine ∧ Pv D (i + 1) (upd H4 D (.lst (acc ++ [y]))) else Pv D (i + 1) H3)
    (hd : ∀ D H1, H D = none → Pv D xs.length H1 → Q (.ref D) H1) : ListK K (LcK g tt te vs σ Q) (.ref a) H :=
  ⟨a, rfl, ⟨xs, hS⟩, fun D hD => lc_list (K := K) (a := a) (xs := xs) (Pv D) (h0 D _ hD (Kp.new hD) upd_same) (fun i H1 hi p => hl D i H1 hD hi p) (fun i x H1 hx p => hs D i x H1 hD hx p) fun H1 p => hd D H1 hD p⟩
/-- over a tuple -/
def TupK (K : PySem.W.Frag) (R : It → Hp → Prop) (x : V) (H1 : Hp) : Prop := ∃ a, x = .ref a ∧ (∃ xs, SqT K H1 a xs) ∧ R (Itt K a) H1
theorem itup {R : It → Hp → Prop} (h : ta σ H (TupK K R)) : iTup K ta σ H R := h
theorem lct {g : TG} {tt : TT} {vs : List Nat} {a : Addr} (xs : List V) (hS : SqT K H a xs) (Pv : Addr → Nat → Hp → Prop) (h0 : ∀ D H1, H D = none → Kp [] H H1 → H1 D = some (.lst []) → Pv D 0 H1)
    (hl : ∀ D i H1, H D = none → i ≤ xs.length → Pv D i H1 → SqT K H1 a xs)
    (hs : ∀ D i x H1, H D = none → xs[i]? = some x → Pv D i H1 → g x (wipe σ vs) H1 fun σ2 H2 => wipe σ2 vs = wipe σ vs ∧ tt σ2 H2 fun b H3 => if b = true then te σ2 H3 fun y H4 => ∃ acc, H4 D = some (.lst acc) ∧ acc.length < sizeLine ∧ Pv D (i + 1) (upd H4 D (.lst (acc ++ [y]))) else Pv D (i + 1) H3)
    (hd : ∀ D H1, H D = none → Pv D xs.length H1 → Q (.ref D) H1) : TupK K (LcK g tt te vs σ Q) (.ref a) H :=
  ⟨a, rfl, ⟨xs, hS⟩, fun D hD => lc_tup (K := K) (a := a) (xs := xs) (Pv D) (h0 D _ hD (Kp.new hD) upd_same) (fun i H1 hi p => hl D i H1 hD hi p) (fun i x H1 hx p => hs D i x H1 hD hx p) fun H1 p => hd D H1 hD p⟩
theorem allL {a : Addr} {bs : List Bool} (h : SqL K H a (bs.map V.bl)) (q : Q (.bl (bs.all id)) H) : rAll K [.ref a] H Q := ⟨a, bs, rfl, h, q⟩
theorem anyL {a : Addr} {bs : List Bool} (h : SqL K H a (bs.map V.bl)) (q : Q (.bl (bs.any id)) H) : rAny K [.ref a] H Q := ⟨a, bs, rfl, h, q⟩
theorem forr {g : TG} {tb : TS} {e : Int} (n : Nat) (he : e = (n : Int)) (hb : n < 4611686018427387904) (Pv : Nat → St → Hp → Prop) (h0 : Pv 0 σ H)
    (hs : ∀ i σ H, i < n → Pv i σ H → g (.int (i : Int)) σ H fun σ2 H2 => tb { D with nx := Pv (i + 1), ct := Pv (i + 1), bk := D.nx } σ2 H2) (hd : ∀ σ H, Pv n σ H → D.nx σ H) : Rng1K (ForK g tb D σ) [.int e] H := by
  subst he
  refine ⟨(n : Int), rfl, by omega, by omega, ?_⟩
  rw [show ((n : Int)).toNat = n by simp]
  refine for_range (lo := 0) (n := n) Pv h0 (fun i σ H1 hi p => ?_) hd
  rw [show (0 : Int) + (i : Int) = (i : Int) by omega]
  exact hs i σ H1 hi p
theorem forl {g : TG} {tb : TS} {a : Addr} (xs : List V) (hS : SqL K H a xs) (Pv : Nat → St → Hp → Prop) (h0 : Pv 0 σ H) (hl : ∀ i σ H, i ≤ xs.length → Pv i σ H → SqL K H a xs)
    (hs : ∀ i x σ H, xs[i]? = some x → Pv i σ H → g x σ H fun σ2 H2 => tb { D with nx := Pv (i + 1), ct := Pv (i + 1), bk := D.nx } σ2 H2) (hd : ∀ σ H, Pv xs.length σ H → D.nx σ H) : ListK K (ForK g tb D σ) (.ref a) H :=
  ⟨a, rfl, ⟨xs, hS⟩, for_list (K := K) (a := a) (xs := xs) Pv h0 hl hs hd⟩
/-! texts -/
def StrK (R : It → Hp → Prop) (v : V) (H1 : Hp) : Prop := ∃ x, v = .str x ∧ R (Its x) H1
theorem istr {R : It → Hp → Prop} (h : ta σ H (StrK R)) : iStr ta σ H R := h
theorem fors {g : TG} {tb : TS} {x : Str} (Pv : Nat → St → Hp → Prop) (h0 : Pv 0 σ H)
    (hs : ∀ i c σ H, x.cps[i]? = some c → Pv i σ H → g (.str ⟨#[c]⟩) σ H fun σ2 H2 => tb { D with nx := Pv (i + 1), ct := Pv (i + 1), bk := D.nx } σ2 H2) (hd : ∀ σ H, Pv x.cps.size σ H → D.nx σ H) : StrK (ForK g tb D σ) (.str x) H :=
  ⟨x, rfl, for_it walk_str Pv h0 (fun _ _ _ _ _ => trivial) (fun i v σ H H' hi p y => by obtain ⟨rfl, c, hc, rfl⟩ := y; exact hs i c σ _ hc p) hd⟩
theorem lcs {g : TG} {tt : TT} {vs : List Nat} {x : Str} (Pv : Addr → Nat → Hp → Prop) (h0 : ∀ D H1, H D = none → Kp [] H H1 → H1 D = some (.lst []) → Pv D 0 H1)
    (hs : ∀ D i c H1, H D = none → x.cps[i]? = some c → Pv D i H1 → g (.str ⟨#[c]⟩) (wipe σ vs) H1 fun σ2 H2 => wipe σ2 vs = wipe σ vs ∧ tt σ2 H2 fun b H3 => if b = true then te σ2 H3 fun y H4 => ∃ acc, H4 D = some (.lst acc) ∧ acc.length < sizeLine ∧ Pv D (i + 1) (upd H4 D (.lst (acc ++ [y]))) else Pv D (i + 1) H3)
    (hd : ∀ D H1, H D = none → Pv D x.cps.size H1 → Q (.ref D) H1) : StrK (LcK g tt te vs σ Q) (.str x) H :=
  ⟨x, rfl, fun D hD => lc_it walk_str (Pv D) (h0 D _ hD (Kp.new hD) upd_same) (fun _ _ _ _ => trivial) (fun i v H H' hi p y => by obtain ⟨rfl, c, hc, rfl⟩ := y; exact hs D i c _ hD hc p) fun H1 p => hd D H1 hD p⟩
theorem lenS {x : Str} (hz : x.cps.size ≤ 10000000) (q : Q (.int (x.cps.size : Nat)) H) : rLenS [.str x] H Q := ⟨x, rfl, hz, q⟩
/-! enumerate -/
def EnumK (K : PySem.W.Frag) (R : It → Hp → Prop) (vs : List V) (H1 : Hp) : Prop := ∃ a xs, vs = [.ref a] ∧ SqL K H1 a xs ∧ R (Ite K a) H1
theorem ienum {a : TA} {R : It → Hp → Prop} (h : a σ H (EnumK K R)) : iEnum K a σ H R := h
theorem fore {g : TG} {tb : TS} {a : Addr} (xs : List V) (hS : SqL K H a xs) (Pv : Nat → St → Hp → Prop) (h0 : Pv 0 σ H) (hl : ∀ i σ H, i ≤ xs.length → Pv i σ H → SqL K H a xs)
    (hs : ∀ i x σ H H' T, xs[i]? = some x → Pv i σ H → H T = none → Kp [] H H' → H' T = some (.tup [.int (i : Nat), x]) → g (.ref T) σ H' fun σ2 H2 => tb { D with nx := Pv (i + 1), ct := Pv (i + 1), bk := D.nx } σ2 H2) (hd : ∀ σ H, Pv xs.length σ H → D.nx σ H) : EnumK K (ForK g tb D σ) [.ref a] H :=
  ⟨a, xs, rfl, hS, for_it (walk_enum (K := K) (a := a) (xs := xs)) Pv h0 hl (fun i v σ H H' hi p y => by
    obtain ⟨T, x, z, rfl, h1, rfl, h2, h3⟩ := y
    cases h2
    exact hs i z σ H _ T h3 p h1 (Kp.new h1) upd_same) hd⟩
/-! dicts -/
theorem dnew (h : ∀ p H1, H p = none → Kp [] H H1 → H1 p = some (.dK []) → Q (.ref p) H1) : tDNewK σ H Q := mk h
theorem din {ty td : TE} (h : ty σ H fun y H1 => td σ H1 fun x H2 => ∃ a o, x = .ref a ∧ DGet H2 a y o ∧ Q (.bl o.isSome) H2) : tDIn ty td σ H Q := h
theorem dput {td ty tv : TE} (h : tv σ H fun v H1 => td σ H1 fun x H2 => ty σ H2 fun y H3 => ∃ a H4, x = .ref a ∧ DPut H3 a y v H4 ∧ D.nx σ H4) : sDPut td ty tv D σ H := h
theorem dget2 {td ty tx : TE} (h : td σ H fun x H1 => ∃ a, x = .ref a ∧ IsD H1 a ∧ ty σ H1 fun y H2 => tx σ H2 fun z H3 => ∃ o, DGet H3 a y o ∧ Q (o.getD z) H3) : tDGet2 td ty tx σ H Q := h
theorem dget {td ty : TE} (h : td σ H fun x H1 => ty σ H1 fun y H2 => ∃ a v, x = .ref a ∧ DGet H2 a y (some v) ∧ Q v H2) : tDGet td ty σ H Q := h
/-! lists and tuples -/
theorem ixA {p : Addr} {xs : List V} {j : Int} (h : SqL K H p xs ∨ SqT K H p xs) (e : atI xs j = some v) (q : Q v H) : rIx K (.ref p) (.int j) H Q := h.elim (fun h => .inl (ixL h e q)) (fun h => .inr (.inl (ixT h e q)))
theorem lenA {a : Addr} {xs : List V} (h : SqL K H a xs ∨ SqT K H a xs) (q : Q (.int xs.length) H) : rLenN K [.ref a] H Q := ⟨a, xs, rfl, h, q⟩
theorem sl {r : V → Option Int → Option Int → Hp → VK → Prop} {tl th : TO} (h : ta σ H fun x H1 => tl σ H1 fun l H2 => th σ H2 fun u H3 => r x l u H3 Q) : tSl r ta tl th σ H Q := h
theorem slno {Q : Option Int → Hp → Prop} (h : Q none H) : tNoPart σ H Q := h
theorem slpart {Q : Option Int → Hp → Prop} (h : ta σ H fun x H1 => ∃ i, x = .int i ∧ Q (some i) H1) : tPart ta σ H Q := h
theorem bint {i : Int} {q : Int → Prop} (h : q i) : ∃ k, V.int i = .int k ∧ q k := ⟨i, rfl, h⟩
theorem slL {p : Addr} {xs : List V} {lo hi : Option Int} (h : SqL K H p xs) (q : ∀ d H1, H d = none → Kp [] H H1 → H1 d = some (.lst (cutV xs lo hi)) → Q (.ref d) H1) : rSlL K (.ref p) lo hi H Q := ⟨p, xs, rfl, h, mk q⟩
theorem cut_take {xs : List V} {k : Nat} (h : k ≤ xs.length) : cutV xs none (some (k : Int)) = xs.take k := by
  unfold cutV
  rw [HT.sIx_none, HT.sIx_nat, List.drop_zero, Nat.sub_zero, Nat.min_eq_left h]
theorem cut_drop {xs : List V} {k : Nat} (h : k ≤ xs.length) : cutV xs (some (k : Int)) none = xs.drop k := by
  unfold cutV
  rw [HT.sIx_none, HT.sIx_nat, Nat.min_eq_left h]
  exact List.take_of_length_le (by rw [List.length_drop] <;> omega)
theorem inq {neg : Bool} {p : Addr} {xs : List V} (h : SqL K H p xs ∨ SqT K H p xs) (fx : flatV x = true) (fs : xs.all flatV = true) (q : Q (.bl (if neg then !inV x xs else inV x xs)) H) : rIn K neg x (.ref p) H Q := ⟨p, xs, rfl, h, fx, fs, q⟩
theorem inV_strs {a : Str} {l : List Str} : inV (.str a) (l.map V.str) = decide (a ∈ l) := by
  unfold inV
  induction l with
  | nil => simp
  | cons b r ih =>
    rw [List.map_cons, List.any_cons, ih]
    show ((b == a) || _) = _
    by_cases e : b = a
    · subst e; simp
    · have e' : ¬ a = b := fun z => e z.symm
      simp [e, e']
theorem strs_flat {l : List Str} : (l.map V.str).all flatV = true := by simp [flatV]
theorem pop {l : Addr} {xs : List V} {y : V} (h : H l = some (.lst xs)) (e : xs[xs.length - 1]? = some y) (q : Q y (upd H l (.lst xs.dropLast))) : rPop (.ref l) [] H Q := ⟨l, xs, y, rfl, rfl, h, e, q⟩
def LRK (K : PySem.W.Frag) (Q : VK) (x : V) (H1 : Hp) : Prop := ∃ a xs, x = .ref a ∧ SqL K H1 a xs ∧ ∀ p, H1 p = none → Q (.ref p) (upd H1 p (.lst xs.reverse))
theorem listrev (h : ta σ H (LRK K Q)) : RL.tListRev K ta σ H Q := h
theorem lrk {a : Addr} {xs : List V} (hS : SqL K H a xs) (q : ∀ p H1, H p = none → Kp [] H H1 → H1 p = some (.lst xs.reverse) → Q (.ref p) H1) : LRK K Q (.ref a) H := ⟨a, xs, rfl, hS, mk q⟩
theorem popS {l : Addr} {xs : List V} {y : V} (h : H l = some (.lst (xs ++ [y]))) (q : Q y (upd H l (.lst xs))) : rPop (.ref l) [] H Q := ⟨l, _, y, rfl, rfl, h, by simp, by rw [List.dropLast_concat]; exact q⟩
theorem extT {l b : Addr} {xs zs : List V} (h : H l = some (.lst xs)) (h2 : H b = some (.tup zs)) (hz : xs.length + zs.length ≤ 10000000) (q : Q .non (upd H l (.lst (xs ++ zs)))) : RL.rExtT (.ref l) [.ref b] H Q := ⟨l, b, xs, zs, rfl, rfl, h, h2, Nat.le_trans hz (by decide), q⟩
theorem slT {p : Addr} {xs : List V} {k : Nat} (h : SqT K H p xs) (h0 : 0 < k) (h1 : k ≤ xs.length) (q : ∀ d H1, H d = none → Kp [] H H1 → H1 d = some (.tup (xs.drop k)) → Q (.ref d) H1) : rSlT K (.ref p) (some (k : Int)) none H Q := ⟨p, xs, rfl, h, fun z => by
  rw [HT.sIx_nat, Nat.min_eq_left h1] at z
  omega, mk (by rw [cut_drop h1]; exact q)⟩
theorem revl (h : ta σ H (LRK K Q)) : tRevL K ta σ H Q := h
theorem idx {a : Addr} {ys : List V} {y : V} (j : Nat) {z : V} (hS : SqL K H a ys) (fy : flatV y = true) (fs : ys.all flatV = true) (hz : ys[j]? = some z) (hy : eqV z y = true) (hn : ∀ (m : Nat) (z' : V), m < j → ys[m]? = some z' → eqV z' y = false) (q : Q (.int (j : Nat)) H) : rIndex K (.ref a) [y] H Q := ⟨a, ys, y, j, z, rfl, rfl, hS, fy, fs, hz, hy, hn, q⟩
theorem truL {p : Addr} {xs : List V} {q : Bool → Prop} (h : H p = some (.lst xs)) (hq : q (!xs.isEmpty)) : ∃ k, TruV K (.ref p) H k ∧ q k := ⟨_, .inl ⟨xs, lstL h, rfl⟩, hq⟩
theorem glst {n : Nat} {t : TGs} {a : Addr} {xs : List V} {Q : St → Hp → Prop} (h : SqL K H a xs) (e : xs.length = n) (q : t xs σ H Q) : gLst K n t (.ref a) σ H Q := ⟨a, xs, rfl, h, e, q⟩
def rSplitQ : V → List V → Hp → VK → Prop := fun x xs H Q => ∃ a b, x = .str a ∧ xs = [.str b] ∧ (b.length == 0) = false ∧ a.length + 2 ≤ sizeLine ∧ rNewStrs (Txt.split a b) H Q
theorem m_split {X : Cx} : MtR X "str.split" rSplitQ := mt_split
theorem split {a b : Str} (hb : (b.length == 0) = false) (hz : a.length ≤ 10000000) (q : ∀ p H1, H p = none → Kp [] H H1 → H1 p = some (.lst ((Txt.split a b).map V.str)) → Q (.ref p) H1) : rSplitQ (.str a) [.str b] H Q := ⟨a, b, rfl, rfl, hb, Nat.le_trans (Nat.add_le_add_right hz 2) (by decide), mk q⟩
def EnSK (K : PySem.W.Frag) (R : It → Hp → Prop) (vs zs : List V) (H2 : Hp) : Prop := ∃ a xs k, vs = [.ref a] ∧ zs = [.int k] ∧ -(2 ^ 63) ≤ k ∧ k < 2 ^ 63 ∧ SqL K H2 a xs ∧ R (RL.IteS K a k) H2
theorem ienumS {a b : TA} {R : It → Hp → Prop} (h : a σ H fun vs H1 => b σ H1 fun zs H2 => EnSK K R vs zs H2) : RL.iEnumS K a b σ H R := h
theorem walk_enumS {a : Addr} {xs : List V} {k : Int} : Walk (RL.IteS K a k) xs.length (fun H => SqL K H a xs) (YPair (fun i => some (.int (k + (i : Nat)))) (fun i => xs[i]?)) := by
  refine ⟨fun i _ hi q => ⟨xs, xs[i], q, by simp [hi]⟩, fun _ q => ⟨xs, q, rfl⟩, fun i H v H' _ q y => ?_⟩
  obtain ⟨T, x, h1, h2, h3, h4⟩ := y
  exact ⟨T, .int (k + (i : Nat)), x, h1, h2, h3, rfl, h4 xs q⟩
theorem fores {g : TG} {tb : TS} {a : Addr} {k : Int} (xs : List V) (hk0 : -(2 ^ 63) ≤ k) (hk1 : k < 2 ^ 63) (hS : SqL K H a xs) (Pv : Nat → St → Hp → Prop) (h0 : Pv 0 σ H) (hl : ∀ i σ H, i ≤ xs.length → Pv i σ H → SqL K H a xs)
    (hs : ∀ i x σ H H' T, xs[i]? = some x → Pv i σ H → H T = none → Kp [] H H' → H' T = some (.tup [.int (k + (i : Nat)), x]) → g (.ref T) σ H' fun σ2 H2 => tb { D with nx := Pv (i + 1), ct := Pv (i + 1), bk := D.nx } σ2 H2) (hd : ∀ σ H, Pv xs.length σ H → D.nx σ H) : EnSK K (ForK g tb D σ) [.ref a] [.int k] H :=
  ⟨a, xs, k, rfl, rfl, hk0, hk1, hS, for_it (walk_enumS (K := K) (a := a) (xs := xs) (k := k)) Pv h0 hl (fun i v σ H H' hi p y => by
    obtain ⟨T, x, z, rfl, h1, rfl, h2, h3⟩ := y
    cases h2
    exact hs i z σ H _ T h3 p h1 (Kp.new h1) upd_same) hd⟩
/-- an f-string of two parts or more -/
def tJoin (ts : List TE) : TE := fun σ H Q => tJs ts Str.empty σ H fun out H1 => Q (.str out) H1
theorem pe_joinedN {X : Cx} {v1 v2 : Expr} {rest : List Expr} {ts : List TE} {pos : Pos} (h : PJ X (v1 :: v2 :: rest) ts) : PE X (.JoinedStr (v1 :: v2 :: rest) pos) (tJoin ts) := pe_joined h
def rJoinQ (K : PySem.W.Frag) : V → List V → Hp → VK → Prop := fun x xs H Q => ∃ a p, ∃ ys : List Str, x = .str a ∧ xs = [.ref p] ∧ (SqL K H p (ys.map V.str) ∨ SqT K H p (ys.map V.str)) ∧ (ys.map (·.length)).sum + ys.length * a.length ≤ 16777216 ∧ Q (.str (Txt.join a ys)) H
theorem m_join {X : Cx} : MtR X "str.join" (rJoinQ X.K) := mt_join
theorem join {a : Str} {p : Addr} {ys : List Str} (h : SqL K H p (ys.map V.str)) (hz : (ys.map (·.length)).sum + ys.length * a.length ≤ 16777216) (q : Q (.str (Txt.join a ys)) H) : rJoinQ K (.str a) [.ref p] H Q := ⟨a, p, ys, rfl, rfl, .inl h, hz, q⟩
theorem lens_le {n : Nat} : ∀ {ys : List Str}, (∀ y ∈ ys, y.length ≤ n) → (ys.map (·.length)).sum ≤ n * ys.length
  | [], _ => by simp
  | y :: r, h => by
    have h1 := h y (by simp)
    have h2 := lens_le (n := n) (ys := r) fun z hz => h z (by simp [hz])
    rw [List.map_cons, List.sum_cons, List.length_cons, Nat.mul_add]
    omega
theorem mulS {x : Str} {k : Nat} (h1 : 2 ≤ k) (h2 : k ≤ 100000) (h3 : 1 ≤ x.length) (h4 : x.length ≤ 100) (q : Q (.str (RL.repS x k)) H) : RL.rMulS (.str x) (.int (k : Int)) H Q := ⟨x, k, rfl, rfl, h1, h2, h3, h4, q⟩
theorem cat {l b : Addr} {xs zs : List V} (h : H l = some (.lst xs)) (h2 : H b = some (.lst zs)) (hz : xs.length + zs.length ≤ 100000) (q : ∀ p H1, H p = none → Kp [] H H1 → H1 p = some (.lst (xs ++ zs)) → Q (.ref p) H1) : rCat (.ref l) (.ref b) H Q := ⟨l, b, xs, zs, rfl, rfl, h, h2, Nat.le_trans hz (by decide), mk q⟩
end
end Z

/-! ### ClsM: classmethods and methods within a try, a class in a local name -/
namespace ClsM
open PySem PySem.Spec PyProof.Rows L2
/-- how the text of o.m(..) is run -/
abbrev MForm (X : Cx) (o : Expr) (m : Str) (es : List Expr) (apos pos : Pos) (pl : Sem Bool) : Prop := eval (.Call (.Attribute o m apos) es [] pos) X.env = (do let ov ← eval o X.env; standAt apos.atName; let (f, first) ← holding [ov] (getMethod ov m pl); callWith pos f first (backTo pos (starEach es X.env)) (backToKw pos (keywordEach [] X.env)))
section
variable {X : Cx} {CX : CXT} {k i : Nat} {f C p g : Addr} {fd : FuncData} {ps : List Str} {sp : Sp} {E : L2.St → XK} {E1 : XK} {m x : Str} {pos apos : Pos} {o e : Expr} {es : List Expr} {ta : TE} {t : TA} {pl : Sem Bool} {mc : Value}
/-- o.m(e, ..) within a try -/
def tMethA (C : Addr) (m : Str) (sp : Sp) (E : L2.St → XK) (ta : TE) (t : TA) : TE := fun σ H Q => ta σ H fun x H1 => ∃ a dx fs, x = .ref a ∧ H1 a = some (.ins C dx fs) ∧ fs.lookup m = none ∧ t σ H1 fun vs H2 => sp (x :: vs) H2 Q (E σ)
theorem pe_methA (he : PE X o ta) (c : Cls X.K C) (hm : Meth X.K C m f) (F : FnOk X.prog X.w X.K X.mg X.base CX k f fd ps sp) (hr : Room k X.A) (hb : Binds X.K fd ps []) (hx : ∀ σ, PassesAt CX X σ (E σ)) (ha : PA X (e :: es) t) (hst : starEach (e :: es) X.env = (false, eval e X.env) :: starEach es X.env := by rfl) (hpl : (backTo pos (starEach es X.env)).any (·.1) = false := by rfl) (ht : MForm X o m (e :: es) apos pos pl := by rfl) :
    PE X (.Call (.Attribute o m apos) (e :: es) [] pos) (tMethA C m sp E ta t) := by
  refine ⟨fun pins s σ H Q I h => PySem.W.methodCall_KW (pl := pl) (thn (he.run pins s σ H _ I h) fun u s1 ⟨x, H1, I1, rx, a, dx, fs, ex, ea, l, q⟩ => ?_) ht⟩
  subst ex
  obtain rfl : u = Value.ref a := rx
  exact getmeth_ok I1 ea c hm l (PySem.W.callWith_K (first := [.ref a]) (h₀ := X.base) I.ok.mod.kin hm.kp (thn (ha.run pos pins s1 σ H1 _ I1 q) fun us s2 ⟨vs, H2, I2, r, q2⟩ => ⟨I2.kIn, run_fnS (us := .ref a :: us) (vs := .ref a :: vs) F hr hb (hx σ) I2 (.cons rfl r) q2⟩) hst hpl)
theorem methA {σ : L2.St} {H : Hp} {Q : VK} (h : ta σ H fun x H1 => ∃ a dx fs, x = .ref a ∧ H1 a = some (.ins C dx fs) ∧ fs.lookup m = none ∧ t σ H1 fun vs H2 => sp (x :: vs) H2 Q (E σ)) : tMethA C m sp E ta t σ H Q := h
/-- the call of a bound classmethod, at the slots σ -/
theorem run_cmS {q : Addr} {pins : List (Addr × Obj)} {σ : L2.St} {H : Hp} {s : Shared} {Q : VK} {us : List Value} {vs : List V} (F : FnOk X.prog X.w X.K X.mg X.base CX k g fd ps sp) (hb : Binds X.K fd ps []) (hr : Room k X.A) (hx : PassesAt CX X σ (E σ)) (I : Inv X ((q, PySem.W.methodObj (.ref g) (.ref C)) :: pins) σ H s) (r : Vals vs us) (h : sp (.ref C :: vs) H Q (E σ)) : wpAny (model X.prog X.w) X.A (call (.ref q) us) (EP X pins σ Q) X.xe s := by
  have hl : (Value.ref C :: us).length = ps.length := by rw [← F.len _ _ _ _ h]; exact congrArg Nat.succ r.length.symm
  have b := hb s (.ref C :: us) I.kIn (by rw [List.append_nil]; exact hl)
  rw [List.append_nil] at b
  have z : wpAny (model X.prog X.w) X.A (call (.ref q) us) (EP X ((q, PySem.W.methodObj (.ref g) (.ref C)) :: pins) σ Q) X.xe s := by
    refine wpAny_call (PySem.W.method_call (ClX.pin_at I) (codeAny_mono (F.run X.A X.stack s H ⟨.ref C :: us, []⟩ (.ref C :: us) (.ref C :: vs) Q (E σ) hr I.env0 b (.cons rfl r) h) fun y s' hq => ?_))
    match y, hq with
    | .error e, hq => exact hx _ H s e s' I hq
    | .ok (.ret u), hq => exact I.after hq
    | .ok .next, hq => exact False.elim hq
    | .ok .brk, hq => exact False.elim hq
    | .ok .cont, hq => exact False.elim hq
  exact thn z fun _ _ y => ClX.unpinE y
/-- C.m(e, ..), m a classmethod of the class C, within a try -/
def tCMeth (C : Addr) (sp : Sp) (E : L2.St → XK) (ta : TE) (t : TA) : TE := fun σ H Q => ta σ H fun x H1 => x = .ref C ∧ t σ H1 fun vs H2 => sp (.ref C :: vs) H2 Q (E σ)
theorem pe_cm (he : PE X o ta) (r : ClX.CRead X.K C mc) (c : ClX.CMet X.K C mc m p g) (F : FnOk X.prog X.w X.K X.mg X.base CX k g fd ps sp) (hb : Binds X.K fd ps []) (hr : Room k X.A) (hx : ∀ σ, PassesAt CX X σ (E σ)) (ha : PA X (e :: es) t) (hst : starEach (e :: es) X.env = (false, eval e X.env) :: starEach es X.env := by rfl) (hpl : (backTo pos (starEach es X.env)).any (·.1) = false := by rfl) (ht : MForm X o m (e :: es) apos pos pl := by rfl) :
    PE X (.Call (.Attribute o m apos) (e :: es) [] pos) (tCMeth C sp E ta t) := by
  refine ⟨fun pins s σ H Q I h => PySem.W.methodCall_KW (pl := pl) (thn (he.run pins s σ H _ I h) fun u s1 ⟨x, H1, I1, rx, ex, q⟩ => ?_) ht⟩
  subst ex
  obtain rfl : u = Value.ref C := rx
  refine ClX.getmethcm_ok I1 r c fun s2 I2 => ClX.callwith_cm I2 (ClX.base_none I1 (Nat.le_refl _)) c.fi (thn (ha.run pos _ s2 σ H1 _ I2 q) fun us s3 ⟨vs, H2, I3, rv, q2⟩ => ⟨⟨ClX.pin_at I3, I3.kIn⟩, ?_⟩) hst hpl
  exact run_cmS F hb hr (hx σ) I3 rv q2
theorem cm {σ : L2.St} {H : Hp} {Q : VK} (h : ta σ H fun x H1 => x = .ref C ∧ t σ H1 fun vs H2 => sp (.ref C :: vs) H2 Q (E σ)) : tCMeth C sp E ta t σ H Q := h
theorem passC {E0 : XK} (hx : Passes CX X E0) (σ : L2.St) : PassesAt CX X σ ((fun _ => E0) σ) := fun pins H s e s' I c => hx pins σ H s e s' I c
/-- n(e, ..), the local n the class C -/
def tMakeL (i : Nat) (C : Addr) (sp : Sp) (t : TA) : TE := fun σ H Q => σ[i]? = some (some (.ref C)) ∧ t σ H fun vs H1 => ∀ x dx, H1 x = none → H1 dx = none → dx ≠ x → sp (.ref x :: (vs ++ [])) (upd (upd H1 dx (.own x)) x (.ins C dx [])) (fun v H2 => v = .non ∧ Q (.ref x) H2) E0
theorem pe_makeL {pp : Pos} (M : Mk X.K C f) (F : FnOk X.prog X.w X.K X.mg X.base CX k f fd ps sp) (hr : Room (k + 1) X.A) (hN : X.N[i]? = some x) (hv : Vis X.env.scope x) (hb : Binds X.K fd ps []) (hx : Passes CX X E0) (ha : PA X (e :: es) t) (hdb : (x == ("__debug__" : Str)) = false := by decide) (hcd : (x == ("__classdict__" : Str)) = false := by decide)
    (he : starEach (e :: es) X.env = (false, eval e X.env) :: starEach es X.env := by rfl) (hpl : (backTo pos (starEach es X.env)).any (·.1) = false := by rfl) : PE X (.Call (.Name x pp) (e :: es) [] pos) (tMakeL i C sp t) := by
  refine ⟨fun pins s σ H Q I ⟨hs, ht⟩ => wpAny_Call_Name_kw (thn ((pe_var (pos := pp) hN hv hdb hcd).run pins s σ H (fun v H1 => v = .ref C ∧ H1 = H) I ⟨.ref C, hs, rfl, rfl⟩) fun u s1 ⟨v, H1, I1, r1, q1⟩ => ?_)⟩
  obtain ⟨rfl, rfl⟩ := q1
  cases r1
  exact PySem.W.callWith_K (h₀ := X.base) I.ok.mod.kin M.kp (thn (ha.run pos pins s1 σ _ _ I1 ht) fun us s2 ⟨vs, H2, I2, r, q⟩ => ⟨I2.kIn, run_make M F hr hb .nil hx I2 r q⟩) he hpl
theorem makeL {σ : L2.St} {H : Hp} {Q : VK} (hs : σ[i]? = some (some (.ref C))) (h : t σ H fun vs H1 => ∀ x dx, H1 x = none → H1 dx = none → dx ≠ x → sp (.ref x :: (vs ++ [])) (upd (upd H1 dx (.own x)) x (.ins C dx [])) (fun v H2 => v = .non ∧ Q (.ref x) H2) E0) : tMakeL i C sp t σ H Q := ⟨hs, h⟩
theorem fldK {f : Str} (K : PySem.W.Frag) (hK : X.K = K) (h : PE X e (tFld X.K ta f)) : PE X e (tFld K ta f) := hK ▸ h
theorem bmK {T : String} {r : V → List V → Hp → VK → Prop} (K : PySem.W.Frag) (hK : X.K = K) (h : PE X e (tBM X.K T r ta t)) : PE X e (tBM K T r ta t) := hK ▸ h
end
end ClsM

/-! ### Many: a try with several clauses, with or without names -/
namespace Many
open PySem PySem.Spec PyProof.Rows L2
/-- a clause: its class, the slot of its name, what its suite does -/
structure Cl where
  c : Value
  at_ : Option Nat
  ts : Addr → Value → Option Addr → TS
def gone : Option Nat → L2.St → L2.St
  | none, σ => σ
  | some i, σ => σ.set i none
def bound : Option Nat → Addr → L2.St → L2.St
  | none, _, σ => σ
  | some i, a, σ => σ.set i (some (.ref a))
def ends : Option Nat → Ends → Ends
  | none, D => D
  | some i, D => { nx := fun σ H => D.nx (σ.set i none) H, rt := D.rt, bk := fun σ H => D.bk (σ.set i none) H, ct := fun σ H => D.ct (σ.set i none) H }
/-- what the clauses wish, the first that fits -/
def wish (K : PySem.W.Frag) (out : WX) (D : Ends) : List Cl → WX
  | [] => out
  | k :: r => fun cls d σ H => ∃ b, PySem.W.exmOne K cls k.c = some b ∧ (b = true → ∀ a, H a = none → k.ts a cls d (ends k.at_ D) (bound k.at_ a σ) H) ∧ (b = false → wish K out D r cls d σ H)
theorem wish_yes {K : PySem.W.Frag} {out : WX} {D : Ends} {k : Cl} {r : List Cl} {cls : Value} {d : Option Addr} {σ : L2.St} {H : Hp} (e : PySem.W.exmOne K cls k.c = some true) (h : ∀ a, H a = none → k.ts a cls d (ends k.at_ D) (bound k.at_ a σ) H) : wish K out D (k :: r) cls d σ H := ⟨true, e, fun _ => h, fun z => by cases z⟩
theorem wish_no {K : PySem.W.Frag} {out : WX} {D : Ends} {k : Cl} {r : List Cl} {cls : Value} {d : Option Addr} {σ : L2.St} {H : Hp} (e : PySem.W.exmOne K cls k.c = some false) (h : wish K out D r cls d σ H) : wish K out D (k :: r) cls d σ H := ⟨false, e, (fun z => by cases z), fun _ => h⟩
inductive Ok (X : Cx) : List ExceptHandler → List Cl → Prop
  | nil : Ok X [] []
  | bare {x : Str} {c : Value} {ts : Addr → Value → Option Addr → TS} {b₀ : Stmt} {su : List Stmt} {p q : Pos} {hs : List ExceptHandler} {l : List Cl} (hc : Names X x c) (hb : ∀ (a : Addr) (oe : Obj) (cls : Value) (d : Option Addr) (pn : List (Addr × Obj)), Zc cls d oe → (∃ vs, oe.data = .fields vs) → PSs (X.suite a ((a, oe) :: pn)) (b₀ :: su) (ts a cls d)) (r : Ok X hs l) : Ok X (.ExceptHandler (some (.Name x p)) none (b₀ :: su) q :: hs) (⟨c, none, ts⟩ :: l)
  | named {x n : Str} {c : Value} {ts : Addr → Value → Option Addr → TS} {i : Nat} {b₀ : Stmt} {su : List Stmt} {p q : Pos} {hs : List ExceptHandler} {l : List Cl} (hN : X.N.Nodup) (hi : X.N[i]? = some n) (hl : X.env.kindOf n = some .local) (hc : Names X x c) (hb : ∀ (a : Addr) (oe : Obj) (cls : Value) (d : Option Addr) (pn : List (Addr × Obj)), Zc cls d oe → (∃ vs, oe.data = .fields vs) → PSs (X.suite a ((a, oe) :: pn)) (b₀ :: su) (ts a cls d)) (r : Ok X hs l) : Ok X (.ExceptHandler (some (.Name x p)) (some n) (b₀ :: su) q :: hs) (⟨c, some i, ts⟩ :: l)
section
variable {X : Cx} {body : List Stmt} {h₀ : ExceptHandler} {hds : List ExceptHandler} {l : List Cl} {pos : Pos} {tb : WX → TS} {out : WX}
theorem ps_try_named (hs : X.stack = X.env :: X.outer) (hf : X.env.frame = some X.env.locals) (tk : Takes X out)
    (hb : ∀ (W : WX) (pn : List (Addr × Obj)) (xe : Value → Shared → Prop), Takes (X.tr pn xe) W → PassesOwn (model X.prog X.w) X.A X.env xe → PSs (X.tr pn xe) body (tb W)) (hh : Ok X (h₀ :: hds) l) :
    PS X (.Try body (h₀ :: hds) [] [] pos) (fun D σ H => tb (wish X.K out D l) D σ H) := by
  refine ⟨fun pins s σ H D I h => ?_⟩
  have ok := I.ok; have hfr : X.A.frames = some (X.env :: X.outer) := by rw [ok.frames, hs]
  refine wpAny_Try_except ?_
  refine wpAny_mono ((hb (wish X.K out D l) (X.pn ++ pins) (fun e s₁ => wpAny (model X.prog X.w) X.A (noteFrame e X.env) (fun _ s₂ => wpAny (model X.prog X.w) X.A (setFlight e none) (fun _ s₃ => wpAny (model X.prog X.w) X.A (handleBy e X.env (h₀ :: hds)) (SP X pins D) X.xe s₃) X.xe s₂) X.xe s₁) (fun u s' xx => ?_) PassesOwn.looking).run [] s σ H D (I.toTry _) h) (fun f s1 hsp => ?_) (fun e s1 he => he)
  · obtain ⟨a, B, sI, pins', σ', H', cls, d, rfl, J', nb, up, sky, na, os, ag, w⟩ := xx
    have J : Inv X pins σ' H' sI := J'.ofTry ok; have sky' : Sky B (X.env :: X.outer) a (Zc cls d) X.env.locals s'.heap := by rw [← hs]; exact sky
    show wpAny (model X.prog X.w) X.A (noteFrame (.ref a) X.env) _ _ _
    refine Sky.land Zc.steady hfr hf sky' fun h3 fl3 up3 => ?_
    have J3 : Inv X pins σ' H' { s' with heap := h3 } := J.landed nb fl3.1 (up.trans up3) os ag; obtain ⟨oe3, vs3, he3, hz3, hd3⟩ := fl3.there
    have nfr : a ∉ frs (X.env :: X.outer) := fun hm => by
      obtain ⟨_, o', e', hnf⟩ := fl3.2.2.1.mem hm
      rw [he3] at e'; cases e'; exact hnf _ hd3
    have nL : a ≠ X.env.locals := fun z => nfr (List.mem_filterMap.mpr ⟨X.env, List.mem_cons_self, by rw [hf, z]⟩)
    have nF : a ∉ X.fs := fun hm => by
      obtain ⟨e, he, q⟩ := List.mem_filterMap.mp hm; exact nfr (List.mem_filterMap.mpr ⟨e, List.mem_cons_of_mem _ he, q⟩)
    have S3 := J3.suite he3 hd3 na nL nF
    have go : ∀ {hs' : List ExceptHandler} {l' : List Cl}, Ok X hs' l' → wish X.K out D l' cls d σ' H' → wpAny (model X.prog X.w) X.A (handleBy (.ref a) X.env hs') (SP X pins D) X.xe { s' with heap := h3 } := by
      intro hs' l' hk
      have test : ∀ {x : Str} {c : Value} {np : Pos} {Q : Value → Shared → Prop} {E : Value → Shared → Prop}, Names X x c → Q c { s' with heap := h3 } → wpAny (model X.prog X.w) (X.A.mark (some (.ref a))) (eval (.Name x np) X.env) Q E { s' with heap := h3 } := fun {x c np Q E} hc q => by
        obtain ⟨hg, hdbg, hm | ⟨hm, hv, hnn⟩⟩ := hc
        · exact ld_glob (X := X.suite a ((a, oe3) :: (X.pn ++ pins))) S3 hg hm q hdbg
        · exact ld_blt (X := X.suite a ((a, oe3) :: (X.pn ++ pins))) S3 hg hm hv q hnn hdbg
      have LT : PySem.W.Looks (model X.prog X.w) h3 (typeOf (.ref a)) cls := fun A Q E s k q => wpAny_typeOf_ref (k _ _ he3) (by rw [hz3.1]; exact q)
      induction hk with
      | nil =>
        intro w
        refine wpAny_handleBy_nil ?_
        obtain ⟨k1, k2, k3, oe, vs, T, oT, ts', he, hz, hd, h1, hr⟩ := id fl3; unfold PySem.passOn
        refine wpAny_bind (wpAny_field he hd h1 ?_); rw [if_neg (show ¬ ((Value.ref T == Value.none) = true) from by simp)]
        have fin : wpAny (model X.prog X.w) X.A (setFlight (.ref a) X.env.frame) (fun _ s4 => wpAny (model X.prog X.w) X.A (throw (.ref a) : Sem Flow) (SP X pins D) X.xe s4) X.xe { s' with heap := h3 } := by
          rw [hf]; exact HandSPX.setFlight_upZ fl3 fun h4 hh4 up4 => wpAny_throw (tk _ _ ⟨a, B, sI, pins, σ', H', cls, d, rfl, J, nb, (up.trans up3).trans up4, .inr (.inr (by rw [hs]; exact hh4)), na, os, ag, w⟩)
        first | exact wpAny_bind (wpAny_pure (wpAny_bind fin)) | exact wpAny_bind fin
      | @bare x c ts b₀ su p q hs2 l2 hc hsu r ih =>
        intro w
        obtain ⟨b, hb1, hyes, hno⟩ := w
        refine wpAny_handleBy_cons (codeAny_handlers_test ?_) (by intro q; cases q)
        refine test hc ((PySem.W.exm_one (M := model X.prog X.w) (J3.kIn) LT hb1).here ?_)
        cases b with
        | true =>
          refine codeAny_handlers_suite (HandSPX.lands_againZ fl3 fun h4 fl4 up4 => ?_)
          have J4 : Inv X pins σ' H' { s' with heap := h4 } := J.landed nb fl4.1 ((up.trans up3).trans up4) os ag; obtain ⟨oe4, vs4, he4, hz4, hd4⟩ := fl4.there
          have S4 := J4.suite he4 hd4 na nL nF; have y := hyes rfl a na
          refine wpAny_mono ((hsu a oe4 cls d (X.pn ++ pins) hz4 ⟨_, hd4⟩).run [] _ _ H' _ S4 y) (fun f s6 hsp => ?_) (fun _ _ z => False.elim z)
          cases f with
          | ret u => obtain ⟨v6, σ6, H6, S6, r6, q6⟩ := hsp; exact ⟨_, _, _, S6.unsuite ok, r6, q6⟩
          | next => obtain ⟨σ6, H6, S6, q6⟩ := hsp; exact ⟨_, _, S6.unsuite ok, q6⟩
          | brk => obtain ⟨σ6, H6, S6, q6⟩ := hsp; exact ⟨_, _, S6.unsuite ok, q6⟩
          | cont => obtain ⟨σ6, H6, S6, q6⟩ := hsp; exact ⟨_, _, S6.unsuite ok, q6⟩
        | false => exact ih (hno rfl)
      | @named x n c ts i b₀ su p q hs2 l2 hN hi hl hc hsu r ih =>
        intro w
        obtain ⟨b, hb1, hyes, hno⟩ := w
        refine wpAny_handleBy_cons (codeAny_handlers_test ?_) (by intro q; cases q)
        refine test hc ((PySem.W.exm_one (M := model X.prog X.w) (J3.kIn) LT hb1).here ?_)
        cases b with
        | true =>
          refine codeAny_handlers_suite_as (HandSPX.lands_againZ fl3 fun h4 fl4 up4 => ?_)
          have J4 : Inv X pins σ' H' { s' with heap := h4 } := J.landed nb fl4.1 ((up.trans up3).trans up4) os ag; obtain ⟨oe4, vs4, he4, hz4, hd4⟩ := fl4.there
          have S4 := J4.suite he4 hd4 na nL nF; have y := hyes rfl a na
          refine store_ok (X := X.suite a ((a, oe4) :: (X.pn ++ pins))) (v := .ref a) S4 hN hi (show Loc X.env.scope n from .inl hl) rfl (fun s5 S5 => ?_) (.inr hl)
          refine wpAny_mono ((hsu a oe4 cls d (X.pn ++ pins) hz4 ⟨_, hd4⟩).run [] s5 _ H' _ S5 y) (fun f s6 hsp => ?_) (fun _ _ z => False.elim z)
          have fin : ∀ {σ6 : L2.St} {H6 : Hp} {Q : Shared → Prop}, Inv (X.suite a ((a, oe4) :: (X.pn ++ pins))) [] σ6 H6 s6 → (∀ s7, Inv X pins (σ6.set i none) H6 s7 → Q s7) → wpAny (model X.prog X.w) X.A (do bindName X.env n .none; unbindBehindTheSuite X.env n q) (fun _ s7 => Q s7) X.xe s6 := fun {σ6 H6 Q} S6 hq => gone_ok (S6.unsuite ok) hN hi hl hq
          cases f with
          | ret u => obtain ⟨v6, σ6, H6, S6, r6, q6⟩ := hsp; exact fin S6 fun s7 J7 => ⟨_, _, _, J7, r6, q6⟩
          | next => obtain ⟨σ6, H6, S6, q6⟩ := hsp; exact fin S6 fun s7 J7 => ⟨_, _, J7, q6⟩
          | brk => obtain ⟨σ6, H6, S6, q6⟩ := hsp; exact fin S6 fun s7 J7 => ⟨_, _, J7, q6⟩
          | cont => obtain ⟨σ6, H6, S6, q6⟩ := hsp; exact fin S6 fun s7 J7 => ⟨_, _, J7, q6⟩
        | false => exact ih (hno rfl)
    exact go hh w
  · cases f with
    | ret u => obtain ⟨v, σ', H', J', r, q⟩ := hsp; exact ⟨v, σ', H', J'.ofTry ok, r, q⟩
    | next => obtain ⟨σ', H', J', q⟩ := hsp; exact wpAny_execs_nil ⟨σ', H', J'.ofTry ok, q⟩
    | brk => obtain ⟨σ', H', J', q⟩ := hsp; exact ⟨σ', H', J'.ofTry ok, q⟩
    | cont => obtain ⟨σ', H', J', q⟩ := hsp; exact ⟨σ', H', J'.ofTry ok, q⟩
end
end Many

set_option maxRecDepth 100000

namespace K58
open PySem L2 Z
def topS (i : Nat) : Stmt := PySem.Challenge.pw_samphire_k58_plans_checked.main.body.getD i (.Pass ⟨0, 0, 0, 0⟩)
abbrev s_made_of : Stmt := topS 5
abbrev N_made_of : List Str := ["text", "signs", "sign"]
theorem sc_made_of : FnScope N_made_of ["text", "signs"] (defScope s_made_of) := ⟨rfl, rfl, rfl, by decide +kernel, rfl, by decide +kernel, by decide +kernel⟩
abbrev s_is_name : Stmt := topS 8
abbrev N_is_name : List Str := ["text"]
theorem sc_is_name : FnScope N_is_name ["text"] (defScope s_is_name) := ⟨rfl, rfl, rfl, by decide +kernel, rfl, by decide +kernel, by decide +kernel⟩
abbrev s_check_plan : Stmt := topS 13
abbrev N_check_plan : List Str := ["rules", "others", "pairs", "group", "kind", "size"]
theorem sc_check_plan : FnScope N_check_plan ["rules", "others"] (defScope s_check_plan) := ⟨rfl, rfl, rfl, by decide +kernel, rfl, by decide +kernel, by decide +kernel⟩
abbrev s_Plan_init : Stmt := inClass (topS 14) 0
abbrev N_Plan_init : List Str := ["self", "rules", "others", "reason"]
theorem sc_Plan_init : FnScope N_Plan_init ["self", "rules", "others"] (defScope s_Plan_init) := ⟨rfl, rfl, rfl, by decide +kernel, rfl, by decide +kernel, by decide +kernel⟩
abbrev s_Plan_place_of : Stmt := inClass (topS 14) 1
abbrev N_Plan_place_of : List Str := ["self", "group"]
theorem sc_Plan_place_of : FnScope N_Plan_place_of ["self", "group"] (defScope s_Plan_place_of) := ⟨rfl, rfl, rfl, by decide +kernel, rfl, by decide +kernel, by decide +kernel⟩
abbrev s_Plan_places : Stmt := inClass (topS 14) 2
abbrev N_Plan_places : List Str := ["self"]
theorem sc_Plan_places : FnScope N_Plan_places ["self"] (defScope s_Plan_places) := ⟨rfl, rfl, rfl, by decide +kernel, rfl, by decide +kernel, by decide +kernel⟩
abbrev s_Plan_rule : Stmt := inClass (topS 14) 3
abbrev N_Plan_rule : List Str := ["self", "place"]
theorem sc_Plan_rule : FnScope N_Plan_rule ["self", "place"] (defScope s_Plan_rule) := ⟨rfl, rfl, rfl, by decide +kernel, rfl, by decide +kernel, by decide +kernel⟩
abbrev s_same_plan : Stmt := topS 15
abbrev N_same_plan : List Str := ["plan", "other", "rows", "place"]
theorem sc_same_plan : FnScope N_same_plan ["plan", "other"] (defScope s_same_plan) := ⟨rfl, rfl, rfl, by decide +kernel, rfl, by decide +kernel, by decide +kernel⟩
abbrev s__law_draws : Stmt := topS 17
abbrev N__law_draws : List Str := ["script", "draws", "cell", "number", "first", "k", "seed"]
theorem sc__law_draws : FnScope N__law_draws ["script"] (defScope s__law_draws) := ⟨rfl, rfl, rfl, by decide +kernel, rfl, by decide +kernel, by decide +kernel⟩
abbrev s__law_take : Stmt := topS 18
abbrev N__law_take : List Str := ["draws", "bound"]
theorem sc__law_take : FnScope N__law_take ["draws", "bound"] (defScope s__law_take) := ⟨rfl, rfl, rfl, by decide +kernel, rfl, by decide +kernel, by decide +kernel⟩
abbrev s__law_same : Stmt := topS 19
abbrev N__law_same : List Str := ["actual", "due", "k"]
theorem sc__law_same : FnScope N__law_same ["actual", "due"] (defScope s__law_same) := ⟨rfl, rfl, rfl, by decide +kernel, rfl, by decide +kernel, by decide +kernel⟩
abbrev s__law_spoilt : Stmt := topS 20
abbrev N__law_spoilt : List Str := ["draws", "rules", "others", "kind", "k"]
theorem sc__law_spoilt : FnScope N__law_spoilt ["draws", "rules", "others"] (defScope s__law_spoilt) := ⟨rfl, rfl, rfl, by decide +kernel, rfl, by decide +kernel, by decide +kernel⟩
abbrev s__law_fine : Stmt := topS 21
abbrev N__law_fine : List Str := ["text", "sign"]
theorem sc__law_fine : FnScope N__law_fine ["text"] (defScope s__law_fine) := ⟨rfl, rfl, rfl, by decide +kernel, rfl, by decide +kernel, by decide +kernel⟩
abbrev s__law_reason : Stmt := topS 22
abbrev N__law_reason : List Str := ["rules", "others", "pairs", "group", "pair"]
theorem sc__law_reason : FnScope N__law_reason ["rules", "others"] (defScope s__law_reason) := ⟨rfl, rfl, rfl, by decide +kernel, rfl, by decide +kernel, by decide +kernel⟩
abbrev s__law_made : Stmt := topS 23
abbrev N__law_made : List Str := ["rules", "others", "e"]
theorem sc__law_made : FnScope N__law_made ["rules", "others"] (defScope s__law_made) := ⟨rfl, rfl, rfl, by decide +kernel, rfl, by decide +kernel, by decide +kernel⟩
abbrev s__law_stands : Stmt := topS 24
abbrev N__law_stands : List Str := ["rules", "others", "kept", "made", "again", "changed", "places", "group", "place"]
theorem sc__law_stands : FnScope N__law_stands ["rules", "others"] (defScope s__law_stands) := ⟨rfl, rfl, rfl, by decide +kernel, rfl, by decide +kernel, by decide +kernel⟩
abbrev s_law : Stmt := topS 25
abbrev N_law : List Str := ["script", "draws", "rules", "group", "others", "turn", "reason", "told"]
theorem sc_law : FnScope N_law ["script"] (defScope s_law) := ⟨rfl, rfl, rfl, by decide +kernel, rfl, by decide +kernel, by decide +kernel⟩
abbrev s_InvalidPlan_init : Stmt := inClass (topS 2) 0
abbrev N_InvalidPlan_init : List Str := ["self", "reason", "__class__"]
theorem sc_InvalidPlan_init : NdefX.NScope N_InvalidPlan_init ["self", "reason"] ["__class__"] (defScope s_InvalidPlan_init) := NdefX.nscope_by (by decide +kernel)
abbrev NF_InvalidPlan (cc c : Addr) : NdefX.NF := ⟨"__init__", "InvalidPlan.__init__", defArgs s_InvalidPlan_init, defBody s_InvalidPlan_init, defScope s_InvalidPlan_init, [(("__class__" : Str), cc)], c⟩
set_option maxHeartbeats 4000000 in
structure T (P : Program) (K : PySem.W.Frag) (mg : Str → Option Value) where
  a_made_of : Addr
  fd_made_of : FuncData
  F_made_of : Fun K "made_of" "made_of" s_made_of a_made_of fd_made_of
  b_made_of : Binds K fd_made_of ["text", "signs"] []
  g_made_of : mg "made_of" = some (.ref a_made_of)
  a_is_name : Addr
  fd_is_name : FuncData
  F_is_name : Fun K "is_name" "is_name" s_is_name a_is_name fd_is_name
  b_is_name : Binds K fd_is_name ["text"] []
  g_is_name : mg "is_name" = some (.ref a_is_name)
  a_check_plan : Addr
  fd_check_plan : FuncData
  F_check_plan : Fun K "check_plan" "check_plan" s_check_plan a_check_plan fd_check_plan
  b_check_plan : Binds K fd_check_plan ["rules", "others"] []
  g_check_plan : mg "check_plan" = some (.ref a_check_plan)
  a_Plan_init : Addr
  fd_Plan_init : FuncData
  F_Plan_init : Fun K "__init__" "Plan.__init__" s_Plan_init a_Plan_init fd_Plan_init
  b_Plan_init : Binds K fd_Plan_init ["self", "rules", "others"] []
  a_Plan_place_of : Addr
  fd_Plan_place_of : FuncData
  F_Plan_place_of : Fun K "place_of" "Plan.place_of" s_Plan_place_of a_Plan_place_of fd_Plan_place_of
  b_Plan_place_of : Binds K fd_Plan_place_of ["self", "group"] []
  a_Plan_places : Addr
  fd_Plan_places : FuncData
  F_Plan_places : Fun K "places" "Plan.places" s_Plan_places a_Plan_places fd_Plan_places
  b_Plan_places : Binds K fd_Plan_places ["self"] []
  a_Plan_rule : Addr
  fd_Plan_rule : FuncData
  F_Plan_rule : Fun K "rule" "Plan.rule" s_Plan_rule a_Plan_rule fd_Plan_rule
  b_Plan_rule : Binds K fd_Plan_rule ["self", "place"] []
  a_same_plan : Addr
  fd_same_plan : FuncData
  F_same_plan : Fun K "same_plan" "same_plan" s_same_plan a_same_plan fd_same_plan
  b_same_plan : Binds K fd_same_plan ["plan", "other"] []
  g_same_plan : mg "same_plan" = some (.ref a_same_plan)
  a__law_draws : Addr
  fd__law_draws : FuncData
  F__law_draws : Fun K "_law_draws" "_law_draws" s__law_draws a__law_draws fd__law_draws
  b__law_draws : Binds K fd__law_draws ["script"] []
  g__law_draws : mg "_law_draws" = some (.ref a__law_draws)
  a__law_take : Addr
  fd__law_take : FuncData
  F__law_take : Fun K "_law_take" "_law_take" s__law_take a__law_take fd__law_take
  b__law_take : Binds K fd__law_take ["draws", "bound"] []
  g__law_take : mg "_law_take" = some (.ref a__law_take)
  a__law_same : Addr
  fd__law_same : FuncData
  F__law_same : Fun K "_law_same" "_law_same" s__law_same a__law_same fd__law_same
  b__law_same : Binds K fd__law_same ["actual", "due"] []
  g__law_same : mg "_law_same" = some (.ref a__law_same)
  a__law_spoilt : Addr
  fd__law_spoilt : FuncData
  F__law_spoilt : Fun K "_law_spoilt" "_law_spoilt" s__law_spoilt a__law_spoilt fd__law_spoilt
  b__law_spoilt : Binds K fd__law_spoilt ["draws", "rules", "others"] []
  g__law_spoilt : mg "_law_spoilt" = some (.ref a__law_spoilt)
  a__law_fine : Addr
  fd__law_fine : FuncData
  F__law_fine : Fun K "_law_fine" "_law_fine" s__law_fine a__law_fine fd__law_fine
  b__law_fine : Binds K fd__law_fine ["text"] []
  g__law_fine : mg "_law_fine" = some (.ref a__law_fine)
  a__law_reason : Addr
  fd__law_reason : FuncData
  F__law_reason : Fun K "_law_reason" "_law_reason" s__law_reason a__law_reason fd__law_reason
  b__law_reason : Binds K fd__law_reason ["rules", "others"] []
  g__law_reason : mg "_law_reason" = some (.ref a__law_reason)
  a__law_made : Addr
  fd__law_made : FuncData
  F__law_made : Fun K "_law_made" "_law_made" s__law_made a__law_made fd__law_made
  b__law_made : Binds K fd__law_made ["rules", "others"] []
  g__law_made : mg "_law_made" = some (.ref a__law_made)
  a__law_stands : Addr
  fd__law_stands : FuncData
  F__law_stands : Fun K "_law_stands" "_law_stands" s__law_stands a__law_stands fd__law_stands
  b__law_stands : Binds K fd__law_stands ["rules", "others"] []
  g__law_stands : mg "_law_stands" = some (.ref a__law_stands)
  a_law : Addr
  fd_law : FuncData
  F_law : Fun K "law" "law" s_law a_law fd_law
  b_law : Binds K fd_law ["script"] []
  g_law : mg "law" = some (.ref a_law)
  C_Plan : Addr
  cl_Plan : Cls K C_Plan
  mg_Plan : mg "Plan" = some (.ref C_Plan)
  mk_Plan : Mk K C_Plan a_Plan_init
  na_Plan__rules : NoAttr K C_Plan "_rules"
  na_Plan__others : NoAttr K C_Plan "_others"
  me_Plan_place_of : Meth K C_Plan "place_of" a_Plan_place_of
  me_Plan_places : Meth K C_Plan "places" a_Plan_places
  me_Plan_rule : Meth K C_Plan "rule" a_Plan_rule
  C_SamphireError : Addr
  mg_SamphireError : mg "SamphireError" = some (.ref C_SamphireError)
  C_InvalidPlan : Addr
  a_InvalidPlan_init : Addr
  c_InvalidPlan : Addr
  cc_InvalidPlan : Addr
  x_InvalidPlan : Sup.ExcT P K mg "InvalidPlan" C_InvalidPlan a_InvalidPlan_init c_InvalidPlan cc_InvalidPlan
  doc_InvalidPlan : Value
  pm_InvalidPlan : Value
  ctv_InvalidPlan : Value
  oc_InvalidPlan : Value
  od_InvalidPlan : Option Addr
  osl_InvalidPlan : Array (Option Value)
  lk_InvalidPlan : K.lookup a_InvalidPlan_init = some ⟨oc_InvalidPlan, od_InvalidPlan, .func ((NF_InvalidPlan cc_InvalidPlan c_InvalidPlan).fd doc_InvalidPlan pm_InvalidPlan ctv_InvalidPlan), osl_InvalidPlan⟩
  hc_InvalidPlan : PySem.W.codeIn K (.ref c_InvalidPlan) "InvalidPlan.__init__" = true
  bx_InvalidPlan : Binds K ((NF_InvalidPlan cc_InvalidPlan c_InvalidPlan).fd doc_InvalidPlan pm_InvalidPlan ctv_InvalidPlan) ["self", "reason"] []
  nf_InvalidPlan_reason : PySem.W.findIn K (.ref C_InvalidPlan) "reason" = some none
  z_abs : mg "abs" = none
  z_all : mg "all" = none
  z_bool : mg "bool" = none
  z_dict : mg "dict" = none
  z_int : mg "int" = none
  z_isinstance : mg "isinstance" = none
  z_len : mg "len" = none
  z_list : mg "list" = none
  z_range : mg "range" = none
  z_reversed : mg "reversed" = none
  z_sorted : mg "sorted" = none
  z_str : mg "str" = none
  z_super : mg "super" = none
  z_tuple : mg "tuple" = none
  v_WORD_SIGNS : Value
  g_WORD_SIGNS : mg "WORD_SIGNS" = some v_WORD_SIGNS
  r_WORD_SIGNS : RelV (.str "abcdefghijklmnopqrstuvwxyz0123456789") v_WORD_SIGNS
  v_MOST_IN_NAME : Value
  g_MOST_IN_NAME : mg "MOST_IN_NAME" = some v_MOST_IN_NAME
  r_MOST_IN_NAME : RelV (.int (12)) v_MOST_IN_NAME
  v_MOST_SIZE : Value
  g_MOST_SIZE : mg "MOST_SIZE" = some v_MOST_SIZE
  r_MOST_SIZE : RelV (.int (20)) v_MOST_SIZE
  v_MOST_GROUPS : Value
  g_MOST_GROUPS : mg "MOST_GROUPS" = some v_MOST_GROUPS
  r_MOST_GROUPS : RelV (.int (20)) v_MOST_GROUPS
  k_KINDS : Addr
  g_KINDS : mg "KINDS" = some (.ref k_KINDS)
  q_KINDS : ∀ H, SqT K H k_KINDS [.str "uniform", .str "weighted", .str "optimal"]
/-! ### the walk by single steps -/
local macro_rules | `(tactic| walk_at "z1") => `(tactic| first
  | with_reducible refine Z.seq ?_
  | with_reducible refine Z.asg ?_
  | ((with_reducible refine' Z.gname ?zv ?_); (case zv => first | (dsimp only [List.set]; done) | (dsimp only [List.set]; exact rfl)))
  | ((with_reducible refine' Z.var ?zv ?_); (case zv => exact rfl))
  | with_reducible refine Z.cst ?_
  | with_reducible refine Z.op ?_
  | with_reducible refine Z.un ?_
  | with_reducible refine Z.i0 ?_
  | with_reducible refine Z.iU ?_
  | with_reducible refine Z.eqII ?_
  | with_reducible refine Z.neII ?_
  | with_reducible refine Z.eqSS ?_
  | with_reducible refine Z.neSS ?_
  | with_reducible refine Z.eqBB ?_
  | with_reducible refine Z.neBB ?_
  | with_reducible refine Z.bl' ?_
  | with_reducible refine Z.test ?_
  | with_reducible refine Z.tbb ?_
  | with_reducible refine Z.tand ?_
  | with_reducible refine Z.tor ?_
  | with_reducible refine Z.tnot ?_
  | with_reducible refine Z.tyes ?_
  | with_reducible refine Z.andV ?_
  | with_reducible refine Z.orV ?_
  | with_reducible refine Z.notV ?_
  | with_reducible refine Z.ifE ?_
  | with_reducible refine Z.chain ?_
  | with_reducible refine Z.yesB ?_
  | with_reducible refine Z.noB ?_
  | with_reducible refine Z.noNB ?_
  | with_reducible refine Z.yesNB ?_
  | with_reducible refine Z.nil ?_
  | with_reducible refine Z.cons ?_
  | with_reducible refine Z.cb ?_
  | with_reducible refine Z.call ?_
  | with_reducible refine Z.meth ?_
  | with_reducible refine Z.fld ?_
  | with_reducible refine Z.int1 ?_
  | with_reducible refine Z.intb ?_
  | with_reducible refine Z.abs1 ?_
  | with_reducible refine Z.gcons ?_
  | with_reducible refine Z.gnil ?_
  | with_reducible refine Z.gcd ?_
  | ((with_reducible refine' Z.par2 ?zv ?_); (case zv => first | (dsimp only [List.set]; done) | (dsimp only [List.set]; exact rfl)))
  | with_reducible refine Z.isN ?_
  | with_reducible refine Z.notN ?_
  | with_reducible refine Z.inSg ?_
  | with_reducible refine Z.ninSg ?_
  | with_reducible refine Z.tup ?_
  | with_reducible refine Z.lst ?_
  | with_reducible refine Z.gsub ?_
  | with_reducible refine Z.par ?_
  | ((with_reducible refine' Z.aug ?zv ?_); (case zv => exact rfl))
  | with_reducible refine Z.ipI' ?_
  | with_reducible refine Z.ifs ?_
  | with_reducible refine Z.ret ?_
  | with_reducible refine Z.retN ?_
  | with_reducible refine Z.next ?_
  | with_reducible refine Z.brk ?_
  | with_reducible refine Z.drop ?_
  | with_reducible refine Z.bm ?_
  | with_reducible refine Z.bm0 ?_
  | with_reducible refine Z.sfld ?_
  | with_reducible refine Z.sfldaug ?_
  | with_reducible refine Z.radd ?_
  | with_reducible refine Z.make ?_
  | with_reducible refine Z.lc ?_
  | with_reducible refine Z.rng1 ?_
  | with_reducible refine Z.ilist ?_
  | with_reducible refine Z.itup ?_
  | with_reducible refine Z.for_ ?_
  | with_reducible refine Z.istr ?_
  | with_reducible refine Z.ienum ?_
  | with_reducible refine Z.izip ?_
  | with_reducible refine Z.irng2 ?_
  | with_reducible refine Z.augs ?_
  | with_reducible refine Z.ienumS ?_
  | with_reducible refine Z.din ?_
  | with_reducible refine Z.dput ?_
  | with_reducible refine Z.dget ?_
  | with_reducible refine Z.dget2 ?_
  | with_reducible refine Z.sl ?_
  | with_reducible refine Z.slno ?_
  | with_reducible refine Z.slpart ?_
  | with_reducible refine Z.bint ?_
  | with_reducible refine Z.listrev ?_
  | with_reducible refine Z.revl ?_
  | dsimp only)
local macro_rules | `(tactic| walk_at "z0") => `(tactic| ((try simp only [Z.cxK]); (try dsimp only [L2.start, List.map, List.length, Nat.reduceAdd, Nat.reduceSub, List.replicate, List.cons_append, List.nil_append])))
local macro_rules | `(tactic| walk_at "z") => `(tactic| (repeat (walk_at "z1")))

/-! ### steps over the keys of a dict -/
section
variable {K : PySem.W.Frag} {σ : L2.St} {H : Hp} {Q : VK}
theorem lck {g : TG} {tt : TT} {te : TE} {vs : List Nat} {d : Addr} {o : Obj} {kvs : List (Key × V)} (e : H d = some (.frz o (.dK kvs))) (Pv : Addr → Nat → Hp → Prop) (h0 : ∀ D H1, H D = none → Kp [] H H1 → H1 D = some (.lst []) → Pv D 0 H1)
    (hl : ∀ D i H1, H D = none → i ≤ kvs.length → Pv D i H1 → H1 d = some (.frz o (.dK kvs)))
    (hs : ∀ D i k v H1, H D = none → kvs[i]? = some (k, v) → Pv D i H1 → g (kV k) (wipe σ vs) H1 fun σ2 H2 => wipe σ2 vs = wipe σ vs ∧ tt σ2 H2 fun b H3 => if b = true then te σ2 H3 fun y H4 => ∃ acc, H4 D = some (.lst acc) ∧ acc.length < sizeLine ∧ Pv D (i + 1) (upd H4 D (.lst (acc ++ [y]))) else Pv D (i + 1) H3)
    (hd : ∀ D H1, H D = none → Pv D kvs.length H1 → Q (.ref D) H1) : DV.KeysK (LcK g tt te vs σ Q) (.ref d) H :=
  ⟨d, o, rfl, .inl ⟨kvs, e, fun D hD => lc_it walk_keys (Pv D) (h0 D _ hD (Kp.new hD) upd_same) (fun i H1 hi p => hl D i H1 hD hi p) (fun i v H1 H2 hi p y => by obtain ⟨rfl, k, u, hk, rfl⟩ := y; exact hs D i k u _ hD hk p) fun H1 p => hd D H1 hD p⟩⟩
end

/-! ### signs of texts -/
def signs : Str := "abcdefghijklmnopqrstuvwxyz0123456789"
def allIn (s z : Str) : Bool := s.cps.toList.all fun c => decide (c ∈ z.cps.toList)
def fineB (s : Str) : Bool := decide (1 ≤ s.cps.size) && (decide (s.cps.size ≤ 12) && allIn s signs)
theorem app_len (a b : Str) : (a ++ b).length = a.length + b.length := by
  show (a.cps ++ b.cps).size = _
  rw [Array.size_append]; rfl

/-! ### made_of, is_name -/
def spMade : Sp := fun vs H Q _ => ∃ s z : Str, vs = [.str s, .str z] ∧ Q (.bl (allIn s z)) H
theorem allIn_no {s z : Str} {i c : Nat} (h : s.cps[i]? = some c) (hc : c ∉ z.cps.toList) : allIn s z = false := by
  cases e : allIn s z with
  | false => rfl
  | true =>
    have h1 := List.all_eq_true.mp e c (by
      rw [← Array.getElem?_toList] at h
      exact List.mem_of_getElem? h)
    exact absurd (of_decide_eq_true h1) hc
theorem allIn_yes {s z : Str} (h : ∀ (i c : Nat), i < s.cps.size → s.cps[i]? = some c → c ∈ z.cps.toList) : allIn s z = true := by
  refine List.all_eq_true.mpr fun c hc => decide_eq_true ?_
  obtain ⟨i, hi⟩ := List.getElem?_of_mem hc
  rw [Array.getElem?_toList] at hi
  exact h i c (Array.getElem?_eq_some_iff.mp hi).1 hi
theorem ok_made_of {P : Program} {w : World} {K : PySem.W.Frag} {mg : Str → Option Value} {base : Heap} (T : T P K mg) : FnOk P w K mg base CX0 1 T.a_made_of T.fd_made_of ["text", "signs"] spMade := by
  refine T.F_made_of.ok sc_made_of (fun vs H Q E h => ?_) (fun cdv A outer s H vs Q E hr h => ?_)
  · obtain ⟨s, z, rfl, _⟩ := h
    rfl
  · obtain ⟨s, z, rfl, q⟩ := h
    refine ⟨_, (pss_cons (ps_for PassesOwn.never rfl (pi_str (pv 0)) (pg_name (i := 2) sc_made_of.nd rfl (by first | exact Or.inl rfl | exact Or.inr rfl)) (pss_one (ps_if (pt_cmpR o_ninSg (pv 2) (pv 1) rfl) (pss_one (ps_ret pe_bl)) pss_nil)))
      (pss_one (ps_ret pe_bl))), ?_⟩
    walk_at "z0"
    walk_at "z"
    refine Z.fors (fun i σ' H' => ∃ y, σ' = [some (.str s), some (.str z), y] ∧ H' = H ∧ ∀ (j c : Nat), j < i → s.cps[j]? = some c → c ∈ z.cps.toList) ⟨_, rfl, rfl, fun _ _ h => by omega⟩ ?_ ?_
    · rintro i c σ' H' hc ⟨y, rfl, rfl, hi⟩
      walk_at "z"
      refine Z.iteN (fun h1 => ?_) (fun h1 => ?_)
      · walk_at "z"
        rw [allIn_no hc h1] at q
        exact q
      · walk_at "z"
        refine ⟨_, rfl, rfl, fun j d hj hd => ?_⟩
        by_cases e : j = i
        · subst e
          rw [hc] at hd
          cases hd
          exact h1
        · exact hi j d (by omega) hd
    · rintro σ' H' ⟨y, rfl, rfl, hi⟩
      walk_at "z"
      rw [allIn_yes hi] at q
      exact q
def spIsName : Sp := fun vs H Q _ => ∃ s : Str, vs = [.str s] ∧ s.cps.size ≤ 100000 ∧ Q (.bl (fineB s)) H
theorem ok_is_name {P : Program} {w : World} {K : PySem.W.Frag} {mg : Str → Option Value} {base : Heap} (T : T P K mg) : FnOk P w K mg base CX0 2 T.a_is_name T.fd_is_name ["text"] spIsName := by
  refine T.F_is_name.ok sc_is_name (fun vs H Q E h => ?_) (fun cdv A outer s H vs Q E hr h => ?_)
  · obtain ⟨s, rfl, _⟩ := h
    rfl
  · obtain ⟨s, rfl, hz, q⟩ := h
    refine ⟨_, (pss_one (ps_ret (pe_and (pe_chain op_le op_le pe_int (pe_callB c_lens (by rfl) T.z_len (by decide +kernel) (pa_cons (pv 0) pa_nil)) (pe_glob (by rfl) T.g_MOST_IN_NAME T.r_MOST_IN_NAME)) (pe_one (pe_call (ok_made_of T) (hr.mono (by decide)) (by rfl) T.g_made_of T.F_made_of.kp T.b_made_of .nil pass0 (pa_cons (pv 0) (pa_cons (pe_glob (by rfl) T.g_WORD_SIGNS T.r_WORD_SIGNS) pa_nil))))))), ?_⟩
    unfold fineB at q
    walk_at "z0"
    walk_at "z"
    refine Z.lenS (by omega) ?_
    walk_at "z"
    refine Z.ite (fun h1 => ?_) (fun h1 => ?_)
    · rw [decide_eq_true (by omega : 1 ≤ s.cps.size)] at q
      walk_at "z"
      refine Z.ite (fun h2 => ?_) (fun h2 => ?_)
      · rw [decide_eq_true (by omega : s.cps.size ≤ 12)] at q
        walk_at "z"
        exact ⟨s, _, rfl, q⟩
      · rw [decide_eq_false (by omega : ¬ s.cps.size ≤ 12)] at q
        walk_at "z"
        exact q
    · rw [decide_eq_false (by omega : ¬ 1 ≤ s.cps.size)] at q
      walk_at "z"
      exact q

/-! ### the draws of a law: _law_draws, _law_take -/
/-- draws stand at a -/
def DrawsAt (H : Hp) (a : Addr) : Prop := ∃ ns : List Int, H a = some (.lst (ns.map V.int))
theorem DrawsAt.ne {H : Hp} {a l : Addr} (d : DrawsAt H a) (h : H l = none) : a ≠ l := ne_of_none d.choose_spec h
theorem DrawsAt.kp {M : List Addr} {H H' : Hp} {a : Addr} (d : DrawsAt H a) (k : Kp M H H') (n : a ∉ M) : DrawsAt H' a := let ⟨ns, h⟩ := d; ⟨ns, k _ _ n h⟩
theorem DrawsAt.kp0 {H H' : Hp} {a : Addr} (d : DrawsAt H a) (k : Kp [] H H') : DrawsAt H' a := d.kp k nin0
theorem DrawsAt.put {H : Hp} {a b : Addr} {o : HO} (d : DrawsAt H a) (n : a ≠ b) : DrawsAt (upd H b o) a := let ⟨ns, h⟩ := d; ⟨ns, (upd_ne n).trans h⟩
def spTake (K : PySem.W.Frag) : Sp := fun vs H Q _ => ∃ (a : Addr) (m : Int), vs = [.ref a, .int m] ∧ DrawsAt H a ∧ 1 ≤ m ∧ m < 18446744073709551616 ∧ ∀ H' v, 0 ≤ v → v < m → Kp [a] H H' → DrawsAt H' a → Q (.int v) H'
theorem ok__law_take {P : Program} {w : World} {K : PySem.W.Frag} {mg : Str → Option Value} {base : Heap} (T : T P K mg) : FnOk P w K mg base CX0 1 T.a__law_take T.fd__law_take ["draws", "bound"] (spTake K) := by
  refine T.F__law_take.ok sc__law_take (fun vs H Q E h => ?_) (fun cdv A outer s H vs Q E hr h => ?_)
  · obtain ⟨a, m, rfl, _⟩ := h
    rfl
  · obtain ⟨a, m, rfl, ⟨ns, ha⟩, h0, h1, q⟩ := h
    refine ⟨_, (pss_cons (ps_if (pt_cmpR op_eq (pe_callB c_len (by rfl) T.z_len (by decide +kernel) (pa_cons (pv 0) pa_nil)) pe_int (nomark _)) (pss_one (ps_ret pe_int)) pss_nil)
      (pss_one (ps_ret (pe_op op_mod (pe_callTy c_int (by rfl) T.z_int (by decide +kernel) (pa_cons (pe_bm0 PySem.F.plainAttrs_list PySem.F.slot_list_pop PySem.F.type_list_pop mt_pop (pv 0)) pa_nil)) (pv 1))))), ?_⟩
    walk_at "z0"
    walk_at "z"
    refine Z.lenL (lstL ha) ?_
    walk_at "z"
    refine Z.ite (fun h2 => ?_) (fun h2 => ?_)
    · walk_at "z"
      exact q _ _ (by omega) (by omega) (Kp.refl _) ⟨ns, ha⟩
    · walk_at "z"
      refine ⟨Z.tyL ha, ?_⟩
      have hl : 0 < ns.length := by
        rw [List.length_map] at h2
        omega
      have hi : ns.length - 1 < ns.length := by omega
      refine Z.pop ha (y := .int ns[ns.length - 1]) (by rw [List.length_map, List.getElem?_map, List.getElem?_eq_getElem hi]; rfl) ?_
      walk_at "z"
      refine Z.iC (by omega) ?_
      exact q _ _ (Int.emod_nonneg _ (by omega)) (Int.emod_lt_of_pos _ (by omega)) (Kp.put (by simp)) ⟨ns.dropLast, by rw [upd_same, List.map_dropLast]⟩
def spDraws (K : PySem.W.Frag) : Sp := fun vs H Q _ => ∃ (c : Addr) (ns : List Int), vs = [.ref c] ∧ SqL K H c (ns.map V.int) ∧ ns.length ≤ 63 ∧ (∀ z ∈ ns, Builtin.Int.intBits z ≤ 1048576) ∧ ∀ a H', H a = none → Kp [] H H' → DrawsAt H' a → Q (.ref a) H'
theorem ok__law_draws {P : Program} {w : World} {K : PySem.W.Frag} {mg : Str → Option Value} {base : Heap} (T : T P K mg) : FnOk P w K mg base CX0 1 T.a__law_draws T.fd__law_draws ["script"] (spDraws K) := by
  refine T.F__law_draws.ok sc__law_draws (fun vs H Q E h => ?_) (fun cdv A outer s H vs Q E hr h => ?_)
  · obtain ⟨c, ns, rfl, _⟩ := h
    rfl
  · obtain ⟨c, ns, rfl, hS, hlen, hb, q⟩ := h
    refine ⟨_, (pss_cons (ps_set (i := 1) sc__law_draws.nd rfl (by first | exact Or.inl rfl | exact Or.inr rfl) (pe_lst pa_nil))
      (pss_cons (ps_for PassesOwn.never rfl (pi_list (pv 0)) (pg_name (i := 2) sc__law_draws.nd rfl (by first | exact Or.inl rfl | exact Or.inr rfl)) (pss_cons (ps_set (i := 3) sc__law_draws.nd rfl (by first | exact Or.inl rfl | exact Or.inr rfl) (pe_callB c_abs (by rfl) T.z_abs (by decide +kernel) (pa_cons (pv 2) pa_nil)))
      (Z.pss_consJ (ps_if (pt_cmpR op_lt (pv 3) (pe_op op_pow pe_int pe_int) (nomark _)) (pss_cons (ps_set (i := 4) sc__law_draws.nd rfl (by first | exact Or.inl rfl | exact Or.inr rfl) (pe_op op_mod (pe_callTy c_int (by rfl) T.z_int (by decide +kernel) (pa_cons (pe_op op_add (pe_op op_mul (pv 3) pe_int) pe_int) pa_nil)) pe_int))
      (pss_cons (ps_expr (pe_bm PySem.F.plainAttrs_list PySem.F.slot_list_append PySem.F.type_list_append mt_append (pv 1) (pa_cons (pe_op op_mod (pe_callTy c_int (by rfl) T.z_int (by decide +kernel) (pa_cons (pe_op op_add (pe_op op_mul (pv 4) pe_int) (pv 3)) pa_nil)) pe_int) pa_nil)))
      (pss_cons (ps_expr (pe_bm PySem.F.plainAttrs_list PySem.F.slot_list_append PySem.F.type_list_append mt_append (pv 1) (pa_cons (pe_op op_mod (pe_callTy c_int (by rfl) T.z_int (by decide +kernel) (pa_cons (pe_op op_add (pv 4) (pe_op op_fdivW (pv 3) pe_int)) pa_nil)) pe_int) pa_nil)))
      (pss_one (ps_set (i := 3) sc__law_draws.nd rfl (by first | exact Or.inl rfl | exact Or.inr rfl) pe_int))))) pss_nil)
      (pss_one (ps_for PassesOwn.never rfl (pi_range1 (by rfl) T.z_range (pa_cons pe_int pa_nil)) (pg_name (i := 5) sc__law_draws.nd rfl (by first | exact Or.inl rfl | exact Or.inr rfl)) (pss_one (ps_if (pt_cmpR op_gt (pv 3) pe_int (nomark _)) (pss_cons (ps_expr (pe_bm PySem.F.plainAttrs_list PySem.F.slot_list_append PySem.F.type_list_append mt_append (pv 1) (pa_cons (pe_op op_mod (pe_callTy c_int (by rfl) T.z_int (by decide +kernel) (pa_cons (pv 3) pa_nil)) pe_int) pa_nil)))
      (pss_one (ps_set (i := 3) sc__law_draws.nd rfl (by first | exact Or.inl rfl | exact Or.inr rfl) (pe_op op_fdivW (pv 3) pe_int)))) pss_nil)))))))
      (pss_cons (ps_set (i := 6) sc__law_draws.nd rfl (by first | exact Or.inl rfl | exact Or.inr rfl) pe_int)
      (Z.pss_consJ (ps_if (pt_cmpR op_gt (pe_callB c_len (by rfl) T.z_len (by decide +kernel) (pa_cons (pv 0) pa_nil)) pe_int (nomark _)) (pss_one (ps_set (i := 6) sc__law_draws.nd rfl (by first | exact Or.inl rfl | exact Or.inr rfl) (pe_op op_add pe_int (pe_callB c_abs (by rfl) T.z_abs (by decide +kernel) (pa_cons (pe_ix ix_list (pv 0) pe_int (fun _ _ => rfl)) pa_nil))))) pss_nil)
      (pss_cons (ps_for PassesOwn.never rfl (pi_range1 (by rfl) T.z_range (pa_cons pe_int pa_nil)) (pg_name (i := 5) sc__law_draws.nd rfl (by first | exact Or.inl rfl | exact Or.inr rfl)) (pss_cons (ps_set (i := 6) sc__law_draws.nd rfl (by first | exact Or.inl rfl | exact Or.inr rfl) (pe_op op_mod (pe_callTy c_int (by rfl) T.z_int (by decide +kernel) (pa_cons (pe_op op_add (pe_op op_mul (pv 6) pe_int) pe_int) pa_nil)) pe_int))
      (pss_one (ps_expr (pe_bm PySem.F.plainAttrs_list PySem.F.slot_list_append PySem.F.type_list_append mt_append (pv 1) (pa_cons (pe_op op_fdivW (pv 6) pe_int) pa_nil))))))
      (pss_one (ps_ret (RL.pe_listRev rfl (by rfl) T.z_list (by rfl) T.z_reversed (pv 1))))))))), ?_⟩
    walk_at "z0"
    walk_at "z"
    refine Z.lstK (fun D H1 nD k1 e1 => ?_)
    walk_at "z"
    refine Z.forl (ns.map V.int) (k1.seq nin0 hS) (fun i σ' H' => ∃ y2 y3 y4 y5, ∃ ds : List Int, σ' = [some (.ref c), some (.ref D), y2, y3, y4, y5, none] ∧ Kp [] H H' ∧ H' D = some (.lst (ds.map V.int)) ∧ ds.length ≤ i * 62) ⟨_, _, _, _, [], rfl, k1, e1, by simp⟩ ?_ ?_ ?_
    · rintro i σ' H' hi ⟨y2, y3, y4, y5, ds, rfl, k2, e2, hl⟩
      exact k2.seq nin0 hS
    · rintro i x σ' H' hx ⟨y2, y3, y4, y5, ds, rfl, k2, e2, hl⟩
      obtain ⟨z, hz, rfl⟩ : ∃ z, ns[i]? = some z ∧ x = .int z := by
        rw [List.getElem?_map] at hx
        cases hw : ns[i]? with
        | none => rw [hw] at hx; cases hx
        | some r => rw [hw] at hx; exact ⟨r, rfl, (Option.some.inj hx).symm⟩
      have hi : i < ns.length := (List.getElem?_eq_some_iff.mp hz).1
      walk_at "z"
      refine Z.seqJ (fun σ' H' => ∃ y4, ∃ (n : Int) (ds : List Int), σ' = [some (.ref c), some (.ref D), some (.int z), some (.int n), y4, y5, none] ∧ Kp [] H H' ∧ H' D = some (.lst (ds.map V.int)) ∧ ds.length ≤ i * 62 + 2) ?_ ?_
      · rintro σ' H' ⟨y4, n, ds, rfl, k3, e3, hl3⟩
        walk_at "z"
        refine Z.forr 60 (by rfl) (by decide) (fun j σ' H' => ∃ y5, ∃ (n : Int) (ds : List Int), σ' = [some (.ref c), some (.ref D), some (.int z), some (.int n), y4, y5, none] ∧ Kp [] H H' ∧ H' D = some (.lst (ds.map V.int)) ∧ ds.length ≤ i * 62 + 2 + j) ⟨_, _, ds, rfl, k3, e3, by omega⟩ ?_ ?_
        · rintro j σ' H' hj ⟨y5, n, ds, rfl, k4, e4, hl4⟩
          walk_at "z"
          refine Z.ite (fun h2 => ?_) (fun h2 => ?_)
          · walk_at "z"
            refine ⟨Z.tyL e4, ?_⟩
            walk_at "z"
            refine Z.iC (by decide) ?_
            walk_at "z"
            refine Z.app e4 (Z.szl (m := 100000) (by rw [List.length_map]; omega)) ?_
            walk_at "z"
            refine Z.iC ⟨by decide, by decide⟩ ?_
            walk_at "z"
            exact ⟨_, _, ds ++ [n % 997], rfl, k4.mut nD rfl, by rw [upd_same, List.map_append]; rfl, by simp; omega⟩
          · walk_at "z"
            exact ⟨_, _, ds, rfl, k4, e4, by omega⟩
        · rintro σ' H' ⟨y5, n, ds, rfl, k4, e4, hl4⟩
          exact ⟨_, _, _, _, ds, rfl, k4, e4, by omega⟩
      · intro N jn
        walk_at "z"
        refine Z.iC ⟨by decide, by decide, by decide⟩ ?_
        walk_at "z"
        refine Z.ite (fun h2 => ?_) (fun h2 => ?_)
        · walk_at "z"
          refine Z.iC (.inr (by decide)) ?_
          walk_at "z"
          refine Z.iC (by decide) ?_
          walk_at "z"
          refine ⟨Z.tyL e2, ?_⟩
          walk_at "z"
          refine Z.iC (.inr (by decide)) ?_
          walk_at "z"
          refine Z.iC (by decide) ?_
          walk_at "z"
          refine Z.app e2 (Z.szl (m := 100000) (by rw [List.length_map]; omega)) ?_
          walk_at "z"
          refine ⟨Z.tyL upd_same, ?_⟩
          walk_at "z"
          refine Z.iC ⟨by decide, by decide⟩ ?_
          walk_at "z"
          refine Z.iC (by decide) ?_
          walk_at "z"
          refine Z.app upd_same (Z.szl (m := 100000) (by rw [List.length_append, List.length_map]; simp; omega)) ?_
          walk_at "z"
          rw [upd_upd]
          exact jn _ _ ⟨_, _, ds ++ [_, _], rfl, k2.mut nD rfl, by rw [upd_same, List.map_append, List.append_assoc]; rfl, by simp; omega⟩
        · walk_at "z"
          exact jn _ _ ⟨_, _, ds, rfl, k2, e2, by omega⟩
    · rintro σ' H' ⟨y2, y3, y4, y5, ds, rfl, k2, e2, hl⟩
      rw [List.length_map] at hl
      walk_at "z"
      refine Z.seqJ (fun σ' H' => ∃ z : Int, σ' = [some (.ref c), some (.ref D), y2, y3, y4, y5, some (.int z)] ∧ Kp [] H H' ∧ H' D = some (.lst (ds.map V.int))) ?_ ?_
      · rintro σ' H' ⟨z, rfl, k3, e3⟩
        walk_at "z"
        refine Z.forr 240 (by rfl) (by decide) (fun j σ' H' => ∃ y5, ∃ (z : Int) (es : List Int), σ' = [some (.ref c), some (.ref D), y2, y3, y4, y5, some (.int z)] ∧ Kp [] H H' ∧ H' D = some (.lst (es.map V.int)) ∧ es.length ≤ ds.length + j) ⟨_, _, ds, rfl, k3, e3, by omega⟩ ?_ ?_
        · rintro j σ' H' hj ⟨y5, z, es, rfl, k4, e4, hl4⟩
          walk_at "z"
          refine Z.iC (.inr (by decide)) ?_
          walk_at "z"
          refine Z.iC (by decide) ?_
          walk_at "z"
          refine ⟨Z.tyL e4, ?_⟩
          walk_at "z"
          refine Z.iC ⟨by decide, by decide⟩ ?_
          walk_at "z"
          refine Z.app e4 (Z.szl (m := 100000) (by rw [List.length_map]; omega)) ?_
          exact ⟨_, _, es ++ [_], rfl, k4.mut nD rfl, by rw [upd_same, List.map_append]; rfl, by simp; omega⟩
        · rintro σ' H' ⟨y5, z, es, rfl, k4, e4, hl4⟩
          walk_at "z"
          refine Z.lrk (lstL e4) (fun p H5 np k5 e5 => ?_)
          exact q p H5 (k4.none nin0 np) (k4.trans k5) ⟨es.reverse, by rw [e5, List.map_reverse]⟩
      · intro N jn
        walk_at "z"
        refine Z.lenL (k2.seq nin0 hS) ?_
        walk_at "z"
        rw [List.length_map]
        refine Z.ite (fun h2 => ?_) (fun h2 => ?_)
        · walk_at "z"
          have h0 : 0 < ns.length := by omega
          refine Z.ixL (k2.seq nin0 hS) (atM (j := 0) (List.getElem?_eq_getElem h0)) ?_
          walk_at "z"
          exact jn _ _ ⟨_, rfl, k2, e2⟩
        · walk_at "z"
          exact jn _ _ ⟨_, rfl, k2, e2⟩

/-! ### _law_same: equal data, the same kinds -/
def scl : V → Bool
  | .non => true
  | .bl _ => true
  | .int _ => true
  | .str _ => true
  | _ => false
def Sm : Nat → Hp → V → V → Prop
  | 0, _, _, _ => False
  | n + 1, H, x, y => (x = y ∧ scl x = true) ∨ ∃ (a b : Addr) (xs ys : List V), x = .ref a ∧ y = .ref b ∧ ((H a = some (.lst xs) ∧ H b = some (.lst ys)) ∨ (H a = some (.tup xs) ∧ H b = some (.tup ys))) ∧ xs.length = ys.length ∧ xs.length ≤ 100000 ∧
    ∀ (i : Nat) (u v : V), xs[i]? = some u → ys[i]? = some v → Sm n H u v
theorem Sm.sc {n : Nat} {H : Hp} {x : V} (h : scl x = true) : Sm (n + 1) H x x := .inl ⟨rfl, h⟩
theorem Sm.int {n : Nat} {H : Hp} (i : Int) : Sm (n + 1) H (.int i) (.int i) := .inl ⟨rfl, rfl⟩
theorem Sm.lst {n : Nat} {H : Hp} {a b : Addr} {xs ys : List V} (h1 : H a = some (.lst xs)) (h2 : H b = some (.lst ys)) (hl : xs.length = ys.length) (hm : xs.length ≤ 100000) (h : ∀ (i : Nat) (u v : V), xs[i]? = some u → ys[i]? = some v → Sm n H u v) : Sm (n + 1) H (.ref a) (.ref b) := .inr ⟨a, b, xs, ys, rfl, rfl, .inl ⟨h1, h2⟩, hl, hm, h⟩
theorem Sm.tup {n : Nat} {H : Hp} {a b : Addr} {xs ys : List V} (h1 : H a = some (.tup xs)) (h2 : H b = some (.tup ys)) (hl : xs.length = ys.length) (hm : xs.length ≤ 100000) (h : ∀ (i : Nat) (u v : V), xs[i]? = some u → ys[i]? = some v → Sm n H u v) : Sm (n + 1) H (.ref a) (.ref b) := .inr ⟨a, b, xs, ys, rfl, rfl, .inr ⟨h1, h2⟩, hl, hm, h⟩
/-- lists of the same plain values -/
theorem Sm.plain {n : Nat} {H : Hp} {a b : Addr} {xs : List V} (h1 : H a = some (.lst xs)) (h2 : H b = some (.lst xs)) (hm : xs.length ≤ 100000) (h : ∀ x ∈ xs, scl x = true) : Sm (n + 2) H (.ref a) (.ref b) := .lst h1 h2 rfl hm fun i u v hu hv => by
  rw [hu] at hv
  cases hv
  exact .sc (h u (List.mem_of_getElem? hu))
theorem Sm.plainT {n : Nat} {H : Hp} {a b : Addr} {xs : List V} (h1 : H a = some (.tup xs)) (h2 : H b = some (.tup xs)) (hm : xs.length ≤ 100000) (h : ∀ x ∈ xs, scl x = true) : Sm (n + 2) H (.ref a) (.ref b) := .tup h1 h2 rfl hm fun i u v hu hv => by
  rw [hu] at hv
  cases hv
  exact .sc (h u (List.mem_of_getElem? hu))
def spSm (n : Nat) : Sp := fun vs H Q _ => ∃ x y, vs = [x, y] ∧ Sm n H x y ∧ Q (.bl true) H
theorem scl_ty {K : PySem.W.Frag} {H : Hp} {x : V} (h : scl x = true) : ∃ A b1 b2 b3, TyX K H x (.type A) ∧ kitB A "tuple" = some false ∧ kitB A "list" = some false ∧ kitB A "bool" = some b1 ∧ kitB A "int" = some b2 ∧ kitB A "str" = some b3 := by
  cases x with
  | non => exact ⟨"NoneType", false, false, false, .base .non, by decide +kernel, by decide +kernel, by decide +kernel, by decide +kernel, by decide +kernel⟩
  | bl b => exact ⟨"bool", true, true, false, .base (.bl b), by decide +kernel, by decide +kernel, by decide +kernel, by decide +kernel, by decide +kernel⟩
  | int i => exact ⟨"int", false, true, false, .base (.int i), by decide +kernel, by decide +kernel, by decide +kernel, by decide +kernel, by decide +kernel⟩
  | str z => exact ⟨"str", false, false, true, .base (.str z), by decide +kernel, by decide +kernel, by decide +kernel, by decide +kernel, by decide +kernel⟩
  | _ => cases h
theorem scl_scal {x : V} (h : scl x = true) : scal x x = true := by
  cases x with
  | non => rfl
  | bl b => rfl
  | int i => rfl
  | str z => rfl
  | _ => cases h
theorem same_rec {P : Program} {w : World} {K : PySem.W.Frag} {mg : Str → Option Value} {base : Heap} (T : T P K mg) : ∀ n, FnOk P w K mg base CX0 (n + 1) T.a__law_same T.fd__law_same ["actual", "due"] (spSm n)
  | 0 => ⟨fun _ _ _ _ h => by obtain ⟨_, _, _, h, _⟩ := h; exact h.elim, fun _ _ _ _ _ _ _ _ _ _ _ _ _ h => by obtain ⟨_, _, _, h, _⟩ := h; exact h.elim⟩
  | n + 1 => by
    have ih := same_rec (w := w) (base := base) T n
    refine T.F__law_same.ok sc__law_same (fun vs H Q E h => ?_) (fun cdv A outer s H vs Q E hr h => ?_)
    · obtain ⟨x, y, rfl, _⟩ := h
      rfl
    · obtain ⟨x, y, rfl, hs, q⟩ := h
      refine ⟨_, (pss_cons (ps_if (PW.pt (pw_or (pt_val (pe_callB call_isi (by rfl) T.z_isinstance (by decide +kernel) (pa_cons (pv 1) (pa_cons (pe_bltn (v := .ty "tuple") (by rfl) T.z_tuple (by decide +kernel) rfl) pa_nil)))) (pw_or1 (pt_val (pe_callB call_isi (by rfl) T.z_isinstance (by decide +kernel) (pa_cons (pv 1) (pa_cons (pe_bltn (v := .ty "list") (by rfl) T.z_list (by decide +kernel) rfl) pa_nil))))))) (pss_cons (ps_if (PW.pt (pw_or (pt_cmpR op_ne (pe_callB call_isi (by rfl) T.z_isinstance (by decide +kernel) (pa_cons (pv 1) (pa_cons (pe_bltn (v := .ty "tuple") (by rfl) T.z_tuple (by decide +kernel) rfl) pa_nil))) (pe_callB call_isi (by rfl) T.z_isinstance (by decide +kernel) (pa_cons (pv 0) (pa_cons (pe_bltn (v := .ty "tuple") (by rfl) T.z_tuple (by decide +kernel) rfl) pa_nil))) (nomark _)) (pw_or1 (pt_cmpR op_ne (pe_callB call_isi (by rfl) T.z_isinstance (by decide +kernel) (pa_cons (pv 1) (pa_cons (pe_bltn (v := .ty "list") (by rfl) T.z_list (by decide +kernel) rfl) pa_nil))) (pe_callB call_isi (by rfl) T.z_isinstance (by decide +kernel) (pa_cons (pv 0) (pa_cons (pe_bltn (v := .ty "list") (by rfl) T.z_list (by decide +kernel) rfl) pa_nil))) (nomark _))))) (pss_one (ps_ret pe_bl)) pss_nil)
      (pss_cons (ps_if (pt_cmpR op_ne (pe_callB c_len (by rfl) T.z_len (by decide +kernel) (pa_cons (pv 0) pa_nil)) (pe_callB c_len (by rfl) T.z_len (by decide +kernel) (pa_cons (pv 1) pa_nil)) (nomark _)) (pss_one (ps_ret pe_bl)) pss_nil)
      (pss_cons (ps_for PassesOwn.never rfl (pi_range1 (by rfl) T.z_range (pa_cons (pe_callB c_len (by rfl) T.z_len (by decide +kernel) (pa_cons (pv 1) pa_nil)) pa_nil)) (pg_name (i := 2) sc__law_same.nd rfl (by first | exact Or.inl rfl | exact Or.inr rfl)) (pss_one (ps_if (pt_not (pt_val (pe_call ih (hr.mono (by omega)) (by rfl) T.g__law_same T.F__law_same.kp T.b__law_same .nil pass0 (pa_cons (pe_ix ix_seq (pv 0) (pv 2) (fun _ _ => rfl)) (pa_cons (pe_ix ix_seq (pv 1) (pv 2) (fun _ _ => rfl)) pa_nil))))) (pss_one (ps_ret pe_bl)) pss_nil)))
      (pss_one (ps_ret pe_bl))))) pss_nil)
      (pss_cons (ps_if (pt_cmpR op_ne (pe_callB call_isi (by rfl) T.z_isinstance (by decide +kernel) (pa_cons (pv 1) (pa_cons (pe_bltn (v := .ty "bool") (by rfl) T.z_bool (by decide +kernel) rfl) pa_nil))) (pe_callB call_isi (by rfl) T.z_isinstance (by decide +kernel) (pa_cons (pv 0) (pa_cons (pe_bltn (v := .ty "bool") (by rfl) T.z_bool (by decide +kernel) rfl) pa_nil))) (nomark _)) (pss_one (ps_ret pe_bl)) pss_nil)
      (pss_cons (ps_if (PW.pt (pw_or (pt_cmpR op_ne (pe_callB call_isi (by rfl) T.z_isinstance (by decide +kernel) (pa_cons (pv 1) (pa_cons (pe_bltn (v := .ty "int") (by rfl) T.z_int (by decide +kernel) rfl) pa_nil))) (pe_callB call_isi (by rfl) T.z_isinstance (by decide +kernel) (pa_cons (pv 0) (pa_cons (pe_bltn (v := .ty "int") (by rfl) T.z_int (by decide +kernel) rfl) pa_nil))) (nomark _)) (pw_or1 (pt_cmpR op_ne (pe_callB call_isi (by rfl) T.z_isinstance (by decide +kernel) (pa_cons (pv 1) (pa_cons (pe_bltn (v := .ty "str") (by rfl) T.z_str (by decide +kernel) rfl) pa_nil))) (pe_callB call_isi (by rfl) T.z_isinstance (by decide +kernel) (pa_cons (pv 0) (pa_cons (pe_bltn (v := .ty "str") (by rfl) T.z_str (by decide +kernel) rfl) pa_nil))) (nomark _))))) (pss_one (ps_ret pe_bl)) pss_nil)
      (pss_one (ps_ret (pe_cmpR op_eq (pv 0) (pv 1) (nomark _))))))), ?_⟩
      walk_at "z0"
      walk_at "z"
      rcases hs with ⟨rfl, hx⟩ | ⟨a, b, xs, ys, rfl, rfl, hab, hl, hm, hi⟩
      · obtain ⟨A, b1, b2, b3, ht, k1, k2, k3, k4, k5⟩ := scl_ty (K := K) (H := H) hx
        refine Z.isi ht k1 ?_
        walk_at "z"
        refine Z.isi ht k2 ?_
        walk_at "z"
        refine Z.isi ht k3 ?_
        walk_at "z"
        refine Z.isi ht k3 ?_
        walk_at "z"
        refine Z.noN rfl ?_
        walk_at "z"
        refine Z.isi ht k4 ?_
        walk_at "z"
        refine Z.isi ht k4 ?_
        walk_at "z"
        refine Z.noN rfl ?_
        walk_at "z"
        refine Z.isi ht k5 ?_
        walk_at "z"
        refine Z.isi ht k5 ?_
        walk_at "z"
        refine Z.noN rfl ?_
        walk_at "z"
        refine ⟨scl_scal hx, ?_⟩
        rw [decide_eq_true rfl]
        exact q
      · rcases hab with ⟨ha, hb⟩ | ⟨ha, hb⟩
        · have ht : TyX K H (.ref b) (.type "list") := .base (.lst hb)
          have ha' : TyX K H (.ref a) (.type "list") := .base (.lst ha)
          refine Z.isi ht (b := false) (by decide +kernel) ?_
          walk_at "z"
          refine Z.isi ht (b := true) (by decide +kernel) ?_
          walk_at "z"
          refine Z.isi ht (b := false) (by decide +kernel) ?_
          walk_at "z"
          refine Z.isi ha' (b := false) (by decide +kernel) ?_
          walk_at "z"
          refine Z.noN rfl ?_
          walk_at "z"
          refine Z.isi ht (b := true) (by decide +kernel) ?_
          walk_at "z"
          refine Z.isi ha' (b := true) (by decide +kernel) ?_
          walk_at "z"
          refine Z.noN rfl ?_
          walk_at "z"
          refine Z.lenL (lstL ha) ?_
          walk_at "z"
          refine Z.lenL (lstL hb) ?_
          walk_at "z"
          refine Z.noN (by omega) ?_
          walk_at "z"
          refine Z.lenL (lstL hb) ?_
          refine Z.forr xs.length (by omega) (by omega) (fun i σ' H' => ∃ z, σ' = [some (.ref a), some (.ref b), z] ∧ H' = H) ⟨_, rfl, rfl⟩ ?_ ?_
          · rintro i σ' H' hlt ⟨z, rfl, rfl⟩
            have hu : xs[i]? = some xs[i] := List.getElem?_eq_getElem hlt
            have hv : ys[i]? = some (ys[i]'(by omega)) := List.getElem?_eq_getElem _
            walk_at "z"
            refine Z.ixA (.inl (lstL ha)) (atI_nat hu) ?_
            walk_at "z"
            refine Z.ixA (.inl (lstL hb)) (atI_nat hv) ?_
            walk_at "z"
            refine ⟨_, _, rfl, hi i _ _ hu hv, ?_⟩
            walk_at "z"
            exact ⟨_, rfl, rfl⟩
          · rintro σ' H' ⟨z, rfl, rfl⟩
            walk_at "z"
            exact q
        · have ht : TyX K H (.ref b) (.type "tuple") := .base (.tup hb)
          have ha' : TyX K H (.ref a) (.type "tuple") := .base (.tup ha)
          refine Z.isi ht (b := true) (by decide +kernel) ?_
          walk_at "z"
          refine Z.isi ht (b := true) (by decide +kernel) ?_
          walk_at "z"
          refine Z.isi ha' (b := true) (by decide +kernel) ?_
          walk_at "z"
          refine Z.noN rfl ?_
          walk_at "z"
          refine Z.isi ht (b := false) (by decide +kernel) ?_
          walk_at "z"
          refine Z.isi ha' (b := false) (by decide +kernel) ?_
          walk_at "z"
          refine Z.noN rfl ?_
          walk_at "z"
          refine Z.lenT (tupT ha) ?_
          walk_at "z"
          refine Z.lenT (tupT hb) ?_
          walk_at "z"
          refine Z.noN (by omega) ?_
          walk_at "z"
          refine Z.lenT (tupT hb) ?_
          refine Z.forr xs.length (by omega) (by omega) (fun i σ' H' => ∃ z, σ' = [some (.ref a), some (.ref b), z] ∧ H' = H) ⟨_, rfl, rfl⟩ ?_ ?_
          · rintro i σ' H' hlt ⟨z, rfl, rfl⟩
            have hu : xs[i]? = some xs[i] := List.getElem?_eq_getElem hlt
            have hv : ys[i]? = some (ys[i]'(by omega)) := List.getElem?_eq_getElem _
            walk_at "z"
            refine Z.ixA (.inr (tupT ha)) (atI_nat hu) ?_
            walk_at "z"
            refine Z.ixA (.inr (tupT hb)) (atI_nat hv) ?_
            walk_at "z"
            refine ⟨_, _, rfl, hi i _ _ hu hv, ?_⟩
            walk_at "z"
            exact ⟨_, rfl, rfl⟩
          · rintro σ' H' ⟨z, rfl, rfl⟩
            walk_at "z"
            exact q
theorem ok__law_same {P : Program} {w : World} {K : PySem.W.Frag} {mg : Str → Option Value} {base : Heap} (T : T P K mg) : FnOk P w K mg base CX0 9 T.a__law_same T.fd__law_same ["actual", "due"] (spSm 8) := same_rec T 8

section
variable {K : PySem.W.Frag} {σ : L2.St} {H : Hp} {Q : VK}
theorem valsD {a : Addr} {kvs : List (Key × V)} (h : H a = some (.dK kvs)) (q : ∀ p H1, H p = none → Kp [] H H1 → H1 p = some (.lst (kvs.map (·.2))) → Q (.ref p) H1) : DV.ValsK Q (.ref a) H := ⟨a, kvs, rfl, h, Z.mk q⟩
theorem listD {a : Addr} {kvs : List (Key × V)} (h : H a = some (.dK kvs)) (q : ∀ p H1, H p = none → Kp [] H H1 → H1 p = some (.lst (kvs.map fun kv => kV kv.1)) → Q (.ref p) H1) : DV.rListDK [.ref a] H Q := ⟨a, kvs, rfl, .inl h, Z.mk q⟩
theorem sortedDK {a : Addr} {kvs : List (Key × V)} {ks : List Str} (h : H a = some (.dK kvs)) (hk : kvs.map (·.1) = ks.map Sum.inr) (h64 : ks.length < 64) (q : ∀ ys p H1, ys.Perm ks → PyProof.Rows.sortedS ys = true → H p = none → Kp [] H H1 → H1 p = some (.lst (ys.map V.str)) → Q (.ref p) H1) : DV.rSortedDK [.ref a] H Q := ⟨a, kvs, ks, rfl, .inl h, hk, h64, fun ys p h1 h2 h3 => q ys p _ h1 h2 h3 (Kp.new h3) upd_same⟩
theorem lenDK {a : Addr} {kvs : List (Key × V)} (h : H a = some (.dK kvs)) (q : Q (.int kvs.length) H) : DV.rLenDK [.ref a] H Q := ⟨a, kvs, rfl, h, q⟩
theorem dictD {a : Addr} {kvs : List (Key × V)} {Q : Addr → Hp → Prop} (q : ∀ p H1, H p = none → Kp [] H H1 → H1 p = some (.dK kvs) → Q p H1) : ∀ p, H p = none → Q p (upd H p (.dK kvs)) := Z.mk q
end

/-! ### plans -/
def optV : Option Str → V
  | none => .non
  | some s => .str s
theorem optV_non (o : Option Str) : decide (optV o = .non) = o.isNone := by cases o <;> simp [optV]
structure Ent where
  g : Str
  p : Addr
  k : Str
  n : Int
def Ent.kv (e : Ent) : Key × V := (.inr e.g, .ref e.p)
def kvsE (es : List Ent) : List (Key × V) := es.map Ent.kv
def PairAt (H : Hp) (e : Ent) : Prop := H e.p = some (.tup [.str e.k, .int e.n])
def EntsAt (H : Hp) (es : List Ent) : Prop := ∀ e ∈ es, PairAt H e
theorem PairAt.kp0 {H H' : Hp} {e : Ent} (h : PairAt H e) (k : Kp [] H H') : PairAt H' e := k.get nin0 h
theorem EntsAt.kp0 {H H' : Hp} {es : List Ent} (h : EntsAt H es) (k : Kp [] H H') : EntsAt H' es := fun e he => (h e he).kp0 k
theorem EntsAt.snoc {H : Hp} {es : List Ent} {o : Ent} (h : EntsAt H es) (ho : PairAt H o) : EntsAt H (es ++ [o]) := fun e he => by
  rcases List.mem_append.mp he with z | z
  · exact h e z
  · rw [List.mem_singleton.mp z]; exact ho
def refE (es : List Ent) : List V := es.map fun e => .ref e.p
theorem refE_len (es : List Ent) : (refE es).length = es.length := by unfold refE; rw [List.length_map]
theorem refE_of {es : List Ent} {i : Nat} {v : V} (h : (refE es)[i]? = some v) : ∃ e, es[i]? = some e ∧ v = .ref e.p := by
  unfold refE at h
  rw [List.getElem?_map] at h
  cases e : es[i]? with
  | none => rw [e] at h; cases h
  | some x => rw [e] at h; exact ⟨x, rfl, (Option.some.inj h).symm⟩
theorem refE_app (a b : List Ent) : refE (a ++ b) = refE a ++ refE b := by unfold refE; rw [List.map_append]
theorem kvsE_vals (es : List Ent) : (kvsE es).map (·.2) = refE es := by unfold kvsE refE; rw [List.map_map]; rfl
theorem kvsE_len (es : List Ent) : (kvsE es).length = es.length := by unfold kvsE; rw [List.length_map]
def keysE (es : List Ent) : List Str := es.map Ent.g
theorem kvsE_keys (es : List Ent) : (kvsE es).map (·.1) = (keysE es).map Sum.inr := by unfold kvsE keysE; rw [List.map_map, List.map_map]; rfl
theorem kvsE_keyV (es : List Ent) : ((kvsE es).map fun kv => kV kv.1) = (keysE es).map V.str := by unfold kvsE keysE; rw [List.map_map, List.map_map]; rfl
def kinds3 : List Str := ["uniform", "weighted", "optimal"]
def kindB (e : Ent) : Bool := decide (e.k ∈ kinds3)
def sizeB (e : Ent) : Bool := decide (1 ≤ e.n ∧ e.n ≤ 20)
def nameB (e : Ent) : Bool := fineB e.g
def reasonP (es : List Ent) (o : Ent) : Option Str :=
  if 20 < es.length then some "many" else if es.all nameB = false then some "group" else if (es ++ [o]).all kindB = false then some "kind" else if (es ++ [o]).all sizeB = false then some "size" else none
theorem lock_kp {H H' : Hp} {d : Addr} {u w : HO} (e : H d = some u) (k : Kp [] (upd H d w) H') : Kp [] H (upd H' d u) := fun b o nb hb => by
  by_cases hbd : b = d
  · rw [hbd, upd_same, ← e, ← hb, hbd]
  · rw [upd_ne hbd]
    exact k b o nb ((upd_ne hbd).trans hb)
def bools (p : Ent → Bool) (es : List Ent) : List Bool := es.map p
theorem bools_all (p : Ent → Bool) (es : List Ent) : (bools p es).all id = es.all p := by unfold bools; rw [List.all_map]; rfl
--def spIsName : Sp := fun vs H Q _ => ∃ s : Str, vs = [.str s] ∧ s.cps.size ≤ 100000 ∧ Q (.bl (fineB s)) H
def spPlanC (K : PySem.W.Frag) : Sp := fun vs H Q _ => ∃ (d : Addr) (es : List Ent) (o : Ent), vs = [.ref d, .ref o.p] ∧ H d = some (.dK (kvsE es)) ∧ EntsAt H es ∧ PairAt H o ∧ es.length ≤ 1000 ∧ (∀ e ∈ es, e.g.cps.size ≤ 1000) ∧ ∀ H', Kp [] H H' → Q (optV (reasonP es o)) H'
theorem ok_check_plan {P : Program} {w : World} {K : PySem.W.Frag} {mg : Str → Option Value} {base : Heap} (T : T P K mg) : FnOk P w K mg base CX0 3 T.a_check_plan T.fd_check_plan ["rules", "others"] (spPlanC K) := by
  refine T.F_check_plan.ok sc_check_plan (fun vs H Q E h => ?_) (fun cdv A outer s H vs Q E hr h => ?_)
  · obtain ⟨d, es, o, rfl, _⟩ := h
    rfl
  · obtain ⟨d, es, o, rfl, hd, hes, ho, hl, hz, q⟩ := h
    refine ⟨_, (pss_cons (ps_set (i := 2) sc_check_plan.nd rfl (by first | exact Or.inl rfl | exact Or.inr rfl) (pe_op op_cat (DV.pe_listVals rfl (by rfl) T.z_list (pv 0)) (pe_lst (pa_cons (pv 1) pa_nil))))
      (pss_cons (ps_if (pt_cmpR op_gt (pe_callB (DV.c_lenD : CallR _ _ DV.rLenDK) (by rfl) T.z_len (by decide +kernel) (pa_cons (pv 0) pa_nil)) (pe_glob (by rfl) T.g_MOST_GROUPS T.r_MOST_GROUPS) (nomark _)) (pss_one (ps_ret pe_str)) pss_nil)
      (pss_cons (ps_if (pt_not (pt_val (pe_callB (cr_all rfl) (by rfl) T.z_all (by decide +kernel) (pa_cons (pe_lock (pe_lc (own := [("group", 3)]) (g := gName 3) rfl sc_check_plan.nd (pi_keys (pv 0)) (blkOk_by (own := [("group", 3)]) (N := N_check_plan) (sc := defScope s_check_plan) (by decide +kernel)) (fun _ _ _ _ _ => (pg_name (i := 3) sc_check_plan.nd rfl (by first | exact Or.inl rfl | exact Or.inr rfl))) (fun _ _ _ _ _ => pts_nil) (fun _ _ _ _ _ => (pe_call (ok_is_name T) (hr.mono (by decide)) (by rfl) T.g_is_name T.F_is_name.kp T.b_is_name .nil pass0 (pa_cons (pv 3) pa_nil))))) pa_nil)))) (pss_one (ps_ret pe_str)) pss_nil)
      (pss_cons (ps_if (pt_not (pt_val (pe_callB (cr_all rfl) (by rfl) T.z_all (by decide +kernel) (pa_cons (pe_lc (own := [("kind", 4), ("size", 5)]) (g := gTup K 2 (gCons (gName 4) (gCons (gName 5) gNil))) rfl sc_check_plan.nd (pi_list (pv 2)) (blkOk_by (own := [("kind", 4), ("size", 5)]) (N := N_check_plan) (sc := defScope s_check_plan) (by decide +kernel)) (fun _ _ _ _ _ => (pg_tup rfl (pgs_cons (pg_name (i := 4) sc_check_plan.nd rfl (by first | exact Or.inl rfl | exact Or.inr rfl)) (pgs_cons (pg_name (i := 5) sc_check_plan.nd rfl (by first | exact Or.inl rfl | exact Or.inr rfl)) pgs_nil)))) (fun _ _ _ _ _ => pts_nil) (fun _ _ _ _ _ => (pe_cmpR (op_in_seq : OpR _ _ (rIn K false)) (pv 4) (pe_glob (v := .ref T.k_KINDS) (by rfl) T.g_KINDS rfl) rfl))) pa_nil)))) (pss_one (ps_ret pe_str)) pss_nil)
      (pss_cons (ps_if (pt_not (pt_val (pe_callB (cr_all rfl) (by rfl) T.z_all (by decide +kernel) (pa_cons (pe_lc (own := [("kind", 4), ("size", 5)]) (g := gTup K 2 (gCons (gName 4) (gCons (gName 5) gNil))) rfl sc_check_plan.nd (pi_list (pv 2)) (blkOk_by (own := [("kind", 4), ("size", 5)]) (N := N_check_plan) (sc := defScope s_check_plan) (by decide +kernel)) (fun _ _ _ _ _ => (pg_tup rfl (pgs_cons (pg_name (i := 4) sc_check_plan.nd rfl (by first | exact Or.inl rfl | exact Or.inr rfl)) (pgs_cons (pg_name (i := 5) sc_check_plan.nd rfl (by first | exact Or.inl rfl | exact Or.inr rfl)) pgs_nil)))) (fun _ _ _ _ _ => pts_nil) (fun _ _ _ _ _ => (pe_chain op_le op_le pe_int (pv 5) (pe_glob (by rfl) T.g_MOST_SIZE T.r_MOST_SIZE)))) pa_nil)))) (pss_one (ps_ret pe_str)) pss_nil)
      (pss_one (ps_ret pe_non))))))), ?_⟩
    unfold reasonP at q
    walk_at "z0"
    walk_at "z"
    refine DV.lvals ?_
    walk_at "z"
    refine valsD hd (fun p H1 np k1 e1 => ?_)
    rw [kvsE_vals] at e1
    walk_at "z"
    refine Z.lstK (fun b H2 nb k2 e2 => ?_)
    refine Z.cat (k2.get nin0 e1) e2 (by rw [refE_len]; simp; omega) (fun a H3 na k3 e3 => ?_)
    have k03 := (k1.trans k2).trans k3
    have hd3 := k03.get nin0 hd
    have ha3 : EntsAt H3 (es ++ [o]) := (hes.snoc ho).kp0 k03
    have e3' : H3 a = some (.lst (refE (es ++ [o]))) := by rw [e3, refE_app]; rfl
    walk_at "z"
    refine lenDK hd3 ?_
    rw [kvsE_len]
    walk_at "z"
    refine Z.ite (fun h1 => ?_) (fun h1 => ?_)
    · rw [if_pos (by omega)] at q
      walk_at "z"
      exact q H3 k03
    · rw [if_neg (by omega)] at q
      walk_at "z"
      refine DV.lock hd3 (fun od => ?_)
      walk_at "z"
      refine DV.ikeys ?_
      walk_at "z"
      have hdf : (upd H3 d (.frz od (.dK (kvsE es)))) d = some (.frz od (.dK (kvsE es))) := upd_same
      refine lck hdf (fun D i H' => Kp [] (upd H3 d (.frz od (.dK (kvsE es)))) H' ∧ H' D = some (.lst (((bools nameB es).take i).map V.bl))) ?_ ?_ ?_ ?_
      · intro D H4 nD k4 e4
        exact ⟨k4, e4⟩
      · rintro D i H4 nD hi ⟨k4, e4⟩
        exact k4.get nin0 hdf
      · rintro D i k v H4 nD hv ⟨k4, e4⟩
        obtain ⟨e, he, rfl⟩ : ∃ e, es[i]? = some e ∧ k = Sum.inr e.g := by
          unfold kvsE at hv
          rw [List.getElem?_map] at hv
          cases hw : es[i]? with
          | none => rw [hw] at hv; cases hv
          | some e => rw [hw] at hv; cases hv; exact ⟨e, rfl, rfl⟩
        have hi : i < es.length := (List.getElem?_eq_some_iff.mp he).1
        have hz1 := hz e (List.mem_of_getElem? he)
        dsimp only [wipe, List.set, kV]
        walk_at "z"
        refine ⟨rfl, ?_⟩
        walk_at "z"
        refine ⟨e.g, rfl, by omega, ?_⟩
        walk_at "z"
        refine ⟨_, e4, Z.szl (m := 1000) (by rw [List.length_map, List.length_take]; omega), k4.mut nD rfl, ?_⟩
        have hb : (bools nameB es)[i]? = some (nameB e) := by unfold bools; rw [List.getElem?_map, he]; rfl
        rw [upd_same, List.take_add_one, hb, List.map_append]; rfl
      · rintro D H4 nD ⟨k4, e4⟩
        have nDd : D ≠ d := fun z => by rw [z, upd_same] at nD; cases nD
        rw [kvsE_len, List.take_of_length_le (by unfold bools; rw [List.length_map]; exact Nat.le_refl _)] at e4
        refine ⟨k4.get nin0 hdf, ?_⟩
        have k34 := lock_kp hd3 k4
        have e4' : (upd H4 d (.dK (kvsE es))) D = some (.lst ((bools nameB es).map V.bl)) := (upd_ne nDd).trans e4
        revert k34 e4'
        generalize upd H4 d (.dK (kvsE es)) = H5
        intro k35 e5
        walk_at "z"
        refine Z.allL (lstL e5) ?_
        rw [bools_all]
        walk_at "z"
        have k05 := k03.trans k35
        cases hn : es.all nameB with
        | false =>
          rw [if_pos hn] at q
          walk_at "z"
          exact q H5 k05
        | true =>
          rw [if_neg (by rw [hn]; decide)] at q
          walk_at "z"
          have e5a := k35.get nin0 e3'
          have ha5 := ha3.kp0 k35
          refine Z.lcl (refE (es ++ [o])) (lstL e5a) (fun D i H' => Kp [] H5 H' ∧ H' D = some (.lst (((bools kindB (es ++ [o])).take i).map V.bl))) ?_ ?_ ?_ ?_
          · intro D H6 nD k6 e6
            exact ⟨k6, e6⟩
          · rintro D i H6 nD hi ⟨k6, e6⟩
            exact lstL (k6.get nin0 e5a)
          · rintro D i v H6 nD hv ⟨k6, e6⟩
            obtain ⟨e, he, rfl⟩ := refE_of hv
            have hi : i < (es ++ [o]).length := (List.getElem?_eq_some_iff.mp he).1
            rw [List.length_append, List.length_singleton] at hi
            have hp := ha5.kp0 k6 e (List.mem_of_getElem? he)
            dsimp only [wipe, List.set]
            walk_at "z"
            refine Z.gtup (tupT hp) rfl ?_
            walk_at "z"
            refine ⟨rfl, ?_⟩
            walk_at "z"
            refine Z.inq (xs := kinds3.map V.str) (.inr (T.q_KINDS _)) rfl Z.strs_flat ?_
            rw [if_neg Bool.false_ne_true, Z.inV_strs]
            refine ⟨_, e6, Z.szl (m := 1001) (by rw [List.length_map, List.length_take]; omega), k6.mut nD rfl, ?_⟩
            have hb : (bools kindB (es ++ [o]))[i]? = some (kindB e) := by unfold bools; rw [List.getElem?_map, he]; rfl
            rw [upd_same, List.take_add_one, hb, List.map_append]; rfl
          · rintro D H6 nD ⟨k6, e6⟩
            rw [refE_len, List.take_of_length_le (by unfold bools; rw [List.length_map]; exact Nat.le_refl _)] at e6
            walk_at "z"
            refine Z.allL (lstL e6) ?_
            rw [bools_all]
            walk_at "z"
            have k06 := k05.trans k6
            cases hk : (es ++ [o]).all kindB with
            | false =>
              rw [if_pos hk] at q
              walk_at "z"
              exact q H6 k06
            | true =>
              rw [if_neg (by rw [hk]; decide)] at q
              walk_at "z"
              have e6a := k6.get nin0 e5a
              have ha6 := ha5.kp0 k6
              refine Z.lcl (refE (es ++ [o])) (lstL e6a) (fun D i H' => Kp [] H6 H' ∧ H' D = some (.lst (((bools sizeB (es ++ [o])).take i).map V.bl))) ?_ ?_ ?_ ?_
              · intro D H7 nD k7 e7
                exact ⟨k7, e7⟩
              · rintro D i H7 nD hi ⟨k7, e7⟩
                exact lstL (k7.get nin0 e6a)
              · rintro D i v H7 nD hv ⟨k7, e7⟩
                obtain ⟨e, he, rfl⟩ := refE_of hv
                have hi : i < (es ++ [o]).length := (List.getElem?_eq_some_iff.mp he).1
                rw [List.length_append, List.length_singleton] at hi
                have hp := ha6.kp0 k7 e (List.mem_of_getElem? he)
                have hb : (bools sizeB (es ++ [o]))[i]? = some (sizeB e) := by unfold bools; rw [List.getElem?_map, he]; rfl
                have fin : ∃ acc, H7 D = some (.lst acc) ∧ acc.length < sizeLine ∧ Kp [] H6 (upd H7 D (.lst (acc ++ [.bl (sizeB e)]))) ∧ (upd H7 D (.lst (acc ++ [.bl (sizeB e)]))) D = some (.lst (((bools sizeB (es ++ [o])).take (i + 1)).map V.bl)) := by
                  refine ⟨_, e7, Z.szl (m := 1001) (by rw [List.length_map, List.length_take]; omega), k7.mut nD rfl, ?_⟩
                  rw [upd_same, List.take_add_one, hb, List.map_append]; rfl
                dsimp only [wipe, List.set]
                walk_at "z"
                refine Z.gtup (tupT hp) rfl ?_
                walk_at "z"
                refine ⟨rfl, ?_⟩
                walk_at "z"
                unfold sizeB at fin
                refine Z.ite (fun h2 => ?_) (fun h2 => ?_)
                · rw [show decide (1 ≤ e.n ∧ e.n ≤ 20) = decide (e.n ≤ 20) by simp [h2]] at fin
                  walk_at "z"
                  exact fin
                · rw [show decide (1 ≤ e.n ∧ e.n ≤ 20) = false by simp [h2]] at fin
                  walk_at "z"
                  exact fin
              · rintro D H7 nD ⟨k7, e7⟩
                rw [refE_len, List.take_of_length_le (by unfold bools; rw [List.length_map]; exact Nat.le_refl _)] at e7
                walk_at "z"
                refine Z.allL (lstL e7) ?_
                rw [bools_all]
                walk_at "z"
                have k07 := k06.trans k7
                cases hs : (es ++ [o]).all sizeB with
                | false =>
                  rw [if_pos hs] at q
                  walk_at "z"
                  exact q H7 k07
                | true =>
                  rw [if_neg (by rw [hs]; decide)] at q
                  walk_at "z"
                  exact q H7 k07

/-! ### errors of samphire.errors with fields -/
/-- what an own __init__ with fields does: ok says what it is called with, fl which fields it keeps -/
def spErr (C : Addr) (ok : List V → Prop) (fl : List V → List (Str × V)) : Sp := fun vs H Q _ => ∃ (a : Addr) (ws : List V), vs = .ref a :: ws ∧ ok ws ∧ H a = some (exo a C none) ∧
  ∀ d H', H d = none → d ≠ a → H' a = some (exo a C (some d)) → H' d = some (exd d (fl ws)) → (∀ b, b ≠ a → b ≠ d → H' b = H b) → Q .non H'
theorem err_heap {H H' : Hp} {a d : Addr} {o : HO} (ha : H a = none) (h : ∀ b, b ≠ a → b ≠ d → H' b = H b) : upd (del H' a) d o = upd H d o := by
  funext b
  by_cases hd : b = d
  · rw [hd, upd_same, upd_same]
  · rw [upd_ne hd, upd_ne hd]
    by_cases hb : b = a
    · rw [hb, del_same, ha]
    · rw [del_ne hb, h b hb hd]
/-- raise C(..) -/
theorem mkErr {C : Addr} {ok : List V → Prop} {fl : List V → List (Str × V)} {ta : TA} {σ : L2.St} {H : Hp} {Q : XK} (h : ta σ H fun vs H1 => vs.length ≤ 1000 ∧ ok vs ∧ ∀ d, H1 d = none → Q (.ref C) (some d) (upd H1 d (.xd (fl vs)))) (mono : ∀ {R S : List V → Hp → Prop}, (∀ v u, R v u → S v u) → ta σ H R → ta σ H S) : tMkO C (spErr C ok fl) [] ta σ H Q := by
  refine mono ?_ h
  rintro vs H1 ⟨hz, hok, q⟩
  refine ⟨hz, fun a ha => ⟨a, vs, by rw [List.append_nil], hok, upd_same, fun d H' hd hda h1 h2 h3 => ⟨rfl, d, fl vs, h1, h2, ?_, ?_⟩⟩⟩
  · rwa [upd_ne hda] at hd
  · rw [err_heap ha fun b hb hd => by rw [h3 b hb hd, upd_ne hb]]
    refine q d ?_
    rwa [upd_ne hda] at hd
def okWord (ws : List V) : Prop := ∃ s : Str, ws = [.str s] ∧ s.length ≤ 1000
def flOne (f : Str) : List V → List (Str × V)
  | [v] => [(f, v)]
  | _ => []
theorem ok_InvalidPlan_init {P : Program} {w : World} {K : PySem.W.Frag} {mg : Str → Option Value} {base : Heap} (T : T P K mg) : FnOk P w K mg base CX0 1 T.a_InvalidPlan_init ((NF_InvalidPlan T.cc_InvalidPlan T.c_InvalidPlan).fd T.doc_InvalidPlan T.pm_InvalidPlan T.ctv_InvalidPlan) ["self", "reason"] (spErr T.C_InvalidPlan okWord (flOne "reason")) := by
  refine Sup.fn_super (F := NF_InvalidPlan T.cc_InvalidPlan T.c_InvalidPlan) (p := "self") (ps' := ["reason"]) T.x_InvalidPlan.S T.lk_InvalidPlan rfl T.hc_InvalidPlan sc_InvalidPlan_init rfl ⟨_, rfl, rfl⟩ rfl rfl (fun _ => rfl) (fun _ => ⟨_, rfl⟩) (fun _ => rfl) (fun vs H Q E h => ?_) (fun A outer s H vs Q E hr h => ?_)
  · obtain ⟨a, ws, rfl, ⟨s, rfl, _⟩, _⟩ := h
    rfl
  · obtain ⟨a, ws, rfl, ⟨s, rfl, hz⟩, ha, q⟩ := h
    refine ⟨a, [.str s], _, _, rfl, ha, pa_cons (pe_joined (.cons pe_str (.cons (pe_fmt (pv 1)) .nil))) pa_nil, pss_one (ps_ost (pv 0) (pv 1)), ?_⟩
    refine ⟨_, rfl, ?_, V.str s, rfl, .inl ⟨s, rfl, Nat.le_trans hz (by decide), s, rfl, ?_, ?_⟩⟩
    · decide +kernel
    · rw [app_len]
      refine Nat.le_trans (Nat.add_le_add (Nat.le_of_eq (show _ = 9 by decide +kernel)) hz) (by decide)
    refine ⟨by show 1 ≤ 1000; decide, ha, V.str s, rfl, V.ref a, rfl, a, T.C_InvalidPlan, rfl, T.x_InvalidPlan.S.T, T.nf_InvalidPlan_reason, .inl ⟨ha, fun d hd hda => ?_⟩⟩
    exact q d _ hd hda upd_same (by rw [upd_ne hda]; exact upd_same) (fun b hb hb2 => by rw [upd_ne hb, upd_ne hb2])

/-! ### the class Plan -/
def PlanAt (C : Addr) (H : Hp) (x d : Addr) (es : List Ent) (o : Ent) : Prop := ∃ dx, H x = some (.ins C dx [("_rules", .ref d), ("_others", .ref o.p)]) ∧ H d = some (.dK (kvsE es)) ∧ EntsAt H es ∧ PairAt H o
theorem PlanAt.kp0 {C : Addr} {H H' : Hp} {x d : Addr} {es : List Ent} {o : Ent} (h : PlanAt C H x d es o) (k : Kp [] H H') : PlanAt C H' x d es o := by
  obtain ⟨dx, h1, h2, h3, h4⟩ := h
  exact ⟨dx, k.get nin0 h1, k.get nin0 h2, h3.kp0 k, h4.kp0 k⟩
theorem PlanAt.kpd {C : Addr} {H H' : Hp} {x d e : Addr} {es : List Ent} {o : Ent} (h : PlanAt C H x d es o) (k : Kp [e] H H') (nx : x ≠ e) (nd : d ≠ e) (n : ∀ vs, H e ≠ some (.tup vs)) : PlanAt C H' x d es o := by
  obtain ⟨dx, h1, h2, h3, h4⟩ := h
  have g : ∀ y : Ent, PairAt H y → PairAt H' y := fun y hy => k.get (nin1 fun z => by unfold PairAt at hy; rw [z] at hy; exact n _ hy) hy
  exact ⟨dx, k.get (nin1 nx) h1, k.get (nin1 nd) h2, fun y hy => g y (h3 y hy), g o h4⟩
def spPInit (C CE : Addr) : Sp := fun vs H Q E => ∃ (S dx d : Addr) (es : List Ent) (o : Ent), vs = [.ref S, .ref d, .ref o.p] ∧ H S = some (.ins C dx []) ∧ H d = some (.dK (kvsE es)) ∧ EntsAt H es ∧ PairAt H o ∧ es.length ≤ 1000 ∧ (∀ e ∈ es, e.g.cps.size ≤ 1000) ∧
  (reasonP es o = none → ∀ H' p, H p = none → Kp [S] H H' → PlanAt C H' S p es o → Q .non H') ∧
  (∀ r, reasonP es o = some r → ∀ H' x, Kp [] H H' → H' x = none → E (.ref CE) (some x) (upd H' x (.xd (flOne "reason" [.str r]))))
theorem reason_len {es : List Ent} {o : Ent} {r : Str} (h : reasonP es o = some r) : r.length ≤ 1000 := by
  unfold reasonP at h
  split at h
  · cases h; decide +kernel
  · split at h
    · cases h; decide +kernel
    · split at h
      · cases h; decide +kernel
      · split at h
        · cases h; decide +kernel
        · cases h
theorem ok_Plan_init {P : Program} {w : World} {K : PySem.W.Frag} {mg : Str → Option Value} {base : Heap} (T : T P K mg) : FnOk P w K mg base (L2.CX P w) 4 T.a_Plan_init T.fd_Plan_init ["self", "rules", "others"] (spPInit T.C_Plan T.C_InvalidPlan) := by
  refine T.F_Plan_init.okX sc_Plan_init (fun vs H Q E h => ?_) (fun cdv A outer s H vs Q E hr h => ?_)
  · obtain ⟨S, dx, d, es, o, rfl, _⟩ := h
    rfl
  · obtain ⟨S, dx, d, es, o, rfl, hS, hd, hes, ho, hl, hz, q, e⟩ := h
    refine ⟨_, (pss_cons (ps_set (i := 3) sc_Plan_init.nd rfl (by first | exact Or.inl rfl | exact Or.inr rfl) (pe_call (ok_check_plan T) (hr.mono (by decide)) (by rfl) T.g_check_plan T.F_check_plan.kp T.b_check_plan .nil pass0 (pa_cons (pv 1) (pa_cons (pv 2) pa_nil))))
      (pss_cons (ps_if (pt_cmpR o_notN (pv 3) pe_non (nomark _)) (pss_one (ps_raise rfl (takes_of rfl rfl rfl rfl) (pmk_oex T.x_InvalidPlan.S.T T.x_InvalidPlan.iC T.x_InvalidPlan.tI (ok_InvalidPlan_init T) (hr.mono (by decide)) (T.bx_InvalidPlan) .nil pass0 (by rfl) T.x_InvalidPlan.g (pa_cons (pv 3) pa_nil)))) pss_nil)
      (pss_cons (ps_fld (pv 0) (pe_callTy call_dictD (by rfl) T.z_dict (by decide +kernel) (pa_cons (pv 1) pa_nil)) rfl)
      (pss_one (ps_fld (pv 0) (pv 2) rfl))))), ?_⟩
    walk_at "z0"
    walk_at "z"
    refine ⟨d, es, o, rfl, hd, hes, ho, hl, hz, fun H1 k1 => ?_⟩
    have hS1 := k1.get nin0 hS
    have hd1 := k1.get nin0 hd
    walk_at "z"
    cases hr : reasonP es o with
    | some r =>
      refine Z.yesN (by simp [optV]) ?_
      walk_at "z"
      refine mkErr ?_ (fun hRS h => ?_)
      · walk_at "z"
        exact ⟨by simp, ⟨r, rfl, reason_len hr⟩, fun x hx => e r hr H1 x k1 hx⟩
      · obtain ⟨v, hv, h⟩ := h
        exact ⟨v, hv, hRS _ _ h⟩
    | none =>
      refine Z.noN rfl ?_
      walk_at "z"
      refine ⟨d, kvsE es, rfl, .inl hd1, fun p np => ?_⟩
      have k2 : Kp [] H1 (upd H1 p (.dK (kvsE es))) := Kp.new np
      have e2 : (upd H1 p (.dK (kvsE es))) p = some (.dK (kvsE es)) := upd_same
      revert k2 e2
      generalize upd H1 p (.dK (kvsE es)) = H2
      intro k2 e2
      have hS2 := k2.get nin0 hS1
      have npS : S ≠ p := ne_of_none hS1 np
      walk_at "z"
      refine ⟨S, _, dx, [], rfl, hS2, T.cl_Plan, T.na_Plan__rules, by decide, ?_⟩
      walk_at "z"
      refine ⟨S, _, dx, _, rfl, upd_same, T.cl_Plan, T.na_Plan__others, by show 1 < 1000; decide, ?_⟩
      walk_at "z"
      rw [upd_upd]
      have k12 := k1.trans k2
      have kS : Kp [S] H2 (upd H2 S (.ins T.C_Plan dx [("_rules", .ref p), ("_others", .ref o.p)])) := Kp.put (by simp)
      have nS : ∀ e : Ent, PairAt H2 e → e.p ≠ S := fun e he z => by
        unfold PairAt at he
        rw [z, hS2] at he
        cases he
      refine q hr _ p (k1.none nin0 np) ((k12.sub (by simp)).trans kS) ⟨dx, upd_same, (upd_ne npS.symm).trans e2, fun x hx => ?_, ?_⟩
      · have := hes.kp0 k12 x hx
        exact kS.get (nin1 (nS x this)) this
      · have := ho.kp0 k12
        exact kS.get (nin1 (nS o this)) this
theorem valV_E (es : List Ent) (g : Str) : valV (kvsE es) (.inr g) = (es.find? fun e => decide (e.g = g)).map fun e => .ref e.p := by
  unfold valV kvsE
  rw [List.find?_map, Option.map_map]
  have : ((fun kv : Key × V => decide (kv.1 = Sum.inr g)) ∘ Ent.kv) = fun e => decide (e.g = g) := by
    funext e
    show decide (Sum.inr e.g = (Sum.inr g : Key)) = decide (e.g = g)
    by_cases h : e.g = g
    · rw [h]; simp
    · rw [decide_eq_false h, decide_eq_false (fun z => h (Sum.inr.inj z))]
  rw [this]
  rfl
theorem valV_some (es : List Ent) (g : Str) : (valV (kvsE es) (.inr g)).isSome = decide (g ∈ keysE es) := by
  rw [valV_E, Option.isSome_map]
  unfold keysE
  rw [Bool.eq_iff_iff, List.find?_isSome, decide_eq_true_eq, List.mem_map]
  simp only [decide_eq_true_eq]
def ruleE (es : List Ent) (o : Ent) : Option Str → Ent
  | none => o
  | some g => (es.find? fun e => decide (e.g = g)).getD o
theorem ruleE_some (es : List Ent) (o : Ent) (g : Str) : ruleE es o (some g) = (es.find? fun e => decide (e.g = g)).getD o := rfl
theorem rule_val {es : List Ent} {o : Ent} {g : Str} (h : g ∈ keysE es) : valV (kvsE es) (.inr g) = some (.ref (ruleE es o (some g)).p) := by
  have := valV_some es g
  rw [decide_eq_true h, valV_E] at this
  rw [valV_E, ruleE_some]
  cases e : es.find? fun e => decide (e.g = g) with
  | none => rw [e] at this; cases this
  | some x => rfl
theorem rule_same {es : List Ent} {o o2 : Ent} {g : Str} (h : g ∈ keysE es) : ruleE es o (some g) = ruleE es o2 (some g) := by
  have := valV_some es g
  rw [decide_eq_true h, valV_E] at this
  rw [ruleE_some, ruleE_some]
  cases e : es.find? fun e => decide (e.g = g) with
  | none => rw [e] at this; cases this
  | some x => rfl
theorem rule_mem {es : List Ent} {o : Ent} {g : Str} (h : g ∈ keysE es) : ruleE es o (some g) ∈ es := by
  have := valV_some es g
  rw [decide_eq_true h, valV_E] at this
  rw [ruleE_some]
  cases e : es.find? fun e => decide (e.g = g) with
  | none => rw [e] at this; cases this
  | some x => exact List.mem_of_find?_eq_some e
def spPlaceOf (C : Addr) : Sp := fun vs H Q _ => ∃ (S d : Addr) (es : List Ent) (o : Ent) (g : Str), vs = [.ref S, .str g] ∧ PlanAt C H S d es o ∧ Q (if g ∈ keysE es then .str g else .non) H
theorem ok_Plan_place_of {P : Program} {w : World} {K : PySem.W.Frag} {mg : Str → Option Value} {base : Heap} (T : T P K mg) : FnOk P w K mg base CX0 1 T.a_Plan_place_of T.fd_Plan_place_of ["self", "group"] (spPlaceOf T.C_Plan) := by
  refine T.F_Plan_place_of.ok sc_Plan_place_of (fun vs H Q E h => ?_) (fun cdv A outer s H vs Q E hr h => ?_)
  · obtain ⟨S, d, es, o, g, rfl, _⟩ := h
    rfl
  · obtain ⟨S, d, es, o, g, rfl, ⟨dx, h1, h2, h3, h4⟩, q⟩ := h
    refine ⟨_, (pss_cons (ps_if (pt_cmp (pc_din (hu_of hr) (pv 1) (pe_fld (pv 0) rfl)) rfl) (pss_one (ps_ret (pv 1))) pss_nil)
      (pss_one (ps_ret pe_non))), ?_⟩
    walk_at "z0"
    walk_at "z"
    refine ⟨S, _, dx, _, _, rfl, h1, T.cl_Plan, T.na_Plan__rules, rfl, ?_⟩
    refine ⟨d, _, rfl, DGet.k (k := .inr g) h2, ?_⟩
    rw [valV_some]
    walk_at "z"
    refine Z.ite (fun hg => ?_) (fun hg => ?_)
    · rw [if_pos hg] at q
      walk_at "z"
      exact q
    · rw [if_neg hg] at q
      walk_at "z"
      exact q
def spPlaces (C : Addr) : Sp := fun vs H Q _ => ∃ (S d : Addr) (es : List Ent) (o : Ent), vs = [.ref S] ∧ PlanAt C H S d es o ∧ es.length < 64 ∧ ∀ H' p ys, H p = none → Kp [] H H' → ys.Perm (keysE es) → PyProof.Rows.sortedS ys = true → H' p = some (.lst (ys.map V.str ++ [.non])) → Q (.ref p) H'
theorem ok_Plan_places {P : Program} {w : World} {K : PySem.W.Frag} {mg : Str → Option Value} {base : Heap} (T : T P K mg) : FnOk P w K mg base CX0 1 T.a_Plan_places T.fd_Plan_places ["self"] (spPlaces T.C_Plan) := by
  refine T.F_Plan_places.ok sc_Plan_places (fun vs H Q E h => ?_) (fun cdv A outer s H vs Q E hr h => ?_)
  · obtain ⟨S, d, es, o, rfl, _⟩ := h
    rfl
  · obtain ⟨S, d, es, o, rfl, ⟨dx, h1, h2, h3, h4⟩, hl, q⟩ := h
    refine ⟨_, (pss_one (ps_ret (pe_op op_cat (pe_callB ((DV.c_sortedD rfl) : CallR _ _ DV.rSortedDK) (by rfl) T.z_sorted (by decide +kernel) (pa_cons (pe_fld (pv 0) rfl) pa_nil)) (pe_lst (pa_cons pe_non pa_nil))))), ?_⟩
    walk_at "z0"
    walk_at "z"
    refine ⟨S, _, dx, _, _, rfl, h1, T.cl_Plan, T.na_Plan__rules, rfl, ?_⟩
    walk_at "z"
    refine sortedDK h2 (kvsE_keys es) (by unfold keysE; rw [List.length_map]; exact hl) (fun ys p H1 hp hs np k1 e1 => ?_)
    walk_at "z"
    refine Z.lstK (fun b H2 nb k2 e2 => ?_)
    have hyl : ys.length < 64 := by rw [hp.length_eq]; unfold keysE; rw [List.length_map]; exact hl
    refine Z.cat (k2.get nin0 e1) e2 (by rw [List.length_map]; simp; omega) (fun a H3 na k3 e3 => ?_)
    have k12 := k1.trans k2
    exact q H3 a ys (k12.none nin0 na) (k12.trans k3) hp hs e3
def spRule (C : Addr) : Sp := fun vs H Q _ => ∃ (S d : Addr) (es : List Ent) (o : Ent) (pl : Option Str), vs = [.ref S, optV pl] ∧ PlanAt C H S d es o ∧ (∀ g, pl = some g → g ∈ keysE es) ∧ Q (.ref (ruleE es o pl).p) H
theorem ok_Plan_rule {P : Program} {w : World} {K : PySem.W.Frag} {mg : Str → Option Value} {base : Heap} (T : T P K mg) : FnOk P w K mg base CX0 1 T.a_Plan_rule T.fd_Plan_rule ["self", "place"] (spRule T.C_Plan) := by
  refine T.F_Plan_rule.ok sc_Plan_rule (fun vs H Q E h => ?_) (fun cdv A outer s H vs Q E hr h => ?_)
  · obtain ⟨S, d, es, o, pl, rfl, _⟩ := h
    rfl
  · obtain ⟨S, d, es, o, pl, rfl, ⟨dx, h1, h2, h3, h4⟩, hpl, q⟩ := h
    refine ⟨_, (pss_cons (ps_if (pt_cmpR o_isN (pv 1) pe_non (nomark _)) (pss_one (ps_ret (pe_fld (pv 0) rfl))) pss_nil)
      (pss_one (ps_ret (pe_dget (hu_of hr) (pe_fld (pv 0) rfl) (pv 1) (fun _ _ => rfl))))), ?_⟩
    walk_at "z0"
    walk_at "z"
    cases pl with
    | none =>
      refine Z.yes rfl ?_
      walk_at "z"
      exact ⟨S, _, dx, _, _, rfl, h1, T.cl_Plan, T.na_Plan__others, rfl, q⟩
    | some g =>
      refine Z.no (by simp [optV]) ?_
      walk_at "z"
      refine ⟨S, _, dx, _, _, rfl, h1, T.cl_Plan, T.na_Plan__rules, rfl, ?_⟩
      walk_at "z"
      exact ⟨d, _, rfl, by have := DGet.k (k := .inr g) h2; rw [rule_val (o := o) (hpl g rfl)] at this; exact this, q⟩

/-! ### same_plan -/
theorem shNil : SeqAt.shaped (.list []) = true := by decide +kernel
def pairD (e : Ent) : PyData := .tuple [.str e.k, .int e.n]
def plD : Option Str → PyData
  | none => .none
  | some g => .str g
theorem dpPl {K : PySem.W.Frag} {H : Hp} : ∀ pl : Option Str, Dp K H (optV pl) (plD pl)
  | none => .non
  | some g => .str g
def rowPD (es : List Ent) (o : Ent) (pl : Option Str) : PyData := .tuple [plD pl, pairD (ruleE es o pl)]
def plc (ys : List Str) : List (Option Str) := ys.map some ++ [none]
theorem plc_vs (ys : List Str) : (plc ys).map optV = ys.map V.str ++ [.non] := by unfold plc; rw [List.map_append, List.map_map]; rfl
theorem plc_len (ys : List Str) : (plc ys).length = ys.length + 1 := by unfold plc; rw [List.length_append, List.length_map, List.length_singleton]
/-- rows of a plan: new tuples at qs -/
def RowsP (H : Hp) (es : List Ent) (o : Ent) (pls : List (Option Str)) (qs : List Addr) : Prop := pls.length = qs.length ∧ ∀ (i : Nat) pl q, pls[i]? = some pl → qs[i]? = some q → H q = some (.tup [optV pl, .ref (ruleE es o pl).p])
theorem RowsP.kp {M : List Addr} {H H' : Hp} {es : List Ent} {o : Ent} {pls : List (Option Str)} {qs : List Addr} (h : RowsP H es o pls qs) (k : Kp M H H') (n : ∀ x ∈ M, ∀ vs, H x ≠ some (.tup vs)) : RowsP H' es o pls qs := ⟨h.1, fun i pl q h1 h2 => by
  have := h.2 i pl q h1 h2
  exact k.get (fun z => n _ z _ this) this⟩
theorem RowsP.snoc {H : Hp} {es : List Ent} {o : Ent} {pls : List (Option Str)} {qs : List Addr} {pl : Option Str} {q : Addr} (h : RowsP H es o pls qs) (hq : H q = some (.tup [optV pl, .ref (ruleE es o pl).p])) : RowsP H es o (pls ++ [pl]) (qs ++ [q]) := by
  refine ⟨by rw [List.length_append, List.length_append, h.1]; rfl, fun i pl' q' h1 h2 => ?_⟩
  rcases Nat.lt_or_ge i pls.length with hi | hi
  · rw [List.getElem?_append_left hi] at h1
    rw [List.getElem?_append_left (by rw [← h.1]; exact hi)] at h2
    exact h.2 i pl' q' h1 h2
  · rw [List.getElem?_append_right hi] at h1
    rw [List.getElem?_append_right (by rw [← h.1]; exact hi), ← h.1] at h2
    cases hj : i - pls.length with
    | zero =>
      rw [hj] at h1 h2
      cases h1; cases h2
      exact hq
    | succ j => rw [hj] at h1; simp at h1
theorem dpRowsP {K : PySem.W.Frag} {H : Hp} {es : List Ent} {o : Ent} (he : EntsAt H es) (ho : PairAt H o) : ∀ {pls : List (Option Str)} {qs : List Addr}, (∀ g, some g ∈ pls → g ∈ keysE es) → RowsP H es o pls qs → DpAll K H (qs.map V.ref) (pls.map (rowPD es o))
  | [], [], _, _ => .nil
  | [], _ :: _, _, h => by have := h.1; simp at this
  | _ :: _, [], _, h => by have := h.1; simp at this
  | pl :: pls, q :: qs, hk, h => by
    have hp : PairAt H (ruleE es o pl) := by
      cases pl with
      | none => exact ho
      | some g => exact he _ (rule_mem (hk g (by simp)))
    refine .cons (.tup (tupT (h.2 0 pl q rfl rfl)) (.cons (dpPl pl) (.cons (.tup (tupT hp) (.cons (.str _) (.cons (.int _) .nil))) .nil))) (dpRowsP he ho (fun g hg => hk g (by simp [hg])) ⟨by have := h.1; simpa using this, fun i pl' q' h1 h2 => h.2 (i + 1) pl' q' (by simpa using h1) (by simpa using h2)⟩)
structure EntOk (e : Ent) : Prop where
  g : PyData.strOk e.g = true
  k : PyData.strOk e.k = true
  gz : e.g.cps.size ≤ 20
  kz : e.k.cps.size ≤ 20
theorem layRow {es : List Ent} {o : Ent} (hes : ∀ e ∈ es, EntOk e) (ho : EntOk o) {pl : Option Str} (hk : ∀ g, pl = some g → g ∈ keysE es) : PyData.canLay0 (rowPD es o pl) = true := by
  cases pl with
  | none => simp [rowPD, plD, pairD, ruleE, PyData.canLay0, PyData.canLayAll0, ho.k]
  | some g =>
    have hm := rule_mem (o := o) (hk g rfl)
    have hg : PyData.strOk g = true := by
      obtain ⟨e, he, rfl⟩ := List.mem_map.mp (hk g rfl)
      exact (hes e he).g
    simp [rowPD, plD, pairD, PyData.canLay0, PyData.canLayAll0, (hes _ hm).k, hg]
theorem layRowsP {es : List Ent} {o : Ent} (hes : ∀ e ∈ es, EntOk e) (ho : EntOk o) : ∀ {pls : List (Option Str)}, (∀ g, some g ∈ pls → g ∈ keysE es) → PyData.canLayAll0 (pls.map (rowPD es o)) = true
  | [], _ => by simp [PyData.canLayAll0]
  | pl :: pls, hk => by
    rw [List.map_cons, PyData.canLayAll0, layRow hes ho (fun g e => hk g (by rw [e]; simp)), layRowsP hes ho fun g hg => hk g (by simp [hg])]; rfl
theorem rowPD_depth (es : List Ent) (o : Ent) (pl : Option Str) : (rowPD es o pl).depth = 2 := by
  cases pl <;> simp [rowPD, plD, pairD, PyData.depth, PyData.depthAll]
theorem depthRowsP (es : List Ent) (o : Ent) : ∀ pls : List (Option Str), PyData.depthAll (pls.map (rowPD es o)) ≤ 2
  | [] => by simp [PyData.depthAll]
  | pl :: r => by
    have := depthRowsP es o r
    rw [List.map_cons, PyData.depthAll, rowPD_depth]
    omega
theorem shRowsP {es : List Ent} {o : Ent} (hes : ∀ e ∈ es, EntOk e) (ho : EntOk o) {pls : List (Option Str)} (hk : ∀ g, some g ∈ pls → g ∈ keysE es) : SeqAt.shaped (.list (pls.map (rowPD es o))) = true := by
  unfold SeqAt.shaped
  rw [PyData.canLay0, layRowsP hes ho hk, PyData.depth, Bool.true_and]
  have := depthRowsP es o pls
  exact decide_eq_true (by omega)
theorem eqvRows {es : List Ent} {o o2 : Ent} (hes : ∀ e ∈ es, EntOk e) (ho : EntOk o) : ∀ {ys : List Str}, (∀ g ∈ ys, g ∈ keysE es) → PyData.eqvAll ((plc ys).map (rowPD es o)) ((plc ys).map (rowPD es o2)) = (decide (o.k = o2.k) && decide (o.n = o2.n))
  | [], _ => by
    show PyData.eqvAll [rowPD es o none] [rowPD es o2 none] = _
    simp only [rowPD, plD, pairD, ruleE, PyData.eqvAll, PyData.eqv, Bool.and_true, Bool.true_and]
    congr 1
  | g :: ys, hk => by
    have hg := hk g (by simp)
    show PyData.eqvAll (rowPD es o (some g) :: (plc ys).map (rowPD es o)) (rowPD es o2 (some g) :: (plc ys).map (rowPD es o2)) = _
    have e : rowPD es o2 (some g) = rowPD es o (some g) := by unfold rowPD; rw [rule_same (o := o2) (o2 := o) hg]
    rw [e, PyData.eqvAll, SeqAt.eqv_refl _ (layRow hes ho (fun g' z => by cases z; exact hg)), Bool.true_and]
    exact eqvRows hes ho fun z hz => hk z (by simp [hz])
def spSamePlan (C : Addr) : Sp := fun vs H Q _ => ∃ (S S2 d d2 : Addr) (es : List Ent) (o o2 : Ent), vs = [.ref S, .ref S2] ∧ PlanAt C H S d es o ∧ PlanAt C H S2 d2 es o2 ∧ es.length < 64 ∧ (∀ e ∈ es, EntOk e) ∧ EntOk o ∧ EntOk o2 ∧ ∀ H', Kp [] H H' → Q (.bl (decide (o.k = o2.k) && decide (o.n = o2.n))) H'
theorem plc_mem {ys : List Str} {es : List Ent} (hp : ys.Perm (keysE es)) {g : Str} (h : some g ∈ plc ys) : g ∈ keysE es := by
  unfold plc at h
  rcases List.mem_append.mp h with h | h
  · obtain ⟨x, hx, e⟩ := List.mem_map.mp h
    cases e
    exact hp.mem_iff.mp hx
  · cases List.mem_singleton.mp h
theorem take_snoc {α : Type} {l : List α} {i : Nat} {x : α} (h : l[i]? = some x) : l.take (i + 1) = l.take i ++ [x] := by rw [List.take_add_one, h]; rfl
theorem ok_same_plan {P : Program} {w : World} {K : PySem.W.Frag} {mg : Str → Option Value} {base : Heap} (T : T P K mg) : FnOk P w K mg base CX0 2 T.a_same_plan T.fd_same_plan ["plan", "other"] (spSamePlan T.C_Plan) := by
  refine T.F_same_plan.ok sc_same_plan (fun vs H Q E h => ?_) (fun cdv A outer s H vs Q E hr h => ?_)
  · obtain ⟨S, S2, d, d2, es, o, o2, rfl, _⟩ := h
    rfl
  · obtain ⟨S, S2, d, d2, es, o, o2, rfl, h1, h2, hl, hes, ho, ho2, q⟩ := h
    refine ⟨_, (pss_cons (ps_setLc (i := 2) (own := [("place", 3)]) (g := gName 3) rfl sc_same_plan.nd rfl rfl (sw_true rfl rfl rfl (by decide +kernel)) (pi_list (pe_meth0 (pv 0) T.cl_Plan T.me_Plan_places (ok_Plan_places T) (hr.mono (by decide)) T.b_Plan_places .nil pass0)) (blkOk_by (own := [("place", 3)]) (N := N_same_plan) (sc := defScope s_same_plan) (by decide +kernel)) (fun _ _ _ _ _ => (pg_name (i := 3) sc_same_plan.nd rfl (by first | exact Or.inl rfl | exact Or.inr rfl))) (fun _ _ _ _ _ => pts_nil) (fun _ _ _ _ _ => (pe_tup (pa_cons (pv 3) (pa_cons (pe_meth (pv 0) T.cl_Plan T.me_Plan_rule (ok_Plan_rule T) (hr.mono (by decide)) T.b_Plan_rule .nil pass0 (pa_cons (pv 3) pa_nil)) pa_nil)))))
      (pss_one (ps_ret (pe_cmpR (op_eqD hr.units) (pv 2) (pe_lc (own := [("place", 3)]) (g := gName 3) rfl sc_same_plan.nd (pi_list (pe_meth0 (pv 1) T.cl_Plan T.me_Plan_places (ok_Plan_places T) (hr.mono (by decide)) T.b_Plan_places .nil pass0)) (blkOk_by (own := [("place", 3)]) (N := N_same_plan) (sc := defScope s_same_plan) (by decide +kernel)) (fun _ _ _ _ _ => (pg_name (i := 3) sc_same_plan.nd rfl (by first | exact Or.inl rfl | exact Or.inr rfl))) (fun _ _ _ _ _ => pts_nil) (fun _ _ _ _ _ => (pe_tup (pa_cons (pv 3) (pa_cons (pe_meth (pv 1) T.cl_Plan T.me_Plan_rule (ok_Plan_rule T) (hr.mono (by decide)) T.b_Plan_rule .nil pass0 (pa_cons (pv 3) pa_nil)) pa_nil))))) (nomark _))))), ?_⟩
    walk_at "z0"
    walk_at "z"
    have p1 := h1
    obtain ⟨dx, i1, i2, i3, i4⟩ := p1
    have p2 := h2
    obtain ⟨dx2, j1, j2, j3, j4⟩ := p2
    refine ⟨S, dx, _, rfl, i1, rfl, ?_⟩
    refine ⟨S, d, es, o, rfl, h1, hl, fun H1 p ys np k1 hp hs e1 => ?_⟩
    have hyl : ys.length < 64 := by rw [hp.length_eq]; unfold keysE; rw [List.length_map]; exact hl
    rw [← plc_vs] at e1
    walk_at "z"
    refine Z.lcl ((plc ys).map optV) (lstL e1) (fun D i H' => Kp [] H1 H' ∧ ∃ qs : List Addr, H' D = some (.lst (qs.map V.ref)) ∧ RowsP H' es o ((plc ys).take i) qs) ?_ ?_ ?_ ?_
    · intro D H3 nD k3 e3
      exact ⟨k3, [], e3, rfl, fun i pl q h => by simp at h⟩
    · rintro D i H3 nD hi ⟨k3, qs, e3, r3⟩
      exact lstL (k3.get nin0 e1)
    · rintro D i v H3 nD hv ⟨k3, qs, e3, r3⟩
      obtain ⟨pl, hpl, rfl⟩ : ∃ pl, (plc ys)[i]? = some pl ∧ v = optV pl := by
        rw [List.getElem?_map] at hv
        cases hw : (plc ys)[i]? with
        | none => rw [hw] at hv; cases hv
        | some r => rw [hw] at hv; exact ⟨r, rfl, (Option.some.inj hv).symm⟩
      have hi : i < (plc ys).length := (List.getElem?_eq_some_iff.mp hpl).1
      rw [plc_len] at hi
      have hqs := r3.1
      rw [List.length_take] at hqs
      have h13 := h1.kp0 (k1.trans k3)
      have i13 := (k1.trans k3).get nin0 i1
      dsimp only [wipe, List.set]
      walk_at "z"
      refine ⟨rfl, ?_⟩
      walk_at "z"
      refine ⟨S, dx, _, rfl, i13, rfl, ?_⟩
      walk_at "z"
      refine ⟨S, d, es, o, pl, rfl, h13, fun g e => plc_mem hp (by rw [← e]; exact List.mem_of_getElem? hpl), ?_⟩
      walk_at "z"
      refine Z.tupK (fun t H4 nt k4 e4 => ?_)
      have e34 := k4.get nin0 e3
      refine ⟨_, e34, Z.szl (m := 1000) (by rw [List.length_map]; omega), (k3.trans k4).mut nD rfl, qs ++ [t], ?_, ?_⟩
      · rw [upd_same, List.map_append]; rfl
      · rw [take_snoc hpl]
        have ntD : t ≠ D := fun z => by rw [z, e3] at nt; cases nt
        refine RowsP.snoc ((r3.kp k4 (fun _ h => by cases h)).kp (Kp.put (M := [D]) (by simp)) (fun x hx vs z => ?_)) ((upd_ne ntD).trans e4)
        rw [List.mem_singleton.mp hx, e34] at z
        cases z
    · rintro D H3 nD ⟨k3, qs, e3, r3⟩
      rw [List.take_of_length_le (by rw [List.length_map]; exact Nat.le_refl _)] at r3
      have k13 := k1.trans k3
      walk_at "z"
      refine ⟨S2, dx2, _, rfl, k13.get nin0 j1, rfl, ?_⟩
      refine ⟨S2, d2, es, o2, rfl, h2.kp0 k13, hl, fun H4 p4 zs np4 k4 hp4 hs4 e4 => ?_⟩
      obtain rfl : ys = zs := DV.sorted_uniq (hp.trans hp4.symm) hs hs4
      rw [← plc_vs] at e4
      have e34 := k4.get nin0 e3
      have r34 := r3.kp k4 (fun _ h => by cases h)
      have k14 := k13.trans k4
      walk_at "z"
      refine Z.lcl ((plc ys).map optV) (lstL e4) (fun D2 i H' => Kp [] H4 H' ∧ ∃ qs : List Addr, H' D2 = some (.lst (qs.map V.ref)) ∧ RowsP H' es o2 ((plc ys).take i) qs) ?_ ?_ ?_ ?_
      · intro D2 H5 nD k5 e5
        exact ⟨k5, [], e5, rfl, fun i pl q h => by simp at h⟩
      · rintro D2 i H5 nD2 hi ⟨k5, qs2, e5, r5⟩
        exact lstL (k5.get nin0 e4)
      · rintro D2 i v H5 nD2 hv ⟨k5, qs2, e5, r5⟩
        obtain ⟨pl, hpl, rfl⟩ : ∃ pl, (plc ys)[i]? = some pl ∧ v = optV pl := by
          rw [List.getElem?_map] at hv
          cases hw : (plc ys)[i]? with
          | none => rw [hw] at hv; cases hv
          | some r => rw [hw] at hv; exact ⟨r, rfl, (Option.some.inj hv).symm⟩
        have hi : i < (plc ys).length := (List.getElem?_eq_some_iff.mp hpl).1
        rw [plc_len] at hi
        have hqs := r5.1
        rw [List.length_take] at hqs
        have h15 := h2.kp0 (k14.trans k5)
        have i15 := (k14.trans k5).get nin0 j1
        dsimp only [wipe, List.set]
        walk_at "z"
        refine ⟨rfl, ?_⟩
        walk_at "z"
        refine ⟨S2, dx2, _, rfl, i15, rfl, ?_⟩
        walk_at "z"
        refine ⟨S2, d2, es, o2, pl, rfl, h15, fun g e => plc_mem hp (by rw [← e]; exact List.mem_of_getElem? hpl), ?_⟩
        walk_at "z"
        refine Z.tupK (fun t H6 nt k6 e6 => ?_)
        have e56 := k6.get nin0 e5
        refine ⟨_, e56, Z.szl (m := 1000) (by rw [List.length_map]; omega), (k5.trans k6).mut nD2 rfl, qs2 ++ [t], ?_, ?_⟩
        · rw [upd_same, List.map_append]; rfl
        · rw [take_snoc hpl]
          have ntD : t ≠ D2 := fun z => by rw [z, e5] at nt; cases nt
          refine RowsP.snoc ((r5.kp k6 (fun _ h => by cases h)).kp (Kp.put (M := [D2]) (by simp)) (fun x hx vs z => ?_)) ((upd_ne ntD).trans e6)
          rw [List.mem_singleton.mp hx, e56] at z
          cases z
      · rintro D2 H5 nD2 ⟨k5, qs2, e5, r5⟩
        rw [List.take_of_length_le (by rw [List.length_map]; exact Nat.le_refl _)] at r5
        have k15 := k14.trans k5
        have hm : ∀ g, some g ∈ plc ys → g ∈ keysE es := fun g hg => plc_mem hp hg
        walk_at "z"
        refine ⟨_, _, .lst (lstL (k5.get nin0 e34)) (dpRowsP (i3.kp0 k15) (i4.kp0 k15) hm (r34.kp k5 (fun _ h => by cases h))), .lst (lstL e5) (dpRowsP (i3.kp0 k15) (j4.kp0 k15) hm r5), shRowsP hes ho hm, shRowsP hes ho2 hm, ?_⟩
        rw [PyData.eqv, eqvRows hes ho fun g hg => hp.mem_iff.mp hg]
        exact q H5 k15

theorem eqvAll_nil : ∀ l : List PyData, PyData.eqvAll l [] = l.isEmpty
  | [] => by simp [PyData.eqvAll]
  | _ :: _ => by simp [PyData.eqvAll]
def spFine (K : PySem.W.Frag) : Sp := fun vs H Q _ => ∃ s : Str, vs = [.str s] ∧ PyData.strOk s = true ∧ s.cps.size ≤ 20 ∧ ∀ H', Kp [] H H' → Q (.bl (fineB s)) H'
def sgV (c : Nat) : V := .str ⟨#[c]⟩
def sgD (c : Nat) : PyData := .str ⟨#[c]⟩
theorem dpSg {K : PySem.W.Frag} {H : Hp} : ∀ l : List Nat, DpAll K H (l.map sgV) (l.map sgD)
  | [] => .nil
  | c :: r => .cons (.str _) (dpSg r)
theorem laySg : ∀ {l : List Nat}, (∀ c ∈ l, c < 0x110000) → PyData.canLayAll0 (l.map sgD) = true
  | [], _ => by simp [PyData.canLayAll0]
  | c :: r, h => by
    have h1 := h c (by simp)
    have ih := laySg (l := r) fun y hy => h y (by simp [hy])
    show PyData.canLayAll0 (sgD c :: r.map sgD) = true
    rw [PyData.canLayAll0, ih]
    simp [sgD, PyData.canLay0, PyData.strOk, h1]
theorem depthSg : ∀ l : List Nat, PyData.depthAll (l.map sgD) = 0
  | [] => by simp [PyData.depthAll]
  | c :: r => by
    show PyData.depthAll (sgD c :: r.map sgD) = 0
    rw [PyData.depthAll, depthSg r]; rfl
theorem shSg {l : List Nat} (h : ∀ c ∈ l, c < 0x110000) : SeqAt.shaped (.list (l.map sgD)) = true := by
  unfold SeqAt.shaped
  rw [PyData.canLay0, PyData.depth, laySg h, depthSg]; rfl
theorem filter_all {z : Str} : ∀ l : List Nat, (l.filter fun c => !decide (c ∈ z.cps.toList)).isEmpty = l.all fun c => decide (c ∈ z.cps.toList)
  | [] => rfl
  | c :: r => by
    have ih := filter_all (z := z) r
    rw [List.filter_cons, List.all_cons]
    cases hd : decide (c ∈ z.cps.toList) with
    | true =>
      rw [if_neg (by decide), Bool.true_and]
      exact ih
    | false => rfl
theorem take_filter_succ {l : List Nat} {p : Nat → Bool} {i c : Nat} (h : l[i]? = some c) : (l.take (i + 1)).filter p = (l.take i).filter p ++ if p c = true then [c] else [] := by
  rw [List.take_add_one, h, List.filter_append]
  cases hp : p c <;> simp [hp]
theorem ok__law_fine {P : Program} {w : World} {K : PySem.W.Frag} {mg : Str → Option Value} {base : Heap} (T : T P K mg) : FnOk P w K mg base CX0 1 T.a__law_fine T.fd__law_fine ["text"] (spFine K) := by
  refine T.F__law_fine.ok sc__law_fine (fun vs H Q E h => ?_) (fun cdv A outer s H vs Q E hr h => ?_)
  · obtain ⟨s, rfl, _⟩ := h
    rfl
  · obtain ⟨s, rfl, hok, hz, q⟩ := h
    refine ⟨_, (pss_one (ps_ret (pe_and (pe_chain op_lt op_lt pe_int (pe_callB c_lens (by rfl) T.z_len (by decide +kernel) (pa_cons (pv 0) pa_nil)) pe_int) (pe_one (pe_cmpR (op_eqD hr.units) (pe_lc (own := [("sign", 1)]) (g := gName 1) rfl sc__law_fine.nd (pi_str (pv 0)) (blkOk_by (own := [("sign", 1)]) (N := N__law_fine) (sc := defScope s__law_fine) (by decide +kernel)) (fun _ _ _ _ _ => (pg_name (i := 1) sc__law_fine.nd rfl (by first | exact Or.inl rfl | exact Or.inr rfl))) (fun _ _ _ _ _ => (pts_one (pt_cmpR o_ninSg (pv 1) pe_str rfl))) (fun _ _ _ _ _ => (pv 1))) (pe_lst pa_nil) (nomark _)))))), ?_⟩
    unfold fineB at q
    walk_at "z0"
    walk_at "z"
    have hlt : ∀ c ∈ s.cps.toList, c < 0x110000 := fun c hc => by
      unfold PyData.strOk at hok
      rw [← Array.all_toList] at hok
      exact of_decide_eq_true (List.all_eq_true.mp hok c hc)
    refine Z.lenS (by omega) ?_
    walk_at "z"
    refine Z.ite (fun h1 => ?_) (fun h1 => ?_)
    · rw [decide_eq_true (by omega : 1 ≤ s.cps.size)] at q
      walk_at "z"
      refine Z.ite (fun h2 => ?_) (fun h2 => ?_)
      · rw [decide_eq_true (by omega : s.cps.size ≤ 12)] at q
        walk_at "z"
        refine Z.lcs (fun D i H' => Kp [] H H' ∧ H' D = some (.lst (((s.cps.toList.take i).filter fun c => !decide (c ∈ signs.cps.toList)).map sgV))) ?_ ?_ ?_
        · intro D H1 nD k1 e1
          exact ⟨k1, e1⟩
        · rintro D i c H1 nD hc ⟨k1, e1⟩
          rw [← Array.getElem?_toList] at hc
          have hsucc := take_filter_succ (p := fun c => !decide (c ∈ signs.cps.toList)) hc
          dsimp only [wipe, List.set]
          walk_at "z"
          refine ⟨rfl, ?_⟩
          walk_at "z"
          refine Z.iteN (fun h3 => ?_) (fun h3 => ?_)
          · walk_at "z"
            refine ⟨_, e1, Z.szl (m := 100) ?_, k1.mut nD rfl, ?_⟩
            · rw [List.length_map]
              refine Nat.le_trans (List.length_filter_le _ _) (Nat.le_trans (List.length_take_le' _ _) ?_)
              rw [Array.length_toList]
              omega
            · rw [upd_same, hsucc, if_pos (by rw [decide_eq_false (show ¬ c ∈ signs.cps.toList from h3)]; rfl), List.map_append]; rfl
          · walk_at "z"
            refine ⟨k1, ?_⟩
            rw [hsucc, if_neg (by rw [decide_eq_true (show c ∈ signs.cps.toList from h3)]; decide), List.append_nil]
            exact e1
        · rintro D H1 nD ⟨k1, e1⟩
          walk_at "z"
          refine Z.lstK (fun b H2 nb k2 e2 => ?_)
          rw [List.take_of_length_le (by rw [Array.length_toList]; exact Nat.le_refl _)] at e1
          have e12 := k2.get nin0 e1
          refine ⟨_, _, .lst (lstL e12) (dpSg _), .lst (ds := []) (lstL e2) .nil, shSg (fun c hc => hlt c ((List.mem_filter.mp hc).1)), shNil, ?_⟩
          rw [PyData.eqv, eqvAll_nil, List.isEmpty_map, filter_all]
          exact q H2 (k1.trans k2)
      · rw [decide_eq_false (by omega : ¬ s.cps.size ≤ 12)] at q
        walk_at "z"
        exact q H (Kp.refl _)
    · rw [decide_eq_false (by omega : ¬ 1 ≤ s.cps.size)] at q
      walk_at "z"
      exact q H (Kp.refl _)

/-! ### the law's own reason -/
structure Wd (H : Hp) (d : Addr) (es : List Ent) (o : Ent) : Prop where
  dct : H d = some (.dK (kvsE es))
  ents : EntsAt H es
  oth : PairAt H o
  ok : ∀ e ∈ es, EntOk e
  oo : EntOk o
  nd : (keysE es).Nodup
theorem Wd.kp0 {H H' : Hp} {d : Addr} {es : List Ent} {o : Ent} (h : Wd H d es o) (k : Kp [] H H') : Wd H' d es o := ⟨k.get nin0 h.dct, h.ents.kp0 k, h.oth.kp0 k, h.ok, h.oo, h.nd⟩
theorem PairAt.kpl {H H' : Hp} {a : Addr} {e : Ent} (h : PairAt H e) (k : Kp [a] H H') (n : ∀ vs, H a ≠ some (.tup vs)) : PairAt H' e := k.get (nin1 fun z => by unfold PairAt at h; rw [z] at h; exact n _ h) h
theorem EntsAt.kpl {H H' : Hp} {a : Addr} {es : List Ent} (h : EntsAt H es) (k : Kp [a] H H') (n : ∀ vs, H a ≠ some (.tup vs)) : EntsAt H' es := fun e he => (h e he).kpl k n
theorem Wd.kpd {H H' : Hp} {a d : Addr} {es : List Ent} {o : Ent} (h : Wd H d es o) (k : Kp [a] H H') (da : DrawsAt H a) : Wd H' d es o := by
  obtain ⟨ns, e⟩ := da
  have n : ∀ vs, H a ≠ some (.tup vs) := fun vs z => by rw [e] at z; cases z
  exact ⟨k.get (nin1 fun z => by have := h.dct; rw [z, e] at this; cases this) h.dct, h.ents.kpl k n, h.oth.kpl k n, h.ok, h.oo, h.nd⟩
theorem val_mem : ∀ {es : List Ent} {e : Ent}, (keysE es).Nodup → e ∈ es → (es.find? fun x => decide (x.g = e.g)) = some e
  | [], _, _, h => by cases h
  | x :: r, e, hn, h => by
    unfold keysE at hn
    rw [List.map_cons, List.nodup_cons] at hn
    rcases List.mem_cons.mp h with rfl | h
    · rw [List.find?_cons_of_pos (by simp)]
    · rw [List.find?_cons_of_neg (by
        simp only [decide_eq_true_eq]
        intro z
        exact hn.1 (by rw [z]; exact List.mem_map_of_mem h))]
      exact val_mem (es := r) hn.2 h
theorem val_at {es : List Ent} {e : Ent} (hn : (keysE es).Nodup) (h : e ∈ es) : valV (kvsE es) (.inr e.g) = some (.ref e.p) := by
  rw [valV_E, val_mem hn h]; rfl
theorem ent_name {e : Ent} (h : EntOk e) : e.g.cps.size ≤ 20 := h.gz
theorem dpStrs {K : PySem.W.Frag} {H : Hp} : ∀ l : List Str, DpAll K H (l.map V.str) (l.map PyData.str)
  | [] => .nil
  | c :: r => .cons (.str _) (dpStrs r)
theorem layStrs : ∀ {l : List Str}, (∀ s ∈ l, PyData.strOk s = true) → PyData.canLayAll0 (l.map PyData.str) = true
  | [], _ => by simp [PyData.canLayAll0]
  | c :: r, h => by
    rw [List.map_cons, PyData.canLayAll0, layStrs fun s hs => h s (by simp [hs])]
    simp [PyData.canLay0, h c (by simp)]
theorem depthStrs : ∀ l : List Str, PyData.depthAll (l.map PyData.str) = 0
  | [] => by simp [PyData.depthAll]
  | c :: r => by rw [List.map_cons, PyData.depthAll, depthStrs r]; rfl
theorem shStrs {l : List Str} (h : ∀ s ∈ l, PyData.strOk s = true) : SeqAt.shaped (.list (l.map PyData.str)) = true := by
  unfold SeqAt.shaped
  rw [PyData.canLay0, PyData.depth, layStrs h, depthStrs]; rfl
theorem neStrs {K : PySem.W.Frag} {H : Hp} {Q : VK} {a b : Addr} {l : List Str} (h1 : H a = some (.lst (l.map V.str))) (h2 : H b = some (.lst [])) (s : ∀ x ∈ l, PyData.strOk x = true) (q : Q (.bl (!l.isEmpty)) H) : rNeD K (.ref a) (.ref b) H Q :=
  ⟨_, _, .lst (lstL h1) (dpStrs l), .lst (ds := []) (lstL h2) .nil, shStrs s, shNil, by
    rw [PyData.eqv, eqvAll_nil]
    have e : (l.map PyData.str).isEmpty = l.isEmpty := by cases l <;> rfl
    rw [e]; exact q⟩
theorem dpPairs {K : PySem.W.Frag} {H : Hp} : ∀ {es : List Ent}, EntsAt H es → DpAll K H (refE es) (es.map pairD)
  | [], _ => .nil
  | e :: r, h => .cons (.tup (tupT (h e (by simp))) (.cons (.str _) (.cons (.int _) .nil))) (dpPairs fun x hx => h x (by simp [hx]))
theorem layPairs : ∀ {es : List Ent}, (∀ e ∈ es, EntOk e) → PyData.canLayAll0 (es.map pairD) = true
  | [], _ => by simp [PyData.canLayAll0]
  | e :: r, h => by
    rw [List.map_cons, PyData.canLayAll0, layPairs fun s hs => h s (by simp [hs])]
    simp [pairD, PyData.canLay0, PyData.canLayAll0, (h e (by simp)).k]
theorem depthPairs : ∀ es : List Ent, PyData.depthAll (es.map pairD) ≤ 1
  | [] => by simp [PyData.depthAll]
  | e :: r => by
    have := depthPairs r
    rw [List.map_cons, PyData.depthAll]
    have e1 : (pairD e).depth = 1 := by simp [pairD, PyData.depth, PyData.depthAll]
    omega
theorem nePairs {K : PySem.W.Frag} {H : Hp} {Q : VK} {a b : Addr} {l : List Ent} (h1 : H a = some (.lst (refE l))) (h2 : H b = some (.lst [])) (ha : EntsAt H l) (s : ∀ x ∈ l, EntOk x) (q : Q (.bl (!l.isEmpty)) H) : rNeD K (.ref a) (.ref b) H Q :=
  ⟨_, _, .lst (lstL h1) (dpPairs ha), .lst (ds := []) (lstL h2) .nil, by
    unfold SeqAt.shaped
    rw [PyData.canLay0, PyData.depth, layPairs s, Bool.true_and]
    have := depthPairs l
    exact decide_eq_true (by omega), shNil, by
    rw [PyData.eqv, eqvAll_nil]
    have e : (l.map pairD).isEmpty = l.isEmpty := by cases l <;> rfl
    rw [e]; exact q⟩
theorem filt_empty {α : Type} (p : α → Bool) : ∀ l : List α, (l.filter fun x => !p x).isEmpty = l.all p
  | [] => rfl
  | x :: r => by
    have ih := filt_empty p r
    rw [List.filter_cons, List.all_cons]
    cases h : p x with
    | true => rw [if_neg (by decide), Bool.true_and]; exact ih
    | false => rfl
theorem take_filt {α : Type} {l : List α} {p : α → Bool} {i : Nat} {x : α} (h : l[i]? = some x) : (l.take (i + 1)).filter p = (l.take i).filter p ++ if p x = true then [x] else [] := by
  rw [List.take_add_one, h, List.filter_append]
  cases hp : p x <;> simp [hp]
theorem filt_le {α : Type} (l : List α) (p : α → Bool) (i : Nat) : ((l.take i).filter p).length ≤ l.length := Nat.le_trans (List.length_filter_le _ _) (List.length_take_le' _ _)
def spReasonL (K : PySem.W.Frag) : Sp := fun vs H Q _ => ∃ (d : Addr) (es : List Ent) (o : Ent), vs = [.ref d, .ref o.p] ∧ Wd H d es o ∧ es.length ≤ 900 ∧ ∀ H', Kp [] H H' → Q (optV (reasonP es o)) H'
theorem names_all (es : List Ent) : ((keysE es).filter fun g => !fineB g).isEmpty = es.all nameB := by
  rw [filt_empty]
  unfold keysE
  rw [List.all_map]; rfl
theorem ok__law_reason {P : Program} {w : World} {K : PySem.W.Frag} {mg : Str → Option Value} {base : Heap} (T : T P K mg) : FnOk P w K mg base CX0 2 T.a__law_reason T.fd__law_reason ["rules", "others"] (spReasonL K) := by
  refine T.F__law_reason.ok sc__law_reason (fun vs H Q E h => ?_) (fun cdv A outer s H vs Q E hr h => ?_)
  · obtain ⟨d, es, o, rfl, _⟩ := h
    rfl
  · obtain ⟨d, es, o, rfl, W, hl, q⟩ := h
    refine ⟨_, (pss_cons (ps_if (pt_cmpR op_gt (pe_callB (DV.c_lenD : CallR _ _ DV.rLenDK) (by rfl) T.z_len (by decide +kernel) (pa_cons (pv 0) pa_nil)) pe_int (nomark _)) (pss_one (ps_ret pe_str)) pss_nil)
      (pss_cons (ps_if (pt_cmpR (op_neD hr.units) (pe_lc (own := [("group", 3)]) (g := gName 3) rfl sc__law_reason.nd (pi_list (pe_callTy ((DV.c_listD rfl) : CallR _ _ DV.rListDK) (by rfl) T.z_list (by decide +kernel) (pa_cons (pv 0) pa_nil))) (blkOk_by (own := [("group", 3)]) (N := N__law_reason) (sc := defScope s__law_reason) (by decide +kernel)) (fun _ _ _ _ _ => (pg_name (i := 3) sc__law_reason.nd rfl (by first | exact Or.inl rfl | exact Or.inr rfl))) (fun _ _ _ _ _ => (pts_one (pt_not (pt_val (pe_call (ok__law_fine T) (hr.mono (by decide)) (by rfl) T.g__law_fine T.F__law_fine.kp T.b__law_fine .nil pass0 (pa_cons (pv 3) pa_nil)))))) (fun _ _ _ _ _ => (pv 3))) (pe_lst pa_nil) (nomark _)) (pss_one (ps_ret pe_str)) pss_nil)
      (pss_cons (ps_set (i := 2) sc__law_reason.nd rfl (by first | exact Or.inl rfl | exact Or.inr rfl) (pe_op op_cat (pe_lc (own := [("group", 3)]) (g := gName 3) rfl sc__law_reason.nd (pi_list (pe_callTy ((DV.c_listD rfl) : CallR _ _ DV.rListDK) (by rfl) T.z_list (by decide +kernel) (pa_cons (pv 0) pa_nil))) (blkOk_by (own := [("group", 3)]) (N := N__law_reason) (sc := defScope s__law_reason) (by decide +kernel)) (fun _ _ _ _ _ => (pg_name (i := 3) sc__law_reason.nd rfl (by first | exact Or.inl rfl | exact Or.inr rfl))) (fun _ _ _ _ _ => pts_nil) (fun _ _ _ _ _ => (pe_dget (hu_of hr) (pv 0) (pv 3) (fun _ _ => rfl)))) (pe_lst (pa_cons (pv 1) pa_nil))))
      (pss_cons (ps_if (pt_cmpR (op_neD hr.units) (pe_lc (own := [("pair", 4)]) (g := gName 4) rfl sc__law_reason.nd (pi_list (pv 2)) (blkOk_by (own := [("pair", 4)]) (N := N__law_reason) (sc := defScope s__law_reason) (by decide +kernel)) (fun _ _ _ _ _ => (pg_name (i := 4) sc__law_reason.nd rfl (by first | exact Or.inl rfl | exact Or.inr rfl))) (fun _ _ _ _ _ => (pts_one (pt_cmpR (op_notIn_seq : OpR _ _ (rIn K true)) (pe_ix (ix_tup : IxR _ (rIxT K)) (pv 4) pe_int (fun _ _ => rfl)) (pe_lst (pa_cons pe_str (pa_cons pe_str (pa_cons pe_str pa_nil)))) rfl))) (fun _ _ _ _ _ => (pv 4))) (pe_lst pa_nil) (nomark _)) (pss_one (ps_ret pe_str)) pss_nil)
      (pss_cons (ps_if (pt_cmpR (op_neD hr.units) (pe_lc (own := [("pair", 4)]) (g := gName 4) rfl sc__law_reason.nd (pi_list (pv 2)) (blkOk_by (own := [("pair", 4)]) (N := N__law_reason) (sc := defScope s__law_reason) (by decide +kernel)) (fun _ _ _ _ _ => (pg_name (i := 4) sc__law_reason.nd rfl (by first | exact Or.inl rfl | exact Or.inr rfl))) (fun _ _ _ _ _ => (pts_one (PW.pt (pw_or (pt_cmpR op_lt (pe_ix (ix_tup : IxR _ (rIxT K)) (pv 4) pe_int (fun _ _ => rfl)) pe_int (nomark _)) (pw_or1 (pt_cmpR op_gt (pe_ix (ix_tup : IxR _ (rIxT K)) (pv 4) pe_int (fun _ _ => rfl)) pe_int (nomark _))))))) (fun _ _ _ _ _ => (pv 4))) (pe_lst pa_nil) (nomark _)) (pss_one (ps_ret pe_str)) pss_nil)
      (pss_one (ps_ret pe_non))))))), ?_⟩
    unfold reasonP at q
    have hkl : (keysE es).length = es.length := by unfold keysE; rw [List.length_map]
    walk_at "z0"
    walk_at "z"
    refine lenDK W.dct ?_
    rw [kvsE_len]
    walk_at "z"
    refine Z.ite (fun h1 => ?_) (fun h1 => ?_)
    · rw [if_pos (by omega)] at q
      walk_at "z"
      exact q H (Kp.refl _)
    · rw [if_neg (by omega)] at q
      walk_at "z"
      refine listD W.dct (fun p H1 np k1 e1 => ?_)
      rw [kvsE_keyV] at e1
      walk_at "z"
      refine Z.lcl ((keysE es).map V.str) (lstL e1) (fun D i H' => Kp [] H1 H' ∧ H' D = some (.lst ((((keysE es).take i).filter fun g => !fineB g).map V.str))) ?_ ?_ ?_ ?_
      · intro D H3 nD k3 e3
        exact ⟨k3, e3⟩
      · rintro D i H3 nD hi ⟨k3, e3⟩
        exact lstL (k3.get nin0 e1)
      · rintro D i v H3 nD hv ⟨k3, e3⟩
        obtain ⟨g, hg, rfl⟩ : ∃ g, (keysE es)[i]? = some g ∧ v = .str g := by
          rw [List.getElem?_map] at hv
          cases hw : (keysE es)[i]? with
          | none => rw [hw] at hv; cases hv
          | some r => rw [hw] at hv; exact ⟨r, rfl, (Option.some.inj hv).symm⟩
        have hgo : PyData.strOk g = true ∧ g.cps.size ≤ 20 := by
          obtain ⟨e, he, rfl⟩ := List.mem_map.mp (List.mem_of_getElem? hg)
          exact ⟨(W.ok e he).g, (W.ok e he).gz⟩
        have hsucc := take_filt (p := fun g => !fineB g) hg
        dsimp only [wipe, List.set]
        walk_at "z"
        refine ⟨rfl, ?_⟩
        walk_at "z"
        refine ⟨g, rfl, hgo.1, hgo.2, fun H4 k4 => ?_⟩
        have e4 := k4.get nin0 e3
        walk_at "z"
        cases hb : fineB g with
        | false =>
          rw [hb, if_pos (by decide)] at hsucc
          walk_at "z"
          refine ⟨_, e4, Z.szl (m := 1000) (by rw [List.length_map]; have := filt_le (keysE es) (fun g => !fineB g) i; omega), (k3.trans k4).mut nD rfl, ?_⟩
          rw [upd_same, hsucc, List.map_append]; rfl
        | true =>
          rw [hb, if_neg (by decide), List.append_nil] at hsucc
          walk_at "z"
          refine ⟨k3.trans k4, ?_⟩
          rw [hsucc]
          exact e4
      · rintro D H3 nD ⟨k3, e3⟩
        rw [List.take_of_length_le (by rw [List.length_map]; exact Nat.le_refl _)] at e3
        walk_at "z"
        refine Z.lstK (fun b H4 nb k4 e4 => ?_)
        have k14 := (k1.trans k3).trans k4
        refine neStrs (k4.get nin0 e3) e4 (fun x hx => ?_) ?_
        · obtain ⟨e, he, rfl⟩ := List.mem_map.mp (List.mem_filter.mp hx).1
          exact (W.ok e he).g
        rw [names_all]
        walk_at "z"
        cases hn : es.all nameB with
        | false =>
          rw [if_pos hn] at q
          walk_at "z"
          exact q H4 k14
        | true =>
          rw [if_neg (by rw [hn]; decide)] at q
          walk_at "z"
          have W4 := W.kp0 k14
          refine listD W4.dct (fun p2 H5 np2 k5 e5 => ?_)
          rw [kvsE_keyV] at e5
          have W5 := W4.kp0 k5
          walk_at "z"
          refine Z.lcl ((keysE es).map V.str) (lstL e5) (fun D i H' => Kp [] H5 H' ∧ H' D = some (.lst ((refE es).take i))) ?_ ?_ ?_ ?_
          · intro D H6 nD k6 e6
            exact ⟨k6, e6⟩
          · rintro D i H6 nD hi ⟨k6, e6⟩
            exact lstL (k6.get nin0 e5)
          · rintro D i v H6 nD hv ⟨k6, e6⟩
            obtain ⟨e, he, rfl⟩ : ∃ e, es[i]? = some e ∧ v = .str e.g := by
              unfold keysE at hv
              rw [List.getElem?_map, List.getElem?_map] at hv
              cases hw : es[i]? with
              | none => rw [hw] at hv; cases hv
              | some r => rw [hw] at hv; exact ⟨r, rfl, (Option.some.inj hv).symm⟩
            have hi : i < es.length := (List.getElem?_eq_some_iff.mp he).1
            have W6 := W5.kp0 k6
            dsimp only [wipe, List.set]
            walk_at "z"
            refine ⟨rfl, ?_⟩
            walk_at "z"
            refine ⟨d, _, rfl, by have := DGet.k (k := .inr e.g) W6.dct; rw [val_at W.nd (List.mem_of_getElem? he)] at this; exact this, ?_⟩
            refine ⟨_, e6, Z.szl (m := 1000) (by rw [List.length_take, refE_len]; omega), k6.mut nD rfl, ?_⟩
            have hb : (refE es)[i]? = some (.ref e.p) := by unfold refE; rw [List.getElem?_map, he]; rfl
            rw [upd_same, List.take_add_one, hb]; rfl
          · rintro D H6 nD ⟨k6, e6⟩
            rw [List.take_of_length_le (by rw [List.length_map, refE_len, hkl]; exact Nat.le_refl _)] at e6
            walk_at "z"
            refine Z.lstK (fun b2 H7 nb2 k7 e7 => ?_)
            refine Z.cat (k7.get nin0 e6) e7 (by rw [refE_len]; simp; omega) (fun a H8 na k8 e8 => ?_)
            have e8' : H8 a = some (.lst (refE (es ++ [o]))) := by rw [e8, refE_app]; rfl
            have k48 := ((k5.trans k6).trans k7).trans k8
            have k08 := k14.trans k48
            have W8 := W4.kp0 k48
            have ha8 : EntsAt H8 (es ++ [o]) := W8.ents.snoc W8.oth
            have hoks : ∀ e ∈ es ++ [o], EntOk e := fun e he => by
              rcases List.mem_append.mp he with z | z
              · exact W.ok e z
              · rw [List.mem_singleton.mp z]; exact W.oo
            have hll : (es ++ [o]).length ≤ 901 := by rw [List.length_append, List.length_singleton]; omega
            walk_at "z"
            refine Z.lcl (refE (es ++ [o])) (lstL e8') (fun D i H' => Kp [] H8 H' ∧ H' D = some (.lst (refE (((es ++ [o]).take i).filter fun e => !kindB e)))) ?_ ?_ ?_ ?_
            · intro D H9 nD k9 e9
              exact ⟨k9, e9⟩
            · rintro D i H9 nD hi ⟨k9, e9⟩
              exact lstL (k9.get nin0 e8')
            · rintro D i v H9 nD hv ⟨k9, e9⟩
              obtain ⟨e, he, rfl⟩ := refE_of hv
              have hp := ha8.kp0 k9 e (List.mem_of_getElem? he)
              have hsucc := take_filt (p := fun e => !kindB e) he
              dsimp only [wipe, List.set]
              walk_at "z"
              refine ⟨rfl, ?_⟩
              walk_at "z"
              refine Z.ixT (v := .str e.k) (tupT hp) rfl ?_
              walk_at "z"
              refine Z.lstK (fun b3 H10 nb3 k10 e10 => ?_)
              refine Z.inq (xs := kinds3.map V.str) (.inl (lstL e10)) rfl Z.strs_flat ?_
              rw [if_pos rfl, Z.inV_strs]
              have e910 := k10.get nin0 e9
              walk_at "z"
              refine Z.iteN (fun h3 => ?_) (fun h3 => ?_)
              · rw [if_pos (by unfold kindB; rw [decide_eq_false h3]; rfl)] at hsucc
                walk_at "z"
                refine ⟨_, e910, Z.szl (m := 1000) (by rw [refE_len]; have := filt_le (es ++ [o]) (fun e => !kindB e) i; omega), (k9.trans k10).mut nD rfl, ?_⟩
                rw [upd_same, hsucc, refE_app]; rfl
              · rw [if_neg (by unfold kindB; rw [decide_eq_true h3]; decide), List.append_nil] at hsucc
                walk_at "z"
                refine ⟨k9.trans k10, ?_⟩
                rw [hsucc]
                exact e910
            · rintro D H9 nD ⟨k9, e9⟩
              rw [List.take_of_length_le (by rw [refE_len]; exact Nat.le_refl _)] at e9
              walk_at "z"
              refine Z.lstK (fun b4 H10 nb4 k10 e10 => ?_)
              have k810 := k9.trans k10
              refine nePairs (k10.get nin0 e9) e10 (fun x hx => ha8.kp0 k810 x (List.mem_filter.mp hx).1) (fun x hx => hoks x (List.mem_filter.mp hx).1) ?_
              rw [filt_empty]
              walk_at "z"
              cases hk : (es ++ [o]).all kindB with
              | false =>
                rw [if_pos hk] at q
                walk_at "z"
                exact q H10 (k08.trans k810)
              | true =>
                rw [if_neg (by rw [hk]; decide)] at q
                walk_at "z"
                have e10' := k810.get nin0 e8'
                have ha10 := ha8.kp0 k810
                refine Z.lcl (refE (es ++ [o])) (lstL e10') (fun D i H' => Kp [] H10 H' ∧ H' D = some (.lst (refE (((es ++ [o]).take i).filter fun e => !sizeB e)))) ?_ ?_ ?_ ?_
                · intro D H11 nD k11 e11
                  exact ⟨k11, e11⟩
                · rintro D i H11 nD hi ⟨k11, e11⟩
                  exact lstL (k11.get nin0 e10')
                · rintro D i v H11 nD hv ⟨k11, e11⟩
                  obtain ⟨e, he, rfl⟩ := refE_of hv
                  have hp := ha10.kp0 k11 e (List.mem_of_getElem? he)
                  have hsucc := take_filt (p := fun e => !sizeB e) he
                  have put : (1 ≤ e.n ∧ e.n ≤ 20 → False) → ∃ acc, H11 D = some (.lst acc) ∧ acc.length < sizeLine ∧ Kp [] H10 (upd H11 D (.lst (acc ++ [.ref e.p]))) ∧ (upd H11 D (.lst (acc ++ [.ref e.p]))) D = some (.lst (refE (((es ++ [o]).take (i + 1)).filter fun e => !sizeB e))) := fun hno => by
                    rw [if_pos (by unfold sizeB; rw [decide_eq_false hno]; rfl)] at hsucc
                    refine ⟨_, e11, Z.szl (m := 1000) (by rw [refE_len]; have := filt_le (es ++ [o]) (fun e => !sizeB e) i; omega), k11.mut nD rfl, ?_⟩
                    rw [upd_same, hsucc, refE_app]; rfl
                  dsimp only [wipe, List.set]
                  walk_at "z"
                  refine ⟨rfl, ?_⟩
                  walk_at "z"
                  refine Z.ixT (v := .int e.n) (tupT hp) rfl ?_
                  walk_at "z"
                  refine Z.ite (fun h3 => ?_) (fun h3 => ?_)
                  · walk_at "z"
                    exact put fun h => by omega
                  · walk_at "z"
                    refine Z.ixT (v := .int e.n) (tupT hp) rfl ?_
                    walk_at "z"
                    refine Z.ite (fun h4 => ?_) (fun h4 => ?_)
                    · walk_at "z"
                      exact put fun h => by omega
                    · walk_at "z"
                      refine ⟨k11, ?_⟩
                      rw [if_neg (by unfold sizeB; rw [decide_eq_true (show 1 ≤ e.n ∧ e.n ≤ 20 by omega)]; decide), List.append_nil] at hsucc
                      rw [hsucc]
                      exact e11
                · rintro D H11 nD ⟨k11, e11⟩
                  rw [List.take_of_length_le (by rw [refE_len]; exact Nat.le_refl _)] at e11
                  walk_at "z"
                  refine Z.lstK (fun b5 H12 nb5 k12 e12 => ?_)
                  have k1012 := k11.trans k12
                  refine nePairs (k12.get nin0 e11) e12 (fun x hx => ha10.kp0 k1012 x (List.mem_filter.mp hx).1) (fun x hx => hoks x (List.mem_filter.mp hx).1) ?_
                  rw [filt_empty]
                  walk_at "z"
                  cases hs : (es ++ [o]).all sizeB with
                  | false =>
                    rw [if_pos hs] at q
                    walk_at "z"
                    exact q H12 ((k08.trans k810).trans k1012)
                  | true =>
                    rw [if_neg (by rw [hs]; decide)] at q
                    walk_at "z"
                    exact q H12 ((k08.trans k810).trans k1012)

/-! ### plans as they are made -/
def spMadeL (K : PySem.W.Frag) (C : Addr) : Sp := fun vs H Q _ => ∃ (d : Addr) (es : List Ent) (o : Ent), vs = [.ref d, .ref o.p] ∧ Wd H d es o ∧ es.length ≤ 900 ∧
  (reasonP es o = none → ∀ H' l x, H l = none → Kp [] H H' → H' l = some (.lst [.str "plan", .ref x]) → Q (.ref l) H') ∧ (∀ r, reasonP es o = some r → ∀ H' l, H l = none → Kp [] H H' → H' l = some (.lst [.str "refused", .str r]) → Q (.ref l) H')
theorem ok__law_made {P : Program} {w : World} {K : PySem.W.Frag} {mg : Str → Option Value} {base : Heap} (T : T P K mg) : FnOk P w K mg base CX0 6 T.a__law_made T.fd__law_made ["rules", "others"] (spMadeL K T.C_Plan) := by
  refine T.F__law_made.ok sc__law_made (fun vs H Q E h => ?_) (fun cdv A outer s H vs Q E hr h => ?_)
  · obtain ⟨d, es, o, rfl, _⟩ := h
    rfl
  · obtain ⟨d, es, o, rfl, W, hl, q, qr⟩ := h
    refine ⟨_, (pss_one (ps_try_as (i := 2) rfl rfl sc__law_made.nd rfl rfl ⟨by rfl, by decide, .inl T.x_InvalidPlan.g⟩ takes0 (fun W pn xe tk po => (pss_one (ps_ret (pe_lst (pa_cons pe_str (pa_cons (MkS.pe_makeS T.mk_Plan (ok_Plan_init T) (hr.mono (by decide)) (by rfl) T.mg_Plan T.b_Plan_init (fun σ => passAt tk σ) (pa_cons (pv 0) (pa_cons (pv 1) pa_nil))) pa_nil)))))) (fun a oe cls d pn hz hf => (pss_one (ps_ret (pe_lst (pa_cons pe_str (pa_cons (pe_xf T.x_InvalidPlan.xf T.nf_InvalidPlan_reason hz hf (pv 2)) pa_nil)))))))), ?_⟩
    walk_at "z0"
    walk_at "z"
    refine ⟨_, rfl, ?_⟩
    walk_at "z"
    intro x dx nx ndx hne
    have k0 : Kp [] H (upd (upd H dx (.own x)) x (.ins T.C_Plan dx [])) := Kp.made nx ndx
    refine ⟨x, dx, d, es, o, rfl, upd_same, k0.get nin0 W.dct, W.ents.kp0 k0, W.oth.kp0 k0, by omega, fun e he => Nat.le_trans (W.ok e he).gz (by decide), fun hrn H1 p np k1 hP => ⟨rfl, ?_⟩, fun r hrn H1 y k1 hy => ?_⟩
    · have k01 := k0.then1 k1 nx
      walk_at "z"
      refine Z.lstK (fun b H2 nb k2 e2 => ?_)
      exact q hrn H2 b x (k01.none nin0 nb) (k01.trans k2) e2
    · have k01 := k0.trans k1
      refine ⟨true, T.x_InvalidPlan.te, fun _ a ha => ?_, fun z => by cases z⟩
      walk_at "z"
      refine ⟨_, rfl, rfl, rfl, y, _, .str r, rfl, upd_same, rfl, ?_⟩
      walk_at "z"
      refine Z.lstK (fun b H2 nb k2 e2 => ?_)
      exact qr r hrn H2 b ((k01.trans (Kp.new hy)).none nin0 nb) ((k01.trans (Kp.new hy)).trans k2) e2
theorem reason_none {es : List Ent} {o : Ent} (h : reasonP es o = none) : es.length ≤ 20 ∧ es.all nameB = true ∧ (es ++ [o]).all kindB = true ∧ (es ++ [o]).all sizeB = true := by
  unfold reasonP at h
  by_cases h1 : 20 < es.length
  · rw [if_pos h1] at h; cases h
  · rw [if_neg h1] at h
    cases h2 : es.all nameB with
    | false => rw [if_pos h2] at h; cases h
    | true =>
      rw [if_neg (by rw [h2]; decide)] at h
      cases h3 : (es ++ [o]).all kindB with
      | false => rw [if_pos h3] at h; cases h
      | true =>
        rw [if_neg (by rw [h3]; decide)] at h
        cases h4 : (es ++ [o]).all sizeB with
        | false => rw [if_pos h4] at h; cases h
        | true => exact ⟨by omega, rfl, rfl, rfl⟩
theorem reason_other {es : List Ent} {o o2 : Ent} (h : reasonP es o = none) (hk : o2.k ∈ kinds3) (hn : o2.n = o.n) : reasonP es o2 = none := by
  obtain ⟨h1, h2, h3, h4⟩ := reason_none h
  rw [List.all_append, Bool.and_eq_true] at h3 h4
  unfold reasonP
  rw [if_neg (by omega), if_neg (by rw [h2]; decide), if_neg, if_neg]
  · rw [List.all_append, h4.1, Bool.true_and]
    have := h4.2
    simp only [List.all_cons, List.all_nil, Bool.and_true, sizeB] at this ⊢
    rw [hn, this]; decide
  · rw [List.all_append, h3.1, Bool.true_and]
    simp only [List.all_cons, List.all_nil, Bool.and_true, kindB]
    rw [decide_eq_true hk]; decide
/-- making a plan without a fault -/
theorem mkPlan {K : PySem.W.Frag} {C CE : Addr} {H : Hp} {R : Hp → Prop} {x dx d : Addr} {es : List Ent} {o : Ent} {E : XK} (W : Wd H d es o) (hrn : reasonP es o = none) (hl : es.length ≤ 900) (nx : H x = none) (ndx : H dx = none)
    (q : ∀ H' p, H p = none → Kp [] H H' → PlanAt C H' x p es o → R H') : spPInit C CE (.ref x :: ([.ref d, .ref o.p] ++ [])) (upd (upd H dx (.own x)) x (.ins C dx [])) (fun v H2 => v = .non ∧ R H2) E := by
  have k0 : Kp [] H (upd (upd H dx (.own x)) x (.ins C dx [])) := Kp.made nx ndx
  refine ⟨x, dx, d, es, o, rfl, upd_same, k0.get nin0 W.dct, W.ents.kp0 k0, W.oth.kp0 k0, by omega, fun e he => Nat.le_trans (W.ok e he).gz (by decide), fun _ H1 p np k1 hP => ⟨rfl, q H1 p (k0.none nin0 np) (k0.then1 k1 nx) hP⟩, fun r hr2 H1 y k1 hy => ?_⟩
  rw [hrn] at hr2; cases hr2
theorem kinds_ok : ∀ k ∈ kinds3, PyData.strOk k = true ∧ k.cps.size ≤ 20 := by decide +kernel
def names5 : List Str := ["red", "blue", "gold", "k", "late"]
def spStands (K : PySem.W.Frag) : Sp := fun vs H Q _ => ∃ (d : Addr) (es : List Ent) (o : Ent), vs = [.ref d, .ref o.p] ∧ Wd H d es o ∧ reasonP es o = none ∧ ∀ H', Kp [d] H H' → Q (.bl true) H'
theorem ok__law_stands {P : Program} {w : World} {K : PySem.W.Frag} {mg : Str → Option Value} {base : Heap} (T : T P K mg) : FnOk P w K mg base CX0 10 T.a__law_stands T.fd__law_stands ["rules", "others"] (spStands K) := by
  refine T.F__law_stands.ok sc__law_stands (fun vs H Q E h => ?_) (fun cdv A outer s H vs Q E hr h => ?_)
  · obtain ⟨d, es, o, rfl, _⟩ := h
    rfl
  · obtain ⟨d, es, o, rfl, W, hrn, q⟩ := h
    refine ⟨_, (pss_cons (ps_set (i := 2) sc__law_stands.nd rfl (by first | exact Or.inl rfl | exact Or.inr rfl) (pe_callTy call_dictD (by rfl) T.z_dict (by decide +kernel) (pa_cons (pv 0) pa_nil)))
      (pss_cons (ps_set (i := 3) sc__law_stands.nd rfl (by first | exact Or.inl rfl | exact Or.inr rfl) (pe_make T.mk_Plan (ok_Plan_init T) (hr.mono (by decide)) (by rfl) T.mg_Plan T.b_Plan_init .nil passL (pa_cons (pv 0) (pa_cons (pv 1) pa_nil))))
      (pss_cons (ps_set (i := 4) sc__law_stands.nd rfl (by first | exact Or.inl rfl | exact Or.inr rfl) (pe_make T.mk_Plan (ok_Plan_init T) (hr.mono (by decide)) (by rfl) T.mg_Plan T.b_Plan_init .nil passL (pa_cons (pe_callTy call_dictD (by rfl) T.z_dict (by decide +kernel) (pa_cons (pv 0) pa_nil)) (pa_cons (pv 1) pa_nil))))
      (pss_cons (ps_set (i := 5) sc__law_stands.nd rfl (by first | exact Or.inl rfl | exact Or.inr rfl) (pe_make T.mk_Plan (ok_Plan_init T) (hr.mono (by decide)) (by rfl) T.mg_Plan T.b_Plan_init .nil passL (pa_cons (pv 2) (pa_cons (pe_tup (pa_cons (pe_ix ix_list (pe_lst (pa_cons pe_str (pa_cons pe_str pa_nil))) (pe_callTy c_int (by rfl) T.z_int (by decide +kernel) (pa_cons (pe_cmpR op_eq (pe_ix ix_tup (pv 1) pe_int (fun _ _ => rfl)) pe_str (nomark _)) pa_nil)) (fun _ _ => rfl)) (pa_cons (pe_ix ix_tup (pv 1) pe_int (fun _ _ => rfl)) pa_nil))) pa_nil))))
      (pss_cons (ps_dput (hu_of hr) (pv 0) pe_str (pe_tup (pa_cons pe_str (pa_cons pe_int pa_nil))) rfl)
      (pss_cons (ps_set (i := 6) sc__law_stands.nd rfl (by first | exact Or.inl rfl | exact Or.inr rfl) (pe_op op_cat (pe_callB (cr_sortedS : CallR _ _ (rSortedS K)) (by rfl) T.z_sorted (by decide +kernel) (pa_cons (pe_callTy ((DV.c_listD rfl) : CallR _ _ DV.rListDK) (by rfl) T.z_list (by decide +kernel) (pa_cons (pv 2) pa_nil)) pa_nil)) (pe_lst (pa_cons pe_non pa_nil))))
      (pss_cons (ps_if (PW.pt (pw_or (pt_not (pt_val (pe_call (ok__law_same T) (hr.mono (by decide)) (by rfl) T.g__law_same T.F__law_same.kp T.b__law_same .nil pass0 (pa_cons (pe_meth0 (pv 3) T.cl_Plan T.me_Plan_places (ok_Plan_places T) (hr.mono (by decide)) T.b_Plan_places .nil pass0) (pa_cons (pv 6) pa_nil))))) (pw_or1 (pt_not (pt_val (pe_call (ok__law_same T) (hr.mono (by decide)) (by rfl) T.g__law_same T.F__law_same.kp T.b__law_same .nil pass0 (pa_cons (pe_lst (pa_cons (pe_call (ok_same_plan T) (hr.mono (by decide)) (by rfl) T.g_same_plan T.F_same_plan.kp T.b_same_plan .nil pass0 (pa_cons (pv 3) (pa_cons (pv 4) pa_nil))) (pa_cons (pe_call (ok_same_plan T) (hr.mono (by decide)) (by rfl) T.g_same_plan T.F_same_plan.kp T.b_same_plan .nil pass0 (pa_cons (pv 3) (pa_cons (pv 5) pa_nil))) pa_nil))) (pa_cons (pe_lst (pa_cons pe_bl (pa_cons pe_bl pa_nil))) pa_nil)))))))) (pss_one (ps_ret pe_bl)) pss_nil)
      (pss_cons (ps_for PassesOwn.never rfl (pi_list (pe_lst (pa_cons pe_str (pa_cons pe_str (pa_cons pe_str (pa_cons pe_str (pa_cons pe_str pa_nil))))))) (pg_name (i := 7) sc__law_stands.nd rfl (by first | exact Or.inl rfl | exact Or.inr rfl)) (pss_cons (ps_set (i := 8) sc__law_stands.nd rfl (by first | exact Or.inl rfl | exact Or.inr rfl) pe_non)
      (Z.pss_consJ (ps_if (pt_cmp (pc_din (hu_of hr) (pv 7) (pv 2)) rfl) (pss_one (ps_set (i := 8) sc__law_stands.nd rfl (by first | exact Or.inl rfl | exact Or.inr rfl) (pv 7))) pss_nil)
      (pss_one (ps_if (pt_not (pt_val (pe_call (ok__law_same T) (hr.mono (by decide)) (by rfl) T.g__law_same T.F__law_same.kp T.b__law_same .nil pass0 (pa_cons (pe_meth (pv 3) T.cl_Plan T.me_Plan_place_of (ok_Plan_place_of T) (hr.mono (by decide)) T.b_Plan_place_of .nil pass0 (pa_cons (pv 7) pa_nil)) (pa_cons (pv 8) pa_nil))))) (pss_one (ps_ret pe_bl)) pss_nil)))))
      (pss_one (ps_ret (pe_call (ok__law_same T) (hr.mono (by decide)) (by rfl) T.g__law_same T.F__law_same.kp T.b__law_same .nil pass0 (pa_cons (pe_lc (own := [("place", 8)]) (g := gName 8) rfl sc__law_stands.nd (pi_list (pv 6)) (blkOk_by (own := [("place", 8)]) (N := N__law_stands) (sc := defScope s__law_stands) (by decide +kernel)) (fun _ _ _ _ _ => (pg_name (i := 8) sc__law_stands.nd rfl (by first | exact Or.inl rfl | exact Or.inr rfl))) (fun _ _ _ _ _ => pts_nil) (fun _ _ _ _ _ => (pe_meth (pv 3) T.cl_Plan T.me_Plan_rule (ok_Plan_rule T) (hr.mono (by decide)) T.b_Plan_rule .nil pass0 (pa_cons (pv 8) pa_nil)))) (pa_cons (pe_lc (own := [("place", 8)]) (g := gName 8) rfl sc__law_stands.nd (pi_list (pv 6)) (blkOk_by (own := [("place", 8)]) (N := N__law_stands) (sc := defScope s__law_stands) (by decide +kernel)) (fun _ _ _ _ _ => (pg_name (i := 8) sc__law_stands.nd rfl (by first | exact Or.inl rfl | exact Or.inr rfl))) (fun _ _ _ _ _ => pts_nil) (fun _ _ _ _ _ => ((DV.pe_dget2N (Nat.lt_of_le_of_lt (Nat.add_le_add_left (by decide) _) (hu_of hr)) (pv 2) (pv 8) (pv 1) ⟨by rfl, by rfl, by rfl, by rfl⟩) : PE _ _ (DV.tDGet2N _ _ _)))) pa_nil))))))))))))), ?_⟩
    obtain ⟨hl20, hnm, hkd, hsz⟩ := reason_none hrn
    have hkl : (keysE es).length = es.length := by unfold keysE; rw [List.length_map]
    walk_at "z0"
    walk_at "z"
    refine ⟨d, kvsE es, rfl, .inl W.dct, fun c nc => ?_⟩
    have k1 : Kp [] H (upd H c (.dK (kvsE es))) := Kp.new nc
    have e1 : (upd H c (.dK (kvsE es))) c = some (.dK (kvsE es)) := upd_same
    revert k1 e1
    generalize upd H c (.dK (kvsE es)) = H1
    intro k1 e1
    have W1 := W.kp0 k1
    walk_at "z"
    intro x1 dx1 nx1 ndx1 hne1
    refine mkPlan (K := K) W1 hrn (by omega) nx1 ndx1 (fun H2 q1 nq1 k2 P2 => ?_)
    have W2 := W1.kp0 k2
    walk_at "z"
    refine ⟨d, kvsE es, rfl, .inl W2.dct, fun c2 nc2 => ?_⟩
    have k3 : Kp [] H2 (upd H2 c2 (.dK (kvsE es))) := Kp.new nc2
    have e3 : (upd H2 c2 (.dK (kvsE es))) c2 = some (.dK (kvsE es)) := upd_same
    revert k3 e3
    generalize upd H2 c2 (.dK (kvsE es)) = H3
    intro k3 e3
    have W3 := W2.kp0 k3
    have V3 : Wd H3 c2 es o := ⟨e3, W3.ents, W3.oth, W.ok, W.oo, W.nd⟩
    walk_at "z"
    intro x2 dx2 nx2 ndx2 hne2
    refine mkPlan (K := K) V3 hrn (by omega) nx2 ndx2 (fun H4 q2 nq2 k4 P4 => ?_)
    have W4 := W3.kp0 k4
    have P4a := (P2.kp0 k3).kp0 k4
    have e4 := ((k2.trans k3).trans k4).get nin0 e1
    walk_at "z"
    refine Z.lstK (fun b5 H5 nb5 k5 e5 => ?_)
    have W5 := W4.kp0 k5
    walk_at "z"
    refine Z.ixT (v := .str o.k) (tupT W5.oth) rfl ?_
    walk_at "z"
    obtain ⟨k', hk', ek', hne'⟩ : ∃ k', k' ∈ kinds3 ∧ atI [V.str "uniform", V.str "weighted"] (if decide (o.k = ("uniform" : Str)) = true then 1 else 0) = some (.str k') ∧ ¬ o.k = k' := by
      by_cases hu : o.k = ("uniform" : Str)
      · refine ⟨"weighted", by decide +kernel, ?_, ?_⟩
        · rw [if_pos (decide_eq_true hu)]; rfl
        · rw [hu]; decide +kernel
      · refine ⟨"uniform", by decide +kernel, ?_, hu⟩
        rw [if_neg (by simpa using hu)]; rfl
    refine Z.ixL (lstL e5) ek' ?_
    walk_at "z"
    refine Z.ixT (v := .int o.n) (tupT W5.oth) rfl ?_
    walk_at "z"
    refine Z.tupK (fun t H6 nt k6 e6 => ?_)
    have W6 := W5.kp0 k6
    have k46 := k5.trans k6
    have V6 : Wd H6 c es ⟨"", t, k', o.n⟩ := ⟨k46.get nin0 e4, W6.ents, e6, W.ok, ⟨(by show PyData.strOk ("" : Str) = true; decide +kernel), (kinds_ok k' hk').1, (by show ("" : Str).cps.size ≤ 20; decide +kernel), (kinds_ok k' hk').2⟩, W.nd⟩
    walk_at "z"
    intro x3 dx3 nx3 ndx3 hne3
    refine mkPlan (K := K) V6 (reason_other hrn hk' rfl) (by omega) nx3 ndx3 (fun H7 q3 nq3 k7 P7 => ?_)
    have k17 := k2.trans (k3.trans (k4.trans (k46.trans k7)))
    have k27 := k3.trans (k4.trans (k46.trans k7))
    have k47 := k46.trans k7
    have W7 := W1.kp0 k17
    have A7 := P2.kp0 k27
    have B7 := P4.kp0 k47
    have e7 := k17.get nin0 e1
    walk_at "z"
    refine Z.tupK (fun t2 H8 nt2 k8 e8 => ?_)
    have W8 := W7.kp0 k8
    have A8 := A7.kp0 k8
    have B8 := B7.kp0 k8
    have C8 := P7.kp0 k8
    have e8c := k8.get nin0 e7
    walk_at "z"
    refine ⟨d, _, rfl, DPut.k (k := .inr "late") W8.dct (by rw [kvsE_len]; exact Nat.lt_of_le_of_lt hl20 (by decide)), ?_⟩
    have k9 : Kp [d] H8 (upd H8 d (.dK (putK (kvsE es) (.inr "late") (.ref t2)))) := Kp.put (by simp)
    revert k9
    generalize upd H8 d (.dK (putK (kvsE es) (.inr "late") (.ref t2))) = H9
    intro k9
    have nt8 : ∀ vs, H8 d ≠ some (.tup vs) := fun vs z => by rw [W8.dct] at z; cases z
    have hd1 := W1.dct
    have A9 := A8.kpd k9 (ne_of_none hd1 nx1).symm (ne_of_none hd1 nq1).symm nt8
    have hd3 := W3.dct
    have B9 := B8.kpd k9 (ne_of_none hd3 nx2).symm (ne_of_none hd3 nq2).symm nt8
    have hd6 := W6.dct
    have C9 := C8.kpd k9 (ne_of_none hd6 nx3).symm (ne_of_none hd6 nq3).symm nt8
    have ncd : c ≠ d := (ne_of_none W.dct nc).symm
    have e9 := k9.get (nin1 ncd) e8c
    have k09 : Kp [d] H H9 := (((k1.trans k17).trans k8).sub (by simp)).trans k9
    have I9 : EntsAt H9 es := W8.ents.kpl k9 nt8
    have O9 : PairAt H9 o := W8.oth.kpl k9 nt8
    walk_at "z"
    refine listD e9 (fun p H10 np k10 e10 => ?_)
    rw [kvsE_keyV] at e10
    walk_at "z"
    refine ⟨p, keysE es, rfl, lstL e10, by omega, fun ys p2 hp hs np2 => ?_⟩
    have k11 : Kp [] H10 (upd H10 p2 (.lst (ys.map V.str))) := Kp.new np2
    have e11 : (upd H10 p2 (.lst (ys.map V.str))) p2 = some (.lst (ys.map V.str)) := upd_same
    revert k11 e11
    generalize upd H10 p2 (.lst (ys.map V.str)) = H11
    intro k11 e11
    walk_at "z"
    refine Z.lstK (fun b12 H12 nb12 k12 e12 => ?_)
    have hyl : ys.length ≤ 20 := by rw [hp.length_eq, hkl]; exact hl20
    refine Z.cat (k12.get nin0 e11) e12 (by rw [List.length_map]; simp; omega) (fun pl H13 npl k13 e13 => ?_)
    have k913 := (k10.trans k11).trans (k12.trans k13)
    have A13 := A9.kp0 k913
    have B13 := B9.kp0 k913
    have C13 := C9.kp0 k913
    obtain ⟨ax, a1, a2, a3, a4⟩ := A13
    walk_at "z"
    refine ⟨x1, ax, _, rfl, a1, rfl, ?_⟩
    refine ⟨x1, q1, es, o, rfl, A9.kp0 k913, by omega, fun H14 pm zs npm k14 hp4 hs4 e14 => ?_⟩
    obtain rfl : ys = zs := DV.sorted_uniq (hp.trans hp4.symm) hs hs4
    have e14p := k14.get nin0 e13
    walk_at "z"
    refine ⟨_, _, rfl, Sm.plain (n := 6) e14 e14p (by simp; omega) (fun x hx => ?_), ?_⟩
    · rcases List.mem_append.mp hx with h | h
      · obtain ⟨s, _, rfl⟩ := List.mem_map.mp h; rfl
      · rw [List.mem_singleton.mp h]; rfl
    walk_at "z"
    have k914 := k913.trans k14
    refine ⟨x1, x2, q1, q2, es, o, o, rfl, A9.kp0 k914, B9.kp0 k914, by omega, W.ok, W.oo, W.oo, fun H15 k15 => ?_⟩
    rw [show (decide (o.k = o.k) && decide (o.n = o.n)) = true by simp]
    have k915 := k914.trans k15
    walk_at "z"
    refine ⟨x1, x3, q1, q3, es, o, ⟨"", t, k', o.n⟩, rfl, A9.kp0 k915, C9.kp0 k915, by omega, W.ok, W.oo, V6.oo, fun H16 k16 => ?_⟩
    rw [show (decide (o.k = k') && decide (o.n = o.n)) = false by rw [decide_eq_false hne']; rfl]
    have k916 := k915.trans k16
    walk_at "z"
    refine Z.lstK (fun b17 H17 nb17 k17 e17 => ?_)
    walk_at "z"
    refine Z.lstK (fun b18 H18 nb18 k18 e18 => ?_)
    walk_at "z"
    refine ⟨_, _, rfl, Sm.plain (n := 6) (k18.get nin0 e17) e18 (by simp) (fun x hx => ?_), ?_⟩
    · simp only [List.mem_cons, List.not_mem_nil, or_false] at hx
      rcases hx with rfl | rfl <;> rfl
    walk_at "z"
    refine Z.lstK (fun b19 H19 nb19 k19 e19 => ?_)
    have k919 := ((k916.trans k17).trans k18).trans k19
    have A19 := A9.kp0 k919
    have e19c := k919.get nin0 e9
    have e19p := (((((k14.trans k15).trans k16).trans k17).trans k18).trans k19).get nin0 e13
    have I19 := I9.kp0 k919
    have O19 := O9.kp0 k919
    walk_at "z"
    refine Z.forl (names5.map V.str) (lstL e19) (fun j σ' H' => ∃ y7 y8, σ' = [some (.ref d), some (.ref o.p), some (.ref c), some (.ref x1), some (.ref x2), some (.ref x3), some (.ref pl), y7, y8] ∧ Kp [] H19 H') ⟨_, _, rfl, Kp.refl _⟩ ?_ ?_ ?_
    · rintro j σ' H' hj ⟨y7, y8, rfl, kj⟩
      exact lstL (kj.get nin0 e19)
    · rintro j v σ' H20 hv ⟨y7, y8, rfl, kj⟩
      obtain ⟨g, hg, rfl⟩ : ∃ g, names5[j]? = some g ∧ v = .str g := by
        rw [List.getElem?_map] at hv
        cases hw : names5[j]? with
        | none => rw [hw] at hv; cases hv
        | some r => rw [hw] at hv; exact ⟨r, rfl, (Option.some.inj hv).symm⟩
      walk_at "z"
      refine Z.seqJ (fun σ' H' => σ' = [some (.ref d), some (.ref o.p), some (.ref c), some (.ref x1), some (.ref x2), some (.ref x3), some (.ref pl), some (.str g), some (if g ∈ keysE es then V.str g else V.non)] ∧ H' = H20) ?_ ?_
      · rintro σ' H' ⟨rfl, rfl⟩
        have A20 := A19.kp0 kj
        obtain ⟨bx, b1, b2, b3, b4⟩ := id A20
        walk_at "z"
        refine ⟨x1, bx, _, rfl, b1, rfl, ?_⟩
        walk_at "z"
        refine ⟨x1, q1, es, o, g, rfl, A20, ?_⟩
        walk_at "z"
        refine ⟨_, _, rfl, .sc (by split <;> rfl), ?_⟩
        walk_at "z"
        exact ⟨_, _, rfl, kj⟩
      · intro N jn
        walk_at "z"
        refine ⟨c, _, rfl, DGet.k (k := .inr g) (kj.get nin0 e19c), ?_⟩
        rw [valV_some]
        walk_at "z"
        refine Z.ite (fun h2 => ?_) (fun h2 => ?_)
        · walk_at "z"
          exact jn _ _ ⟨by rw [if_pos h2], rfl⟩
        · walk_at "z"
          exact jn _ _ ⟨by rw [if_neg h2], rfl⟩
    · rintro σ' H20 ⟨y7, y8, rfl, kj⟩
      have A20 := A19.kp0 kj
      have e20p := kj.get nin0 e19p
      rw [← plc_vs] at e20p
      have e20c := kj.get nin0 e19c
      have I20 := I19.kp0 kj
      have O20 := O19.kp0 kj
      have hpl' : ∀ g, some g ∈ plc ys → g ∈ keysE es := fun g hg => plc_mem hp hg
      have of : ∀ {i : Nat} {v : V}, ((plc ys).map optV)[i]? = some v → ∃ pl, (plc ys)[i]? = some pl ∧ v = optV pl := fun {i v} hv => by
        rw [List.getElem?_map] at hv
        cases hw : (plc ys)[i]? with
        | none => rw [hw] at hv; cases hv
        | some r => rw [hw] at hv; exact ⟨r, rfl, (Option.some.inj hv).symm⟩
      have hll : (plc ys).length ≤ 21 := by rw [plc_len]; omega
      walk_at "z"
      refine Z.lcl ((plc ys).map optV) (lstL e20p) (fun D i H' => Kp [] H20 H' ∧ H' D = some (.lst (((plc ys).take i).map fun pl => V.ref (ruleE es o pl).p))) ?_ ?_ ?_ ?_
      · intro D H21 nD k21 e21
        exact ⟨k21, e21⟩
      · rintro D i H21 nD hi ⟨k21, e21⟩
        exact lstL (k21.get nin0 e20p)
      · rintro D i v H21 nD hv ⟨k21, e21⟩
        obtain ⟨p0, hp0, rfl⟩ := of hv
        have hi : i < (plc ys).length := (List.getElem?_eq_some_iff.mp hp0).1
        have A21 := A20.kp0 k21
        obtain ⟨bx, b1, b2, b3, b4⟩ := id A21
        dsimp only [wipe, List.set]
        walk_at "z"
        refine ⟨rfl, ?_⟩
        walk_at "z"
        refine ⟨x1, bx, _, rfl, b1, rfl, ?_⟩
        walk_at "z"
        refine ⟨x1, q1, es, o, p0, rfl, A21, fun g e => hpl' g (by rw [← e]; exact List.mem_of_getElem? hp0), ?_⟩
        refine ⟨_, e21, Z.szl (m := 100) (by rw [List.length_map, List.length_take]; omega), k21.mut nD rfl, ?_⟩
        rw [upd_same, take_snoc hp0, List.map_append]; rfl
      · rintro D H21 nD ⟨k21, e21⟩
        rw [List.take_of_length_le (by rw [List.length_map]; exact Nat.le_refl _)] at e21
        have e21p := k21.get nin0 e20p
        have e21c := k21.get nin0 e20c
        walk_at "z"
        refine Z.lcl ((plc ys).map optV) (lstL e21p) (fun D2 i H' => Kp [] H21 H' ∧ H' D2 = some (.lst (((plc ys).take i).map fun pl => V.ref (ruleE es o pl).p))) ?_ ?_ ?_ ?_
        · intro D2 H22 nD2 k22 e22
          exact ⟨k22, e22⟩
        · rintro D2 i H22 nD2 hi ⟨k22, e22⟩
          exact lstL (k22.get nin0 e21p)
        · rintro D2 i v H22 nD2 hv ⟨k22, e22⟩
          obtain ⟨p0, hp0, rfl⟩ := of hv
          have hi : i < (plc ys).length := (List.getElem?_eq_some_iff.mp hp0).1
          have e22c := k22.get nin0 e21c
          have fin : ∃ acc, H22 D2 = some (.lst acc) ∧ acc.length < sizeLine ∧ Kp [] H21 (upd H22 D2 (.lst (acc ++ [.ref (ruleE es o p0).p]))) ∧ (upd H22 D2 (.lst (acc ++ [.ref (ruleE es o p0).p]))) D2 = some (.lst (((plc ys).take (i + 1)).map fun pl => V.ref (ruleE es o pl).p)) := by
            refine ⟨_, e22, Z.szl (m := 100) (by rw [List.length_map, List.length_take]; omega), k22.mut nD2 rfl, ?_⟩
            rw [upd_same, take_snoc hp0, List.map_append]; rfl
          dsimp only [wipe, List.set]
          walk_at "z"
          refine ⟨rfl, ?_⟩
          walk_at "z"
          refine DV.dget2N ?_
          walk_at "z"
          refine ⟨c, rfl, .inl ⟨_, .inl e22c⟩, ?_⟩
          walk_at "z"
          cases p0 with
          | none => exact .inr ⟨_, rfl, .inl e22c, fin⟩
          | some g => exact .inl ⟨some (.ref (ruleE es o (some g)).p), by have := DGet.k (k := .inr g) e22c; rw [rule_val (o := o) (hpl' g (List.mem_of_getElem? hp0))] at this; exact this, fin⟩
        · rintro D2 H22 nD2 ⟨k22, e22⟩
          rw [List.take_of_length_le (by rw [List.length_map]; exact Nat.le_refl _)] at e22
          have k2022 := k21.trans k22
          walk_at "z"
          refine ⟨_, _, rfl, .lst (n := 7) (k22.get nin0 e21) e22 rfl (by rw [List.length_map]; omega) (fun i u v hu hv => ?_), ?_⟩
          · rw [hu] at hv
            cases hv
            rw [List.getElem?_map] at hu
            cases hw : (plc ys)[i]? with
            | none => rw [hw] at hu; cases hu
            | some p0 =>
              rw [hw] at hu
              cases hu
              have hpp : PairAt H22 (ruleE es o p0) := by
                cases p0 with
                | none => exact O20.kp0 k2022
                | some g => exact I20.kp0 k2022 _ (rule_mem (hpl' g (List.mem_of_getElem? hw)))
              refine .plainT (n := 5) hpp hpp (by simp) (fun x hx => ?_)
              simp only [List.mem_cons, List.not_mem_nil, or_false] at hx
              rcases hx with rfl | rfl <;> rfl
          refine q H22 (k09.trans (((k919.trans kj).trans k2022).sub (by simp)))

/-! ### plans with parts spoilt -/
def putE (es : List Ent) (e : Ent) : List Ent := if e.g ∈ keysE es then es.map (fun x => if x.g = e.g then e else x) else es ++ [e]
theorem putE_kvs (es : List Ent) (e : Ent) : putK (kvsE es) (.inr e.g) (.ref e.p) = kvsE (putE es e) := by
  have ha : ((kvsE es).any fun kv => decide (kv.1 = Sum.inr e.g)) = decide (e.g ∈ keysE es) := by
    rw [valV_any]
    exact valV_some es e.g
  unfold putK putE
  rw [ha]
  by_cases h : e.g ∈ keysE es
  · rw [decide_eq_true h, if_pos rfl, if_pos h]
    unfold kvsE
    rw [List.map_map, List.map_map]
    refine List.map_congr_left fun x _ => ?_
    show (if Sum.inr x.g = (Sum.inr e.g : Key) then (Sum.inr x.g, V.ref e.p) else x.kv) = Ent.kv (if x.g = e.g then e else x)
    by_cases hx : x.g = e.g
    · rw [if_pos (congrArg Sum.inr hx), if_pos hx, hx]; rfl
    · rw [if_neg (fun z => hx (Sum.inr.inj z)), if_neg hx]
  · rw [decide_eq_false h, if_neg Bool.false_ne_true, if_neg h]
    unfold kvsE
    rw [List.map_append]; rfl
theorem putE_keys (es : List Ent) (e : Ent) : keysE (putE es e) = if e.g ∈ keysE es then keysE es else keysE es ++ [e.g] := by
  unfold putE
  by_cases h : e.g ∈ keysE es
  · rw [if_pos h, if_pos h]
    unfold keysE
    rw [List.map_map]
    refine List.map_congr_left fun x _ => ?_
    show (if x.g = e.g then e else x).g = x.g
    by_cases hx : x.g = e.g
    · rw [if_pos hx, hx]
    · rw [if_neg hx]
  · rw [if_neg h, if_neg h]
    unfold keysE
    rw [List.map_append]; rfl
theorem putE_nd {es : List Ent} {e : Ent} (h : (keysE es).Nodup) : (keysE (putE es e)).Nodup := by
  rw [putE_keys]
  split
  · exact h
  · rename_i hn
    refine List.nodup_append.mpr ⟨h, by simp, fun x hx y hy z => ?_⟩
    rw [List.mem_singleton.mp hy] at z
    exact hn (z ▸ hx)
theorem putE_len (es : List Ent) (e : Ent) : (putE es e).length ≤ es.length + 1 := by
  unfold putE
  split
  · rw [List.length_map]; omega
  · rw [List.length_append]; simp
theorem putE_mem {es : List Ent} {e x : Ent} (h : x ∈ putE es e) : x = e ∨ x ∈ es := by
  unfold putE at h
  split at h
  · obtain ⟨y, hy, rfl⟩ := List.mem_map.mp h
    by_cases hx : y.g = e.g
    · rw [if_pos hx]; exact .inl rfl
    · rw [if_neg hx]; exact .inr hy
  · rcases List.mem_append.mp h with h | h
    · exact .inr h
    · exact .inl (List.mem_singleton.mp h)
/-- rules[g] = (k, n), the tuple new at p -/
theorem Wd.put {H H1 : Hp} {d : Addr} {es : List Ent} {o e : Ent} (W : Wd H d es o) (k1 : Kp [] H H1) (he : PairAt H1 e) (ok : EntOk e) (hl : es.length ≤ 900) : DPut H1 d (.str e.g) (.ref e.p) (upd H1 d (.dK (kvsE (putE es e)))) ∧ Wd (upd H1 d (.dK (kvsE (putE es e)))) d (putE es e) o := by
  have W1 := W.kp0 k1
  have n : ∀ y : Ent, PairAt H1 y → PairAt (upd H1 d (.dK (kvsE (putE es e)))) y := fun y hy => (upd_ne fun z => by unfold PairAt at hy; rw [z, W1.dct] at hy; cases hy).trans hy
  refine ⟨?_, upd_same, fun x hx => ?_, n o W1.oth, fun x hx => ?_, W.oo, putE_nd W.nd⟩
  · have := DPut.k (k := .inr e.g) (v := .ref e.p) W1.dct (by rw [kvsE_len]; exact Nat.lt_of_le_of_lt hl (by decide))
    rw [putE_kvs] at this
    exact this
  · rcases putE_mem hx with rfl | hx
    · exact n _ he
    · exact n _ (W1.ents x hx)
  · rcases putE_mem hx with rfl | hx
    · exact ok
    · exact W.ok x hx
def gk (k : Nat) : Str := "g" ++ Str.ofString (toString (k : Int))
theorem gk_ok : ∀ i : Fin 21, PyData.strOk (gk i.val) = true ∧ (gk i.val).cps.size ≤ 20 ∧ (Str.ofString (toString (i.val : Int))).length ≤ 10 := by decide +kernel
def okS (s : Str) : Bool := PyData.strOk s && decide (s.cps.size ≤ 20)
theorem okS_ent {g k : Str} {p : Addr} {n : Int} (hg : okS g = true) (hk : okS k = true) : EntOk ⟨g, p, k, n⟩ := by
  unfold okS at hg hk
  rw [Bool.and_eq_true, decide_eq_true_eq] at hg hk
  exact ⟨hg.1, hk.1, hg.2, hk.2⟩
theorem ok_okS {e : Ent} (h : EntOk e) : okS e.k = true := by
  unfold okS
  rw [h.k, decide_eq_true h.kz]; rfl
def badG : List Str := ["", "Red", "abcdefghijklm", "a b"]
def badK : List Str := ["uniforms", "", "Optimal"]
theorem badG_ok : ∀ s ∈ badG, okS s = true := by decide +kernel
theorem badK_ok : ∀ s ∈ badK, okS s = true := by decide +kernel
theorem pickS (l : List Str) {v : Int} (h0 : 0 ≤ v) (h1 : v < (l.length : Nat)) : ∃ s, s ∈ l ∧ atI (l.map V.str) v = some (.str s) := by
  obtain ⟨j, rfl⟩ : ∃ j : Nat, v = (j : Int) := ⟨v.toNat, by omega⟩
  have hj : j < l.length := by omega
  exact ⟨l[j], List.getElem_mem hj, atI_nat (by rw [List.getElem?_map, List.getElem?_eq_getElem hj]; rfl)⟩
theorem pickI (l : List Int) {v : Int} (h0 : 0 ≤ v) (h1 : v < (l.length : Nat)) : ∃ s, s ∈ l ∧ atI (l.map V.int) v = some (.int s) := by
  obtain ⟨j, rfl⟩ : ∃ j : Nat, v = (j : Int) := ⟨v.toNat, by omega⟩
  have hj : j < l.length := by omega
  exact ⟨l[j], List.getElem_mem hj, atI_nat (by rw [List.getElem?_map, List.getElem?_eq_getElem hj]; rfl)⟩
theorem Kp.newd {H0 H H' : Hp} {a d : Addr} {o : HO} (k : Kp [a] H0 H) (h : H0 d = none) (e : H' = upd H d o) : Kp [a] H0 H' := k.mut h e
def spSpoilt (K : PySem.W.Frag) : Sp := fun vs H Q _ => ∃ (a d : Addr) (es : List Ent) (o : Ent), vs = [.ref a, .ref d, .ref o.p] ∧ DrawsAt H a ∧ Wd H d es o ∧ es.length ≤ 800 ∧
  ∀ H' l d' es' o', H l = none → Kp [a] H H' → DrawsAt H' a → H' l = some (.lst [.ref d', .ref o'.p]) → Wd H' d' es' o' → es'.length ≤ es.length + 21 → Q (.ref l) H'
theorem ok__law_spoilt {P : Program} {w : World} {K : PySem.W.Frag} {mg : Str → Option Value} {base : Heap} (T : T P K mg) : FnOk P w K mg base CX0 2 T.a__law_spoilt T.fd__law_spoilt ["draws", "rules", "others"] (spSpoilt K) := by
  refine T.F__law_spoilt.ok sc__law_spoilt (fun vs H Q E h => ?_) (fun cdv A outer s H vs Q E hr h => ?_)
  · obtain ⟨a, d, es, o, rfl, _⟩ := h
    rfl
  · obtain ⟨a, d, es, o, rfl, hd, W, hl, q⟩ := h
    refine ⟨_, (pss_cons (ps_set (i := 1) sc__law_spoilt.nd rfl (by first | exact Or.inl rfl | exact Or.inr rfl) (pe_callTy call_dictD (by rfl) T.z_dict (by decide +kernel) (pa_cons (pv 1) pa_nil)))
      (pss_cons (ps_set (i := 3) sc__law_spoilt.nd rfl (by first | exact Or.inl rfl | exact Or.inr rfl) (pe_call (ok__law_take T) (hr.mono (by decide)) (by rfl) T.g__law_take T.F__law_take.kp T.b__law_take .nil pass0 (pa_cons (pv 0) (pa_cons pe_int pa_nil))))
      (Z.pss_consJ (ps_if (pt_cmpR op_eq (pv 3) pe_int (nomark _)) (pss_one (ps_for PassesOwn.never rfl (pi_range1 (by rfl) T.z_range (pa_cons (pe_ix ix_list (pe_lst (pa_cons pe_int (pa_cons pe_int (pa_cons pe_int (pa_cons pe_int pa_nil))))) (pe_call (ok__law_take T) (hr.mono (by decide)) (by rfl) T.g__law_take T.F__law_take.kp T.b__law_take .nil pass0 (pa_cons (pv 0) (pa_cons pe_int pa_nil))) (fun _ _ => rfl)) pa_nil)) (pg_name (i := 4) sc__law_spoilt.nd rfl (by first | exact Or.inl rfl | exact Or.inr rfl)) (pss_one (ps_dput (hu_of hr) (pv 1) (pe_op o_addS pe_str (pe_callTy call_str_int (by rfl) T.z_str (by decide +kernel) (pa_cons (pv 4) pa_nil))) (pe_tup (pa_cons pe_str (pa_cons (pe_op op_add pe_int (pv 4)) pa_nil))) rfl)))) (pss_one (ps_if (pt_cmpR op_eq (pv 3) pe_int (nomark _)) (pss_one (ps_dput (hu_of hr) (pv 1) (pe_ix ix_list (pe_lst (pa_cons pe_str (pa_cons pe_str (pa_cons pe_str (pa_cons pe_str pa_nil))))) (pe_call (ok__law_take T) (hr.mono (by decide)) (by rfl) T.g__law_take T.F__law_take.kp T.b__law_take .nil pass0 (pa_cons (pv 0) (pa_cons pe_int pa_nil))) (fun _ _ => rfl)) (pe_tup (pa_cons pe_str (pa_cons pe_int pa_nil))) rfl)) (pss_one (ps_if (pt_cmpR op_eq (pv 3) pe_int (nomark _)) (pss_one (ps_set (i := 2) sc__law_spoilt.nd rfl (by first | exact Or.inl rfl | exact Or.inr rfl) (pe_tup (pa_cons (pe_ix ix_list (pe_lst (pa_cons pe_str (pa_cons pe_str (pa_cons pe_str pa_nil)))) (pe_call (ok__law_take T) (hr.mono (by decide)) (by rfl) T.g__law_take T.F__law_take.kp T.b__law_take .nil pass0 (pa_cons (pv 0) (pa_cons pe_int pa_nil))) (fun _ _ => rfl)) (pa_cons (pe_ix ix_tup (pv 2) pe_int (fun _ _ => rfl)) pa_nil))))) (pss_one (ps_if (pt_cmpR op_eq (pv 3) pe_int (nomark _)) (pss_one (ps_set (i := 2) sc__law_spoilt.nd rfl (by first | exact Or.inl rfl | exact Or.inr rfl) (pe_tup (pa_cons (pe_ix ix_tup (pv 2) pe_int (fun _ _ => rfl)) (pa_cons (pe_ix ix_list (pe_lst (pa_cons pe_int (pa_cons pe_int (pa_cons (pe_un un_neg pe_int) (pa_cons pe_int pa_nil))))) (pe_call (ok__law_take T) (hr.mono (by decide)) (by rfl) T.g__law_take T.F__law_take.kp T.b__law_take .nil pass0 (pa_cons (pv 0) (pa_cons pe_int pa_nil))) (fun _ _ => rfl)) pa_nil))))) (pss_one (ps_if (pt_cmpR op_eq (pv 3) pe_int (nomark _)) (pss_one (ps_dput (hu_of hr) (pv 1) pe_str (pe_tup (pa_cons (pe_ix ix_list (pe_lst (pa_cons pe_str (pa_cons pe_str pa_nil))) (pe_call (ok__law_take T) (hr.mono (by decide)) (by rfl) T.g__law_take T.F__law_take.kp T.b__law_take .nil pass0 (pa_cons (pv 0) (pa_cons pe_int pa_nil))) (fun _ _ => rfl)) (pa_cons (pe_ix ix_list (pe_lst (pa_cons pe_int (pa_cons pe_int (pa_cons pe_int (pa_cons pe_int pa_nil))))) (pe_call (ok__law_take T) (hr.mono (by decide)) (by rfl) T.g__law_take T.F__law_take.kp T.b__law_take .nil pass0 (pa_cons (pv 0) (pa_cons pe_int pa_nil))) (fun _ _ => rfl)) pa_nil))) rfl)) pss_nil)))))))))
      (pss_one (ps_ret (pe_lst (pa_cons (pv 1) (pa_cons (pv 2) pa_nil)))))))), ?_⟩
    walk_at "z0"
    walk_at "z"
    refine ⟨d, kvsE es, rfl, .inl W.dct, fun c nc => ?_⟩
    have k1 : Kp [] H (upd H c (.dK (kvsE es))) := Kp.new nc
    have e1 : (upd H c (.dK (kvsE es))) c = some (.dK (kvsE es)) := upd_same
    revert k1 e1
    generalize upd H c (.dK (kvsE es)) = H1
    intro k1 e1
    have W0 := W.kp0 k1
    have W1 : Wd H1 c es o := ⟨e1, W0.ents, W0.oth, W.ok, W.oo, W.nd⟩
    have d1 := hd.kp0 k1
    have nac : a ≠ c := hd.ne nc
    walk_at "z"
    refine ⟨a, 6, rfl, d1, by decide, by decide, fun H2 kd c0 c5 k2 d2 => ?_⟩
    have W2 := W1.kpd k2 d1
    have k02 : Kp [a] H H2 := (k1.sub (by simp)).trans k2
    walk_at "z"
    refine Z.seqJ (fun σ' H' => ∃ es' o' y3 y4, σ' = [some (.ref a), some (.ref c), some (.ref o'.p), y3, y4] ∧ Kp [a] H H' ∧ DrawsAt H' a ∧ Wd H' c es' o' ∧ es'.length ≤ es.length + 21) ?_ ?_
    · rintro σ' H' ⟨es', o', y3, y4, rfl, kk, dd, WW, ll⟩
      walk_at "z"
      refine Z.lstK (fun l H3 nl k3 e3 => ?_)
      refine q H3 l c es' o' (kk.none (nin1 fun z => ?_) nl) (kk.trans (k3.sub (by simp))) (dd.kp0 k3) e3 (WW.kp0 k3) ll
      exact dd.ne nl z.symm
    · intro N jn
      walk_at "z"
      refine Z.ite (fun g0 => ?_) (fun g0 => ?_)
      · walk_at "z"
        refine Z.lstK (fun b H3 nb k3 e3 => ?_)
        have d3 := d2.kp0 k3
        have nab : a ≠ b := d2.ne nb
        walk_at "z"
        refine ⟨a, 4, rfl, d3, by decide, by decide, fun H4 v v0 v1 k4 d4 => ?_⟩
        obtain ⟨n, hn, en⟩ := pickI [17, 18, 20, 21] v0 v1
        refine Z.ixL (lstL (k4.get (nin1 nab.symm) e3)) en ?_
        have hn21 : 0 ≤ n ∧ n ≤ 21 := by
          simp only [List.mem_cons, List.not_mem_nil, or_false] at hn
          omega
        have k04 := (k02.trans (k3.sub (by simp))).trans k4
        have W4 := (W2.kp0 k3).kpd k4 d3
        walk_at "z"
        refine Z.forr n.toNat (by omega) (by omega) (fun i σ' H' => ∃ es' y4, σ' = [some (.ref a), some (.ref c), some (.ref o.p), some (.int kd), y4] ∧ Kp [a] H H' ∧ DrawsAt H' a ∧ Wd H' c es' o ∧ es'.length ≤ es.length + i) ⟨es, _, rfl, k04, d4, W4, Nat.le_refl _⟩ ?_ ?_
        · rintro i σ' H5 hi ⟨es', y4, rfl, k5, d5, W5, l5⟩
          have hg : PyData.strOk (gk i) = true ∧ (gk i).cps.size ≤ 20 ∧ (Str.ofString (toString (i : Int))).length ≤ 10 := gk_ok ⟨i, by omega⟩
          walk_at "z"
          refine Z.tupK (fun t H6 nt k6 e6 => ?_)
          walk_at "z"
          refine ⟨_, rfl, Nat.lt_of_lt_of_le (PySem.Flt.log2_lt_of (k := 30) (by decide) (by omega)) (by decide), ?_⟩
          walk_at "z"
          refine Z.addS (by have := hg.2.2; rw [show ("g" : Str).length = 1 by decide +kernel]; have : 100 ≤ sizeLine := (by decide); omega) ?_
          obtain ⟨p1, p2⟩ := W5.put (e := ⟨gk i, t, "uniform", 1 + (i : Int)⟩) k6 e6 (okS_ent (by unfold okS; rw [hg.1, decide_eq_true hg.2.1]; rfl) (by decide +kernel)) (by omega)
          refine ⟨c, _, rfl, p1, ?_⟩
          walk_at "z"
          have := putE_len es' ⟨gk i, t, "uniform", 1 + (i : Int)⟩
          refine ⟨_, _, rfl, (k5.trans (k6.sub (by simp))).mut nc rfl, (d5.kp0 k6).put nac, p2, by omega⟩
        · rintro σ' H5 ⟨es', y4, rfl, k5, d5, W5, l5⟩
          walk_at "z"
          exact jn _ _ ⟨es', o, _, _, rfl, k5, d5, W5, by omega⟩
      · walk_at "z"
        refine Z.ite (fun g1 => ?_) (fun g1 => ?_)
        · walk_at "z"
          refine Z.tupK (fun t H3 nt k3 e3 => ?_)
          walk_at "z"
          refine Z.lstK (fun b H4 nb k4 e4 => ?_)
          have d4 := (d2.kp0 k3).kp0 k4
          have nab : a ≠ b := (d2.kp0 k3).ne nb
          walk_at "z"
          refine ⟨a, 4, rfl, d4, by decide, by decide, fun H5 v v0 v1 k5 d5 => ?_⟩
          obtain ⟨g, hg, eg⟩ := pickS badG v0 v1
          refine Z.ixL (lstL (k5.get (nin1 nab.symm) e4)) eg ?_
          have W5 := ((W2.kp0 k3).kp0 k4).kpd k5 d4
          have nta : t ≠ a := fun z => (d2.ne nt) z.symm
          have e5 := k5.get (nin1 nta) (k4.get nin0 e3)
          obtain ⟨p1, p2⟩ := W5.put (e := ⟨g, t, "optimal", 3⟩) (Kp.refl _) e5 (okS_ent (badG_ok g hg) (by decide +kernel)) (by omega)
          refine ⟨c, _, rfl, p1, ?_⟩
          walk_at "z"
          have := putE_len es ⟨g, t, "optimal", 3⟩
          exact jn _ _ ⟨_, o, _, _, rfl, (k02.trans (((k3.trans k4).sub (by simp)).trans k5)).mut nc rfl, d5.put nac, p2, by omega⟩
        · walk_at "z"
          refine Z.ite (fun g2 => ?_) (fun g2 => ?_)
          · walk_at "z"
            refine Z.lstK (fun b H3 nb k3 e3 => ?_)
            have d3 := d2.kp0 k3
            have nab : a ≠ b := d2.ne nb
            walk_at "z"
            refine ⟨a, 3, rfl, d3, by decide, by decide, fun H4 v v0 v1 k4 d4 => ?_⟩
            obtain ⟨g, hg, eg⟩ := pickS badK v0 v1
            refine Z.ixL (lstL (k4.get (nin1 nab.symm) e3)) eg ?_
            have W4 := (W2.kp0 k3).kpd k4 d3
            walk_at "z"
            refine Z.ixT (v := .int o.n) (tupT W4.oth) rfl ?_
            walk_at "z"
            refine Z.tupK (fun t H5 nt k5 e5 => ?_)
            walk_at "z"
            have W5 := W4.kp0 k5
            exact jn _ _ ⟨es, ⟨"", t, g, o.n⟩, _, _, rfl, k02.trans ((k3.sub (by simp)).trans (k4.trans (k5.sub (by simp)))), d4.kp0 k5, ⟨W5.dct, W5.ents, e5, W.ok, okS_ent (by decide +kernel) (badK_ok g hg), W.nd⟩, by omega⟩
          · walk_at "z"
            refine Z.ite (fun g3 => ?_) (fun g3 => ?_)
            · walk_at "z"
              refine Z.ixT (v := .str o.k) (tupT W2.oth) rfl ?_
              walk_at "z"
              refine Z.lstK (fun b H3 nb k3 e3 => ?_)
              have d3 := d2.kp0 k3
              have nab : a ≠ b := d2.ne nb
              walk_at "z"
              refine ⟨a, 4, rfl, d3, by decide, by decide, fun H4 v v0 v1 k4 d4 => ?_⟩
              obtain ⟨n, hn, en⟩ := pickI [0, 21, -1, 20] v0 v1
              refine Z.ixL (lstL (k4.get (nin1 nab.symm) e3)) en ?_
              have W4 := (W2.kp0 k3).kpd k4 d3
              walk_at "z"
              refine Z.tupK (fun t H5 nt k5 e5 => ?_)
              walk_at "z"
              have W5 := W4.kp0 k5
              exact jn _ _ ⟨es, ⟨"", t, o.k, n⟩, _, _, rfl, k02.trans ((k3.sub (by simp)).trans (k4.trans (k5.sub (by simp)))), d4.kp0 k5, ⟨W5.dct, W5.ents, e5, W.ok, okS_ent (by decide +kernel) (ok_okS W.oo), W.nd⟩, by omega⟩
            · walk_at "z"
              refine Z.ite (fun g4 => ?_) (fun g4 => ?_)
              · walk_at "z"
                refine Z.lstK (fun b H3 nb k3 e3 => ?_)
                have d3 := d2.kp0 k3
                have nab : a ≠ b := d2.ne nb
                walk_at "z"
                refine ⟨a, 2, rfl, d3, by decide, by decide, fun H4 v v0 v1 k4 d4 => ?_⟩
                obtain ⟨g, hg, eg⟩ := pickS ["sum", "weighted"] v0 v1
                refine Z.ixL (lstL (k4.get (nin1 nab.symm) e3)) eg ?_
                have hgo : okS g = true := by
                  simp only [List.mem_cons, List.not_mem_nil, or_false] at hg
                  rcases hg with rfl | rfl <;> decide +kernel
                have W4 := (W2.kp0 k3).kpd k4 d3
                walk_at "z"
                refine Z.lstK (fun b2 H5 nb2 k5 e5 => ?_)
                have d5 := d4.kp0 k5
                have nab2 : a ≠ b2 := d4.ne nb2
                walk_at "z"
                refine ⟨a, 4, rfl, d5, by decide, by decide, fun H6 u u0 u1 k6 d6 => ?_⟩
                obtain ⟨n, hn, en⟩ := pickI [2, 20, 21, 0] u0 u1
                refine Z.ixL (lstL (k6.get (nin1 nab2.symm) e5)) en ?_
                have W6 := (W4.kp0 k5).kpd k6 d5
                walk_at "z"
                refine Z.tupK (fun t H7 nt k7 e7 => ?_)
                walk_at "z"
                obtain ⟨p1, p2⟩ := W6.put (e := ⟨"blue", t, g, n⟩) k7 e7 (okS_ent (by decide +kernel) hgo) (by omega)
                refine ⟨c, _, rfl, p1, ?_⟩
                walk_at "z"
                have := putE_len es ⟨"blue", t, g, n⟩
                exact jn _ _ ⟨_, o, _, _, rfl, (k02.trans ((k3.sub (by simp)).trans (k4.trans ((k5.sub (by simp)).trans (k6.trans (k7.sub (by simp))))))).mut nc rfl, (d6.kp0 k7).put nac, p2, by omega⟩
              · walk_at "z"
                exact jn _ _ ⟨es, o, _, _, rfl, k02, d2, W2, by omega⟩

/-! ### the law -/
def spLaw (K : PySem.W.Frag) : Sp := fun vs H Q _ => ∃ (a : Addr) (ns : List Int), vs = [.ref a] ∧ SqL K H a (ns.map V.int) ∧ ns.length ≤ 63 ∧ (∀ z ∈ ns, Builtin.Int.intBits z ≤ 1048576) ∧ ∀ H', Q (.bl true) H'
def names3 : List Str := ["red", "blue", "gold"]
theorem names3_ok : ∀ s ∈ names3, okS s = true := by decide +kernel
theorem kinds3_ok : ∀ s ∈ kinds3, okS s = true := by decide +kernel
theorem str_of {l : List Str} {i : Nat} {v : V} (h : (l.map V.str)[i]? = some v) : ∃ s, l[i]? = some s ∧ v = .str s := by
  rw [List.getElem?_map] at h
  cases hw : l[i]? with
  | none => rw [hw] at h; cases h
  | some r => rw [hw] at h; exact ⟨r, rfl, (Option.some.inj h).symm⟩
theorem ok_law {P : Program} {w : World} {K : PySem.W.Frag} {mg : Str → Option Value} {base : Heap} (T : T P K mg) : FnOk P w K mg base CX0 11 T.a_law T.fd_law ["script"] (spLaw K) := by
  refine T.F_law.ok sc_law (fun vs H Q E h => ?_) (fun cdv A outer s H vs Q E hr h => ?_)
  · obtain ⟨a, ns, rfl, _⟩ := h
    rfl
  · obtain ⟨c, ns, rfl, hS, hlen, hb, q⟩ := h
    refine ⟨_, (pss_cons (ps_set (i := 1) sc_law.nd rfl (by first | exact Or.inl rfl | exact Or.inr rfl) (pe_call (ok__law_draws T) (hr.mono (by decide)) (by rfl) T.g__law_draws T.F__law_draws.kp T.b__law_draws .nil pass0 (pa_cons (pv 0) pa_nil)))
      (pss_cons (ps_set (i := 2) sc_law.nd rfl (by first | exact Or.inl rfl | exact Or.inr rfl) pe_dnewK)
      (pss_cons (ps_for PassesOwn.never rfl (pi_list (pe_lst (pa_cons pe_str (pa_cons pe_str (pa_cons pe_str pa_nil))))) (pg_name (i := 3) sc_law.nd rfl (by first | exact Or.inl rfl | exact Or.inr rfl)) (pss_one (ps_if (pt_cmpR op_gt (pe_call (ok__law_take T) (hr.mono (by decide)) (by rfl) T.g__law_take T.F__law_take.kp T.b__law_take .nil pass0 (pa_cons (pv 1) (pa_cons pe_int pa_nil))) pe_int (nomark _)) (pss_one (ps_dput (hu_of hr) (pv 2) (pv 3) (pe_tup (pa_cons (pe_ix ix_list (pe_lst (pa_cons pe_str (pa_cons pe_str (pa_cons pe_str pa_nil)))) (pe_call (ok__law_take T) (hr.mono (by decide)) (by rfl) T.g__law_take T.F__law_take.kp T.b__law_take .nil pass0 (pa_cons (pv 1) (pa_cons pe_int pa_nil))) (fun _ _ => rfl)) (pa_cons (pe_op op_add pe_int (pe_call (ok__law_take T) (hr.mono (by decide)) (by rfl) T.g__law_take T.F__law_take.kp T.b__law_take .nil pass0 (pa_cons (pv 1) (pa_cons pe_int pa_nil)))) pa_nil))) rfl)) pss_nil)))
      (pss_cons (ps_set (i := 4) sc_law.nd rfl (by first | exact Or.inl rfl | exact Or.inr rfl) (pe_tup (pa_cons (pe_ix ix_list (pe_lst (pa_cons pe_str (pa_cons pe_str (pa_cons pe_str pa_nil)))) (pe_call (ok__law_take T) (hr.mono (by decide)) (by rfl) T.g__law_take T.F__law_take.kp T.b__law_take .nil pass0 (pa_cons (pv 1) (pa_cons pe_int pa_nil))) (fun _ _ => rfl)) (pa_cons (pe_op op_add pe_int (pe_call (ok__law_take T) (hr.mono (by decide)) (by rfl) T.g__law_take T.F__law_take.kp T.b__law_take .nil pass0 (pa_cons (pv 1) (pa_cons pe_int pa_nil)))) pa_nil))))
      (pss_cons (ps_for PassesOwn.never rfl (pi_range1 (by rfl) T.z_range (pa_cons pe_int pa_nil)) (pg_name (i := 5) sc_law.nd rfl (by first | exact Or.inl rfl | exact Or.inr rfl)) (pss_cons (ps_set (i := 6) sc_law.nd rfl (by first | exact Or.inl rfl | exact Or.inr rfl) (pe_call (ok__law_reason T) (hr.mono (by decide)) (by rfl) T.g__law_reason T.F__law_reason.kp T.b__law_reason .nil pass0 (pa_cons (pv 2) (pa_cons (pv 4) pa_nil))))
      (pss_cons (ps_if (pt_not (pt_val (pe_call (ok__law_same T) (hr.mono (by decide)) (by rfl) T.g__law_same T.F__law_same.kp T.b__law_same .nil pass0 (pa_cons (pe_call (ok_check_plan T) (hr.mono (by decide)) (by rfl) T.g_check_plan T.F_check_plan.kp T.b_check_plan .nil pass0 (pa_cons (pe_callTy call_dictD (by rfl) T.z_dict (by decide +kernel) (pa_cons (pv 2) pa_nil)) (pa_cons (pv 4) pa_nil))) (pa_cons (pv 6) pa_nil))))) (pss_one (ps_ret pe_bl)) pss_nil)
      (pss_cons (ps_set (i := 7) sc_law.nd rfl (by first | exact Or.inl rfl | exact Or.inr rfl) (pe_call (ok__law_made T) (hr.mono (by decide)) (by rfl) T.g__law_made T.F__law_made.kp T.b__law_made .nil pass0 (pa_cons (pe_callTy call_dictD (by rfl) T.z_dict (by decide +kernel) (pa_cons (pv 2) pa_nil)) (pa_cons (pv 4) pa_nil))))
      (Z.pss_consJ (ps_if (PW.pt (pw_and (pt_cmpR o_isN (pv 6) pe_non (nomark _)) (pw_and1 (PW.pt (pw_or (pt_cmpR op_ne (pe_ix ix_list (pv 7) pe_int (fun _ _ => rfl)) pe_str (nomark _)) (pw_or1 (pt_not (pt_val (pe_call (ok__law_stands T) (hr.mono (by decide)) (by rfl) T.g__law_stands T.F__law_stands.kp T.b__law_stands .nil pass0 (pa_cons (pe_callTy call_dictD (by rfl) T.z_dict (by decide +kernel) (pa_cons (pv 2) pa_nil)) (pa_cons (pv 4) pa_nil))))))))))) (pss_one (ps_ret pe_bl)) pss_nil)
      (Z.pss_consJ (ps_if (PW.pt (pw_and (pt_cmpR o_notN (pv 6) pe_non (nomark _)) (pw_and1 (pt_not (pt_val (pe_call (ok__law_same T) (hr.mono (by decide)) (by rfl) T.g__law_same T.F__law_same.kp T.b__law_same .nil pass0 (pa_cons (pv 7) (pa_cons (pe_lst (pa_cons pe_str (pa_cons (pv 6) pa_nil))) pa_nil)))))))) (pss_one (ps_ret pe_bl)) pss_nil)
      (pss_one (ps_asg (pe_call (ok__law_spoilt T) (hr.mono (by decide)) (by rfl) T.g__law_spoilt T.F__law_spoilt.kp T.b__law_spoilt .nil pass0 (pa_cons (pv 1) (pa_cons (pv 2) (pa_cons (pv 4) pa_nil)))) (pg_lst rfl (pgs_cons (pg_name (i := 2) sc_law.nd rfl (by first | exact Or.inl rfl | exact Or.inr rfl)) (pgs_cons (pg_name (i := 4) sc_law.nd rfl (by first | exact Or.inl rfl | exact Or.inr rfl)) pgs_nil)))))))))))
      (pss_one (ps_ret pe_bl))))))), ?_⟩
    walk_at "z0"
    walk_at "z"
    refine ⟨c, ns, rfl, hS, hlen, hb, fun a H1 na k1 d1 => ?_⟩
    walk_at "z"
    refine Z.dnew (fun d H2 nd k2 e2 => ?_)
    have d2 := d1.kp0 k2
    have nad : a ≠ d := d1.ne nd
    walk_at "z"
    refine Z.lstK (fun l3 H3 nl3 k3 e3 => ?_)
    have d3 := d2.kp0 k3
    have nal : a ≠ l3 := d2.ne nl3
    have ndl : d ≠ l3 := ne_of_none e2 nl3
    have e3d := k3.get nin0 e2
    walk_at "z"
    refine Z.forl (names3.map V.str) (lstL e3) (fun j σ' H' => ∃ y3 es, σ' = [some (.ref c), some (.ref a), some (.ref d), y3, none, none, none, none] ∧ DrawsAt H' a ∧ H' l3 = some (.lst (names3.map V.str)) ∧ H' d = some (.dK (kvsE es)) ∧ EntsAt H' es ∧ (∀ e ∈ es, EntOk e) ∧ (keysE es).Nodup ∧ es.length ≤ j) ⟨none, [], rfl, d3, e3, e3d, (fun e h => by cases h), (fun e h => by cases h), by simp [keysE], Nat.le_refl _⟩ ?_ ?_ ?_
    · rintro j σ' H' hj ⟨y3, es, rfl, dd, ll, _⟩
      exact lstL ll
    · rintro j v σ' H4 hv ⟨y3, es, rfl, d4, l4, m4, i4, ok4, nd4, n4⟩
      obtain ⟨g, hg, rfl⟩ := str_of hv
      have hj : j < 3 := (List.getElem?_eq_some_iff.mp hg).1
      walk_at "z"
      refine ⟨a, 3, rfl, d4, by decide, by decide, fun H5 t t0 t1 k5 d5 => ?_⟩
      have l5 := k5.get (nin1 nal.symm) l4
      have m5 := k5.get (nin1 nad.symm) m4
      have nt4 : ∀ vs, H4 a ≠ some (.tup vs) := fun vs z => by obtain ⟨w, e⟩ := d4; rw [e] at z; cases z
      have i5 := i4.kpl k5 nt4
      walk_at "z"
      refine Z.ite (fun h0 => ?_) (fun h0 => ?_)
      · walk_at "z"
        refine Z.lstK (fun b6 H6 nb6 k6 e6 => ?_)
        have d6 := d5.kp0 k6
        have nab6 : a ≠ b6 := d5.ne nb6
        walk_at "z"
        refine ⟨a, 3, rfl, d6, by decide, by decide, fun H7 u u0 u1 k7 d7 => ?_⟩
        obtain ⟨k, hk, ek⟩ := pickS kinds3 u0 u1
        refine Z.ixL (lstL (k7.get (nin1 nab6.symm) e6)) ek ?_
        walk_at "z"
        refine ⟨a, 20, rfl, d7, by decide, by decide, fun H8 w w0 w1 k8 d8 => ?_⟩
        walk_at "z"
        refine Z.tupK (fun p H9 np k9 e9 => ?_)
        have d9 := d8.kp0 k9
        have k59 : Kp [a] H5 H9 := (k6.sub (by simp)).trans (k7.trans (k8.trans (k9.sub (by simp))))
        have nt5 : ∀ vs, H5 a ≠ some (.tup vs) := fun vs z => by obtain ⟨w, e⟩ := d5; rw [e] at z; cases z
        have l9 := k59.get (nin1 nal.symm) l5
        have m9 := k59.get (nin1 nad.symm) m5
        have i9 := i5.kpl k59 nt5
        walk_at "z"
        have hput : DPut H9 d (.str g) (.ref p) (upd H9 d (.dK (kvsE (putE es ⟨g, p, k, 1 + w⟩)))) := by
          have := DPut.k (k := .inr g) (v := .ref p) m9 (by rw [kvsE_len]; exact Nat.lt_of_le_of_lt (show es.length ≤ 10 by omega) (by decide))
          rw [putE_kvs es ⟨g, p, k, 1 + w⟩] at this
          exact this
        have n : ∀ y : Ent, PairAt H9 y → PairAt (upd H9 d (.dK (kvsE (putE es ⟨g, p, k, 1 + w⟩)))) y := fun y hy => (upd_ne fun z => by unfold PairAt at hy; rw [z, m9] at hy; cases hy).trans hy
        have hlp := putE_len es ⟨g, p, k, 1 + w⟩
        refine ⟨d, _, rfl, hput, ?_⟩
        walk_at "z"
        refine ⟨_, _, rfl, d9.put nad, (upd_ne ndl.symm).trans l9, upd_same, fun x hx => ?_, fun x hx => ?_, putE_nd nd4, by omega⟩
        · rcases putE_mem hx with rfl | hx
          · exact n _ e9
          · exact n _ (i9 x hx)
        · rcases putE_mem hx with rfl | hx
          · exact okS_ent (names3_ok g (List.mem_of_getElem? hg)) (kinds3_ok k hk)
          · exact ok4 x hx
      · walk_at "z"
        exact ⟨_, es, rfl, d5, l5, m5, i5, ok4, nd4, by omega⟩
    · rintro σ' H4 ⟨y3, es, rfl, d4, l4, m4, i4, ok4, nd4, n4⟩
      have n4 : es.length ≤ 3 := n4
      walk_at "z"
      refine Z.lstK (fun b6 H6 nb6 k6 e6 => ?_)
      have d6 := d4.kp0 k6
      have nab6 : a ≠ b6 := d4.ne nb6
      walk_at "z"
      refine ⟨a, 3, rfl, d6, by decide, by decide, fun H7 u u0 u1 k7 d7 => ?_⟩
      obtain ⟨k, hk, ek⟩ := pickS kinds3 u0 u1
      refine Z.ixL (lstL (k7.get (nin1 nab6.symm) e6)) ek ?_
      walk_at "z"
      refine ⟨a, 20, rfl, d7, by decide, by decide, fun H8 w w0 w1 k8 d8 => ?_⟩
      walk_at "z"
      refine Z.tupK (fun p H9 np k9 e9 => ?_)
      have d9 := d8.kp0 k9
      have k49 : Kp [a] H4 H9 := (k6.sub (by simp)).trans (k7.trans (k8.trans (k9.sub (by simp))))
      have nt4 : ∀ vs, H4 a ≠ some (.tup vs) := fun vs z => by obtain ⟨w, e⟩ := d4; rw [e] at z; cases z
      have W9 : Wd H9 d es ⟨"", p, k, 1 + w⟩ := ⟨k49.get (nin1 nad.symm) m4, i4.kpl k49 nt4, e9, ok4, okS_ent (by decide +kernel) (kinds3_ok k hk), nd4⟩
      walk_at "z"
      refine Z.forr 3 (by rfl) (by decide) (fun i σ' H' => ∃ d' es' o' y3 y5 y6 y7, σ' = [some (.ref c), some (.ref a), some (.ref d'), y3, some (.ref o'.p), y5, y6, y7] ∧ DrawsAt H' a ∧ Wd H' d' es' o' ∧ es'.length ≤ 3 + 21 * i) ⟨d, es, ⟨"", p, k, 1 + w⟩, _, _, _, _, rfl, d9, W9, by omega⟩ ?_ ?_
      · rintro i σ' H10 hi ⟨d', es', o', y3, y5, y6, y7, rfl, d10, W10, n10⟩
        walk_at "z"
        refine ⟨d', es', o', rfl, W10, by omega, fun H11 k11 => ?_⟩
        have d11 := d10.kp0 k11
        have W11 := W10.kp0 k11
        walk_at "z"
        refine ⟨d', kvsE es', rfl, .inl W11.dct, fun c1 nc1 => ?_⟩
        have k12 : Kp [] H11 (upd H11 c1 (.dK (kvsE es'))) := Kp.new nc1
        have e12 : (upd H11 c1 (.dK (kvsE es'))) c1 = some (.dK (kvsE es')) := upd_same
        revert k12 e12
        generalize upd H11 c1 (.dK (kvsE es')) = H12
        intro k12 e12
        have W12 := W11.kp0 k12
        walk_at "z"
        refine ⟨c1, es', o', rfl, e12, W12.ents, W12.oth, by omega, fun e he => Nat.le_trans (W12.ok e he).gz (by decide), fun H13 k13 => ?_⟩
        have W13 := W12.kp0 k13
        have d13 := (d11.kp0 k12).kp0 k13
        walk_at "z"
        refine ⟨_, _, rfl, .sc (by cases reasonP es' o' <;> rfl), ?_⟩
        walk_at "z"
        refine ⟨d', kvsE es', rfl, .inl W13.dct, fun c2 nc2 => ?_⟩
        have k14 : Kp [] H13 (upd H13 c2 (.dK (kvsE es'))) := Kp.new nc2
        have e14 : (upd H13 c2 (.dK (kvsE es'))) c2 = some (.dK (kvsE es')) := upd_same
        revert k14 e14
        generalize upd H13 c2 (.dK (kvsE es')) = H14
        intro k14 e14
        have W14 := W13.kp0 k14
        have d14 := d13.kp0 k14
        walk_at "z"
        refine ⟨c2, es', o', rfl, ⟨e14, W14.ents, W14.oth, W14.ok, W14.oo, W14.nd⟩, by omega, fun hrn H15 l x nl k15 e15 => ?_, fun r hrn H15 l nl k15 e15 => ?_⟩
        · rw [hrn]
          dsimp only [optV]
          have d15 := d14.kp0 k15
          have W15 := W14.kp0 k15
          walk_at "z"
          refine Z.seqJ (fun σ' H' => σ' = [some (.ref c), some (.ref a), some (.ref d'), y3, some (.ref o'.p), some (.int (i : Int)), some .non, some (.ref l)] ∧ DrawsAt H' a ∧ Wd H' d' es' o' ∧ True) ?_ ?_
          · rintro σ' H16 ⟨rfl, d16, W16, _⟩
            walk_at "z"
            refine Z.seqJ (fun σ' H' => σ' = [some (.ref c), some (.ref a), some (.ref d'), y3, some (.ref o'.p), some (.int (i : Int)), some .non, some (.ref l)] ∧ DrawsAt H' a ∧ Wd H' d' es' o' ∧ True) ?_ ?_
            · rintro σ' H17 ⟨rfl, d17, W17, hl17⟩
              walk_at "z"
              refine ⟨a, d', es', o', rfl, d17, W17, by omega, fun H18 l2 d2' es2 o2 nl2 k18 d18 e18 W18 n18 => ?_⟩
              walk_at "z"
              refine Z.glst (lstL e18) rfl ?_
              walk_at "z"
              exact ⟨d2', es2, o2, _, _, _, _, rfl, d18, W18, by omega⟩
            · intro N jn
              walk_at "z"
              refine Z.noN rfl ?_
              walk_at "z"
              exact jn _ _ ⟨rfl, d16, W16, trivial⟩
          · intro N jn
            walk_at "z"
            refine Z.yes rfl ?_
            walk_at "z"
            refine Z.ixL (v := .str "plan") (lstL e15) rfl ?_
            walk_at "z"
            refine Z.noN rfl ?_
            walk_at "z"
            refine ⟨d', kvsE es', rfl, .inl W15.dct, fun c3 nc3 => ?_⟩
            have k16 : Kp [] H15 (upd H15 c3 (.dK (kvsE es'))) := Kp.new nc3
            have e16 : (upd H15 c3 (.dK (kvsE es'))) c3 = some (.dK (kvsE es')) := upd_same
            have nac3 : a ≠ c3 := d15.ne nc3
            have ndc3 : d' ≠ c3 := ne_of_none W15.dct nc3
            revert k16 e16
            generalize upd H15 c3 (.dK (kvsE es')) = H16
            intro k16 e16
            have W16 := W15.kp0 k16
            have nt16 : ∀ vs, H16 c3 ≠ some (.tup vs) := fun vs z => by rw [e16] at z; cases z
            walk_at "z"
            refine ⟨c3, es', o', rfl, ⟨e16, W16.ents, W16.oth, W16.ok, W16.oo, W16.nd⟩, hrn, fun H17 k17 => ?_⟩
            walk_at "z"
            exact jn _ _ ⟨rfl, (d15.kp0 k16).kp k17 (nin1 nac3), ⟨k17.get (nin1 ndc3) W16.dct, W16.ents.kpl k17 nt16, W16.oth.kpl k17 nt16, W16.ok, W16.oo, W16.nd⟩, trivial⟩
        · rw [hrn]
          dsimp only [optV]
          have d15 := d14.kp0 k15
          have W15 := W14.kp0 k15
          walk_at "z"
          refine Z.seqJ (fun σ' H' => σ' = [some (.ref c), some (.ref a), some (.ref d'), y3, some (.ref o'.p), some (.int (i : Int)), some (.str r), some (.ref l)] ∧ DrawsAt H' a ∧ Wd H' d' es' o' ∧ H' l = some (.lst [.str "refused", .str r])) ?_ ?_
          · rintro σ' H16 ⟨rfl, d16, W16, l16⟩
            walk_at "z"
            refine Z.seqJ (fun σ' H' => σ' = [some (.ref c), some (.ref a), some (.ref d'), y3, some (.ref o'.p), some (.int (i : Int)), some (.str r), some (.ref l)] ∧ DrawsAt H' a ∧ Wd H' d' es' o' ∧ True) ?_ ?_
            · rintro σ' H17 ⟨rfl, d17, W17, hl17⟩
              walk_at "z"
              refine ⟨a, d', es', o', rfl, d17, W17, by omega, fun H18 l2 d2' es2 o2 nl2 k18 d18 e18 W18 n18 => ?_⟩
              walk_at "z"
              refine Z.glst (lstL e18) rfl ?_
              walk_at "z"
              exact ⟨d2', es2, o2, _, _, _, _, rfl, d18, W18, by omega⟩
            · intro N jn
              walk_at "z"
              refine Z.yesN (by simp) ?_
              walk_at "z"
              refine Z.lstK (fun b H17 nb k17 e17 => ?_)
              walk_at "z"
              refine ⟨_, _, rfl, Sm.plain (n := 6) (k17.get nin0 l16) e17 (by simp) (fun x hx => ?_), ?_⟩
              · simp only [List.mem_cons, List.not_mem_nil, or_false] at hx
                rcases hx with rfl | rfl <;> rfl
              walk_at "z"
              exact jn _ _ ⟨rfl, d16.kp0 k17, W16.kp0 k17, trivial⟩
          · intro N jn
            walk_at "z"
            refine Z.no (by simp) ?_
            walk_at "z"
            exact jn _ _ ⟨rfl, d15, W15, e15⟩
      · rintro σ' H10 ⟨d', es', o', y3, y5, y6, y7, rfl, d10, W10, n10⟩
        walk_at "z"
        exact q _

set_option maxHeartbeats 4000000 in
theorem all_mk {l : PySem.W.OpenLaw} {w : World} {K : PySem.W.Frag} {h : Heap} {mg : Str → Option Value} {fa : Addr} (X : K.In h) (G : h.Ns mainGlobals mg) (hfa : mg "law" = some (.ref fa))
    {CSamphireError : Addr}
    {CInvalidPlan fInvalidPlan cInvalidPlan ccInvalidPlan : Addr}
    {CPlan : Addr}
    {od1 an1 : Option Addr} {sl1 : Array (Option Value)} {oc1 kV1 dc1 pm1 cd1 ct1 : Value} {f1 : Addr}
    {od2 an2 : Option Addr} {sl2 : Array (Option Value)} {oc2 kV2 dc2 pm2 cd2 ct2 : Value} {f2 : Addr}
    {od3 an3 : Option Addr} {sl3 : Array (Option Value)} {oc3 kV3 dc3 pm3 cd3 ct3 : Value} {f3 : Addr}
    {od4 an4 : Option Addr} {sl4 : Array (Option Value)} {oc4 kV4 dc4 pm4 cd4 ct4 : Value} {f4 : Addr}
    {od5 an5 : Option Addr} {sl5 : Array (Option Value)} {oc5 kV5 dc5 pm5 cd5 ct5 : Value} {f5 : Addr}
    {od6 an6 : Option Addr} {sl6 : Array (Option Value)} {oc6 kV6 dc6 pm6 cd6 ct6 : Value} {f6 : Addr}
    {od7 an7 : Option Addr} {sl7 : Array (Option Value)} {oc7 kV7 dc7 pm7 cd7 ct7 : Value} {f7 : Addr}
    {od8 an8 : Option Addr} {sl8 : Array (Option Value)} {oc8 kV8 dc8 pm8 cd8 ct8 : Value} {f8 : Addr}
    {od9 an9 : Option Addr} {sl9 : Array (Option Value)} {oc9 kV9 dc9 pm9 cd9 ct9 : Value} {f9 : Addr}
    {od10 an10 : Option Addr} {sl10 : Array (Option Value)} {oc10 kV10 dc10 pm10 cd10 ct10 : Value} {f10 : Addr}
    {od11 an11 : Option Addr} {sl11 : Array (Option Value)} {oc11 kV11 dc11 pm11 cd11 ct11 : Value} {f11 : Addr}
    {od12 an12 : Option Addr} {sl12 : Array (Option Value)} {oc12 kV12 dc12 pm12 cd12 ct12 : Value} {f12 : Addr}
    {od13 an13 : Option Addr} {sl13 : Array (Option Value)} {oc13 kV13 dc13 pm13 cd13 ct13 : Value} {f13 : Addr}
    {od14 an14 : Option Addr} {sl14 : Array (Option Value)} {oc14 kV14 dc14 pm14 cd14 ct14 : Value} {f14 : Addr}
    {od15 an15 : Option Addr} {sl15 : Array (Option Value)} {oc15 kV15 dc15 pm15 cd15 ct15 : Value} {f15 : Addr}
    {od16 an16 : Option Addr} {sl16 : Array (Option Value)} {oc16 kV16 dc16 pm16 cd16 ct16 : Value} {f16 : Addr}
    {od17 an17 : Option Addr} {sl17 : Array (Option Value)} {oc17 kV17 dc17 pm17 cd17 ct17 : Value} {f17 : Addr}
    {nmInvalidPlan qInvalidPlan : Str} {NInvalidPlan : Addr} {bsInvalidPlan : List Value} {snInvalidPlan : List Str} {subInvalidPlan : List Value} {abInvalidPlan : Bool} {colInvalidPlan : Option Bool} {ddInvalidPlan : Option Addr} {m0InvalidPlan m1InvalidPlan m2InvalidPlan m3InvalidPlan m5InvalidPlan : Option Value} {occInvalidPlan : Value} {cddInvalidPlan : Option Addr} {cvsInvalidPlan : List Value} {cslInvalidPlan : Array (Option Value)} {cclInvalidPlan : Value} {ccdInvalidPlan : Option Addr} {ccsInvalidPlan : Array (Option Value)} {ocInvalidPlan : Value} {odInvalidPlan : Option Addr} {oslInvalidPlan : Array (Option Value)} {docInvalidPlan pmInvalidPlan ctvInvalidPlan : Value}
    {t_WORD_SIGNS : Tok}
    {t_MOST_IN_NAME : Tok}
    {t_MOST_SIZE : Tok}
    {t_MOST_GROUPS : Tok}
    {k_KINDS : Addr} {od_KINDS : Option Addr} {nn_KINDS : Nat} {sl_KINDS : Array (Option Value)} {t0_KINDS t1_KINDS t2_KINDS : Tok}
    (a1 : PySem.W.nsIn K mainGlobals "made_of" = some (some (.ref f1)))
    (l1 : K.lookup f1 = some ⟨oc1, od1, .func (PySem.W.fnOf "made_of" "made_of" (defArgs s_made_of) (defBody s_made_of) (defScope s_made_of) .none kV1 dc1 pm1 an1 cd1 ct1), sl1⟩)
    (c1 : PySem.W.codeIn K cd1 "made_of" = true)
    (k1 : PySem.W.keepIn K (.ref f1) = true)
    (a2 : PySem.W.nsIn K mainGlobals "is_name" = some (some (.ref f2)))
    (l2 : K.lookup f2 = some ⟨oc2, od2, .func (PySem.W.fnOf "is_name" "is_name" (defArgs s_is_name) (defBody s_is_name) (defScope s_is_name) .none kV2 dc2 pm2 an2 cd2 ct2), sl2⟩)
    (c2 : PySem.W.codeIn K cd2 "is_name" = true)
    (k2 : PySem.W.keepIn K (.ref f2) = true)
    (a3 : PySem.W.nsIn K mainGlobals "check_plan" = some (some (.ref f3)))
    (l3 : K.lookup f3 = some ⟨oc3, od3, .func (PySem.W.fnOf "check_plan" "check_plan" (defArgs s_check_plan) (defBody s_check_plan) (defScope s_check_plan) .none kV3 dc3 pm3 an3 cd3 ct3), sl3⟩)
    (c3 : PySem.W.codeIn K cd3 "check_plan" = true)
    (k3 : PySem.W.keepIn K (.ref f3) = true)
    (a4 : PySem.W.findIn K (.ref CPlan) "__init__" = some (some (.ref f4)))
    (i4 : PySem.W.isFn K (.ref f4) = true)
    (l4 : K.lookup f4 = some ⟨oc4, od4, .func (PySem.W.fnOf "__init__" "Plan.__init__" (defArgs s_Plan_init) (defBody s_Plan_init) (defScope s_Plan_init) .none kV4 dc4 pm4 an4 cd4 ct4), sl4⟩)
    (c4 : PySem.W.codeIn K cd4 "Plan.__init__" = true)
    (k4 : PySem.W.keepIn K (.ref f4) = true)
    (a5 : PySem.W.findIn K (.ref CPlan) "place_of" = some (some (.ref f5)))
    (i5 : PySem.W.isFn K (.ref f5) = true)
    (l5 : K.lookup f5 = some ⟨oc5, od5, .func (PySem.W.fnOf "place_of" "Plan.place_of" (defArgs s_Plan_place_of) (defBody s_Plan_place_of) (defScope s_Plan_place_of) .none kV5 dc5 pm5 an5 cd5 ct5), sl5⟩)
    (c5 : PySem.W.codeIn K cd5 "Plan.place_of" = true)
    (k5 : PySem.W.keepIn K (.ref f5) = true)
    (a6 : PySem.W.findIn K (.ref CPlan) "places" = some (some (.ref f6)))
    (i6 : PySem.W.isFn K (.ref f6) = true)
    (l6 : K.lookup f6 = some ⟨oc6, od6, .func (PySem.W.fnOf "places" "Plan.places" (defArgs s_Plan_places) (defBody s_Plan_places) (defScope s_Plan_places) .none kV6 dc6 pm6 an6 cd6 ct6), sl6⟩)
    (c6 : PySem.W.codeIn K cd6 "Plan.places" = true)
    (k6 : PySem.W.keepIn K (.ref f6) = true)
    (a7 : PySem.W.findIn K (.ref CPlan) "rule" = some (some (.ref f7)))
    (i7 : PySem.W.isFn K (.ref f7) = true)
    (l7 : K.lookup f7 = some ⟨oc7, od7, .func (PySem.W.fnOf "rule" "Plan.rule" (defArgs s_Plan_rule) (defBody s_Plan_rule) (defScope s_Plan_rule) .none kV7 dc7 pm7 an7 cd7 ct7), sl7⟩)
    (c7 : PySem.W.codeIn K cd7 "Plan.rule" = true)
    (k7 : PySem.W.keepIn K (.ref f7) = true)
    (a8 : PySem.W.nsIn K mainGlobals "same_plan" = some (some (.ref f8)))
    (l8 : K.lookup f8 = some ⟨oc8, od8, .func (PySem.W.fnOf "same_plan" "same_plan" (defArgs s_same_plan) (defBody s_same_plan) (defScope s_same_plan) .none kV8 dc8 pm8 an8 cd8 ct8), sl8⟩)
    (c8 : PySem.W.codeIn K cd8 "same_plan" = true)
    (k8 : PySem.W.keepIn K (.ref f8) = true)
    (a9 : PySem.W.nsIn K mainGlobals "_law_draws" = some (some (.ref f9)))
    (l9 : K.lookup f9 = some ⟨oc9, od9, .func (PySem.W.fnOf "_law_draws" "_law_draws" (defArgs s__law_draws) (defBody s__law_draws) (defScope s__law_draws) .none kV9 dc9 pm9 an9 cd9 ct9), sl9⟩)
    (c9 : PySem.W.codeIn K cd9 "_law_draws" = true)
    (k9 : PySem.W.keepIn K (.ref f9) = true)
    (a10 : PySem.W.nsIn K mainGlobals "_law_take" = some (some (.ref f10)))
    (l10 : K.lookup f10 = some ⟨oc10, od10, .func (PySem.W.fnOf "_law_take" "_law_take" (defArgs s__law_take) (defBody s__law_take) (defScope s__law_take) .none kV10 dc10 pm10 an10 cd10 ct10), sl10⟩)
    (c10 : PySem.W.codeIn K cd10 "_law_take" = true)
    (k10 : PySem.W.keepIn K (.ref f10) = true)
    (a11 : PySem.W.nsIn K mainGlobals "_law_same" = some (some (.ref f11)))
    (l11 : K.lookup f11 = some ⟨oc11, od11, .func (PySem.W.fnOf "_law_same" "_law_same" (defArgs s__law_same) (defBody s__law_same) (defScope s__law_same) .none kV11 dc11 pm11 an11 cd11 ct11), sl11⟩)
    (c11 : PySem.W.codeIn K cd11 "_law_same" = true)
    (k11 : PySem.W.keepIn K (.ref f11) = true)
    (a12 : PySem.W.nsIn K mainGlobals "_law_spoilt" = some (some (.ref f12)))
    (l12 : K.lookup f12 = some ⟨oc12, od12, .func (PySem.W.fnOf "_law_spoilt" "_law_spoilt" (defArgs s__law_spoilt) (defBody s__law_spoilt) (defScope s__law_spoilt) .none kV12 dc12 pm12 an12 cd12 ct12), sl12⟩)
    (c12 : PySem.W.codeIn K cd12 "_law_spoilt" = true)
    (k12 : PySem.W.keepIn K (.ref f12) = true)
    (a13 : PySem.W.nsIn K mainGlobals "_law_fine" = some (some (.ref f13)))
    (l13 : K.lookup f13 = some ⟨oc13, od13, .func (PySem.W.fnOf "_law_fine" "_law_fine" (defArgs s__law_fine) (defBody s__law_fine) (defScope s__law_fine) .none kV13 dc13 pm13 an13 cd13 ct13), sl13⟩)
    (c13 : PySem.W.codeIn K cd13 "_law_fine" = true)
    (k13 : PySem.W.keepIn K (.ref f13) = true)
    (a14 : PySem.W.nsIn K mainGlobals "_law_reason" = some (some (.ref f14)))
    (l14 : K.lookup f14 = some ⟨oc14, od14, .func (PySem.W.fnOf "_law_reason" "_law_reason" (defArgs s__law_reason) (defBody s__law_reason) (defScope s__law_reason) .none kV14 dc14 pm14 an14 cd14 ct14), sl14⟩)
    (c14 : PySem.W.codeIn K cd14 "_law_reason" = true)
    (k14 : PySem.W.keepIn K (.ref f14) = true)
    (a15 : PySem.W.nsIn K mainGlobals "_law_made" = some (some (.ref f15)))
    (l15 : K.lookup f15 = some ⟨oc15, od15, .func (PySem.W.fnOf "_law_made" "_law_made" (defArgs s__law_made) (defBody s__law_made) (defScope s__law_made) .none kV15 dc15 pm15 an15 cd15 ct15), sl15⟩)
    (c15 : PySem.W.codeIn K cd15 "_law_made" = true)
    (k15 : PySem.W.keepIn K (.ref f15) = true)
    (a16 : PySem.W.nsIn K mainGlobals "_law_stands" = some (some (.ref f16)))
    (l16 : K.lookup f16 = some ⟨oc16, od16, .func (PySem.W.fnOf "_law_stands" "_law_stands" (defArgs s__law_stands) (defBody s__law_stands) (defScope s__law_stands) .none kV16 dc16 pm16 an16 cd16 ct16), sl16⟩)
    (c16 : PySem.W.codeIn K cd16 "_law_stands" = true)
    (k16 : PySem.W.keepIn K (.ref f16) = true)
    (a17 : PySem.W.nsIn K mainGlobals "law" = some (some (.ref f17)))
    (l17 : K.lookup f17 = some ⟨oc17, od17, .func (PySem.W.fnOf "law" "law" (defArgs s_law) (defBody s_law) (defScope s_law) .none kV17 dc17 pm17 an17 cd17 ct17), sl17⟩)
    (c17 : PySem.W.codeIn K cd17 "law" = true)
    (k17 : PySem.W.keepIn K (.ref f17) = true)
    (aCSamphireError : PySem.W.nsIn K mainGlobals "SamphireError" = some (some (.ref CSamphireError)))
    (aCInvalidPlan : PySem.W.nsIn K mainGlobals "InvalidPlan" = some (some (.ref CInvalidPlan)))
    (iCInvalidPlan : PySem.W.findIn K (.ref CInvalidPlan) "__init__" = some (some (.ref fInvalidPlan)))
    (tIInvalidPlan : PySem.W.typeIn K (.ref fInvalidPlan) = some (.type "function"))
    (lkInvalidPlan : K.lookup fInvalidPlan = some ⟨ocInvalidPlan, odInvalidPlan, .func ((NF_InvalidPlan ccInvalidPlan cInvalidPlan).fd docInvalidPlan pmInvalidPlan ctvInvalidPlan), oslInvalidPlan⟩)
    (hcInvalidPlan : PySem.W.codeIn K (.ref cInvalidPlan) "InvalidPlan.__init__" = true)
    (xLInvalidPlan : K.lookup CInvalidPlan = some (excClassObj nmInvalidPlan qInvalidPlan CInvalidPlan NInvalidPlan bsInvalidPlan [.ref CSamphireError, .type "ValueError", .type "Exception", .type "BaseException", .type "object"] true snInvalidPlan subInvalidPlan abInvalidPlan colInvalidPlan ddInvalidPlan m0InvalidPlan m1InvalidPlan m2InvalidPlan m3InvalidPlan m5InvalidPlan "ValueError.__new__"))
    (saInvalidPlan : PySem.W.findIn K (.ref CInvalidPlan) "__setattr__" = some (some (.builtin "object.__setattr__")))
    (sBInvalidPlan : PySem.W.subIn K (.ref CInvalidPlan) (.type "BaseException") = some true)
    (tCInvalidPlan : PySem.W.typeIn K (.ref CInvalidPlan) = some (.type "type"))
    (kCInvalidPlan : PySem.W.keepIn K (.ref CInvalidPlan) = true)
    (coInvalidPlan : K.lookup cInvalidPlan = some ⟨occInvalidPlan, cddInvalidPlan, .fields cvsInvalidPlan.toArray, cslInvalidPlan⟩)
    (flInvalidPlan : Sup.flIs cvsInvalidPlan l.prog.main.file = true)
    (ceInvalidPlan : K.lookup ccInvalidPlan = some ⟨cclInvalidPlan, ccdInvalidPlan, .cell (some (.ref CInvalidPlan)), ccsInvalidPlan⟩)
    (mrInvalidPlan : PySem.W.mroIn K CInvalidPlan (.ref CInvalidPlan) = some true)
    (sVInvalidPlan : PySem.W.subIn K (.ref CInvalidPlan) (.type "ValueError") = some true)
    (anInvalidPlan : PySem.W.nsIn K PySem.cStatics "thirdparty.any" = some none)
    (suInvalidPlan : PySem.W.ks_superIn K CInvalidPlan CInvalidPlan "__init__" = some (some (.builtin "ValueError.__init__")))
    (tpInvalidPlan : (l.prog.main.scope.names.lookup ("super" : Str)).isSome = false)
    (hgInvalidPlan : PySem.W.findIn K (.ref CInvalidPlan) "__getattribute__" = some (some (.builtin "BaseException.__getattribute__")))
    (hkInvalidPlan : PySem.W.findIn K (.ref CInvalidPlan) "__getattr__" = some none)
    (hdInvalidPlan : PySem.W.hasDictIn K CInvalidPlan = true)
    (haInvalidPlan : PySem.W.findIn K (.ref CInvalidPlan) "__class__" = some (some (.builtin "object.__class__")))
    (hnInvalidPlan : PySem.W.specialIn K (.builtin "object.__class__") "__get__" = some (some (.builtin "getset_descriptor.__get__")))
    (htInvalidPlan : PySem.W.takesIn K (.builtin "object.__class__") = some true)
    (hmInvalidPlan : PySem.W.mroIn K CInvalidPlan (.type "object") = some true)
    (icInvalidPlan : PySem.W.isClsIn K CInvalidPlan = true)
    (sCInvalidPlan : PySem.W.subIn K (.ref CInvalidPlan) (.ref CInvalidPlan) = some true)
    (nf_reason_InvalidPlan : PySem.W.findIn K (.ref CInvalidPlan) "reason" = some none)
    (aCPlan : PySem.W.nsIn K mainGlobals "Plan" = some (some (.ref CPlan)))
    (pgPlan : PySem.W.plainGet K CPlan Str.empty = true) (hdPlan : PySem.W.hasDictIn K CPlan = true) (poPlan : PySem.W.plainOver K CPlan = true) (saPlan : PySem.W.findIn K (.ref CPlan) "__setattr__" = some (some (.builtin "object.__setattr__"))) (mkPlan : PySem.W.makesIn K CPlan = true) (kcPlan : PySem.W.keepIn K (.ref CPlan) = true)
    (nPlan__rules : PySem.W.findIn K (.ref CPlan) "_rules" = some none)
    (nPlan__others : PySem.W.findIn K (.ref CPlan) "_others" = some none)
    (z_abs : PySem.W.nsIn K mainGlobals "abs" = some none)
    (z_all : PySem.W.nsIn K mainGlobals "all" = some none)
    (z_bool : PySem.W.nsIn K mainGlobals "bool" = some none)
    (z_dict : PySem.W.nsIn K mainGlobals "dict" = some none)
    (z_int : PySem.W.nsIn K mainGlobals "int" = some none)
    (z_isinstance : PySem.W.nsIn K mainGlobals "isinstance" = some none)
    (z_len : PySem.W.nsIn K mainGlobals "len" = some none)
    (z_list : PySem.W.nsIn K mainGlobals "list" = some none)
    (z_range : PySem.W.nsIn K mainGlobals "range" = some none)
    (z_reversed : PySem.W.nsIn K mainGlobals "reversed" = some none)
    (z_sorted : PySem.W.nsIn K mainGlobals "sorted" = some none)
    (z_str : PySem.W.nsIn K mainGlobals "str" = some none)
    (z_super : PySem.W.nsIn K mainGlobals "super" = some none)
    (z_tuple : PySem.W.nsIn K mainGlobals "tuple" = some none)
    (v_WORD_SIGNS : PySem.W.nsIn K mainGlobals "WORD_SIGNS" = some (some (.str "abcdefghijklmnopqrstuvwxyz0123456789" t_WORD_SIGNS)))
    (v_MOST_IN_NAME : PySem.W.nsIn K mainGlobals "MOST_IN_NAME" = some (some (.int (12) t_MOST_IN_NAME)))
    (v_MOST_SIZE : PySem.W.nsIn K mainGlobals "MOST_SIZE" = some (some (.int (20) t_MOST_SIZE)))
    (v_MOST_GROUPS : PySem.W.nsIn K mainGlobals "MOST_GROUPS" = some (some (.int (20) t_MOST_GROUPS)))
    (v_KINDS : PySem.W.nsIn K mainGlobals "KINDS" = some (some (.ref k_KINDS)))
    (l_KINDS : K.lookup k_KINDS = some ⟨.type "tuple", od_KINDS, .seq #[.str "uniform" t0_KINDS, .str "weighted" t1_KINDS, .str "optimal" t2_KINDS] nn_KINDS, sl_KINDS⟩) :
    ∃ fd : FuncData, (∀ (s : Shared) (v : Value), BindsTo s fd ⟨[v], []⟩ [("script", v)]) ∧ ∀ base : Heap, K.In base → base.Ns mainGlobals mg → FnOk l.prog w K mg base CX0 11 fa fd ["script"] (spLaw K) := by
  have e : f17 = fa := by
    have e := hfa.symm.trans (PySem.W.mg_of X G a17)
    cases e
    rfl
  subst e
  let t : T l.prog K mg := {
    a_made_of := f1, fd_made_of := _, F_made_of := fun_mk (st := s_made_of) l1 c1 k1, b_made_of := (fun_mk (st := s_made_of) l1 c1 k1).binds (ps := ["text", "signs"]) (fun _ _ _ _ _ _ us hl => match us, hl with | [_, _], _ => rfl),
    g_made_of := PySem.W.mg_of X G a1,
    a_is_name := f2, fd_is_name := _, F_is_name := fun_mk (st := s_is_name) l2 c2 k2, b_is_name := (fun_mk (st := s_is_name) l2 c2 k2).binds (ps := ["text"]) (fun _ _ _ _ _ _ us hl => match us, hl with | [_], _ => rfl),
    g_is_name := PySem.W.mg_of X G a2,
    a_check_plan := f3, fd_check_plan := _, F_check_plan := fun_mk (st := s_check_plan) l3 c3 k3, b_check_plan := (fun_mk (st := s_check_plan) l3 c3 k3).binds (ps := ["rules", "others"]) (fun _ _ _ _ _ _ us hl => match us, hl with | [_, _], _ => rfl),
    g_check_plan := PySem.W.mg_of X G a3,
    a_Plan_init := f4, fd_Plan_init := _, F_Plan_init := fun_mk (st := s_Plan_init) l4 c4 k4, b_Plan_init := (fun_mk (st := s_Plan_init) l4 c4 k4).binds (ps := ["self", "rules", "others"]) (fun _ _ _ _ _ _ us hl => match us, hl with | [_, _, _], _ => rfl),
    a_Plan_place_of := f5, fd_Plan_place_of := _, F_Plan_place_of := fun_mk (st := s_Plan_place_of) l5 c5 k5, b_Plan_place_of := (fun_mk (st := s_Plan_place_of) l5 c5 k5).binds (ps := ["self", "group"]) (fun _ _ _ _ _ _ us hl => match us, hl with | [_, _], _ => rfl),
    a_Plan_places := f6, fd_Plan_places := _, F_Plan_places := fun_mk (st := s_Plan_places) l6 c6 k6, b_Plan_places := (fun_mk (st := s_Plan_places) l6 c6 k6).binds (ps := ["self"]) (fun _ _ _ _ _ _ us hl => match us, hl with | [_], _ => rfl),
    a_Plan_rule := f7, fd_Plan_rule := _, F_Plan_rule := fun_mk (st := s_Plan_rule) l7 c7 k7, b_Plan_rule := (fun_mk (st := s_Plan_rule) l7 c7 k7).binds (ps := ["self", "place"]) (fun _ _ _ _ _ _ us hl => match us, hl with | [_, _], _ => rfl),
    a_same_plan := f8, fd_same_plan := _, F_same_plan := fun_mk (st := s_same_plan) l8 c8 k8, b_same_plan := (fun_mk (st := s_same_plan) l8 c8 k8).binds (ps := ["plan", "other"]) (fun _ _ _ _ _ _ us hl => match us, hl with | [_, _], _ => rfl),
    g_same_plan := PySem.W.mg_of X G a8,
    a__law_draws := f9, fd__law_draws := _, F__law_draws := fun_mk (st := s__law_draws) l9 c9 k9, b__law_draws := (fun_mk (st := s__law_draws) l9 c9 k9).binds (ps := ["script"]) (fun _ _ _ _ _ _ us hl => match us, hl with | [_], _ => rfl),
    g__law_draws := PySem.W.mg_of X G a9,
    a__law_take := f10, fd__law_take := _, F__law_take := fun_mk (st := s__law_take) l10 c10 k10, b__law_take := (fun_mk (st := s__law_take) l10 c10 k10).binds (ps := ["draws", "bound"]) (fun _ _ _ _ _ _ us hl => match us, hl with | [_, _], _ => rfl),
    g__law_take := PySem.W.mg_of X G a10,
    a__law_same := f11, fd__law_same := _, F__law_same := fun_mk (st := s__law_same) l11 c11 k11, b__law_same := (fun_mk (st := s__law_same) l11 c11 k11).binds (ps := ["actual", "due"]) (fun _ _ _ _ _ _ us hl => match us, hl with | [_, _], _ => rfl),
    g__law_same := PySem.W.mg_of X G a11,
    a__law_spoilt := f12, fd__law_spoilt := _, F__law_spoilt := fun_mk (st := s__law_spoilt) l12 c12 k12, b__law_spoilt := (fun_mk (st := s__law_spoilt) l12 c12 k12).binds (ps := ["draws", "rules", "others"]) (fun _ _ _ _ _ _ us hl => match us, hl with | [_, _, _], _ => rfl),
    g__law_spoilt := PySem.W.mg_of X G a12,
    a__law_fine := f13, fd__law_fine := _, F__law_fine := fun_mk (st := s__law_fine) l13 c13 k13, b__law_fine := (fun_mk (st := s__law_fine) l13 c13 k13).binds (ps := ["text"]) (fun _ _ _ _ _ _ us hl => match us, hl with | [_], _ => rfl),
    g__law_fine := PySem.W.mg_of X G a13,
    a__law_reason := f14, fd__law_reason := _, F__law_reason := fun_mk (st := s__law_reason) l14 c14 k14, b__law_reason := (fun_mk (st := s__law_reason) l14 c14 k14).binds (ps := ["rules", "others"]) (fun _ _ _ _ _ _ us hl => match us, hl with | [_, _], _ => rfl),
    g__law_reason := PySem.W.mg_of X G a14,
    a__law_made := f15, fd__law_made := _, F__law_made := fun_mk (st := s__law_made) l15 c15 k15, b__law_made := (fun_mk (st := s__law_made) l15 c15 k15).binds (ps := ["rules", "others"]) (fun _ _ _ _ _ _ us hl => match us, hl with | [_, _], _ => rfl),
    g__law_made := PySem.W.mg_of X G a15,
    a__law_stands := f16, fd__law_stands := _, F__law_stands := fun_mk (st := s__law_stands) l16 c16 k16, b__law_stands := (fun_mk (st := s__law_stands) l16 c16 k16).binds (ps := ["rules", "others"]) (fun _ _ _ _ _ _ us hl => match us, hl with | [_, _], _ => rfl),
    g__law_stands := PySem.W.mg_of X G a16,
    a_law := f17, fd_law := _, F_law := fun_mk (st := s_law) l17 c17 k17, b_law := (fun_mk (st := s_law) l17 c17 k17).binds (ps := ["script"]) (fun _ _ _ _ _ _ us hl => match us, hl with | [_], _ => rfl),
    g_law := PySem.W.mg_of X G a17,
    C_SamphireError := CSamphireError, mg_SamphireError := PySem.W.mg_of X G aCSamphireError,
    C_InvalidPlan := CInvalidPlan, a_InvalidPlan_init := fInvalidPlan, c_InvalidPlan := cInvalidPlan, cc_InvalidPlan := ccInvalidPlan, doc_InvalidPlan := docInvalidPlan, pm_InvalidPlan := pmInvalidPlan, ctv_InvalidPlan := ctvInvalidPlan, oc_InvalidPlan := ocInvalidPlan, od_InvalidPlan := odInvalidPlan, osl_InvalidPlan := oslInvalidPlan, lk_InvalidPlan := lkInvalidPlan, hc_InvalidPlan := hcInvalidPlan,
    x_InvalidPlan := Sup.excT_mk xLInvalidPlan rfl saInvalidPlan sBInvalidPlan tCInvalidPlan kCInvalidPlan coInvalidPlan flInvalidPlan ceInvalidPlan mrInvalidPlan sVInvalidPlan (PySem.W.mg_none_of X G z_super) anInvalidPlan suInvalidPlan tpInvalidPlan (PySem.W.mg_of X G aCInvalidPlan) iCInvalidPlan tIInvalidPlan ⟨hgInvalidPlan, hkInvalidPlan, sBInvalidPlan, hdInvalidPlan, haInvalidPlan, hnInvalidPlan, htInvalidPlan, hmInvalidPlan⟩ icInvalidPlan sCInvalidPlan,
    bx_InvalidPlan := .all (fun us hl => match us, hl with | [_, _], _ => rfl),
    nf_InvalidPlan_reason := nf_reason_InvalidPlan,
    C_Plan := CPlan, cl_Plan := ⟨pgPlan, hdPlan, poPlan, saPlan⟩, mg_Plan := PySem.W.mg_of X G aCPlan,
    mk_Plan := ⟨mkPlan, a4, i4, kcPlan⟩,
    na_Plan__rules := nPlan__rules,
    na_Plan__others := nPlan__others,
    me_Plan_place_of := ⟨a5, i5, k5⟩,
    me_Plan_places := ⟨a6, i6, k6⟩,
    me_Plan_rule := ⟨a7, i7, k7⟩,
    z_abs := PySem.W.mg_none_of X G z_abs,
    z_all := PySem.W.mg_none_of X G z_all,
    z_bool := PySem.W.mg_none_of X G z_bool,
    z_dict := PySem.W.mg_none_of X G z_dict,
    z_int := PySem.W.mg_none_of X G z_int,
    z_isinstance := PySem.W.mg_none_of X G z_isinstance,
    z_len := PySem.W.mg_none_of X G z_len,
    z_list := PySem.W.mg_none_of X G z_list,
    z_range := PySem.W.mg_none_of X G z_range,
    z_reversed := PySem.W.mg_none_of X G z_reversed,
    z_sorted := PySem.W.mg_none_of X G z_sorted,
    z_str := PySem.W.mg_none_of X G z_str,
    z_super := PySem.W.mg_none_of X G z_super,
    z_tuple := PySem.W.mg_none_of X G z_tuple,
    v_WORD_SIGNS := _, g_WORD_SIGNS := PySem.W.mg_of X G v_WORD_SIGNS, r_WORD_SIGNS := ⟨_, rfl⟩,
    v_MOST_IN_NAME := _, g_MOST_IN_NAME := PySem.W.mg_of X G v_MOST_IN_NAME, r_MOST_IN_NAME := ⟨_, rfl⟩,
    v_MOST_SIZE := _, g_MOST_SIZE := PySem.W.mg_of X G v_MOST_SIZE, r_MOST_SIZE := ⟨_, rfl⟩,
    v_MOST_GROUPS := _, g_MOST_GROUPS := PySem.W.mg_of X G v_MOST_GROUPS, r_MOST_GROUPS := ⟨_, rfl⟩,
    k_KINDS := k_KINDS, g_KINDS := PySem.W.mg_of X G v_KINDS, q_KINDS := fun H => .inr ⟨_, _, _, l_KINDS, rfl, rfl, (show 3 ≤ sizeLine by decide), (.cons ⟨_, rfl⟩ (.cons ⟨_, rfl⟩ (.cons ⟨_, rfl⟩ .nil)))⟩ }
  exact ⟨t.fd_law, fun s v => .of_eq rfl, fun base _ _ => ok_law t⟩

end K58
open PySem PySem.W PyProof.Rows in
set_option maxRecDepth 100000 in
set_option maxHeartbeats 0 in
theorem PySem.Challenge.cw_samphire_k58_plans_checked_holds : PySem.Challenge.rw_samphire_k58_plans_checked.Holds := by
  w_on; o_law; k_head; (case hw => w_witness2)
  k_fill
  refine L2.walk_ofB (l := PySem.Challenge.rw_samphire_k58_plans_checked) (n := 63) (k := 11) (x := "script") (CX := fun w => L2.CX0) (sp := fun w => K58.spLaw _) rfl (by decide) rfl ⟨rfl, by decide, by decide⟩ (fun w h Y => PySem.W.kIn_of Y) ?F (fun _ H a ns hl hb _ hS => ⟨a, ns, rfl, hS, hl, hb, fun _ => rfl⟩) (fun _ _ _ _ _ h => h)
  case F =>
    intro w mg fa h KX G hmg
    refine' K58.all_mk KX G hmg ?a1 ?l1 ?c1 ?k1 ?a2 ?l2 ?c2 ?k2 ?a3 ?l3 ?c3 ?k3 ?a4 ?i4 ?l4 ?c4 ?k4 ?a5 ?i5 ?l5 ?c5 ?k5 ?a6 ?i6 ?l6 ?c6 ?k6 ?a7 ?i7 ?l7 ?c7 ?k7 ?a8 ?l8 ?c8 ?k8 ?a9 ?l9 ?c9 ?k9 ?a10 ?l10 ?c10 ?k10 ?a11 ?l11 ?c11 ?k11 ?a12 ?l12 ?c12 ?k12 ?a13 ?l13 ?c13 ?k13 ?a14 ?l14 ?c14 ?k14 ?a15 ?l15 ?c15 ?k15 ?a16 ?l16 ?c16 ?k16 ?a17 ?l17 ?c17 ?k17 ?aCSamphireError ?aCInvalidPlan ?iCInvalidPlan ?tIInvalidPlan ?lkInvalidPlan ?hcInvalidPlan ?xLInvalidPlan ?saInvalidPlan ?sBInvalidPlan ?tCInvalidPlan ?kCInvalidPlan ?coInvalidPlan ?flInvalidPlan ?ceInvalidPlan ?mrInvalidPlan ?sVInvalidPlan ?anInvalidPlan ?suInvalidPlan ?tpInvalidPlan ?hgInvalidPlan ?hkInvalidPlan ?hdInvalidPlan ?haInvalidPlan ?hnInvalidPlan ?htInvalidPlan ?hmInvalidPlan ?icInvalidPlan ?sCInvalidPlan ?nf_reason_InvalidPlan ?aCPlan ?pgPlan ?hdPlan ?poPlan ?saPlan ?mkPlan ?kcPlan ?nPlan__rules ?nPlan__others ?z_abs ?z_all ?z_bool ?z_dict ?z_int ?z_isinstance ?z_len ?z_list ?z_range ?z_reversed ?z_sorted ?z_str ?z_super ?z_tuple ?v_WORD_SIGNS ?v_MOST_IN_NAME ?v_MOST_SIZE ?v_MOST_GROUPS ?v_KINDS ?l_KINDS
    (case aCSamphireError => k_is)
    (case aCInvalidPlan => k_is)
    (case aCPlan => k_is)
    (case a1 => k_is)
    (case l1 => k_is)
    (case c1 => k_is)
    (case k1 => k_is)
    (case a2 => k_is)
    (case l2 => k_is)
    (case c2 => k_is)
    (case k2 => k_is)
    (case a3 => k_is)
    (case l3 => k_is)
    (case c3 => k_is)
    (case k3 => k_is)
    (case a4 => k_is)
    (case i4 => k_is)
    (case l4 => k_is)
    (case c4 => k_is)
    (case k4 => k_is)
    (case a5 => k_is)
    (case i5 => k_is)
    (case l5 => k_is)
    (case c5 => k_is)
    (case k5 => k_is)
    (case a6 => k_is)
    (case i6 => k_is)
    (case l6 => k_is)
    (case c6 => k_is)
    (case k6 => k_is)
    (case a7 => k_is)
    (case i7 => k_is)
    (case l7 => k_is)
    (case c7 => k_is)
    (case k7 => k_is)
    (case a8 => k_is)
    (case l8 => k_is)
    (case c8 => k_is)
    (case k8 => k_is)
    (case a9 => k_is)
    (case l9 => k_is)
    (case c9 => k_is)
    (case k9 => k_is)
    (case a10 => k_is)
    (case l10 => k_is)
    (case c10 => k_is)
    (case k10 => k_is)
    (case a11 => k_is)
    (case l11 => k_is)
    (case c11 => k_is)
    (case k11 => k_is)
    (case a12 => k_is)
    (case l12 => k_is)
    (case c12 => k_is)
    (case k12 => k_is)
    (case a13 => k_is)
    (case l13 => k_is)
    (case c13 => k_is)
    (case k13 => k_is)
    (case a14 => k_is)
    (case l14 => k_is)
    (case c14 => k_is)
    (case k14 => k_is)
    (case a15 => k_is)
    (case l15 => k_is)
    (case c15 => k_is)
    (case k15 => k_is)
    (case a16 => k_is)
    (case l16 => k_is)
    (case c16 => k_is)
    (case k16 => k_is)
    (case a17 => k_is)
    (case l17 => k_is)
    (case c17 => k_is)
    (case k17 => k_is)
    (case iCInvalidPlan => k_is)
    (case tIInvalidPlan => k_is)
    (case lkInvalidPlan => k_is)
    (case hcInvalidPlan => k_is)
    (case xLInvalidPlan => k_is)
    (case saInvalidPlan => k_is)
    (case sBInvalidPlan => k_is)
    (case tCInvalidPlan => k_is)
    (case kCInvalidPlan => k_is)
    (case coInvalidPlan => k_is)
    (case flInvalidPlan => first | rfl | decide +kernel)
    (case ceInvalidPlan => k_is)
    (case mrInvalidPlan => first | rfl | k_is)
    (case sVInvalidPlan => k_is)
    (case anInvalidPlan => k_is)
    (case suInvalidPlan => ks_is)
    (case tpInvalidPlan => first | rfl | decide +kernel)
    (case hgInvalidPlan => k_is)
    (case hkInvalidPlan => k_is)
    (case hdInvalidPlan => k_is)
    (case haInvalidPlan => k_is)
    (case hnInvalidPlan => k_is)
    (case htInvalidPlan => k_is)
    (case hmInvalidPlan => k_is)
    (case icInvalidPlan => k_is)
    (case sCInvalidPlan => first | rfl | k_is)
    (case nf_reason_InvalidPlan => k_is)
    (case pgPlan => k_is)
    (case hdPlan => k_is)
    (case poPlan => k_is)
    (case saPlan => k_is)
    (case mkPlan => k_is)
    (case kcPlan => k_is)
    (case nPlan__rules => k_is)
    (case nPlan__others => k_is)
    (case z_abs => k_is)
    (case z_all => k_is)
    (case z_bool => k_is)
    (case z_dict => k_is)
    (case z_int => k_is)
    (case z_isinstance => k_is)
    (case z_len => k_is)
    (case z_list => k_is)
    (case z_range => k_is)
    (case z_reversed => k_is)
    (case z_sorted => k_is)
    (case z_str => k_is)
    (case z_super => k_is)
    (case z_tuple => k_is)
    (case v_WORD_SIGNS => k_is)
    (case v_MOST_IN_NAME => k_is)
    (case v_MOST_SIZE => k_is)
    (case v_MOST_GROUPS => k_is)
    (case v_KINDS => k_is)
    (case l_KINDS => k_is)
