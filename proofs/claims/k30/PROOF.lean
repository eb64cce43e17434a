import PyProof.Rows.All
import Wide.All
import OpenK.AllK
import Wide.FinOn
import HandS.ForMost
import HandS.ForExc
import HandS.EndBits
import HandS.Wide
import HandS.IsInst
import HandS.ExcInit
import HandS.Nested
import KE.KExcSuper
import HandS.ExcIs
import HandS.ExcField
import HandS.Gcd
import HandS.Rev
import HandS.Walk
import HandS.Style
import HandS.FStr
import HandS.TryOnly
import KE.GoesEnumKw
import HandS.Text
import HandS.SortInts
import HandS.More
import HandS.ClsMeth
import HandS.WordsExc
import HandS.Deep
import HandS.StrMore
import HandS.TryMany
import KE.SortData
import KE.SortKeyHeap
import HandS.RevRange
import HandS.Lambda
import HandS.EndTab
import PyProof.Rows.TupSub
import HandS.SortKw
import KE.KSortKey
import PySem.Challenge.RW_samphire_k30_optimal_samples_as_objects
set_option Elab.async false
set_option linter.all false
set_option maxRecDepth 100000

/-! ### an own exception whose __init__ begins with super().__init__(..) -/
namespace Sup
open PySem PySem.Spec PyProof.Rows L2 NdefX
/-- what the written part says of such a class (at C), of its __init__ (at f; its code at c, its cell of the class at cc) -/
structure SupC (P : Program) (K : PySem.W.Frag) (mg : Str → Option Value) (C f c cc : Addr) : Prop where
  T : OexC K C
  cd : ∃ cd, PySem.W.clsIn K C = some cd
  code : ∃ occ cdd vs sl file tf, K.lookup c = some ⟨occ, cdd, .fields vs, sl⟩ ∧ vs[2]? = some (.str file tf) ∧ ((P.main.file : Str) == file) = true
  cell : ∃ cl cld sl, K.lookup cc = some ⟨cl, cld, .cell (some (.ref C)), sl⟩
  sub : PySem.W.mroIn K C (.ref C) = some true
  subV : PySem.W.subIn K (.ref C) (.type "ValueError") = some true
  zs : mg "super" = none
  any : PySem.W.nsIn K PySem.cStatics "thirdparty.any" = some none
  sup : PySem.W.ks_superIn K C C "__init__" = some (some (.builtin "ValueError.__init__"))
  top : (P.main.scope.names.lookup ("super" : Str)).isSome = false
section
variable {CX : CXT} {P : Program} {w : World} {K : PySem.W.Frag} {mg : Str → Option Value} {base : Heap} {N ps : List Str} {F : NF} {f C cc : Addr} {k : Nat} {sp : Sp}
/-- the body's first statement -/
abbrev supSt (arg : Expr) (p0 p1 p2 p3 p4 : Pos) : Stmt := .Expr (.Call (.Attribute (.Call (.Name "super" p0) [] [] p1) "__init__" p2) [arg] [] p3) p4
theorem callW {M : Model} {A : Around} {E : Value → Shared → Prop} {s : Shared} {i : String} {u x : Addr} {pos : Pos} {env : Env} {e : Expr} {Q : Value → Shared → Prop} (he : starEach [e] env = (false, eval e env) :: starEach [] env)
    (h : wpAny M A (spliced (backTo pos (starEach [e] env))) (fun vs s₁ => PySem.W.KxsAt i u x s₁.heap ∧ wpAny M A (call (.ref u) vs) Q E s₁) E s) : wpAny M A (callWith pos (.ref u) [] (backTo pos (starEach [e] env)) []) Q E s := by
  rw [he] at h ⊢
  refine PySem.W.kxs_callWith (i := i) (x := x) rfl ?_
  exact PySem.Calls.evalArgs_plain h
theorem fn_super {oc : Value} {od : Option Addr} {osl : Array (Option Value)} {doc pm ctv : Value} {arg : Expr} {rest : List Stmt} {p0 p1 p2 p3 p4 : Pos} {p : Str} {ps' : List Str}
    (T : SupC P K mg C f F.c cc) (lk : K.lookup f = some ⟨oc, od, .func (F.fd doc pm ctv), osl⟩) (hcl : F.cl = [(("__class__" : Str), cc)]) (hcd : PySem.W.codeIn K (.ref F.c) F.qual = true) (S : NScope N ps ["__class__"] F.scope) (hps : ps = p :: ps')
    (hpar : ∃ ar, (F.params.posonlyargs ++ F.params.args).head? = some ar ∧ ar.arg = p) (hsu : F.scope.names.lookup ("super" : Str) = some .globalImplicit) (hbd : F.body = supSt arg p0 p1 p2 p3 p4 :: rest)
    (hsw : ∀ L : Addr, swapsWith (.Call (.Attribute (.Call (.Name "super" p0) [] [] p1) "__init__" p2) [arg] [] p3) none p4.line (envF F f L) = pure false)
    (hev : ∀ L : Addr, ∃ pl, eval (.Call (.Attribute (.Call (.Name "super" p0) [] [] p1) "__init__" p2) [arg] [] p3) (envF F f L) = (do
        let ov ← attributeBase (.Call (.Name "super" p0) [] [] p1) "__init__" (envF F f L) (eval (.Call (.Name "super" p0) [] [] p1) (envF F f L))
        standAt p2.atName
        let (f', first) ← holding [ov] (getMethod ov "__init__" pl)
        callWith p3 f' first (backTo p3 (starEach [arg] (envF F f L))) []))
    (hst : ∀ L : Addr, starEach [arg] (envF F f L) = (false, eval arg (envF F f L)) :: starEach [] (envF F f L))
    (len : ∀ vs H Q E, sp vs H Q E → vs.length = ps.length)
    (hbody : ∀ (A : Around) (outer : List Env) (s : Shared) (H : Hp) (vs : List V) (Q : VK) (E : XK), Room k (A.deeper (envF F f s.heap.objs.size)) → sp vs H Q E →
      ∃ a vs' ta t, vs = .ref a :: vs' ∧ H a = some (exo a C none) ∧ PA (ncx CX P w K mg base N F f A outer s H E) [arg] ta ∧ PSs (ncx CX P w K mg base N F f A outer s H E) rest t ∧
        ta (startF N vs [none]) H (fun ws H1 => ws.length ≤ 1000 ∧ H1 a = some (exo a C none) ∧ t { nx := fun _ H' => Q .non H', rt := Q } (startF N vs [none]) H1)) :
    FnOk P w K mg base CX (k + 1) f (F.fd doc pm ctv) ps sp := by
  refine ⟨len, fun A outer s H args us vs Q E hr e0 hb r hsp => ?_⟩
  have KX : K.In s.heap := e0.mod.kin.keeps fun b o e => (e0.bs b o e).1
  have hl := len _ _ _ _ hsp
  have lim : s.heap.NoLimit := e0.mod.nolimit.keeps fun b o e => (e0.bs b o e).1
  refine codeAny_call_function hr.depth (KX _ _ lk) rfl S.co S.gen rfl (PySem.W.codeRec_of KX hcd) (hb _ _ _ _ ?_)
  refine wpAny_newFunctionEnv S.nocell (fun ⟨n, _⟩ hy => S.par n (List.of_mem_zip hy).1) (fun h₁ hns hsb => ⟨lim.fresh _ hsb, ?_⟩) S.kind
  show codeAny _ _ (.func F.body (envF F f s.heap.objs.size)) _ _
  refine PySem.ks_codeAny_funcAt ?_
  have kp : ∀ b o, s.heap.get? b = some o → h₁.get? b = some o := fun b o e => hsb.extBut b o (Nat.ne_of_lt (Heap.lt_size e)) (Heap.get?_push_of_some _ e)
  obtain ⟨a, vs', ta, t, hvs, ha, hta, ht, hq⟩ := hbody A outer s H vs Q E (hr.deeper _) hsp
  obtain ⟨cl, cld, csl, hcell⟩ := T.cell
  have hbc : base.get? cc = some ⟨cl, cld, .cell (some (.ref C)), csl⟩ := e0.mod.kin _ _ hcell
  have hlook : ∀ {y : Str} {c : Addr}, F.cl.lookup y = some c → y = "__class__" ∧ c = cc := fun {y c} e => by
    rw [hcl] at e
    by_cases hy : y = "__class__"
    · subst hy
      rw [show List.lookup ("__class__" : Str) [(("__class__" : Str), cc)] = some cc by simp [List.lookup]] at e
      exact ⟨rfl, (Option.some.inj e).symm⟩
    · have hb : (y == ("__class__" : Str)) = false := by simpa using hy
      rw [show List.lookup y [(("__class__" : Str), cc)] = none by simp [List.lookup, hb]] at e
      cases e
  have hlk : F.cl.lookup ("__class__" : Str) = some cc := by rw [hcl]; simp [List.lookup]
  have CA : CellsAt F.cl ["__class__"] [none] s.heap H := {
    len := rfl
    all := fun y c e => by
      obtain ⟨_, rfl⟩ := hlook e
      exact ⟨(e0.bs _ _ hbc).2, _, ⟨_, (e0.bs _ _ hbc).1, rfl⟩⟩
    inj := fun x y c e1 e2 => (hlook e1).1.trans (hlook e2).1.symm
    has := fun i y e => by
      match i, e with
      | 0, e =>
        have ey : ("__class__" : Str) = y := Option.some.inj e
        subst ey
        exact ⟨cc, hlk, fun v hv => by simp at hv⟩ }
  have I : Inv (ncx CX P w K mg base N F f A outer s H E) [] (startF N vs [none]) H { s with heap := h₁, toks := s.toks + (ps.zip us).length } := inv_startN S hr.hd e0 hl r CA hns kp
  have kI : K.In h₁ := KX.keeps kp
  have hN0 : N[0]? = some p := by
    have q := S.pre
    rw [hps] at q
    have z : (N.take ((p :: ps').length + 1))[0]? = some p := by
      have z := congrArg (fun l : List Str => l[0]?) q
      exact z
    rw [List.getElem?_take_of_lt (by simp)] at z
    exact z
  have hs0 : (startF N vs [none])[0]? = some (some (.ref a)) := by rw [hvs]; rfl
  have hploc : F.scope.names.lookup p = some .local := S.par p (by rw [hps]; exact List.mem_cons_self)
  obtain ⟨m, hnm, hlm⟩ := id I.loc
  obtain ⟨u0, ru0, hu0⟩ := hlm 0 p (.ref a) hN0 hs0 (.inl hploc)
  have eu0 : u0 = Value.ref a := ru0
  subst eu0
  have hself : m p = some (.ref a) := by
    rcases hu0 with ⟨_, z⟩ | ⟨z, _⟩
    · exact z
    · have z' : F.scope.names.lookup p = some .cell ∨ F.scope.names.lookup p = some .free := z
      rw [hploc] at z'
      rcases z' with z' | z' <;> cases z'
  obtain ⟨occ, cdd, cvs, csl2, file, tf, hcode, hvs2, hfile⟩ := T.code
  obtain ⟨cdD, hcdD⟩ := T.cd
  have hD : ∃ oD, h₁.get? C = some oD ∧ oD.data = .cls cdD := by
    have hD := hcdD
    unfold PySem.W.clsIn at hD
    split at hD
    · rename_i c d cd' sl ho
      cases hD
      exact ⟨_, kI _ _ ho, rfl⟩
    · cases hD
  obtain ⟨oD, hD1, hD2⟩ := hD
  obtain ⟨nm, q, N', bs, bm, sn, sub, ab, col, dd, k0, k1, k2, k3, k5, hC, hbm⟩ := T.T.cls
  obtain ⟨ar, har1, har2⟩ := hpar
  have hkc : F.scope.names.lookup ("__class__" : Str) = some .free := S.frk _ (by simp)
  obtain ⟨mb, hb1, hb2⟩ := I.mod.blt
  rw [hbd]
  obtain ⟨pl, he⟩ := hev s.heap.objs.size
  refine PySem.ks_wpAt_execs_cons (PySem.ks_wpAt_Expr_any (PySem.ks_wpAt_MethodCall (pl := pl) (PySem.ks_wpAt_super_base (fd := F.fd doc pm ctv) hsu hkc (by decide) rfl (kI _ _ lk) rfl har1 rfl (kI _ _ hcode) rfl hvs2 hfile T.top ?_) he) I.quiet (hsw _))
  -- the names
  refine PySem.W.ks_loadName_global S.kind hsu (Calls.loadGlobal_builtin (by exact I.mod.glob.keeps I.bk) T.zs (by exact hb1.keeps I.bk) ((hb2 _ (by decide)).trans (by decide +kernel)) ⟨rfl, ?_⟩)
  refine wpAny_loadName_free S.kind hkc hlk ⟨_, kI _ _ hcell, rfl⟩ ?_
  refine wpAny_loadName_local S.kind (by rw [har2]; exact hploc) hnm (by rw [har2]; exact hself) ?_
  refine PySem.ks_wpAny_isType_cls hD1 hD2 ⟨rfl, ?_⟩
  obtain ⟨t1, hox⟩ := exo_at I.hok ha
  refine PySem.ks_wpAny_call_super hD1 hD2 hox rfl (fun c e => by cases e) (PySem.W.looks_mroIn kI T.sub) (fun h' hso k' => ?_)
  have I2 : Inv (ncx CX P w K mg base N F f A outer s H E) [] (startF N vs [none]) H { s with heap := h', toks := s.toks + (ps.zip us).length } := I.kept (t' := s.toks + (ps.zip us).length) k'
  have kI2 : K.In h' := kI.keeps k'
  have hox2 : h'.get? a = some ({ cls := .ref C, dict := none, data := .fields #[.ref t1, .none, .none, .none, .bool false, .none] } : Obj) := k' _ _ hox
  have IA : PySem.W.InstAt h' a ({ cls := .ref C, dict := none, data := .fields #[.ref t1, .none, .none, .none, .bool false, .none] } : Obj) C none := ⟨hox2, rfl, rfl, trivial⟩
  have hal : PySem.W.alongIn K "__init__" ((cdD.mro.dropWhile (· != .ref C)).drop 1) = some (some (.builtin "ValueError.__init__")) := by
    have z := T.sup
    unfold PySem.W.ks_superIn at z
    rw [hcdD] at z
    exact z
  refine PySem.W.kxs_getMethod PySem.W.kxs_ValueError hso (PySem.W.looks_opaque kI2 T.any) (l₀ := cdD.mro) (fun A Q E s k q => wpAny_bind ((PySem.W.looks_clsIn kI2 hcdD) A _ E s k (wpAny_pure q))) rfl kI2 hal (IA.type.andThen (PySem.W.looks_subIn kI2 T.subV)) (PySem.W.ks_ne kI2 IA hcdD) (by decide) ?_
  -- the bound __init__ at u
  have ku : ∀ b o, h'.get? b = some o → (h'.push (PySem.W.kxs_mw "ValueError.__init__" a)).get? b = some o := fun b o e => Heap.get?_push_of_some _ e
  have I3 : Inv (ncx CX P w K mg base N F f A outer s H E) [] (startF N vs [none]) H { s with heap := h'.push (PySem.W.kxs_mw "ValueError.__init__" a), toks := s.toks + (ps.zip us).length + 1 } := I2.kept (t' := s.toks + (ps.zip us).length + 1) ku
  have hu : (h'.push (PySem.W.kxs_mw "ValueError.__init__" a)).get? h'.objs.size = some (PySem.W.kxs_mw "ValueError.__init__" a) := Heap.get?_push_at rfl rfl
  have I4 : Inv (ncx CX P w K mg base N F f A outer s H E) [(h'.objs.size, PySem.W.kxs_mw "ValueError.__init__" a)] (startF N vs [none]) H { s with heap := h'.push (PySem.W.kxs_mw "ValueError.__init__" a), toks := s.toks + (ps.zip us).length + 1 } := I3.pins_of fun p hp => by
    have hp1 := List.mem_singleton.mp hp
    subst hp1
    exact ⟨hu, I2.hok.fresh (Nat.le_refl _), fun z => absurd (z ▸ I2.lt) (Nat.lt_irrefl _), I2.nofs (Nat.le_refl _), fun v z => by cases z⟩
  refine callW (i := "ValueError.__init__") (x := a) (hst _) ?_
  refine thn (hta.run p3 _ _ _ H _ I4 hq) fun ws' s5 ⟨ws, H5, I5, r5, hlen, ha5, ht5⟩ => ?_
  have hu5 : s5.heap.get? h'.objs.size = some (PySem.W.kxs_mw "ValueError.__init__" a) := (I5.pin _ (List.mem_append_right _ (List.mem_singleton.mpr rfl))).1
  refine ⟨hu5, ?_⟩
  obtain ⟨t5, hox5⟩ := exo_at I5.hok ha5
  have hws : ws'.length ≤ sizeLine := by
    rw [← Paired.length r5, sizeLine_eq]
    omega
  have I6 : Inv (ncx CX P w K mg base N F f A outer s H E) [] (startF N vs [none]) H5 s5 := I5.pins_of fun p hp => absurd hp (by simp)
  obtain ⟨h5, g5, d5, k5', os5⟩ := s5
  have hC5 := I5.kIn _ _ hC
  show wpAny _ _ (call (.ref h'.objs.size) ws') _ _ _
  refine wpAny_call (codeAny_of_tree ?_)
  show wpAny _ _ (callAny (.ref h'.objs.size) ⟨ws', []⟩) _ _ _
  simp only [callAny]
  refine wpAny_bind (wpAny_load hu5 ?_)
  simp only [PySem.W.kxs_mw, show (Value.type "method-wrapper" == Value.type "method" || Value.type "method-wrapper" == Value.type "builtin_function_or_method" || Value.type "method-wrapper" == Value.type "method-wrapper") = true by decide, if_true]
  refine PySem.W.KFB.if_so (by decide) ?_
  refine wpAny_bind (PySem.W.check_bound_init PySem.F.excBase_ValueError.toExcCallFacts hC5 hox5 rfl ?_)
  refine wpAny_bind (wpAny_pure (wpAny_pure ?_))
  refine ⟨plainId_quiet PySem.F.excBase_ValueError.init.plain _, codeAny_builtin PySem.F.excBase_ValueError.initEntry ?_⟩
  refine PySem.W.exc_init_tree (cls := .ref C) (t0 := t5) (dv := none) (c2 := .none) (c3 := .none) (b4 := .bool false) hox5 hws (fun h6 k6 e6 _ => ?_)
  have J := I6.write (t' := k5') (x := a) (e := a) (o := exo a C none) (by rw [ha5]; exact True.intro) (.inl rfl) k6 ⟨_, e6⟩ (exo_ok e6)
  have eu : upd H5 a (exo a C none) = H5 := by
    funext b
    by_cases hb : b = a
    · rw [hb, upd_same, ha5]
    · rw [upd_ne hb]
  rw [eu] at J
  refine PySem.wpAt_of_wpAny (wpAny_mono (ht.run [] _ (startF N vs [none]) H5 _ J ht5) (fun fl s' hs => ?_) fun e s' hs => hs)
  have fin : ∀ {σ' : L2.St} {H' : Hp} {v : V} {u : Value}, Inv (ncx CX P w K mg base N F f A outer s H E) [] σ' H' s' → L2.RelV v u → Q v H' → CE outer P w H s Q u s' :=
    fun {σ' H' v u} J rv q => ⟨v, H', J.os, J.bare, J.base, J.hok, rv, q⟩
  cases fl with
  | ret u =>
    obtain ⟨v, σ', H', J, rv, q⟩ := hs
    exact fin J rv q
  | next =>
    obtain ⟨σ', H', J, q⟩ := hs
    exact fin (v := V.non) (u := Value.none) J rfl q
  | brk =>
    obtain ⟨_, _, _, q⟩ := hs
    exact False.elim q
  | cont =>
    obtain ⟨_, _, _, q⟩ := hs
    exact False.elim q
end
/-! ### an exception without fields, made -/
section
variable {X : Cx}
theorem mk_endN {pins : List (Addr × Obj)} {σ : L2.St} {H1 H2 : Hp} {Q : XK} {hp hp2 h2 : Heap} {g1 g2 : Array GenState} {d1 d2 : Drawn} {t1 t2 : Nat} {os1 os2 : OsState} {a C : Addr} (T : Raises X (.ref C)) (I1 : Inv X pins σ H1 ⟨hp, g1, d1, t1, os1⟩)
    (ha : hp.objs.size ≤ a) (k : ∀ b o, hp.get? b = some o → hp2.get? b = some o) (un : Un (frs X.stack) [] (upd H1 a (exo a C none)) H2 hp2 h2) (hok : HOk X.prog X.w H2 h2) (ho : os2 = os1) (hb : AllBare g2)
    (ea : H2 a = some (exo a C none)) (q : Q (.ref C) none (del H2 a)) : MkP X pins σ Q (.ref a) ⟨h2, g2, d2, t2, os2⟩ := by
  obtain ⟨t0, hoe⟩ := exo_at hok ea
  have hn : H1 a = none := I1.hok.fresh ha
  obtain ⟨G, g1', g2'⟩ := restrict h2 fun b => decide (b ≠ a)
  have gk : ∀ b, b ≠ a → G.get? b = h2.get? b := fun b hb => g1' b (decide_eq_true hb)
  have ge : G.get? a = none := g2' a (by simp)
  have nha : ∀ {b : Addr} {o : Obj}, hp.get? b = some o → b ≠ a := fun {b o} z => Nat.ne_of_lt (Nat.lt_of_lt_of_le (Heap.lt_size z) ha)
  have up : ∀ {b : Addr}, b ≠ a → H1 b = none → upd H1 a (exo a C none) b = none := fun {b} hb n => by rw [upd_ne hb]; exact n
  have U : Un (frs X.stack) [] H1 (del H2 a) hp G := {
    keep := fun b o z n hf hx => by
      rw [gk b (nha z)]
      exact un.keep b o (k b o z) (up (nha z) n) hf hx
    slot := fun b o z n hf hx => by
      rw [gk b (nha z)]
      exact un.slot b o (k b o z) (up (nha z) n) hf hx
    free := fun b o z n hx => by
      rw [del_ne (nha z)]
      exact un.free b o (k b o z) (up (nha z) n) hx
    there := fun b o z hx => by
      rw [gk b (nha z)]
      exact un.there b o (k b o z) hx
    tups := fun b xs z => by
      rw [del_ne (ne_of_none z hn)]
      exact un.tups b xs (by rw [upd_ne (ne_of_none z hn)]; exact z)
    frzs := fun b o v z => by
      rw [del_ne (ne_of_none z hn)]
      exact un.frzs b o v (by rw [upd_ne (ne_of_none z hn)]; exact z)
    tbls := fun b ps z => by
      rw [del_ne (ne_of_none z hn)]
      exact un.tbls b ps (by rw [upd_ne (ne_of_none z hn)]; exact z) }
  have hok3 : HOk X.prog X.w (del H2 a) G := fun b o z => by
    have hba : b ≠ a := fun e => by
      rw [e, del_same] at z
      cases z
    rw [del_ne hba] at z
    have noa : ∀ {c : Addr}, H2 c = some (.own b) → c ≠ a := fun {c} hc => at_ne ea hc exo_own
    exact (hok b o z).stay (fun c v hc y => by
        have hca : c ≠ a := by
          rcases hc with hc | hc
          · rw [hc]
            exact hba
          · exact noa hc
        rw [gk c hca]
        exact y)
      (fun c hc => by rw [del_ne (noa hc)]; exact hc) (fun c xs hc => by rw [del_ne (at_ne ea hc exo_tup)]; exact hc)
  have J : Inv X pins σ (del H2 a) ⟨G, g2, d2, t2, os2⟩ := I1.call' (ch := []) ho U hok3 hb (fun b z => absurd z (by simp))
  refine ⟨a, _, _, ⟨G, g2, d2, t2, os2⟩, _, .ref C, none, rfl, J, fun b o z => ?_, ge, hoe, ⟨rfl, rfl⟩, rfl, rfl, del_same, rfl, hb, T, q⟩
  by_cases hba : b = a
  · rw [hba, ge] at z
    cases z
  · exact (gk b hba).symm.trans z
/-- C(), C's own __init__ keeping sp and making no field -/
def tMkN (C : Addr) (sp : Sp) : L2.St → Hp → XK → Prop := fun _ H Q => ∀ a, H a = none → sp [.ref a] (upd H a (exo a C none)) (fun v H2 => v = .non ∧ H2 a = some (exo a C none) ∧ Q (.ref C) none (del H2 a)) (fun _ _ _ => False)
theorem pmk_oexN {CX : CXT} {x : Str} {C fI : Addr} {k : Nat} {fd : FuncData} {ps : List Str} {sp : Sp} {p pos : Pos} (T : OexC X.K C) (iC : PySem.W.findIn X.K (.ref C) "__init__" = some (some (.ref fI))) (tI : PySem.W.typeIn X.K (.ref fI) = some (.type "function"))
    (F1 : FnOk X.prog X.w X.K X.mg X.base CX k fI fd ps sp) (hr : Room (k + 1) X.A) (hb : Binds X.K fd ps []) (hx : Passes CX X (fun _ _ _ => False)) (hg : Gl X x) (hm : X.mg x = some (.ref C))
    (hdb : (x == ("__debug__" : Str)) = false := by decide) : PMk X (.Call (.Name x p) [] [] pos) (tMkN C sp) := by
  intro pins s σ H1 Q I1 q1
  obtain ⟨nm, q, N, bs, bm, sn, sub, ab, col, dd, k0, k1, k2, k3, k5, hC, hbm⟩ := T.cls
  refine wpAny_Call_Name_kw (ld_glob I1 hg hm ?_ hdb)
  refine PySem.W.callWith_K0 I1.kIn T.kC ?_
  show wpAny _ _ (call (.ref C) []) _ _ _
  obtain ⟨hp, g, dr, tk, os⟩ := s
  have hsz : hp.objs.size ≤ hp.objs.size + 1 := Nat.le_succ _
  have hn : H1 (hp.objs.size + 1) = none := I1.hok.fresh hsz
  have hq := q1 (hp.objs.size + 1) hn
  have kk : ∀ b o, hp.get? b = some o → ((hp.push (PySem.W.kdv_tup [])).push (PySem.HandSPX.excO C hp.objs.size)).get? b = some o := fun b o e => Heap.get?_push_of_some _ (Heap.get?_push_of_some _ e)
  have hget : ((hp.push (PySem.W.kdv_tup [])).push (PySem.HandSPX.excO C hp.objs.size)).get? (hp.objs.size + 1) = some (PySem.HandSPX.excO C hp.objs.size) := by heap_get
  have I2 : Inv X pins σ (upd H1 (hp.objs.size + 1) (exo (hp.objs.size + 1) C none)) ⟨(hp.push (PySem.W.kdv_tup [])).push (PySem.HandSPX.excO C hp.objs.size), g, dr, tk, os⟩ :=
    I1.laid (t' := tk) (a := hp.objs.size + 1) (o := exo (hp.objs.size + 1) C none) (h' := (hp.push (PySem.W.kdv_tup [])).push (PySem.HandSPX.excO C hp.objs.size)) kk hsz (exo_ok hget)
  have r2 : Vals [V.ref (hp.objs.size + 1)] [Value.ref (hp.objs.size + 1)] := .cons rfl .nil
  have hl : ([Value.ref (hp.objs.size + 1)] ++ []).length = ps.length := by
    have e := r2.length
    rw [F1.len _ _ _ _ hq] at e
    exact e.symm
  refine wpAny_call (PySem.HandSPX.call_own PySem.F.excBase_ValueError (fun Y => PySem.HandSPX.refsVE_contains Y bm hbm) (I1.kIn _ _ hC) (PySem.W.looks_findIn I1.kIn iC) (fun self => PySem.W.bind_fn I1.kIn self tI) (Nat.zero_le _)
    (codeAny_mono (F1.run _ X.stack _ _ ⟨[Value.ref (hp.objs.size + 1)], []⟩ [Value.ref (hp.objs.size + 1)] _ _ (fun _ _ _ => False) (hr.make C [] []) (I2.env0.make C [] []) (hb _ [Value.ref (hp.objs.size + 1)] I2.kIn hl) r2 hq) fun r s' hq' => ?_))
  cases r with
  | error er => exact hx pins σ _ _ er s' I2 hq'
  | ok fl =>
    cases fl with
    | ret u =>
      obtain ⟨v, H2, os2, bare2, un2, hok2, rv, ev, ea, q2⟩ := hq'
      subst ev
      obtain ⟨h2, g2, d2, t2, os'⟩ := s'
      exact ⟨rv, mk_endN (raises_own T.exC T.tyC) I1 hsz kk un2 hok2 os2 bare2 ea q2⟩
    | next => exact False.elim hq'
    | brk => exact False.elim hq'
    | cont => exact False.elim hq'
end
/-! ### a call of a local name that holds a def, which may raise -/
section
variable {X : Cx} {CX : CXT} {k i : Nat} {f : Addr} {fd : FuncData} {ps : List Str} {sp : Sp} {E : L2.St → XK} {x : Str} {p pos : Pos} {e : Expr} {es : List Expr} {t : TA}
def tCallLS (i : Nat) (f : Addr) (sp : Sp) (E : L2.St → XK) (t : TA) : TE := fun σ H Q => σ[i]? = some (some (.ref f)) ∧ t σ H fun vs H1 => sp vs H1 Q (E σ)
theorem pe_callLS (F : FnOk X.prog X.w X.K X.mg X.base CX k f fd ps sp) (hr : Room k X.A) (hN : X.N[i]? = some x) (hv : Vis X.env.scope x) (hk : PySem.W.keepIn X.K (.ref f) = true) (hb : Binds X.K fd ps []) (hx : ∀ σ, PassesAt CX X σ (E σ)) (ha : PA X (e :: es) t)
    (hdb : (x == ("__debug__" : Str)) = false := by decide) (hcd : (x == ("__classdict__" : Str)) = false := by decide)
    (he : starEach (e :: es) X.env = (false, eval e X.env) :: starEach es X.env := by rfl) (hpl : (backTo pos (starEach es X.env)).any (·.1) = false := by rfl) : PE X (.Call (.Name x p) (e :: es) [] pos) (tCallLS i f sp E t) := by
  refine ⟨fun pins s σ H Q I h => ?_⟩
  obtain ⟨hs, ht⟩ := h
  refine wpAny_Call_Name_kw (thn ((pe_var (pos := p) hN hv hdb hcd).run pins s σ H (fun v H1 => v = .ref f ∧ H1 = H) I ⟨.ref f, hs, rfl, rfl⟩) fun u s1 ⟨v, H1, I1, r1, q1⟩ => ?_)
  obtain ⟨rfl, rfl⟩ := q1
  cases r1
  refine PySem.W.callWith_K (h₀ := X.base) I.ok.mod.kin hk (thn (ha.run pos pins s1 σ _ _ I1 ht) fun us s2 ⟨vs, H2, I2, r, q⟩ => ⟨I2.kIn, ?_⟩) he hpl
  exact run_fnS F hr hb (hx σ) I2 r q
end
/-! ### isinstance of a caught error of an own class without fields -/
def rIsX (K : PySem.W.Frag) (a : Addr) (cls : Value) (d : Option Addr) : List V → Hp → VK → Prop := fun xs H Q => ∃ (D : Addr) (c : V) (cv : Value) (b : Bool), cls = .ref D ∧ d = none ∧ ExcC K D ∧ xs = [.ref a, c] ∧ (∀ u, L2.RelV c u → u = cv) ∧ PySem.W.kitOne K (.ref D) cv = some b ∧ Q (.bl b) H
theorem call_isX {X : Cx} {a : Addr} {oe : Obj} {cls : Value} {d : Option Addr} {pn : List (Addr × Obj)} (hz : Zc cls d oe) (hf : ∃ vs, oe.data = .fields vs) : CallR (X.suite a ((a, oe) :: pn)) (.builtin "isinstance") (rIsX X.K a cls d) := by
  intro pins s σ H xs us Q I r h
  obtain ⟨D, c, cv, b, rfl, rfl, C, rfl, hc, e, q⟩ := h
  exact call_isE C hz hf pins s σ H [.ref a, c] us Q I r ⟨c, cv, b, rfl, hc, e, q⟩
/-! ### what a law's text says of an own exception -/
/-- ExcT C f c cc: the class at C over SamphireError .. over ValueError, with its own __init__ at f -/
structure ExcT (P : Program) (K : PySem.W.Frag) (mg : Str → Option Value) (name : Str) (C f c cc : Addr) : Prop where
  S : SupC P K mg C f c cc
  g : mg name = some (.ref C)
  iC : PySem.W.findIn K (.ref C) "__init__" = some (some (.ref f))
  tI : PySem.W.typeIn K (.ref f) = some (.type "function")
  is : ExcC K C
  te : PySem.W.exmOne K (.ref C) (.ref C) = some true
theorem ExcT.xf {P : Program} {K : PySem.W.Frag} {mg : Str → Option Value} {name : Str} {C f c cc : Addr} (T : ExcT P K mg name C f c cc) : XfC K C := ⟨T.is.hg, T.is.hk, T.is.hs, T.is.hd⟩
/-- the file that a code object tells -/
def flIs (cvs : List Value) (f : Str) : Bool := match cvs with | _ :: _ :: .str file _ :: _ => f == file | _ => false
/-- what k_is finds, put together -/
theorem excT_mk {P : Program} {K : PySem.W.Frag} {mg : Str → Option Value} {name : Str} {C f c cc : Addr} {nm q : Str} {N : Addr} {bs bm : List Value} {sn : List Str} {sub : List Value} {ab : Bool} {col : Option Bool} {dd : Option Addr} {m0 m1 m2 m3 m5 : Option Value}
    {occ : Value} {cdd : Option Addr} {cvs : List Value} {csl : Array (Option Value)} {ccl : Value} {ccd : Option Addr} {ccs : Array (Option Value)}
    (xL : K.lookup C = some (excClassObj nm q C N bs bm true sn sub ab col dd m0 m1 m2 m3 m5 "ValueError.__new__")) (rv : PySem.HandSPX.refsVE bm = true)
    (sa : PySem.W.findIn K (.ref C) "__setattr__" = some (some (.builtin "object.__setattr__"))) (sB : PySem.W.subIn K (.ref C) (.type "BaseException") = some true) (tC : PySem.W.typeIn K (.ref C) = some (.type "type")) (kC : PySem.W.keepIn K (.ref C) = true)
    (code : K.lookup c = some ⟨occ, cdd, .fields cvs.toArray, csl⟩) (hfile : flIs cvs P.main.file = true)
    (cell : K.lookup cc = some ⟨ccl, ccd, .cell (some (.ref C)), ccs⟩) (mro : PySem.W.mroIn K C (.ref C) = some true) (sV : PySem.W.subIn K (.ref C) (.type "ValueError") = some true) (zs : mg "super" = none)
    (any : PySem.W.nsIn K PySem.cStatics "thirdparty.any" = some none) (sup : PySem.W.ks_superIn K C C "__init__" = some (some (.builtin "ValueError.__init__"))) (top : (P.main.scope.names.lookup ("super" : Str)).isSome = false)
    (g : mg name = some (.ref C)) (iC : PySem.W.findIn K (.ref C) "__init__" = some (some (.ref f))) (tI : PySem.W.typeIn K (.ref f) = some (.type "function")) (is : ExcC K C) (isc : PySem.W.isClsIn K C = true) (sC : PySem.W.subIn K (.ref C) (.ref C) = some true) : ExcT P K mg name C f c cc where
  S := {
    T := ⟨⟨nm, q, N, bs, bm, sn, sub, ab, col, dd, m0, m1, m2, m3, m5, xL, rv⟩, sa, sB, tC, kC⟩
    cd := ⟨_, by unfold PySem.W.clsIn; rw [xL] <;> rfl⟩
    code := by
      match cvs, code, hfile with
      | a :: b :: .str file tf :: r, code, hfile => exact ⟨_, _, _, _, file, tf, code, rfl, hfile⟩
    cell := ⟨_, _, _, cell⟩
    sub := mro
    subV := sV
    zs := zs
    any := any
    sup := sup
    top := top }
  g := g
  iC := iC
  tI := tI
  is := is
  te := PySem.W.exm_ref sB is.hd tC sC
end Sup

/-! ### list(reversed(a list)) -/
namespace RL
open PySem PySem.Spec PyProof.Rows RT L2
section
variable {prog : Program} {w : World} {A : Around} {E : Value → Shared → Prop} {s : Shared}
theorem extend_rev {R : Result → Shared → Prop} {S it l : Addr} {items : Array Value} {res : Value} {c₀ : Nat} (hh : A.handled = none) (hit : s.heap.IsRevIter it l ((items.size : Int) - 1)) (hl : s.heap.IsList l items) (hne : l ≠ it) (hSi : S ≠ it) (hSl : S ≠ l) (hn : items.size ≤ sizeLine)
    (hS : s.heap.get? S = some { cls := .type "list", data := .seq #[] c₀ })
    (hR : ∀ s' acc' c', Moved (S :: [it]) (fun a b => b = a) s s' → s'.heap.get? S = some { cls := .type "list", dict := none, data := .seq acc' c', slots := #[] } → ItemsOf (fun i v => items[items.size - 1 - i]? = some v) acc' items.size → R (.ok (.ret res)) s') :
    wpAny (model prog w) A.in1 (Builtin.List.listExtendWith (.ref S) (.ref it) res)
      (fun fin s' => match fin with | .done f => R (.ok f) s' | .again c' => c'.quiet = true ∧ codeAny (model prog w) A c' R s') (fun e s' => R (.error e) s') s := by
  have W := (Walks.listRev (prog := prog) (w := w) (A := A.in1) hh it l hne items).toS
  have hSf : S ∉ [it, l] := by simp only [List.mem_cons, List.not_mem_nil, or_false, not_or]; exact ⟨hSi, hSl⟩
  have hT : s.TypeIs (.ref it) "list_reverseiterator" := Heap.IsRevIter.typeIs hit
  have h1 : Builtin.List.listSameRef (.ref S) (.ref it) = false := by simp [Builtin.List.listSameRef, hSi]
  unfold Builtin.List.listExtendWith
  refine wpAny_bind (wpAny_typeOf hT ?_)
  rw [if_neg (by rw [h1]; decide)]
  refine wpAny_bind (wpAny_pyIter_revIter hit ?_)
  refine wpAny_bind (wpAny_holding ?_)
  unfold Builtin.List.listLengthHint
  refine wpAny_bind (wpAny_specialOf hT nolen_lri ?_)
  show wpAny _ A.in1 (specialOf (Value.ref it) (Str.ofString "__length_hint__") >>= _) _ _ _
  refine wpAny_bind (wpAny_specialOf hT hint_lri ?_)
  generalize hid : ("list_reverseiterator.__length_hint__" : String) = id0
  wp_delta
  rw [show splitId id0 = some ("list_reverseiterator", "__length_hint__") from by subst hid; decide +kernel]
  subst hid
  refine wpAny_bind (wpAny_isInstance (b := true) hT (by rw [isSubtype_type]; kernel_rfl) ?_)
  refine wpAny_pure ?_
  rw [if_neg (by decide)]
  have e0 : ((items.size : Nat) : Int) - 1 - ((0 : Nat) : Int) = (items.size : Int) - 1 := by omega
  refine wpAny_pure ⟨plainId_quiet F.plain_extend_loop _, codeAny_extend_loopS W hn _ hSf _ items.size 0 _ _ _ rfl (Nat.zero_le _) ⟨Nat.zero_le _, by rw [e0]; exact hit, hl⟩ hS (ItemsOf.nil _) fun s' acc' c' hm hS' hacc => ?_⟩
  exact hR s' acc' c' hm hS' hacc
theorem init_rev {R : Result → Shared → Prop} {S it l : Addr} {items : Array Value} (hh : A.handled = none) (hit : s.heap.IsRevIter it l ((items.size : Int) - 1)) (hl : s.heap.IsList l items) (hne : l ≠ it) (hSi : S ≠ it) (hSl : S ≠ l) (hn : items.size ≤ sizeLine)
    (hS : s.heap.get? S = some { cls := .type "list", data := .seq #[] })
    (hR : ∀ (h' : Heap) (tk : Nat) (acc : Array Value) (c' : Nat), (∀ b o, b ≠ S → b ≠ it → s.heap.get? b = some o → h'.get? b = some o) → h'.get? S = some { cls := .type "list", dict := none, data := .seq acc c', slots := #[] } → ItemsOf (fun i v => items[items.size - 1 - i]? = some v) acc items.size → R (.ok (.ret .none)) { s with heap := h', toks := tk }) :
    wpAny (model prog w) A.in1 (Builtin.«list.__init__» ⟨[.ref S, .ref it], []⟩)
      (fun fin s' => match fin with | .done f => R (.ok f) s' | .again c' => c'.quiet = true ∧ codeAny (model prog w) A c' R s') (fun e s' => R (.error e) s') s := by
  show wpAny _ A.in1 (do let old ← Builtin.List.listItems (.ref S); Builtin.List.listUpdate (.ref S) (fun _ => #[]); letGo old.toList.reverse; Builtin.List.listExtendWith (.ref S) (.ref it) .none) _ _ s
  refine wpAny_bind ?_
  unfold Builtin.List.listItems
  refine wpAny_bind (wpAny_seqItems hS rfl (wpAny_pure ?_))
  show wpAny _ A.in1 (updateSeq S (fun _ => #[]) >>= fun _ => letGo (#[] : Array Value).toList.reverse >>= fun _ => Builtin.List.listExtendWith (.ref S) (.ref it) .none) _ _ s
  refine wpAny_bind (wpAny_updateSeq hS rfl ?_)
  have hS₂ := Heap.get?_update_self (Obj.mapSeq (fun _ => (#[] : Array Value))) hS rfl
  have oth : ∀ b o, b ≠ S → s.heap.get? b = some o → (s.heap.update S (Obj.mapSeq (fun _ => (#[] : Array Value)))).get? b = some o :=
    fun b o hb e => (Heap.get?_update_other _ _ (Ne.symm hb)).trans e
  refine wpAny_bind (wpAny_letGo ?_)
  refine extend_rev (s := { s with heap := s.heap.update S (Obj.mapSeq (fun _ => (#[] : Array Value))) }) hh (hit.at fun o e => oth it o hSi.symm e) (by obtain ⟨o, ho, x⟩ := hl; exact ⟨o, oth l o hSl.symm ho, x⟩) hne hSi hSl hn hS₂ fun s' acc' c' hm hS' hacc => ?_
  rw [Moved.eq_with hm]
  exact hR s'.heap s'.toks acc' c' (fun b o hb hb2 e => hm.heap b o (by simp [hb, hb2]) (oth b o hb e)) hS' hacc
theorem call_list_rev {it l : Addr} {items : Array Value} {Q : Value → Shared → Prop} (hh : A.handled = none) (hit : s.heap.IsRevIter it l ((items.size : Int) - 1)) (hl : s.heap.IsList l items) (hne : l ≠ it) (hn : items.size ≤ sizeLine)
    (hQ : ∀ (h' : Heap) (tk : Nat) (acc : Array Value) (c' : Nat), (∀ b o, b ≠ it → s.heap.get? b = some o → h'.get? b = some o) → h'.get? s.heap.objs.size = some { cls := .type "list", dict := none, data := .seq acc c', slots := #[] } → ItemsOf (fun i v => items[items.size - 1 - i]? = some v) acc items.size → Q (.ref s.heap.objs.size) { s with heap := h', toks := tk }) :
    wpAny (model prog w) A (call (.type "list") [.ref it]) Q E s := by
  refine callType_codes (Q₁ := fun obj s₁ => obj = .ref s.heap.objs.size ∧ s₁ = { s with heap := s.heap.push { cls := .type "list", data := .seq #[] } }) F.called_list (F.typeCall_list_1 _) F.entry_list_init
    (code_list_new _ ⟨rfl, rfl⟩) fun obj s₁ h₁ => ?_
  obtain ⟨rfl, rfl⟩ := h₁
  have hS : (s.heap.push { cls := .type "list", data := .seq #[] }).get? s.heap.objs.size = some { cls := .type "list", data := .seq #[] } := Heap.get?_push_size _ rfl
  obtain ⟨oi, hoi, _⟩ := id hit
  obtain ⟨ol, hol, _⟩ := id hl
  refine ⟨⟨_, hS, rfl⟩, F.args_list_init_2 _ _, init_rev (A := A.in1) (s := { s with heap := s.heap.push { cls := .type "list", data := .seq #[] } }) hh (hit.at fun o e => Heap.get?_push_of_some _ e) (hl.push _) hne (Nat.ne_of_gt (Heap.lt_size hoi)) (Nat.ne_of_gt (Heap.lt_size hol)) hn hS fun h' tk acc c' hk hS' hacc => ?_⟩
  exact ⟨rfl, hQ h' tk acc c' (fun b o hb e => hk b o (Nat.ne_of_lt (Heap.lt_size e)) hb (Heap.get?_push_of_some _ e)) hS' hacc⟩
end
section
variable {X : Cx}
/-- list(reversed(xs)): a new list -/
def tListRev (K : PySem.W.Frag) (te : TE) : TE := fun σ H Q => te σ H fun x H1 => ∃ a xs, x = .ref a ∧ SqL K H1 a xs ∧ ∀ p, H1 p = none → Q (.ref p) (upd H1 p (.lst xs.reverse))
theorem pe_listRev {e : Expr} {te : TE} {p p2 pos pos2 : Pos} (hc : X.calm = true) (hg : Gl X "list") (hm : X.mg "list" = none) (hg2 : Gl X "reversed") (hm2 : X.mg "reversed" = none) (he : PE X e te)
    (hs : starEach [e] X.env = (false, eval e X.env) :: starEach [] X.env := by rfl)
    (hs2 : starEach [.Call (.Name "reversed" p2) [e] [] pos2] X.env = (false, eval (.Call (.Name "reversed" p2) [e] [] pos2) X.env) :: starEach [] X.env := by rfl) :
    PE X (.Call (.Name "list" p) [.Call (.Name "reversed" p2) [e] [] pos2] [] pos) (tListRev X.K te) := by
  refine ⟨fun pins s σ H Q I h => ?_⟩
  refine Call_ (ld_blt I hg hm boot_list (PyProof.Rows.callWith_type1 (args_cons (Call_ (ld_blt I hg2 hm2 PyProof.Rows.boot_reversed (PyProof.Rows.callWith_type1 (args_cons (thn (he.run pins s σ H _ I h) fun u s1 ⟨v, H1, I1, r1, q1⟩ => args_nil ?_) hs) hs rfl))) hs2) hs2 rfl))
  obtain ⟨a, xs, ev, hq, q⟩ := q1
  subst ev
  obtain rfl : u = Value.ref a := r1
  obtain ⟨its, rv, p', hz⟩ := I1.list hq
  refine call_reversed_list p'.isList (args_nil ?_)
  have k0 : ∀ b o, s1.heap.get? b = some o → (s1.heap.push (revObj a ((its.toArray.size : Int) - 1))).get? b = some o := fun b o e => Heap.get?_push_of_some _ e
  have hl := p'.isList
  obtain ⟨ol, hol, _⟩ := id hl
  have hne : a ≠ s1.heap.objs.size := Nat.ne_of_lt (Heap.lt_size hol)
  have hn : its.toArray.size ≤ sizeLine := by rw [List.size_toArray, ← rv.length]; exact hz
  refine call_list_rev (s := { s1 with heap := s1.heap.push (revObj a ((its.toArray.size : Int) - 1)) }) (I1.ok.hd hc) ⟨_, Heap.get?_push_size _ rfl, rfl, rfl⟩ (hl.push _) hne hn fun h' tk acc c' hk hS' hi => ?_
  have hle : s1.heap.objs.size ≤ (s1.heap.push (revObj a ((its.toArray.size : Int) - 1))).objs.size := by simp [Heap.push]
  have ea : acc.toList.toArray = acc := by simp
  exact ⟨.ref (s1.heap.push (revObj a ((its.toArray.size : Int) - 1))).objs.size, upd H1 (s1.heap.push (revObj a ((its.toArray.size : Int) - 1))).objs.size (.lst xs.reverse), I1.laid (t' := tk) (fun c o e => hk c o (Nat.ne_of_lt (Heap.lt_size e)) (k0 c o e)) hle (show ObjOk X.prog X.w _ _ _ (.lst xs.reverse) from ⟨by rw [List.length_reverse]; exact hz, acc.toList, c', vals_rev rv hi, by rw [ea]; exact hS'⟩), rfl, q _ (I1.hok.fresh hle)⟩
end
end RL
/-! ### xs.extend(a tuple) -/
namespace RL
open PySem PySem.Spec PyProof.Rows RT L2
theorem meets_extend_tup (l : Addr) (items : Array Value) (n : Nat) (b : Addr) (items2 : Array Value) (n2 : Nat) (o : Obj) (hc : o.cls = .type "tuple") (hd : o.data = .seq items2 n2) (hs1 : items.size + items2.size ≤ sizeLine) :
    Meets (Builtin.«list.extend» ⟨[.ref l, .ref b], []⟩) (fun _ R s => s.heap.get? l = some { cls := .type "list", dict := none, data := .seq items n, slots := #[] } ∧ s.heap.get? b = some o ∧ R (.ok (.ret Value.none)) { s with heap := s.heap.update l (Obj.mapSeq fun x => x ++ items2), toks := s.toks }) :=
  .of_wp fun prog w A R s h => by
    obtain ⟨hl, hb, h⟩ := h
    show wpAny _ _ (Builtin.List.listExtendWith (.ref l) (.ref b) .none) _ _ _
    unfold Builtin.List.listExtendWith
    refine wpAny_bind (wpAny_typeOf ⟨o, hb, hc⟩ ?_)
    have h1 : (Builtin.List.listSameRef (.ref l) (.ref b) || Value.type "tuple" == Value.type "list" || Value.type "tuple" == Value.type "tuple") = true := by simp
    simp only [h1, if_true]
    refine wpAny_bind ?_
    unfold Builtin.List.listItems
    refine wpAny_bind (wpAny_seqItems hb hd (wpAny_pure ?_))
    refine wpAny_bind ?_
    refine wpAny_bind (wpAny_seqItems hl rfl (wpAny_pure ?_))
    have hlong : ¬ (!items.isEmpty && Builtin.List.listTooLong (items.size + items2.size)) = true := by
      rw [notLongL hs1, Bool.and_false]
      exact Bool.false_ne_true
    rw [if_neg hlong]
    show wpAny _ _ (updateSeq l (· ++ items2) >>= fun _ => ret .none) _ _ s
    refine wpAny_bind (wpAny_updateSeq hl rfl (hz := by omega) (_hz' := by rw [Array.size_append]; omega) ?_)
    exact wpAny_pure ⟨_, rfl, h⟩
section
variable {X : Cx}
def rExtT : V → List V → Hp → VK → Prop := fun x vs H Q => ∃ l b xs zs, x = .ref l ∧ vs = [.ref b] ∧ H l = some (.lst xs) ∧ H b = some (.tup zs) ∧ xs.length + zs.length ≤ sizeLine ∧ Q .non (upd H l (.lst (xs ++ zs)))
theorem mt_extendT : MtM X "list.extend" rExtT := by
  intro pins s σ H x vs v us Q I rx rv h
  obtain ⟨l, b, xs, zs, rfl, rfl, hH, hB, hz, q⟩ := h
  cases rx
  obtain ⟨u, rfl, ru⟩ := rv.one
  cases ru
  obtain ⟨z, its, n, r, hl, e⟩ := I.lstM hH
  obtain ⟨its2, r2, ⟨o, ho, hc, n2, hd⟩, hz2⟩ := I.tuple (SqT.of hB)
  have hl2 := r2.length
  refine call_meets PySem.F.slot_list_extend ⟨_, e, rfl⟩ PySem.F.entry_list_extend (PySem.F.args_list_extend_2 _ _)
    (meets_extend_tup l its.toArray n b its2.toArray n2 o hc hd (by rw [List.size_toArray, List.size_toArray]; omega)) ⟨e, ho, ?_⟩
  refine ⟨.non, _, I.lset (its' := its ++ its2) hH e (by simp) (r.append r2) ?_, rfl, q⟩
  rw [List.length_append]
  omega
end
end RL
/-! ### enumerate(a list, start=k) -/
namespace RL
open PySem PySem.Spec PyProof.Rows L2
section
variable {M : Model} {A : Around} {E : Value → Shared → Prop} {s : Shared} {env : Env}
theorem callWith_type_kwB {pos : Pos} {T : String} {first : List Value} {args : List (Bool × Sem Value)} {keywords : List (Option Str × Sem Value)} {Q : Value → Shared → Prop}
    (hplain : args.any (·.1) = false) (hkw : keywords.any (·.1.isNone) = false)
    (h : wpAny M A (evalArgs (.type T) true args keywords) (fun a s₁ => wpAny M A (call (.type T) (first ++ a.pos) a.kw) Q E s₁) E s) :
    wpAny M A (callWith pos (.type T) first args keywords) Q E s := by
  unfold callWith
  refine wpAny_bind (wpAny_holding (wpAny_mono h (fun a s₁ h₁ => wpAny_bind (wpAny_standAt ?_)) fun _ _ x => x))
  simp only [hplain, hkw, Bool.or_false]
  refine wpAny_bind (wpAny_pure ?_)
  exact wpAny_bind (wpAny_mono h₁ (fun r s₂ hr => wpAny_bind (wpAny_holding (wpAny_point (wpAny_pure hr)))) fun _ _ x => x)
theorem callWith_type_kw {pos : Pos} {T : String} {e : Expr} {rest : List Expr} {kws : List Keyword} {Q : Value → Shared → Prop}
    (h : wpAny M A (spliced (backTo pos (starEach (e :: rest) env))) (fun vs s₁ => wpAny M A (evalAll ((backToKw pos (keywordEach kws env)).map (·.2)))
      (fun kvs s₂ => wpAny M A (call (.type T) vs (((backToKw pos (keywordEach kws env)).filterMap (·.1)).zip kvs)) Q E s₂) E s₁) E s)
    (he : backTo pos (starEach (e :: rest) env) = (false, eval e env) :: backTo pos (starEach rest env))
    (hplain : (backTo pos (starEach (e :: rest) env)).any (·.1) = false)
    (hall : (backToKw pos (keywordEach kws env)).all (·.1.isSome) = true)
    (hkw : (backToKw pos (keywordEach kws env)).any (·.1.isNone) = false) :
    wpAny M A (callWith pos (.type T) [] (backTo pos (starEach (e :: rest) env)) (backToKw pos (keywordEach kws env))) Q E s := by
  refine callWith_type_kwB hplain hkw ?_
  rw [he] at h ⊢
  exact evalArgs_kwB hall h
end
/-- the list at a as it stands at each turn, each item in a new pair, counted from k -/
def IteS (K : PySem.W.Frag) (a : Addr) (k : Int) : It :=
  ⟨fun i H => ∃ (xs : List V) (x : V), SqL K H a xs ∧ xs[i]? = some x, fun i H v H' => ∃ T x, v = .ref T ∧ H T = none ∧ H' = upd H T (.tup [.int (k + (i : Nat)), x]) ∧ ∀ xs, SqL K H a xs → xs[i]? = some x, fun i H => ∃ xs : List V, SqL K H a xs ∧ xs.length = i⟩
theorem turn_enumS {P : Program} {w : World} {K : PySem.W.Frag} {elts : List Expr} {kk : Nat} {tpos : Pos} (a e it : Addr) (k : Int) :
    Turn P w K (.Tuple elts kk tpos) (IteS K a k) [e, it] e (fun i h => (∃ old, IsEnum h e it (k + ((i : Nat) : Int)) old) ∧ h.IsListIter it a i ∧ e ≠ it ∧ e ≠ a ∧ a ≠ it) where
  mem := by simp
  obj := fun i h st b hb => by
    obtain ⟨⟨old, he⟩, ⟨o, ho, hc, hd⟩, _⟩ := st
    have e' : b = e ∨ b = it := by simpa using hb
    rcases e' with z | z
    · rw [z]; exact ⟨_, he, fun v q => nomatch q⟩
    · rw [z]; exact ⟨o, ho, fun v q => by rw [hd] at q; cases q⟩
  keep := fun i h h' st k => let ⟨⟨old, he⟩, hi, hne⟩ := st; ⟨⟨old, k e (by simp) _ he⟩, hi.at fun o q => k it (by simp) o q, hne⟩
  item := by
    intro X hP hw hK hc i pins s σ H E I hf st hg
    subst hP hw hK
    obtain ⟨⟨old, he⟩, hit, hne, hea, hai⟩ := st
    obtain ⟨xs, x, hq, hx⟩ := hg
    obtain ⟨its, rv, p, hz⟩ := I.list hq
    obtain ⟨u, hu, ru⟩ := rv.get hx
    have hel : e < s.heap.objs.size := Heap.lt_size he
    have hil : it < s.heap.objs.size := by obtain ⟨_, q, _⟩ := hit; exact Heap.lt_size q
    have D := Draws.list (prog := X.prog) (w := X.w) (A := X.A.in1) (I.ok.hd hc) it a hai its.toArray
    have hlt : i < its.toArray.size := by
      have := (List.getElem?_eq_some_iff.mp hu).1
      simpa using this
    refine wpAny_pyNext_enum_itemC D he ⟨hit, p.isList⟩ hlt hne (by simp [hne, hea]) fun u' h' tk hu' ho hst' hT hsz hk => ?_
    have euu : u' = u := by
      have z : its.toArray[i]? = some u := by simpa using hu
      rw [z] at hu'
      exact (Option.some.inj hu').symm
    subst euu
    refine ⟨_, rfl, wpAny_letOwnedTupleGo_enum (s := { s with heap := h', toks := tk + 1 }) ho fun h'' he' sb => ?_⟩
    have hT2 : h''.get? s.heap.objs.size = some { cls := .type "tuple", data := .seq #[.int (k + (i : Nat)) tk, u'] } := (sb.2 _ (Nat.ne_of_gt hel)).trans hT
    have new : ObjOk X.prog X.w (upd H s.heap.objs.size (.tup [.int (k + (i : Nat)), x])) h'' s.heap.objs.size (.tup [.int (k + (i : Nat)), x]) :=
      ⟨by show 2 ≤ sizeLine; decide, [.int (k + (i : Nat)) tk, u'], .cons ⟨_, rfl⟩ (.cons ru .nil), ⟨_, hT2, rfl, _, rfl⟩⟩
    have I1 : Inv X pins σ (upd H s.heap.objs.size (.tup [.int (k + (i : Nat)), x])) { s with heap := h'', toks := tk + 1 } :=
      I.turnedNew (ch := [e, it]) (fun b ob hb q => (sb.2 b (fun z => hb (by simp [z]))).trans (hk b ob (fun z => hb (by simp [z])) (fun z => hb (by simp [z])) q)) hf (Nat.le_refl _) new
    refine ⟨.ref s.heap.objs.size, _, I1, rfl, ⟨_, x, rfl, I.hok.fresh (Nat.le_refl _), rfl, fun ys hy => by rw [I.list_inj hy hq]; exact hx⟩, ⟨⟨u', ?_⟩, hst'.1.at fun o q => (sb.2 it (Ne.symm hne)).trans q, hne, hea, hai⟩, fun b hb => ?_⟩
    · have e1 : k + ((i + 1 : Nat) : Int) = k + (i : Int) + 1 := by omega
      rw [e1]; exact he'
    · have hb' : b < s.heap.objs.size := by
        have e' : b = e ∨ b = it := by simpa using hb
        rcases e' with z | z
        · rw [z]; exact hel
        · rw [z]; exact hil
      rw [upd_ne (Nat.ne_of_lt hb')]
      exact (hf b hb).1
  done := by
    intro X hP hw hK hc i pins s σ H E I hf st hg
    subst hP hw hK
    obtain ⟨⟨old, he⟩, hit, hne, hea, hai⟩ := st
    obtain ⟨xs, hq, hx⟩ := hg
    obtain ⟨its, rv, p, hz⟩ := I.list hq
    obtain ⟨f0, f1, f2, f3, f4, f5⟩ := hf it (by simp)
    have hl := rv.length
    have D := Draws.list (prog := X.prog) (w := X.w) (A := X.A.in1) (I.ok.hd hc) it a hai its.toArray
    have en : i = its.toArray.size := by rw [List.size_toArray]; omega
    subst en
    exact wpAny_pyNext_enum_endD D he ⟨hit, p.isList⟩ fun h' eb => ⟨rfl, I.turned (t' := s.toks) (fun b o hb q => eb b o hb q) f0 f1 f3 f4 f5⟩
  self := fun A i s Q E st h => let ⟨⟨_, he⟩, _⟩ := st; wpAny_pyIter_enum he h
def iEnumS (K : PySem.W.Frag) (ta : TA) (tk : TA) : TI := fun σ H R => ta σ H fun vs H1 => tk σ H1 fun zs H2 => ∃ a xs k, vs = [.ref a] ∧ zs = [.int k] ∧ -(2 ^ 63) ≤ k ∧ k < 2 ^ 63 ∧ SqL K H2 a xs ∧ R (IteS K a k) H2
theorem pi_enumS {X : Cx} {e e2 : Expr} {ta tk : TA} {p pos tpos kp : Pos} {elts : List Expr} {kk : Nat} (hg : Gl X "enumerate") (hm : X.mg "enumerate" = none) (ha : PA X [e] ta) (hkw : PK X [⟨some ("start" : Str), e2, kp⟩] tk)
    (he : backTo pos (starEach [e] X.env) = (false, eval e X.env) :: backTo pos (starEach [] X.env) := by rfl) (hpl : (backTo pos (starEach [e] X.env)).any (·.1) = false := by rfl)
    (hall : (backToKw pos (keywordEach [⟨some ("start" : Str), e2, kp⟩] X.env)).all (·.1.isSome) = true := by rfl) (hnone : (backToKw pos (keywordEach [⟨some ("start" : Str), e2, kp⟩] X.env)).any (·.1.isNone) = false := by rfl)
    (hks : (backToKw pos (keywordEach [⟨some ("start" : Str), e2, kp⟩] X.env)).filterMap (·.1) = [("start" : Str)] := by rfl) :
    PI X (.Tuple elts kk tpos) (.Call (.Name "enumerate" p) [e] [⟨some ("start" : Str), e2, kp⟩] pos) (iEnumS X.K ta tk) := by
  refine ⟨fun pins s σ H R I h => ?_⟩
  refine wpAny_Call_Name_kw (ld_blt I hg hm boot_enumerate (callWith_type_kw (thn (ha.run pos pins s σ H _ I h) fun us s0 ⟨vs, H0, I0, r0, q0⟩ => thn (hkw.run pos pins s0 σ H0 _ I0 q0) fun ws s1 ⟨zs, H1, I1, r2, q1⟩ => ?_) he hpl hall hnone))
  rw [hks]
  obtain ⟨a, xs, k, ex, ez, hk0, hk1, hq, q⟩ := q1
  subst ex ez
  cases r0 with
  | cons r rr =>
    cases rr
    cases r
    cases r2 with
    | cons r3 rr3 =>
      cases rr3
      obtain ⟨t, rfl⟩ := r3
      obtain ⟨its, rv, p', hz⟩ := I1.list hq
      have hal : a < s1.heap.objs.size := by obtain ⟨_, z, _⟩ := p'.isList; exact Heap.lt_size z
      refine enum_begins_start (begins_list a its.toArray) p'.isList hk0 hk1 fun h' he' hit hsz hk => wpAny_pyIter_enum he' ?_
      have I2 : Inv X pins σ H1 { s1 with heap := h' } := I1.kept (t' := s1.toks) hk
      refine ⟨s1.heap.objs.size + 1, [s1.heap.objs.size + 1, s1.heap.objs.size], _, _, H1, rfl, I2, turn_enumS a (s1.heap.objs.size + 1) s1.heap.objs.size k, ⟨⟨.none, ?_⟩, ⟨_, hit, rfl, ?_⟩, Nat.succ_ne_self _, Nat.ne_of_gt (Nat.lt_succ_of_lt hal), Nat.ne_of_lt hal⟩, fun b hb => ?_, q⟩
      · rw [show k + ((0 : Nat) : Int) = k by omega]
        exact he'
      · rfl
      · have e' : b = s1.heap.objs.size + 1 ∨ b = s1.heap.objs.size := by simpa using hb
        have hle : s1.heap.objs.size ≤ b := by
          rcases e' with z | z
          · rw [z]; exact Nat.le_add_right _ _
          · rw [z]; exact Nat.le_refl _
        exact I1.fpOk hle (I1.hok.fresh hle)
end RL
/-! ### a text times an int -/
namespace RL
open PySem PySem.Spec PyProof.Rows L2
def repS (z : Str) (k : Nat) : Str := ⟨(List.replicate k z.cps).foldl (· ++ ·) #[]⟩
theorem foldl_size : ∀ (l : List (Array Nat)) (a : Array Nat), (l.foldl (· ++ ·) a).toList = a.toList ++ (l.map Array.toList).flatten
  | [], a => by simp
  | x :: r, a => by
    rw [List.foldl_cons, foldl_size r (a ++ x), Array.toList_append, List.map_cons, List.flatten_cons, List.append_assoc]
theorem repS_tl (z : Str) (k : Nat) : TL.tl (repS z k) = (List.replicate k z.cps.toList).flatten := by
  show ((List.replicate k z.cps).foldl (· ++ ·) #[]).toList = _
  rw [foldl_size, List.map_replicate]
  rfl
theorem repS_len (z : Str) (k : Nat) : (repS z k).length = k * z.length := by
  show (repS z k).cps.size = _
  rw [← Array.length_toList]
  have h := repS_tl z k
  unfold TL.tl at h
  rw [h]
  simp [List.length_flatten]
  rfl
def rMulS : R2 := fun x y H Q => ∃ (z : Str) (k : Nat), x = .str z ∧ y = .int (k : Int) ∧ 2 ≤ k ∧ k ≤ 100000 ∧ 1 ≤ z.length ∧ z.length ≤ 100 ∧ Q (.str (repS z k)) H
theorem op_mulS {X : Cx} : OpR X (binaryOp .Mult) rMulS := by
  intro pins s σ H x y v u Q I rx ry h
  obtain ⟨z, k, rfl, rfl, hk, hk2, hz, hz2, q⟩ := h
  obtain ⟨t, rfl⟩ := rx
  obtain ⟨t', rfl⟩ := ry
  have hle : z.length * k ≤ 10000000 := by
    have h1 : z.length * k ≤ 100 * k := Nat.mul_le_mul_right k hz2
    omega
  have hno : ((((k : Nat) : Int) == 1) || z.length == 0) = false := by
    have h1 : (((k : Nat) : Int) == 1) = false := by
      apply beq_false_of_ne
      omega
    have h2 : (z.length == 0) = false := by
      apply beq_false_of_ne
      omega
    rw [h1, h2]; rfl
  refine PySem.P.mul_str ?_ ?_ ?_ ?_
  · have h1 : ¬ (k : Int) < -(2 ^ 63 : Int) := by omega
    have h2 : ¬ (k : Int) ≥ 2 ^ 63 := by omega
    rw [decide_eq_false h1, decide_eq_false h2]; rfl
  · intro _ _
    have h3 : (1000 : Int) ≤ (2 ^ 63 - 1) / (k : Int) := by
      rw [Int.le_ediv_iff_mul_le (by omega)]
      omega
    omega
  · intro _ _
    rw [Int.toNat_natCast]
    have hs : 10000000 ≤ sizeLine := by decide
    unfold Builtin.Str.tooLong
    exact decide_eq_false (by omega)
  · rw [if_neg (by omega), if_neg (by rw [hno]; decide)]
    rw [Int.toNat_natCast]
    have hl := repS_len z k
    have hs : 10000000 ≤ sizeLine := by decide
    have hc : k * z.length = z.length * k := Nat.mul_comm _ _
    refine ⟨?_, ⟨.str (repS z k), H, I.tok _, ⟨_, rfl⟩, q⟩⟩
    show (repS z k).length ≤ sizeLine
    omega
end RL

/-! ### Z: single steps of readings, for walking by with_reducible refine -/
namespace Z
open PySem L2
/-- all but what stands at M is as it was -/
def Kp (M : List Addr) (H H' : Hp) : Prop := ∀ b o, b ∉ M → H b = some o → H' b = some o
theorem Kp.refl {M : List Addr} (H : Hp) : Kp M H H := fun _ _ _ h => h
theorem Kp.trans {M : List Addr} {H H1 H2 : Hp} (a : Kp M H H1) (b : Kp M H1 H2) : Kp M H H2 := fun c o n h => b c o n (a c o n h)
theorem Kp.new {M : List Addr} {H : Hp} {p : Addr} {o : HO} (h : H p = none) : Kp M H (upd H p o) := fun b u _ e => by
  rw [upd_ne (ne_of_none e h)]
  exact e
theorem Kp.put {M : List Addr} {H : Hp} {p : Addr} {o : HO} (h : p ∈ M) : Kp M H (upd H p o) := fun b u n e => by
  rw [upd_ne (fun q => n (by rw [q]; exact h))]
  exact e
theorem Kp.sub {M M' : List Addr} {H H' : Hp} (a : Kp M H H') (h : ∀ x, x ∈ M → x ∈ M') : Kp M' H H' := fun b o n e => a b o (fun z => n (h b z)) e
theorem Kp.same {H H' : Hp} (a : Kp [] H H') : Same H H' := fun b o e => a b o (by simp) e
theorem Kp.of_same {M : List Addr} {H H' : Hp} (a : Same H H') : Kp M H H' := fun b o _ e => a b o e
theorem Kp.none {M : List Addr} {H H' : Hp} (a : Kp M H H') {p : Addr} (n : p ∉ M) (h : H' p = Option.none) : H p = Option.none := by
  cases q : H p with
  | none => rfl
  | some o =>
    rw [a p o n q] at h
    cases h
/-- what was not there may be forgotten from M -/
theorem Kp.drop {M : List Addr} {H H' : Hp} {p : Addr} (a : Kp (p :: M) H H') (h : H p = Option.none) : Kp M H H' := fun b o n e => a b o (by
  intro z
  rcases List.mem_cons.mp z with z | z
  · rw [z, h] at e
    cases e
  · exact n z) e
theorem Kp.get {M : List Addr} {H H' : Hp} (a : Kp M H H') {b : Addr} {o : HO} (n : b ∉ M) (e : H b = some o) : H' b = some o := a b o n e
theorem Kp.seq {M : List Addr} {K : PySem.W.Frag} {H H' : Hp} (e : Kp M H H') {a : Addr} {xs : List V} (n : a ∉ M) (h : SqL K H a xs) : SqL K H' a xs := by
  rcases h with (h | ⟨o, h⟩) | h
  · exact .inl (.inl (e _ _ n h))
  · exact .inl (.inr ⟨o, e _ _ n h⟩)
  · exact .inr h
theorem Kp.tup {M : List Addr} {K : PySem.W.Frag} {H H' : Hp} (e : Kp M H H') {a : Addr} {xs : List V} (n : a ∉ M) (h : SqT K H a xs) : SqT K H' a xs := by
  rcases h with (h | ⟨o, h⟩) | h
  · exact .inl (.inl (e _ _ n h))
  · exact .inl (.inr ⟨o, e _ _ n h⟩)
  · exact .inr h
/-- what H0 does not know may change -/
theorem Kp.mut {M : List Addr} {H0 H H' : Hp} {l : Addr} {o : HO} (a : Kp M H0 H) (h : H0 l = Option.none) (e : H' = upd H l o) : Kp M H0 H' := fun b u n z => by
  rw [e, upd_ne (ne_of_none z h)]
  exact a b u n z
theorem Kp.then1 {M : List Addr} {H0 H H' : Hp} {l : Addr} (a : Kp M H0 H) (b : Kp [l] H H') (h : H0 l = Option.none) : Kp M H0 H' := fun c o n e => b c o (by
  intro z
  rw [List.mem_singleton.mp z, h] at e
  cases e) (a c o n e)
/-- a new instance and its dict -/
theorem Kp.made {M : List Addr} {H : Hp} {x dx : Addr} {o u : HO} (nx : H x = Option.none) (nd : H dx = Option.none) : Kp M H (upd (upd H dx u) x o) := fun c o n e => by
  rw [upd_ne (ne_of_none e nx), upd_ne (ne_of_none e nd)]
  exact e
theorem none2 {H : Hp} {x dx l : Addr} {o u : HO} (h : upd (upd H dx u) x o l = Option.none) : H l = Option.none := by
  unfold upd at h
  split at h
  · cases h
  · split at h
    · cases h
    · exact h
theorem nin1 {a b : Addr} (h : b ≠ a) : b ∉ [a] := by simpa using h
theorem nin0 {b : Addr} : b ∉ ([] : List Addr) := by simp
theorem lstL {K : PySem.W.Frag} {H : Hp} {a : Addr} {xs : List V} (h : H a = some (.lst xs)) : SqL K H a xs := .inl (.inl h)
theorem tupT {K : PySem.W.Frag} {H : Hp} {a : Addr} {xs : List V} (h : H a = some (.tup xs)) : SqT K H a xs := .inl (.inl h)

theorem cxK {CX : CXT} {P : Program} {w : World} {K : PySem.W.Frag} {mg : Str → Option Value} {base : Heap} {N : List Str} {qual : Str} {scope : Scope} {f : Addr} {cd : Value} {A : Around} {outer : List Env} {s : Shared} {H : Hp} {E : XK} : (cxOf CX P w K mg base N qual scope f cd A outer s H E).K = K := rfl
/-! named readings of rules -/
def rLenN (K : PySem.W.Frag) : List V → Hp → VK → Prop := fun xs H Q => ∃ p ys, xs = [.ref p] ∧ (SqL K H p ys ∨ SqT K H p ys) ∧ Q (.int ys.length) H
theorem c_len {X : Cx} : CallR X (.builtin "len") (rLenN X.K) := call_len_seq
def rListN (K : PySem.W.Frag) : List V → Hp → VK → Prop := fun xs H Q => ∃ p ys, xs = [.ref p] ∧ (SqL K H p ys ∨ SqT K H p ys) ∧ ∀ l, H l = none → Q (.ref l) (upd H l (.lst ys))
theorem c_list {X : Cx} : CallR X (.type "list") (rListN X.K) := call_list_of
def rTupN (K : PySem.W.Frag) : List V → Hp → VK → Prop := fun xs H Q => ∃ p ys, xs = [.ref p] ∧ ((SqL K H p ys ∧ ∀ l, H l = none → Q (.ref l) (upd H l (.tup ys))) ∨ (SqT K H p ys ∧ Q (.ref p) H))
theorem c_tuple {X : Cx} : CallR X (.type "tuple") (rTupN X.K) := call_tuple_of
def rInt1 : List V → Hp → VK → Prop := fun xs H Q => (∃ i, xs = [.int i] ∧ Q (.int i) H) ∨ ∃ k, xs = [.bl k] ∧ Q (.int (if k then 1 else 0)) H
theorem c_int {X : Cx} : CallR X (.type "int") rInt1 := call_int1
def rAbs : List V → Hp → VK → Prop := fun xs H Q => ∃ i, xs = [.int i] ∧ Q (.int (if i < 0 then -i else i)) H
theorem c_abs {X : Cx} : CallR X (.builtin "abs") rAbs := call_abs
def rIsN : R2 := fun x y H Q => y = .non ∧ Q (.bl (decide (x = .non))) H
theorem o_isN {X : Cx} : OpR X (compareOp .Is) rIsN := op_isN
def rNotN : R2 := fun x y H Q => y = .non ∧ Q (.bl (!decide (x = .non))) H
theorem o_notN {X : Cx} : OpR X (compareOp .IsNot) rNotN := op_notN
def rAddS : R2 := fun x y H Q => ∃ i j, x = .str i ∧ y = .str j ∧ i.length + j.length ≤ sizeLine ∧ Q (.str (i ++ j)) H
theorem o_addS {X : Cx} : OpR X (binaryOp .Add) rAddS := op_add_str
def rInSg : R2 := fun x y H Q => ∃ (c : Nat) (z : Str), x = .str ⟨#[c]⟩ ∧ y = .str z ∧ Q (.bl (decide (c ∈ z.cps.toList))) H
theorem o_inSg {X : Cx} : OpR X (compareOp .In) rInSg := op_in_sign
def rNinSg : R2 := fun x y H Q => ∃ (c : Nat) (z : Str), x = .str ⟨#[c]⟩ ∧ y = .str z ∧ Q (.bl (!decide (c ∈ z.cps.toList))) H
theorem o_ninSg {X : Cx} : OpR X (compareOp .NotIn) rNinSg := op_notIn_sign
/-- // by a divisor of any sign -/
def CDivA (_ j : Int) : Prop := j ≠ 0 ∧ j.natAbs.log2 < 9000
theorem op_fdivA {X : Cx} : OpR X (binaryOp .FloorDiv) (rI CDivA fun i j => .int (i.fdiv j)) := opI fun i j _ _ _ _ _ hc q => PyProof.Rows.floordiv_int hc.1 q (.inl (PyProof.noPylong_of_log2 hc.2))
theorem divA {i j : Int} {b : Nat} (h : j ≠ 0) (hb : j.natAbs < 2 ^ b) (h0 : 0 < b) (h9 : b ≤ 9000) : CDivA i j := ⟨h, Nat.lt_of_lt_of_le (PySem.Flt.log2_lt_of h0 hb) h9⟩
def rLenS : List V → Hp → VK → Prop := fun xs H Q => ∃ x : Str, xs = [.str x] ∧ x.cps.size ≤ 10000000 ∧ Q (.int (x.cps.size : Nat)) H
theorem c_lens {X : Cx} : CallR X (.builtin "len") rLenS := fun pins s σ H xs us Q I r h => call_len pins s σ H xs us Q I r (by obtain ⟨x, rfl, hz, q⟩ := h; exact ⟨.str x, _, rfl, ⟨Nat.le_trans hz (by decide), rfl⟩, q⟩)
def rPopQ : V → List V → Hp → VK → Prop := rPop
section
variable {σ : St} {H : Hp} {Q : VK} {v x y : V} {ta tb tc te : TE} {tA : TT} {D : Ends} {t u ts : TS} {r : R2} {K : PySem.W.Frag} {i : Nat} {A B : Prop}
/-! values -/
theorem var (h : σ[i]? = some (some v)) (q : Q v H) : tVar i σ H Q := ⟨v, h, q⟩
theorem cst (q : Q v H) : tC v σ H Q := q
theorem op (h : ta σ H fun x H1 => tb σ H1 fun y H2 => r x y H2 Q) : tOp r ta tb σ H Q := h
theorem un {r : V → Hp → VK → Prop} (h : ta σ H fun x H1 => r x H1 Q) : tUn r ta σ H Q := h
theorem i0 {g : Int → Int → V} {a b : Int} (q : Q (g a b) H) : rI0 g (.int a) (.int b) H Q := ⟨a, b, rfl, rfl, q⟩
theorem iC {C : Int → Int → Prop} {g : Int → Int → V} {a b : Int} (c : C a b) (q : Q (g a b) H) : rI C g (.int a) (.int b) H Q := ⟨a, b, rfl, rfl, c, q⟩
theorem iU {g : Int → V} {a : Int} (q : Q (g a) H) : rU g (.int a) H Q := ⟨a, rfl, q⟩
theorem eqII {a b : Int} (q : Q (.bl (decide (a = b))) H) : rEq (.int a) (.int b) H Q := ⟨rfl, by
  have e : decide (V.int a = V.int b) = decide (a = b) := by simp
  rw [e]; exact q⟩
theorem neII {a b : Int} (q : Q (.bl (!decide (a = b))) H) : rNe (.int a) (.int b) H Q := ⟨rfl, by
  have e : decide (V.int a = V.int b) = decide (a = b) := by simp
  rw [e]; exact q⟩
theorem eqSS {a b : Str} (q : Q (.bl (decide (a = b))) H) : rEq (.str a) (.str b) H Q := ⟨rfl, by
  have e : decide (V.str a = V.str b) = decide (a = b) := by simp
  rw [e]; exact q⟩
theorem neSS {a b : Str} (q : Q (.bl (!decide (a = b))) H) : rNe (.str a) (.str b) H Q := ⟨rfl, by
  have e : decide (V.str a = V.str b) = decide (a = b) := by simp
  rw [e]; exact q⟩
theorem eqBB {a b : Bool} (q : Q (.bl (decide (a = b))) H) : rEq (.bl a) (.bl b) H Q := ⟨rfl, by
  have e : decide (V.bl a = V.bl b) = decide (a = b) := by simp
  rw [e]; exact q⟩
theorem neBB {a b : Bool} (q : Q (.bl (!decide (a = b))) H) : rNe (.bl a) (.bl b) H Q := ⟨rfl, by
  have e : decide (V.bl a = V.bl b) = decide (a = b) := by simp
  rw [e]; exact q⟩
theorem bl {b : Bool} {q : Bool → Hp → Prop} (h : q b H) : ∃ k, V.bl b = .bl k ∧ q k H := ⟨b, rfl, h⟩
theorem bl' {b : Bool} {q : Bool → Prop} (h : q b) : ∃ k, V.bl b = .bl k ∧ q k := ⟨b, rfl, h⟩
theorem test {Q : Bool → Hp → Prop} (h : te σ H fun x H' => ∃ k, x = .bl k ∧ Q k H') : tTest te σ H Q := h
theorem tbb {Q : Bool → Hp → Prop} (h : te σ H fun x H' => ∃ k, x = .bl k ∧ Q k H') : tB te σ H Q := h
theorem tand {a b : TT} {Q : Bool → Hp → Prop} (h : a σ H fun c H1 => if c = true then b σ H1 Q else Q false H1) : tAnd a b σ H Q := h
theorem tor {a b : TT} {Q : Bool → Hp → Prop} (h : a σ H fun c H1 => if c = true then Q true H1 else b σ H1 Q) : tOr a b σ H Q := h
theorem tnot {a : TT} {Q : Bool → Hp → Prop} (h : a σ H fun c H1 => Q (!c) H1) : tNot a σ H Q := h
theorem tyes {Q : Bool → Hp → Prop} (h : Q true H) : tYes σ H Q := h
theorem andV (h : ta σ H fun x H1 => ∃ c, x = .bl c ∧ if c = true then tb σ H1 Q else Q (.bl false) H1) : tAndV ta tb σ H Q := h
theorem orV (h : ta σ H fun x H1 => ∃ c, x = .bl c ∧ if c = true then Q (.bl true) H1 else tb σ H1 Q) : tOrV ta tb σ H Q := h
theorem notV (h : ta σ H fun x H1 => ∃ c, x = .bl c ∧ Q (.bl (!c)) H1) : tNotV ta σ H Q := h
theorem ifE (h : tA σ H fun c H1 => if c = true then ta σ H1 Q else tb σ H1 Q) : L2.tIf tA ta tb σ H Q := h
theorem chain {r r' : R2} (h : ta σ H fun x H1 => tb σ H1 fun y H2 => r x y H2 fun z H3 => ∃ k, z = .bl k ∧ (if k = true then tc σ H3 fun w' H4 => r' y w' H4 Q else Q (.bl false) H3)) : tChain r r' ta tb tc σ H Q := h
/-! branches -/
theorem ite {p : Prop} [Decidable p] (h1 : p → A) (h2 : ¬p → B) : if decide p = true then A else B := by
  by_cases h : p
  · rw [decide_eq_true h, if_pos rfl]; exact h1 h
  · rw [decide_eq_false h, if_neg Bool.false_ne_true]; exact h2 h
theorem iteN {p : Prop} [Decidable p] (h1 : ¬p → A) (h2 : p → B) : if (!decide p) = true then A else B := by
  by_cases h : p
  · rw [decide_eq_true h]; exact h2 h
  · rw [decide_eq_false h]; exact h1 h
theorem iteB {b : Bool} (h1 : b = true → A) (h2 : b = false → B) : if b = true then A else B := by
  cases b with
  | true => exact h1 rfl
  | false => exact h2 rfl
theorem yes {p : Prop} [Decidable p] (h : p) (q : A) : if decide p = true then A else B := by rw [decide_eq_true h, if_pos rfl]; exact q
theorem no {p : Prop} [Decidable p] (h : ¬p) (q : B) : if decide p = true then A else B := by rw [decide_eq_false h, if_neg Bool.false_ne_true]; exact q
theorem yesN {p : Prop} [Decidable p] (h : ¬p) (q : A) : if (!decide p) = true then A else B := by rw [decide_eq_false h]; exact q
theorem noN {p : Prop} [Decidable p] (h : p) (q : B) : if (!decide p) = true then A else B := by rw [decide_eq_true h]; exact q
theorem yesB (q : A) : if true = true then A else B := q
theorem noNB (q : B) : if (!true) = true then A else B := q
theorem yesNB (q : A) : if (!false) = true then A else B := q
theorem noB (q : B) : if false = true then A else B := q
/-! calls -/
theorem nil {Q : List V → Hp → Prop} (q : Q [] H) : tNil σ H Q := q
theorem cons {Q : List V → Hp → Prop} {tr : TA} (h : ta σ H fun x H1 => tr σ H1 fun xs H2 => Q (x :: xs) H2) : tCons ta tr σ H Q := h
theorem cb {r : List V → Hp → VK → Prop} {a : TA} (h : a σ H fun vs H1 => r vs H1 Q) : tCB r a σ H Q := h
theorem call {sp : Sp} {dvs : List V} {E : XK} {a : TA} (h : a σ H fun vs H1 => sp (vs ++ dvs) H1 Q E) : tCall sp dvs E a σ H Q := h
theorem meth {C : Addr} {m : Str} {sp : Sp} {dvs : List V} {E : XK} {a : TA} (h : ta σ H fun x H1 => ∃ p dx fs, x = .ref p ∧ H1 p = some (.ins C dx fs) ∧ fs.lookup m = none ∧ a σ H1 fun vs H2 => sp (x :: (vs ++ dvs)) H2 Q E) : tMeth C m sp dvs E ta a σ H Q := h
theorem fld {f : Str} (h : ta σ H fun x H1 => ∃ a C dx fs v, x = .ref a ∧ H1 a = some (.ins C dx fs) ∧ Cls K C ∧ NoAttr K C f ∧ fs.lookup f = some v ∧ Q v H1) : tFld K ta f σ H Q := h
theorem int1 {a : Int} (q : Q (.int a) H) : rInt1 [.int a] H Q := .inl ⟨a, rfl, q⟩
theorem intb {b : Bool} (q : Q (.int (if b then 1 else 0)) H) : rInt1 [.bl b] H Q := .inr ⟨b, rfl, q⟩
theorem abs1 {a : Int} (q : Q (.int (if a < 0 then -a else a)) H) : rAbs [.int a] H Q := ⟨a, rfl, q⟩
theorem isN (q : Q (.bl (decide (x = .non))) H) : rIsN x .non H Q := ⟨rfl, q⟩
theorem notN (q : Q (.bl (!decide (x = .non))) H) : rNotN x .non H Q := ⟨rfl, q⟩
theorem addS {a b : Str} (h : a.length + b.length ≤ sizeLine) (q : Q (.str (a ++ b)) H) : rAddS (.str a) (.str b) H Q := ⟨a, b, rfl, rfl, h, q⟩
theorem inSg {c : Nat} {z : Str} (q : Q (.bl (decide (c ∈ z.cps.toList))) H) : rInSg (.str ⟨#[c]⟩) (.str z) H Q := ⟨c, z, rfl, rfl, q⟩
theorem ninSg {c : Nat} {z : Str} (q : Q (.bl (!decide (c ∈ z.cps.toList))) H) : rNinSg (.str ⟨#[c]⟩) (.str z) H Q := ⟨c, z, rfl, rfl, q⟩
/-- a new object -/
theorem new {o : HO} (h : ∀ p, H p = none → Q (.ref p) (upd H p o)) : ∀ p, H p = none → Q (.ref p) (upd H p o) := h
def TupN (Q : VK) (xs : List V) (H1 : Hp) : Prop := xs.length ≤ sizeLine ∧ ∀ p, H1 p = none → Q (.ref p) (upd H1 p (.tup xs))
def LstN (Q : VK) (xs : List V) (H1 : Hp) : Prop := xs.length ≤ sizeLine ∧ ∀ p, H1 p = none → Q (.ref p) (upd H1 p (.lst xs))
theorem tup {a : TA} (h : a σ H (TupN Q)) : tTup a σ H Q := h
theorem lst {a : TA} (h : a σ H (LstN Q)) : tLst a σ H Q := h
/-- a new object, the heap behind it a letter -/
theorem mk {o : HO} {H0 : Hp} {R : Addr → Hp → Prop} (h : ∀ p H1, H0 p = none → Kp [] H0 H1 → H1 p = some o → R p H1) : ∀ p, H0 p = none → R p (upd H0 p o) := fun p n => h p _ n (Kp.new n) upd_same
theorem tupK {xs : List V} (q : ∀ p H1, H p = none → Kp [] H H1 → H1 p = some (.tup xs) → Q (.ref p) H1) (h : xs.length ≤ 100000 := by simp) : TupN Q xs H := ⟨Nat.le_trans h (by decide), mk q⟩
theorem lstK {xs : List V} (q : ∀ p H1, H p = none → Kp [] H H1 → H1 p = some (.lst xs) → Q (.ref p) H1) (h : xs.length ≤ 100000 := by simp) : LstN Q xs H := ⟨Nat.le_trans h (by decide), mk q⟩
theorem sz {n m : Nat} (h : n ≤ m) (hm : m ≤ 10000000 := by decide) : n ≤ sizeLine := Nat.le_trans h (Nat.le_trans hm (by decide))
theorem szl {n m : Nat} (h : n ≤ m) (hm : m ≤ 10000000 := by decide) : n < sizeLine := Nat.lt_of_le_of_lt (Nat.le_trans h hm) (by decide)
/-! subscripts -/
theorem ixL {p : Addr} {xs : List V} {j : Int} (h : SqL K H p xs) (e : atI xs j = some v) (q : Q v H) : rIxL K (.ref p) (.int j) H Q := ⟨p, xs, j, v, rfl, rfl, h, e, q⟩
theorem ixT {p : Addr} {xs : List V} {j : Int} (h : SqT K H p xs) (e : atI xs j = some v) (q : Q v H) : rIxT K (.ref p) (.int j) H Q := ⟨p, xs, j, v, rfl, rfl, h, e, q⟩
theorem setL {p : Addr} {xs : List V} {k : Int} {j : Nat} {v : V} {q : Hp → Prop} (h : H p = some (.lst xs)) (e : ixN xs.length k = some j) (hq : q (upd H p (.lst (xs.set j v)))) : rSetL (.ref p) (.int k) v H q := ⟨p, xs, k, j, rfl, rfl, h, e, hq⟩
theorem gsub {to ti : TE} {t : TSet} {Q : St → Hp → Prop} (h : to σ H fun o H1 => ti σ H1 fun i H2 => t o i v H2 fun H3 => Q σ H3) : gSub to ti t v σ H Q := h
/-! statements -/
/-- a statement whose ways join ahead of the rest -/
def tSeqJ (t u : TS) : TS := tSeq t u
theorem pss_consJ {X : Cx} {st : Stmt} {rest : List Stmt} {t u : TS} (h1 : PS X st t) (h2 : PSs X rest u) : PSs X (st :: rest) (tSeqJ t u) := pss_cons h1 h2
theorem seqJ (J : St → Hp → Prop) (h2 : ∀ σ H, J σ H → u D σ H) (h1 : ∀ N : St → Hp → Prop, (∀ σ H, J σ H → N σ H) → t { D with nx := N } σ H) : tSeqJ t u D σ H := h1 (u D) h2
theorem seqJ' (h : tSeq t u D σ H) : tSeqJ t u D σ H := h
theorem seq (h : t { D with nx := u D } σ H) : tSeq t u D σ H := h
theorem asg {g : TG} (h : te σ H fun x H1 => g x σ H1 D.nx) : tAsg te g D σ H := h
theorem gname {Q : St → Hp → Prop} {σ' : St} (e : σ.set i (some v) = σ') (h : Q σ' H) : gName i v σ H Q := by
  subst e; exact h
def ParK (i j : Nat) (D : Ends) (σ : St) (vs : List V) (H1 : Hp) : Prop := ∃ v w, vs = [v, w] ∧ D.nx ((σ.set i (some v)).set j (some w)) H1
theorem par {i j : Nat} {a : TA} (h : a σ H (ParK i j D σ)) : tPar i j a D σ H := h
theorem par2 {i j : Nat} {v w : V} {σ' : St} (e : (σ.set i (some v)).set j (some w) = σ') (h : D.nx σ' H) : ParK i j D σ [v, w] H := ⟨v, w, rfl, by rw [e]; exact h⟩
theorem aug {ti : TIp} {x : V} (e : σ[i]? = some (some x)) (h : te σ H fun y H1 => ti x y H1 fun z H2 => D.nx (σ.set i (some z)) H2) : tAug i te ti D σ H := ⟨x, e, h⟩
theorem ipI' {f : Int → Int → Int} {a b : Int} (q : Q (.int (f a b)) H) : ipI f (.int a) (.int b) H Q := ⟨a, b, rfl, rfl, q⟩
theorem ifs {c : TT} (h : c σ H fun b H1 => if b = true then t D σ H1 else u D σ H1) : tIfS c t u D σ H := h
theorem ret (h : te σ H D.rt) : tRet te D σ H := h
theorem retN (h : D.rt .non H) : tRetN D σ H := h
theorem next (h : D.nx σ H) : tNext D σ H := h
theorem brk (h : D.bk σ H) : tBreak D σ H := h
theorem drop (h : te σ H fun _ H1 => D.nx σ H1) : tDrop te D σ H := h
theorem bm {T : String} {r : V → List V → Hp → VK → Prop} {to : TE} {a : TA} (h : to σ H fun x H1 => tyV K T x H1 ∧ a σ H1 fun xs H2 => r x xs H2 Q) : tBM K T r to a σ H Q := h
theorem bm0 {T : String} {r : V → List V → Hp → VK → Prop} {to : TE} (h : to σ H fun x H1 => tyV K T x H1 ∧ r x [] H1 Q) : tBM0 K T r to σ H Q := h
theorem app {l : Addr} {xs : List V} {y : V} (h : H l = some (.lst xs)) (z : xs.length < sizeLine) (q : Q .non (upd H l (.lst (xs ++ [y])))) : rAppend (.ref l) [y] H Q := ⟨l, xs, y, rfl, rfl, h, z, q⟩
theorem tyL {p : Addr} {xs : List V} (h : H p = some (.lst xs)) : tyV K "list" (.ref p) H := .inl ⟨rfl, _, SqL.of h⟩
theorem sfld {tv : TE} {f : Str} (h : tv σ H fun y H1 => ta σ H1 fun x H2 => ∃ a C dx fs, x = .ref a ∧ H2 a = some (.ins C dx fs) ∧ Cls K C ∧ NoAttr K C f ∧ fs.length < 1000 ∧ D.nx σ (upd H2 a (.ins C dx (putF f y fs)))) : sFld K ta tv f D σ H := h
theorem sfldaug {tv : TE} {rd : V → V → Hp → VK → Prop} {f : Str} (h : ta σ H fun x H1 => ∃ a C dx fs v, x = .ref a ∧ H1 a = some (.ins C dx fs) ∧ Cls K C ∧ NoAttr K C f ∧ fs.lookup f = some v ∧ tv σ H1 fun y H2 => rd v y H2 fun z H3 => ∃ dx' fs', H3 a = some (.ins C dx' fs') ∧ fs'.length < 1000 ∧ D.nx σ (upd H3 a (.ins C dx' (putF f z fs')))) : sFldAug K ta tv rd f D σ H := h
theorem radd {a b : Int} (q : Q (.int (a + b)) H) : rAdd (.int a) (.int b) H Q := ⟨a, b, rfl, rfl, q⟩
theorem make {C : Addr} {sp : Sp} {dvs : List V} {E : XK} {a : TA} (h : a σ H fun vs H1 => ∀ x dx, H1 x = none → H1 dx = none → dx ≠ x → sp (.ref x :: (vs ++ dvs)) (upd (upd H1 dx (.own x)) x (.ins C dx [])) (fun v H2 => v = .non ∧ Q (.ref x) H2) E) : tMake C sp dvs E a σ H Q := h
/-- while -/
def WhB (W : Nat → St → Hp → Prop) (m : Nat) (tb : TS) (D : Ends) (σ : St) (H1 : Hp) : Prop := ∃ N : St → Hp → Prop, (∀ σ' H', N σ' H' → ∃ m', m' < m ∧ W m' σ' H') ∧ tb { D with nx := N, ct := N, bk := D.nx } σ H1
theorem whb {W : Nat → St → Hp → Prop} {m : Nat} {tb : TS} (h : tb { D with nx := fun σ' H' => ∃ m', m' < m ∧ W m' σ' H', ct := fun σ' H' => ∃ m', m' < m ∧ W m' σ' H', bk := D.nx } σ H) : WhB W m tb D σ H := ⟨_, fun _ _ z => z, h⟩
theorem wh {c : TT} {tb : TS} (W : Nat → St → Hp → Prop) (m : Nat) (h0 : W m σ H) (hs : ∀ m σ H, W m σ H → c σ H fun b H1 => if b = true then WhB W m tb D σ H1 else D.nx σ H1) : tWhile c tb D σ H := ⟨W, ⟨m, h0⟩, hs⟩
/-- calls by values -/
theorem sumL {a : Addr} {ns : List Int} (h : SqL K H a (ns.map V.int)) (q : Q (.int ns.sum) H) : rSum K [.ref a] H Q := ⟨a, ns, rfl, h, q⟩
theorem gcd {a b : Int} (q : Q (.int ((Nat.gcd a.natAbs b.natAbs : Nat) : Int)) H) : rGcd [.int a, .int b] H Q := ⟨a, b, rfl, q⟩
theorem mkN {C : Addr} {sp : Sp} {Q : XK} (h : ∀ a, H a = none → sp [.ref a] (upd H a (exo a C none)) (fun v H2 => v = .non ∧ H2 a = some (exo a C none) ∧ Q (.ref C) none (del H2 a)) (fun _ _ _ => False)) : Sup.tMkN C sp σ H Q := h
theorem gtup {n : Nat} {t : TGs} {a : Addr} {xs : List V} {Q : St → Hp → Prop} (h : SqT K H a xs) (e : xs.length = n) (q : t xs σ H Q) : gTup K n t (.ref a) σ H Q := ⟨a, xs, rfl, h, e, q⟩
theorem gcons {t : TG} {u : TGs} {v : V} {r : List V} {Q : St → Hp → Prop} (q : t v σ H fun σ' H' => u r σ' H' Q) : gCons t u (v :: r) σ H Q := ⟨v, r, rfl, q⟩
theorem gnil {Q : St → Hp → Prop} (q : Q σ H) : gNil [] σ H Q := ⟨rfl, q⟩
theorem lenL {a : Addr} {xs : List V} (h : SqL K H a xs) (q : Q (.int xs.length) H) : rLenN K [.ref a] H Q := ⟨a, xs, rfl, .inl h, q⟩
theorem lenT {a : Addr} {xs : List V} (h : SqT K H a xs) (q : Q (.int xs.length) H) : rLenN K [.ref a] H Q := ⟨a, xs, rfl, .inr h, q⟩
theorem listL {a : Addr} {xs : List V} (h : SqL K H a xs) (q : ∀ p H1, H p = none → Kp [] H H1 → H1 p = some (.lst xs) → Q (.ref p) H1) : rListN K [.ref a] H Q := ⟨a, xs, rfl, .inl h, mk q⟩
theorem isi {A B : String} {x : V} {b : Bool} (ht : TyX K H x (.type A)) (hk : kitB A B = some b) (q : Q (.bl b) H) : rIsi K [x, .ty B] H Q := ⟨x, _, _, _, b, rfl, .ty _, ht, kit_ty hk, q⟩
theorem isiI {B : String} {a : Int} {b : Bool} (hk : kitB "int" B = some b) (q : Q (.bl b) H) : rIsi K [.int a, .ty B] H Q := isi (.base (.int _)) hk q
theorem atM {ns : List Int} {j : Nat} {x : Int} (h : ns[j]? = some x) : atI (ns.map V.int) (j : Int) = some (.int x) := atI_nat (by rw [List.getElem?_map, h]; rfl)
theorem ixN_nat {n j : Nat} (hj : j < n) : ixN n (j : Int) = some j := by
  unfold ixN
  rw [if_pos (by omega), if_pos (by omega)]
  simp
/-- a comprehension, a loop over range(n), over a list -/
def ForK (g : TG) (tb : TS) (D : Ends) (σ : St) (J : It) (H1 : Hp) : Prop := ∃ W : Nat → Nat → St → Hp → Prop, (∃ m, W 0 m σ H1) ∧ ∀ i m σ H, W i m σ H →
  (J.stop i H ∧ D.nx σ H) ∨ (J.go i H ∧ ∃ N : St → Hp → Prop, (∀ σ' H', N σ' H' → ∃ m', m' < m ∧ W (i + 1) m' σ' H') ∧ ∀ x H', J.yld i H x H' → g x σ H' fun σ2 H2 => tb { D with nx := N, ct := N, bk := D.nx } σ2 H2)
def LcK (g : TG) (tt : TT) (te : TE) (vs : List Nat) (σ : St) (Q : VK) (J : It) (H1 : Hp) : Prop := ∀ D, H1 D = none → ∃ W : Nat → Nat → Hp → Prop, (∃ m, W 0 m (upd H1 D (.lst []))) ∧ ∀ i m H, W i m H →
      (J.stop i H ∧ Q (.ref D) H) ∨ (J.go i H ∧ ∃ Nx : Hp → Prop, (∀ H', Nx H' → ∃ m', m' < m ∧ W (i + 1) m' H') ∧ ∀ x H', J.yld i H x H' → g x (wipe σ vs) H' fun σ2 H2 => wipe σ2 vs = wipe σ vs ∧ tt σ2 H2 fun b H3 => if b = true then te σ2 H3 fun y H4 => ∃ acc, H4 D = some (.lst acc) ∧ acc.length < sizeLine ∧ Nx (upd H4 D (.lst (acc ++ [y]))) else Nx H3)
def Rng1K (R : It → Hp → Prop) (vs : List V) (H1 : Hp) : Prop := ∃ j : Int, vs = [.int j] ∧ -(2 ^ 62) ≤ j ∧ j < 2 ^ 62 ∧ R (Itr 0 j.toNat) H1
def ListK (K : PySem.W.Frag) (R : It → Hp → Prop) (x : V) (H1 : Hp) : Prop := ∃ a, x = .ref a ∧ (∃ xs, SqL K H1 a xs) ∧ R (Itl K a) H1
theorem lc {wi : TI} {g : TG} {tt : TT} {vs : List Nat} (h : wi σ H (LcK g tt te vs σ Q)) : tLc wi g tt te vs σ H Q := h
theorem rng1 {a : TA} {R : It → Hp → Prop} (h : a σ H (Rng1K R)) : iRng1 a σ H R := h
theorem ilist {R : It → Hp → Prop} (h : ta σ H (ListK K R)) : iList K ta σ H R := h
theorem for_ {wi : TI} {g : TG} {tb : TS} (h : wi σ H (ForK g tb D σ)) : tFor wi g tb D σ H := h
/-- what one turn of a comprehension asks -/
def LcT (g : TG) (tt : TT) (te : TE) (vs : List Nat) (σ : St) (D : Addr) (P : Hp → Prop) (x : V) (H1 : Hp) : Prop := g x (wipe σ vs) H1 fun σ2 H2 => wipe σ2 vs = wipe σ vs ∧ tt σ2 H2 fun b H3 => if b = true then te σ2 H3 fun y H4 => ∃ acc, H4 D = some (.lst acc) ∧ acc.length < sizeLine ∧ P (upd H4 D (.lst (acc ++ [y]))) else P H3
theorem lcr {g : TG} {tt : TT} {vs : List Nat} {e : Int} (n : Nat) (he : e = (n : Int)) (hb : n < 4611686018427387904) (Pv : Addr → Nat → Hp → Prop) (h0 : ∀ D H1, H D = none → Kp [] H H1 → H1 D = some (.lst []) → Pv D 0 H1)
    (hs : ∀ D i H1, H D = none → i < n → Pv D i H1 → g (.int (i : Int)) (wipe σ vs) H1 fun σ2 H2 => wipe σ2 vs = wipe σ vs ∧ tt σ2 H2 fun b H3 => if b = true then te σ2 H3 fun y H4 => ∃ acc, H4 D = some (.lst acc) ∧ acc.length < sizeLine ∧ Pv D (i + 1) (upd H4 D (.lst (acc ++ [y]))) else Pv D (i + 1) H3)
    (hd : ∀ D H1, H D = none → Pv D n H1 → Q (.ref D) H1) : Rng1K (LcK g tt te vs σ Q) [.int e] H := by
  subst he
  refine ⟨(n : Int), rfl, by omega, by omega, fun D hD => ?_⟩
  rw [show ((n : Int)).toNat = n by simp]
  refine lc_range (lo := 0) (n := n) (Pv D) (h0 D _ hD (Kp.new hD) upd_same) (fun i H1 hi p => ?_) fun H1 p => hd D H1 hD p
  rw [show (0 : Int) + (i : Int) = (i : Int) by omega]
  exact hs D i H1 hD hi p
theorem lcl {g : TG} {tt : TT} {vs : List Nat} {a : Addr} (xs : List V) (hS : SqL K H a xs) (Pv : Addr → Nat → Hp → Prop) (h0 : ∀ D H1, H D = none → Kp [] H H1 → H1 D = some (.lst []) → Pv D 0 H1)
    (hl : ∀ D i H1, H D = none → i ≤ xs.length → Pv D i H1 → SqL K H1 a xs)
    (hs : ∀ D i x H1, H D = none → xs[i]? = some x → Pv D i H1 → g x (wipe σ vs) H1 fun σ2 H2 => wipe σ2 vs = wipe σ vs ∧ tt σ2 H2 fun b H3 => if b = true then te σ2 H3 fun y H4 => ∃ acc, H4 D = some (.lst acc) ∧ acc.length < sizeLine ∧ Pv D (i + 1) (upd H4 D (.lst (acc ++ [y]))) else Pv D (i + 1) H3)
    (hd : ∀ D H1, H D = none → Pv D xs.length H1 → Q (.ref D) H1) : ListK K (LcK g tt te vs σ Q) (.ref a) H :=
  ⟨a, rfl, ⟨xs, hS⟩, fun D hD => lc_list (K := K) (a := a) (xs := xs) (Pv D) (h0 D _ hD (Kp.new hD) upd_same) (fun i H1 hi p => hl D i H1 hD hi p) (fun i x H1 hx p => hs D i x H1 hD hx p) fun H1 p => hd D H1 hD p⟩
/-- over a tuple -/
def TupK (K : PySem.W.Frag) (R : It → Hp → Prop) (x : V) (H1 : Hp) : Prop := ∃ a, x = .ref a ∧ (∃ xs, SqT K H1 a xs) ∧ R (Itt K a) H1
theorem itup {R : It → Hp → Prop} (h : ta σ H (TupK K R)) : iTup K ta σ H R := h
theorem lct {g : TG} {tt : TT} {vs : List Nat} {a : Addr} (xs : List V) (hS : SqT K H a xs) (Pv : Addr → Nat → Hp → Prop) (h0 : ∀ D H1, H D = none → Kp [] H H1 → H1 D = some (.lst []) → Pv D 0 H1)
    (hl : ∀ D i H1, H D = none → i ≤ xs.length → Pv D i H1 → SqT K H1 a xs)
    (hs : ∀ D i x H1, H D = none → xs[i]? = some x → Pv D i H1 → g x (wipe σ vs) H1 fun σ2 H2 => wipe σ2 vs = wipe σ vs ∧ tt σ2 H2 fun b H3 => if b = true then te σ2 H3 fun y H4 => ∃ acc, H4 D = some (.lst acc) ∧ acc.length < sizeLine ∧ Pv D (i + 1) (upd H4 D (.lst (acc ++ [y]))) else Pv D (i + 1) H3)
    (hd : ∀ D H1, H D = none → Pv D xs.length H1 → Q (.ref D) H1) : TupK K (LcK g tt te vs σ Q) (.ref a) H :=
  ⟨a, rfl, ⟨xs, hS⟩, fun D hD => lc_tup (K := K) (a := a) (xs := xs) (Pv D) (h0 D _ hD (Kp.new hD) upd_same) (fun i H1 hi p => hl D i H1 hD hi p) (fun i x H1 hx p => hs D i x H1 hD hx p) fun H1 p => hd D H1 hD p⟩
theorem allL {a : Addr} {bs : List Bool} (h : SqL K H a (bs.map V.bl)) (q : Q (.bl (bs.all id)) H) : rAll K [.ref a] H Q := ⟨a, bs, rfl, h, q⟩
theorem anyL {a : Addr} {bs : List Bool} (h : SqL K H a (bs.map V.bl)) (q : Q (.bl (bs.any id)) H) : rAny K [.ref a] H Q := ⟨a, bs, rfl, h, q⟩
theorem forr {g : TG} {tb : TS} {e : Int} (n : Nat) (he : e = (n : Int)) (hb : n < 4611686018427387904) (Pv : Nat → St → Hp → Prop) (h0 : Pv 0 σ H)
    (hs : ∀ i σ H, i < n → Pv i σ H → g (.int (i : Int)) σ H fun σ2 H2 => tb { D with nx := Pv (i + 1), ct := Pv (i + 1), bk := D.nx } σ2 H2) (hd : ∀ σ H, Pv n σ H → D.nx σ H) : Rng1K (ForK g tb D σ) [.int e] H := by
  subst he
  refine ⟨(n : Int), rfl, by omega, by omega, ?_⟩
  rw [show ((n : Int)).toNat = n by simp]
  refine for_range (lo := 0) (n := n) Pv h0 (fun i σ H1 hi p => ?_) hd
  rw [show (0 : Int) + (i : Int) = (i : Int) by omega]
  exact hs i σ H1 hi p
theorem forl {g : TG} {tb : TS} {a : Addr} (xs : List V) (hS : SqL K H a xs) (Pv : Nat → St → Hp → Prop) (h0 : Pv 0 σ H) (hl : ∀ i σ H, i ≤ xs.length → Pv i σ H → SqL K H a xs)
    (hs : ∀ i x σ H, xs[i]? = some x → Pv i σ H → g x σ H fun σ2 H2 => tb { D with nx := Pv (i + 1), ct := Pv (i + 1), bk := D.nx } σ2 H2) (hd : ∀ σ H, Pv xs.length σ H → D.nx σ H) : ListK K (ForK g tb D σ) (.ref a) H :=
  ⟨a, rfl, ⟨xs, hS⟩, for_list (K := K) (a := a) (xs := xs) Pv h0 hl hs hd⟩
/-! texts -/
def StrK (R : It → Hp → Prop) (v : V) (H1 : Hp) : Prop := ∃ x, v = .str x ∧ R (Its x) H1
theorem istr {R : It → Hp → Prop} (h : ta σ H (StrK R)) : iStr ta σ H R := h
theorem fors {g : TG} {tb : TS} {x : Str} (Pv : Nat → St → Hp → Prop) (h0 : Pv 0 σ H)
    (hs : ∀ i c σ H, x.cps[i]? = some c → Pv i σ H → g (.str ⟨#[c]⟩) σ H fun σ2 H2 => tb { D with nx := Pv (i + 1), ct := Pv (i + 1), bk := D.nx } σ2 H2) (hd : ∀ σ H, Pv x.cps.size σ H → D.nx σ H) : StrK (ForK g tb D σ) (.str x) H :=
  ⟨x, rfl, for_it walk_str Pv h0 (fun _ _ _ _ _ => trivial) (fun i v σ H H' hi p y => by obtain ⟨rfl, c, hc, rfl⟩ := y; exact hs i c σ _ hc p) hd⟩
theorem lcs {g : TG} {tt : TT} {vs : List Nat} {x : Str} (Pv : Addr → Nat → Hp → Prop) (h0 : ∀ D H1, H D = none → Kp [] H H1 → H1 D = some (.lst []) → Pv D 0 H1)
    (hs : ∀ D i c H1, H D = none → x.cps[i]? = some c → Pv D i H1 → g (.str ⟨#[c]⟩) (wipe σ vs) H1 fun σ2 H2 => wipe σ2 vs = wipe σ vs ∧ tt σ2 H2 fun b H3 => if b = true then te σ2 H3 fun y H4 => ∃ acc, H4 D = some (.lst acc) ∧ acc.length < sizeLine ∧ Pv D (i + 1) (upd H4 D (.lst (acc ++ [y]))) else Pv D (i + 1) H3)
    (hd : ∀ D H1, H D = none → Pv D x.cps.size H1 → Q (.ref D) H1) : StrK (LcK g tt te vs σ Q) (.str x) H :=
  ⟨x, rfl, fun D hD => lc_it walk_str (Pv D) (h0 D _ hD (Kp.new hD) upd_same) (fun _ _ _ _ => trivial) (fun i v H H' hi p y => by obtain ⟨rfl, c, hc, rfl⟩ := y; exact hs D i c _ hD hc p) fun H1 p => hd D H1 hD p⟩
theorem lenS {x : Str} (hz : x.cps.size ≤ 10000000) (q : Q (.int (x.cps.size : Nat)) H) : rLenS [.str x] H Q := ⟨x, rfl, hz, q⟩
/-! enumerate -/
def EnumK (K : PySem.W.Frag) (R : It → Hp → Prop) (vs : List V) (H1 : Hp) : Prop := ∃ a xs, vs = [.ref a] ∧ SqL K H1 a xs ∧ R (Ite K a) H1
theorem ienum {a : TA} {R : It → Hp → Prop} (h : a σ H (EnumK K R)) : iEnum K a σ H R := h
theorem fore {g : TG} {tb : TS} {a : Addr} (xs : List V) (hS : SqL K H a xs) (Pv : Nat → St → Hp → Prop) (h0 : Pv 0 σ H) (hl : ∀ i σ H, i ≤ xs.length → Pv i σ H → SqL K H a xs)
    (hs : ∀ i x σ H H' T, xs[i]? = some x → Pv i σ H → H T = none → Kp [] H H' → H' T = some (.tup [.int (i : Nat), x]) → g (.ref T) σ H' fun σ2 H2 => tb { D with nx := Pv (i + 1), ct := Pv (i + 1), bk := D.nx } σ2 H2) (hd : ∀ σ H, Pv xs.length σ H → D.nx σ H) : EnumK K (ForK g tb D σ) [.ref a] H :=
  ⟨a, xs, rfl, hS, for_it (walk_enum (K := K) (a := a) (xs := xs)) Pv h0 hl (fun i v σ H H' hi p y => by
    obtain ⟨T, x, z, rfl, h1, rfl, h2, h3⟩ := y
    cases h2
    exact hs i z σ H _ T h3 p h1 (Kp.new h1) upd_same) hd⟩
/-! dicts -/
theorem dnew (h : ∀ p H1, H p = none → Kp [] H H1 → H1 p = some (.dK []) → Q (.ref p) H1) : tDNewK σ H Q := mk h
theorem din {ty td : TE} (h : ty σ H fun y H1 => td σ H1 fun x H2 => ∃ a o, x = .ref a ∧ DGet H2 a y o ∧ Q (.bl o.isSome) H2) : tDIn ty td σ H Q := h
theorem dput {td ty tv : TE} (h : tv σ H fun v H1 => td σ H1 fun x H2 => ty σ H2 fun y H3 => ∃ a H4, x = .ref a ∧ DPut H3 a y v H4 ∧ D.nx σ H4) : sDPut td ty tv D σ H := h
theorem dget2 {td ty tx : TE} (h : td σ H fun x H1 => ∃ a, x = .ref a ∧ IsD H1 a ∧ ty σ H1 fun y H2 => tx σ H2 fun z H3 => ∃ o, DGet H3 a y o ∧ Q (o.getD z) H3) : tDGet2 td ty tx σ H Q := h
theorem dget {td ty : TE} (h : td σ H fun x H1 => ty σ H1 fun y H2 => ∃ a v, x = .ref a ∧ DGet H2 a y (some v) ∧ Q v H2) : tDGet td ty σ H Q := h
/-! lists and tuples -/
theorem ixA {p : Addr} {xs : List V} {j : Int} (h : SqL K H p xs ∨ SqT K H p xs) (e : atI xs j = some v) (q : Q v H) : rIx K (.ref p) (.int j) H Q := h.elim (fun h => .inl (ixL h e q)) (fun h => .inr (.inl (ixT h e q)))
theorem lenA {a : Addr} {xs : List V} (h : SqL K H a xs ∨ SqT K H a xs) (q : Q (.int xs.length) H) : rLenN K [.ref a] H Q := ⟨a, xs, rfl, h, q⟩
theorem sl {r : V → Option Int → Option Int → Hp → VK → Prop} {tl th : TO} (h : ta σ H fun x H1 => tl σ H1 fun l H2 => th σ H2 fun u H3 => r x l u H3 Q) : tSl r ta tl th σ H Q := h
theorem slno {Q : Option Int → Hp → Prop} (h : Q none H) : tNoPart σ H Q := h
theorem slpart {Q : Option Int → Hp → Prop} (h : ta σ H fun x H1 => ∃ i, x = .int i ∧ Q (some i) H1) : tPart ta σ H Q := h
theorem bint {i : Int} {q : Int → Prop} (h : q i) : ∃ k, V.int i = .int k ∧ q k := ⟨i, rfl, h⟩
theorem slL {p : Addr} {xs : List V} {lo hi : Option Int} (h : SqL K H p xs) (q : ∀ d H1, H d = none → Kp [] H H1 → H1 d = some (.lst (cutV xs lo hi)) → Q (.ref d) H1) : rSlL K (.ref p) lo hi H Q := ⟨p, xs, rfl, h, mk q⟩
theorem cut_take {xs : List V} {k : Nat} (h : k ≤ xs.length) : cutV xs none (some (k : Int)) = xs.take k := by
  unfold cutV
  rw [HT.sIx_none, HT.sIx_nat, List.drop_zero, Nat.sub_zero, Nat.min_eq_left h]
theorem cut_drop {xs : List V} {k : Nat} (h : k ≤ xs.length) : cutV xs (some (k : Int)) none = xs.drop k := by
  unfold cutV
  rw [HT.sIx_none, HT.sIx_nat, Nat.min_eq_left h]
  exact List.take_of_length_le (by rw [List.length_drop] <;> omega)
theorem inq {neg : Bool} {p : Addr} {xs : List V} (h : SqL K H p xs ∨ SqT K H p xs) (fx : flatV x = true) (fs : xs.all flatV = true) (q : Q (.bl (if neg then !inV x xs else inV x xs)) H) : rIn K neg x (.ref p) H Q := ⟨p, xs, rfl, h, fx, fs, q⟩
theorem inV_strs {a : Str} {l : List Str} : inV (.str a) (l.map V.str) = decide (a ∈ l) := by
  unfold inV
  induction l with
  | nil => simp
  | cons b r ih =>
    rw [List.map_cons, List.any_cons, ih]
    show ((b == a) || _) = _
    by_cases e : b = a
    · subst e; simp
    · have e' : ¬ a = b := fun z => e z.symm
      simp [e, e']
theorem strs_flat {l : List Str} : (l.map V.str).all flatV = true := by simp [flatV]
theorem pop {l : Addr} {xs : List V} {y : V} (h : H l = some (.lst xs)) (e : xs[xs.length - 1]? = some y) (q : Q y (upd H l (.lst xs.dropLast))) : rPop (.ref l) [] H Q := ⟨l, xs, y, rfl, rfl, h, e, q⟩
def LRK (K : PySem.W.Frag) (Q : VK) (x : V) (H1 : Hp) : Prop := ∃ a xs, x = .ref a ∧ SqL K H1 a xs ∧ ∀ p, H1 p = none → Q (.ref p) (upd H1 p (.lst xs.reverse))
theorem listrev (h : ta σ H (LRK K Q)) : RL.tListRev K ta σ H Q := h
theorem lrk {a : Addr} {xs : List V} (hS : SqL K H a xs) (q : ∀ p H1, H p = none → Kp [] H H1 → H1 p = some (.lst xs.reverse) → Q (.ref p) H1) : LRK K Q (.ref a) H := ⟨a, xs, rfl, hS, mk q⟩
theorem popS {l : Addr} {xs : List V} {y : V} (h : H l = some (.lst (xs ++ [y]))) (q : Q y (upd H l (.lst xs))) : rPop (.ref l) [] H Q := ⟨l, _, y, rfl, rfl, h, by simp, by rw [List.dropLast_concat]; exact q⟩
theorem extT {l b : Addr} {xs zs : List V} (h : H l = some (.lst xs)) (h2 : H b = some (.tup zs)) (hz : xs.length + zs.length ≤ 10000000) (q : Q .non (upd H l (.lst (xs ++ zs)))) : RL.rExtT (.ref l) [.ref b] H Q := ⟨l, b, xs, zs, rfl, rfl, h, h2, Nat.le_trans hz (by decide), q⟩
theorem slT {p : Addr} {xs : List V} {k : Nat} (h : SqT K H p xs) (h0 : 0 < k) (h1 : k ≤ xs.length) (q : ∀ d H1, H d = none → Kp [] H H1 → H1 d = some (.tup (xs.drop k)) → Q (.ref d) H1) : rSlT K (.ref p) (some (k : Int)) none H Q := ⟨p, xs, rfl, h, fun z => by
  rw [HT.sIx_nat, Nat.min_eq_left h1] at z
  omega, mk (by rw [cut_drop h1]; exact q)⟩
theorem revl (h : ta σ H (LRK K Q)) : tRevL K ta σ H Q := h
theorem idx {a : Addr} {ys : List V} {y : V} (j : Nat) {z : V} (hS : SqL K H a ys) (fy : flatV y = true) (fs : ys.all flatV = true) (hz : ys[j]? = some z) (hy : eqV z y = true) (hn : ∀ (m : Nat) (z' : V), m < j → ys[m]? = some z' → eqV z' y = false) (q : Q (.int (j : Nat)) H) : rIndex K (.ref a) [y] H Q := ⟨a, ys, y, j, z, rfl, rfl, hS, fy, fs, hz, hy, hn, q⟩
theorem truL {p : Addr} {xs : List V} {q : Bool → Prop} (h : H p = some (.lst xs)) (hq : q (!xs.isEmpty)) : ∃ k, TruV K (.ref p) H k ∧ q k := ⟨_, .inl ⟨xs, lstL h, rfl⟩, hq⟩
theorem glst {n : Nat} {t : TGs} {a : Addr} {xs : List V} {Q : St → Hp → Prop} (h : SqL K H a xs) (e : xs.length = n) (q : t xs σ H Q) : gLst K n t (.ref a) σ H Q := ⟨a, xs, rfl, h, e, q⟩
def rSplitQ : V → List V → Hp → VK → Prop := fun x xs H Q => ∃ a b, x = .str a ∧ xs = [.str b] ∧ (b.length == 0) = false ∧ a.length + 2 ≤ sizeLine ∧ rNewStrs (Txt.split a b) H Q
theorem m_split {X : Cx} : MtR X "str.split" rSplitQ := mt_split
theorem split {a b : Str} (hb : (b.length == 0) = false) (hz : a.length ≤ 10000000) (q : ∀ p H1, H p = none → Kp [] H H1 → H1 p = some (.lst ((Txt.split a b).map V.str)) → Q (.ref p) H1) : rSplitQ (.str a) [.str b] H Q := ⟨a, b, rfl, rfl, hb, Nat.le_trans (Nat.add_le_add_right hz 2) (by decide), mk q⟩
def EnSK (K : PySem.W.Frag) (R : It → Hp → Prop) (vs zs : List V) (H2 : Hp) : Prop := ∃ a xs k, vs = [.ref a] ∧ zs = [.int k] ∧ -(2 ^ 63) ≤ k ∧ k < 2 ^ 63 ∧ SqL K H2 a xs ∧ R (RL.IteS K a k) H2
theorem ienumS {a b : TA} {R : It → Hp → Prop} (h : a σ H fun vs H1 => b σ H1 fun zs H2 => EnSK K R vs zs H2) : RL.iEnumS K a b σ H R := h
theorem walk_enumS {a : Addr} {xs : List V} {k : Int} : Walk (RL.IteS K a k) xs.length (fun H => SqL K H a xs) (YPair (fun i => some (.int (k + (i : Nat)))) (fun i => xs[i]?)) := by
  refine ⟨fun i _ hi q => ⟨xs, xs[i], q, by simp [hi]⟩, fun _ q => ⟨xs, q, rfl⟩, fun i H v H' _ q y => ?_⟩
  obtain ⟨T, x, h1, h2, h3, h4⟩ := y
  exact ⟨T, .int (k + (i : Nat)), x, h1, h2, h3, rfl, h4 xs q⟩
theorem fores {g : TG} {tb : TS} {a : Addr} {k : Int} (xs : List V) (hk0 : -(2 ^ 63) ≤ k) (hk1 : k < 2 ^ 63) (hS : SqL K H a xs) (Pv : Nat → St → Hp → Prop) (h0 : Pv 0 σ H) (hl : ∀ i σ H, i ≤ xs.length → Pv i σ H → SqL K H a xs)
    (hs : ∀ i x σ H H' T, xs[i]? = some x → Pv i σ H → H T = none → Kp [] H H' → H' T = some (.tup [.int (k + (i : Nat)), x]) → g (.ref T) σ H' fun σ2 H2 => tb { D with nx := Pv (i + 1), ct := Pv (i + 1), bk := D.nx } σ2 H2) (hd : ∀ σ H, Pv xs.length σ H → D.nx σ H) : EnSK K (ForK g tb D σ) [.ref a] [.int k] H :=
  ⟨a, xs, k, rfl, rfl, hk0, hk1, hS, for_it (walk_enumS (K := K) (a := a) (xs := xs) (k := k)) Pv h0 hl (fun i v σ H H' hi p y => by
    obtain ⟨T, x, z, rfl, h1, rfl, h2, h3⟩ := y
    cases h2
    exact hs i z σ H _ T h3 p h1 (Kp.new h1) upd_same) hd⟩
/-- an f-string of two parts or more -/
def tJoin (ts : List TE) : TE := fun σ H Q => tJs ts Str.empty σ H fun out H1 => Q (.str out) H1
theorem pe_joinedN {X : Cx} {v1 v2 : Expr} {rest : List Expr} {ts : List TE} {pos : Pos} (h : PJ X (v1 :: v2 :: rest) ts) : PE X (.JoinedStr (v1 :: v2 :: rest) pos) (tJoin ts) := pe_joined h
def rJoinQ (K : PySem.W.Frag) : V → List V → Hp → VK → Prop := fun x xs H Q => ∃ a p, ∃ ys : List Str, x = .str a ∧ xs = [.ref p] ∧ (SqL K H p (ys.map V.str) ∨ SqT K H p (ys.map V.str)) ∧ (ys.map (·.length)).sum + ys.length * a.length ≤ 16777216 ∧ Q (.str (Txt.join a ys)) H
theorem m_join {X : Cx} : MtR X "str.join" (rJoinQ X.K) := mt_join
theorem join {a : Str} {p : Addr} {ys : List Str} (h : SqL K H p (ys.map V.str)) (hz : (ys.map (·.length)).sum + ys.length * a.length ≤ 16777216) (q : Q (.str (Txt.join a ys)) H) : rJoinQ K (.str a) [.ref p] H Q := ⟨a, p, ys, rfl, rfl, .inl h, hz, q⟩
theorem lens_le {n : Nat} : ∀ {ys : List Str}, (∀ y ∈ ys, y.length ≤ n) → (ys.map (·.length)).sum ≤ n * ys.length
  | [], _ => by simp
  | y :: r, h => by
    have h1 := h y (by simp)
    have h2 := lens_le (n := n) (ys := r) fun z hz => h z (by simp [hz])
    rw [List.map_cons, List.sum_cons, List.length_cons, Nat.mul_add]
    omega
theorem mulS {x : Str} {k : Nat} (h1 : 2 ≤ k) (h2 : k ≤ 100000) (h3 : 1 ≤ x.length) (h4 : x.length ≤ 100) (q : Q (.str (RL.repS x k)) H) : RL.rMulS (.str x) (.int (k : Int)) H Q := ⟨x, k, rfl, rfl, h1, h2, h3, h4, q⟩
theorem cat {l b : Addr} {xs zs : List V} (h : H l = some (.lst xs)) (h2 : H b = some (.lst zs)) (hz : xs.length + zs.length ≤ 100000) (q : ∀ p H1, H p = none → Kp [] H H1 → H1 p = some (.lst (xs ++ zs)) → Q (.ref p) H1) : rCat (.ref l) (.ref b) H Q := ⟨l, b, xs, zs, rfl, rfl, h, h2, Nat.le_trans hz (by decide), mk q⟩
end
end Z

/-! ### ClsM: classmethods and methods within a try, a class in a local name -/
namespace ClsM
open PySem PySem.Spec PyProof.Rows L2
/-- how the text of o.m(..) is run -/
abbrev MForm (X : Cx) (o : Expr) (m : Str) (es : List Expr) (apos pos : Pos) (pl : Sem Bool) : Prop := eval (.Call (.Attribute o m apos) es [] pos) X.env = (do let ov ← eval o X.env; standAt apos.atName; let (f, first) ← holding [ov] (getMethod ov m pl); callWith pos f first (backTo pos (starEach es X.env)) (backToKw pos (keywordEach [] X.env)))
section
variable {X : Cx} {CX : CXT} {k i : Nat} {f C p g : Addr} {fd : FuncData} {ps : List Str} {sp : Sp} {E : L2.St → XK} {E1 : XK} {m x : Str} {pos apos : Pos} {o e : Expr} {es : List Expr} {ta : TE} {t : TA} {pl : Sem Bool} {mc : Value}
/-- o.m(e, ..) within a try -/
def tMethA (C : Addr) (m : Str) (sp : Sp) (E : L2.St → XK) (ta : TE) (t : TA) : TE := fun σ H Q => ta σ H fun x H1 => ∃ a dx fs, x = .ref a ∧ H1 a = some (.ins C dx fs) ∧ fs.lookup m = none ∧ t σ H1 fun vs H2 => sp (x :: vs) H2 Q (E σ)
theorem pe_methA (he : PE X o ta) (c : Cls X.K C) (hm : Meth X.K C m f) (F : FnOk X.prog X.w X.K X.mg X.base CX k f fd ps sp) (hr : Room k X.A) (hb : Binds X.K fd ps []) (hx : ∀ σ, PassesAt CX X σ (E σ)) (ha : PA X (e :: es) t) (hst : starEach (e :: es) X.env = (false, eval e X.env) :: starEach es X.env := by rfl) (hpl : (backTo pos (starEach es X.env)).any (·.1) = false := by rfl) (ht : MForm X o m (e :: es) apos pos pl := by rfl) :
    PE X (.Call (.Attribute o m apos) (e :: es) [] pos) (tMethA C m sp E ta t) := by
  refine ⟨fun pins s σ H Q I h => PySem.W.methodCall_KW (pl := pl) (thn (he.run pins s σ H _ I h) fun u s1 ⟨x, H1, I1, rx, a, dx, fs, ex, ea, l, q⟩ => ?_) ht⟩
  subst ex
  obtain rfl : u = Value.ref a := rx
  exact getmeth_ok I1 ea c hm l (PySem.W.callWith_K (first := [.ref a]) (h₀ := X.base) I.ok.mod.kin hm.kp (thn (ha.run pos pins s1 σ H1 _ I1 q) fun us s2 ⟨vs, H2, I2, r, q2⟩ => ⟨I2.kIn, run_fnS (us := .ref a :: us) (vs := .ref a :: vs) F hr hb (hx σ) I2 (.cons rfl r) q2⟩) hst hpl)
theorem methA {σ : L2.St} {H : Hp} {Q : VK} (h : ta σ H fun x H1 => ∃ a dx fs, x = .ref a ∧ H1 a = some (.ins C dx fs) ∧ fs.lookup m = none ∧ t σ H1 fun vs H2 => sp (x :: vs) H2 Q (E σ)) : tMethA C m sp E ta t σ H Q := h
/-- the call of a bound classmethod, at the slots σ -/
theorem run_cmS {q : Addr} {pins : List (Addr × Obj)} {σ : L2.St} {H : Hp} {s : Shared} {Q : VK} {us : List Value} {vs : List V} (F : FnOk X.prog X.w X.K X.mg X.base CX k g fd ps sp) (hb : Binds X.K fd ps []) (hr : Room k X.A) (hx : PassesAt CX X σ (E σ)) (I : Inv X ((q, PySem.W.methodObj (.ref g) (.ref C)) :: pins) σ H s) (r : Vals vs us) (h : sp (.ref C :: vs) H Q (E σ)) : wpAny (model X.prog X.w) X.A (call (.ref q) us) (EP X pins σ Q) X.xe s := by
  have hl : (Value.ref C :: us).length = ps.length := by rw [← F.len _ _ _ _ h]; exact congrArg Nat.succ r.length.symm
  have b := hb s (.ref C :: us) I.kIn (by rw [List.append_nil]; exact hl)
  rw [List.append_nil] at b
  have z : wpAny (model X.prog X.w) X.A (call (.ref q) us) (EP X ((q, PySem.W.methodObj (.ref g) (.ref C)) :: pins) σ Q) X.xe s := by
    refine wpAny_call (PySem.W.method_call (ClX.pin_at I) (codeAny_mono (F.run X.A X.stack s H ⟨.ref C :: us, []⟩ (.ref C :: us) (.ref C :: vs) Q (E σ) hr I.env0 b (.cons rfl r) h) fun y s' hq => ?_))
    match y, hq with
    | .error e, hq => exact hx _ H s e s' I hq
    | .ok (.ret u), hq => exact I.after hq
    | .ok .next, hq => exact False.elim hq
    | .ok .brk, hq => exact False.elim hq
    | .ok .cont, hq => exact False.elim hq
  exact thn z fun _ _ y => ClX.unpinE y
/-- C.m(e, ..), m a classmethod of the class C, within a try -/
def tCMeth (C : Addr) (sp : Sp) (E : L2.St → XK) (ta : TE) (t : TA) : TE := fun σ H Q => ta σ H fun x H1 => x = .ref C ∧ t σ H1 fun vs H2 => sp (.ref C :: vs) H2 Q (E σ)
theorem pe_cm (he : PE X o ta) (r : ClX.CRead X.K C mc) (c : ClX.CMet X.K C mc m p g) (F : FnOk X.prog X.w X.K X.mg X.base CX k g fd ps sp) (hb : Binds X.K fd ps []) (hr : Room k X.A) (hx : ∀ σ, PassesAt CX X σ (E σ)) (ha : PA X (e :: es) t) (hst : starEach (e :: es) X.env = (false, eval e X.env) :: starEach es X.env := by rfl) (hpl : (backTo pos (starEach es X.env)).any (·.1) = false := by rfl) (ht : MForm X o m (e :: es) apos pos pl := by rfl) :
    PE X (.Call (.Attribute o m apos) (e :: es) [] pos) (tCMeth C sp E ta t) := by
  refine ⟨fun pins s σ H Q I h => PySem.W.methodCall_KW (pl := pl) (thn (he.run pins s σ H _ I h) fun u s1 ⟨x, H1, I1, rx, ex, q⟩ => ?_) ht⟩
  subst ex
  obtain rfl : u = Value.ref C := rx
  refine ClX.getmethcm_ok I1 r c fun s2 I2 => ClX.callwith_cm I2 (ClX.base_none I1 (Nat.le_refl _)) c.fi (thn (ha.run pos _ s2 σ H1 _ I2 q) fun us s3 ⟨vs, H2, I3, rv, q2⟩ => ⟨⟨ClX.pin_at I3, I3.kIn⟩, ?_⟩) hst hpl
  exact run_cmS F hb hr (hx σ) I3 rv q2
theorem cm {σ : L2.St} {H : Hp} {Q : VK} (h : ta σ H fun x H1 => x = .ref C ∧ t σ H1 fun vs H2 => sp (.ref C :: vs) H2 Q (E σ)) : tCMeth C sp E ta t σ H Q := h
theorem passC {E0 : XK} (hx : Passes CX X E0) (σ : L2.St) : PassesAt CX X σ ((fun _ => E0) σ) := fun pins H s e s' I c => hx pins σ H s e s' I c
/-- n(e, ..), the local n the class C -/
def tMakeL (i : Nat) (C : Addr) (sp : Sp) (t : TA) : TE := fun σ H Q => σ[i]? = some (some (.ref C)) ∧ t σ H fun vs H1 => ∀ x dx, H1 x = none → H1 dx = none → dx ≠ x → sp (.ref x :: (vs ++ [])) (upd (upd H1 dx (.own x)) x (.ins C dx [])) (fun v H2 => v = .non ∧ Q (.ref x) H2) E0
theorem pe_makeL {pp : Pos} (M : Mk X.K C f) (F : FnOk X.prog X.w X.K X.mg X.base CX k f fd ps sp) (hr : Room (k + 1) X.A) (hN : X.N[i]? = some x) (hv : Vis X.env.scope x) (hb : Binds X.K fd ps []) (hx : Passes CX X E0) (ha : PA X (e :: es) t) (hdb : (x == ("__debug__" : Str)) = false := by decide) (hcd : (x == ("__classdict__" : Str)) = false := by decide)
    (he : starEach (e :: es) X.env = (false, eval e X.env) :: starEach es X.env := by rfl) (hpl : (backTo pos (starEach es X.env)).any (·.1) = false := by rfl) : PE X (.Call (.Name x pp) (e :: es) [] pos) (tMakeL i C sp t) := by
  refine ⟨fun pins s σ H Q I ⟨hs, ht⟩ => wpAny_Call_Name_kw (thn ((pe_var (pos := pp) hN hv hdb hcd).run pins s σ H (fun v H1 => v = .ref C ∧ H1 = H) I ⟨.ref C, hs, rfl, rfl⟩) fun u s1 ⟨v, H1, I1, r1, q1⟩ => ?_)⟩
  obtain ⟨rfl, rfl⟩ := q1
  cases r1
  exact PySem.W.callWith_K (h₀ := X.base) I.ok.mod.kin M.kp (thn (ha.run pos pins s1 σ _ _ I1 ht) fun us s2 ⟨vs, H2, I2, r, q⟩ => ⟨I2.kIn, run_make M F hr hb .nil hx I2 r q⟩) he hpl
theorem makeL {σ : L2.St} {H : Hp} {Q : VK} (hs : σ[i]? = some (some (.ref C))) (h : t σ H fun vs H1 => ∀ x dx, H1 x = none → H1 dx = none → dx ≠ x → sp (.ref x :: (vs ++ [])) (upd (upd H1 dx (.own x)) x (.ins C dx [])) (fun v H2 => v = .non ∧ Q (.ref x) H2) E0) : tMakeL i C sp t σ H Q := ⟨hs, h⟩
theorem fldK {f : Str} (K : PySem.W.Frag) (hK : X.K = K) (h : PE X e (tFld X.K ta f)) : PE X e (tFld K ta f) := hK ▸ h
theorem bmK {T : String} {r : V → List V → Hp → VK → Prop} (K : PySem.W.Frag) (hK : X.K = K) (h : PE X e (tBM X.K T r ta t)) : PE X e (tBM K T r ta t) := hK ▸ h
end
end ClsM

/-! ### Many: a try with several clauses, with or without names -/
namespace Many
open PySem PySem.Spec PyProof.Rows L2
/-- a clause: its class, the slot of its name, what its suite does -/
structure Cl where
  c : Value
  at_ : Option Nat
  ts : Addr → Value → Option Addr → TS
def gone : Option Nat → L2.St → L2.St
  | none, σ => σ
  | some i, σ => σ.set i none
def bound : Option Nat → Addr → L2.St → L2.St
  | none, _, σ => σ
  | some i, a, σ => σ.set i (some (.ref a))
def ends : Option Nat → Ends → Ends
  | none, D => D
  | some i, D => { nx := fun σ H => D.nx (σ.set i none) H, rt := D.rt, bk := fun σ H => D.bk (σ.set i none) H, ct := fun σ H => D.ct (σ.set i none) H }
/-- what the clauses wish, the first that fits -/
def wish (K : PySem.W.Frag) (out : WX) (D : Ends) : List Cl → WX
  | [] => out
  | k :: r => fun cls d σ H => ∃ b, PySem.W.exmOne K cls k.c = some b ∧ (b = true → ∀ a, H a = none → k.ts a cls d (ends k.at_ D) (bound k.at_ a σ) H) ∧ (b = false → wish K out D r cls d σ H)
theorem wish_yes {K : PySem.W.Frag} {out : WX} {D : Ends} {k : Cl} {r : List Cl} {cls : Value} {d : Option Addr} {σ : L2.St} {H : Hp} (e : PySem.W.exmOne K cls k.c = some true) (h : ∀ a, H a = none → k.ts a cls d (ends k.at_ D) (bound k.at_ a σ) H) : wish K out D (k :: r) cls d σ H := ⟨true, e, fun _ => h, fun z => by cases z⟩
theorem wish_no {K : PySem.W.Frag} {out : WX} {D : Ends} {k : Cl} {r : List Cl} {cls : Value} {d : Option Addr} {σ : L2.St} {H : Hp} (e : PySem.W.exmOne K cls k.c = some false) (h : wish K out D r cls d σ H) : wish K out D (k :: r) cls d σ H := ⟨false, e, (fun z => by cases z), fun _ => h⟩
inductive Ok (X : Cx) : List ExceptHandler → List Cl → Prop
  | nil : Ok X [] []
  | bare {x : Str} {c : Value} {ts : Addr → Value → Option Addr → TS} {b₀ : Stmt} {su : List Stmt} {p q : Pos} {hs : List ExceptHandler} {l : List Cl} (hc : Names X x c) (hb : ∀ (a : Addr) (oe : Obj) (cls : Value) (d : Option Addr) (pn : List (Addr × Obj)), Zc cls d oe → (∃ vs, oe.data = .fields vs) → PSs (X.suite a ((a, oe) :: pn)) (b₀ :: su) (ts a cls d)) (r : Ok X hs l) : Ok X (.ExceptHandler (some (.Name x p)) none (b₀ :: su) q :: hs) (⟨c, none, ts⟩ :: l)
  | named {x n : Str} {c : Value} {ts : Addr → Value → Option Addr → TS} {i : Nat} {b₀ : Stmt} {su : List Stmt} {p q : Pos} {hs : List ExceptHandler} {l : List Cl} (hN : X.N.Nodup) (hi : X.N[i]? = some n) (hl : X.env.kindOf n = some .local) (hc : Names X x c) (hb : ∀ (a : Addr) (oe : Obj) (cls : Value) (d : Option Addr) (pn : List (Addr × Obj)), Zc cls d oe → (∃ vs, oe.data = .fields vs) → PSs (X.suite a ((a, oe) :: pn)) (b₀ :: su) (ts a cls d)) (r : Ok X hs l) : Ok X (.ExceptHandler (some (.Name x p)) (some n) (b₀ :: su) q :: hs) (⟨c, some i, ts⟩ :: l)
section
variable {X : Cx} {body : List Stmt} {h₀ : ExceptHandler} {hds : List ExceptHandler} {l : List Cl} {pos : Pos} {tb : WX → TS} {out : WX}
theorem ps_try_named (hs : X.stack = X.env :: X.outer) (hf : X.env.frame = some X.env.locals) (tk : Takes X out)
    (hb : ∀ (W : WX) (pn : List (Addr × Obj)) (xe : Value → Shared → Prop), Takes (X.tr pn xe) W → PassesOwn (model X.prog X.w) X.A X.env xe → PSs (X.tr pn xe) body (tb W)) (hh : Ok X (h₀ :: hds) l) :
    PS X (.Try body (h₀ :: hds) [] [] pos) (fun D σ H => tb (wish X.K out D l) D σ H) := by
  refine ⟨fun pins s σ H D I h => ?_⟩
  have ok := I.ok; have hfr : X.A.frames = some (X.env :: X.outer) := by rw [ok.frames, hs]
  refine wpAny_Try_except ?_
  refine wpAny_mono ((hb (wish X.K out D l) (X.pn ++ pins) (fun e s₁ => wpAny (model X.prog X.w) X.A (noteFrame e X.env) (fun _ s₂ => wpAny (model X.prog X.w) X.A (setFlight e none) (fun _ s₃ => wpAny (model X.prog X.w) X.A (handleBy e X.env (h₀ :: hds)) (SP X pins D) X.xe s₃) X.xe s₂) X.xe s₁) (fun u s' xx => ?_) PassesOwn.looking).run [] s σ H D (I.toTry _) h) (fun f s1 hsp => ?_) (fun e s1 he => he)
  · obtain ⟨a, B, sI, pins', σ', H', cls, d, rfl, J', nb, up, sky, na, os, ag, w⟩ := xx
    have J : Inv X pins σ' H' sI := J'.ofTry ok; have sky' : Sky B (X.env :: X.outer) a (Zc cls d) X.env.locals s'.heap := by rw [← hs]; exact sky
    show wpAny (model X.prog X.w) X.A (noteFrame (.ref a) X.env) _ _ _
    refine Sky.land Zc.steady hfr hf sky' fun h3 fl3 up3 => ?_
    have J3 : Inv X pins σ' H' { s' with heap := h3 } := J.landed nb fl3.1 (up.trans up3) os ag; obtain ⟨oe3, vs3, he3, hz3, hd3⟩ := fl3.there
    have nfr : a ∉ frs (X.env :: X.outer) := fun hm => by
      obtain ⟨_, o', e', hnf⟩ := fl3.2.2.1.mem hm
      rw [he3] at e'; cases e'; exact hnf _ hd3
    have nL : a ≠ X.env.locals := fun z => nfr (List.mem_filterMap.mpr ⟨X.env, List.mem_cons_self, by rw [hf, z]⟩)
    have nF : a ∉ X.fs := fun hm => by
      obtain ⟨e, he, q⟩ := List.mem_filterMap.mp hm; exact nfr (List.mem_filterMap.mpr ⟨e, List.mem_cons_of_mem _ he, q⟩)
    have S3 := J3.suite he3 hd3 na nL nF
    have go : ∀ {hs' : List ExceptHandler} {l' : List Cl}, Ok X hs' l' → wish X.K out D l' cls d σ' H' → wpAny (model X.prog X.w) X.A (handleBy (.ref a) X.env hs') (SP X pins D) X.xe { s' with heap := h3 } := by
      intro hs' l' hk
      have test : ∀ {x : Str} {c : Value} {np : Pos} {Q : Value → Shared → Prop} {E : Value → Shared → Prop}, Names X x c → Q c { s' with heap := h3 } → wpAny (model X.prog X.w) (X.A.mark (some (.ref a))) (eval (.Name x np) X.env) Q E { s' with heap := h3 } := fun {x c np Q E} hc q => by
        obtain ⟨hg, hdbg, hm | ⟨hm, hv, hnn⟩⟩ := hc
        · exact ld_glob (X := X.suite a ((a, oe3) :: (X.pn ++ pins))) S3 hg hm q hdbg
        · exact ld_blt (X := X.suite a ((a, oe3) :: (X.pn ++ pins))) S3 hg hm hv q hnn hdbg
      have LT : PySem.W.Looks (model X.prog X.w) h3 (typeOf (.ref a)) cls := fun A Q E s k q => wpAny_typeOf_ref (k _ _ he3) (by rw [hz3.1]; exact q)
      induction hk with
      | nil =>
        intro w
        refine wpAny_handleBy_nil ?_
        obtain ⟨k1, k2, k3, oe, vs, T, oT, ts', he, hz, hd, h1, hr⟩ := id fl3; unfold PySem.passOn
        refine wpAny_bind (wpAny_field he hd h1 ?_); rw [if_neg (show ¬ ((Value.ref T == Value.none) = true) from by simp)]
        have fin : wpAny (model X.prog X.w) X.A (setFlight (.ref a) X.env.frame) (fun _ s4 => wpAny (model X.prog X.w) X.A (throw (.ref a) : Sem Flow) (SP X pins D) X.xe s4) X.xe { s' with heap := h3 } := by
          rw [hf]; exact HandSPX.setFlight_upZ fl3 fun h4 hh4 up4 => wpAny_throw (tk _ _ ⟨a, B, sI, pins, σ', H', cls, d, rfl, J, nb, (up.trans up3).trans up4, .inr (.inr (by rw [hs]; exact hh4)), na, os, ag, w⟩)
        first | exact wpAny_bind (wpAny_pure (wpAny_bind fin)) | exact wpAny_bind fin
      | @bare x c ts b₀ su p q hs2 l2 hc hsu r ih =>
        intro w
        obtain ⟨b, hb1, hyes, hno⟩ := w
        refine wpAny_handleBy_cons (codeAny_handlers_test ?_) (by intro q; cases q)
        refine test hc ((PySem.W.exm_one (M := model X.prog X.w) (J3.kIn) LT hb1).here ?_)
        cases b with
        | true =>
          refine codeAny_handlers_suite (HandSPX.lands_againZ fl3 fun h4 fl4 up4 => ?_)
          have J4 : Inv X pins σ' H' { s' with heap := h4 } := J.landed nb fl4.1 ((up.trans up3).trans up4) os ag; obtain ⟨oe4, vs4, he4, hz4, hd4⟩ := fl4.there
          have S4 := J4.suite he4 hd4 na nL nF; have y := hyes rfl a na
          refine wpAny_mono ((hsu a oe4 cls d (X.pn ++ pins) hz4 ⟨_, hd4⟩).run [] _ _ H' _ S4 y) (fun f s6 hsp => ?_) (fun _ _ z => False.elim z)
          cases f with
          | ret u => obtain ⟨v6, σ6, H6, S6, r6, q6⟩ := hsp; exact ⟨_, _, _, S6.unsuite ok, r6, q6⟩
          | next => obtain ⟨σ6, H6, S6, q6⟩ := hsp; exact ⟨_, _, S6.unsuite ok, q6⟩
          | brk => obtain ⟨σ6, H6, S6, q6⟩ := hsp; exact ⟨_, _, S6.unsuite ok, q6⟩
          | cont => obtain ⟨σ6, H6, S6, q6⟩ := hsp; exact ⟨_, _, S6.unsuite ok, q6⟩
        | false => exact ih (hno rfl)
      | @named x n c ts i b₀ su p q hs2 l2 hN hi hl hc hsu r ih =>
        intro w
        obtain ⟨b, hb1, hyes, hno⟩ := w
        refine wpAny_handleBy_cons (codeAny_handlers_test ?_) (by intro q; cases q)
        refine test hc ((PySem.W.exm_one (M := model X.prog X.w) (J3.kIn) LT hb1).here ?_)
        cases b with
        | true =>
          refine codeAny_handlers_suite_as (HandSPX.lands_againZ fl3 fun h4 fl4 up4 => ?_)
          have J4 : Inv X pins σ' H' { s' with heap := h4 } := J.landed nb fl4.1 ((up.trans up3).trans up4) os ag; obtain ⟨oe4, vs4, he4, hz4, hd4⟩ := fl4.there
          have S4 := J4.suite he4 hd4 na nL nF; have y := hyes rfl a na
          refine store_ok (X := X.suite a ((a, oe4) :: (X.pn ++ pins))) (v := .ref a) S4 hN hi (show Loc X.env.scope n from .inl hl) rfl (fun s5 S5 => ?_) (.inr hl)
          refine wpAny_mono ((hsu a oe4 cls d (X.pn ++ pins) hz4 ⟨_, hd4⟩).run [] s5 _ H' _ S5 y) (fun f s6 hsp => ?_) (fun _ _ z => False.elim z)
          have fin : ∀ {σ6 : L2.St} {H6 : Hp} {Q : Shared → Prop}, Inv (X.suite a ((a, oe4) :: (X.pn ++ pins))) [] σ6 H6 s6 → (∀ s7, Inv X pins (σ6.set i none) H6 s7 → Q s7) → wpAny (model X.prog X.w) X.A (do bindName X.env n .none; unbindBehindTheSuite X.env n q) (fun _ s7 => Q s7) X.xe s6 := fun {σ6 H6 Q} S6 hq => gone_ok (S6.unsuite ok) hN hi hl hq
          cases f with
          | ret u => obtain ⟨v6, σ6, H6, S6, r6, q6⟩ := hsp; exact fin S6 fun s7 J7 => ⟨_, _, _, J7, r6, q6⟩
          | next => obtain ⟨σ6, H6, S6, q6⟩ := hsp; exact fin S6 fun s7 J7 => ⟨_, _, J7, q6⟩
          | brk => obtain ⟨σ6, H6, S6, q6⟩ := hsp; exact fin S6 fun s7 J7 => ⟨_, _, J7, q6⟩
          | cont => obtain ⟨σ6, H6, S6, q6⟩ := hsp; exact fin S6 fun s7 J7 => ⟨_, _, J7, q6⟩
        | false => exact ih (hno rfl)
    exact go hh w
  · cases f with
    | ret u => obtain ⟨v, σ', H', J', r, q⟩ := hsp; exact ⟨v, σ', H', J'.ofTry ok, r, q⟩
    | next => obtain ⟨σ', H', J', q⟩ := hsp; exact wpAny_execs_nil ⟨σ', H', J'.ofTry ok, q⟩
    | brk => obtain ⟨σ', H', J', q⟩ := hsp; exact ⟨σ', H', J'.ofTry ok, q⟩
    | cont => obtain ⟨σ', H', J', q⟩ := hsp; exact ⟨σ', H', J'.ofTry ok, q⟩
end
end Many

namespace Z
open PySem L2
/-! range(lo, e) -/
def Rng2K (R : It → Hp → Prop) (vs : List V) (H1 : Hp) : Prop := ∃ i j : Int, vs = [.int i, .int j] ∧ (-(2 ^ 62) ≤ i ∧ i < 2 ^ 62 ∧ -(2 ^ 62) ≤ j ∧ j < 2 ^ 62) ∧ R (Itr i (j - i).toNat) H1
theorem irng2 {a : TA} {σ : L2.St} {H : Hp} {R : It → Hp → Prop} (h : a σ H (Rng2K R)) : iRng2 a σ H R := h
theorem forr2 {σ : L2.St} {H : Hp} {D : Ends} {g : TG} {tb : TS} {lo e : Int} (n : Nat) (he : (e - lo).toNat = n) (hb : -1000000 ≤ lo ∧ lo ≤ 1000000 ∧ -1000000 ≤ e ∧ e ≤ 1000000) (Pv : Nat → L2.St → Hp → Prop) (h0 : Pv 0 σ H)
    (hs : ∀ i σ H, i < n → Pv i σ H → g (.int (lo + (i : Int))) σ H fun σ2 H2 => tb { D with nx := Pv (i + 1), ct := Pv (i + 1), bk := D.nx } σ2 H2) (hd : ∀ σ H, Pv n σ H → D.nx σ H) : Rng2K (ForK g tb D σ) [.int lo, .int e] H := by
  refine ⟨lo, e, rfl, ⟨by omega, by omega, by omega, by omega⟩, ?_⟩
  rw [he]
  exact for_range (lo := lo) (n := n) Pv h0 (fun i σ H1 hi p => hs i σ H1 hi p) hd
end Z

namespace Z
open PySem L2
/-! comprehensions of two clauses, both over lists -/
theorem it_list {K : PySem.W.Frag} {a : Addr} {xs : List V} {H0 : Hp} {R : Hp → Prop} {B : V → (Hp → Prop) → Hp → Prop} (Pv : Nat → Hp → Prop) (h0 : Pv 0 H0) (hl : ∀ i H, i ≤ xs.length → Pv i H → SqL K H a xs)
    (hs : ∀ i x H, xs[i]? = some x → Pv i H → B x (Pv (i + 1)) H) (hd : ∀ H, Pv xs.length H → R H) :
    ∃ W : Nat → Nat → Hp → Prop, (∃ m, W 0 m H0) ∧ ∀ i m H, W i m H →
      ((Itl K a).stop i H ∧ R H) ∨ ((Itl K a).go i H ∧ ∃ Nx : Hp → Prop, (∀ H', Nx H' → ∃ m', m' < m ∧ W (i + 1) m' H') ∧ ∀ x H', (Itl K a).yld i H x H' → B x Nx H') := by
  refine ⟨fun i m H => m = xs.length - i ∧ i ≤ xs.length ∧ Pv i H, ⟨xs.length, by simp, Nat.zero_le _, h0⟩, ?_⟩
  rintro i m H ⟨rfl, hi, p⟩
  have q := hl i H hi p
  by_cases hlt : i < xs.length
  · refine .inr ⟨⟨xs, xs[i], q, by simp [hlt]⟩, Pv (i + 1), fun H' p' => ⟨xs.length - (i + 1), by omega, rfl, hlt, p'⟩, fun x H' y => ?_⟩
    obtain ⟨e, y⟩ := y
    subst e
    exact hs i x _ (y xs q) p
  · have e : i = xs.length := by omega
    subst e
    exact .inl ⟨⟨xs, q, Nat.le_refl _⟩, hd H p⟩
def In2K (g1 : TG) (tt1 : TT) (te : TE) (vs1 : List Nat) (σ2 : L2.St) (D : Addr) (Nx : Hp → Prop) (J1 : It) (H4 : Hp) : Prop := ∃ W1 : Nat → Nat → Hp → Prop, (∃ m, W1 0 m H4) ∧ ∀ j k H, W1 j k H →
      (J1.stop j H ∧ Nx H) ∨ (J1.go j H ∧ ∃ Nx1 : Hp → Prop, (∀ H', Nx1 H' → ∃ k', k' < k ∧ W1 (j + 1) k' H') ∧ ∀ x H', J1.yld j H x H' → g1 x (wipe σ2 vs1) H' fun σ3 H5 => wipe σ3 vs1 = wipe σ2 vs1 ∧ tt1 σ3 H5 fun b H6 =>
        if b = true then te σ3 H6 fun y H7 => ∃ acc, H7 D = some (.lst acc) ∧ acc.length < sizeLine ∧ Nx1 (upd H7 D (.lst (acc ++ [y]))) else Nx1 H6)
def Lc2K (g : TG) (tt : TT) (wi1 : TI) (g1 : TG) (tt1 : TT) (te : TE) (vs vs1 : List Nat) (σ : L2.St) (Q : VK) (J : It) (H1 : Hp) : Prop := ∀ D, H1 D = none → ∃ W : Nat → Nat → Hp → Prop, (∃ m, W 0 m (upd H1 D (.lst []))) ∧ ∀ i m H, W i m H →
  (J.stop i H ∧ Q (.ref D) H) ∨ (J.go i H ∧ ∃ Nx : Hp → Prop, (∀ H', Nx H' → ∃ m', m' < m ∧ W (i + 1) m' H') ∧ ∀ x H', J.yld i H x H' → g x (wipe σ vs) H' fun σ2 H2 => wipe σ2 vs = wipe σ vs ∧ tt σ2 H2 fun b H3 =>
    if b = true then wi1 σ2 H3 (In2K g1 tt1 te vs1 σ2 D Nx) else Nx H3)
theorem lc2 {wi wi1 : TI} {g g1 : TG} {tt tt1 : TT} {te : TE} {vs vs1 : List Nat} {σ : L2.St} {H : Hp} {Q : VK} (h : wi σ H (Lc2K g tt wi1 g1 tt1 te vs vs1 σ Q)) : tLc2 wi g tt wi1 g1 tt1 te vs vs1 σ H Q := h
theorem lc2l {K : PySem.W.Frag} {wi1 : TI} {g g1 : TG} {tt tt1 : TT} {te : TE} {vs vs1 : List Nat} {σ : L2.St} {H : Hp} {Q : VK} {a : Addr} (xs : List V) (hS : SqL K H a xs) (Pv : Addr → Nat → Hp → Prop) (h0 : ∀ D H1, H D = none → Kp [] H H1 → H1 D = some (.lst []) → Pv D 0 H1)
    (hl : ∀ D i H1, H D = none → i ≤ xs.length → Pv D i H1 → SqL K H1 a xs)
    (hs : ∀ D i x H1, H D = none → xs[i]? = some x → Pv D i H1 → g x (wipe σ vs) H1 fun σ2 H2 => wipe σ2 vs = wipe σ vs ∧ tt σ2 H2 fun b H3 => if b = true then wi1 σ2 H3 (In2K g1 tt1 te vs1 σ2 D (Pv D (i + 1))) else Pv D (i + 1) H3)
    (hd : ∀ D H1, H D = none → Pv D xs.length H1 → Q (.ref D) H1) : ListK K (Lc2K g tt wi1 g1 tt1 te vs vs1 σ Q) (.ref a) H :=
  ⟨a, rfl, ⟨xs, hS⟩, fun D hD => it_list (K := K) (a := a) (xs := xs) (R := fun H1 => Q (.ref D) H1) (B := fun x Nx H' => g x (wipe σ vs) H' fun σ2 H2 => wipe σ2 vs = wipe σ vs ∧ tt σ2 H2 fun b H3 => if b = true then wi1 σ2 H3 (In2K g1 tt1 te vs1 σ2 D Nx) else Nx H3) (Pv D) (h0 D _ hD (Kp.new hD) upd_same) (fun i H1 hi p => hl D i H1 hD hi p) (fun i x H1 hx p => hs D i x H1 hD hx p) fun H1 p => hd D H1 hD p⟩
theorem in2l {K : PySem.W.Frag} {g1 : TG} {tt1 : TT} {te : TE} {vs1 : List Nat} {σ2 : L2.St} {H : Hp} {D : Addr} {Nx : Hp → Prop} {a : Addr} (ys : List V) (hS : SqL K H a ys) (Pv : Nat → Hp → Prop) (h0 : Pv 0 H) (hl : ∀ i H1, i ≤ ys.length → Pv i H1 → SqL K H1 a ys)
    (hs : ∀ j y H1, ys[j]? = some y → Pv j H1 → g1 y (wipe σ2 vs1) H1 fun σ3 H5 => wipe σ3 vs1 = wipe σ2 vs1 ∧ tt1 σ3 H5 fun b H6 => if b = true then te σ3 H6 fun z H7 => ∃ acc, H7 D = some (.lst acc) ∧ acc.length < sizeLine ∧ Pv (j + 1) (upd H7 D (.lst (acc ++ [z]))) else Pv (j + 1) H6)
    (hd : ∀ H1, Pv ys.length H1 → Nx H1) : ListK K (In2K g1 tt1 te vs1 σ2 D Nx) (.ref a) H :=
  ⟨a, rfl, ⟨ys, hS⟩, it_list (K := K) (a := a) (xs := ys) (R := Nx) (B := fun x Nx1 H' => g1 x (wipe σ2 vs1) H' fun σ3 H5 => wipe σ3 vs1 = wipe σ2 vs1 ∧ tt1 σ3 H5 fun b H6 => if b = true then te σ3 H6 fun y H7 => ∃ acc, H7 D = some (.lst acc) ∧ acc.length < sizeLine ∧ Nx1 (upd H7 D (.lst (acc ++ [y]))) else Nx1 H6) Pv h0 hl hs hd⟩
end Z

/-! ### xs[i] += y; comprehensions over range(lo, hi) -/
namespace Z
open PySem L2 PySem.Spec PyProof.Rows
theorem pget_list {X : Cx} : PGet X (rIxL X.K) := by
  rintro pins s σ H _ _ v u Q I rx ry ⟨p, xs, i, z, rfl, rfl, hS, hz, q⟩
  obtain rfl : v = Value.ref p := by cases rx; rfl
  obtain ⟨tok, rfl⟩ := ry
  have ⟨items, vals, plain, _⟩ := I.list hS
  have ⟨k, k1, k2, k3, k4, k5⟩ := atI_get hz
  have ⟨val, hval, rel⟩ := vals.get k2
  have len := vals.length
  have big := line63
  have done : EP X pins σ Q val s := ⟨z, H, I, rel, q⟩
  rcases Int.lt_or_le i 0 with neg | pos
  · rw [seqIndex_neg neg k4] at k1
    have ek := Option.some.inj k1
    refine wpAny_getItem_list_neg plain.isList neg (by rw [List.size_toArray]; omega) (by omega) ?_ done
    rw [List.size_toArray, ← len, ek]
    simpa using hval
  · rw [seqIndex_of pos k5] at k1
    have ek := Option.some.inj k1
    refine wpAny_getItem_list plain.isList pos (by omega) ?_ done
    rw [ek]
    simpa using hval
theorem augs {σ : L2.St} {H : Hp} {D : Ends} {to ti te : TE} {tget : V → V → Hp → VK → Prop} {tip : TIp} {tset : TSet} (h : to σ H fun o H1 => ti σ H1 fun i H2 => tget o i H2 fun x H3 => te σ H3 fun y H4 => tip x y H4 fun z H5 => tset o i z H5 fun H6 => D.nx σ H6) : tAugS to ti te tget tip tset D σ H := h
theorem lcr2 {σ : L2.St} {H : Hp} {Q : VK} {te : TE} {g : TG} {tt : TT} {vs : List Nat} {lo e : Int} (n : Nat) (he : (e - lo).toNat = n) (hb : -1000000 ≤ lo ∧ lo ≤ 1000000 ∧ -1000000 ≤ e ∧ e ≤ 1000000) (Pv : Addr → Nat → Hp → Prop) (h0 : ∀ D H1, H D = none → Kp [] H H1 → H1 D = some (.lst []) → Pv D 0 H1)
    (hs : ∀ D i H1, H D = none → i < n → Pv D i H1 → g (.int (lo + (i : Int))) (wipe σ vs) H1 fun σ2 H2 => wipe σ2 vs = wipe σ vs ∧ tt σ2 H2 fun b H3 => if b = true then te σ2 H3 fun y H4 => ∃ acc, H4 D = some (.lst acc) ∧ acc.length < sizeLine ∧ Pv D (i + 1) (upd H4 D (.lst (acc ++ [y]))) else Pv D (i + 1) H3)
    (hd : ∀ D H1, H D = none → Pv D n H1 → Q (.ref D) H1) : Rng2K (LcK g tt te vs σ Q) [.int lo, .int e] H := by
  refine ⟨lo, e, rfl, ⟨by omega, by omega, by omega, by omega⟩, ?_⟩
  rw [he]
  exact fun D hD => lc_it (walk_range (lo := lo) (n := n)) (Pv D) (h0 D _ hD (Kp.new hD) upd_same) (fun _ _ _ _ => trivial) (fun i v H H' hi p y => by
    obtain ⟨rfl, rfl⟩ := y
    exact hs D i _ hD hi p) fun H1 p => hd D H1 hD p
end Z

/-! ### sorted of data that are alike -/
namespace RL
open PySem PySem.Spec PyProof.Rows L2 PySem.W
def DBs := List (V × PyData)
def rSortedD (K : PySem.W.Frag) : List V → Hp → VK → Prop := fun vs H Q => ∃ (a : Addr) (bs : List (V × PyData)), vs = [V.ref a] ∧ SqL K H a (bs.map Prod.fst) ∧ (∀ b ∈ bs, Dp K H b.1 b.2) ∧ AllAlike (bs.map Prod.snd) ∧ Sortable (bs.map Prod.snd) ∧ (∀ b ∈ bs, b.2.depth ≤ 60) ∧
  ∀ p, H p = none → Q (.ref p) (upd H p (.lst ((bs.mergeSort (dataLe false Prod.snd)).map Prod.fst)))
theorem each_vals : ∀ {bs : List (V × PyData)} {us : List Value}, Vals (bs.map Prod.fst) us → EachIs (fun (v : Value) (b : V × PyData) => RelV b.1 v) us bs
  | [], us, h => by cases h; exact .nil
  | b :: r, us, h => by
    cases h with
    | cons h1 h2 => exact .cons h1 (each_vals h2)
theorem vals_each : ∀ {bs : List (V × PyData)} {us : List Value}, EachIs (fun (v : Value) (b : V × PyData) => RelV b.1 v) us bs → Vals (bs.map Prod.fst) us
  | _, _, .nil => .nil
  | _, _, .cons h1 h2 => .cons h1 (vals_each h2)
theorem each_and {α β : Type} {R : α → β → Prop} {P : β → Prop} {S : α → β → Prop} (hS : ∀ a b, R a b → P b → S a b) : ∀ {as : List α} {bs : List β}, EachIs R as bs → (∀ b ∈ bs, P b) → EachIs S as bs
  | _, _, .nil, _ => .nil
  | _, _, .cons h1 h2, hp => .cons (hS _ _ h1 (hp _ (by simp))) (each_and hS h2 fun b hb => hp b (by simp [hb]))
theorem cr_sortedD {X : Cx} (hu : X.A.units + 64 < cLine) : CallR X (.builtin "sorted") (rSortedD X.K) := by
  intro pins s σ H vs us Q I r h
  obtain ⟨a, bs, rfl, hs, hD, hal, hk, hd, q⟩ := h
  obtain ⟨its, rv, hl, hz⟩ := I.list hs
  rw [Vals.ref1 r]
  have e := each_vals rv
  have er : EachIs (fun (v : Value) (b : V × PyData) => ∃ as, Reads s.heap v b.2 as) its bs := each_and (P := fun (b : V × PyData) => Dp X.K H b.1 b.2) (fun v b h1 h2 => Dp.reads I _ _ _ h2 h1) e hD
  have hL : bs.length ≤ sizeLine := by rw [List.length_map] at hz; exact hz
  refine sorted_data (enc := Prod.snd) (R := fun (v : Value) (b : V × PyData) => RelV b.1 v) hl.isList e er hal hk hL (fun b hb => by have := hd b hb; omega) fun out hlen ho => ?_
  obtain ⟨ep, he'⟩ := PyProof.Rows.sortedAll_at s.heap its out.toArray
  have hlen2 : ((bs.mergeSort (dataLe false Prod.snd)).map Prod.fst).length ≤ sizeLine := by rw [List.length_map, List.length_mergeSort]; exact hL
  exact ⟨.ref _, upd H (s.heap.objs.size + 1) (.lst ((bs.mergeSort (dataLe false Prod.snd)).map Prod.fst)), I.laid (t' := s.toks) (fun _ _ => PyProof.Rows.sortedAll_old) (Nat.le_succ _) ⟨hlen2, out, ep, vals_each ho, he'⟩, rfl, q _ (I.hok.fresh (Nat.le_succ _))⟩
end RL

namespace Z
open PySem L2
/-- what is never reached -/
def tDead : TS := fun _ _ _ => False
theorem ps_dead {X : Cx} {s : Stmt} : PS X s tDead := ⟨fun _ _ _ _ _ _ h => h.elim⟩
theorem u65 {k : Nat} {A : Around} (hr : Room k A) : A.units + 65 < cLine := by have := hr.un; omega
end Z


namespace K30
open PySem L2 Z
def topS (i : Nat) : Stmt := PySem.Challenge.pw_samphire_k30_optimal_samples_as_objects.main.body.getD i (.Pass ⟨0, 0, 0, 0⟩)
abbrev s_lowest : Stmt := topS 10
abbrev N_lowest : List Str := ["p", "q", "common"]
theorem sc_lowest : FnScope N_lowest ["p", "q"] (defScope s_lowest) := ⟨rfl, rfl, rfl, by decide +kernel, rfl, by decide +kernel, by decide +kernel⟩
abbrev s_plus : Stmt := topS 11
abbrev N_plus : List Str := ["a", "b"]
theorem sc_plus : FnScope N_plus ["a", "b"] (defScope s_plus) := ⟨rfl, rfl, rfl, by decide +kernel, rfl, by decide +kernel, by decide +kernel⟩
abbrev s_sum_of : Stmt := topS 15
abbrev N_sum_of : List Str := ["fractions", "total", "fraction"]
theorem sc_sum_of : FnScope N_sum_of ["fractions"] (defScope s_sum_of) := ⟨rfl, rfl, rfl, by decide +kernel, rfl, by decide +kernel, by decide +kernel⟩
abbrev s_check_size : Stmt := topS 20
abbrev N_check_size : List Str := ["size"]
theorem sc_check_size : FnScope N_check_size ["size"] (defScope s_check_size) := ⟨rfl, rfl, rfl, by decide +kernel, rfl, by decide +kernel, by decide +kernel⟩
abbrev s_least_twice : Stmt := topS 21
abbrev N_least_twice : List Str := ["names", "ordered", "place"]
theorem sc_least_twice : FnScope N_least_twice ["names"] (defScope s_least_twice) := ⟨rfl, rfl, rfl, by decide +kernel, rfl, by decide +kernel, by decide +kernel⟩
abbrev s_check_keys : Stmt := topS 22
abbrev N_check_keys : List Str := ["samples", "key", "sample", "item"]
theorem sc_check_keys : FnScope N_check_keys ["samples"] (defScope s_check_keys) := ⟨rfl, rfl, rfl, by decide +kernel, rfl, by decide +kernel, by decide +kernel⟩
abbrev s_Optimal_init : Stmt := inClass (topS 28) 0
abbrev N_Optimal_init : List Str := ["self", "size", "parts", "item", "adjusted"]
theorem sc_Optimal_init : FnScope N_Optimal_init ["self", "size", "parts"] (defScope s_Optimal_init) := ⟨rfl, rfl, rfl, by decide +kernel, rfl, by decide +kernel, by decide +kernel⟩
abbrev s_Optimal_empty : Stmt := inClass (topS 28) 1
abbrev N_Optimal_empty : List Str := ["cls", "size"]
theorem sc_Optimal_empty : FnScope N_Optimal_empty ["cls", "size"] (defScope s_Optimal_empty) := ⟨rfl, rfl, rfl, by decide +kernel, rfl, by decide +kernel, by decide +kernel⟩
abbrev s_Optimal_single : Stmt := inClass (topS 28) 2
abbrev N_Optimal_single : List Str := ["cls", "item", "size"]
theorem sc_Optimal_single : FnScope N_Optimal_single ["cls", "item", "size"] (defScope s_Optimal_single) := ⟨rfl, rfl, rfl, by decide +kernel, rfl, by decide +kernel, by decide +kernel⟩
abbrev s_Optimal_merge : Stmt := inClass (topS 28) 3
abbrev N_Optimal_merge : List Str := ["self", "other", "dice", "pairs"]
theorem sc_Optimal_merge : FnScope N_Optimal_merge ["self", "other", "dice"] (defScope s_Optimal_merge) := ⟨rfl, rfl, rfl, by decide +kernel, rfl, by decide +kernel, by decide +kernel⟩
abbrev s_Optimal_adjusted_sum : Stmt := inClass (topS 28) 4
abbrev N_Optimal_adjusted_sum : List Str := ["self", "item", "adjusted"]
theorem sc_Optimal_adjusted_sum : FnScope N_Optimal_adjusted_sum ["self"] (defScope s_Optimal_adjusted_sum) := ⟨rfl, rfl, rfl, by decide +kernel, rfl, by decide +kernel, by decide +kernel⟩
abbrev s_Optimal_view : Stmt := inClass (topS 28) 5
abbrev N_Optimal_view : List Str := ["self"]
theorem sc_Optimal_view : FnScope N_Optimal_view ["self"] (defScope s_Optimal_view) := ⟨rfl, rfl, rfl, by decide +kernel, rfl, by decide +kernel, by decide +kernel⟩
abbrev s_number_at : Stmt := topS 30
abbrev N_number_at : List Str := ["weights", "place", "number", "left"]
theorem sc_number_at : FnScope N_number_at ["weights", "place"] (defScope s_number_at) := ⟨rfl, rfl, rfl, by decide +kernel, rfl, by decide +kernel, by decide +kernel⟩
abbrev s_Tape_init : Stmt := inClass (topS 31) 0
abbrev N_Tape_init : List Str := ["self", "numbers"]
theorem sc_Tape_init : FnScope N_Tape_init ["self", "numbers"] (defScope s_Tape_init) := ⟨rfl, rfl, rfl, by decide +kernel, rfl, by decide +kernel, by decide +kernel⟩
abbrev s_Tape_pick : Stmt := inClass (topS 31) 1
abbrev N_Tape_pick : List Str := ["self", "weights", "place", "picked"]
theorem sc_Tape_pick : FnScope N_Tape_pick ["self", "weights"] (defScope s_Tape_pick) := ⟨rfl, rfl, rfl, by decide +kernel, rfl, by decide +kernel, by decide +kernel⟩
abbrev s_Tape_used : Stmt := inClass (topS 31) 2
abbrev N_Tape_used : List Str := ["self"]
theorem sc_Tape_used : FnScope N_Tape_used ["self"] (defScope s_Tape_used) := ⟨rfl, rfl, rfl, by decide +kernel, rfl, by decide +kernel, by decide +kernel⟩
abbrev s_Uniform_init : Stmt := inClass (topS 33) 0
abbrev N_Uniform_init : List Str := ["self", "size", "seen", "kept"]
theorem sc_Uniform_init : FnScope N_Uniform_init ["self", "size", "seen", "kept"] (defScope s_Uniform_init) := ⟨rfl, rfl, rfl, by decide +kernel, rfl, by decide +kernel, by decide +kernel⟩
abbrev s__law_mix : Stmt := topS 36
abbrev N__law_mix : List Str := ["number", "k"]
theorem sc__law_mix : FnScope N__law_mix ["number", "k"] (defScope s__law_mix) := ⟨rfl, rfl, rfl, by decide +kernel, rfl, by decide +kernel, by decide +kernel⟩
abbrev s__law_numbers : Stmt := topS 37
abbrev N__law_numbers : List Str := ["script", "count", "row", "base", "cell", "rest", "k"]
theorem sc__law_numbers : FnScope N__law_numbers ["script", "count"] (defScope s__law_numbers) := ⟨rfl, rfl, rfl, by decide +kernel, rfl, by decide +kernel, by decide +kernel⟩
abbrev s__law_take : Stmt := topS 38
abbrev N__law_take : List Str := ["row", "bound"]
theorem sc__law_take : FnScope N__law_take ["row", "bound"] (defScope s__law_take) := ⟨rfl, rfl, rfl, by decide +kernel, rfl, by decide +kernel, by decide +kernel⟩
abbrev s__law_low : Stmt := topS 39
abbrev N__law_low : List Str := ["p", "q", "first", "second", "turn"]
theorem sc__law_low : FnScope N__law_low ["p", "q"] (defScope s__law_low) := ⟨rfl, rfl, rfl, by decide +kernel, rfl, by decide +kernel, by decide +kernel⟩
abbrev s__law_plus : Stmt := topS 40
abbrev N__law_plus : List Str := ["one", "other"]
theorem sc__law_plus : FnScope N__law_plus ["one", "other"] (defScope s__law_plus) := ⟨rfl, rfl, rfl, by decide +kernel, rfl, by decide +kernel, by decide +kernel⟩
abbrev s__law_sum : Stmt := topS 44
abbrev N__law_sum : List Str := ["rows", "whole", "one"]
theorem sc__law_sum : FnScope N__law_sum ["rows"] (defScope s__law_sum) := ⟨rfl, rfl, rfl, by decide +kernel, rfl, by decide +kernel, by decide +kernel⟩
abbrev s__law_items : Stmt := topS 45
abbrev N__law_items : List Str := ["row", "many", "found", "k", "weight"]
theorem sc__law_items : FnScope N__law_items ["row", "many"] (defScope s__law_items) := ⟨rfl, rfl, rfl, by decide +kernel, rfl, by decide +kernel, by decide +kernel⟩
abbrev s__law_parts : Stmt := topS 46
abbrev N__law_parts : List Str := ["row", "things", "item"]
theorem sc__law_parts : FnScope N__law_parts ["row", "things"] (defScope s__law_parts) := ⟨rfl, rfl, rfl, by decide +kernel, rfl, by decide +kernel, by decide +kernel⟩
abbrev s__law_made : Stmt := topS 47
abbrev N__law_made : List Str := ["item", "size", "is_single", "error"]
theorem sc__law_made : FnScope N__law_made ["item", "size", "is_single"] (defScope s__law_made) := ⟨rfl, rfl, rfl, by decide +kernel, rfl, by decide +kernel, by decide +kernel⟩
abbrev s__law_merged : Stmt := topS 48
abbrev N__law_merged : List Str := ["one", "other", "tape", "error"]
theorem sc__law_merged : FnScope N__law_merged ["one", "other", "tape"] (defScope s__law_merged) := ⟨rfl, rfl, rfl, by decide +kernel, rfl, by decide +kernel, by decide +kernel⟩
abbrev s_law : Stmt := topS 49
abbrev N_law : List Str := ["script", "row", "things", "size", "due", "k", "first", "second", "given", "one", "other", "shared", "wanted", "tape", "pair", "found"]
theorem sc_law : FnScope N_law ["script"] (defScope s_law) := ⟨rfl, rfl, rfl, by decide +kernel, rfl, by decide +kernel, by decide +kernel⟩
abbrev s_InvalidSize_init : Stmt := inClass (topS 3) 0
abbrev N_InvalidSize_init : List Str := ["self", "size", "__class__"]
theorem sc_InvalidSize_init : NdefX.NScope N_InvalidSize_init ["self", "size"] ["__class__"] (defScope s_InvalidSize_init) := NdefX.nscope_by (by decide +kernel)
abbrev NF_InvalidSize (cc c : Addr) : NdefX.NF := ⟨"__init__", "InvalidSize.__init__", defArgs s_InvalidSize_init, defBody s_InvalidSize_init, defScope s_InvalidSize_init, [(("__class__" : Str), cc)], c⟩
abbrev s_SharedKey_init : Stmt := inClass (topS 4) 0
abbrev N_SharedKey_init : List Str := ["self", "key", "__class__"]
theorem sc_SharedKey_init : NdefX.NScope N_SharedKey_init ["self", "key"] ["__class__"] (defScope s_SharedKey_init) := NdefX.nscope_by (by decide +kernel)
abbrev NF_SharedKey (cc c : Addr) : NdefX.NF := ⟨"__init__", "SharedKey.__init__", defArgs s_SharedKey_init, defBody s_SharedKey_init, defScope s_SharedKey_init, [(("__class__" : Str), cc)], c⟩
abbrev s_WrongKind_init : Stmt := inClass (topS 5) 0
abbrev N_WrongKind_init : List Str := ["self", "__class__"]
theorem sc_WrongKind_init : NdefX.NScope N_WrongKind_init ["self"] ["__class__"] (defScope s_WrongKind_init) := NdefX.nscope_by (by decide +kernel)
abbrev NF_WrongKind (cc c : Addr) : NdefX.NF := ⟨"__init__", "WrongKind.__init__", defArgs s_WrongKind_init, defBody s_WrongKind_init, defScope s_WrongKind_init, [(("__class__" : Str), cc)], c⟩
abbrev s_ZeroDenominator_init : Stmt := inClass (topS 6) 0
abbrev N_ZeroDenominator_init : List Str := ["self", "__class__"]
theorem sc_ZeroDenominator_init : NdefX.NScope N_ZeroDenominator_init ["self"] ["__class__"] (defScope s_ZeroDenominator_init) := NdefX.nscope_by (by decide +kernel)
abbrev NF_ZeroDenominator (cc c : Addr) : NdefX.NF := ⟨"__init__", "ZeroDenominator.__init__", defArgs s_ZeroDenominator_init, defBody s_ZeroDenominator_init, defScope s_ZeroDenominator_init, [(("__class__" : Str), cc)], c⟩
set_option maxHeartbeats 4000000 in
structure T (P : Program) (K : PySem.W.Frag) (mg : Str → Option Value) where
  a_lowest : Addr
  fd_lowest : FuncData
  F_lowest : Fun K "lowest" "lowest" s_lowest a_lowest fd_lowest
  b_lowest : Binds K fd_lowest ["p", "q"] []
  g_lowest : mg "lowest" = some (.ref a_lowest)
  a_plus : Addr
  fd_plus : FuncData
  F_plus : Fun K "plus" "plus" s_plus a_plus fd_plus
  b_plus : Binds K fd_plus ["a", "b"] []
  g_plus : mg "plus" = some (.ref a_plus)
  a_sum_of : Addr
  fd_sum_of : FuncData
  F_sum_of : Fun K "sum_of" "sum_of" s_sum_of a_sum_of fd_sum_of
  b_sum_of : Binds K fd_sum_of ["fractions"] []
  g_sum_of : mg "sum_of" = some (.ref a_sum_of)
  a_check_size : Addr
  fd_check_size : FuncData
  F_check_size : Fun K "check_size" "check_size" s_check_size a_check_size fd_check_size
  b_check_size : Binds K fd_check_size ["size"] []
  g_check_size : mg "check_size" = some (.ref a_check_size)
  a_least_twice : Addr
  fd_least_twice : FuncData
  F_least_twice : Fun K "least_twice" "least_twice" s_least_twice a_least_twice fd_least_twice
  b_least_twice : Binds K fd_least_twice ["names"] []
  g_least_twice : mg "least_twice" = some (.ref a_least_twice)
  a_check_keys : Addr
  fd_check_keys : FuncData
  F_check_keys : Fun K "check_keys" "check_keys" s_check_keys a_check_keys fd_check_keys
  b_check_keys : Binds K fd_check_keys ["samples"] []
  g_check_keys : mg "check_keys" = some (.ref a_check_keys)
  a_Optimal_init : Addr
  fd_Optimal_init : FuncData
  F_Optimal_init : Fun K "__init__" "Optimal.__init__" s_Optimal_init a_Optimal_init fd_Optimal_init
  b_Optimal_init : Binds K fd_Optimal_init ["self", "size", "parts"] []
  a_Optimal_empty : Addr
  fd_Optimal_empty : FuncData
  F_Optimal_empty : Fun K "empty" "Optimal.empty" s_Optimal_empty a_Optimal_empty fd_Optimal_empty
  b_Optimal_empty : Binds K fd_Optimal_empty ["cls", "size"] []
  a_Optimal_single : Addr
  fd_Optimal_single : FuncData
  F_Optimal_single : Fun K "single" "Optimal.single" s_Optimal_single a_Optimal_single fd_Optimal_single
  b_Optimal_single : Binds K fd_Optimal_single ["cls", "item", "size"] []
  a_Optimal_merge : Addr
  fd_Optimal_merge : FuncData
  F_Optimal_merge : Fun K "merge" "Optimal.merge" s_Optimal_merge a_Optimal_merge fd_Optimal_merge
  b_Optimal_merge : Binds K fd_Optimal_merge ["self", "other", "dice"] []
  a_Optimal_adjusted_sum : Addr
  fd_Optimal_adjusted_sum : FuncData
  F_Optimal_adjusted_sum : Fun K "adjusted_sum" "Optimal.adjusted_sum" s_Optimal_adjusted_sum a_Optimal_adjusted_sum fd_Optimal_adjusted_sum
  b_Optimal_adjusted_sum : Binds K fd_Optimal_adjusted_sum ["self"] []
  a_Optimal_view : Addr
  fd_Optimal_view : FuncData
  F_Optimal_view : Fun K "view" "Optimal.view" s_Optimal_view a_Optimal_view fd_Optimal_view
  b_Optimal_view : Binds K fd_Optimal_view ["self"] []
  a_number_at : Addr
  fd_number_at : FuncData
  F_number_at : Fun K "number_at" "number_at" s_number_at a_number_at fd_number_at
  b_number_at : Binds K fd_number_at ["weights", "place"] []
  g_number_at : mg "number_at" = some (.ref a_number_at)
  a_Tape_init : Addr
  fd_Tape_init : FuncData
  F_Tape_init : Fun K "__init__" "Tape.__init__" s_Tape_init a_Tape_init fd_Tape_init
  b_Tape_init : Binds K fd_Tape_init ["self", "numbers"] []
  a_Tape_pick : Addr
  fd_Tape_pick : FuncData
  F_Tape_pick : Fun K "pick" "Tape.pick" s_Tape_pick a_Tape_pick fd_Tape_pick
  b_Tape_pick : Binds K fd_Tape_pick ["self", "weights"] []
  a_Tape_used : Addr
  fd_Tape_used : FuncData
  F_Tape_used : Fun K "used" "Tape.used" s_Tape_used a_Tape_used fd_Tape_used
  b_Tape_used : Binds K fd_Tape_used ["self"] []
  a_Uniform_init : Addr
  fd_Uniform_init : FuncData
  F_Uniform_init : Fun K "__init__" "Uniform.__init__" s_Uniform_init a_Uniform_init fd_Uniform_init
  b_Uniform_init : Binds K fd_Uniform_init ["self", "size", "seen", "kept"] []
  a__law_mix : Addr
  fd__law_mix : FuncData
  F__law_mix : Fun K "_law_mix" "_law_mix" s__law_mix a__law_mix fd__law_mix
  b__law_mix : Binds K fd__law_mix ["number", "k"] []
  g__law_mix : mg "_law_mix" = some (.ref a__law_mix)
  a__law_numbers : Addr
  fd__law_numbers : FuncData
  F__law_numbers : Fun K "_law_numbers" "_law_numbers" s__law_numbers a__law_numbers fd__law_numbers
  b__law_numbers : Binds K fd__law_numbers ["script", "count"] []
  g__law_numbers : mg "_law_numbers" = some (.ref a__law_numbers)
  a__law_take : Addr
  fd__law_take : FuncData
  F__law_take : Fun K "_law_take" "_law_take" s__law_take a__law_take fd__law_take
  b__law_take : Binds K fd__law_take ["row", "bound"] []
  g__law_take : mg "_law_take" = some (.ref a__law_take)
  a__law_low : Addr
  fd__law_low : FuncData
  F__law_low : Fun K "_law_low" "_law_low" s__law_low a__law_low fd__law_low
  b__law_low : Binds K fd__law_low ["p", "q"] []
  g__law_low : mg "_law_low" = some (.ref a__law_low)
  a__law_plus : Addr
  fd__law_plus : FuncData
  F__law_plus : Fun K "_law_plus" "_law_plus" s__law_plus a__law_plus fd__law_plus
  b__law_plus : Binds K fd__law_plus ["one", "other"] []
  g__law_plus : mg "_law_plus" = some (.ref a__law_plus)
  a__law_sum : Addr
  fd__law_sum : FuncData
  F__law_sum : Fun K "_law_sum" "_law_sum" s__law_sum a__law_sum fd__law_sum
  b__law_sum : Binds K fd__law_sum ["rows"] []
  g__law_sum : mg "_law_sum" = some (.ref a__law_sum)
  a__law_items : Addr
  fd__law_items : FuncData
  F__law_items : Fun K "_law_items" "_law_items" s__law_items a__law_items fd__law_items
  b__law_items : Binds K fd__law_items ["row", "many"] []
  g__law_items : mg "_law_items" = some (.ref a__law_items)
  a__law_parts : Addr
  fd__law_parts : FuncData
  F__law_parts : Fun K "_law_parts" "_law_parts" s__law_parts a__law_parts fd__law_parts
  b__law_parts : Binds K fd__law_parts ["row", "things"] []
  g__law_parts : mg "_law_parts" = some (.ref a__law_parts)
  a__law_made : Addr
  fd__law_made : FuncData
  F__law_made : Fun K "_law_made" "_law_made" s__law_made a__law_made fd__law_made
  b__law_made : Binds K fd__law_made ["item", "size", "is_single"] []
  g__law_made : mg "_law_made" = some (.ref a__law_made)
  a__law_merged : Addr
  fd__law_merged : FuncData
  F__law_merged : Fun K "_law_merged" "_law_merged" s__law_merged a__law_merged fd__law_merged
  b__law_merged : Binds K fd__law_merged ["one", "other", "tape"] []
  g__law_merged : mg "_law_merged" = some (.ref a__law_merged)
  a_law : Addr
  fd_law : FuncData
  F_law : Fun K "law" "law" s_law a_law fd_law
  b_law : Binds K fd_law ["script"] []
  g_law : mg "law" = some (.ref a_law)
  C_Optimal : Addr
  cl_Optimal : Cls K C_Optimal
  mg_Optimal : mg "Optimal" = some (.ref C_Optimal)
  mk_Optimal : Mk K C_Optimal a_Optimal_init
  na_Optimal_size : NoAttr K C_Optimal "size"
  na_Optimal_parts : NoAttr K C_Optimal "parts"
  na_Optimal_kept : NoAttr K C_Optimal "kept"
  p_Optimal_empty : Addr
  cm_Optimal_empty : ClX.CMet K C_Optimal (.type "type") "empty" p_Optimal_empty a_Optimal_empty
  p_Optimal_single : Addr
  cm_Optimal_single : ClX.CMet K C_Optimal (.type "type") "single" p_Optimal_single a_Optimal_single
  me_Optimal_merge : Meth K C_Optimal "merge" a_Optimal_merge
  me_Optimal_adjusted_sum : Meth K C_Optimal "adjusted_sum" a_Optimal_adjusted_sum
  me_Optimal_view : Meth K C_Optimal "view" a_Optimal_view
  cr_Optimal : ClX.CRead K C_Optimal (.type "type")
  C_Tape : Addr
  cl_Tape : Cls K C_Tape
  mg_Tape : mg "Tape" = some (.ref C_Tape)
  mk_Tape : Mk K C_Tape a_Tape_init
  na_Tape__numbers : NoAttr K C_Tape "_numbers"
  na_Tape__picks : NoAttr K C_Tape "_picks"
  me_Tape_pick : Meth K C_Tape "pick" a_Tape_pick
  me_Tape_used : Meth K C_Tape "used" a_Tape_used
  C_Uniform : Addr
  cl_Uniform : Cls K C_Uniform
  mg_Uniform : mg "Uniform" = some (.ref C_Uniform)
  mk_Uniform : Mk K C_Uniform a_Uniform_init
  na_Uniform_size : NoAttr K C_Uniform "size"
  na_Uniform_seen : NoAttr K C_Uniform "seen"
  na_Uniform_kept : NoAttr K C_Uniform "kept"
  C_SamphireError : Addr
  mg_SamphireError : mg "SamphireError" = some (.ref C_SamphireError)
  C_InvalidSize : Addr
  a_InvalidSize_init : Addr
  c_InvalidSize : Addr
  cc_InvalidSize : Addr
  x_InvalidSize : Sup.ExcT P K mg "InvalidSize" C_InvalidSize a_InvalidSize_init c_InvalidSize cc_InvalidSize
  doc_InvalidSize : Value
  pm_InvalidSize : Value
  ctv_InvalidSize : Value
  oc_InvalidSize : Value
  od_InvalidSize : Option Addr
  osl_InvalidSize : Array (Option Value)
  lk_InvalidSize : K.lookup a_InvalidSize_init = some ⟨oc_InvalidSize, od_InvalidSize, .func ((NF_InvalidSize cc_InvalidSize c_InvalidSize).fd doc_InvalidSize pm_InvalidSize ctv_InvalidSize), osl_InvalidSize⟩
  hc_InvalidSize : PySem.W.codeIn K (.ref c_InvalidSize) "InvalidSize.__init__" = true
  bx_InvalidSize : Binds K ((NF_InvalidSize cc_InvalidSize c_InvalidSize).fd doc_InvalidSize pm_InvalidSize ctv_InvalidSize) ["self", "size"] []
  nf_InvalidSize_size : PySem.W.findIn K (.ref C_InvalidSize) "size" = some none
  C_SharedKey : Addr
  a_SharedKey_init : Addr
  c_SharedKey : Addr
  cc_SharedKey : Addr
  x_SharedKey : Sup.ExcT P K mg "SharedKey" C_SharedKey a_SharedKey_init c_SharedKey cc_SharedKey
  doc_SharedKey : Value
  pm_SharedKey : Value
  ctv_SharedKey : Value
  oc_SharedKey : Value
  od_SharedKey : Option Addr
  osl_SharedKey : Array (Option Value)
  lk_SharedKey : K.lookup a_SharedKey_init = some ⟨oc_SharedKey, od_SharedKey, .func ((NF_SharedKey cc_SharedKey c_SharedKey).fd doc_SharedKey pm_SharedKey ctv_SharedKey), osl_SharedKey⟩
  hc_SharedKey : PySem.W.codeIn K (.ref c_SharedKey) "SharedKey.__init__" = true
  bx_SharedKey : Binds K ((NF_SharedKey cc_SharedKey c_SharedKey).fd doc_SharedKey pm_SharedKey ctv_SharedKey) ["self", "key"] []
  nf_SharedKey_key : PySem.W.findIn K (.ref C_SharedKey) "key" = some none
  C_WrongKind : Addr
  a_WrongKind_init : Addr
  c_WrongKind : Addr
  cc_WrongKind : Addr
  x_WrongKind : Sup.ExcT P K mg "WrongKind" C_WrongKind a_WrongKind_init c_WrongKind cc_WrongKind
  doc_WrongKind : Value
  pm_WrongKind : Value
  ctv_WrongKind : Value
  oc_WrongKind : Value
  od_WrongKind : Option Addr
  osl_WrongKind : Array (Option Value)
  lk_WrongKind : K.lookup a_WrongKind_init = some ⟨oc_WrongKind, od_WrongKind, .func ((NF_WrongKind cc_WrongKind c_WrongKind).fd doc_WrongKind pm_WrongKind ctv_WrongKind), osl_WrongKind⟩
  hc_WrongKind : PySem.W.codeIn K (.ref c_WrongKind) "WrongKind.__init__" = true
  bx_WrongKind : Binds K ((NF_WrongKind cc_WrongKind c_WrongKind).fd doc_WrongKind pm_WrongKind ctv_WrongKind) ["self"] []
  C_ZeroDenominator : Addr
  a_ZeroDenominator_init : Addr
  c_ZeroDenominator : Addr
  cc_ZeroDenominator : Addr
  x_ZeroDenominator : Sup.ExcT P K mg "ZeroDenominator" C_ZeroDenominator a_ZeroDenominator_init c_ZeroDenominator cc_ZeroDenominator
  doc_ZeroDenominator : Value
  pm_ZeroDenominator : Value
  ctv_ZeroDenominator : Value
  oc_ZeroDenominator : Value
  od_ZeroDenominator : Option Addr
  osl_ZeroDenominator : Array (Option Value)
  lk_ZeroDenominator : K.lookup a_ZeroDenominator_init = some ⟨oc_ZeroDenominator, od_ZeroDenominator, .func ((NF_ZeroDenominator cc_ZeroDenominator c_ZeroDenominator).fd doc_ZeroDenominator pm_ZeroDenominator ctv_ZeroDenominator), osl_ZeroDenominator⟩
  hc_ZeroDenominator : PySem.W.codeIn K (.ref c_ZeroDenominator) "ZeroDenominator.__init__" = true
  bx_ZeroDenominator : Binds K ((NF_ZeroDenominator cc_ZeroDenominator c_ZeroDenominator).fd doc_ZeroDenominator pm_ZeroDenominator ctv_ZeroDenominator) ["self"] []
  isa_Optimal : PySem.W.findIn K (.ref C_Optimal) "__class__" = some (some (.builtin "object.__class__"))
  isg_Optimal : PySem.W.specialIn K (.builtin "object.__class__") "__get__" = some (some (.builtin "getset_descriptor.__get__"))
  ist_Optimal : PySem.W.takesIn K (.builtin "object.__class__") = some true
  ism_Optimal : PySem.W.mroIn K C_Optimal (.type "object") = some true
  isa_Uniform : PySem.W.findIn K (.ref C_Uniform) "__class__" = some (some (.builtin "object.__class__"))
  isg_Uniform : PySem.W.specialIn K (.builtin "object.__class__") "__get__" = some (some (.builtin "getset_descriptor.__get__"))
  ist_Uniform : PySem.W.takesIn K (.builtin "object.__class__") = some true
  ism_Uniform : PySem.W.mroIn K C_Uniform (.type "object") = some true
  kit_Uniform_Optimal : PySem.W.kitOne K (.ref C_Uniform) (.ref C_Optimal) = some false
  kit_WrongKind_SharedKey : PySem.W.kitOne K (.ref C_WrongKind) (.ref C_SharedKey) = some false
  exm_SharedKey_WrongKind : PySem.W.exmOne K (.ref C_SharedKey) (.ref C_WrongKind) = some false
  kit_Optimal_Optimal : PySem.W.kitOne K (.ref C_Optimal) (.ref C_Optimal) = some true
  z_abs : mg "abs" = none
  z_int : mg "int" = none
  z_isinstance : mg "isinstance" = none
  z_len : mg "len" = none
  z_list : mg "list" = none
  z_range : mg "range" = none
  z_sorted : mg "sorted" = none
  z_sum : mg "sum" = none
  z_super : mg "super" = none
  z_tuple : mg "tuple" = none
  v_MOST_SIZE : Value
  g_MOST_SIZE : mg "MOST_SIZE" = some v_MOST_SIZE
  r_MOST_SIZE : RelV (.int (20)) v_MOST_SIZE
  k_ZERO : Addr
  g_ZERO : mg "ZERO" = some (.ref k_ZERO)
  q_ZERO : ∀ H, SqT K H k_ZERO [.int (0), .int (1)]
  g_gcd : mg "gcd" = some (.builtin "math.gcd")
/-! ### the walk by single steps -/
local macro_rules | `(tactic| walk_at "z1") => `(tactic| first
  | with_reducible refine Z.seq ?_
  | with_reducible refine Z.asg ?_
  | ((with_reducible refine' Z.gname ?zv ?_); (case zv => first | (dsimp only [List.set]; done) | (dsimp only [List.set]; exact rfl)))
  | ((with_reducible refine' Z.var ?zv ?_); (case zv => exact rfl))
  | with_reducible refine Z.cst ?_
  | with_reducible refine Z.op ?_
  | with_reducible refine Z.un ?_
  | with_reducible refine Z.i0 ?_
  | with_reducible refine Z.iU ?_
  | with_reducible refine Z.eqII ?_
  | with_reducible refine Z.neII ?_
  | with_reducible refine Z.eqSS ?_
  | with_reducible refine Z.neSS ?_
  | with_reducible refine Z.eqBB ?_
  | with_reducible refine Z.neBB ?_
  | with_reducible refine Z.bl' ?_
  | with_reducible refine Z.test ?_
  | with_reducible refine Z.tbb ?_
  | with_reducible refine Z.tand ?_
  | with_reducible refine Z.tor ?_
  | with_reducible refine Z.tnot ?_
  | with_reducible refine Z.tyes ?_
  | with_reducible refine Z.andV ?_
  | with_reducible refine Z.orV ?_
  | with_reducible refine Z.notV ?_
  | with_reducible refine Z.ifE ?_
  | with_reducible refine Z.chain ?_
  | with_reducible refine Z.yesB ?_
  | with_reducible refine Z.noB ?_
  | with_reducible refine Z.noNB ?_
  | with_reducible refine Z.yesNB ?_
  | with_reducible refine Z.nil ?_
  | with_reducible refine Z.cons ?_
  | with_reducible refine Z.cb ?_
  | with_reducible refine Z.call ?_
  | with_reducible refine Z.meth ?_
  | with_reducible refine Z.fld ?_
  | with_reducible refine Z.int1 ?_
  | with_reducible refine Z.intb ?_
  | with_reducible refine Z.abs1 ?_
  | with_reducible refine Z.gcons ?_
  | with_reducible refine Z.gnil ?_
  | with_reducible refine Z.gcd ?_
  | ((with_reducible refine' Z.par2 ?zv ?_); (case zv => first | (dsimp only [List.set]; done) | (dsimp only [List.set]; exact rfl)))
  | with_reducible refine Z.isN ?_
  | with_reducible refine Z.notN ?_
  | with_reducible refine Z.inSg ?_
  | with_reducible refine Z.ninSg ?_
  | with_reducible refine Z.tup ?_
  | with_reducible refine Z.lst ?_
  | with_reducible refine Z.gsub ?_
  | with_reducible refine Z.par ?_
  | ((with_reducible refine' Z.aug ?zv ?_); (case zv => exact rfl))
  | with_reducible refine Z.ipI' ?_
  | with_reducible refine Z.ifs ?_
  | with_reducible refine Z.ret ?_
  | with_reducible refine Z.retN ?_
  | with_reducible refine Z.next ?_
  | with_reducible refine Z.brk ?_
  | with_reducible refine Z.drop ?_
  | with_reducible refine Z.bm ?_
  | with_reducible refine Z.bm0 ?_
  | with_reducible refine Z.sfld ?_
  | with_reducible refine Z.sfldaug ?_
  | with_reducible refine Z.radd ?_
  | with_reducible refine Z.make ?_
  | with_reducible refine Z.lc ?_
  | with_reducible refine Z.rng1 ?_
  | with_reducible refine Z.ilist ?_
  | with_reducible refine Z.itup ?_
  | with_reducible refine Z.for_ ?_
  | with_reducible refine Z.istr ?_
  | with_reducible refine Z.ienum ?_
  | with_reducible refine Z.izip ?_
  | with_reducible refine Z.irng2 ?_
  | with_reducible refine Z.augs ?_
  | with_reducible refine Z.ienumS ?_
  | with_reducible refine Z.din ?_
  | with_reducible refine Z.dput ?_
  | with_reducible refine Z.dget ?_
  | with_reducible refine Z.dget2 ?_
  | with_reducible refine Z.sl ?_
  | with_reducible refine Z.slno ?_
  | with_reducible refine Z.slpart ?_
  | with_reducible refine Z.bint ?_
  | with_reducible refine Z.listrev ?_
  | with_reducible refine Z.revl ?_
  | dsimp only)
local macro_rules | `(tactic| walk_at "z0") => `(tactic| ((try simp only [Z.cxK]); (try dsimp only [L2.start, List.map, List.length, Nat.reduceAdd, Nat.reduceSub, List.replicate, List.cons_append, List.nil_append])))
local macro_rules | `(tactic| walk_at "z") => `(tactic| (repeat (walk_at "z1")))

/-! ### the numbers of a law: _law_mix, _law_numbers, _law_take -/
def DrawsAt (H : Hp) (a : Addr) : Prop := ∃ ns : List Int, H a = some (.lst (ns.map V.int))
theorem DrawsAt.ne {H : Hp} {a l : Addr} (d : DrawsAt H a) (h : H l = none) : a ≠ l := ne_of_none d.choose_spec h
theorem DrawsAt.kp {M : List Addr} {H H' : Hp} {a : Addr} (d : DrawsAt H a) (k : Kp M H H') (n : a ∉ M) : DrawsAt H' a := let ⟨ns, h⟩ := d; ⟨ns, k _ _ n h⟩
theorem DrawsAt.kp0 {H H' : Hp} {a : Addr} (d : DrawsAt H a) (k : Kp [] H H') : DrawsAt H' a := d.kp k nin0
theorem DrawsAt.put {H : Hp} {a b : Addr} {o : HO} (d : DrawsAt H a) (n : a ≠ b) : DrawsAt (upd H b o) a := let ⟨ns, h⟩ := d; ⟨ns, (upd_ne n).trans h⟩
def spMix : Sp := fun vs H Q _ => ∃ n k : Int, vs = [.int n, .int k] ∧ ∀ v, 0 ≤ v → v < 998244353 → Q (.int v) H
theorem ok__law_mix {P : Program} {w : World} {K : PySem.W.Frag} {mg : Str → Option Value} {base : Heap} (T : T P K mg) : FnOk P w K mg base CX0 1 T.a__law_mix T.fd__law_mix ["number", "k"] spMix := by
  refine T.F__law_mix.ok sc__law_mix (fun vs H Q E h => ?_) (fun cdv A outer s H vs Q E hr h => ?_)
  · obtain ⟨n, k, rfl, _⟩ := h
    rfl
  · obtain ⟨n, k, rfl, q⟩ := h
    refine ⟨_, (pss_one (ps_ret (pe_op op_mod (pe_op op_mul (pe_op op_mod (pe_callTy c_int (by rfl) T.z_int (by decide +kernel) (pa_cons (pe_op op_mul (pe_op op_add (pe_op op_add (pe_op op_mod (pe_callTy c_int (by rfl) T.z_int (by decide +kernel) (pa_cons (pv 0) pa_nil)) pe_int) (pe_op op_mul pe_int (pv 1))) pe_int) pe_int) pa_nil)) pe_int) pe_int) pe_int))), ?_⟩
    walk_at "z0"
    walk_at "z"
    refine Z.iC (by decide) ?_
    walk_at "z"
    refine Z.iC (.inl (by decide)) ?_
    walk_at "z"
    refine Z.iC (.inr (by decide)) ?_
    walk_at "z"
    refine Z.iC (by decide) ?_
    walk_at "z"
    refine Z.iC (.inr (by decide)) ?_
    walk_at "z"
    refine Z.iC (by decide) ?_
    walk_at "z"
    exact q _ (Int.emod_nonneg _ (by omega)) (Int.emod_lt_of_pos _ (by omega))
def spTake (K : PySem.W.Frag) : Sp := fun vs H Q _ => ∃ (a : Addr) (m : Int), vs = [.ref a, .int m] ∧ DrawsAt H a ∧ 1 ≤ m ∧ m < 18446744073709551616 ∧ ∀ H' v, 0 ≤ v → v < m → Kp [a] H H' → DrawsAt H' a → Q (.int v) H'
theorem ok__law_take {P : Program} {w : World} {K : PySem.W.Frag} {mg : Str → Option Value} {base : Heap} (T : T P K mg) : FnOk P w K mg base CX0 1 T.a__law_take T.fd__law_take ["row", "bound"] (spTake K) := by
  refine T.F__law_take.ok sc__law_take (fun vs H Q E h => ?_) (fun cdv A outer s H vs Q E hr h => ?_)
  · obtain ⟨a, m, rfl, _⟩ := h
    rfl
  · obtain ⟨a, m, rfl, ⟨ns, ha⟩, h0, h1, q⟩ := h
    refine ⟨_, (pss_cons (ps_if (pt_not (pt_truth (pv 0) (by intro _; rfl))) (pss_one (ps_ret pe_int)) pss_nil)
      (pss_one (ps_ret (pe_op op_mod (pe_callTy c_int (by rfl) T.z_int (by decide +kernel) (pa_cons (pe_bm0 PySem.F.plainAttrs_list PySem.F.slot_list_pop PySem.F.type_list_pop mt_pop (pv 0)) pa_nil)) (pv 1))))), ?_⟩
    walk_at "z0"
    walk_at "z"
    refine Z.truL ha ?_
    cases hns : ns with
    | nil =>
      walk_at "z"
      exact q _ _ (by omega) (by omega) (Kp.refl _) ⟨ns, ha⟩
    | cons n r =>
      rw [show (!!(List.map V.int (n :: r)).isEmpty) = false from rfl]
      walk_at "z"
      refine ⟨Z.tyL ha, ?_⟩
      have hl : 0 < ns.length := by rw [hns]; simp
      have hi : ns.length - 1 < ns.length := by omega
      refine Z.pop ha (y := .int ns[ns.length - 1]) (by rw [List.length_map, List.getElem?_map, List.getElem?_eq_getElem hi]; rfl) ?_
      walk_at "z"
      refine Z.iC (by omega) ?_
      exact q _ _ (Int.emod_nonneg _ (by omega)) (Int.emod_lt_of_pos _ (by omega)) (Kp.put (by simp)) ⟨ns.dropLast, by rw [upd_same, List.map_dropLast]⟩
def spNumbers (K : PySem.W.Frag) : Sp := fun vs H Q _ => ∃ (c : Addr) (ns : List Int) (n : Nat), vs = [.ref c, .int (n : Int)] ∧ SqL K H c (ns.map V.int) ∧ n ≤ 1000 ∧ (∀ z ∈ ns, Builtin.Int.intBits z ≤ 1048576) ∧ ∀ a H', H a = none → Kp [] H H' → DrawsAt H' a → Q (.ref a) H'
theorem ok__law_numbers {P : Program} {w : World} {K : PySem.W.Frag} {mg : Str → Option Value} {base : Heap} (T : T P K mg) : FnOk P w K mg base CX0 2 T.a__law_numbers T.fd__law_numbers ["script", "count"] (spNumbers K) := by
  refine T.F__law_numbers.ok sc__law_numbers (fun vs H Q E h => ?_) (fun cdv A outer s H vs Q E hr h => ?_)
  · obtain ⟨c, ns, n, rfl, _⟩ := h
    rfl
  · obtain ⟨c, ns, n, rfl, hS, hn, hb, q⟩ := h
    refine ⟨_, (pss_cons (ps_set (i := 2) sc__law_numbers.nd rfl (by first | exact Or.inl rfl | exact Or.inr rfl) (pe_lst pa_nil))
      (pss_cons (ps_set (i := 3) sc__law_numbers.nd rfl (by first | exact Or.inl rfl | exact Or.inr rfl) pe_int)
      (Z.pss_consJ (ps_for PassesOwn.never rfl (pi_list (pe_slice sl_list (pv 0) po_none (po_some pe_int))) (pg_name (i := 4) sc__law_numbers.nd rfl (by first | exact Or.inl rfl | exact Or.inr rfl)) (pss_cons (ps_set (i := 3) sc__law_numbers.nd rfl (by first | exact Or.inl rfl | exact Or.inr rfl) (pe_op op_add (pv 3) (pv 4)))
      (pss_one (ps_if (pt_cmpR op_ge (pv 4) pe_int (nomark _)) (pss_cons (ps_set (i := 5) sc__law_numbers.nd rfl (by first | exact Or.inl rfl | exact Or.inr rfl) (pv 4))
      (pss_one (ps_for PassesOwn.never rfl (pi_range1 (by rfl) T.z_range (pa_cons pe_int pa_nil)) (pg_name (i := 6) sc__law_numbers.nd rfl (by first | exact Or.inl rfl | exact Or.inr rfl)) (pss_cons (ps_expr (pe_bm PySem.F.plainAttrs_list PySem.F.slot_list_append PySem.F.type_list_append mt_append (pv 2) (pa_cons (pe_op op_mod (pe_callTy c_int (by rfl) T.z_int (by decide +kernel) (pa_cons (pv 5) pa_nil)) pe_int) pa_nil)))
      (pss_cons (ps_set (i := 5) sc__law_numbers.nd rfl (by first | exact Or.inl rfl | exact Or.inr rfl) (pe_op op_fdivW (pv 5) pe_int))
      (pss_one (ps_if (pt_cmpR op_eq (pv 5) pe_int (nomark _)) (pss_one ps_break) pss_nil))))))) (pss_one (ps_expr (pe_bm PySem.F.plainAttrs_list PySem.F.slot_list_append PySem.F.type_list_append mt_append (pv 2) (pa_cons (pe_call (ok__law_mix T) (hr.mono (by decide)) (by rfl) T.g__law_mix T.F__law_mix.kp T.b__law_mix .nil pass0 (pa_cons (pe_call (ok__law_mix T) (hr.mono (by decide)) (by rfl) T.g__law_mix T.F__law_mix.kp T.b__law_mix .nil pass0 (pa_cons (pv 4) (pa_cons pe_int pa_nil))) (pa_cons pe_int pa_nil))) pa_nil))))))))
      (pss_cons (ps_for PassesOwn.never rfl (pi_range1 (by rfl) T.z_range (pa_cons (pv 1) pa_nil)) (pg_name (i := 6) sc__law_numbers.nd rfl (by first | exact Or.inl rfl | exact Or.inr rfl)) (pss_one (ps_expr (pe_bm PySem.F.plainAttrs_list PySem.F.slot_list_append PySem.F.type_list_append mt_append (pv 2) (pa_cons (pe_call (ok__law_mix T) (hr.mono (by decide)) (by rfl) T.g__law_mix T.F__law_mix.kp T.b__law_mix .nil pass0 (pa_cons (pe_call (ok__law_mix T) (hr.mono (by decide)) (by rfl) T.g__law_mix T.F__law_mix.kp T.b__law_mix .nil pass0 (pa_cons (pe_op op_add (pv 3) (pe_op op_mul pe_int (pv 6))) (pa_cons (pe_op op_add pe_int (pv 6)) pa_nil))) (pa_cons pe_int pa_nil))) pa_nil)))))
      (pss_cons (ps_expr (pe_bm0 PySem.F.plainAttrs_list PySem.F.slot_list_reverse PySem.F.type_list_reverse mt_reverse (pv 2)))
      (pss_one (ps_ret (pv 2)))))))), ?_⟩
    walk_at "z0"
    walk_at "z"
    refine Z.lstK (fun D H1 nD k1 e1 => ?_)
    walk_at "z"
    refine Z.seqJ' ?_
    walk_at "z"
    refine Z.slL (k1.seq nin0 hS) (fun S H2 nS k2 e2 => ?_)
    have e2D := k2.get nin0 e1
    have nDS : D ≠ S := ne_of_none e1 nS
    have hcut : ∃ ms : List Int, cutV (ns.map V.int) none (some 63) = ms.map V.int ∧ ms.length ≤ 63 := by
      unfold cutV
      rw [HT.sIx_none, show (63 : Int) = ((63 : Nat) : Int) from rfl, HT.sIx_nat, List.drop_zero, Nat.sub_zero, ← List.map_take]
      exact ⟨_, rfl, by rw [List.length_take]; omega⟩
    obtain ⟨ms, hms, hm63⟩ := hcut
    rw [hms] at e2
    walk_at "z"
    refine Z.forl (ms.map V.int) (lstL e2) (fun i σ' H' => ∃ y4 y5 y6, ∃ (z : Int) (ds : List Int), σ' = [some (.ref c), some (.int (n : Int)), some (.ref D), some (.int z), y4, y5, y6] ∧ Kp [D] H2 H' ∧ H' D = some (.lst (ds.map V.int)) ∧ ds.length ≤ i * 61) ⟨_, _, _, _, [], rfl, Kp.refl _, e2D, by simp⟩ ?_ ?_ ?_
    · rintro i σ' H' hi ⟨y4, y5, y6, z, ds, rfl, k3, e3, hl⟩
      exact lstL (k3.get (nin1 nDS.symm) e2)
    · rintro i x σ' H' hx ⟨y4, y5, y6, z, ds, rfl, k3, e3, hl⟩
      obtain ⟨u, hu, rfl⟩ : ∃ u, ms[i]? = some u ∧ x = .int u := by
        rw [List.getElem?_map] at hx
        cases hw : ms[i]? with
        | none => rw [hw] at hx; cases hx
        | some r => rw [hw] at hx; exact ⟨r, rfl, (Option.some.inj hx).symm⟩
      have hi : i < ms.length := (List.getElem?_eq_some_iff.mp hu).1
      walk_at "z"
      refine Z.ite (fun h2 => ?_) (fun h2 => ?_)
      · walk_at "z"
        refine Z.forr 60 (by rfl) (by decide) (fun j σ' H' => ∃ y6, ∃ (v : Int) (ds : List Int), σ' = [some (.ref c), some (.int (n : Int)), some (.ref D), some (.int (z + u)), some (.int u), some (.int v), y6] ∧ Kp [D] H2 H' ∧ H' D = some (.lst (ds.map V.int)) ∧ ds.length ≤ i * 61 + j) ⟨_, _, ds, rfl, k3, e3, by omega⟩ ?_ ?_
        · rintro j σ' H' hj ⟨y6, v, ds, rfl, k4, e4, hl4⟩
          walk_at "z"
          refine ⟨Z.tyL e4, ?_⟩
          walk_at "z"
          refine Z.iC (by decide) ?_
          walk_at "z"
          refine Z.app e4 (Z.szl (m := 100000) (by rw [List.length_map]; omega)) ?_
          walk_at "z"
          refine Z.iC ⟨by decide, by decide⟩ ?_
          walk_at "z"
          have e5 : upd H' D (.lst (ds.map V.int ++ [.int (v % 840)])) D = some (.lst ((ds ++ [v % 840]).map V.int)) := by rw [upd_same, List.map_append]; rfl
          have k5 : Kp [D] H2 (upd H' D (.lst (ds.map V.int ++ [.int (v % 840)]))) := k4.trans (Kp.put (by simp))
          refine Z.ite (fun h3 => ?_) (fun h3 => ?_)
          · walk_at "z"
            exact ⟨_, _, _, _, ds ++ [v % 840], rfl, k5, e5, by simp; omega⟩
          · walk_at "z"
            exact ⟨_, _, ds ++ [v % 840], rfl, k5, e5, by simp; omega⟩
        · rintro σ' H' ⟨y6, v, ds, rfl, k4, e4, hl4⟩
          exact ⟨_, _, _, _, ds, rfl, k4, e4, by omega⟩
      · walk_at "z"
        refine ⟨Z.tyL e3, ?_⟩
        walk_at "z"
        refine ⟨_, _, rfl, fun v0 _ _ => ?_⟩
        walk_at "z"
        refine ⟨_, _, rfl, fun v1 _ _ => ?_⟩
        walk_at "z"
        refine Z.app e3 (Z.szl (m := 100000) (by rw [List.length_map]; omega)) ?_
        walk_at "z"
        exact ⟨_, _, _, _, ds ++ [v1], rfl, k3.trans (Kp.put (by simp)), by rw [upd_same, List.map_append]; rfl, by simp; omega⟩
    · rintro σ' H' ⟨y4, y5, y6, z, ds, rfl, k3, e3, hl⟩
      rw [List.length_map] at hl
      walk_at "z"
      refine Z.forr n (by rfl) (by omega) (fun j σ' H' => ∃ y6, ∃ (ds : List Int), σ' = [some (.ref c), some (.int (n : Int)), some (.ref D), some (.int z), y4, y5, y6] ∧ Kp [D] H2 H' ∧ H' D = some (.lst (ds.map V.int)) ∧ ds.length ≤ ms.length * 61 + j) ⟨_, ds, rfl, k3, e3, by omega⟩ ?_ ?_
      · rintro j σ' H' hj ⟨y6, ds, rfl, k4, e4, hl4⟩
        walk_at "z"
        refine ⟨Z.tyL e4, ?_⟩
        walk_at "z"
        refine Z.iC (.inl (by decide)) ?_
        walk_at "z"
        refine ⟨_, _, rfl, fun v0 _ _ => ?_⟩
        walk_at "z"
        refine ⟨_, _, rfl, fun v1 _ _ => ?_⟩
        walk_at "z"
        refine Z.app e4 (Z.szl (m := 100000) (by rw [List.length_map]; omega)) ?_
        walk_at "z"
        exact ⟨_, ds ++ [v1], rfl, k4.trans (Kp.put (by simp)), by rw [upd_same, List.map_append]; rfl, by simp; omega⟩
      · rintro σ' H' ⟨y6, ds, rfl, k4, e4, hl4⟩
        walk_at "z"
        refine ⟨Z.tyL e4, ?_⟩
        refine ⟨D, _, rfl, rfl, e4, ?_⟩
        walk_at "z"
        have nSD : H1 D = none → False := fun z => by rw [e1] at z; cases z
        refine q D _ nD ?_ ⟨ds.reverse, by rw [upd_same, List.map_reverse]⟩
        exact ((k1.trans k2).then1 k4 nD).mut nD rfl

/-! ### items of a law: _law_name, _law_items -/
theorem mem_append_one {α : Type} {P : α → Prop} {l : List α} {x : α} (h : ∀ n ∈ l, P n) (hx : P x) : ∀ n ∈ l ++ [x], P n := fun n hn => by
  rcases List.mem_append.mp hn with h1 | h1
  · exact h n h1
  · rw [List.mem_singleton.mp h1]; exact hx
theorem mem_set_of {α : Type} {P : α → Prop} {l : List α} {j : Nat} {x : α} (h : ∀ n ∈ l, P n) (hx : P x) : ∀ n ∈ l.set j x, P n := fun n hn => by
  rcases List.mem_or_eq_of_mem_set hn with h1 | h1
  · exact h n h1
  · rw [h1]; exact hx
structure Row where
  k : Str
  g : Str
  w : Int
  m : Int
def Row.vs (r : Row) : List V := [.str r.k, .str r.g, .int r.w, .int r.m]
def RowAt (H : Hp) (p : Addr) (r : Row) : Prop := H p = some (.tup r.vs)
def RowsAt (H : Hp) (ps : List (Addr × Row)) : Prop := ∀ x ∈ ps, RowAt H x.1 x.2
def refs (ps : List (Addr × Row)) : List V := ps.map fun x => V.ref x.1
theorem refs_len (ps : List (Addr × Row)) : (refs ps).length = ps.length := by unfold refs; rw [List.length_map]
theorem refs_at {ps : List (Addr × Row)} {i : Nat} {x : Addr × Row} (h : ps[i]? = some x) : (refs ps)[i]? = some (.ref x.1) := by unfold refs; rw [List.getElem?_map, h]; rfl
theorem refs_of {ps : List (Addr × Row)} {i : Nat} {v : V} (h : (refs ps)[i]? = some v) : ∃ x, ps[i]? = some x ∧ v = .ref x.1 := by
  unfold refs at h
  rw [List.getElem?_map] at h
  cases e : ps[i]? with
  | none => rw [e] at h; cases h
  | some x => rw [e] at h; exact ⟨x, rfl, (Option.some.inj h).symm⟩
theorem refs_snoc (ps : List (Addr × Row)) (x : Addr × Row) : refs (ps ++ [x]) = refs ps ++ [.ref x.1] := by unfold refs; rw [List.map_append]; rfl
theorem RowsAt.kp {M : List Addr} {H H' : Hp} {ps : List (Addr × Row)} (r : RowsAt H ps) (k : Kp M H H') (n : ∀ x ∈ M, ∃ xs, H x = some (.lst xs)) : RowsAt H' ps := fun x hx => k _ _ (fun z => by
  obtain ⟨xs, e⟩ := n _ z
  have e2 := r x hx
  unfold RowAt at e2
  rw [e] at e2
  cases e2) (r x hx)
theorem RowsAt.kp0 {H H' : Hp} {ps : List (Addr × Row)} (r : RowsAt H ps) (k : Kp [] H H') : RowsAt H' ps := r.kp k fun _ h => by cases h
theorem RowsAt.kp1 {H H' : Hp} {a : Addr} {ps : List (Addr × Row)} {xs : List V} (r : RowsAt H ps) (k : Kp [a] H H') (e : H a = some (.lst xs)) : RowsAt H' ps := r.kp k fun x h => by
  rw [List.mem_singleton.mp h]
  exact ⟨xs, e⟩
theorem RowsAt.kpd {H H' : Hp} {a : Addr} {ps : List (Addr × Row)} (r : RowsAt H ps) (k : Kp [a] H H') (d : DrawsAt H a) : RowsAt H' ps := let ⟨_, e⟩ := d; r.kp1 k e
theorem RowsAt.snoc {H : Hp} {ps : List (Addr × Row)} {x : Addr × Row} (r : RowsAt H ps) (h : RowAt H x.1 x.2) : RowsAt H (ps ++ [x]) := fun y hy => by
  rcases List.mem_append.mp hy with z | z
  · exact r y z
  · rw [List.mem_singleton.mp z]; exact h
theorem pickS (l : List Str) {v : Int} (h0 : 0 ≤ v) (h1 : v < (l.length : Nat)) : ∃ s, s ∈ l ∧ atI (l.map V.str) v = some (.str s) := by
  obtain ⟨j, rfl⟩ : ∃ j : Nat, v = (j : Int) := ⟨v.toNat, by omega⟩
  have hj : j < l.length := by omega
  exact ⟨l[j], List.getElem_mem hj, atI_nat (by rw [List.getElem?_map, List.getElem?_eq_getElem hj]; rfl)⟩
theorem pickI (l : List Int) {v : Int} (h0 : 0 ≤ v) (h1 : v < (l.length : Nat)) : ∃ s, s ∈ l ∧ atI (l.map V.int) v = some (.int s) := by
  obtain ⟨j, rfl⟩ : ∃ j : Nat, v = (j : Int) := ⟨v.toNat, by omega⟩
  have hj : j < l.length := by omega
  exact ⟨l[j], List.getElem_mem hj, atI_nat (by rw [List.getElem?_map, List.getElem?_eq_getElem hj]; rfl)⟩
structure RowS (r : Row) : Prop where
  k : PyData.strOk r.k = true
  g : PyData.strOk r.g = true
  kz : r.k.cps.size ≤ 20
  gz : r.g.cps.size ≤ 20
def smallS (l : List Str) : Bool := l.all fun s => PyData.strOk s && decide (s.cps.size ≤ 20)
theorem smallS_of {l : List Str} (h : smallS l = true) {s : Str} (hs : s ∈ l) : PyData.strOk s = true ∧ s.cps.size ≤ 20 := by
  have h1 := List.all_eq_true.mp h s hs
  rw [Bool.and_eq_true, decide_eq_true_eq] at h1
  exact h1
def rowD (r : Row) : PyData := .tuple [.str r.k, .str r.g, .int r.w, .int r.m]
theorem dpRow {K : PySem.W.Frag} {H : Hp} {p : Addr} {r : Row} (h : RowAt H p r) : Dp K H (.ref p) (rowD r) := .tup (tupT h) (.cons (.str _) (.cons (.str _) (.cons (.int _) (.cons (.int _) .nil))))
def rowsD (ps : List (Addr × Row)) : List PyData := ps.map fun x => rowD x.2
theorem dpRowsAll {K : PySem.W.Frag} {H : Hp} : ∀ {ps : List (Addr × Row)}, RowsAt H ps → DpAll K H (refs ps) (rowsD ps)
  | [], _ => .nil
  | x :: r, h => .cons (dpRow (h x (by simp))) (dpRowsAll (ps := r) fun y hy => h y (by simp [hy]))
theorem dpRows {K : PySem.W.Frag} {H : Hp} {p : Addr} {ps : List (Addr × Row)} (h : H p = some (.lst (refs ps))) (r : RowsAt H ps) : Dp K H (.ref p) (.list (rowsD ps)) := .lst (lstL h) (dpRowsAll r)
theorem rowD_lay {r : Row} (h : RowS r) : PyData.canLay0 (rowD r) = true := by simp [rowD, PyData.canLay0, PyData.canLayAll0, h.k, h.g]
theorem layRows : ∀ {ps : List (Addr × Row)}, (∀ x ∈ ps, RowS x.2) → PyData.canLayAll0 (rowsD ps) = true
  | [], _ => by simp [rowsD, PyData.canLayAll0]
  | x :: r, h => by
    have ih := layRows (ps := r) fun y hy => h y (by simp [hy])
    show PyData.canLayAll0 (rowD x.2 :: rowsD r) = true
    rw [PyData.canLayAll0, rowD_lay (h x (by simp)), ih]; rfl
theorem rowD_depth (r : Row) : (rowD r).depth = 1 := by simp [rowD, PyData.depth, PyData.depthAll]
theorem depthRows : ∀ ps : List (Addr × Row), PyData.depthAll (rowsD ps) ≤ 1
  | [] => by simp [rowsD, PyData.depthAll]
  | x :: r => by
    have ih := depthRows r
    show PyData.depthAll (rowD x.2 :: rowsD r) ≤ 1
    rw [PyData.depthAll, rowD_depth]
    omega
theorem shRows {ps : List (Addr × Row)} (h : ∀ x ∈ ps, RowS x.2) : SeqAt.shaped (.list (rowsD ps)) = true := by
  have := depthRows ps
  simp [SeqAt.shaped, PyData.canLay0, PyData.depth, layRows h]
  omega
theorem shNil : SeqAt.shaped (.list []) = true := by decide +kernel
theorem neRows {K : PySem.W.Frag} {H : Hp} {Q : VK} {a b : Addr} {ps : List (Addr × Row)} (h1 : H a = some (.lst (refs ps))) (h2 : H b = some (.lst (refs ps))) (r : RowsAt H ps) (s : ∀ x ∈ ps, RowS x.2) (q : Q (.bl false) H) : rNeD K (.ref a) (.ref b) H Q :=
  ⟨_, _, dpRows h1 r, dpRows h2 r, shRows s, shRows s, by rw [SeqAt.eqv_refl _ (by rw [PyData.canLay0]; exact layRows s)]; exact q⟩
theorem eqvAll_nil : ∀ l : List PyData, PyData.eqvAll l [] = l.isEmpty
  | [] => by simp [PyData.eqvAll]
  | _ :: _ => by simp [PyData.eqvAll]
theorem eqNil {K : PySem.W.Frag} {H : Hp} {Q : VK} {a b : Addr} {ps : List (Addr × Row)} (h1 : H a = some (.lst (refs ps))) (h2 : H b = some (.lst [])) (r : RowsAt H ps) (s : ∀ x ∈ ps, RowS x.2) (q : Q (.bl ps.isEmpty) H) : rEqD K (.ref a) (.ref b) H Q :=
  ⟨_, _, dpRows h1 r, .lst (ds := []) (lstL h2) .nil, shRows s, shNil, by
    rw [PyData.eqv, eqvAll_nil]
    have e : (rowsD ps).isEmpty = ps.isEmpty := by cases ps <;> rfl
    rw [e]; exact q⟩
/-! what is a name, an item -/
theorem RowAt.k0 {K : PySem.W.Frag} {H : Hp} {Q : VK} {p : Addr} {r : Row} (h : RowAt H p r) (q : Q (.str r.k) H) : rIxT K (.ref p) (.int 0) H Q := Z.ixT (tupT h) rfl q
theorem RowAt.g1 {K : PySem.W.Frag} {H : Hp} {Q : VK} {p : Addr} {r : Row} (h : RowAt H p r) (q : Q (.str r.g) H) : rIxT K (.ref p) (.int 1) H Q := Z.ixT (tupT h) rfl q
theorem RowAt.w2 {K : PySem.W.Frag} {H : Hp} {Q : VK} {p : Addr} {r : Row} (h : RowAt H p r) (q : Q (.int r.w) H) : rIxT K (.ref p) (.int 2) H Q := Z.ixT (tupT h) rfl q
theorem RowAt.m3 {K : PySem.W.Frag} {H : Hp} {Q : VK} {p : Addr} {r : Row} (h : RowAt H p r) (q : Q (.int r.m) H) : rIxT K (.ref p) (.int 3) H Q := Z.ixT (tupT h) rfl q
theorem RowAt.kp0 {H H' : Hp} {p : Addr} {r : Row} (h : RowAt H p r) (k : Kp [] H H') : RowAt H' p r := k.get nin0 h

/-! ### items of a law: k + digit -/
def key7 (i : Nat) : Str := "k" ++ (⟨#[("3104526" : Str).cps.toList.getD i 0]⟩ : Str)
theorem key7_at {i : Nat} (h : i < 7) : atI ("3104526" : Str).cps.toList (i : Int) = some (("3104526" : Str).cps.toList.getD i 0) := by
  have h7 : ("3104526" : Str).cps.toList.length = 7 := by decide +kernel
  rw [atI_nat (v := ("3104526" : Str).cps.toList.getD i 0)]
  rw [List.getD_eq_getElem?_getD, List.getElem?_eq_getElem (by omega)]
  rfl
theorem key7_all : ∀ i : Fin 7, (PyData.strOk (key7 i.val) = true ∧ (key7 i.val).cps.size = 2) ∧ ∀ j : Fin 7, key7 i.val = key7 j.val → i = j := by decide +kernel
theorem key7_inj {i j : Nat} (hi : i < 7) (hj : j < 7) (h : key7 i = key7 j) : i = j := by
  have := (key7_all ⟨i, hi⟩).2 ⟨j, hj⟩ h
  exact congrArg Fin.val this
structure Row7 (i : Nat) (r : Row) : Prop where
  k : r.k = key7 i
  g : r.g ∈ (["x", "y"] : List Str)
  w0 : 1 ≤ r.w
  w1 : r.w ≤ 1000
  m0 : -9 ≤ r.m
  m1 : r.m ≤ 9
theorem g7_small : smallS ["x", "y"] = true := by decide +kernel
theorem Row7.s {i : Nat} {r : Row} (h : Row7 i r) (hi : i < 7) : RowS r := by
  have h1 := (key7_all ⟨i, hi⟩).1
  have h2 := smallS_of g7_small h.g
  refine ⟨?_, h2.1, ?_, h2.2⟩
  · rw [h.k]; exact h1.1
  · rw [h.k]; exact Nat.le_trans (Nat.le_of_eq h1.2) (by decide)
structure Items7 (H H' : Hp) (a p : Addr) (n : Nat) (ps : List (Addr × Row)) : Prop where
  kp : Kp [a] H H'
  dr : DrawsAt H' a
  at_ : H' p = some (.lst (refs ps))
  rows : RowsAt H' ps
  len : ps.length = n
  ok : ∀ (i : Nat) (x : Addr × Row), ps[i]? = some x → Row7 i x.2
def spItems7 (K : PySem.W.Frag) : Sp := fun vs H Q _ => ∃ (a : Addr) (n : Nat), vs = [.ref a, .int (n : Int)] ∧ DrawsAt H a ∧ n ≤ 7 ∧ ∀ H' p ps, H p = none → Items7 H H' a p n ps → Q (.ref p) H'
theorem ok__law_items {P : Program} {w : World} {K : PySem.W.Frag} {mg : Str → Option Value} {base : Heap} (T : T P K mg) : FnOk P w K mg base CX0 2 T.a__law_items T.fd__law_items ["row", "many"] (spItems7 K) := by
  refine T.F__law_items.ok sc__law_items (fun vs H Q E h => ?_) (fun cdv A outer s H vs Q E hr h => ?_)
  · obtain ⟨a, n, rfl, _⟩ := h
    rfl
  · obtain ⟨a, n, rfl, hd, hn, q⟩ := h
    refine ⟨_, (pss_cons (ps_set (i := 2) sc__law_items.nd rfl (by first | exact Or.inl rfl | exact Or.inr rfl) (pe_lst pa_nil))
      (pss_cons (ps_for PassesOwn.never rfl (pi_range1 (by rfl) T.z_range (pa_cons (pv 1) pa_nil)) (pg_name (i := 3) sc__law_items.nd rfl (by first | exact Or.inl rfl | exact Or.inr rfl)) (pss_cons (ps_set (i := 4) sc__law_items.nd rfl (by first | exact Or.inl rfl | exact Or.inr rfl) (pe_op op_add pe_int (pe_call (ok__law_take T) (hr.mono (by decide)) (by rfl) T.g__law_take T.F__law_take.kp T.b__law_take .nil pass0 (pa_cons (pv 0) (pa_cons pe_int pa_nil)))))
      (Z.pss_consJ (ps_if (pt_cmpR op_eq (pe_call (ok__law_take T) (hr.mono (by decide)) (by rfl) T.g__law_take T.F__law_take.kp T.b__law_take .nil pass0 (pa_cons (pv 0) (pa_cons pe_int pa_nil))) pe_int (nomark _)) (pss_one (ps_set (i := 4) sc__law_items.nd rfl (by first | exact Or.inl rfl | exact Or.inr rfl) (pe_ix ix_list (pe_lst (pa_cons pe_int (pa_cons pe_int (pa_cons pe_int (pa_cons pe_int pa_nil))))) (pe_call (ok__law_take T) (hr.mono (by decide)) (by rfl) T.g__law_take T.F__law_take.kp T.b__law_take .nil pass0 (pa_cons (pv 0) (pa_cons pe_int pa_nil))) (fun _ _ => rfl)))) pss_nil)
      (pss_one (ps_expr (pe_bm PySem.F.plainAttrs_list PySem.F.slot_list_append PySem.F.type_list_append mt_append (pv 2) (pa_cons (pe_tup (pa_cons (pe_op o_addS pe_str (pe_ix ix_str pe_str (pv 3) (fun _ _ => rfl))) (pa_cons (pe_ix ix_list (pe_lst (pa_cons pe_str (pa_cons pe_str pa_nil))) (pe_call (ok__law_take T) (hr.mono (by decide)) (by rfl) T.g__law_take T.F__law_take.kp T.b__law_take .nil pass0 (pa_cons (pv 0) (pa_cons pe_int pa_nil))) (fun _ _ => rfl)) (pa_cons (pv 4) (pa_cons (pe_op op_sub (pe_call (ok__law_take T) (hr.mono (by decide)) (by rfl) T.g__law_take T.F__law_take.kp T.b__law_take .nil pass0 (pa_cons (pv 0) (pa_cons pe_int pa_nil))) pe_int) pa_nil))))) pa_nil)))))))
      (pss_one (ps_ret (pv 2))))), ?_⟩
    walk_at "z0"
    walk_at "z"
    refine Z.lstK (fun F H1 nF k1 e1 => ?_)
    have d1 := hd.kp0 k1
    have naF : a ≠ F := hd.ne nF
    walk_at "z"
    refine Z.forr n (by rfl) (by omega) (fun i σ' H' => ∃ y3 y4, ∃ ps : List (Addr × Row), σ' = [some (.ref a), some (.int (n : Int)), some (.ref F), y3, y4] ∧ Kp [a] H H' ∧ DrawsAt H' a ∧ H' F = some (.lst (refs ps)) ∧ RowsAt H' ps ∧ ps.length = i ∧ ∀ (j : Nat) (x : Addr × Row), ps[j]? = some x → Row7 j x.2) ⟨_, _, [], rfl, k1.sub (by simp), d1, e1, (fun x hx => by cases hx), rfl, fun j x hx => by simp at hx⟩ ?_ ?_
    · rintro i σ' H2 hi ⟨y3, y4, ps, rfl, k2, d2, e2, r2, hl2, hok⟩
      walk_at "z"
      refine ⟨a, 9, rfl, d2, by decide, by decide, fun H3 v hv0 hv1 k3 d3 => ?_⟩
      have e3 := k3.get (nin1 naF.symm) e2
      have r3 := r2.kpd k3 d2
      walk_at "z"
      refine Z.seqJ (fun σ' H' => ∃ w : Int, σ' = [some (.ref a), some (.int (n : Int)), some (.ref F), some (.int (i : Int)), some (.int w)] ∧ 1 ≤ w ∧ w ≤ 1000 ∧ Kp [a] H H' ∧ DrawsAt H' a ∧ H' F = some (.lst (refs ps)) ∧ RowsAt H' ps) ?_ ?_
      · rintro σ' H4 ⟨w, rfl, hw0, hw1, k4, d4, e4, r4⟩
        walk_at "z"
        refine ⟨Z.tyL e4, ?_⟩
        walk_at "z"
        refine ⟨_, _, _, rfl, rfl, (show ("3104526" : Str).length ≤ sizeLine by decide +kernel), key7_at (i := i) (by omega), ?_⟩
        refine Z.addS (show ("k" : Str).length + 1 ≤ sizeLine by decide +kernel) ?_
        walk_at "z"
        refine Z.lstK (fun b H5 nb k5 e5 => ?_)
        have d5 := d4.kp0 k5
        have nab : a ≠ b := d4.ne nb
        walk_at "z"
        refine ⟨a, 2, rfl, d5, by decide, by decide, fun H6 v6 hv60 hv61 k6 d6 => ?_⟩
        obtain ⟨s, hs, es⟩ := pickS ["x", "y"] hv60 hv61
        refine Z.ixL (lstL (k6.get (nin1 nab.symm) e5)) es ?_
        walk_at "z"
        refine ⟨a, 19, rfl, d6, by decide, by decide, fun H7 v7 hv70 hv71 k7 d7 => ?_⟩
        walk_at "z"
        refine Z.tupK (fun t H8 nt k8 e8 => ?_)
        have k48 := ((k5.sub (M' := [a]) (by simp)).trans k6).trans (k7.trans (k8.sub (by simp)))
        have e8F := k8.get nin0 (k7.get (nin1 naF.symm) (k6.get (nin1 naF.symm) (k5.get nin0 e4)))
        have r8 := (((r4.kp0 k5).kpd k6 d5).kpd k7 d6).kp0 k8
        have d8 := d7.kp0 k8
        have ntF : t ≠ F := fun z => by rw [z, e8F] at e8; cases e8
        have kF : Kp [F] H8 (upd H8 F (.lst (refs ps ++ [.ref t]))) := Kp.put (by simp)
        walk_at "z"
        refine Z.app e8F (Z.szl (m := 1000) (by rw [refs_len]; omega)) ?_
        refine ⟨_, _, ps ++ [(t, ⟨key7 i, s, w, v7 - 9⟩)], rfl, (k4.trans k48).mut nF rfl, d8.put naF, by rw [upd_same, refs_snoc], (r8.kp1 kF e8F).snoc (show RowAt _ t ⟨key7 i, s, w, v7 - 9⟩ from kF.get (nin1 ntF) e8), by simp [hl2], fun j x hx => ?_⟩
        rw [List.getElem?_append] at hx
        split at hx
        · exact hok j x hx
        · have hj : j - ps.length = 0 := by
            have := (List.getElem?_eq_some_iff.mp hx).1
            simp at this
            exact this
          rw [hj] at hx
          have e : j = i := by omega
          subst e
          cases hx
          exact ⟨rfl, hs, hw0, hw1, by show -9 ≤ v7 - 9; omega, by show v7 - 9 ≤ 9; omega⟩
      · intro N jn
        walk_at "z"
        refine ⟨a, 6, rfl, d3, by decide, by decide, fun H4 v4 hv40 hv41 k4 d4 => ?_⟩
        have e4 := k4.get (nin1 naF.symm) e3
        have r4 := r3.kpd k4 d3
        walk_at "z"
        refine Z.ite (fun h2 => ?_) (fun h2 => ?_)
        · walk_at "z"
          refine Z.lstK (fun b H5 nb k5 e5 => ?_)
          have d5 := d4.kp0 k5
          have nab : a ≠ b := d4.ne nb
          walk_at "z"
          refine ⟨a, 4, rfl, d5, by decide, by decide, fun H6 v6 hv60 hv61 k6 d6 => ?_⟩
          obtain ⟨s, hs, es⟩ := pickI [1000, 1, 40, 7] hv60 hv61
          refine Z.ixL (lstL (k6.get (nin1 nab.symm) e5)) es ?_
          walk_at "z"
          have hs2 : 1 ≤ s ∧ s ≤ 1000 := by
            simp only [List.mem_cons, List.not_mem_nil, or_false] at hs
            rcases hs with rfl | rfl | rfl | rfl <;> decide
          exact jn _ _ ⟨s, rfl, hs2.1, hs2.2, ((k2.trans k3).trans k4).trans ((k5.sub (by simp)).trans k6), d6, k6.get (nin1 naF.symm) (k5.get nin0 e4), (r4.kp0 k5).kpd k6 d5⟩
        · walk_at "z"
          exact jn _ _ ⟨_, rfl, by omega, by omega, (k2.trans k3).trans k4, d4, e4, r4⟩
    · rintro σ' H2 ⟨y3, y4, ps, rfl, k2, d2, e2, r2, hl2, hok⟩
      walk_at "z"
      exact q H2 F ps nF ⟨k2, d2, e2, r2, hl2, hok⟩

/-! ### sums of lists of ints -/
theorem sum_nonneg : ∀ {l : List Int}, (∀ n ∈ l, 0 ≤ n) → 0 ≤ l.sum
  | [], _ => by simp
  | a :: r, h => by
    have h1 := h a (by simp)
    have h2 := sum_nonneg (l := r) fun n hn => h n (by simp [hn])
    rw [List.sum_cons]
    omega
theorem sum_le {c : Int} : ∀ {l : List Int}, (∀ n ∈ l, n ≤ c) → l.sum ≤ c * l.length
  | [], _ => by simp
  | a :: r, h => by
    have h1 := h a (by simp)
    have h2 := sum_le (c := c) (l := r) fun n hn => h n (by simp [hn])
    rw [List.sum_cons, List.length_cons, show c * ((r.length + 1 : Nat) : Int) = c * r.length + c by rw [Int.natCast_add, Int.mul_add]; simp]
    omega
theorem sum_ge_mem : ∀ {l : List Int}, (∀ n ∈ l, 0 ≤ n) → ∀ x ∈ l, x ≤ l.sum
  | [], _, x, hx => by simp at hx
  | a :: r, h, x, hx => by
    have h1 := h a (by simp)
    have h3 := sum_nonneg (l := r) fun n hn => h n (by simp [hn])
    rw [List.sum_cons]
    rcases List.mem_cons.mp hx with e | e
    · omega
    · have h2 := sum_ge_mem (l := r) (fun n hn => h n (by simp [hn])) x e
      omega
theorem take_nonneg {l : List Int} (h : ∀ n ∈ l, 0 ≤ n) (i : Nat) : 0 ≤ (l.take i).sum := sum_nonneg fun n hn => h n (List.mem_of_mem_take hn)
/-! ### lists of ints as data -/
theorem layInts : ∀ ws : List Int, PyData.canLayAll0 (ws.map PyData.int) = true
  | [] => by simp [PyData.canLayAll0]
  | w :: r => by simp [PyData.canLayAll0, PyData.canLay0, layInts r]
theorem depthInts : ∀ ws : List Int, PyData.depthAll (ws.map PyData.int) = 0
  | [] => by simp [PyData.depthAll]
  | w :: r => by simp [PyData.depthAll, PyData.depth, depthInts r]
theorem shInts (ws : List Int) : SeqAt.shaped (.list (ws.map PyData.int)) = true := by
  simp [SeqAt.shaped, PyData.canLay0, PyData.depth, layInts, depthInts]
theorem dpInts {K : PySem.W.Frag} {H : Hp} : ∀ ws : List Int, DpAll K H (ws.map V.int) (ws.map PyData.int)
  | [] => .nil
  | w :: r => .cons (.int w) (dpInts r)
theorem dpI {K : PySem.W.Frag} {H : Hp} {a : Addr} {ws : List Int} (h : SqL K H a (ws.map V.int)) : Dp K H (.ref a) (.list (ws.map PyData.int)) := .lst h (dpInts ws)
theorem eqvI (ws : List Int) : PyData.eqv (.list (ws.map PyData.int)) (.list (ws.map PyData.int)) = true := SeqAt.eqv_refl _ (by simp [PyData.canLay0, layInts])
theorem neLL {K : PySem.W.Frag} {H : Hp} {Q : VK} {a b : Addr} {ws : List Int} (h1 : SqL K H a (ws.map V.int)) (h2 : SqL K H b (ws.map V.int)) (q : Q (.bl false) H) : rNeD K (.ref a) (.ref b) H Q :=
  ⟨_, _, dpI h1, dpI h2, shInts _, shInts _, by rw [eqvI]; exact q⟩
theorem eqLL {K : PySem.W.Frag} {H : Hp} {Q : VK} {a b : Addr} {ws : List Int} (h1 : SqL K H a (ws.map V.int)) (h2 : SqL K H b (ws.map V.int)) (q : Q (.bl true) H) : rEqD K (.ref a) (.ref b) H Q :=
  ⟨_, _, dpI h1, dpI h2, shInts _, shInts _, by rw [eqvI]; exact q⟩

/-! ### errors of samphire.errors with fields -/
open PySem in
theorem app_len (a b : Str) : (a ++ b).length = a.length + b.length := by
  show (a.cps ++ b.cps).size = _
  rw [Array.size_append]; rfl
/-- what an own __init__ with fields does: ok says what it is called with, fl which fields it keeps -/
def spErr (C : Addr) (ok : List V → Prop) (fl : List V → List (Str × V)) : Sp := fun vs H Q _ => ∃ (a : Addr) (ws : List V), vs = .ref a :: ws ∧ ok ws ∧ H a = some (exo a C none) ∧
  ∀ d H', H d = none → d ≠ a → H' a = some (exo a C (some d)) → H' d = some (exd d (fl ws)) → (∀ b, b ≠ a → b ≠ d → H' b = H b) → Q .non H'
theorem err_heap {H H' : Hp} {a d : Addr} {o : HO} (ha : H a = none) (h : ∀ b, b ≠ a → b ≠ d → H' b = H b) : upd (del H' a) d o = upd H d o := by
  funext b
  by_cases hd : b = d
  · rw [hd, upd_same, upd_same]
  · rw [upd_ne hd, upd_ne hd]
    by_cases hb : b = a
    · rw [hb, del_same, ha]
    · rw [del_ne hb, h b hb hd]
/-- raise C(..) -/
theorem mkErr {C : Addr} {ok : List V → Prop} {fl : List V → List (Str × V)} {ta : TA} {σ : L2.St} {H : Hp} {Q : XK} (h : ta σ H fun vs H1 => vs.length ≤ 1000 ∧ ok vs ∧ ∀ d, H1 d = none → Q (.ref C) (some d) (upd H1 d (.xd (fl vs)))) (mono : ∀ {R S : List V → Hp → Prop}, (∀ v u, R v u → S v u) → ta σ H R → ta σ H S) : tMkO C (spErr C ok fl) [] ta σ H Q := by
  refine mono ?_ h
  rintro vs H1 ⟨hz, hok, q⟩
  refine ⟨hz, fun a ha => ⟨a, vs, by rw [List.append_nil], hok, upd_same, fun d H' hd hda h1 h2 h3 => ⟨rfl, d, fl vs, h1, h2, ?_, ?_⟩⟩⟩
  · rwa [upd_ne hda] at hd
  · rw [err_heap ha fun b hb hd => by rw [h3 b hb hd, upd_ne hb]]
    refine q d ?_
    rwa [upd_ne hda] at hd

/-! ### errors of samples: InvalidSize, SharedKey, WrongKind -/
def flF (f : Str) : List V → List (Str × V)
  | [v] => [(f, v)]
  | _ => []
def okSize (ws : List V) : Prop := ∃ z : Int, ws = [.int z] ∧ -5 ≤ z ∧ z ≤ 30
theorem size_len {z : Int} (h0 : -5 ≤ z) (h1 : z ≤ 30) : (Str.ofString (toString z)).length ≤ 9 := by
  have h : ∀ i : Fin 36, (Str.ofString (toString ((i.val : Int) - 5))).length ≤ 9 := by decide +kernel
  have := h ⟨(z + 5).toNat, by omega⟩
  rwa [show (((z + 5).toNat : Int) - 5) = z by omega] at this
theorem ok_InvalidSize_init {P : Program} {w : World} {K : PySem.W.Frag} {mg : Str → Option Value} {base : Heap} (T : T P K mg) : FnOk P w K mg base CX0 1 T.a_InvalidSize_init ((NF_InvalidSize T.cc_InvalidSize T.c_InvalidSize).fd T.doc_InvalidSize T.pm_InvalidSize T.ctv_InvalidSize) ["self", "size"] (spErr T.C_InvalidSize okSize (flF "size")) := by
  refine Sup.fn_super (F := NF_InvalidSize T.cc_InvalidSize T.c_InvalidSize) (p := "self") (ps' := ["size"]) T.x_InvalidSize.S T.lk_InvalidSize rfl T.hc_InvalidSize sc_InvalidSize_init rfl ⟨_, rfl, rfl⟩ rfl rfl (fun _ => rfl) (fun _ => ⟨_, rfl⟩) (fun _ => rfl) (fun vs H Q E h => ?_) (fun A outer s H vs Q E hr h => ?_)
  · obtain ⟨a, ws, rfl, ⟨s, rfl, _⟩, _⟩ := h
    rfl
  · obtain ⟨a, ws, rfl, ⟨z, rfl, hz0, hz1⟩, ha, q⟩ := h
    refine ⟨a, [.int z], _, _, rfl, ha, pa_cons (pe_joined (.cons pe_str (.cons (pe_fmt (pv 1)) .nil))) pa_nil, pss_one (ps_ost (pv 0) (pv 1)), ?_⟩
    have nl := size_len hz0 hz1
    have zl : 100000 ≤ sizeLine := by decide
    refine ⟨_, rfl, ?_, V.int z, rfl, .inr ⟨z, rfl, ?_, _, rfl, ?_, ?_⟩⟩
    · decide +kernel
    · exact Nat.lt_of_lt_of_le (PySem.Flt.log2_lt_of (k := 30) (by decide) (Nat.lt_of_le_of_lt (show z.natAbs ≤ 30 by omega) (by decide))) (by decide)
    · rw [app_len]
      refine Nat.le_trans (Nat.add_le_add (Nat.le_of_eq (show _ = 26 by decide +kernel)) nl) (by decide)
    refine ⟨by show 1 ≤ 1000; decide, ha, V.int z, rfl, V.ref a, rfl, a, T.C_InvalidSize, rfl, T.x_InvalidSize.S.T, T.nf_InvalidSize_size, .inl ⟨ha, fun d hd hda => ?_⟩⟩
    exact q d _ hd hda upd_same (by rw [upd_ne hda]; exact upd_same) (fun b hb hb2 => by rw [upd_ne hb, upd_ne hb2])
def okKey (ws : List V) : Prop := ∃ s : Str, ws = [.str s] ∧ s.length ≤ 1000
theorem ok_SharedKey_init {P : Program} {w : World} {K : PySem.W.Frag} {mg : Str → Option Value} {base : Heap} (T : T P K mg) : FnOk P w K mg base CX0 1 T.a_SharedKey_init ((NF_SharedKey T.cc_SharedKey T.c_SharedKey).fd T.doc_SharedKey T.pm_SharedKey T.ctv_SharedKey) ["self", "key"] (spErr T.C_SharedKey okKey (flF "key")) := by
  refine Sup.fn_super (F := NF_SharedKey T.cc_SharedKey T.c_SharedKey) (p := "self") (ps' := ["key"]) T.x_SharedKey.S T.lk_SharedKey rfl T.hc_SharedKey sc_SharedKey_init rfl ⟨_, rfl, rfl⟩ rfl rfl (fun _ => rfl) (fun _ => ⟨_, rfl⟩) (fun _ => rfl) (fun vs H Q E h => ?_) (fun A outer s H vs Q E hr h => ?_)
  · obtain ⟨a, ws, rfl, ⟨s, rfl, _⟩, _⟩ := h
    rfl
  · obtain ⟨a, ws, rfl, ⟨s, rfl, hz⟩, ha, q⟩ := h
    refine ⟨a, [.str s], _, _, rfl, ha, pa_cons (pe_joined (.cons pe_str (.cons (pe_fmt (pv 1)) .nil))) pa_nil, pss_one (ps_ost (pv 0) (pv 1)), ?_⟩
    refine ⟨_, rfl, ?_, V.str s, rfl, .inl ⟨s, rfl, Nat.le_trans hz (by decide), s, rfl, ?_, ?_⟩⟩
    · decide +kernel
    · rw [app_len]
      refine Nat.le_trans (Nat.add_le_add (Nat.le_of_eq (show _ = 12 by decide +kernel)) hz) (by decide)
    refine ⟨by show 1 ≤ 1000; decide, ha, V.str s, rfl, V.ref a, rfl, a, T.C_SharedKey, rfl, T.x_SharedKey.S.T, T.nf_SharedKey_key, .inl ⟨ha, fun d hd hda => ?_⟩⟩
    exact q d _ hd hda upd_same (by rw [upd_ne hda]; exact upd_same) (fun b hb hb2 => by rw [upd_ne hb, upd_ne hb2])
def spWK (C : Addr) : Sp := fun vs H Q _ => ∃ a : Addr, vs = [.ref a] ∧ H a = some (exo a C none) ∧ Q .non H
theorem ok_WrongKind_init {P : Program} {w : World} {K : PySem.W.Frag} {mg : Str → Option Value} {base : Heap} (T : T P K mg) : FnOk P w K mg base CX0 1 T.a_WrongKind_init ((NF_WrongKind T.cc_WrongKind T.c_WrongKind).fd T.doc_WrongKind T.pm_WrongKind T.ctv_WrongKind) ["self"] (spWK T.C_WrongKind) := by
  refine Sup.fn_super (F := NF_WrongKind T.cc_WrongKind T.c_WrongKind) (p := "self") (ps' := []) T.x_WrongKind.S T.lk_WrongKind rfl T.hc_WrongKind sc_WrongKind_init rfl ⟨_, rfl, rfl⟩ rfl rfl (fun _ => rfl) (fun _ => ⟨_, rfl⟩) (fun _ => rfl) (fun vs H Q E h => ?_) (fun A outer s H vs Q E hr h => ?_)
  · obtain ⟨a, rfl, _⟩ := h
    rfl
  · obtain ⟨a, rfl, ha, q⟩ := h
    exact ⟨a, [], _, _, rfl, ha, pa_cons pe_str pa_nil, pss_nil, by decide, ha, q⟩
def spSize (C : Addr) : Sp := fun vs H Q E => ∃ z : Int, vs = [.int z] ∧ -5 ≤ z ∧ z ≤ 30 ∧ ((1 ≤ z ∧ z ≤ 20) → Q .non H) ∧ (¬ (1 ≤ z ∧ z ≤ 20) → ∀ d, H d = none → E (.ref C) (some d) (upd H d (.xd (flF "size" [.int z]))))
theorem ok_check_size {P : Program} {w : World} {K : PySem.W.Frag} {mg : Str → Option Value} {base : Heap} (T : T P K mg) : FnOk P w K mg base (L2.CX P w) 3 T.a_check_size T.fd_check_size ["size"] (spSize T.C_InvalidSize) := by
  refine T.F_check_size.okX sc_check_size (fun vs H Q E h => ?_) (fun cdv A outer s H vs Q E hr h => ?_)
  · obtain ⟨z, rfl, _⟩ := h
    rfl
  · obtain ⟨z, rfl, hz0, hz1, q, e⟩ := h
    refine ⟨_, (pss_one (ps_if (pt_not (pt_chain op_le op_le pe_int (pv 0) (pe_glob (by rfl) T.g_MOST_SIZE T.r_MOST_SIZE))) (pss_one (ps_raise rfl (takes_of rfl rfl rfl rfl) (pmk_oex T.x_InvalidSize.S.T T.x_InvalidSize.iC T.x_InvalidSize.tI (ok_InvalidSize_init T) (hr.mono (by decide)) (T.bx_InvalidSize) .nil pass0 (by rfl) T.x_InvalidSize.g (pa_cons (pv 0) pa_nil)))) pss_nil)), ?_⟩
    walk_at "z0"
    walk_at "z"
    refine Z.ite (fun h1 => ?_) (fun h1 => ?_)
    · walk_at "z"
      refine Z.iteN (fun h2 => ?_) (fun h2 => ?_)
      · refine mkErr ?_ (fun hRS h => ?_)
        · exact ⟨_, rfl, by simp, ⟨z, rfl, hz0, hz1⟩, fun d hd => e (by omega) d hd⟩
        · obtain ⟨v1, e1, h⟩ := h
          exact ⟨v1, e1, hRS _ _ h⟩
      · walk_at "z"
        exact q ⟨h1, h2⟩
    · refine ⟨_, rfl, ?_⟩
      refine Z.yesNB ?_
      refine mkErr ?_ (fun hRS h => ?_)
      · exact ⟨_, rfl, by simp, ⟨z, rfl, hz0, hz1⟩, fun d hd => e (by omega) d hd⟩
      · obtain ⟨v1, e1, h⟩ := h
        exact ⟨v1, e1, hRS _ _ h⟩
/-! ### names kept twice -/
/-- the first of two equal neighbours -/
def twice : List Str → Option Str
  | a :: b :: r => if b = a then some b else twice (b :: r)
  | _ => none
theorem twice_at : ∀ {l : List Str} {j : Nat} {a b : Str}, l[j]? = some a → l[j + 1]? = some b → b = a → (∀ i c d, i < j → l[i]? = some c → l[i + 1]? = some d → d ≠ c) → twice l = some b
  | [], _, _, _, h, _, _, _ => by simp at h
  | [x], j, a, b, _, h, _, _ => by simp at h
  | x :: y :: r, 0, a, b, h1, h2, h3, _ => by
    simp at h1 h2
    subst h1 h2 h3
    unfold twice
    rw [if_pos rfl]
  | x :: y :: r, j + 1, a, b, h1, h2, h3, h4 => by
    have ih := twice_at (l := y :: r) (j := j) (a := a) (b := b) (by simpa using h1) (by simpa using h2) h3 fun i c d hi hc hd => h4 (i + 1) c d (by omega) (by simpa using hc) (by simpa using hd)
    unfold twice
    rw [if_neg (h4 0 x y (by omega) rfl rfl), ih]
theorem twice_none : ∀ {l : List Str}, (∀ i c d, l[i]? = some c → l[i + 1]? = some d → d ≠ c) → twice l = none
  | [], _ => rfl
  | [x], _ => rfl
  | x :: y :: r, h => by
    have ih := twice_none (l := y :: r) fun i c d hc hd => h (i + 1) c d (by simpa using hc) (by simpa using hd)
    unfold twice
    rw [if_neg (h 0 x y rfl rfl), ih]
def strP (l : List Str) : List (V × PyData) := l.map fun s => (V.str s, PyData.str s)
def unV : V → Str
  | .str s => s
  | _ => Str.empty
def sortS (l : List Str) : List Str := ((strP l).mergeSort (PySem.W.dataLe false Prod.snd)).map fun p => unV p.1
theorem sortS_eq (l : List Str) : ((strP l).mergeSort (PySem.W.dataLe false Prod.snd)).map Prod.fst = (sortS l).map V.str := by
  unfold sortS
  rw [List.map_map]
  refine List.map_congr_left fun p hp => ?_
  obtain ⟨s, _, rfl⟩ := List.mem_map.mp (List.mem_mergeSort.mp hp)
  rfl
theorem sortS_len (l : List Str) : (sortS l).length = l.length := by
  unfold sortS strP
  rw [List.length_map, List.length_mergeSort, List.length_map]
def optV : Option Str → V
  | some s => .str s
  | none => .non
def spTwice (K : PySem.W.Frag) : Sp := fun vs H Q _ => ∃ (a : Addr) (ks : List Str), vs = [.ref a] ∧ SqL K H a (ks.map V.str) ∧ ks.length ≤ 1000 ∧ (∀ s ∈ ks, PyData.strOk s = true) ∧ ∀ H', Kp [] H H' → Q (optV (twice (sortS ks))) H'
theorem ok_least_twice {P : Program} {w : World} {K : PySem.W.Frag} {mg : Str → Option Value} {base : Heap} (T : T P K mg) : FnOk P w K mg base CX0 1 T.a_least_twice T.fd_least_twice ["names"] (spTwice K) := by
  refine T.F_least_twice.ok sc_least_twice (fun vs H Q E h => ?_) (fun cdv A outer s H vs Q E hr h => ?_)
  · obtain ⟨a, ks, rfl, _⟩ := h
    rfl
  · obtain ⟨a, ks, rfl, hS, hn, hok, q⟩ := h
    refine ⟨_, (pss_cons (ps_set (i := 1) sc_least_twice.nd rfl (by first | exact Or.inl rfl | exact Or.inr rfl) (pe_callB ((RL.cr_sortedD hr.units) : CallR _ _ (RL.rSortedD K)) (by rfl) T.z_sorted (by decide +kernel) (pa_cons (pv 0) pa_nil)))
      (pss_cons (ps_for PassesOwn.never rfl (pi_range2 (by rfl) T.z_range (pa_cons pe_int (pa_cons (pe_callB c_len (by rfl) T.z_len (by decide +kernel) (pa_cons (pv 1) pa_nil)) pa_nil))) (pg_name (i := 2) sc_least_twice.nd rfl (by first | exact Or.inl rfl | exact Or.inr rfl)) (pss_one (ps_if (pt_cmpR op_eq (pe_ix ix_list (pv 1) (pv 2) (fun _ _ => rfl)) (pe_ix ix_list (pv 1) (pe_op op_sub (pv 2) pe_int) (fun _ _ => rfl)) (nomark _)) (pss_one (ps_ret (pe_ix ix_list (pv 1) (pv 2) (fun _ _ => rfl)))) pss_nil)))
      (pss_one (ps_ret pe_non)))), ?_⟩
    walk_at "z0"
    walk_at "z"
    refine ⟨a, strP ks, rfl, by unfold strP; rw [List.map_map]; exact hS, ?_, ?_, ?_, ?_, fun p np => ?_⟩
    · intro b hb
      obtain ⟨s, hs, rfl⟩ := List.mem_map.mp hb
      exact .str s
    · intro d hd d' hd'
      obtain ⟨b, hb, rfl⟩ := List.mem_map.mp hd
      obtain ⟨s, hs, rfl⟩ := List.mem_map.mp hb
      obtain ⟨b', hb', rfl⟩ := List.mem_map.mp hd'
      obtain ⟨s', hs', rfl⟩ := List.mem_map.mp hb'
      rfl
    · refine .inr fun d hd => ?_
      obtain ⟨b, hb, rfl⟩ := List.mem_map.mp hd
      obtain ⟨s, hs, rfl⟩ := List.mem_map.mp hb
      exact ⟨fun z => (by cases z), fun xs z => (by cases z)⟩
    · intro b hb
      obtain ⟨s, hs, rfl⟩ := List.mem_map.mp hb
      show (PyData.str s).depth ≤ 60
      simp [PyData.depth]
    · rw [sortS_eq]
      have k1 : Kp [] H (upd H p (.lst ((sortS ks).map V.str))) := Kp.new np
      have e1 : upd H p (.lst ((sortS ks).map V.str)) p = some (.lst ((sortS ks).map V.str)) := upd_same
      generalize upd H p (.lst ((sortS ks).map V.str)) = H1 at k1 e1 ⊢
      have hl := sortS_len ks
      walk_at "z"
      refine Z.lenL (lstL e1) ?_
      rw [List.length_map]
      walk_at "z"
      refine Z.forr2 ((sortS ks).length - 1) (by omega) (by omega) (fun i σ' H' => ∃ y, σ' = [some (.ref a), some (.ref p), y] ∧ H' = H1 ∧ ∀ j c d, j < i → (sortS ks)[j]? = some c → (sortS ks)[j + 1]? = some d → d ≠ c) ⟨none, rfl, rfl, fun j c d hj => absurd hj (by omega)⟩ ?_ ?_
      · rintro i σ' H' hi ⟨y, rfl, rfl, hno⟩
        obtain ⟨c, hc⟩ : ∃ c, (sortS ks)[i]? = some c := ⟨_, List.getElem?_eq_getElem (by omega)⟩
        obtain ⟨d, hd⟩ : ∃ d, (sortS ks)[i + 1]? = some d := ⟨_, List.getElem?_eq_getElem (by omega)⟩
        have a1 : atI ((sortS ks).map V.str) (1 + (i : Int)) = some (.str d) := by
          rw [show (1 + (i : Int)) = ((i + 1 : Nat) : Int) by omega]
          exact atI_nat (by rw [List.getElem?_map, hd]; rfl)
        have a0 : atI ((sortS ks).map V.str) (1 + (i : Int) - 1) = some (.str c) := by
          rw [show (1 + (i : Int) - 1) = (i : Int) by omega]
          exact atI_nat (by rw [List.getElem?_map, hc]; rfl)
        walk_at "z"
        refine Z.ixL (lstL e1) a1 ?_
        walk_at "z"
        refine Z.ixL (lstL e1) a0 ?_
        walk_at "z"
        refine Z.ite (fun h1 => ?_) (fun h1 => ?_)
        · walk_at "z"
          refine Z.ixL (lstL e1) a1 ?_
          have := q _ k1
          rw [twice_at hc hd h1 hno] at this
          exact this
        · walk_at "z"
          refine ⟨_, rfl, rfl, fun j c' d' hj hc' hd' => ?_⟩
          rcases Nat.lt_or_ge j i with z | z
          · exact hno j c' d' z hc' hd'
          · obtain rfl : j = i := by omega
            rw [hc] at hc'
            rw [hd] at hd'
            rw [← Option.some.inj hc', ← Option.some.inj hd']
            exact h1
      · rintro σ' H' ⟨y, rfl, rfl, hno⟩
        walk_at "z"
        have := q _ k1
        rw [twice_none (fun i c d hc hd => hno i c d (by have := (List.getElem?_eq_some_iff.mp hd).1; omega) hc hd)] at this
        exact this

/-! ### number_at -/
def nAt : List Int → Int → Nat
  | [], _ => 0
  | w :: r, p => if p < w then 0 else nAt r (p - w) + 1
theorem nAt_spec : ∀ {ns : List Int} {p : Int} {i : Nat}, (∀ n ∈ ns, 0 ≤ n) → (ns.take i).sum ≤ p → p < (ns.take (i + 1)).sum → nAt ns p = i
  | [], p, i, _, h1, h2 => by
    simp at h1 h2
    omega
  | w :: r, p, 0, _, h1, h2 => by
    simp at h1 h2
    unfold nAt
    rw [if_pos h2]
  | w :: r, p, i + 1, h, h1, h2 => by
    rw [List.take_succ_cons, List.sum_cons] at h1 h2
    have h3 := take_nonneg (l := r) (fun n hn => h n (by simp [hn])) i
    have ih := nAt_spec (ns := r) (p := p - w) (i := i) (fun n hn => h n (by simp [hn])) (by omega) (by omega)
    unfold nAt
    rw [if_neg (by omega), ih]
structure WOk (ws : List Int) : Prop where
  pos : ∀ n ∈ ws, 0 ≤ n
  sum : 0 < ws.sum
def spNumberAt (K : PySem.W.Frag) : Sp := fun vs H Q _ => ∃ (a : Addr) (ns : List Int) (p : Int), vs = [.ref a, .int p] ∧ SqL K H a (ns.map V.int) ∧ 0 ≤ p ∧ (∀ n ∈ ns, 0 ≤ n) ∧ p < ns.sum ∧ Q (.int (nAt ns p)) H
theorem lt_len {ns : List Int} {p : Int} {j : Nat} (h : (ns.take j).sum ≤ p) (hl : p < ns.sum) : j < ns.length := by
  rcases Nat.lt_or_ge j ns.length with h1 | h1
  · exact h1
  · rw [List.take_of_length_le h1] at h
    omega
theorem ok_number_at {P : Program} {w : World} {K : PySem.W.Frag} {mg : Str → Option Value} {base : Heap} (T : T P K mg) : FnOk P w K mg base CX0 1 T.a_number_at T.fd_number_at ["weights", "place"] (spNumberAt K) := by
  refine T.F_number_at.ok sc_number_at (fun vs H Q E h => ?_) (fun cdv A outer s H vs Q E hr h => ?_)
  · obtain ⟨a, ns, p, rfl, _⟩ := h
    rfl
  · obtain ⟨a, ns, p, rfl, hS, hp, hn, hl, q⟩ := h
    refine ⟨_, (pss_cons (ps_set (i := 2) sc_number_at.nd rfl (by first | exact Or.inl rfl | exact Or.inr rfl) pe_int)
      (pss_cons (ps_set (i := 3) sc_number_at.nd rfl (by first | exact Or.inl rfl | exact Or.inr rfl) (pv 1))
      (pss_cons (ps_while PassesOwn.never (pt_cmpR op_ge (pv 3) (pe_ix ix_list (pv 0) (pv 2) (fun _ _ => rfl)) (nomark _)) (pss_cons (ps_aug (i := 3) sc_number_at.nd rfl (by first | exact Or.inl rfl | exact Or.inr rfl) (pe_ix ix_list (pv 0) (pv 2) (fun _ _ => rfl)) ip_sub)
      (pss_one (ps_aug (i := 2) sc_number_at.nd rfl (by first | exact Or.inl rfl | exact Or.inr rfl) pe_int ip_add))))
      (pss_one (ps_ret (pv 2)))))), ?_⟩
    walk_at "z0"
    walk_at "z"
    refine Z.wh (fun m σ' H' => ∃ (j : Nat) (left : Int), σ' = [some (.ref a), some (.int p), some (.int (j : Int)), some (.int left)] ∧ H' = H ∧ m + j = ns.length ∧ left = p - (ns.take j).sum ∧ 0 ≤ left) ns.length ⟨0, p, rfl, rfl, rfl, by simp, hp⟩ ?_
    rintro m σ' H' ⟨j, left, rfl, rfl, hm, hleft, h0⟩
    have hj : j < ns.length := lt_len (p := p) (by omega) hl
    have hx : ns[j]? = some ns[j] := List.getElem?_eq_getElem hj
    have hs := sum_take hx
    walk_at "z"
    refine Z.ixL hS (atM hx) ?_
    walk_at "z"
    refine Z.ite (fun h1 => ?_) (fun h1 => ?_)
    · refine Z.whb ?_
      walk_at "z"
      refine Z.ixL hS (atM hx) ?_
      walk_at "z"
      refine ⟨m - 1, by omega, j + 1, _, rfl, rfl, by omega, ?_, ?_⟩
      · omega
      · omega
    · walk_at "z"
      rw [nAt_spec hn (by omega) (by omega : p < (ns.take (j + 1)).sum)] at q
      exact q
/-! ### the tape -/
theorem ne_np : ¬ (("_numbers" : Str) = "_picks") := by decide +kernel
def tf (l : Addr) (k : Nat) : List (Str × V) := [("_numbers", .ref l), ("_picks", .int (k : Int))]
theorem tf_n (l : Addr) (k : Nat) : (tf l k).lookup ("_numbers" : Str) = some (.ref l) := rfl
theorem tf_p (l : Addr) (k : Nat) : (tf l k).lookup ("_picks" : Str) = some (.int (k : Int)) := rfl
theorem tf_mk (l : Addr) : putF "_picks" (.int 0) (putF "_numbers" (.ref l) []) = tf l 0 := by
  show (if ("_numbers" : Str) = "_picks" then _ else (("_numbers" : Str), V.ref l) :: [(("_picks" : Str), V.int 0)]) = _
  rw [if_neg ne_np]; rfl
theorem tf_put (l : Addr) (k : Nat) : putF "_picks" (.int ((k : Int) + 1)) (tf l k) = tf l (k + 1) := by
  show (if ("_numbers" : Str) = "_picks" then _ else (("_numbers" : Str), V.ref l) :: (if ("_picks" : Str) = "_picks" then [(("_picks" : Str), V.int ((k : Int) + 1))] else _)) = _
  rw [if_neg ne_np, if_pos rfl]; rfl
theorem tf_pick (l : Addr) (k : Nat) : (tf l k).lookup ("pick" : Str) = none := rfl
theorem tf_used (l : Addr) (k : Nat) : (tf l k).lookup ("used" : Str) = none := rfl
def TapeAt (C : Addr) (H : Hp) (x l : Addr) (ns : List Int) (k : Nat) : Prop := (∃ dx, H x = some (.ins C dx (tf l k))) ∧ H l = some (.lst (ns.map V.int))
def spTInit (K : PySem.W.Frag) (C : Addr) : Sp := fun vs H Q _ => ∃ (x b dx : Addr) (ns : List Int), vs = [.ref x, .ref b] ∧ H x = some (.ins C dx []) ∧ SqL K H b (ns.map V.int) ∧ ∀ H' l, H l = none → Kp [x] H H' → TapeAt C H' x l ns 0 → Q .non H'
theorem ok_Tape_init {P : Program} {w : World} {K : PySem.W.Frag} {mg : Str → Option Value} {base : Heap} (T : T P K mg) : FnOk P w K mg base CX0 1 T.a_Tape_init T.fd_Tape_init ["self", "numbers"] (spTInit K T.C_Tape) := by
  refine T.F_Tape_init.ok sc_Tape_init (fun vs H Q E h => ?_) (fun cdv A outer s H vs Q E hr h => ?_)
  · obtain ⟨x, b, dx, ns, rfl, _⟩ := h
    rfl
  · obtain ⟨x, b, dx, ns, rfl, hx, hS, q⟩ := h
    refine ⟨_, (pss_cons (ps_fld (pv 0) (pe_callTy c_list (by rfl) T.z_list (by decide +kernel) (pa_cons (pv 1) pa_nil)) rfl)
      (pss_one (ps_fld (pv 0) pe_int rfl))), ?_⟩
    walk_at "z0"
    walk_at "z"
    refine Z.listL hS fun l H1 nl k1 e1 => ?_
    have hx1 := k1.get nin0 hx
    have nxl : x ≠ l := ne_of_none hx nl
    walk_at "z"
    refine ⟨x, _, dx, [], rfl, hx1, T.cl_Tape, T.na_Tape__numbers, by decide, ?_⟩
    walk_at "z"
    refine ⟨x, _, dx, _, rfl, upd_same, T.cl_Tape, T.na_Tape__picks, by show 1 < 1000; decide, ?_⟩
    walk_at "z"
    rw [tf_mk, upd_upd]
    exact q _ l nl ((k1.sub (by simp)).trans (Kp.put (by simp))) ⟨⟨dx, upd_same⟩, (upd_ne nxl.symm).trans e1⟩
def spTPick (K : PySem.W.Frag) (C : Addr) : Sp := fun vs H Q _ => ∃ (x b l : Addr) (ns ws : List Int) (k : Nat), vs = [.ref x, .ref b] ∧ TapeAt C H x l ns k ∧ SqL K H b (ws.map V.int) ∧ WOk ws ∧ ∀ H', Kp [x] H H' → TapeAt C H' x l ns (k + 1) → Q (.int (nAt ws ((ns.getD k 0) % ws.sum))) H'
theorem ok_Tape_pick {P : Program} {w : World} {K : PySem.W.Frag} {mg : Str → Option Value} {base : Heap} (T : T P K mg) : FnOk P w K mg base CX0 2 T.a_Tape_pick T.fd_Tape_pick ["self", "weights"] (spTPick K T.C_Tape) := by
  refine T.F_Tape_pick.ok sc_Tape_pick (fun vs H Q E h => ?_) (fun cdv A outer s H vs Q E hr h => ?_)
  · obtain ⟨x, b, l, ns, ws, k, rfl, _⟩ := h
    rfl
  · obtain ⟨x, b, l, ns, ws, k, rfl, ⟨⟨dx, hx⟩, hl⟩, hS, hW, q⟩ := h
    have nlx : l ≠ x := ne_of hl hx (by intro e; cases e)
    refine ⟨_, (pss_cons (ps_set (i := 2) sc_Tape_pick.nd rfl (by first | exact Or.inl rfl | exact Or.inr rfl) pe_int)
      (Z.pss_consJ (ps_if (pt_cmpR op_lt (pe_fld (pv 0) rfl) (pe_callB c_len (by rfl) T.z_len (by decide +kernel) (pa_cons (pe_fld (pv 0) rfl) pa_nil)) (nomark _)) (pss_one (ps_set (i := 2) sc_Tape_pick.nd rfl (by first | exact Or.inl rfl | exact Or.inr rfl) (pe_ix ix_list (pe_fld (pv 0) rfl) (pe_fld (pv 0) rfl) (fun _ _ => rfl)))) pss_nil)
      (pss_cons (ps_set (i := 3) sc_Tape_pick.nd rfl (by first | exact Or.inl rfl | exact Or.inr rfl) (pe_call (ok_number_at T) (hr.mono (by decide)) (by rfl) T.g_number_at T.F_number_at.kp T.b_number_at .nil pass0 (pa_cons (pv 1) (pa_cons (pe_op op_mod (pv 2) (pe_callB (cr_sum rfl) (by rfl) T.z_sum (by decide +kernel) (pa_cons (pv 1) pa_nil))) pa_nil))))
      (pss_cons (ps_fldaug (pv 0) pe_int in_add)
      (pss_one (ps_ret (pv 3))))))), ?_⟩
    walk_at "z0"
    walk_at "z"
    refine Z.seqJ (fun σ' H' => σ' = [some (.ref x), some (.ref b), some (.int (ns.getD k 0)), none] ∧ H' = H) ?_ ?_
    · rintro σ' H' ⟨rfl, rfl⟩
      walk_at "z"
      refine Z.sumL hS ?_
      walk_at "z"
      refine Z.iC hW.sum ?_
      have hs := hW.sum
      refine ⟨b, ws, _, rfl, hS, Int.emod_nonneg _ (by omega), hW.pos, Int.emod_lt_of_pos _ hs, ?_⟩
      walk_at "z"
      refine ⟨x, _, dx, _, _, rfl, hx, T.cl_Tape, T.na_Tape__picks, tf_p l k, ?_⟩
      walk_at "z"
      refine ⟨dx, _, hx, by show 2 < 1000; decide, ?_⟩
      walk_at "z"
      rw [tf_put]
      exact q _ (Kp.put (by simp)) ⟨⟨dx, upd_same⟩, (upd_ne nlx).trans hl⟩
    · intro N jn
      walk_at "z"
      refine ⟨x, _, dx, _, _, rfl, hx, T.cl_Tape, T.na_Tape__picks, tf_p l k, ?_⟩
      walk_at "z"
      refine ⟨x, _, dx, _, _, rfl, hx, T.cl_Tape, T.na_Tape__numbers, tf_n l k, ?_⟩
      walk_at "z"
      refine Z.lenL (lstL hl) ?_
      walk_at "z"
      rw [List.length_map]
      refine Z.ite (fun h1 => ?_) (fun h1 => ?_)
      · walk_at "z"
        refine ⟨x, _, dx, _, _, rfl, hx, T.cl_Tape, T.na_Tape__numbers, tf_n l k, ?_⟩
        walk_at "z"
        refine ⟨x, _, dx, _, _, rfl, hx, T.cl_Tape, T.na_Tape__picks, tf_p l k, ?_⟩
        have hk : k < ns.length := by omega
        refine Z.ixL (lstL hl) (atM (List.getElem?_eq_getElem hk)) ?_
        walk_at "z"
        refine jn _ _ ⟨?_, rfl⟩
        rw [List.getD_eq_getElem?_getD, List.getElem?_eq_getElem hk]; rfl
      · walk_at "z"
        refine jn _ _ ⟨?_, rfl⟩
        rw [List.getD_eq_getElem?_getD, List.getElem?_eq_none (by omega)]; rfl

/-! ### Euclid and lowest terms -/
def eStep (p : Nat × Nat) : Nat × Nat := if p.2 = 0 then p else (p.2, p.1 % p.2)
def euc : Nat → Nat × Nat → Nat × Nat
  | 0, p => p
  | i + 1, p => euc i (eStep p)
theorem euc_succ : ∀ (i : Nat) (p : Nat × Nat), euc (i + 1) p = eStep (euc i p)
  | 0, p => rfl
  | i + 1, p => euc_succ i (eStep p)
theorem eStep_gcd (p : Nat × Nat) : Nat.gcd (eStep p).1 (eStep p).2 = Nat.gcd p.1 p.2 := by
  unfold eStep
  split
  · rfl
  · show Nat.gcd p.2 (p.1 % p.2) = Nat.gcd p.1 p.2
    rw [Nat.gcd_comm p.1 p.2, Nat.gcd_rec p.2 p.1, Nat.gcd_comm]
theorem euc_gcd : ∀ (i : Nat) (p : Nat × Nat), Nat.gcd (euc i p).1 (euc i p).2 = Nat.gcd p.1 p.2
  | 0, p => rfl
  | i + 1, p => (euc_gcd i (eStep p)).trans (eStep_gcd p)
theorem eStep_zero {p : Nat × Nat} (h : p.2 = 0) : eStep p = p := if_pos h
theorem euc_zero : ∀ (i : Nat) {p : Nat × Nat}, p.2 = 0 → euc i p = p
  | 0, _, _ => rfl
  | i + 1, p, h => by
    show euc i (eStep p) = p
    rw [eStep_zero h]
    exact euc_zero i h
theorem eStep2 (p : Nat × Nat) : 2 * (eStep (eStep p)).2 ≤ p.2 := by
  obtain ⟨a, b⟩ := p
  by_cases hb : b = 0
  · rw [eStep_zero (p := (a, b)) hb, eStep_zero (p := (a, b)) hb]
    show 2 * b ≤ b
    omega
  · have e1 : eStep (a, b) = (b, a % b) := if_neg hb
    rw [e1]
    have hc : a % b < b := Nat.mod_lt _ (by omega)
    by_cases h0 : a % b = 0
    · rw [eStep_zero (p := (b, a % b)) h0]
      show 2 * (a % b) ≤ b
      omega
    · have e2 : eStep (b, a % b) = (a % b, b % (a % b)) := if_neg h0
      rw [e2]
      show 2 * (b % (a % b)) ≤ b
      have h1 : b % (a % b) < a % b := Nat.mod_lt _ (by omega)
      have h2 := Nat.div_add_mod b (a % b)
      have h3 : 1 ≤ b / (a % b) := Nat.div_pos (by omega) (by omega)
      have h4 : (a % b) * 1 ≤ (a % b) * (b / (a % b)) := Nat.mul_le_mul_left _ h3
      omega
theorem euc_end : ∀ (n : Nat) (p : Nat × Nat), p.2 < 2 ^ n → (euc (2 * n) p).2 = 0
  | 0, p, h => by
    have h' : p.2 < 1 := h
    show p.2 = 0
    omega
  | n + 1, p, h => by
    show (euc (2 * n) (eStep (eStep p))).2 = 0
    refine euc_end n _ ?_
    have := eStep2 p
    rw [Nat.pow_succ] at h
    omega
theorem euc_add : ∀ (i j : Nat) (p : Nat × Nat), euc (i + j) p = euc j (euc i p)
  | 0, j, p => by rw [Nat.zero_add]; rfl
  | i + 1, j, p => by
    rw [show i + 1 + j = (i + j) + 1 by omega]
    exact euc_add i j (eStep p)
theorem euc_5000 {p : Nat × Nat} (h : p.2 < 2 ^ 2400) : (euc 5000 p).2 = 0 := by
  rw [show (5000 : Nat) = 2 * 2400 + 200 from rfl, euc_add, euc_zero 200 (euc_end 2400 p h)]
  exact euc_end 2400 p h
def gN (p q : Int) : Nat := Nat.gcd p.natAbs q.natAbs
def gI (p q : Int) : Int := if q < 0 then -(gN p q : Int) else (gN p q : Int)
def lo (p q : Int) : Int × Int := (p.fdiv (gI p q), q.fdiv (gI p q))
theorem gN_pos {p q : Int} (h : q ≠ 0) : 0 < gN p q := Nat.gcd_pos_of_pos_right _ (by omega)
theorem gI_ne {p q : Int} (h : q ≠ 0) : gI p q ≠ 0 := by
  have := gN_pos (p := p) h
  unfold gI
  split <;> omega
theorem gN_le {p q : Int} (h : q ≠ 0) : gN p q ≤ q.natAbs := Nat.le_of_dvd (by omega) (Nat.gcd_dvd_right _ _)
theorem gI_abs (p q : Int) : (gI p q).natAbs = gN p q := by
  unfold gI
  split <;> omega
theorem dvdI {g : Nat} {p : Int} (h : g ∣ p.natAbs) : ∃ a : Int, p = (g : Int) * a ∧ p.natAbs = g * a.natAbs := by
  obtain ⟨c, hc⟩ := Int.ofNat_dvd_left.mpr h
  refine ⟨c, hc, ?_⟩
  rw [hc, Int.natAbs_mul]
  simp
/-- lowest terms: exactly divided, a denominator of at least 1, no common part -/
theorem lo_spec {p q : Int} (h : q ≠ 0) : ∃ a b : Int, lo p q = (a, b) ∧ 1 ≤ b ∧ Nat.gcd a.natAbs b.natAbs = 1 ∧ p = gI p q * a ∧ q = gI p q * b := by
  obtain ⟨a, ha, ha2⟩ := dvdI (Nat.gcd_dvd_left p.natAbs q.natAbs)
  obtain ⟨b, hb, hb2⟩ := dvdI (Nat.gcd_dvd_right p.natAbs q.natAbs)
  have hg := gN_pos (p := p) h
  have hcop : Nat.gcd a.natAbs b.natAbs = 1 := by
    have e := Nat.gcd_mul_left (gN p q) a.natAbs b.natAbs
    have e2 : gN p q * a.natAbs = p.natAbs := ha2.symm
    have e3 : gN p q * b.natAbs = q.natAbs := hb2.symm
    rw [e2, e3] at e
    have e4 : gN p q * 1 = gN p q * Nat.gcd a.natAbs b.natAbs := by rw [Nat.mul_one]; exact e
    exact (Nat.eq_of_mul_eq_mul_left hg e4).symm
  have ha' : p = (gN p q : Int) * a := ha
  have hb' : q = (gN p q : Int) * b := hb
  have gpos : (0 : Int) < (gN p q : Int) := by omega
  have hb0 : b ≠ 0 := fun z => by
    rw [z, Int.mul_zero] at hb'
    exact h hb'
  by_cases hq : q < 0
  · have eg : gI p q = -(gN p q : Int) := if_pos hq
    have hbn : b < 0 := by
      rcases Int.lt_or_le b 0 with z | z
      · exact z
      · have := Int.mul_nonneg (Int.le_of_lt gpos) z
        omega
    have ep : p = gI p q * -a := by rw [eg, Int.neg_mul_neg]; exact ha'
    have eq : q = gI p q * -b := by rw [eg, Int.neg_mul_neg]; exact hb'
    refine ⟨-a, -b, ?_, by omega, by rw [Int.natAbs_neg, Int.natAbs_neg]; exact hcop, ep, eq⟩
    have g0 := gI_ne (p := p) h
    unfold lo
    have f1 : p.fdiv (gI p q) = -a := by
      have := Int.mul_fdiv_cancel_left (-a) g0
      rw [← ep] at this
      exact this
    have f2 : q.fdiv (gI p q) = -b := by
      have := Int.mul_fdiv_cancel_left (-b) g0
      rw [← eq] at this
      exact this
    rw [f1, f2]
  · have eg : gI p q = (gN p q : Int) := if_neg hq
    have hbp : 0 < b := by
      rcases Int.lt_or_le 0 b with z | z
      · exact z
      · have := Int.mul_nonpos_of_nonneg_of_nonpos (Int.le_of_lt gpos) z
        omega
    have ep : p = gI p q * a := by rw [eg]; exact ha'
    have eq : q = gI p q * b := by rw [eg]; exact hb'
    refine ⟨a, b, ?_, by omega, hcop, ep, eq⟩
    have g0 := gI_ne (p := p) h
    unfold lo
    have f1 : p.fdiv (gI p q) = a := by
      have := Int.mul_fdiv_cancel_left a g0
      rw [← ep] at this
      exact this
    have f2 : q.fdiv (gI p q) = b := by
      have := Int.mul_fdiv_cancel_left b g0
      rw [← eq] at this
      exact this
    rw [f1, f2]
theorem lo_pos {p q : Int} (h : q ≠ 0) : 1 ≤ (lo p q).2 := by
  obtain ⟨a, b, e, h1, _⟩ := lo_spec (p := p) h
  rw [e]; exact h1
theorem lo_cop {p q : Int} (h : q ≠ 0) : Nat.gcd (lo p q).1.natAbs (lo p q).2.natAbs = 1 := by
  obtain ⟨a, b, e, _, h1, _⟩ := lo_spec (p := p) h
  rw [e]; exact h1
theorem abs_le_mul {g a : Int} (h : g ≠ 0) : a.natAbs ≤ (g * a).natAbs := by
  rw [Int.natAbs_mul]
  exact Nat.le_mul_of_pos_left _ (by omega)
theorem lo_abs1 {p q : Int} (h : q ≠ 0) : (lo p q).1.natAbs ≤ p.natAbs := by
  obtain ⟨a, b, e, _, _, h1, _⟩ := lo_spec (p := p) h
  rw [e]
  have := abs_le_mul (a := a) (gI_ne (p := p) h)
  rw [← h1] at this
  exact this
theorem lo_abs2 {p q : Int} (h : q ≠ 0) : (lo p q).2.natAbs ≤ q.natAbs := by
  obtain ⟨a, b, e, _, _, _, h1⟩ := lo_spec (p := p) h
  rw [e]
  have := abs_le_mul (a := b) (gI_ne (p := p) h)
  rw [← h1] at this
  exact this

/-! ### fractions: tuples of two ints -/
section frac
variable {K : PySem.W.Frag}
abbrev Fr := Int × Int
def frV (f : Fr) : List V := [.int f.1, .int f.2]
/-- at x there is no tuple -/
def NoTup (H : Hp) (x : Addr) : Prop := ∀ xs, ¬ Rd H x (.tup xs)
theorem NoTup.of {H : Hp} {x : Addr} {o : HO} (h : H x = some o) (n : ∀ xs, o ≠ .tup xs ∧ ∀ u, o ≠ .frz u (.tup xs)) : NoTup H x := fun xs r => by
  rcases r with r | ⟨u, r⟩
  · rw [h] at r; exact (n xs).1 (Option.some.inj r)
  · rw [h] at r; exact (n xs).2 u (Option.some.inj r)
theorem NoTup.lst {H : Hp} {x : Addr} {xs : List V} (h : H x = some (.lst xs)) : NoTup H x := NoTup.of h fun ys => ⟨by simp, by simp⟩
theorem NoTup.new {H : Hp} {x : Addr} (h : H x = none) : NoTup H x := fun xs r => by
  rcases r with r | ⟨u, r⟩ <;> rw [h] at r <;> cases r
theorem kpTup {K : PySem.W.Frag} {M : List Addr} {H H' : Hp} {a : Addr} {xs : List V} (h : SqT K H a xs) (k : Kp M H H') (n : ∀ x ∈ M, NoTup H x) : SqT K H' a xs := by
  rcases h with h | h
  · have na : a ∉ M := fun z => n a z xs h
    exact k.tup na (.inl h)
  · exact .inr h
/-- a fraction at a, a new one or one of the top -/
def FrAt (K : PySem.W.Frag) (H : Hp) (a : Addr) (f : Fr) : Prop := SqT K H a (frV f)
theorem FrAt.kp {M : List Addr} {H H' : Hp} {a : Addr} {f : Fr} (h : FrAt K H a f) (k : Kp M H H') (n : ∀ x ∈ M, NoTup H x) : FrAt K H' a f := kpTup h k n
theorem FrAt.kp0 {H H' : Hp} {a : Addr} {f : Fr} (h : FrAt K H a f) (k : Kp [] H H') : FrAt K H' a f := k.tup nin0 h
theorem FrAt.kpl {H H' : Hp} {a l : Addr} {f : Fr} {xs : List V} (h : FrAt K H a f) (k : Kp [l] H H') (e : H l = some (.lst xs)) : FrAt K H' a f := kpTup h k fun x hx => by
  rw [List.mem_singleton.mp hx]
  exact NoTup.lst e
theorem fr0 (f : Fr) : atI (frV f) 0 = some (.int f.1) := rfl
theorem fr1 (f : Fr) : atI (frV f) 1 = some (.int f.2) := rfl
/-- small enough for the machine's ints -/
def FrB (n : Nat) (f : Fr) : Prop := f.1.natAbs < 2 ^ n ∧ f.2.natAbs < 2 ^ n
theorem FrB.mono {n m : Nat} {f : Fr} (h : FrB n f) (l : n ≤ m) : FrB m f := ⟨Nat.lt_of_lt_of_le h.1 (Nat.pow_le_pow_right (by decide) l), Nat.lt_of_lt_of_le h.2 (Nat.pow_le_pow_right (by decide) l)⟩
theorem lo_B {n : Nat} {p q : Int} (h : q ≠ 0) (h1 : p.natAbs < 2 ^ n) (h2 : q.natAbs < 2 ^ n) : FrB n (lo p q) := ⟨Nat.lt_of_le_of_lt (lo_abs1 h) h1, Nat.lt_of_le_of_lt (lo_abs2 h) h2⟩
theorem add_B {n : Nat} {a b : Int} (h1 : a.natAbs < 2 ^ n) (h2 : b.natAbs < 2 ^ n) : (a + b).natAbs < 2 ^ (n + 1) := by
  rw [Nat.pow_succ]
  omega
theorem sub_B {n : Nat} {a b : Int} (h1 : a.natAbs < 2 ^ n) (h2 : b.natAbs < 2 ^ n) : (a - b).natAbs < 2 ^ (n + 1) := by
  rw [Nat.pow_succ]
  omega
theorem mul_B {n m : Nat} {a b : Int} (h1 : a.natAbs < 2 ^ n) (h2 : b.natAbs < 2 ^ m) : (a * b).natAbs < 2 ^ (n + m) := wide_lt h1 h2
theorem up_B {n m : Nat} {a : Int} (h : a.natAbs < 2 ^ n) (l : n ≤ m) : a.natAbs < 2 ^ m := Nat.lt_of_lt_of_le h (Nat.pow_le_pow_right (by decide) l)
theorem mul_ok {n : Nat} {a b : Int} (h1 : a.natAbs < 2 ^ n) (h2 : b.natAbs < 2 ^ n) (h0 : 0 < n := by omega) (h : n ≤ 400000 := by omega) : CMulW a b := wide_mul h1 h2 h0 h0 (by omega)
def fplus (f g : Fr) : Fr := lo (f.1 * g.2 + g.1 * f.2) (f.2 * g.2)
def fminus (f g : Fr) : Fr := lo (f.1 * g.2 - g.1 * f.2) (f.2 * g.2)
def ftimes (f g : Fr) : Fr := lo (f.1 * g.1) (f.2 * g.2)
def fover (f g : Fr) : Fr := lo (f.1 * g.2) (f.2 * g.1)
def fless (f g : Fr) : Bool := decide (f.1 * g.2 < g.1 * f.2)
theorem fplus_B {n m : Nat} {f g : Fr} (hf : FrB n f) (hg : FrB m g) (h1 : f.2 ≠ 0) (h2 : g.2 ≠ 0) : FrB (n + m + 1) (fplus f g) :=
  lo_B (Int.mul_ne_zero h1 h2) (add_B (mul_B hf.1 hg.2) (by rw [Nat.add_comm n m]; exact mul_B hg.1 hf.2)) (up_B (mul_B hf.2 hg.2) (by omega))
theorem fminus_B {n m : Nat} {f g : Fr} (hf : FrB n f) (hg : FrB m g) (h1 : f.2 ≠ 0) (h2 : g.2 ≠ 0) : FrB (n + m + 1) (fminus f g) :=
  lo_B (Int.mul_ne_zero h1 h2) (sub_B (mul_B hf.1 hg.2) (by rw [Nat.add_comm n m]; exact mul_B hg.1 hf.2)) (up_B (mul_B hf.2 hg.2) (by omega))
theorem ftimes_B {n m : Nat} {f g : Fr} (hf : FrB n f) (hg : FrB m g) (h1 : f.2 ≠ 0) (h2 : g.2 ≠ 0) : FrB (n + m) (ftimes f g) := lo_B (Int.mul_ne_zero h1 h2) (mul_B hf.1 hg.1) (mul_B hf.2 hg.2)
theorem fplus_pos {f g : Fr} (h1 : f.2 ≠ 0) (h2 : g.2 ≠ 0) : 1 ≤ (fplus f g).2 := lo_pos (Int.mul_ne_zero h1 h2)
/-! ### samphire.errors, samphire.ratios -/
def spZD (C : Addr) : Sp := fun vs H Q _ => ∃ a : Addr, vs = [.ref a] ∧ H a = some (exo a C none) ∧ Q .non H
theorem ok_ZeroDenominator_init {P : Program} {w : World} {K : PySem.W.Frag} {mg : Str → Option Value} {base : Heap} (T : T P K mg) : FnOk P w K mg base CX0 1 T.a_ZeroDenominator_init ((NF_ZeroDenominator T.cc_ZeroDenominator T.c_ZeroDenominator).fd T.doc_ZeroDenominator T.pm_ZeroDenominator T.ctv_ZeroDenominator) ["self"] (spZD T.C_ZeroDenominator) := by
  refine Sup.fn_super (F := NF_ZeroDenominator T.cc_ZeroDenominator T.c_ZeroDenominator) (p := "self") (ps' := []) T.x_ZeroDenominator.S T.lk_ZeroDenominator rfl T.hc_ZeroDenominator sc_ZeroDenominator_init rfl ⟨_, rfl, rfl⟩ rfl rfl (fun _ => rfl) (fun _ => ⟨_, rfl⟩) (fun _ => rfl) (fun vs H Q E h => ?_) (fun A outer s H vs Q E hr h => ?_)
  · obtain ⟨a, rfl, _⟩ := h
    rfl
  · obtain ⟨a, rfl, ha, q⟩ := h
    exact ⟨a, [], _, _, rfl, ha, pa_cons pe_str pa_nil, pss_nil, by decide, ha, q⟩
def spLowest (K : PySem.W.Frag) (C : Addr) : Sp := fun vs H Q E => ∃ p q : Int, vs = [.int p, .int q] ∧ q.natAbs < 2 ^ 8000 ∧ (q = 0 → E (.ref C) none H) ∧ (q ≠ 0 → ∀ H' b, H b = none → Kp [] H H' → FrAt K H' b (lo p q) → Q (.ref b) H')
theorem del_upd {H : Hp} {a : Addr} {o : HO} (h : H a = none) : del (upd H a o) a = H := by
  funext b
  by_cases hb : b = a
  · rw [hb, del_same, h]
  · rw [del_ne hb, upd_ne hb]
theorem ok_lowest {P : Program} {w : World} {K : PySem.W.Frag} {mg : Str → Option Value} {base : Heap} (T : T P K mg) : FnOk P w K mg base (L2.CX P w) 3 T.a_lowest T.fd_lowest ["p", "q"] (spLowest K T.C_ZeroDenominator) := by
  refine T.F_lowest.okX sc_lowest (fun vs H Q E h => ?_) (fun cdv A outer s H vs Q E hr h => ?_)
  · obtain ⟨p, q, rfl, _⟩ := h
    rfl
  · obtain ⟨p, q, rfl, hb, h0, h1⟩ := h
    refine ⟨_, (pss_cons (ps_if (pt_cmpR op_eq (pv 1) pe_int (nomark _)) (pss_one (ps_raise rfl (takes_of rfl rfl rfl rfl) (Sup.pmk_oexN T.x_ZeroDenominator.S.T T.x_ZeroDenominator.iC T.x_ZeroDenominator.tI (ok_ZeroDenominator_init T) (hr.mono (by decide)) (T.bx_ZeroDenominator) pass0 (by rfl) T.x_ZeroDenominator.g))) pss_nil)
      (pss_cons (ps_set (i := 2) sc_lowest.nd rfl (by first | exact Or.inl rfl | exact Or.inr rfl) (pe_callBfun cr_gcd (by rfl) T.g_gcd (pa_cons (pv 0) (pa_cons (pv 1) pa_nil))))
      (Z.pss_consJ (ps_if (pt_cmpR op_lt (pv 1) pe_int (nomark _)) (pss_one (ps_set (i := 2) sc_lowest.nd rfl (by first | exact Or.inl rfl | exact Or.inr rfl) (pe_un un_neg (pv 2)))) pss_nil)
      (pss_one (ps_ret (pe_tup (pa_cons (pe_op Z.op_fdivA (pv 0) (pv 2)) (pa_cons (pe_op Z.op_fdivA (pv 1) (pv 2)) pa_nil)))))))), ?_⟩
    walk_at "z0"
    walk_at "z"
    refine Z.ite (fun hq => ?_) (fun hq => ?_)
    · refine Z.mkN fun a na => ⟨a, rfl, upd_same, rfl, upd_same, ?_⟩
      rw [del_upd na]
      exact h0 hq
    · walk_at "z"
      have hg := gI_ne (p := p) hq
      have hdv : Z.CDivA p (gI p q) := Z.divA (b := 8000) hg (by rw [gI_abs]; exact Nat.lt_of_le_of_lt (gN_le hq) hb) (by decide) (by decide)
      have hdv2 : Z.CDivA q (gI p q) := hdv
      refine Z.seqJ (fun σ' H' => σ' = [some (.int p), some (.int q), some (.int (gI p q))] ∧ H' = H) ?_ ?_
      · rintro σ' H' ⟨rfl, rfl⟩
        walk_at "z"
        refine Z.iC hdv ?_
        walk_at "z"
        refine Z.iC hdv2 ?_
        refine Z.tupK (fun b H1 nb k1 e1 => ?_)
        exact h1 hq _ _ nb k1 (tupT e1)
      · intro N jn
        walk_at "z"
        refine Z.ite (fun h2 => ?_) (fun h2 => ?_)
        · walk_at "z"
          refine jn _ _ ⟨?_, rfl⟩
          unfold gI
          rw [if_pos h2]; rfl
        · walk_at "z"
          refine jn _ _ ⟨?_, rfl⟩
          unfold gI
          rw [if_neg h2]; rfl
/-- two fractions in, a fraction out -/
def spF2 (K : PySem.W.Frag) (o : Fr → Fr → Fr) : Sp := fun vs H Q _ => ∃ (a b : Addr) (f g : Fr), vs = [.ref a, .ref b] ∧ FrAt K H a f ∧ FrAt K H b g ∧ f.2 ≠ 0 ∧ g.2 ≠ 0 ∧ FrB 3900 f ∧ FrB 3900 g ∧ ∀ H' c, H c = none → Kp [] H H' → FrAt K H' c (o f g) → Q (.ref c) H'
theorem ok_plus {P : Program} {w : World} {K : PySem.W.Frag} {mg : Str → Option Value} {base : Heap} (T : T P K mg) : FnOk P w K mg base CX0 4 T.a_plus T.fd_plus ["a", "b"] (spF2 K fplus) := by
  refine T.F_plus.ok sc_plus (fun vs H Q E h => ?_) (fun cdv A outer s H vs Q E hr h => ?_)
  · obtain ⟨a, b, f, g, rfl, _⟩ := h
    rfl
  · obtain ⟨a, b, f, g, rfl, ha, hb, hf, hg, Bf, Bg, q⟩ := h
    refine ⟨_, (pss_one (ps_ret (pe_call (ok_lowest T) (hr.mono (by decide)) (by rfl) T.g_lowest T.F_lowest.kp T.b_lowest .nil passL (pa_cons (pe_op op_add (pe_op op_mulW (pe_ix ix_tup (pv 0) pe_int (fun _ _ => rfl)) (pe_ix ix_tup (pv 1) pe_int (fun _ _ => rfl))) (pe_op op_mulW (pe_ix ix_tup (pv 1) pe_int (fun _ _ => rfl)) (pe_ix ix_tup (pv 0) pe_int (fun _ _ => rfl)))) (pa_cons (pe_op op_mulW (pe_ix ix_tup (pv 0) pe_int (fun _ _ => rfl)) (pe_ix ix_tup (pv 1) pe_int (fun _ _ => rfl))) pa_nil))))), ?_⟩
    walk_at "z0"
    walk_at "z"
    refine Z.ixT ha (fr0 f) ?_
    walk_at "z"
    refine Z.ixT hb (fr1 g) ?_
    walk_at "z"
    refine Z.iC (mul_ok Bf.1 Bg.2) ?_
    walk_at "z"
    refine Z.ixT hb (fr0 g) ?_
    walk_at "z"
    refine Z.ixT ha (fr1 f) ?_
    walk_at "z"
    refine Z.iC (mul_ok Bg.1 Bf.2) ?_
    walk_at "z"
    refine Z.ixT ha (fr1 f) ?_
    walk_at "z"
    refine Z.ixT hb (fr1 g) ?_
    walk_at "z"
    refine Z.iC (mul_ok Bf.2 Bg.2) ?_
    walk_at "z"
    exact ⟨_, _, rfl, up_B (mul_B Bf.2 Bg.2) (by decide), fun z => absurd z (Int.mul_ne_zero hf hg), fun _ H' c nc k e => q _ _ nc k e⟩
/-- lists of fractions -/
def FrsAt (K : PySem.W.Frag) (H : Hp) (as : List Addr) (fs : List Fr) : Prop := Paired (fun a f => FrAt K H a f) as fs
theorem FrsAt.kp {M : List Addr} {H H' : Hp} {as : List Addr} {fs : List Fr} (h : FrsAt K H as fs) (k : Kp M H H') (n : ∀ x ∈ M, NoTup H x) : FrsAt K H' as fs := by
  induction h with
  | nil => exact .nil
  | cons r t ih => exact .cons (FrAt.kp r k n) ih
theorem FrsAt.kp0 {H H' : Hp} {as : List Addr} {fs : List Fr} (h : FrsAt K H as fs) (k : Kp [] H H') : FrsAt K H' as fs := h.kp k fun _ h => by cases h
theorem FrsAt.kpl {H H' : Hp} {as : List Addr} {fs : List Fr} {l : Addr} {xs : List V} (h : FrsAt K H as fs) (k : Kp [l] H H') (e : H l = some (.lst xs)) : FrsAt K H' as fs := h.kp k fun x hx => by
  rw [List.mem_singleton.mp hx]
  exact NoTup.lst e
theorem FrsAt.get {H : Hp} : ∀ {as : List Addr} {fs : List Fr} {i : Nat} {v : V}, FrsAt K H as fs → (as.map V.ref)[i]? = some v → ∃ a f, v = .ref a ∧ fs[i]? = some f ∧ FrAt K H a f
  | _, _, i, v, .nil, h => by simp at h
  | _, _, 0, v, .cons r t, h => by
    simp at h
    exact ⟨_, _, h.symm, rfl, r⟩
  | _, _, i + 1, v, .cons r t, h => by
    obtain ⟨a, f, e1, e2, e3⟩ := FrsAt.get (i := i) t (by simpa using h)
    exact ⟨a, f, e1, by simpa using e2, e3⟩
theorem FrsAt.len {H : Hp} {as : List Addr} {fs : List Fr} (h : FrsAt K H as fs) : as.length = fs.length := Paired.length h
theorem FrsAt.snoc {H : Hp} {as : List Addr} {fs : List Fr} {a : Addr} {f : Fr} (h : FrsAt K H as fs) (r : FrAt K H a f) : FrsAt K H (as ++ [a]) (fs ++ [f]) := by
  induction h with
  | nil => exact .cons r .nil
  | cons r t ih => exact .cons r ih
theorem FrsAt.app {H : Hp} {as bs : List Addr} {fs gs : List Fr} (h : FrsAt K H as fs) (r : FrsAt K H bs gs) : FrsAt K H (as ++ bs) (fs ++ gs) := by
  induction h with
  | nil => exact r
  | cons r t ih => exact .cons r ih
theorem FrsAt.take {H : Hp} : ∀ {as : List Addr} {fs : List Fr} (i : Nat), FrsAt K H as fs → FrsAt K H (as.take i) (fs.take i)
  | _, _, 0, _ => by rw [List.take_zero, List.take_zero]; exact .nil
  | _, _, i + 1, .nil => by rw [List.take_nil, List.take_nil]; exact .nil
  | _, _, i + 1, .cons r t => .cons r (FrsAt.take i t)
theorem FrsAt.drop {H : Hp} : ∀ {as : List Addr} {fs : List Fr} (i : Nat), FrsAt K H as fs → FrsAt K H (as.drop i) (fs.drop i)
  | _, _, 0, h => h
  | _, _, i + 1, .nil => by rw [List.drop_nil, List.drop_nil]; exact .nil
  | _, _, i + 1, .cons r t => FrsAt.drop i t
/-- data -/
def frD (f : Fr) : PyData := .tuple [.int f.1, .int f.2]
theorem dpF {H : Hp} {a : Addr} {f : Fr} (h : FrAt K H a f) : Dp K H (.ref a) (frD f) := .tup h (.cons (.int _) (.cons (.int _) .nil))
theorem frD_sh (f : Fr) : SeqAt.shaped (frD f) = true := by
  simp [frD, SeqAt.shaped, PyData.canLay0, PyData.canLayAll0, PyData.depth, PyData.depthAll]
theorem frD_eq (f : Fr) : PyData.eqv (frD f) (frD f) = true := SeqAt.eqv_refl _ (by simp [frD, PyData.canLay0, PyData.canLayAll0])
theorem neFF {K : PySem.W.Frag} {H : Hp} {Q : VK} {a b : Addr} {f : Fr} (h1 : FrAt K H a f) (h2 : FrAt K H b f) (q : Q (.bl false) H) : rNeD K (.ref a) (.ref b) H Q :=
  ⟨_, _, dpF h1, dpF h2, frD_sh _, frD_sh _, by rw [frD_eq]; exact q⟩
theorem dpFs {K : PySem.W.Frag} {H : Hp} : ∀ {as : List Addr} {fs : List Fr}, FrsAt K H as fs → DpAll K H (as.map V.ref) (fs.map frD)
  | _, _, .nil => .nil
  | _, _, .cons r t => .cons (dpF r) (dpFs t)
theorem layFs : ∀ fs : List Fr, PyData.canLayAll0 (fs.map frD) = true
  | [] => by simp [PyData.canLayAll0]
  | f :: r => by simp [PyData.canLayAll0, frD, PyData.canLay0, layFs r]
theorem depthFs : ∀ fs : List Fr, PyData.depthAll (fs.map frD) ≤ 1
  | [] => by simp [PyData.depthAll]
  | f :: r => by
    have := depthFs r
    simp [PyData.depthAll, frD, PyData.depth]
    exact Nat.max_le.mpr ⟨by omega, this⟩
theorem shFs (fs : List Fr) : SeqAt.shaped (.list (fs.map frD)) = true := by
  have := depthFs fs
  simp only [SeqAt.shaped, PyData.canLay0, PyData.depth, layFs, Bool.true_and]
  exact decide_eq_true (by omega)
theorem neFL {K : PySem.W.Frag} {H : Hp} {Q : VK} {a b : Addr} {as : List Addr} {fs : List Fr} (h1 : H a = some (.lst (as.map V.ref))) (h2 : H b = some (.lst (as.map V.ref))) (h : FrsAt K H as fs) (q : Q (.bl false) H) : rNeD K (.ref a) (.ref b) H Q :=
  ⟨_, _, .lst (lstL h1) (dpFs h), .lst (lstL h2) (dpFs h), shFs _, shFs _, by rw [SeqAt.eqv_refl (.list (fs.map frD)) (by simp [PyData.canLay0, layFs])]; exact q⟩
end frac
/-- sums, from the left -/
def fsum (t : Fr) (fs : List Fr) : Fr := fs.foldl fplus t
theorem fsum_B : ∀ {fs : List Fr} {t : Fr} {n m : Nat}, FrB n t → t.2 ≠ 0 → (∀ f ∈ fs, FrB m f ∧ f.2 ≠ 0) → FrB (n + fs.length * (m + 1)) (fsum t fs) ∧ (fsum t fs).2 ≠ 0
  | [], t, n, m, h, h0, _ => by
    refine ⟨?_, h0⟩
    show FrB (n + 0 * (m + 1)) t
    rw [Nat.zero_mul]
    exact h
  | f :: r, t, n, m, h, h0, hf => by
    have h1 := hf f (by simp)
    have hp := fplus_pos h0 h1.2
    have ih := fsum_B (fs := r) (t := fplus t f) (n := n + m + 1) (m := m) (fplus_B h h1.1 h0 h1.2) (by omega) fun g hg => hf g (by simp [hg])
    refine ⟨?_, ih.2⟩
    have e : n + (f :: r).length * (m + 1) = n + m + 1 + r.length * (m + 1) := by
      rw [List.length_cons, Nat.add_mul]
      omega
    rw [e]
    exact ih.1
theorem fsum_take {t : Fr} {fs : List Fr} {i : Nat} {f : Fr} (h : fs[i]? = some f) : fsum t (fs.take (i + 1)) = fplus (fsum t (fs.take i)) f := by
  unfold fsum
  rw [List.take_add_one, h, List.foldl_append]
  rfl
def spSumOf (K : PySem.W.Frag) (m k : Nat) : Sp := fun vs H Q _ => ∃ (a : Addr) (as : List Addr) (fs : List Fr), vs = [.ref a] ∧ SqL K H a (as.map V.ref) ∧ FrsAt K H as fs ∧ (∀ f ∈ fs, FrB m f ∧ f.2 ≠ 0) ∧ fs.length ≤ k ∧ ∀ H' c, Kp [] H H' → FrAt K H' c (fsum (0, 1) fs) → Q (.ref c) H'
theorem ok_sum_of_any {P : Program} {w : World} {K : PySem.W.Frag} {mg : Str → Option Value} {base : Heap} (T : T P K mg) (m k : Nat) (hm : m ≤ 3900) (hk : 1 + k * (m + 1) ≤ 3900) : FnOk P w K mg base CX0 5 T.a_sum_of T.fd_sum_of ["fractions"] (spSumOf K m k) := by
  refine T.F_sum_of.ok sc_sum_of (fun vs H Q E h => ?_) (fun cdv A outer s H vs Q E hr h => ?_)
  · obtain ⟨a, as, fs, rfl, _⟩ := h
    rfl
  · obtain ⟨a, as, fs, rfl, hS, hF, hB, hl, q⟩ := h
    refine ⟨_, (pss_cons (ps_set (i := 1) sc_sum_of.nd rfl (by first | exact Or.inl rfl | exact Or.inr rfl) (pe_glob (v := .ref T.k_ZERO) (by rfl) T.g_ZERO rfl))
      (pss_cons (ps_for PassesOwn.never rfl (pi_list (pv 0)) (pg_name (i := 2) sc_sum_of.nd rfl (by first | exact Or.inl rfl | exact Or.inr rfl)) (pss_one (ps_set (i := 1) sc_sum_of.nd rfl (by first | exact Or.inl rfl | exact Or.inr rfl) (pe_call (ok_plus T) (hr.mono (by decide)) (by rfl) T.g_plus T.F_plus.kp T.b_plus .nil pass0 (pa_cons (pv 1) (pa_cons (pv 2) pa_nil))))))
      (pss_one (ps_ret (pv 1))))), ?_⟩
    walk_at "z0"
    walk_at "z"
    refine Z.forl (as.map V.ref) hS (fun i σ' H' => ∃ c y, σ' = [some (.ref a), some (.ref c), y] ∧ Kp [] H H' ∧ FrAt K H' c (fsum (0, 1) (fs.take i))) ?_ ?_ ?_ ?_
    · exact ⟨T.k_ZERO, none, rfl, Kp.refl _, T.q_ZERO H⟩
    · rintro i σ' H' _ ⟨c, y, rfl, k2, _⟩
      exact k2.seq nin0 hS
    · rintro i v σ' H' hv ⟨c, y, rfl, k2, e2⟩
      obtain ⟨x, f, rfl, hf, hx⟩ := (hF.kp0 k2).get hv
      have hfB := hB f (List.mem_of_getElem? hf)
      have hB1 := fsum_B (fs := fs.take i) (t := (0, 1)) (n := 1) (m := m) ⟨by decide, by decide⟩ (by decide) fun g hg => hB g (List.mem_of_mem_take hg)
      have hle : 1 + (fs.take i).length * (m + 1) ≤ 3900 := Nat.le_trans (Nat.add_le_add_left (Nat.mul_le_mul_right _ (Nat.le_trans (by rw [List.length_take]; exact Nat.min_le_right _ _) hl)) 1) hk
      walk_at "z"
      refine ⟨c, x, _, f, rfl, e2, hx, hB1.2, hfB.2, hB1.1.mono hle, hfB.1.mono hm, fun H3 d nd k3 e3 => ?_⟩
      walk_at "z"
      exact ⟨d, _, rfl, k2.trans k3, by rw [fsum_take hf]; exact e3⟩
    · rintro σ' H' ⟨c, y, rfl, k2, e2⟩
      walk_at "z"
      rw [List.length_map, hF.len, List.take_length] at e2
      exact q _ _ k2 e2

/-! ### fractions as rational numbers -/
def rv (f : Int × Int) : Rat := (f.1 : Rat) / (f.2 : Rat)
theorem ratNe {q : Int} (h : q ≠ 0) : (q : Rat) ≠ 0 := fun z => h (by exact_mod_cast z)
theorem ratPos {q : Int} (h : 0 < q) : (0 : Rat) < (q : Rat) := by exact_mod_cast h
theorem div_eqR {a b c : Rat} (h : b ≠ 0) : a / b = c ↔ a = c * b := by
  constructor
  · rintro rfl
    rw [Rat.div_mul_cancel h]
  · rintro rfl
    rw [Rat.mul_div_cancel h]
theorem rv_lo {p q : Int} (h : q ≠ 0) : rv (lo p q) = (p : Rat) / (q : Rat) := by
  obtain ⟨a, b, e, h1, h2, h3, h4⟩ := lo_spec (p := p) h
  rw [e]
  have hb : (b : Rat) ≠ 0 := ratNe (by omega)
  have hg : (gI p q : Rat) ≠ 0 := ratNe (gI_ne h)
  have hq : (q : Rat) = (gI p q : Rat) * (b : Rat) := by exact_mod_cast h4
  have hp : (p : Rat) = (gI p q : Rat) * (a : Rat) := by exact_mod_cast h3
  show (a : Rat) / (b : Rat) = (p : Rat) / (q : Rat)
  rw [hp, hq]
  grind

/-- a fraction in lowest terms -/
def Low (f : Int × Int) : Prop := 1 ≤ f.2 ∧ Nat.gcd f.1.natAbs f.2.natAbs = 1
theorem lo_low {p q : Int} (h : q ≠ 0) : Low (lo p q) := ⟨lo_pos h, lo_cop h⟩
theorem Low.ne {f : Int × Int} (h : Low f) : f.2 ≠ 0 := by have := h.1; omega
theorem Low.pos {f : Int × Int} (h : Low f) : (0 : Rat) < (f.2 : Rat) := ratPos (by have := h.1; omega)
theorem rv_eqI {f g : Int × Int} (h1 : f.2 ≠ 0) (h2 : g.2 ≠ 0) : rv f = rv g ↔ f.1 * g.2 = g.1 * f.2 := by
  have a1 := ratNe h1
  have a2 := ratNe h2
  unfold rv
  constructor
  · intro h
    have h3 : (f.1 : Rat) * (g.2 : Rat) = (g.1 : Rat) * (f.2 : Rat) := by grind
    exact_mod_cast h3
  · intro h
    have h3 : (f.1 : Rat) * (g.2 : Rat) = (g.1 : Rat) * (f.2 : Rat) := by exact_mod_cast h
    grind
theorem low_eq {f g : Int × Int} (h1 : Low f) (h2 : Low g) (h : rv f = rv g) : f = g := by
  have h3 := (rv_eqI h1.ne h2.ne).mp h
  obtain ⟨a, b⟩ := f
  obtain ⟨c, d⟩ := g
  obtain ⟨hb, h1⟩ := h1
  obtain ⟨hd, h2⟩ := h2
  dsimp only at *
  have e1 : a.natAbs * d.natAbs = c.natAbs * b.natAbs := by rw [← Int.natAbs_mul, ← Int.natAbs_mul, h3]
  have d1 : b.natAbs ∣ d.natAbs := by
    have : b.natAbs ∣ a.natAbs * d.natAbs := ⟨c.natAbs, by rw [e1, Nat.mul_comm]⟩
    exact Nat.Coprime.dvd_of_dvd_mul_left (Nat.Coprime.symm h1) this
  have d2 : d.natAbs ∣ b.natAbs := by
    have : d.natAbs ∣ c.natAbs * b.natAbs := ⟨a.natAbs, by rw [← e1, Nat.mul_comm]⟩
    exact Nat.Coprime.dvd_of_dvd_mul_left (Nat.Coprime.symm h2) this
  have e2 := Nat.dvd_antisymm d1 d2
  have e3 : b = d := by omega
  subst e3
  have e4 : a = c := Int.eq_of_mul_eq_mul_right (by omega) h3
  rw [e4]
theorem rv_lt {f g : Int × Int} (h1 : 1 ≤ f.2) (h2 : 1 ≤ g.2) : f.1 * g.2 < g.1 * f.2 ↔ rv f < rv g := by
  have a1 : (0 : Rat) < (f.2 : Rat) := ratPos (by omega)
  have a2 : (0 : Rat) < (g.2 : Rat) := ratPos (by omega)
  have e1 : (f.1 : Rat) = rv f * (f.2 : Rat) := by unfold rv; rw [Rat.div_mul_cancel (ratNe (by omega))]
  have e2 : (g.1 : Rat) = rv g * (g.2 : Rat) := by unfold rv; rw [Rat.div_mul_cancel (ratNe (by omega))]
  have hp : (0 : Rat) < (f.2 : Rat) * (g.2 : Rat) := Rat.mul_pos a1 a2
  have k : f.1 * g.2 < g.1 * f.2 ↔ (f.1 : Rat) * (g.2 : Rat) < (g.1 : Rat) * (f.2 : Rat) := by
    constructor
    · intro h; exact_mod_cast h
    · intro h; exact_mod_cast h
  rw [k, e1, e2]
  have e3 : rv f * (f.2 : Rat) * (g.2 : Rat) = rv f * ((f.2 : Rat) * (g.2 : Rat)) := by grind
  have e4 : rv g * (g.2 : Rat) * (f.2 : Rat) = rv g * ((f.2 : Rat) * (g.2 : Rat)) := by grind
  rw [e3, e4]
  constructor
  · intro h
    by_cases z : rv f < rv g
    · exact z
    · by_cases z2 : rv f = rv g
      · rw [z2] at h; exact absurd h (Rat.lt_irrefl)
      · have z3 : rv g < rv f := by grind
        have := Rat.mul_lt_mul_of_pos_right z3 hp
        grind
  · intro h
    exact Rat.mul_lt_mul_of_pos_right h hp
theorem rv_pos {f : Int × Int} (h1 : 1 ≤ f.2) : 0 < f.1 ↔ 0 < rv f := by
  have := rv_lt (f := (0, 1)) (g := f) (by decide) h1
  have e : rv (0, 1) = 0 := by unfold rv; grind
  rw [e] at this
  rw [← this]
  show _ ↔ 0 * f.2 < f.1 * 1
  rw [Int.zero_mul, Int.mul_one]
theorem rv_int (n : Int) : rv (n, 1) = (n : Rat) := by unfold rv; grind

/-! ### the law's own fractions -/
def spLow (K : PySem.W.Frag) : Sp := fun vs H Q _ => ∃ p q : Int, vs = [.int p, .int q] ∧ 1 ≤ q ∧ q.natAbs < 2 ^ 1900 ∧ ∀ H' b, H b = none → Kp [] H H' → FrAt K H' b (lo p q) → Q (.ref b) H'
theorem abs_if (i : Int) : (if i < 0 then -i else i) = (i.natAbs : Int) := by
  split <;> omega
theorem euc_4000 {p : Nat × Nat} (h : p.2 < 2 ^ 1900) : (euc 4000 p).2 = 0 := by
  rw [show (4000 : Nat) = 2 * 1900 + 200 from rfl, euc_add, euc_zero 200 (euc_end 1900 p h)]
  exact euc_end 1900 p h
theorem gI_pos {p q : Int} (h : 1 ≤ q) : gI p q = (gN p q : Int) := by
  unfold gI
  rw [if_neg (by omega)]

theorem ok__law_low {P : Program} {w : World} {K : PySem.W.Frag} {mg : Str → Option Value} {base : Heap} (T : T P K mg) : FnOk P w K mg base CX0 1 T.a__law_low T.fd__law_low ["p", "q"] (spLow K) := by
  refine T.F__law_low.ok sc__law_low (fun vs H Q E h => ?_) (fun cdv A outer s H vs Q E hr h => ?_)
  · obtain ⟨p, q, rfl, _⟩ := h
    rfl
  · obtain ⟨p, q, rfl, hq, hb, q1⟩ := h
    have hg := gI_ne (p := p) (q := q) (by omega)
    have hdv : Z.CDivA p (gI p q) := Z.divA (b := 1900) hg (by rw [gI_abs]; exact Nat.lt_of_le_of_lt (gN_le (by omega)) hb) (by decide) (by decide)
    have hdv2 : Z.CDivA q (gI p q) := hdv
    have eq : q = (q.natAbs : Int) := by omega
    refine ⟨_, (pss_cons (ps_par (i := 2) (j := 3) rfl sc__law_low.nd rfl rfl (by decide) rfl rfl (pa_cons (pe_callB c_abs (by rfl) T.z_abs (by decide +kernel) (pa_cons (pv 0) pa_nil)) (pa_cons (pv 1) pa_nil)) (by rfl))
      (Z.pss_consJ (ps_for PassesOwn.never rfl (pi_range1 (by rfl) T.z_range (pa_cons pe_int pa_nil)) (pg_name (i := 4) sc__law_low.nd rfl (by first | exact Or.inl rfl | exact Or.inr rfl)) (pss_cons (ps_if (pt_cmpR op_eq (pv 3) pe_int (nomark _)) (pss_one ps_break) pss_nil)
      (pss_one (ps_par (i := 2) (j := 3) rfl sc__law_low.nd rfl rfl (by decide) rfl rfl (pa_cons (pv 3) (pa_cons (pe_op op_mod (pe_callTy c_int (by rfl) T.z_int (by decide +kernel) (pa_cons (pv 2) pa_nil)) (pv 3)) pa_nil)) (by rfl)))))
      (pss_one (ps_ret (pe_tup (pa_cons (pe_op Z.op_fdivA (pv 0) (pv 2)) (pa_cons (pe_op Z.op_fdivA (pv 1) (pv 2)) pa_nil))))))), ?_⟩
    walk_at "z0"
    walk_at "z"
    rw [abs_if]
    refine Z.seqJ (fun σ' H' => ∃ y z : Option V, σ' = [some (.int p), some (.int q), some (.int (gI p q)), y, z] ∧ H' = H) ?_ ?_
    · rintro σ' H' ⟨y, z, rfl, rfl⟩
      walk_at "z"
      refine Z.iC hdv ?_
      walk_at "z"
      refine Z.iC hdv2 ?_
      refine Z.tupK (fun b H1 nb k1 e1 => ?_)
      exact q1 _ _ nb k1 (tupT e1)
    · intro N jn
      walk_at "z"
      refine Z.forr 4000 ?_ (by decide) (fun i σ' H' => ∃ z : Option V, σ' = [some (.int p), some (.int q), some (.int ((euc i (p.natAbs, q.natAbs)).1 : Int)), some (.int ((euc i (p.natAbs, q.natAbs)).2 : Int)), z] ∧ H' = H) ?_ ?_ ?_
      · rfl
      · refine ⟨none, ?_, rfl⟩
        show _ = [some (V.int p), some (V.int q), some (V.int (p.natAbs : Int)), some (V.int (q.natAbs : Int)), none]
        rw [← eq]
      · rintro i σ' H' hi ⟨z, rfl, rfl⟩
        walk_at "z"
        refine Z.ite (fun h2 => ?_) (fun h2 => ?_)
        · walk_at "z"
          have h0 : (euc i (p.natAbs, q.natAbs)).2 = 0 := by omega
          have eg := euc_gcd i (p.natAbs, q.natAbs)
          rw [h0, Nat.gcd_zero_right] at eg
          have eg2 : (((euc i (p.natAbs, q.natAbs)).1 : Nat) : Int) = gI p q := by rw [eg]; exact (gI_pos hq).symm
          rw [eg2]
          exact jn _ _ ⟨_, _, rfl, rfl⟩
        · walk_at "z"
          refine Z.iC (by omega) ?_
          walk_at "z"
          have es : euc (i + 1) (p.natAbs, q.natAbs) = ((euc i (p.natAbs, q.natAbs)).2, (euc i (p.natAbs, q.natAbs)).1 % (euc i (p.natAbs, q.natAbs)).2) := by
            rw [euc_succ]
            exact if_neg (by omega)
          refine ⟨some (.int (i : Int)), ?_, rfl⟩
          rw [es]
          rfl
      · rintro σ' H' ⟨z, rfl, rfl⟩
        have h0 := euc_4000 (p := (p.natAbs, q.natAbs)) hb
        have eg := euc_gcd 4000 (p.natAbs, q.natAbs)
        rw [h0, Nat.gcd_zero_right] at eg
        have eg2 : (((euc 4000 (p.natAbs, q.natAbs)).1 : Nat) : Int) = gI p q := by rw [eg]; exact (gI_pos hq).symm
        walk_at "z"
        rw [eg2]
        exact jn _ _ ⟨_, _, rfl, rfl⟩

/-- two fractions in, a fraction out; smaller ones -/
def spG2 (K : PySem.W.Frag) (o : Fr → Fr → Fr) : Sp := fun vs H Q _ => ∃ (a b : Addr) (f g : Fr), vs = [.ref a, .ref b] ∧ FrAt K H a f ∧ FrAt K H b g ∧ 1 ≤ f.2 ∧ 1 ≤ g.2 ∧ (∃ n m, FrB n f ∧ FrB m g ∧ n + m ≤ 1900) ∧ ∀ H' c, H c = none → Kp [] H H' → FrAt K H' c (o f g) → Q (.ref c) H'
theorem ok__law_plus {P : Program} {w : World} {K : PySem.W.Frag} {mg : Str → Option Value} {base : Heap} (T : T P K mg) : FnOk P w K mg base CX0 2 T.a__law_plus T.fd__law_plus ["one", "other"] (spG2 K fplus) := by
  refine T.F__law_plus.ok sc__law_plus (fun vs H Q E h => ?_) (fun cdv A outer s H vs Q E hr h => ?_)
  · obtain ⟨a, b, f, g, rfl, _⟩ := h
    rfl
  · obtain ⟨a, b, f, g, rfl, ha, hb, hf, hg, ⟨n, m, Bf0, Bg0, hnm⟩, q⟩ := h
    have Bf : FrB 1900 f := Bf0.mono (by omega)
    have Bg : FrB 1900 g := Bg0.mono (by omega)
    refine ⟨_, (pss_one (ps_ret (pe_call (ok__law_low T) (hr.mono (by decide)) (by rfl) T.g__law_low T.F__law_low.kp T.b__law_low .nil pass0 (pa_cons (pe_op op_add (pe_op op_mulW (pe_ix ix_tup (pv 0) pe_int (fun _ _ => rfl)) (pe_ix ix_tup (pv 1) pe_int (fun _ _ => rfl))) (pe_op op_mulW (pe_ix ix_tup (pv 1) pe_int (fun _ _ => rfl)) (pe_ix ix_tup (pv 0) pe_int (fun _ _ => rfl)))) (pa_cons (pe_op op_mulW (pe_ix ix_tup (pv 0) pe_int (fun _ _ => rfl)) (pe_ix ix_tup (pv 1) pe_int (fun _ _ => rfl))) pa_nil))))), ?_⟩
    walk_at "z0"
    walk_at "z"
    refine Z.ixT ha (fr0 f) ?_
    walk_at "z"
    refine Z.ixT hb (fr1 g) ?_
    walk_at "z"
    refine Z.iC (mul_ok Bf.1 Bg.2) ?_
    walk_at "z"
    refine Z.ixT hb (fr0 g) ?_
    walk_at "z"
    refine Z.ixT ha (fr1 f) ?_
    walk_at "z"
    refine Z.iC (mul_ok Bg.1 Bf.2) ?_
    walk_at "z"
    refine Z.ixT ha (fr1 f) ?_
    walk_at "z"
    refine Z.ixT hb (fr1 g) ?_
    walk_at "z"
    refine Z.iC (mul_ok Bf.2 Bg.2) ?_
    walk_at "z"
    have h0 := Int.mul_pos (show 0 < f.2 by omega) (show 0 < g.2 by omega)
    exact ⟨_, _, rfl, by omega, up_B (mul_B Bf0.2 Bg0.2) hnm, fun H' c nc k e => q _ _ nc k e⟩

theorem low_zero : Low (0, 1) := ⟨by decide, by decide⟩
theorem rv_zero : rv (0, 1) = 0 := by unfold rv; grind

/-! ### calculations with fractions, as rational numbers -/
theorem rv_fplus {f g : Fr} (h1 : f.2 ≠ 0) (h2 : g.2 ≠ 0) : rv (fplus f g) = rv f + rv g := by
  unfold fplus
  rw [rv_lo (Int.mul_ne_zero h1 h2)]
  have a1 := ratNe h1
  have a2 := ratNe h2
  have e1 : ((f.1 * g.2 + g.1 * f.2 : Int) : Rat) = (f.1 : Rat) * (g.2 : Rat) + (g.1 : Rat) * (f.2 : Rat) := by exact_mod_cast rfl
  have e2 : ((f.2 * g.2 : Int) : Rat) = (f.2 : Rat) * (g.2 : Rat) := by exact_mod_cast rfl
  rw [e1, e2]
  unfold rv
  grind
theorem rv_fminus {f g : Fr} (h1 : f.2 ≠ 0) (h2 : g.2 ≠ 0) : rv (fminus f g) = rv f - rv g := by
  unfold fminus
  rw [rv_lo (Int.mul_ne_zero h1 h2)]
  have a1 := ratNe h1
  have a2 := ratNe h2
  have e1 : ((f.1 * g.2 - g.1 * f.2 : Int) : Rat) = (f.1 : Rat) * (g.2 : Rat) - (g.1 : Rat) * (f.2 : Rat) := by exact_mod_cast rfl
  have e2 : ((f.2 * g.2 : Int) : Rat) = (f.2 : Rat) * (g.2 : Rat) := by exact_mod_cast rfl
  rw [e1, e2]
  unfold rv
  grind
theorem rv_ftimes {f g : Fr} (h1 : f.2 ≠ 0) (h2 : g.2 ≠ 0) : rv (ftimes f g) = rv f * rv g := by
  unfold ftimes
  rw [rv_lo (Int.mul_ne_zero h1 h2)]
  have a1 := ratNe h1
  have a2 := ratNe h2
  have e1 : ((f.1 * g.1 : Int) : Rat) = (f.1 : Rat) * (g.1 : Rat) := by exact_mod_cast rfl
  have e2 : ((f.2 * g.2 : Int) : Rat) = (f.2 : Rat) * (g.2 : Rat) := by exact_mod_cast rfl
  rw [e1, e2]
  unfold rv
  grind
theorem fless_iff {f g : Fr} (h1 : 1 ≤ f.2) (h2 : 1 ≤ g.2) : fless f g = decide (rv f < rv g) := by
  unfold fless
  rw [decide_eq_decide]
  exact rv_lt h1 h2
theorem fplus_low {f g : Fr} (h1 : f.2 ≠ 0) (h2 : g.2 ≠ 0) : Low (fplus f g) := lo_low (Int.mul_ne_zero h1 h2)
theorem rv_fsum : ∀ {fs : List Fr} {t : Fr}, Low t → (∀ f ∈ fs, f.2 ≠ 0) → rv (fsum t fs) = rv t + (fs.map rv).sum ∧ Low (fsum t fs)
  | [], t, h, _ => ⟨by show rv t = rv t + 0; grind, h⟩
  | f :: r, t, h, hf => by
    have h1 := hf f (by simp)
    have ih := rv_fsum (fs := r) (t := fplus t f) (fplus_low h.ne h1) fun g hg => hf g (by simp [hg])
    refine ⟨?_, ih.2⟩
    show rv (fsum (fplus t f) r) = _
    rw [ih.1, rv_fplus h.ne h1, List.map_cons, List.sum_cons]
    grind
theorem eqv_fr (f g : Fr) : PyData.eqv (frD f) (frD g) = decide (f = g) := by
  obtain ⟨a, b⟩ := f
  obtain ⟨c, d⟩ := g
  simp [frD, PyData.eqv, PyData.eqvAll, Prod.ext_iff]
  rfl
theorem eqF {K : PySem.W.Frag} {H : Hp} {Q : VK} {a b : Addr} {f g : Fr} (h1 : FrAt K H a f) (h2 : FrAt K H b g) (q : Q (.bl (decide (f = g))) H) : rEqD K (.ref a) (.ref b) H Q :=
  ⟨_, _, dpF h1, dpF h2, frD_sh _, frD_sh _, by rw [eqv_fr]; exact q⟩
theorem neF {K : PySem.W.Frag} {H : Hp} {Q : VK} {a b : Addr} {f g : Fr} (h1 : FrAt K H a f) (h2 : FrAt K H b g) (q : Q (.bl (!decide (f = g))) H) : rNeD K (.ref a) (.ref b) H Q :=
  ⟨_, _, dpF h1, dpF h2, frD_sh _, frD_sh _, by rw [eqv_fr]; exact q⟩

def spLawSum (K : PySem.W.Frag) (m k : Nat) : Sp := fun vs H Q _ => ∃ (a : Addr) (as : List Addr) (fs : List Fr), vs = [.ref a] ∧ SqL K H a (as.map V.ref) ∧ FrsAt K H as fs ∧ (∀ f ∈ fs, 1 ≤ f.2 ∧ FrB m f) ∧ fs.length ≤ k ∧ ∀ H' c, Kp [] H H' → FrAt K H' c (fsum (0, 1) fs) → Q (.ref c) H'
theorem ok__law_sum_any {P : Program} {w : World} {K : PySem.W.Frag} {mg : Str → Option Value} {base : Heap} (T : T P K mg) (m k : Nat) (hk : k * (m + 1) ≤ 1900) : FnOk P w K mg base CX0 3 T.a__law_sum T.fd__law_sum ["rows"] (spLawSum K m k) := by
  refine T.F__law_sum.ok sc__law_sum (fun vs H Q E h => ?_) (fun cdv A outer s H vs Q E hr h => ?_)
  · obtain ⟨a, as, fs, rfl, _⟩ := h
    rfl
  · obtain ⟨a, as, fs, rfl, hS, hF, hB, hl, q⟩ := h
    refine ⟨_, (pss_cons (ps_set (i := 1) sc__law_sum.nd rfl (by first | exact Or.inl rfl | exact Or.inr rfl) (pe_tup (pa_cons pe_int (pa_cons pe_int pa_nil))))
      (pss_cons (ps_for PassesOwn.never rfl (pi_list (pv 0)) (pg_name (i := 2) sc__law_sum.nd rfl (by first | exact Or.inl rfl | exact Or.inr rfl)) (pss_one (ps_set (i := 1) sc__law_sum.nd rfl (by first | exact Or.inl rfl | exact Or.inr rfl) (pe_call (ok__law_plus T) (hr.mono (by decide)) (by rfl) T.g__law_plus T.F__law_plus.kp T.b__law_plus .nil pass0 (pa_cons (pv 1) (pa_cons (pv 2) pa_nil))))))
      (pss_one (ps_ret (pv 1))))), ?_⟩
    walk_at "z0"
    walk_at "z"
    refine Z.tupK (fun b H1 nb k1 e1 => ?_)
    walk_at "z"
    refine Z.forl (as.map V.ref) (k1.seq nin0 hS) (fun i σ' H' => ∃ c y, σ' = [some (.ref a), some (.ref c), y] ∧ Kp [] H H' ∧ FrAt K H' c (fsum (0, 1) (fs.take i))) ?_ ?_ ?_ ?_
    · exact ⟨b, none, rfl, k1, tupT e1⟩
    · rintro i σ' H' _ ⟨c, y, rfl, k2, _⟩
      exact k2.seq nin0 hS
    · rintro i v σ' H' hv ⟨c, y, rfl, k2, e2⟩
      obtain ⟨x, f, rfl, hf, hx⟩ := (hF.kp0 k2).get hv
      have hfB := hB f (List.mem_of_getElem? hf)
      have hB1 := fsum_B (fs := fs.take i) (t := (0, 1)) (n := 1) (m := m) ⟨by decide, by decide⟩ (by decide) fun g hg => ⟨(hB g (List.mem_of_mem_take hg)).2, by have := (hB g (List.mem_of_mem_take hg)).1; omega⟩
      have hlow := rv_fsum (fs := fs.take i) low_zero fun g hg => by have := (hB g (List.mem_of_mem_take hg)).1; omega
      have hi : i < fs.length := (List.getElem?_eq_some_iff.mp hf).1
      have hle : 1 + (fs.take i).length * (m + 1) + m ≤ 1900 := by
        have h1 : (fs.take i).length + 1 ≤ k := by rw [List.length_take]; omega
        have h2 := Nat.mul_le_mul_right (m + 1) h1
        rw [Nat.add_mul, Nat.one_mul] at h2
        omega
      walk_at "z"
      refine ⟨c, x, _, f, rfl, e2, hx, hlow.2.1, hfB.1, ⟨_, _, hB1.1, hfB.2, hle⟩, fun H3 d nd k3 e3 => ?_⟩
      walk_at "z"
      exact ⟨d, _, rfl, k2.trans k3, by rw [fsum_take hf]; exact e3⟩
    · rintro σ' H' ⟨c, y, rfl, k2, e2⟩
      walk_at "z"
      rw [List.length_map, hF.len, List.take_length] at e2
      exact q _ _ k2 e2

/-! ### parts of optimal samples -/
structure Pt where
  a : Addr
  it : Addr
  c : Addr
  r : Row
  f : Fr
section opt30
variable {K : PySem.W.Frag}
def PtAt (K : PySem.W.Frag) (H : Hp) (x : Pt) : Prop := H x.a = some (.tup [.ref x.it, .ref x.c]) ∧ RowAt H x.it x.r ∧ FrAt K H x.c x.f
def PtsAt (K : PySem.W.Frag) (H : Hp) (ps : List Pt) : Prop := ∀ x ∈ ps, PtAt K H x
def prefs (ps : List Pt) : List V := ps.map fun x => V.ref x.a
def rowsOf (ps : List Pt) : List (Addr × Row) := ps.map fun x => (x.it, x.r)
def ptD (x : Pt) : PyData := .tuple [rowD x.r, frD x.f]
def ptsD (ps : List Pt) : List PyData := ps.map ptD
theorem PtAt.kp0 {H H' : Hp} {x : Pt} (h : PtAt K H x) (k : Kp [] H H') : PtAt K H' x := ⟨k.get nin0 h.1, k.get nin0 h.2.1, h.2.2.kp0 k⟩
theorem PtAt.kpl {H H' : Hp} {x : Pt} {l : Addr} {vs : List V} (h : PtAt K H x) (k : Kp [l] H H') (e : H l = some (.lst vs)) : PtAt K H' x := by
  refine ⟨k.get (nin1 fun z => ?_) h.1, k.get (nin1 fun z => ?_) h.2.1, h.2.2.kpl k e⟩
  · have := h.1
    rw [z, e] at this; cases this
  · have := h.2.1
    unfold RowAt at this
    rw [z, e] at this; cases this
theorem PtsAt.kp0 {H H' : Hp} {ps : List Pt} (h : PtsAt K H ps) (k : Kp [] H H') : PtsAt K H' ps := fun x hx => (h x hx).kp0 k
theorem PtsAt.kpl {H H' : Hp} {ps : List Pt} {l : Addr} {vs : List V} (h : PtsAt K H ps) (k : Kp [l] H H') (e : H l = some (.lst vs)) : PtsAt K H' ps := fun x hx => (h x hx).kpl k e
theorem PtsAt.kpd {H H' : Hp} {a : Addr} {ps : List Pt} (r : PtsAt K H ps) (k : Kp [a] H H') (d : DrawsAt H a) : PtsAt K H' ps := let ⟨_, e⟩ := d; r.kpl k e
theorem PtsAt.rows {H : Hp} {ps : List Pt} (h : PtsAt K H ps) : RowsAt H (rowsOf ps) := fun y hy => by
  obtain ⟨x, hx, rfl⟩ := List.mem_map.mp hy
  exact (h x hx).2.1
theorem prefs_len (ps : List Pt) : (prefs ps).length = ps.length := by unfold prefs; rw [List.length_map]
theorem rowsOf_len (ps : List Pt) : (rowsOf ps).length = ps.length := by unfold rowsOf; rw [List.length_map]
theorem prefs_of {ps : List Pt} {i : Nat} {v : V} (h : (prefs ps)[i]? = some v) : ∃ x, ps[i]? = some x ∧ v = .ref x.a := by
  unfold prefs at h
  rw [List.getElem?_map] at h
  obtain ⟨x, hx, e⟩ := Option.map_eq_some_iff.mp h
  exact ⟨x, hx, e.symm⟩
theorem prefs_snoc (ps : List Pt) (x : Pt) : prefs (ps ++ [x]) = prefs ps ++ [.ref x.a] := by unfold prefs; rw [List.map_append]; rfl
theorem rowsOf_take {ps : List Pt} {i : Nat} {x : Pt} (h : ps[i]? = some x) : rowsOf (ps.take (i + 1)) = rowsOf (ps.take i) ++ [(x.it, x.r)] := by
  unfold rowsOf
  rw [List.take_add_one, h, List.map_append]; rfl
theorem dpPt {H : Hp} {x : Pt} (h : PtAt K H x) : Dp K H (.ref x.a) (ptD x) := .tup (tupT h.1) (.cons (dpRow h.2.1) (.cons (dpF h.2.2) .nil))
theorem dpPts {H : Hp} : ∀ {ps : List Pt}, PtsAt K H ps → DpAll K H (prefs ps) (ptsD ps)
  | [], _ => .nil
  | x :: r, h => .cons (dpPt (h x (by simp))) (dpPts (ps := r) fun y hy => h y (by simp [hy]))
def PtsS (ps : List Pt) : Prop := ∀ x ∈ ps, RowS x.r
theorem lay_pt {x : Pt} (h : RowS x.r) : PyData.canLay0 (ptD x) = true := by
  simp [ptD, frD, PyData.canLay0, PyData.canLayAll0, rowD_lay h]
theorem lay_pts : ∀ {ps : List Pt}, PtsS ps → PyData.canLayAll0 (ptsD ps) = true
  | [], _ => by simp [ptsD, PyData.canLayAll0]
  | x :: r, h => by
    have ih := lay_pts (ps := r) fun y hy => h y (by simp [hy])
    show PyData.canLayAll0 (ptD x :: ptsD r) = true
    rw [PyData.canLayAll0, lay_pt (h x (by simp)), ih]; rfl
theorem depth_pt (x : Pt) : (ptD x).depth = 2 := by simp [ptD, frD, PyData.depth, PyData.depthAll, rowD_depth]
theorem depth_pts : ∀ ps : List Pt, PyData.depthAll (ptsD ps) ≤ 2
  | [] => by simp [ptsD, PyData.depthAll]
  | x :: r => by
    have ih := depth_pts r
    show PyData.depthAll (ptD x :: ptsD r) ≤ 2
    rw [PyData.depthAll, depth_pt]
    omega
theorem sh_pts {ps : List Pt} (h : PtsS ps) : SeqAt.shaped (.list (ptsD ps)) = true := by
  have := depth_pts ps
  simp [SeqAt.shaped, PyData.canLay0, PyData.depth, lay_pts h]
  omega
theorem sh_ptsT {ps : List Pt} (h : PtsS ps) : SeqAt.shaped (.tuple (ptsD ps)) = true := by
  have := depth_pts ps
  simp [SeqAt.shaped, PyData.canLay0, PyData.depth, lay_pts h]
  omega
theorem sh_view {ps : List Pt} {n : Int} (h : PtsS ps) : SeqAt.shaped (.tuple [.int n, .tuple (ptsD ps)]) = true ∧ PyData.canLay0 (.tuple [.int n, .tuple (ptsD ps)]) = true := by
  have := depth_pts ps
  refine ⟨?_, by simp [PyData.canLay0, PyData.canLayAll0, lay_pts h]⟩
  simp [SeqAt.shaped, PyData.canLay0, PyData.canLayAll0, PyData.depth, PyData.depthAll, lay_pts h]
  omega
def leP (x y : Pt) : Bool := PySem.W.dataLe false ptD x y
def sortP (ps : List Pt) : List Pt := ps.mergeSort leP
theorem sortP_perm (ps : List Pt) : (sortP ps).Perm ps := List.mergeSort_perm _ _
theorem sortP_refs (ps : List Pt) : ((ps.map fun x => (V.ref x.a, ptD x)).mergeSort (PySem.W.dataLe false Prod.snd)).map Prod.fst = prefs (sortP ps) := by
  rw [← List.map_mergeSort (r := leP) (s := PySem.W.dataLe false Prod.snd) (f := fun x : Pt => (V.ref x.a, ptD x)) (fun _ _ _ _ => rfl), List.map_map]
  rfl
theorem sortedPts {H : Hp} {Q : VK} {a : Addr} {ps : List Pt} (h : SqL K H a (prefs ps)) (r : PtsAt K H ps) (q : ∀ p H1, H p = none → Kp [] H H1 → H1 p = some (.lst (prefs (sortP ps))) → Q (.ref p) H1) : RL.rSortedD K [.ref a] H Q := by
  refine ⟨a, ps.map fun x => (V.ref x.a, ptD x), rfl, by rw [List.map_map]; exact h, ?_, ?_, ?_, ?_, fun p np => ?_⟩
  · intro b hb
    obtain ⟨x, hx, rfl⟩ := List.mem_map.mp hb
    exact dpPt (r x hx)
  · rw [List.map_map]
    exact PySem.W.AllAlike.of fun _ _ => by simp [PySem.W.alike, PySem.W.alikeAll, ptD, rowD, frD]
  · rw [List.map_map]
    exact PySem.W.Sortable.tuples fun _ => ⟨_, _, rfl⟩
  · intro b hb
    obtain ⟨x, hx, rfl⟩ := List.mem_map.mp hb
    show (ptD x).depth ≤ 60
    rw [depth_pt]; decide
  · rw [sortP_refs]
    exact q p _ np (Kp.new np) upd_same
theorem nePts {H : Hp} {Q : VK} {a b : Addr} {ps : List Pt} (h1 : H a = some (.lst (prefs ps))) (h2 : H b = some (.lst (prefs ps))) (r : PtsAt K H ps) (s : PtsS ps) (q : Q (.bl false) H) : rNeD K (.ref a) (.ref b) H Q :=
  ⟨_, _, .lst (lstL h1) (dpPts r), .lst (lstL h2) (dpPts r), sh_pts s, sh_pts s, by rw [SeqAt.eqv_refl (.list (ptsD ps)) (by rw [PyData.canLay0]; exact lay_pts s)]; exact q⟩
end opt30
/-! ### optimal samples as objects -/
def op (size : Int) (p k : Addr) : List (Str × V) := [("size", .int size), ("parts", .ref p), ("kept", .ref k)]
theorem op_mk (size : Int) (p k : Addr) : putF "kept" (.ref k) (putF "parts" (.ref p) (putF "size" (.int size) [])) = op size p k := by
  have n1 : ¬ (("size" : Str) = "parts") := by decide +kernel
  have n2 : ¬ (("size" : Str) = "kept") := by decide +kernel
  have n3 : ¬ (("parts" : Str) = "kept") := by decide +kernel
  have e1 : putF "parts" (.ref p) (putF "size" (.int size) []) = [(("size" : Str), V.int size), (("parts" : Str), V.ref p)] := by
    show (if ("size" : Str) = "parts" then _ else (("size" : Str), V.int size) :: [(("parts" : Str), V.ref p)]) = _
    rw [if_neg n1]
  rw [e1]
  show (if ("size" : Str) = "kept" then _ else (("size" : Str), V.int size) :: (if ("parts" : Str) = "kept" then _ else (("parts" : Str), V.ref p) :: [(("kept" : Str), V.ref k)])) = _
  rw [if_neg n2, if_neg n3]; rfl
theorem op_mk2 (size : Int) (p : Addr) : putF "parts" (.ref p) (putF "size" (.int size) []) = [(("size" : Str), V.int size), (("parts" : Str), V.ref p)] := by
  have n1 : ¬ (("size" : Str) = "parts") := by decide +kernel
  show (if ("size" : Str) = "parts" then _ else (("size" : Str), V.int size) :: [(("parts" : Str), V.ref p)]) = _
  rw [if_neg n1]
theorem op_size (size : Int) (p k : Addr) : (op size p k).lookup ("size" : Str) = some (.int size) := rfl
theorem op_parts (size : Int) (p k : Addr) : (op size p k).lookup ("parts" : Str) = some (.ref p) := rfl
theorem op_kept (size : Int) (p k : Addr) : (op size p k).lookup ("kept" : Str) = some (.ref k) := rfl
def OptAt (C : Addr) (H : Hp) (x p k : Addr) (size : Int) (ps : List Pt) : Prop := (∃ dx, H x = some (.ins C dx (op size p k))) ∧ H p = some (.lst (prefs ps)) ∧ H k = some (.lst (refs (rowsOf ps)))
theorem OptAt.kp0 {C : Addr} {H H' : Hp} {x p k : Addr} {size : Int} {ps : List Pt} (h : OptAt C H x p k size ps) (kk : Kp [] H H') : OptAt C H' x p k size ps := let ⟨⟨dx, h1⟩, h2, h3⟩ := h; ⟨⟨dx, kk.get nin0 h1⟩, kk.get nin0 h2, kk.get nin0 h3⟩
def spOInit (K : PySem.W.Frag) (C : Addr) : Sp := fun vs H Q _ => ∃ (x b dx : Addr) (size : Int) (ps : List Pt), vs = [.ref x, .int size, .ref b] ∧ H x = some (.ins C dx []) ∧ H b = some (.lst (prefs ps)) ∧ PtsAt K H ps ∧ ps.length ≤ 100 ∧ ∀ H' p k, H p = none → H k = none → Kp [x] H H' → OptAt C H' x p k size ps → Q .non H'
theorem ok_Optimal_init {P : Program} {w : World} {K : PySem.W.Frag} {mg : Str → Option Value} {base : Heap} (T : T P K mg) : FnOk P w K mg base CX0 1 T.a_Optimal_init T.fd_Optimal_init ["self", "size", "parts"] (spOInit K T.C_Optimal) := by
  refine T.F_Optimal_init.ok sc_Optimal_init (fun vs H Q E h => ?_) (fun cdv A outer s H vs Q E hr h => ?_)
  · obtain ⟨x, b, dx, size, ps, rfl, _⟩ := h
    rfl
  · obtain ⟨x, b, dx, size, ps, rfl, hx, hb, hP, hn, q⟩ := h
    refine ⟨_, (pss_cons (ps_fld (pv 0) (pv 1) rfl)
      (pss_cons (ps_fld (pv 0) (pe_callTy c_list (by rfl) T.z_list (by decide +kernel) (pa_cons (pv 2) pa_nil)) rfl)
      (pss_one (ps_fld (pv 0) (pe_lc (own := [("item", 3), ("adjusted", 4)]) (g := gTup K 2 (gCons (gName 3) (gCons (gName 4) gNil))) rfl sc_Optimal_init.nd (pi_list (pe_fld (pv 0) rfl)) (blkOk_by (own := [("item", 3), ("adjusted", 4)]) (N := N_Optimal_init) (sc := defScope s_Optimal_init) (by decide +kernel)) (fun _ _ _ _ _ => (pg_tup rfl (pgs_cons (pg_name (i := 3) sc_Optimal_init.nd rfl (by first | exact Or.inl rfl | exact Or.inr rfl)) (pgs_cons (pg_name (i := 4) sc_Optimal_init.nd rfl (by first | exact Or.inl rfl | exact Or.inr rfl)) pgs_nil)))) (fun _ _ _ _ _ => pts_nil) (fun _ _ _ _ _ => (pv 3))) rfl)))), ?_⟩
    have nbx : b ≠ x := fun z => by rw [z, hx] at hb; cases hb
    walk_at "z0"
    walk_at "z"
    refine ⟨x, _, dx, [], rfl, hx, T.cl_Optimal, T.na_Optimal_size, by decide, ?_⟩
    walk_at "z"
    refine Z.listL (lstL ((upd_ne nbx).trans hb)) fun p H1 np k1 e1 => ?_
    have hx1 := k1.get nin0 (show upd H x _ x = some _ from upd_same)
    have nxp : x ≠ p := ne_of_none (show upd H x _ x = some _ from upd_same) np
    have np0 : H p = none := by rwa [upd_ne nxp.symm] at np
    have kx : Kp [x] H H1 := (Kp.put (by simp)).trans (k1.sub (by simp))
    have hP1 : PtsAt K H1 ps := fun z hz => by
      have h := hP z hz
      have n1 : z.a ≠ x := fun y => by have := h.1; rw [y, hx] at this; cases this
      have n2 : z.it ≠ x := fun y => by have := h.2.1; unfold RowAt at this; rw [y, hx] at this; cases this
      exact ⟨kx.get (nin1 n1) h.1, kx.get (nin1 n2) h.2.1, h.2.2.kp kx fun w hw => by
        rw [List.mem_singleton.mp hw]
        exact NoTup.of hx fun ys => ⟨by simp, by simp⟩⟩
    walk_at "z"
    refine ⟨x, _, dx, _, rfl, hx1, T.cl_Optimal, T.na_Optimal_parts, by show 1 < 1000; decide, ?_⟩
    rw [op_mk2]
    have e2 : (upd H1 x (.ins T.C_Optimal dx [(("size" : Str), V.int size), (("parts" : Str), V.ref p)])) x = some (.ins T.C_Optimal dx [(("size" : Str), V.int size), (("parts" : Str), V.ref p)]) := upd_same
    have ep2 : (upd H1 x (.ins T.C_Optimal dx [(("size" : Str), V.int size), (("parts" : Str), V.ref p)])) p = some (.lst (prefs ps)) := (upd_ne nxp.symm).trans e1
    have k2 : Kp [x] H1 (upd H1 x (.ins T.C_Optimal dx [(("size" : Str), V.int size), (("parts" : Str), V.ref p)])) := Kp.put (by simp)
    have hP2 : PtsAt K (upd H1 x (.ins T.C_Optimal dx [(("size" : Str), V.int size), (("parts" : Str), V.ref p)])) ps := fun z hz => by
      have h := hP1 z hz
      have n1 : z.a ≠ x := fun y => by have := h.1; rw [y, hx1] at this; cases this
      have n2 : z.it ≠ x := fun y => by have := h.2.1; unfold RowAt at this; rw [y, hx1] at this; cases this
      exact ⟨k2.get (nin1 n1) h.1, k2.get (nin1 n2) h.2.1, h.2.2.kp k2 fun w hw => by
        rw [List.mem_singleton.mp hw]
        exact NoTup.of hx1 fun ys => ⟨by simp, by simp⟩⟩
    generalize upd H1 x (.ins T.C_Optimal dx [(("size" : Str), V.int size), (("parts" : Str), V.ref p)]) = H2 at e2 ep2 k2 hP2 ⊢
    walk_at "z"
    refine ⟨x, _, dx, _, _, rfl, e2, T.cl_Optimal, T.na_Optimal_parts, rfl, ?_⟩
    refine Z.lcl (prefs ps) (lstL ep2) (fun D i G => Kp [] H2 G ∧ G D = some (.lst (refs (rowsOf (ps.take i))))) ?_ ?_ ?_ ?_
    · intro D G nD k3 e3
      exact ⟨k3, e3⟩
    · rintro D i G nD hi ⟨k3, e3⟩
      exact lstL (k3.get nin0 ep2)
    · rintro D i v G nD hv ⟨k3, e3⟩
      obtain ⟨z, hz, rfl⟩ := prefs_of hv
      have hzA := (hP2.kp0 k3) z (List.mem_of_getElem? hz)
      dsimp only [wipe, List.set]
      refine Z.gtup (tupT hzA.1) rfl ?_
      walk_at "z"
      refine ⟨rfl, ?_⟩
      walk_at "z"
      refine ⟨_, e3, Z.szl (m := 1000) (by rw [refs_len, rowsOf_len, List.length_take]; omega), k3.mut nD rfl, ?_⟩
      rw [upd_same, rowsOf_take hz, refs_snoc]
    · rintro D G nD ⟨k3, e3⟩
      rw [prefs_len, List.take_length] at e3
      walk_at "z"
      refine ⟨x, _, dx, _, rfl, k3.get nin0 e2, T.cl_Optimal, T.na_Optimal_kept, by show 2 < 1000; decide, ?_⟩
      walk_at "z"
      rw [← op_mk2, op_mk]
      have nDx : D ≠ x := (ne_of_none e2 nD).symm
      have nD0 : H D = none := kx.none (nin1 nDx) (k2.none (nin1 nDx) nD)
      refine q _ p D np0 nD0 (((kx.trans k2).trans (k3.sub (by simp))).trans (Kp.put (by simp))) ⟨⟨dx, upd_same⟩, (upd_ne nxp.symm).trans (k3.get nin0 ep2), (upd_ne nDx).trans e3⟩

theorem made_new {H H7 H8 : Hp} {C z dz kk : Addr} (k7 : Kp [] H H7) (nz : H7 z = none) (ndz : H7 dz = none) (hdz : dz ≠ z) (nkk : (upd (upd H7 dz (.own z)) z (.ins C dz [])) kk = none) (k8 : Kp [z] (upd (upd H7 dz (.own z)) z (.ins C dz [])) H8) : H z = none ∧ H kk = none ∧ Kp [] H7 H8 := by
  have kz : Kp [] H7 (upd (upd H7 dz (.own z)) z (.ins C dz [])) := Kp.made nz ndz
  refine ⟨k7.none nin0 nz, k7.none nin0 ?_, fun b o _ e => k8 b o (by
    intro q
    rw [List.mem_singleton.mp q, nz] at e
    cases e) (kz b o (by simp) e)⟩
  rw [upd_ne (fun e => by rw [e, upd_same] at nkk; cases nkk), upd_ne (fun e => by rw [e, upd_same] at nkk; cases nkk)] at nkk
  exact nkk

/-! ### uniform samples as objects -/
def uf (size seen : Int) (k : Addr) : List (Str × V) := [("size", .int size), ("seen", .int seen), ("kept", .ref k)]
theorem uf_mk (size seen : Int) (k : Addr) : putF "kept" (.ref k) (putF "seen" (.int seen) (putF "size" (.int size) [])) = uf size seen k := by
  have n1 : ¬ (("size" : Str) = "seen") := by decide +kernel
  have n2 : ¬ (("size" : Str) = "kept") := by decide +kernel
  have n3 : ¬ (("seen" : Str) = "kept") := by decide +kernel
  have e1 : putF "seen" (.int seen) (putF "size" (.int size) []) = [(("size" : Str), V.int size), (("seen" : Str), V.int seen)] := by
    show (if ("size" : Str) = "seen" then _ else (("size" : Str), V.int size) :: [(("seen" : Str), V.int seen)]) = _
    rw [if_neg n1]
  rw [e1]
  show (if ("size" : Str) = "kept" then _ else (("size" : Str), V.int size) :: (if ("seen" : Str) = "kept" then _ else (("seen" : Str), V.int seen) :: [(("kept" : Str), V.ref k)])) = _
  rw [if_neg n2, if_neg n3]; rfl
theorem uf_size (size seen : Int) (k : Addr) : (uf size seen k).lookup ("size" : Str) = some (.int size) := rfl
theorem uf_seen (size seen : Int) (k : Addr) : (uf size seen k).lookup ("seen" : Str) = some (.int seen) := rfl
theorem uf_kept (size seen : Int) (k : Addr) : (uf size seen k).lookup ("kept" : Str) = some (.ref k) := rfl
def UniAt (C : Addr) (H : Hp) (x k : Addr) (size seen : Int) (ps : List (Addr × Row)) : Prop := (∃ dx, H x = some (.ins C dx (uf size seen k))) ∧ H k = some (.lst (refs ps))
theorem UniAt.kp0 {C : Addr} {H H' : Hp} {x k : Addr} {size seen : Int} {ps : List (Addr × Row)} (h : UniAt C H x k size seen ps) (kk : Kp [] H H') : UniAt C H' x k size seen ps := let ⟨⟨dx, h1⟩, h2⟩ := h; ⟨⟨dx, kk.get nin0 h1⟩, kk.get nin0 h2⟩
def spUInit (K : PySem.W.Frag) (C : Addr) : Sp := fun vs H Q _ => ∃ (x b dx : Addr) (size seen : Int) (ps : List (Addr × Row)), vs = [.ref x, .int size, .int seen, .ref b] ∧ H x = some (.ins C dx []) ∧ H b = some (.lst (refs ps)) ∧ ∀ H' k, H k = none → Kp [x] H H' → UniAt C H' x k size seen ps → Q .non H'
theorem ok_Uniform_init {P : Program} {w : World} {K : PySem.W.Frag} {mg : Str → Option Value} {base : Heap} (T : T P K mg) : FnOk P w K mg base CX0 1 T.a_Uniform_init T.fd_Uniform_init ["self", "size", "seen", "kept"] (spUInit K T.C_Uniform) := by
  refine T.F_Uniform_init.ok sc_Uniform_init (fun vs H Q E h => ?_) (fun cdv A outer s H vs Q E hr h => ?_)
  · obtain ⟨x, b, dx, size, seen, ps, rfl, _⟩ := h
    rfl
  · obtain ⟨x, b, dx, size, seen, ps, rfl, hx, hb, q⟩ := h
    refine ⟨_, (pss_cons (ps_fld (pv 0) (pv 1) rfl)
      (pss_cons (ps_fld (pv 0) (pv 2) rfl)
      (pss_one (ps_fld (pv 0) (pe_callTy c_list (by rfl) T.z_list (by decide +kernel) (pa_cons (pv 3) pa_nil)) rfl)))), ?_⟩
    have nbx : b ≠ x := fun z => by rw [z, hx] at hb; cases hb
    walk_at "z0"
    walk_at "z"
    refine ⟨x, _, dx, [], rfl, hx, T.cl_Uniform, T.na_Uniform_size, by decide, ?_⟩
    walk_at "z"
    refine ⟨x, _, dx, _, rfl, upd_same, T.cl_Uniform, T.na_Uniform_seen, by show 1 < 1000; decide, ?_⟩
    walk_at "z"
    rw [upd_upd]
    refine Z.listL (lstL ((upd_ne nbx).trans hb)) fun k H1 nk k1 e1 => ?_
    have hx1 := k1.get nin0 (show upd H x _ x = some _ from upd_same)
    have nxk : x ≠ k := ne_of_none (show upd H x _ x = some _ from upd_same) nk
    have nk0 : H k = none := by rwa [upd_ne nxk.symm] at nk
    walk_at "z"
    refine ⟨x, _, dx, _, rfl, hx1, T.cl_Uniform, T.na_Uniform_kept, by show 2 < 1000; decide, ?_⟩
    walk_at "z"
    rw [uf_mk]
    exact q _ k nk0 (((Kp.put (by simp)).trans (k1.sub (by simp))).trans (Kp.put (by simp))) ⟨⟨dx, upd_same⟩, (upd_ne nxk.symm).trans e1⟩
theorem tyUni {P : Program} {K : PySem.W.Frag} {mg : Str → Option Value} (T : T P K mg) {H : Hp} {x k : Addr} {size seen : Int} {ps : List (Addr × Row)} (h : UniAt T.C_Uniform H x k size seen ps) : TyX K H (.ref x) (.ref T.C_Uniform) :=
  let ⟨⟨_, h1⟩, _⟩ := h
  .base (.ins h1 T.cl_Uniform T.isa_Uniform T.isg_Uniform T.ist_Uniform T.ism_Uniform)

def KepAt (C : Addr) (H : Hp) (x k : Addr) (size : Int) (p : Addr) (ps : List (Addr × Row)) : Prop := (∃ dx, H x = some (.ins C dx (op size p k))) ∧ H k = some (.lst (refs ps))
theorem KepAt.kp0 {C : Addr} {H H' : Hp} {x k : Addr} {size : Int} {p : Addr} {ps : List (Addr × Row)} (h : KepAt C H x k size p ps) (kk : Kp [] H H') : KepAt C H' x k size p ps := let ⟨⟨dx, h1⟩, h2⟩ := h; ⟨⟨dx, kk.get nin0 h1⟩, kk.get nin0 h2⟩
theorem OptAt.kep {C : Addr} {H : Hp} {x p k : Addr} {size : Int} {ps : List Pt} (h : OptAt C H x p k size ps) : KepAt C H x k size p (rowsOf ps) := ⟨h.1, h.2.2⟩
/-! ### no key twice -/
theorem twice_mem : ∀ {l : List Str} {s : Str}, twice l = some s → s ∈ l
  | [], s, h => by cases h
  | [x], s, h => by cases h
  | x :: y :: r, s, h => by
    unfold twice at h
    by_cases e : y = x
    · rw [if_pos e] at h
      rw [← Option.some.inj h]; simp
    · rw [if_neg e] at h
      exact List.mem_cons_of_mem _ (twice_mem h)
theorem sortS_mem {l : List Str} {s : Str} (h : s ∈ sortS l) : s ∈ l := by
  unfold sortS at h
  obtain ⟨p, hp, rfl⟩ := List.mem_map.mp h
  obtain ⟨t, ht, rfl⟩ := List.mem_map.mp (List.mem_mergeSort.mp hp)
  exact ht
def keysOf (rs : List (List (Addr × Row))) : List Str := rs.flatMap fun ps => ps.map fun x => x.2.k
def spKeys (K : PySem.W.Frag) (C CS : Addr) : Sp := fun vs H Q E => ∃ (l x k y m : Addr) (size : Int) (seen : Addr) (size2 : Int) (seen2 : Addr) (ps qs : List (Addr × Row)), vs = [.ref l] ∧ SqL K H l [.ref x, .ref y] ∧ KepAt C H x k size seen ps ∧ KepAt C H y m size2 seen2 qs ∧ RowsAt H ps ∧ RowsAt H qs ∧ (∀ z ∈ ps, RowS z.2) ∧ (∀ z ∈ qs, RowS z.2) ∧ ps.length ≤ 100 ∧ qs.length ≤ 100 ∧
  (twice (sortS (keysOf [ps, qs])) = none → ∀ H', Kp [] H H' → Q .non H') ∧ (∀ s, twice (sortS (keysOf [ps, qs])) = some s → ∀ H' d, Kp [] H H' → H' d = none → E (.ref CS) (some d) (upd H' d (.xd (flF "key" [.str s]))))
theorem ok_check_keys {P : Program} {w : World} {K : PySem.W.Frag} {mg : Str → Option Value} {base : Heap} (T : T P K mg) : FnOk P w K mg base (L2.CX P w) 3 T.a_check_keys T.fd_check_keys ["samples"] (spKeys K T.C_Optimal T.C_SharedKey) := by
  refine T.F_check_keys.okX sc_check_keys (fun vs H Q E h => ?_) (fun cdv A outer s H vs Q E hr h => ?_)
  · obtain ⟨_, _, _, _, _, _, _, _, _, _, _, rfl, _⟩ := h
    rfl
  · obtain ⟨l, x, k, y, m, size, seen, size2, seen2, ps, qs, rfl, hS, hU, hV, hps, hqs, hpS, hqS, hpn, hqn, q, e⟩ := h
    refine ⟨_, (pss_cons (ps_set (i := 1) sc_check_keys.nd rfl (by first | exact Or.inl rfl | exact Or.inr rfl) (pe_call (ok_least_twice T) (hr.mono (by decide)) (by rfl) T.g_least_twice T.F_least_twice.kp T.b_least_twice .nil pass0 (pa_cons (pe_lc2 (own := [("sample", 2), ("item", 3)]) (vs1 := [3]) (g := gName 2) (g1 := gName 3) rfl sc_check_keys.nd (pi_list (pv 0)) (blkOk_by (own := [("sample", 2), ("item", 3)]) (N := N_check_keys) (sc := defScope s_check_keys) (by decide +kernel)) (by decide) (fun _ _ _ _ _ => (pg_name (i := 2) sc_check_keys.nd rfl (by first | exact Or.inl rfl | exact Or.inr rfl))) (fun _ _ _ _ _ => pts_nil) (fun _ _ _ _ _ => ((pi_list ((pe_fld (pv 2) rfl) : PE _ _ (tFld K _ _))) : PI _ _ _ (iList K _))) (fun _ _ _ _ _ => (pg_name (i := 3) sc_check_keys.nd rfl (by first | exact Or.inl rfl | exact Or.inr rfl))) (fun _ _ _ _ _ => pts_nil) (fun _ _ _ _ _ => (pe_ix (ix_tup : IxR _ (rIxT K)) (pv 3) pe_int (fun _ _ => rfl)))) pa_nil)))
      (pss_one (ps_if (pt_cmpR o_notN (pv 1) pe_non (nomark _)) (pss_one (ps_raise rfl (takes_of rfl rfl rfl rfl) (pmk_oex T.x_SharedKey.S.T T.x_SharedKey.iC T.x_SharedKey.tI (ok_SharedKey_init T) (hr.mono (by decide)) (T.bx_SharedKey) .nil pass0 (by rfl) T.x_SharedKey.g (pa_cons (pv 1) pa_nil)))) pss_nil))), ?_⟩
    walk_at "z0"
    walk_at "z"
    refine Z.lc2 ?_
    walk_at "z"
    refine Z.lc2l [.ref x, .ref y] hS (fun D i H' => H D = none ∧ Kp [] H H' ∧ H' D = some (.lst ((keysOf ([ps, qs].take i)).map V.str))) ?_ ?_ ?_ ?_
    · intro D H1 nD k1 e1
      exact ⟨nD, k1, e1⟩
    · rintro D i H1 nD hi ⟨_, k1, e1⟩
      exact k1.seq nin0 hS
    · rintro D i v H1 nD hv ⟨_, k1, e1⟩
      obtain ⟨x0, k0, size0, seen0, rs, rfl, hU0, hr0, hn0, hget⟩ : ∃ (x0 k0 : Addr) (size0 : Int) (seen0 : Addr) (rs : List (Addr × Row)), v = .ref x0 ∧ KepAt T.C_Optimal H x0 k0 size0 seen0 rs ∧ RowsAt H rs ∧ rs.length ≤ 100 ∧ [ps, qs][i]? = some rs := by
        match i, hv with
        | 0, hv => exact ⟨x, k, size, seen, ps, (Option.some.inj hv).symm, hU, hps, hpn, rfl⟩
        | 1, hv => exact ⟨y, m, size2, seen2, qs, (Option.some.inj hv).symm, hV, hqs, hqn, rfl⟩
        | i + 2, hv => simp at hv
      have hlen : (keysOf ([ps, qs].take i)).length ≤ 100 := by
        match i, hv with
        | 0, _ => simp [keysOf]
        | 1, _ => simp [keysOf]; omega
        | i + 2, hv => simp at hv
      obtain ⟨⟨dx, hx⟩, hk⟩ := hU0
      dsimp only [wipe, List.set]
      walk_at "z"
      refine ⟨rfl, ?_⟩
      walk_at "z"
      refine ⟨x0, _, dx, _, _, rfl, k1.get nin0 hx, T.cl_Optimal, T.na_Optimal_kept, op_kept size0 seen0 k0, ?_⟩
      refine Z.in2l (refs rs) (lstL (k1.get nin0 hk)) (fun j H' => Kp [] H H' ∧ H' D = some (.lst ((keysOf ([ps, qs].take i) ++ (rs.take j).map fun z => z.2.k).map V.str))) ?_ ?_ ?_ ?_
      · exact ⟨k1, by rw [List.take_zero, List.map_nil, List.append_nil]; exact e1⟩
      · rintro j H2 hj ⟨k2, e2⟩
        exact lstL (k2.get nin0 hk)
      · rintro j v H2 hv2 ⟨k2, e2⟩
        obtain ⟨z, hz, rfl⟩ := refs_of hv2
        have hj : j < rs.length := (List.getElem?_eq_some_iff.mp hz).1
        dsimp only [wipe, List.set]
        walk_at "z"
        refine ⟨rfl, ?_⟩
        walk_at "z"
        refine RowAt.k0 ((hr0.kp0 k2) z (List.mem_of_getElem? hz)) ?_
        refine ⟨_, e2, Z.szl (m := 1000) (by rw [List.length_map, List.length_append, List.length_map, List.length_take]; omega), k2.mut nD rfl, ?_⟩
        rw [upd_same, List.take_add_one, hz]
        simp
      · rintro H2 ⟨k2, e2⟩
        rw [refs_len, List.take_length] at e2
        refine ⟨nD, k2, ?_⟩
        rw [e2, List.take_add_one, hget]
        unfold keysOf
        rw [List.flatMap_append]
        simp
    · rintro D H1 nD ⟨_, k1, e1⟩
      have hlen : (keysOf [ps, qs]).length ≤ 200 := by simp [keysOf]; omega
      have hkz : ∀ s ∈ keysOf [ps, qs], PyData.strOk s = true ∧ s.cps.size ≤ 20 := fun s hs => by
        obtain ⟨rs, hrs, hs2⟩ := List.mem_flatMap.mp hs
        obtain ⟨z, hz, rfl⟩ := List.mem_map.mp hs2
        rcases List.mem_cons.mp hrs with h | h
        · rw [h] at hz; exact ⟨(hpS z hz).k, (hpS z hz).kz⟩
        · rw [List.mem_singleton.mp h] at hz; exact ⟨(hqS z hz).k, (hqS z hz).kz⟩
      have hsz : ∀ s ∈ keysOf [ps, qs], s.cps.size ≤ 20 := fun s hs => (hkz s hs).2
      walk_at "z"
      refine ⟨D, keysOf [ps, qs], rfl, lstL e1, by omega, fun s hs => (hkz s hs).1, fun H2 k2 => ?_⟩
      walk_at "z"
      cases ht : twice (sortS (keysOf [ps, qs])) with
      | none =>
        walk_at "z"
        refine Z.noN rfl ?_
        walk_at "z"
        exact q ht H2 (k1.trans k2)
      | some s =>
        walk_at "z"
        refine Z.yesN (by simp [optV]) ?_
        refine mkErr ?_ (fun hRS h => ?_)
        · exact ⟨_, rfl, by simp, ⟨s, rfl, by have := hsz s (sortS_mem (twice_mem ht)); show s.cps.size ≤ 1000; omega⟩, fun d hd => e s ht H2 d (k1.trans k2) hd⟩
        · obtain ⟨v1, e1, h⟩ := h
          exact ⟨v1, e1, hRS _ _ h⟩

/-! ### Optimal.merge, view, adjusted_sum, empty, single -/
theorem tyOpt {P : Program} {K : PySem.W.Frag} {mg : Str → Option Value} (T : T P K mg) {H : Hp} {x p k : Addr} {size : Int} {ps : List Pt} (h : OptAt T.C_Optimal H x p k size ps) : TyX K H (.ref x) (.ref T.C_Optimal) :=
  let ⟨⟨_, h1⟩, _⟩ := h
  .base (.ins h1 T.cl_Optimal T.isa_Optimal T.isg_Optimal T.ist_Optimal T.ism_Optimal)
theorem isO {P : Program} {K : PySem.W.Frag} {mg : Str → Option Value} (T : T P K mg) {H : Hp} {Q : VK} {x p k : Addr} {size : Int} {ps : List Pt} (h : OptAt T.C_Optimal H x p k size ps) (q : Q (.bl true) H) : rIsi K [.ref x, .ref T.C_Optimal] H Q :=
  ⟨_, _, _, _, true, rfl, .own _, tyOpt T h, T.kit_Optimal_Optimal, q⟩
theorem isUO {P : Program} {K : PySem.W.Frag} {mg : Str → Option Value} (T : T P K mg) {H : Hp} {Q : VK} {x k : Addr} {size seen : Int} {ps : List (Addr × Row)} (h : UniAt T.C_Uniform H x k size seen ps) (q : Q (.bl false) H) : rIsi K [.ref x, .ref T.C_Optimal] H Q :=
  ⟨_, _, _, _, false, rfl, .own _, tyUni T h, T.kit_Uniform_Optimal, q⟩
/-- what is merged with: another optimal sample, or a sample of another kind -/
def spMergeO (K : PySem.W.Frag) (C CU CS CW : Addr) : Sp := fun vs H Q E => ∃ (x p k y t : Addr) (size : Int) (ps : List Pt), vs = [.ref x, .ref y, .ref t] ∧ OptAt C H x p k size ps ∧ PtsAt K H ps ∧ PtsS ps ∧ ps.length ≤ 100 ∧
  ((∃ (k2 : Addr) (size2 seen2 : Int) (qs : List (Addr × Row)), UniAt CU H y k2 size2 seen2 qs ∧ E (.ref CW) none H) ∨
  ∃ (p2 k2 : Addr) (size2 : Int) (qs : List Pt), OptAt C H y p2 k2 size2 qs ∧ PtsAt K H qs ∧ PtsS qs ∧ qs.length ≤ 100 ∧
  (size2 ≠ size → E (.ref CW) none H) ∧ (size2 = size → ∀ s, twice (sortS (keysOf [rowsOf ps, rowsOf qs])) = some s → ∀ H' d, Kp [] H H' → H' d = none → E (.ref CS) (some d) (upd H' d (.xd (flF "key" [.str s])))) ∧
  (size2 = size → twice (sortS (keysOf [rowsOf ps, rowsOf qs])) = none → ((ps.length + qs.length : Nat) : Int) ≤ size ∧ size ≤ 30 ∧ ∀ H' z pz kz, H z = none → Kp [] H H' → OptAt C H' z pz kz size (sortP (ps ++ qs)) → Q (.ref z) H'))
theorem PtsS.rows {ps : List Pt} (h : PtsS ps) : ∀ z ∈ rowsOf ps, RowS z.2 := fun z hz => by
  obtain ⟨x, hx, rfl⟩ := List.mem_map.mp hz
  exact h x hx
theorem PtsAt.app {K : PySem.W.Frag} {H : Hp} {ps qs : List Pt} (h1 : PtsAt K H ps) (h2 : PtsAt K H qs) : PtsAt K H (ps ++ qs) := fun x hx => by
  rcases List.mem_append.mp hx with h | h
  · exact h1 x h
  · exact h2 x h
theorem PtsAt.perm {K : PySem.W.Frag} {H : Hp} {ps qs : List Pt} (h : qs.Perm ps) (r : PtsAt K H ps) : PtsAt K H qs := fun x hx => r x (h.mem_iff.mp hx)
theorem prefs_app (ps qs : List Pt) : prefs (ps ++ qs) = prefs ps ++ prefs qs := by unfold prefs; rw [List.map_append]
theorem ok_Optimal_merge {P : Program} {w : World} {K : PySem.W.Frag} {mg : Str → Option Value} {base : Heap} (T : T P K mg) : FnOk P w K mg base (L2.CX P w) 4 T.a_Optimal_merge T.fd_Optimal_merge ["self", "other", "dice"] (spMergeO K T.C_Optimal T.C_Uniform T.C_SharedKey T.C_WrongKind) := by
  refine T.F_Optimal_merge.okX sc_Optimal_merge (fun vs H Q E h => ?_) (fun cdv A outer s H vs Q E hr h => ?_)
  · obtain ⟨_, _, _, _, _, _, _, rfl, _⟩ := h
    rfl
  · obtain ⟨x, p, k, y, t, size, ps, rfl, hO, hP, hS, hn, hcase⟩ := h
    obtain ⟨⟨dx, hx⟩, hp, hk⟩ := id hO
    refine ⟨_, (pss_cons (ps_if (PW.pt (pw_or (pt_not (pt_val (pe_callB call_isi (by rfl) T.z_isinstance (by decide +kernel) (pa_cons (pv 1) (pa_cons (pe_glob (v := .ref T.C_Optimal) (by rfl) T.mg_Optimal rfl) pa_nil))))) (pw_or1 (pt_cmpR op_ne (pe_fld (pv 1) rfl) (pe_fld (pv 0) rfl) (nomark _))))) (pss_one (ps_raise rfl (takes_of rfl rfl rfl rfl) (Sup.pmk_oexN T.x_WrongKind.S.T T.x_WrongKind.iC T.x_WrongKind.tI (ok_WrongKind_init T) (hr.mono (by decide)) (T.bx_WrongKind) pass0 (by rfl) T.x_WrongKind.g))) pss_nil)
      (pss_cons (ps_expr (pe_call (ok_check_keys T) (hr.mono (by decide)) (by rfl) T.g_check_keys T.F_check_keys.kp T.b_check_keys .nil (passes_call (takes_of rfl rfl rfl rfl) (fun _ _ _ _ h => h)) (pa_cons (pe_lst (pa_cons (pv 0) (pa_cons (pv 1) pa_nil))) pa_nil)))
      (pss_cons (ps_set (i := 3) sc_Optimal_merge.nd rfl (by first | exact Or.inl rfl | exact Or.inr rfl) (pe_callB ((RL.cr_sortedD hr.units) : CallR _ _ (RL.rSortedD K)) (by rfl) T.z_sorted (by decide +kernel) (pa_cons (pe_op op_cat (pe_fld (pv 0) rfl) (pe_fld (pv 1) rfl)) pa_nil)))
      (pss_cons (ps_while (passes_of rfl) (pt_cmpR op_gt (pe_callB c_len (by rfl) T.z_len (by decide +kernel) (pa_cons (pv 3) pa_nil)) (pe_fld (pv 0) rfl) (nomark _)) (pss_one Z.ps_dead))
      (pss_one (ps_ret (pe_make T.mk_Optimal (ok_Optimal_init T) (hr.mono (by decide)) (by rfl) T.mg_Optimal T.b_Optimal_init .nil pass0 (pa_cons (pe_fld (pv 0) rfl) (pa_cons (pv 3) pa_nil))))))))), ?_⟩
    walk_at "z0"
    walk_at "z"
    rcases hcase with ⟨k2, size2, seen2, qs, hU, ew⟩ | ⟨p2, k2, size2, qs, hV, hQ, hQS, hqn, ew, ek, q⟩
    · refine isUO T hU ?_
      walk_at "z"
      refine Z.mkN fun a na => ⟨a, rfl, upd_same, rfl, upd_same, ?_⟩
      rw [del_upd na]
      exact ew
    · obtain ⟨⟨dy, hy⟩, hp2, hk2⟩ := id hV
      refine isO T hV ?_
      walk_at "z"
      refine ⟨y, _, dy, _, _, rfl, hy, T.cl_Optimal, T.na_Optimal_size, op_size size2 p2 k2, ?_⟩
      walk_at "z"
      refine ⟨x, _, dx, _, _, rfl, hx, T.cl_Optimal, T.na_Optimal_size, op_size size p k, ?_⟩
      walk_at "z"
      refine Z.iteN (fun h1 => ?_) (fun h1 => ?_)
      · refine Z.mkN fun a na => ⟨a, rfl, upd_same, rfl, upd_same, ?_⟩
        rw [del_upd na]
        exact ew h1
      · walk_at "z"
        refine Z.lstK (fun l H1 nl k1 e1 => ?_)
        refine ⟨l, x, k, y, k2, size, p, size2, p2, rowsOf ps, rowsOf qs, rfl, lstL e1, hO.kep.kp0 k1, hV.kep.kp0 k1, (hP.kp0 k1).rows, (hQ.kp0 k1).rows, hS.rows, hQS.rows, by rw [rowsOf_len]; exact hn, by rw [rowsOf_len]; exact hqn, fun ht H2 k2' => ?_, fun s ht H2 d k2' hd => ek h1 s ht H2 d (k1.trans k2') hd⟩
        obtain ⟨hle, h30, q⟩ := q h1 ht
        have k12 := k1.trans k2'
        walk_at "z"
        refine ⟨x, _, dx, _, _, rfl, k12.get nin0 hx, T.cl_Optimal, T.na_Optimal_parts, op_parts size p k, ?_⟩
        walk_at "z"
        refine ⟨y, _, dy, _, _, rfl, k12.get nin0 hy, T.cl_Optimal, T.na_Optimal_parts, op_parts size2 p2 k2, ?_⟩
        refine Z.cat (xs := prefs ps) (zs := prefs qs) (k12.get nin0 hp) (k12.get nin0 hp2) (by rw [prefs_len, prefs_len]; omega) (fun b H3 nb k3 e3 => ?_)
        rw [← prefs_app] at e3
        walk_at "z"
        have k13 := k12.trans k3
        have hPQ := (hP.app hQ).kp0 k13
        refine sortedPts (ps := ps ++ qs) (lstL e3) hPQ (fun S H4 nS k4 e4 => ?_)
        have k14 := k13.trans k4
        walk_at "z"
        refine Z.wh (fun m σ' H' => σ' = [some (.ref x), some (.ref y), some (.ref t), some (.ref S)] ∧ H' = H4) 0 ⟨rfl, rfl⟩ ?_
        rintro m σ' H' ⟨rfl, rfl⟩
        walk_at "z"
        refine Z.lenL (lstL e4) ?_
        rw [prefs_len, (sortP_perm _).length_eq, List.length_append]
        walk_at "z"
        refine ⟨x, _, dx, _, _, rfl, k14.get nin0 hx, T.cl_Optimal, T.na_Optimal_size, op_size size p k, ?_⟩
        walk_at "z"
        refine Z.no (by omega) ?_
        walk_at "z"
        refine ⟨x, _, dx, _, _, rfl, k14.get nin0 hx, T.cl_Optimal, T.na_Optimal_size, op_size size p k, ?_⟩
        walk_at "z"
        intro z dz nz ndz hdz
        refine ⟨z, S, dz, size, sortP (ps ++ qs), rfl, upd_same, (Kp.made (M := []) nz ndz).get nin0 e4, ((hPQ.kp0 k4).perm (sortP_perm _)).kp0 (Kp.made nz ndz), by rw [(sortP_perm _).length_eq, List.length_append]; omega, fun H8 pz kz npz nkz k8 hU8 => ⟨rfl, ?_⟩⟩
        obtain ⟨hz1, _, kzz⟩ := made_new (Kp.refl _) nz ndz hdz npz k8
        exact q H8 z pz kz (k14.none nin0 hz1) (k14.trans kzz) hU8
def spViewO (K : PySem.W.Frag) (C : Addr) : Sp := fun vs H Q _ => ∃ (x p k : Addr) (size : Int) (ps : List Pt), vs = [.ref x] ∧ OptAt C H x p k size ps ∧ ps.length ≤ 1000 ∧ ∀ H' t u, Kp [] H H' → H' t = some (.tup [.int size, .ref u]) → H' u = some (.tup (prefs ps)) → Q (.ref t) H'
theorem ok_Optimal_view {P : Program} {w : World} {K : PySem.W.Frag} {mg : Str → Option Value} {base : Heap} (T : T P K mg) : FnOk P w K mg base CX0 1 T.a_Optimal_view T.fd_Optimal_view ["self"] (spViewO K T.C_Optimal) := by
  refine T.F_Optimal_view.ok sc_Optimal_view (fun vs H Q E h => ?_) (fun cdv A outer s H vs Q E hr h => ?_)
  · obtain ⟨x, p, k, size, ps, rfl, _⟩ := h
    rfl
  · obtain ⟨x, p, k, size, ps, rfl, hO, hn, q⟩ := h
    obtain ⟨⟨dx, hx⟩, hp, hk⟩ := id hO
    refine ⟨_, (pss_one (ps_ret (pe_tup (pa_cons (pe_fld (pv 0) rfl) (pa_cons (pe_callTy c_tuple (by rfl) T.z_tuple (by decide +kernel) (pa_cons (pe_fld (pv 0) rfl) pa_nil)) pa_nil))))), ?_⟩
    walk_at "z0"
    walk_at "z"
    refine ⟨x, _, dx, _, _, rfl, hx, T.cl_Optimal, T.na_Optimal_size, op_size size p k, ?_⟩
    walk_at "z"
    refine ⟨x, _, dx, _, _, rfl, hx, T.cl_Optimal, T.na_Optimal_parts, op_parts size p k, ?_⟩
    walk_at "z"
    refine ⟨p, prefs ps, rfl, .inl ⟨lstL hp, fun u nu => ?_⟩⟩
    have k1 : Kp [] H (upd H u (.tup (prefs ps))) := Kp.new nu
    have e1 : upd H u (.tup (prefs ps)) u = some (.tup (prefs ps)) := upd_same
    generalize upd H u (.tup (prefs ps)) = H1 at k1 e1 ⊢
    walk_at "z"
    refine Z.tupK (fun t H2 nt k2 e2 => ?_)
    exact q H2 t u (k1.trans k2) e2 (k2.get nin0 e1)
theorem FrsOf {K : PySem.W.Frag} {H : Hp} : ∀ {ps : List Pt}, PtsAt K H ps → FrsAt K H (ps.map Pt.c) (ps.map Pt.f)
  | [], _ => .nil
  | x :: r, h => .cons (h x (by simp)).2.2 (FrsOf (ps := r) fun y hy => h y (by simp [hy]))
theorem ok_sum_of {P : Program} {w : World} {K : PySem.W.Frag} {mg : Str → Option Value} {base : Heap} (T : T P K mg) : FnOk P w K mg base CX0 5 T.a_sum_of T.fd_sum_of ["fractions"] (spSumOf K 50 10) := ok_sum_of_any T 50 10 (by decide) (by decide)
def spAdj (K : PySem.W.Frag) (C : Addr) : Sp := fun vs H Q _ => ∃ (x p k : Addr) (size : Int) (ps : List Pt), vs = [.ref x] ∧ OptAt C H x p k size ps ∧ PtsAt K H ps ∧ ps.length ≤ 10 ∧ (∀ z ∈ ps, FrB 50 z.f ∧ z.f.2 ≠ 0) ∧ ∀ H' c, Kp [] H H' → FrAt K H' c (fsum (0, 1) (ps.map Pt.f)) → Q (.ref c) H'
theorem ok_Optimal_adjusted_sum {P : Program} {w : World} {K : PySem.W.Frag} {mg : Str → Option Value} {base : Heap} (T : T P K mg) : FnOk P w K mg base CX0 6 T.a_Optimal_adjusted_sum T.fd_Optimal_adjusted_sum ["self"] (spAdj K T.C_Optimal) := by
  refine T.F_Optimal_adjusted_sum.ok sc_Optimal_adjusted_sum (fun vs H Q E h => ?_) (fun cdv A outer s H vs Q E hr h => ?_)
  · obtain ⟨x, p, k, size, ps, rfl, _⟩ := h
    rfl
  · obtain ⟨x, p, k, size, ps, rfl, hO, hP, hn, hB, q⟩ := h
    obtain ⟨⟨dx, hx⟩, hp, hk⟩ := id hO
    refine ⟨_, (pss_one (ps_ret (pe_call (ok_sum_of T) (hr.mono (by decide)) (by rfl) T.g_sum_of T.F_sum_of.kp T.b_sum_of .nil pass0 (pa_cons (pe_lc (own := [("item", 1), ("adjusted", 2)]) (g := gTup K 2 (gCons (gName 1) (gCons (gName 2) gNil))) rfl sc_Optimal_adjusted_sum.nd (pi_list (pe_fld (pv 0) rfl)) (blkOk_by (own := [("item", 1), ("adjusted", 2)]) (N := N_Optimal_adjusted_sum) (sc := defScope s_Optimal_adjusted_sum) (by decide +kernel)) (fun _ _ _ _ _ => (pg_tup rfl (pgs_cons (pg_name (i := 1) sc_Optimal_adjusted_sum.nd rfl (by first | exact Or.inl rfl | exact Or.inr rfl)) (pgs_cons (pg_name (i := 2) sc_Optimal_adjusted_sum.nd rfl (by first | exact Or.inl rfl | exact Or.inr rfl)) pgs_nil)))) (fun _ _ _ _ _ => pts_nil) (fun _ _ _ _ _ => (pv 2))) pa_nil)))), ?_⟩
    walk_at "z0"
    walk_at "z"
    refine ⟨x, _, dx, _, _, rfl, hx, T.cl_Optimal, T.na_Optimal_parts, op_parts size p k, ?_⟩
    refine Z.lcl (prefs ps) (lstL hp) (fun D i G => Kp [] H G ∧ G D = some (.lst (((ps.take i).map Pt.c).map V.ref))) ?_ ?_ ?_ ?_
    · intro D G nD k3 e3
      exact ⟨k3, e3⟩
    · rintro D i G nD hi ⟨k3, e3⟩
      exact lstL (k3.get nin0 hp)
    · rintro D i v G nD hv ⟨k3, e3⟩
      obtain ⟨z, hz, rfl⟩ := prefs_of hv
      have hzA := (hP.kp0 k3) z (List.mem_of_getElem? hz)
      dsimp only [wipe, List.set]
      refine Z.gtup (tupT hzA.1) rfl ?_
      walk_at "z"
      refine ⟨rfl, ?_⟩
      walk_at "z"
      refine ⟨_, e3, Z.szl (m := 1000) (by rw [List.length_map, List.length_map, List.length_take]; omega), k3.mut nD rfl, ?_⟩
      rw [upd_same, List.take_add_one, hz, List.map_append, List.map_append]; rfl
    · rintro D G nD ⟨k3, e3⟩
      rw [prefs_len, List.take_length] at e3
      walk_at "z"
      refine ⟨D, ps.map Pt.c, ps.map Pt.f, rfl, lstL e3, FrsOf (hP.kp0 k3), fun f hf => ?_, by rw [List.length_map]; exact hn, fun H2 c k4 e4 => ?_⟩
      · obtain ⟨z, hz, rfl⟩ := List.mem_map.mp hf
        exact hB z hz
      · exact q H2 c (k3.trans k4) e4
def spEmptyO (C CI : Addr) : Sp := fun vs H Q E => ∃ (z : Int), vs = [.ref C, .int z] ∧ -5 ≤ z ∧ z ≤ 30 ∧ (1 ≤ z ∧ z ≤ 20 → ∀ H' x p k, H x = none → Kp [] H H' → OptAt C H' x p k z [] → Q (.ref x) H') ∧ (¬ (1 ≤ z ∧ z ≤ 20) → ∀ d, H d = none → E (.ref CI) (some d) (upd H d (.xd (flF "size" [.int z]))))
theorem ok_Optimal_empty {P : Program} {w : World} {K : PySem.W.Frag} {mg : Str → Option Value} {base : Heap} (T : T P K mg) : FnOk P w K mg base (L2.CX P w) 4 T.a_Optimal_empty T.fd_Optimal_empty ["cls", "size"] (spEmptyO T.C_Optimal T.C_InvalidSize) := by
  refine T.F_Optimal_empty.okX sc_Optimal_empty (fun vs H Q E h => ?_) (fun cdv A outer s H vs Q E hr h => ?_)
  · obtain ⟨z, rfl, _⟩ := h
    rfl
  · obtain ⟨z, rfl, hz0, hz1, q, e⟩ := h
    refine ⟨_, (pss_cons (ps_expr (pe_call (ok_check_size T) (hr.mono (by decide)) (by rfl) T.g_check_size T.F_check_size.kp T.b_check_size .nil (passes_call (takes_of rfl rfl rfl rfl) (fun _ _ _ _ h => h)) (pa_cons (pv 1) pa_nil)))
      (pss_one (ps_ret (ClsM.pe_makeL (i := 0) T.mk_Optimal (ok_Optimal_init T) (hr.mono (by decide)) rfl (by first | exact Or.inl rfl | exact Or.inr (Or.inl rfl)) T.b_Optimal_init pass0 (pa_cons (pv 1) (pa_cons (pe_lst pa_nil) pa_nil)))))), ?_⟩
    walk_at "z0"
    walk_at "z"
    refine ⟨z, rfl, hz0, hz1, fun hz => ?_, e⟩
    walk_at "z"
    refine ClsM.makeL rfl ?_
    walk_at "z"
    refine Z.lstK (fun b H1 nb k1 e1 => ?_)
    walk_at "z"
    intro x dx nx ndx hdx
    refine ⟨x, b, dx, z, [], rfl, upd_same, (Kp.made nx ndx).get nin0 e1, fun v hv => (by simp at hv), by simp, fun H8 p kk np nkk k8 hU8 => ⟨rfl, ?_⟩⟩
    obtain ⟨h1, h2, h3⟩ := made_new k1 nx ndx hdx nkk k8
    exact q hz H8 x p kk h1 (k1.trans h3) hU8
def spSingleO (C CI : Addr) (K : PySem.W.Frag) : Sp := fun vs H Q E => ∃ (z : Int) (it : Addr) (r : Row), vs = [.ref C, .ref it, .int z] ∧ RowAt H it r ∧ -5 ≤ z ∧ z ≤ 30 ∧ (1 ≤ z ∧ z ≤ 20 → ∀ H' x p k t c, H x = none → Kp [] H H' → OptAt C H' x p k z [⟨t, it, c, r, (r.w, 1)⟩] → PtAt K H' ⟨t, it, c, r, (r.w, 1)⟩ → Q (.ref x) H') ∧ (¬ (1 ≤ z ∧ z ≤ 20) → ∀ d, H d = none → E (.ref CI) (some d) (upd H d (.xd (flF "size" [.int z]))))
theorem ok_Optimal_single {P : Program} {w : World} {K : PySem.W.Frag} {mg : Str → Option Value} {base : Heap} (T : T P K mg) : FnOk P w K mg base (L2.CX P w) 4 T.a_Optimal_single T.fd_Optimal_single ["cls", "item", "size"] (spSingleO T.C_Optimal T.C_InvalidSize K) := by
  refine T.F_Optimal_single.okX sc_Optimal_single (fun vs H Q E h => ?_) (fun cdv A outer s H vs Q E hr h => ?_)
  · obtain ⟨z, it, r, rfl, _⟩ := h
    rfl
  · obtain ⟨z, it, r, rfl, hR, hz0, hz1, q, e⟩ := h
    refine ⟨_, (pss_cons (ps_expr (pe_call (ok_check_size T) (hr.mono (by decide)) (by rfl) T.g_check_size T.F_check_size.kp T.b_check_size .nil (passes_call (takes_of rfl rfl rfl rfl) (fun _ _ _ _ h => h)) (pa_cons (pv 2) pa_nil)))
      (pss_one (ps_ret (ClsM.pe_makeL (i := 0) T.mk_Optimal (ok_Optimal_init T) (hr.mono (by decide)) rfl (by first | exact Or.inl rfl | exact Or.inr (Or.inl rfl)) T.b_Optimal_init pass0 (pa_cons (pv 2) (pa_cons (pe_lst (pa_cons (pe_tup (pa_cons (pv 1) (pa_cons (pe_tup (pa_cons (pe_ix ix_tup (pv 1) pe_int (fun _ _ => rfl)) (pa_cons pe_int pa_nil))) pa_nil))) pa_nil)) pa_nil)))))), ?_⟩
    walk_at "z0"
    walk_at "z"
    refine ⟨z, rfl, hz0, hz1, fun hz => ?_, e⟩
    walk_at "z"
    refine ClsM.makeL rfl ?_
    walk_at "z"
    refine RowAt.w2 hR ?_
    walk_at "z"
    refine Z.tupK (fun c H1 nc k1 e1 => ?_)
    walk_at "z"
    refine Z.tupK (fun t H2 nt k2 e2 => ?_)
    walk_at "z"
    refine Z.lstK (fun b H3 nb k3 e3 => ?_)
    have k13 := (k1.trans k2).trans k3
    walk_at "z"
    intro x dx nx ndx hdx
    have hPt : PtAt K H3 ⟨t, it, c, r, (r.w, 1)⟩ := ⟨k3.get nin0 e2, hR.kp0 k13, tupT ((k2.trans k3).get nin0 e1)⟩
    refine ⟨x, b, dx, z, [⟨t, it, c, r, (r.w, 1)⟩], rfl, upd_same, (Kp.made nx ndx).get nin0 e3, fun v hv => ?_, by simp, fun H8 p kk np nkk k8 hU8 => ⟨rfl, ?_⟩⟩
    · rw [List.mem_singleton.mp hv]
      exact hPt.kp0 (Kp.made nx ndx)
    obtain ⟨h1, h2, h3⟩ := made_new k13 nx ndx hdx nkk k8
    exact q hz H8 x p kk t c h1 (k13.trans h3) hU8 (hPt.kp0 h3)
def spUsed (K : PySem.W.Frag) (C : Addr) : Sp := fun vs H Q _ => ∃ (x l : Addr) (ns : List Int) (k : Nat), vs = [.ref x] ∧ TapeAt C H x l ns k ∧ Q (.int (k : Int)) H
theorem ok_Tape_used {P : Program} {w : World} {K : PySem.W.Frag} {mg : Str → Option Value} {base : Heap} (T : T P K mg) : FnOk P w K mg base CX0 1 T.a_Tape_used T.fd_Tape_used ["self"] (spUsed K T.C_Tape) := by
  refine T.F_Tape_used.ok sc_Tape_used (fun vs H Q E h => ?_) (fun cdv A outer s H vs Q E hr h => ?_)
  · obtain ⟨x, l, ns, k, rfl, _⟩ := h
    rfl
  · obtain ⟨x, l, ns, k, rfl, ⟨⟨dx, hx⟩, hl⟩, q⟩ := h
    refine ⟨_, (pss_one (ps_ret (pe_fld (pv 0) rfl))), ?_⟩
    walk_at "z0"
    walk_at "z"
    refine ⟨x, _, dx, _, _, rfl, hx, T.cl_Tape, T.na_Tape__picks, tf_p l k, ?_⟩
    exact q

/-! ### rows in order -/
def leR (x y : Addr × Row) : Bool := PySem.W.dataLe false (fun z : Addr × Row => rowD z.2) x y
def sortR (ps : List (Addr × Row)) : List (Addr × Row) := ps.mergeSort leR
theorem sortR_perm (ps : List (Addr × Row)) : (sortR ps).Perm ps := List.mergeSort_perm _ _
theorem sortR_len (ps : List (Addr × Row)) : (sortR ps).length = ps.length := (sortR_perm ps).length_eq
theorem sortR_refs (ps : List (Addr × Row)) : ((ps.map fun x => (V.ref x.1, rowD x.2)).mergeSort (PySem.W.dataLe false Prod.snd)).map Prod.fst = refs (sortR ps) := by
  rw [← List.map_mergeSort (r := leR) (s := PySem.W.dataLe false Prod.snd) (f := fun x : Addr × Row => (V.ref x.1, rowD x.2)) (fun _ _ _ _ => rfl), List.map_map]
  rfl
theorem RowsAt.perm {H : Hp} {ps qs : List (Addr × Row)} (h : qs.Perm ps) (r : RowsAt H ps) : RowsAt H qs := fun x hx => r x (h.mem_iff.mp hx)
theorem sortedRows {K : PySem.W.Frag} {H : Hp} {Q : VK} {a : Addr} {ps : List (Addr × Row)} (h : SqL K H a (refs ps)) (r : RowsAt H ps) (q : ∀ p H1, H p = none → Kp [] H H1 → H1 p = some (.lst (refs (sortR ps))) → Q (.ref p) H1) : RL.rSortedD K [.ref a] H Q := by
  refine ⟨a, ps.map fun x => (V.ref x.1, rowD x.2), rfl, by rw [List.map_map]; exact h, ?_, ?_, ?_, ?_, fun p np => ?_⟩
  · intro b hb
    obtain ⟨x, hx, rfl⟩ := List.mem_map.mp hb
    exact dpRow (r x hx)
  · rw [List.map_map]
    exact PySem.W.AllAlike.of fun _ _ => by simp [PySem.W.alike, PySem.W.alikeAll, rowD]
  · rw [List.map_map]
    exact PySem.W.Sortable.tuples fun _ => ⟨_, _, rfl⟩
  · intro b hb
    obtain ⟨x, hx, rfl⟩ := List.mem_map.mp hb
    show (rowD x.2).depth ≤ 60
    rw [rowD_depth]; decide
  · rw [sortR_refs]
    exact q p _ np (Kp.new np) upd_same

/-! ### the law's parts, samples, merges -/
structure PartsOk (ps : List (Addr × Row)) (pts : List Pt) : Prop where
  rows : rowsOf pts = sortR ps
  small : ∀ z ∈ pts, FrB 50 z.f ∧ 1 ≤ z.f.2
def spParts (K : PySem.W.Frag) : Sp := fun vs H Q _ => ∃ (a b : Addr) (ps : List (Addr × Row)), vs = [.ref a, .ref b] ∧ DrawsAt H a ∧ H b = some (.lst (refs ps)) ∧ RowsAt H ps ∧ ps.length ≤ 10 ∧ (∀ x ∈ ps, 1 ≤ x.2.w ∧ x.2.w ≤ 1000) ∧ ∀ (H' : Hp) (d : Addr) (pts : List Pt), H d = none → Kp [a] H H' → DrawsAt H' a → H' d = some (.lst (prefs pts)) → PtsAt K H' pts → PartsOk ps pts → Q (.ref d) H'
theorem small_FrB {n : Nat} {w m : Int} (h1 : w.natAbs < 2 ^ n) (h2 : m.natAbs < 2 ^ n) : FrB n (w, m) := ⟨h1, h2⟩
theorem FrAt.kpd {K : PySem.W.Frag} {H H' : Hp} {a c : Addr} {f : Fr} (h : FrAt K H c f) (k : Kp [a] H H') (d : DrawsAt H a) : FrAt K H' c f := let ⟨_, e⟩ := d; h.kpl k e
theorem ok__law_parts {P : Program} {w : World} {K : PySem.W.Frag} {mg : Str → Option Value} {base : Heap} (T : T P K mg) : FnOk P w K mg base CX0 3 T.a__law_parts T.fd__law_parts ["row", "things"] (spParts K) := by
  refine T.F__law_parts.ok sc__law_parts (fun vs H Q E h => ?_) (fun cdv A outer s H vs Q E hr h => ?_)
  · obtain ⟨a, b, ps, rfl, _⟩ := h
    rfl
  · obtain ⟨a, b, ps, rfl, hd, hb, hR, hn, hw, q⟩ := h
    refine ⟨_, (pss_one (ps_ret (pe_lc (own := [("item", 2)]) (g := gName 2) rfl sc__law_parts.nd (pi_list (pe_callB ((RL.cr_sortedD hr.units) : CallR _ _ (RL.rSortedD K)) (by rfl) T.z_sorted (by decide +kernel) (pa_cons (pv 1) pa_nil))) (blkOk_by (own := [("item", 2)]) (N := N__law_parts) (sc := defScope s__law_parts) (by decide +kernel)) (fun _ _ _ _ _ => (pg_name (i := 2) sc__law_parts.nd rfl (by first | exact Or.inl rfl | exact Or.inr rfl))) (fun _ _ _ _ _ => pts_nil) (fun _ _ _ _ _ => (pe_tup (pa_cons (pv 2) (pa_cons (pe_call (ok__law_plus T) (hr.mono (by decide)) (by rfl) T.g__law_plus T.F__law_plus.kp T.b__law_plus .nil pass0 (pa_cons (pe_tup (pa_cons (pe_ix (ix_tup : IxR _ (rIxT K)) (pv 2) pe_int (fun _ _ => rfl)) (pa_cons pe_int pa_nil))) (pa_cons (pe_call (ok__law_low T) (hr.mono (by decide)) (by rfl) T.g__law_low T.F__law_low.kp T.b__law_low .nil pass0 (pa_cons (pe_call (ok__law_take T) (hr.mono (by decide)) (by rfl) T.g__law_take T.F__law_take.kp T.b__law_take .nil pass0 (pa_cons (pv 0) (pa_cons pe_int pa_nil))) (pa_cons (pe_op op_add pe_int (pe_call (ok__law_take T) (hr.mono (by decide)) (by rfl) T.g__law_take T.F__law_take.kp T.b__law_take .nil pass0 (pa_cons (pv 0) (pa_cons pe_int pa_nil)))) pa_nil))) pa_nil))) pa_nil))))))), ?_⟩
    walk_at "z0"
    walk_at "z"
    refine sortedRows (ps := ps) (lstL hb) hR (fun S H1 nS k1 e1 => ?_)
    have d1 := hd.kp0 k1
    have naS : a ≠ S := hd.ne nS
    have hsl := sortR_len ps
    have hsw : ∀ x ∈ sortR ps, 1 ≤ x.2.w ∧ x.2.w ≤ 1000 := fun x hx => hw x ((sortR_perm ps).mem_iff.mp hx)
    have R1 : RowsAt H1 (sortR ps) := (hR.kp0 k1).perm (sortR_perm ps)
    refine Z.lcl (refs (sortR ps)) (lstL e1) (fun D i G => ∃ pts : List Pt, Kp [a] H1 G ∧ DrawsAt G a ∧ G D = some (.lst (prefs pts)) ∧ PtsAt K G pts ∧ rowsOf pts = (sortR ps).take i ∧ ∀ z ∈ pts, FrB 50 z.f ∧ 1 ≤ z.f.2) ?_ ?_ ?_ ?_
    · intro D G nD k2 e2
      exact ⟨[], k2.sub (by simp), d1.kp0 k2, e2, fun v hv => (by simp at hv), rfl, fun v hv => (by simp at hv)⟩
    · rintro D i G nD hi ⟨pts, k2, _⟩
      exact lstL (k2.get (nin1 naS.symm) e1)
    · rintro D i v G nD hv ⟨pts, k2, d2, e2, P2, r2, s2⟩
      obtain ⟨z, hz, rfl⟩ := refs_of hv
      have hzm := List.mem_of_getElem? hz
      have hzi := (List.getElem?_eq_some_iff.mp hz).1
      have hzw := hsw z hzm
      have naD : a ≠ D := d1.ne nD
      have hzR : RowAt G z.1 z.2 := (R1.kpd k2 d1) z hzm
      have hpl : pts.length ≤ 10 := by rw [← rowsOf_len, r2, List.length_take]; omega
      dsimp only [wipe, List.set]
      walk_at "z"
      refine ⟨rfl, ?_⟩
      walk_at "z"
      refine hzR.w2 ?_
      walk_at "z"
      refine Z.tupK (fun c1 G1 n1 j1 f1 => ?_)
      walk_at "z"
      refine ⟨a, 9, rfl, d2.kp0 j1, by decide, by decide, fun G2 v hv0 hv1 j2 d3 => ?_⟩
      walk_at "z"
      refine ⟨a, 3, rfl, d3, by decide, by decide, fun G3 u hu0 hu1 j3 d4 => ?_⟩
      walk_at "z"
      have hF1 : FrAt K G1 c1 (z.2.w, 1) := tupT f1
      have hF3 : FrAt K G3 c1 (z.2.w, 1) := (hF1.kpd j2 (d2.kp0 j1)).kpd j3 d3
      refine ⟨v, 1 + u, rfl, by omega, Nat.lt_of_le_of_lt (show (1 + u).natAbs ≤ 3 by omega) (by decide), fun G4 c2 nc2 j4 F4 => ?_⟩
      have hlo : FrB 5 (lo v (1 + u)) := lo_B (by omega) (Nat.lt_of_le_of_lt (show v.natAbs ≤ 8 by omega) (by decide)) (Nat.lt_of_le_of_lt (show (1 + u).natAbs ≤ 3 by omega) (by decide))
      have hwB : FrB 10 (z.2.w, (1 : Int)) := ⟨Nat.lt_of_le_of_lt (show z.2.w.natAbs ≤ 1000 by omega) (by decide), show (1 : Int).natAbs < 2 ^ 10 by decide⟩
      have hlp : 1 ≤ (lo v (1 + u)).2 := lo_pos (by omega)
      walk_at "z"
      refine ⟨c1, c2, _, _, rfl, hF3.kp0 j4, F4, (show (1 : Int) ≤ 1 by decide), hlp, ⟨10, 5, hwB, hlo, by decide⟩, fun G5 c3 nc3 j5 F5 => ?_⟩
      walk_at "z"
      refine Z.tupK (fun t G6 nt j6 e6 => ?_)
      have kall : Kp [a] G G6 := (j1.sub (by simp)).trans (j2.trans (j3.trans (((j4.trans j5).trans j6).sub (by simp))))
      have eD6 := kall.get (nin1 naD.symm) e2
      have kD : Kp [D] G6 (upd G6 D (.lst (prefs pts ++ [.ref t]))) := Kp.put (by simp)
      have hza : z.1 ≠ a := fun y => by
        have := hzR
        unfold RowAt at this
        obtain ⟨ns, ea⟩ := d2
        rw [y, ea] at this; cases this
      have hPt : PtAt K G6 ⟨t, z.1, c3, z.2, fplus (z.2.w, 1) (lo v (1 + u))⟩ := ⟨e6, kall.get (nin1 hza) hzR, F5.kp0 j6⟩
      refine ⟨_, eD6, Z.szl (m := 1000) (by rw [prefs_len]; omega), pts ++ [⟨t, z.1, c3, z.2, fplus (z.2.w, 1) (lo v (1 + u))⟩], (k2.trans kall).mut nD rfl, ((d4.kp0 (j4.trans j5)).kp0 j6).put naD, by rw [upd_same, prefs_snoc], fun y hy => ?_, ?_, fun y hy => ?_⟩
      · rcases List.mem_append.mp hy with h | h
        · exact ((P2.kpd kall d2).kpl kD eD6) y h
        · rw [List.mem_singleton.mp h]
          exact hPt.kpl kD eD6
      · unfold rowsOf at r2 ⊢
        rw [List.map_append, r2, List.take_add_one, hz]; rfl
      · rcases List.mem_append.mp hy with h | h
        · exact s2 y h
        · rw [List.mem_singleton.mp h]
          exact ⟨(fplus_B hwB hlo (show (1 : Int) ≠ 0 by decide) (by omega)).mono (by decide), fplus_pos (show (1 : Int) ≠ 0 by decide) (by omega)⟩
    · rintro D G nD ⟨pts, k2, d2, e2, P2, r2, s2⟩
      rw [refs_len, List.take_length] at r2
      exact q G D pts (k1.none nin0 nD) ((k1.sub (by simp)).trans k2) d2 e2 P2 ⟨r2, s2⟩
def refD (s : Str) : PyData := .tuple [.str "refused", .str s]
def madeD (r : Row) (z : Int) (s : Bool) : PyData := if 1 ≤ z ∧ z ≤ 20 then .list (if s = true then [.tuple [rowD r, frD (r.w, 1)]] else []) else .tuple [.str "refused", .int z]
def spMade (K : PySem.W.Frag) : Sp := fun vs H Q _ => ∃ (it : Addr) (r : Row) (z : Int) (s : Bool), vs = [.ref it, .int z, .bl s] ∧ RowAt H it r ∧ -5 ≤ z ∧ z ≤ 30 ∧ ∀ H' v, Kp [] H H' → Dp K H' v (madeD r z s) → Q v H'
theorem ok__law_made {P : Program} {w : World} {K : PySem.W.Frag} {mg : Str → Option Value} {base : Heap} (T : T P K mg) : FnOk P w K mg base CX0 5 T.a__law_made T.fd__law_made ["item", "size", "is_single"] (spMade K) := by
  refine T.F__law_made.ok sc__law_made (fun vs H Q E h => ?_) (fun cdv A outer s H vs Q E hr h => ?_)
  · obtain ⟨it, r, z, s, rfl, _⟩ := h
    rfl
  · obtain ⟨it, r, z, s, rfl, hR, hz0, hz1, q⟩ := h
    refine ⟨_, (pss_one (Many.ps_try_named rfl rfl takes0 (fun W pn xe tk po => (pss_cons (ps_if (pt_val (pv 2)) (pss_one (ps_ret (ClsM.fldK K rfl (pe_fld (ClsM.pe_cm (pe_glob (v := .ref T.C_Optimal) (by rfl) T.mg_Optimal rfl) T.cr_Optimal T.cm_Optimal_single (ok_Optimal_single T) T.b_Optimal_single (hr.mono (by decide)) (fun σ => passAt tk σ) (pa_cons (pv 0) (pa_cons (pv 1) pa_nil))) rfl)))) pss_nil)
      (pss_one (ps_ret (ClsM.fldK K rfl (pe_fld (ClsM.pe_cm (pe_glob (v := .ref T.C_Optimal) (by rfl) T.mg_Optimal rfl) T.cr_Optimal T.cm_Optimal_empty (ok_Optimal_empty T) T.b_Optimal_empty (hr.mono (by decide)) (fun σ => passAt tk σ) (pa_cons (pv 1) pa_nil)) rfl)))))) (.named (i := 3) sc__law_made.nd rfl rfl ⟨by rfl, by decide, .inl T.x_InvalidSize.g⟩ (fun a oe cls d pn hz hf => (pss_one (ps_ret (pe_tup (pa_cons pe_str (pa_cons (pe_xf T.x_InvalidSize.xf T.nf_InvalidSize_size hz hf (pv 3)) pa_nil)))))) (.bare ⟨by rfl, by decide, .inl T.mg_SamphireError⟩ (fun a oe cls d pn hz hf => (pss_one (ps_ret (pe_tup (pa_cons pe_str (pa_cons pe_str pa_nil)))))) .nil)))), ?_⟩
    walk_at "z0"
    walk_at "z"
    have hbad : ¬ (1 ≤ z ∧ z ≤ 20) → madeD r z s = .tuple [.str "refused", .int z] := fun h => if_neg h
    have hgood : (1 ≤ z ∧ z ≤ 20) → madeD r z s = .list (if s = true then [.tuple [rowD r, frD (r.w, 1)]] else []) := fun h => if_pos h
    cases s with
    | true =>
      refine Z.yesB ?_
      walk_at "z"
      refine ClsM.cm ?_
      walk_at "z"
      refine ⟨rfl, ?_⟩
      walk_at "z"
      refine ⟨z, it, r, rfl, hR, hz0, hz1, fun hz H1 x p k t c nx k1 hO hP => ?_, fun hz d nd => ?_⟩
      · obtain ⟨⟨dx, hx⟩, hp, hk⟩ := id hO
        refine ⟨x, _, dx, _, _, rfl, hx, T.cl_Optimal, T.na_Optimal_parts, op_parts z p k, ?_⟩
        refine q H1 _ k1 ?_
        rw [hgood hz]
        exact .lst (lstL hp) (.cons (dpPt hP) .nil)
      · refine Many.wish_yes T.x_InvalidSize.te fun a na => ?_
        simp only [Many.ends, Many.bound, List.set]
        walk_at "z"
        refine ⟨_, rfl, rfl, rfl, d, _, .int z, rfl, upd_same, rfl, ?_⟩
        walk_at "z"
        refine Z.tupK (fun t H2 nt k2 e2 => ?_)
        refine q H2 _ ((Kp.new nd).trans k2) ?_
        rw [hbad hz]
        exact .tup (tupT e2) (.cons (.str _) (.cons (.int _) .nil))
    | false =>
      refine Z.noB ?_
      walk_at "z"
      refine ClsM.cm ?_
      walk_at "z"
      refine ⟨rfl, ?_⟩
      walk_at "z"
      refine ⟨z, rfl, hz0, hz1, fun hz H1 x p k nx k1 hO => ?_, fun hz d nd => ?_⟩
      · obtain ⟨⟨dx, hx⟩, hp, hk⟩ := id hO
        refine ⟨x, _, dx, _, _, rfl, hx, T.cl_Optimal, T.na_Optimal_parts, op_parts z p k, ?_⟩
        refine q H1 _ k1 ?_
        rw [hgood hz]
        exact .lst (lstL hp) .nil
      · refine Many.wish_yes T.x_InvalidSize.te fun a na => ?_
        simp only [Many.ends, Many.bound, List.set]
        walk_at "z"
        refine ⟨_, rfl, rfl, rfl, d, _, .int z, rfl, upd_same, rfl, ?_⟩
        walk_at "z"
        refine Z.tupK (fun t H2 nt k2 e2 => ?_)
        refine q H2 _ ((Kp.new nd).trans k2) ?_
        rw [hbad hz]
        exact .tup (tupT e2) (.cons (.str _) (.cons (.int _) .nil))
def spMerged (K : PySem.W.Frag) (C CU : Addr) : Sp := fun vs H Q _ => ∃ (x p k y t : Addr) (size : Int) (ps : List Pt) (D : PyData), vs = [.ref x, .ref y, .ref t] ∧ OptAt C H x p k size ps ∧ PtsAt K H ps ∧ PtsS ps ∧ ps.length ≤ 100 ∧
  (((∃ (k2 : Addr) (size2 seen2 : Int) (qs : List (Addr × Row)), UniAt CU H y k2 size2 seen2 qs) ∧ D = refD "kind") ∨
  ∃ (p2 k2 : Addr) (size2 : Int) (qs : List Pt), OptAt C H y p2 k2 size2 qs ∧ PtsAt K H qs ∧ PtsS qs ∧ qs.length ≤ 100 ∧
  ((size2 ≠ size ∧ D = refD "kind") ∨ (size2 = size ∧ ∃ s, twice (sortS (keysOf [rowsOf ps, rowsOf qs])) = some s ∧ D = refD s) ∨
   (size2 = size ∧ twice (sortS (keysOf [rowsOf ps, rowsOf qs])) = none ∧ ((ps.length + qs.length : Nat) : Int) ≤ size ∧ size ≤ 30 ∧ D = .tuple [.int size, .tuple (ptsD (sortP (ps ++ qs)))]))) ∧
  ∀ H' v, Kp [] H H' → Dp K H' v D → Q v H'
theorem ok__law_merged {P : Program} {w : World} {K : PySem.W.Frag} {mg : Str → Option Value} {base : Heap} (T : T P K mg) : FnOk P w K mg base CX0 5 T.a__law_merged T.fd__law_merged ["one", "other", "tape"] (spMerged K T.C_Optimal T.C_Uniform) := by
  refine T.F__law_merged.ok sc__law_merged (fun vs H Q E h => ?_) (fun cdv A outer s H vs Q E hr h => ?_)
  · obtain ⟨_, _, _, _, _, _, _, _, rfl, _⟩ := h
    rfl
  · obtain ⟨x, p, k, y, t, size, ps, D, rfl, hO, hP, hS, hn, hcase, q⟩ := h
    obtain ⟨⟨dx, hx⟩, hp, hk⟩ := id hO
    refine ⟨_, (pss_one (Many.ps_try_named rfl rfl takes0 (fun W pn xe tk po => (pss_one (ps_ret (pe_meth0 (ClsM.pe_methA (pv 0) T.cl_Optimal T.me_Optimal_merge (ok_Optimal_merge T) (hr.mono (by decide)) T.b_Optimal_merge (fun σ => passAt tk σ) (pa_cons (pv 1) (pa_cons (pv 2) pa_nil))) T.cl_Optimal T.me_Optimal_view (ok_Optimal_view T) (hr.mono (by decide)) T.b_Optimal_view .nil pass0)))) (.named (i := 3) sc__law_merged.nd rfl rfl ⟨by rfl, by decide, .inl T.x_WrongKind.g⟩ (fun a oe cls d pn hz hf => (pss_cons (ps_if (pt_val (pe_callB (Sup.call_isX hz hf) (by rfl) T.z_isinstance (by decide +kernel) (pa_cons (pv 3) (pa_cons (pe_glob (v := .ref T.C_SharedKey) (by rfl) T.x_SharedKey.g rfl) pa_nil)))) (pss_one (ps_ret (pe_tup (pa_cons pe_str (pa_cons pe_str pa_nil))))) pss_nil)
      (pss_one (ps_ret (pe_tup (pa_cons pe_str (pa_cons pe_str pa_nil))))))) (.named (i := 3) sc__law_merged.nd rfl rfl ⟨by rfl, by decide, .inl T.x_SharedKey.g⟩ (fun a oe cls d pn hz hf => (pss_one (ps_ret (pe_tup (pa_cons pe_str (pa_cons (pe_xf T.x_SharedKey.xf T.nf_SharedKey_key hz hf (pv 3)) pa_nil)))))) (.bare ⟨by rfl, by decide, .inl T.mg_SamphireError⟩ (fun a oe cls d pn hz hf => (pss_one (ps_ret (pe_tup (pa_cons pe_str (pa_cons pe_str pa_nil)))))) .nil))))), ?_⟩
    walk_at "z0"
    walk_at "z"
    refine ClsM.methA ?_
    walk_at "z"
    refine ⟨x, dx, _, rfl, hx, rfl, ?_⟩
    walk_at "z"
    have wk : D = refD "kind" → Many.wish K (fun _ _ _ _ => False) { nx := fun _ H' => Q V.non H', rt := Q }
        [{ c := Value.ref T.C_WrongKind, at_ := some 3,
            ts := fun a cls d =>
              tSeq
                (tIfS (tB (tCB (Sup.rIsX K a cls d) (tCons (tVar 3) (tCons (tC (V.ref T.C_SharedKey)) tNil))))
                  (tRet (tTup (tCons (tC (V.str ("refused" : Str))) (tCons (tC (V.str ("other" : Str))) tNil))))
                  tNext)
                (tRet (tTup (tCons (tC (V.str ("refused" : Str))) (tCons (tC (V.str ("kind" : Str))) tNil)))) },
          { c := Value.ref T.C_SharedKey, at_ := some 3,
            ts := fun a cls d =>
              tRet (tTup (tCons (tC (V.str ("refused" : Str))) (tCons (tXf a cls d T.C_SharedKey ("key" : Str) (tVar 3)) tNil))) },
          { c := Value.ref T.C_SamphireError, at_ := none,
            ts := fun a cls d =>
              tRet (tTup (tCons (tC (V.str ("refused" : Str))) (tCons (tC (V.str ("other" : Str))) tNil))) }] (.ref T.C_WrongKind) none [some (V.ref x), some (V.ref y), some (V.ref t), none] H := by
      intro hD
      refine Many.wish_yes T.x_WrongKind.te fun a na => ?_
      simp only [Many.ends, Many.bound, List.set]
      walk_at "z"
      refine ⟨_, _, _, false, rfl, rfl, T.x_WrongKind.is, rfl, fun u hu => hu, T.kit_WrongKind_SharedKey, ?_⟩
      walk_at "z"
      refine Z.tupK (fun t H2 nt k2 e2 => ?_)
      refine q H2 _ k2 ?_
      rw [hD]
      exact .tup (tupT e2) (.cons (.str _) (.cons (.str _) .nil))
    refine ⟨x, p, k, y, t, size, ps, rfl, hO, hP, hS, hn, ?_⟩
    rcases hcase with ⟨⟨k2, size2, seen2, qs, hU⟩, hD⟩ | ⟨p2, k2, size2, qs, hV, hQ, hQS, hqn, hc⟩
    · exact .inl ⟨k2, size2, seen2, qs, hU, wk hD⟩
    · refine .inr ⟨p2, k2, size2, qs, hV, hQ, hQS, hqn, fun hne => ?_, fun heq s hs H9 d k9 nd => ?_, fun heq hno => ?_⟩
      · rcases hc with ⟨_, hD⟩ | ⟨h, _⟩ | ⟨h, _⟩
        · exact wk hD
        · exact absurd h hne
        · exact absurd h hne
      · refine Many.wish_no T.exm_SharedKey_WrongKind (Many.wish_yes T.x_SharedKey.te fun a na => ?_)
        simp only [Many.ends, Many.bound, List.set]
        walk_at "z"
        refine ⟨_, rfl, rfl, rfl, d, _, .str s, rfl, upd_same, rfl, ?_⟩
        walk_at "z"
        refine Z.tupK (fun t H2 nt k2 e2 => ?_)
        refine q H2 _ ((k9.trans (Kp.new nd)).trans k2) ?_
        rcases hc with ⟨h, _⟩ | ⟨_, s', hs', hD⟩ | ⟨_, h, _⟩
        · exact absurd heq h
        · rw [hs] at hs'
          cases hs'
          rw [hD]
          exact .tup (tupT e2) (.cons (.str _) (.cons (.str _) .nil))
        · rw [hs] at h; cases h
      · rcases hc with ⟨h, _⟩ | ⟨_, s', hs', _⟩ | ⟨_, _, hle, h30, hD⟩
        · exact absurd heq h
        · rw [hno] at hs'; cases hs'
        · refine ⟨hle, h30, fun H1 z pz kz nz k1 hZ => ?_⟩
          obtain ⟨⟨dz, hz⟩, _, _⟩ := id hZ
          refine ⟨z, dz, _, rfl, hz, rfl, ?_⟩
          walk_at "z"
          refine ⟨z, pz, kz, size, sortP (ps ++ qs), rfl, hZ, by rw [(sortP_perm _).length_eq, List.length_append]; omega, fun H2 t2 u2 k2 et eu => ?_⟩
          refine q H2 _ (k1.trans k2) ?_
          rw [hD]
          have hPQ := ((hP.app hQ).perm (sortP_perm _)).kp0 (k1.trans k2)
          exact .tup (tupT et) (.cons (.int _) (.cons (.tup (tupT eu) (dpPts hPQ)) .nil))

/-! ### keys in order -/
open PyProof.Rows in
def leS (a b : Str) : Bool := !lexLt PyProof.Rows.itemOrd [.inr b.cps.toList] [.inr a.cps.toList]
theorem sortS_is (l : List Str) : sortS l = l.mergeSort leS := by
  have e := List.map_mergeSort (r := leS) (s := PySem.W.dataLe false Prod.snd) (f := fun s : Str => (V.str s, PyData.str s)) (l := l) (fun _ _ _ _ => rfl)
  unfold sortS strP
  rw [← e, List.map_map]
  exact List.map_id' _
theorem leS_ord : (∀ a b c, leS a b = true → leS b c = true → leS a c = true) ∧ (∀ a b, leS a b = true ∨ leS b a = true) := by
  have T := PySem.W.sortLe_total (PyProof.Rows.listOrd PyProof.Rows.itemOrd) false fun k : Str => PySem.W.keyToks (.str k)
  exact ⟨T.trans, T.total⟩
theorem leS_anti {a b : Str} (h1 : leS a b = true) (h2 : leS b a = true) : a = b := by
  unfold leS at h1 h2
  rw [Bool.not_eq_true'] at h1 h2
  have e := PyProof.Rows.lex_total (O := PyProof.Rows.itemOrd) _ _ h2 h1
  have e2 : a.cps.toList = b.cps.toList := Sum.inr.inj (List.cons.inj e).1
  have e3 : a.cps = b.cps := Array.toList_inj.mp e2
  obtain ⟨c⟩ := a
  obtain ⟨d⟩ := b
  cases e3
  rfl
theorem leR_key {x y : Addr × Row} (h : leR x y = true) : leS x.2.k y.2.k = true := by
  have h1 : (!PyProof.Rows.lexLt PyProof.Rows.itemOrd (PySem.W.keyToks (rowD y.2)) (PySem.W.keyToks (rowD x.2))) = true := h
  simp only [rowD, PySem.W.keyToks, PySem.W.keyToksAll, List.cons_append, List.nil_append] at h1
  rw [Bool.not_eq_true', PyProof.Rows.lex_self (O := PyProof.Rows.itemOrd)] at h1
  have h2 := (PyProof.Rows.lex_false (O := PyProof.Rows.itemOrd).mp h1).1
  unfold leS
  rw [Bool.not_eq_true', PyProof.Rows.lex_cons (O := PyProof.Rows.itemOrd), h2]
  simp [PyProof.Rows.lexLt]
theorem leR_ord : (∀ a b c, leR a b = true → leR b c = true → leR a c = true) ∧ (∀ a b, leR a b = true ∨ leR b a = true) := by
  have T := PySem.W.sortLe_total (PyProof.Rows.listOrd PyProof.Rows.itemOrd) false fun x : Addr × Row => PySem.W.keyToks (rowD x.2)
  exact ⟨T.trans, T.total⟩
theorem sortR_pw (ps : List (Addr × Row)) : (sortR ps).Pairwise fun a b => leR a b = true := List.pairwise_mergeSort (le := leR) leR_ord.1 (fun a b => Bool.or_eq_true_iff.mpr (leR_ord.2 a b)) ps
theorem sortR_sort (ps : List (Addr × Row)) : sortR (sortR ps) = sortR ps := List.mergeSort_of_pairwise (sortR_pw ps)
theorem sortS_perm (l : List Str) : (sortS l).Perm l := by rw [sortS_is]; exact List.mergeSort_perm _ _
theorem sortS_pw (l : List Str) : (sortS l).Pairwise fun a b => leS a b = true := by
  rw [sortS_is]
  exact List.pairwise_mergeSort (le := leS) leS_ord.1 (fun a b => Bool.or_eq_true_iff.mpr (leS_ord.2 a b)) l
theorem twice_nodup {l : List Str} (h : l.Nodup) : twice (sortS l) = none := twice_none fun i c d hc hd e => by
  have nd := (sortS_perm l).nodup_iff.mpr h
  obtain ⟨h1, e1⟩ := List.getElem?_eq_some_iff.mp hc
  obtain ⟨h2, e2⟩ := List.getElem?_eq_some_iff.mp hd
  have := (List.getElem_inj nd).mp (e2.trans (e.trans e1.symm))
  omega
theorem least_first {m k0 : Str} {l' r : List Str} (pw : (m :: l').Pairwise fun a b => leS a b = true) (hk : k0 ∈ m :: l') (hm : leS k0 m = true) : m = k0 := by
  rcases List.mem_cons.mp hk with h | h
  · exact h.symm
  · exact leS_anti ((List.pairwise_cons.mp pw).1 k0 h) hm
theorem twice_double {ks r : List Str} {k0 : Str} (e : ks = k0 :: r) (hle : ∀ k ∈ ks, leS k0 k = true) : twice (sortS (ks ++ ks)) = some k0 := by
  have hp := sortS_perm (ks ++ ks)
  have pw := sortS_pw (ks ++ ks)
  generalize sortS (ks ++ ks) = l at hp pw
  have hmem : ∀ x ∈ l, x ∈ ks := fun x hx => by
    have := hp.mem_iff.mp hx
    rcases List.mem_append.mp this with h | h <;> exact h
  cases l with
  | nil =>
    have := hp.length_eq
    rw [e] at this
    simp at this
  | cons m l' =>
    have hk0 : k0 ∈ m :: l' := hp.mem_iff.mpr (by rw [e]; simp)
    have e1 : m = k0 := least_first (r := r) pw hk0 (hle m (hmem m (by simp)))
    subst e1
    have hp' : l'.Perm (r ++ m :: r) := by
      rw [e] at hp
      exact (List.perm_cons m).mp hp
    cases l' with
    | nil =>
      have := hp'.length_eq
      simp at this
    | cons m' l'' =>
      have hk1 : m ∈ m' :: l'' := hp'.mem_iff.mpr (by simp)
      have e2 : m' = m := least_first (r := r) (List.pairwise_cons.mp pw).2 hk1 (hle m' (hmem m' (by simp)))
      subst e2
      unfold twice
      rw [if_pos rfl]
theorem twice_least {ks : List Str} {m : Str} (hm : m ∈ ks) (hle : ∀ k ∈ ks, leS m k = true) : twice (sortS (ks ++ ks)) = some m := by
  have e : sortS (ks ++ ks) = sortS ((m :: ks.erase m) ++ (m :: ks.erase m)) := by
    have hp : (ks ++ ks).Perm ((m :: ks.erase m) ++ (m :: ks.erase m)) := (List.perm_cons_erase hm).append (List.perm_cons_erase hm)
    rw [sortS_is, sortS_is]
    exact List.Perm.eq_of_pairwise (le := fun a b => leS a b = true) (fun a b _ _ h1 h2 => leS_anti h1 h2) (List.pairwise_mergeSort (le := leS) leS_ord.1 (fun a b => Bool.or_eq_true_iff.mpr (leS_ord.2 a b)) _) (List.pairwise_mergeSort (le := leS) leS_ord.1 (fun a b => Bool.or_eq_true_iff.mpr (leS_ord.2 a b)) _) (((List.mergeSort_perm _ _).trans hp).trans (List.mergeSort_perm _ _).symm)
  rw [e]
  exact twice_double (r := ks.erase m) rfl fun k hk => hle k ((List.perm_cons_erase hm).mem_iff.mpr hk)
theorem keysOf_two (ps qs : List (Addr × Row)) : keysOf [ps, qs] = ps.map (fun x => x.2.k) ++ qs.map fun x => x.2.k := by simp [keysOf]
theorem keysOf_perm {rs rs' : List (List (Addr × Row))} (h : rs.flatten.Perm rs'.flatten) : (keysOf rs).Perm (keysOf rs') := by
  have e : ∀ r : List (List (Addr × Row)), keysOf r = r.flatten.map fun x => x.2.k := fun r => by
    unfold keysOf
    rw [List.flatMap_def, List.map_flatten]
  rw [e, e]
  exact h.map _
theorem keysOf_flat (r : List (List (Addr × Row))) : keysOf r = r.flatten.map fun x => x.2.k := by
  unfold keysOf
  rw [List.flatMap_def, List.map_flatten]

/-! ### keys that two lists share -/
def cnt (m : Str) (l : List Str) : Nat := l.countP fun z => decide (z = m)
theorem cnt_cons (m x : Str) (l : List Str) : cnt m (x :: l) = cnt m l + if x = m then 1 else 0 := by
  unfold cnt
  rw [List.countP_cons]
  by_cases h : x = m <;> simp [h]
theorem cnt_pos {m : Str} : ∀ {l : List Str}, 0 < cnt m l ↔ m ∈ l
  | [] => by simp [cnt]
  | x :: l => by
    rw [cnt_cons, List.mem_cons]
    have ih := cnt_pos (m := m) (l := l)
    by_cases h : x = m
    · rw [if_pos h]
      exact ⟨fun _ => .inl h.symm, fun _ => by omega⟩
    · rw [if_neg h]
      constructor
      · intro z; exact .inr (ih.mp (by omega))
      · rintro (z | z)
        · exact absurd z.symm h
        · have := ih.mpr z; omega
theorem cnt_nodup {m : Str} : ∀ {l : List Str}, l.Nodup → cnt m l ≤ 1
  | [], _ => by simp [cnt]
  | x :: l, h => by
    obtain ⟨h1, h2⟩ := List.nodup_cons.mp h
    have ih := cnt_nodup (m := m) h2
    rw [cnt_cons]
    by_cases e : x = m
    · subst e
      have : ¬ 0 < cnt x l := fun z => h1 (cnt_pos.mp z)
      rw [if_pos rfl]; omega
    · rw [if_neg e]; omega
theorem cnt_perm {m : Str} {l l' : List Str} (h : l.Perm l') : cnt m l = cnt m l' := h.countP_eq _
theorem cnt_app (m : Str) (l l' : List Str) : cnt m (l ++ l') = cnt m l + cnt m l' := by unfold cnt; rw [List.countP_append]
theorem twice_sorted : ∀ {l : List Str} {m : Str}, (l.Pairwise fun a b => leS a b = true) → 2 ≤ cnt m l → (∀ t, 2 ≤ cnt t l → leS m t = true) → twice l = some m
  | [], m, _, h, _ => by simp [cnt] at h
  | [x], m, _, h, _ => by
    rw [cnt_cons] at h
    have : cnt m [] = 0 := rfl
    split at h <;> omega
  | x :: y :: r, m, pw, h, hle => by
    obtain ⟨p1, p2⟩ := List.pairwise_cons.mp pw
    obtain ⟨p3, p4⟩ := List.pairwise_cons.mp p2
    unfold twice
    by_cases e : y = x
    · rw [if_pos e]
      subst e
      have h2 : 2 ≤ cnt y (y :: y :: r) := by rw [cnt_cons, cnt_cons, if_pos rfl]; omega
      have hm : m ∈ y :: y :: r := cnt_pos.mp (by omega)
      have a := hle y h2
      rcases List.mem_cons.mp hm with z | z
      · rw [z]
      · rw [leS_anti a (p1 m z)]
    · rw [if_neg e]
      have hxm : x ≠ m := fun z => by
        subst z
        have h3 : 1 ≤ cnt x (y :: r) := by
          rw [cnt_cons, if_pos rfl] at h; omega
        have hx : x ∈ y :: r := cnt_pos.mp h3
        rcases List.mem_cons.mp hx with z | z
        · exact e z.symm
        · exact e (leS_anti (p3 x z) (p1 y (by simp)))
      refine twice_sorted p2 ?_ fun t ht => hle t ?_
      · rw [cnt_cons, if_neg hxm] at h
        exact h
      · rw [cnt_cons]; omega
theorem twice_shared {ks ls : List Str} (hk : ks.Nodup) (hl : ls.Nodup) : twice (sortS (ks ++ ls)) = (sortS (ks.filter fun z => decide (z ∈ ls))).head? := by
  have hp := sortS_perm (ks ++ ls)
  have pw := sortS_pw (ks ++ ls)
  have hq := sortS_perm (ks.filter fun z => decide (z ∈ ls))
  have pq := sortS_pw (ks.filter fun z => decide (z ∈ ls))
  cases hS : sortS (ks.filter fun z => decide (z ∈ ls)) with
  | nil =>
    rw [hS] at hq
    have he : ks.filter (fun z => decide (z ∈ ls)) = [] := hq.symm.eq_nil
    refine twice_nodup (List.nodup_append.mpr ⟨hk, hl, fun x hx y hy e => ?_⟩)
    have := List.filter_eq_nil_iff.mp he x hx
    rw [e] at this
    exact this (decide_eq_true hy)
  | cons m S' =>
    rw [hS] at hq pq
    refine twice_sorted pw ?_ fun t ht => ?_
    · have hm := hq.mem_iff.mp (show m ∈ m :: S' by simp)
      obtain ⟨h1, h2⟩ := List.mem_filter.mp hm
      rw [cnt_perm hp, cnt_app]
      have a := cnt_pos.mpr h1
      have b := cnt_pos.mpr (of_decide_eq_true h2)
      omega
    · rw [cnt_perm hp, cnt_app] at ht
      have a := cnt_nodup (m := t) hk
      have b := cnt_nodup (m := t) hl
      have h1 : t ∈ ks := cnt_pos.mp (by omega)
      have h2 : t ∈ ls := cnt_pos.mp (by omega)
      have ht : t ∈ m :: S' := hq.mem_iff.mpr (List.mem_filter.mpr ⟨h1, decide_eq_true h2⟩)
      rcases List.mem_cons.mp ht with z | z
      · rw [z]
        rcases leS_ord.2 m m with h | h <;> exact h
      · exact (List.pairwise_cons.mp pq).1 t z
theorem eqv_rows {r r' : Row} (hr : RowS r) (h : r = r' ∨ r.k ≠ r'.k) : PyData.eqv (rowD r) (rowD r') = decide (r.k = r'.k) := by
  rcases h with h | h
  · subst h
    rw [SeqAt.eqv_refl _ (rowD_lay hr)]
    simp
  · rw [decide_eq_false h]
    have e : PyData.eqv (.str r.k) (.str r'.k) = false := by
      simp [PyData.eqv]
      exact h
    unfold rowD
    rw [PyData.eqv, PyData.eqvAll, e]; rfl

/-! ### data stays where nothing is written -/
section dp0
variable {K : PySem.W.Frag}
mutual
theorem dp_same {H H' : Hp} (k : Kp [] H H') : ∀ (d : PyData) {v : V}, Dp K H v d → Dp K H' v d
  | .none, _, .non => .non
  | .bool _, _, .bl b => .bl b
  | .int _, _, .int i => .int i
  | .str _, _, .str x => .str x
  | .list ds, _, .lst h r => .lst (k.seq nin0 h) (dp_sameAll k ds r)
  | .tuple ds, _, .tup h r => .tup (k.tup nin0 h) (dp_sameAll k ds r)
theorem dp_sameAll {H H' : Hp} (k : Kp [] H H') : ∀ (ds : List PyData) {vs : List V}, DpAll K H vs ds → DpAll K H' vs ds
  | [], _, .nil => .nil
  | d :: ds, _, .cons h r => .cons (dp_same k d h) (dp_sameAll k ds r)
end
end dp0

/-! ### the law -/
theorem TapeAt.kp0 {C : Addr} {H H' : Hp} {x l : Addr} {ns : List Int} {k : Nat} (h : TapeAt C H x l ns k) (kk : Kp [] H H') : TapeAt C H' x l ns k := let ⟨⟨dx, h1⟩, h2⟩ := h; ⟨⟨dx, kk.get nin0 h1⟩, kk.get nin0 h2⟩
theorem cut_takeA {xs : List V} (k : Nat) : cutV xs none (some (k : Int)) = xs.take k := by
  unfold cutV
  rw [HT.sIx_none, HT.sIx_nat, List.drop_zero, Nat.sub_zero]
  rcases Nat.le_total k xs.length with h | h
  · rw [Nat.min_eq_left h]
  · rw [Nat.min_eq_right h, List.take_length, List.take_of_length_le h]
theorem refs_take (ps : List (Addr × Row)) (k : Nat) : (refs ps).take k = refs (ps.take k) := by unfold refs; rw [List.map_take]
theorem refs_drop (ps : List (Addr × Row)) (k : Nat) : (refs ps).drop k = refs (ps.drop k) := by unfold refs; rw [List.map_drop]
theorem ok__law_sum {P : Program} {w : World} {K : PySem.W.Frag} {mg : Str → Option Value} {base : Heap} (T : T P K mg) : FnOk P w K mg base CX0 3 T.a__law_sum T.fd__law_sum ["rows"] (spLawSum K 50 10) := ok__law_sum_any T 50 10 (by decide)
theorem OptAt.kp {M : List Addr} {C : Addr} {H H' : Hp} {x p k : Addr} {size : Int} {ps : List Pt} (h : OptAt C H x p k size ps) (kk : Kp M H H') (n1 : x ∉ M) (n2 : p ∉ M) (n3 : k ∉ M) : OptAt C H' x p k size ps := let ⟨⟨dx, h1⟩, h2, h3⟩ := h; ⟨⟨dx, kk.get n1 h1⟩, kk.get n2 h2, kk.get n3 h3⟩
theorem keysR (ps : List Pt) : (rowsOf ps).map (fun x => x.2.k) = ps.map fun x => x.r.k := by unfold rowsOf; rw [List.map_map]; rfl
theorem sh_ref {s : Str} (h : PyData.strOk s = true) : SeqAt.shaped (refD s) = true ∧ PyData.canLay0 (refD s) = true := by
  have e : PyData.strOk ("refused" : Str) = true := by decide +kernel
  have hl : PyData.canLay0 (refD s) = true := by simp [refD, PyData.canLay0, PyData.canLayAll0, h, e]
  refine ⟨?_, hl⟩
  simp only [SeqAt.shaped, hl]
  simp [refD, PyData.depth, PyData.depthAll]
theorem sh_made {r : Row} {z : Int} {s : Bool} (h : RowS r) : SeqAt.shaped (madeD r z s) = true ∧ PyData.canLay0 (madeD r z s) = true := by
  have e : PyData.strOk ("refused" : Str) = true := by decide +kernel
  unfold madeD
  by_cases hz : 1 ≤ z ∧ z ≤ 20
  · rw [if_pos hz]
    cases s with
    | true =>
      have hl : PyData.canLay0 (.list [.tuple [rowD r, frD (r.w, 1)]]) = true := by simp [PyData.canLay0, PyData.canLayAll0, rowD_lay h, frD]
      rw [if_pos rfl]
      refine ⟨?_, hl⟩
      simp only [SeqAt.shaped, hl]
      simp [PyData.depth, PyData.depthAll, rowD_depth, frD]
    | false =>
      rw [if_neg Bool.false_ne_true]
      exact ⟨by decide +kernel, by decide +kernel⟩
  · rw [if_neg hz]
    have hl : PyData.canLay0 (.tuple [.str ("refused" : Str), .int z]) = true := by simp [PyData.canLay0, PyData.canLayAll0, e]
    refine ⟨?_, hl⟩
    simp only [SeqAt.shaped, hl]
    simp [PyData.depth, PyData.depthAll]
theorem neD {K : PySem.W.Frag} {H : Hp} {Q : VK} {v w : V} {D : PyData} (h1 : Dp K H v D) (h2 : Dp K H w D) (s : SeqAt.shaped D = true ∧ PyData.canLay0 D = true) (q : Q (.bl false) H) : rNeD K v w H Q :=
  ⟨D, D, h1, h2, s.1, s.1, by rw [SeqAt.eqv_refl D s.2]; exact q⟩
theorem eqD {K : PySem.W.Frag} {H : Hp} {Q : VK} {v w : V} {D : PyData} (h1 : Dp K H v D) (h2 : Dp K H w D) (s : SeqAt.shaped D = true ∧ PyData.canLay0 D = true) (q : Q (.bl true) H) : rEqD K v w H Q :=
  ⟨D, D, h1, h2, s.1, s.1, by rw [SeqAt.eqv_refl D s.2]; exact q⟩
theorem sh_ptsT' {ps : List Pt} (h : PtsS ps) : SeqAt.shaped (.tuple (ptsD ps)) = true ∧ PyData.canLay0 (.tuple (ptsD ps)) = true := ⟨sh_ptsT h, by rw [PyData.canLay0]; exact lay_pts h⟩
/-! ### lists of texts as data -/
theorem strs_lay : ∀ {l : List Str}, (∀ s ∈ l, PyData.strOk s = true) → PyData.canLayAll0 (l.map PyData.str) = true
  | [], _ => by simp [PyData.canLayAll0]
  | s :: r, h => by
    have ih := strs_lay (l := r) fun y hy => h y (by simp [hy])
    rw [List.map_cons, PyData.canLayAll0, ih]
    simp [PyData.canLay0, h s (by simp)]
theorem strs_depth : ∀ l : List Str, PyData.depthAll (l.map PyData.str) = 0
  | [] => rfl
  | s :: r => by
    rw [List.map_cons, PyData.depthAll, strs_depth r]
    simp [PyData.depth]
theorem strs_sh {l : List Str} (h : ∀ s ∈ l, PyData.strOk s = true) : SeqAt.shaped (.list (l.map PyData.str)) = true := by
  have := strs_depth l
  simp [SeqAt.shaped, PyData.canLay0, PyData.depth, strs_lay h, this]
theorem dpStrs {K : PySem.W.Frag} {H : Hp} : ∀ l : List Str, DpAll K H (l.map V.str) (l.map PyData.str)
  | [] => .nil
  | s :: r => .cons (.str s) (dpStrs r)
theorem neNilS {K : PySem.W.Frag} {H : Hp} {Q : VK} {a b : Addr} {l : List Str} (h1 : H a = some (.lst (l.map V.str))) (h2 : H b = some (.lst [])) (s : ∀ x ∈ l, PyData.strOk x = true) (q : Q (.bl (!l.isEmpty)) H) : rNeD K (.ref a) (.ref b) H Q :=
  ⟨_, _, .lst (lstL h1) (dpStrs l), .lst (ds := []) (lstL h2) .nil, strs_sh s, shNil, by
    rw [PyData.eqv, eqvAll_nil]
    have e : (l.map PyData.str).isEmpty = l.isEmpty := by cases l <;> rfl
    rw [e]; exact q⟩
theorem sortedStrs {K : PySem.W.Frag} {H : Hp} {Q : VK} {a : Addr} {ks : List Str} (hS : SqL K H a (ks.map V.str)) (q : ∀ p H1, H p = none → Kp [] H H1 → H1 p = some (.lst ((sortS ks).map V.str)) → Q (.ref p) H1) : RL.rSortedD K [.ref a] H Q := by
  refine ⟨a, strP ks, rfl, by unfold strP; rw [List.map_map]; exact hS, ?_, ?_, ?_, ?_, fun p np => ?_⟩
  · intro b hb
    obtain ⟨s, hs, rfl⟩ := List.mem_map.mp hb
    exact .str s
  · intro d hd d' hd'
    obtain ⟨b, hb, rfl⟩ := List.mem_map.mp hd
    obtain ⟨s, hs, rfl⟩ := List.mem_map.mp hb
    obtain ⟨b', hb', rfl⟩ := List.mem_map.mp hd'
    obtain ⟨s', hs', rfl⟩ := List.mem_map.mp hb'
    rfl
  · refine .inr fun d hd => ?_
    obtain ⟨b, hb, rfl⟩ := List.mem_map.mp hd
    obtain ⟨s, hs, rfl⟩ := List.mem_map.mp hb
    exact ⟨fun z => (by cases z), fun xs z => (by cases z)⟩
  · intro b hb
    obtain ⟨s, hs, rfl⟩ := List.mem_map.mp hb
    show (PyData.str s).depth ≤ 60
    simp [PyData.depth]
  · rw [sortS_eq]
    exact q p _ np (Kp.new np) upd_same
def ksP (ps : List Pt) : List Str := ps.map fun x => x.r.k
theorem shared_snoc {L : List Str} {p1 : List Pt} {i : Nat} {z : Pt} (hz : p1[i]? = some z) : (ksP (p1.take (i + 1))).filter (fun w => decide (w ∈ L)) = (ksP (p1.take i)).filter (fun w => decide (w ∈ L)) ++ (if z.r.k ∈ L then [z.r.k] else []) := by
  have e : ksP (p1.take (i + 1)) = ksP (p1.take i) ++ [z.r.k] := by
    unfold ksP
    rw [List.take_add_one, hz, List.map_append]; rfl
  rw [e, List.filter_append]
  by_cases h : z.r.k ∈ L
  · rw [if_pos h]; simp [h]
  · rw [if_neg h]; simp [h]
theorem any_rows {z : Pt} {p2 : List Pt} (hS : PtsS p2) (h : ∀ y ∈ p2, y.r = z.r ∨ y.r.k ≠ z.r.k) : ((rowsD (rowsOf p2)).any fun w => PyData.eqv w (rowD z.r)) = decide (z.r.k ∈ ksP p2) := by
  induction p2 with
  | nil => simp [rowsD, rowsOf, ksP]
  | cons y r ih =>
    have ih := ih (fun x hx => hS x (by simp [hx])) fun x hx => h x (by simp [hx])
    show (PyData.eqv (rowD y.r) (rowD z.r) || (rowsD (rowsOf r)).any fun w => PyData.eqv w (rowD z.r)) = _
    rw [ih, eqv_rows (hS y (by simp)) (h y (by simp))]
    unfold ksP
    rw [List.map_cons]
    by_cases e : y.r.k = z.r.k
    · rw [decide_eq_true e, decide_eq_true (show z.r.k ∈ y.r.k :: r.map fun x => x.r.k by rw [e]; simp)]; rfl
    · rw [decide_eq_false e, Bool.false_or]
      by_cases m : z.r.k ∈ r.map fun x => x.r.k
      · rw [decide_eq_true m, decide_eq_true (List.mem_cons_of_mem _ m)]
      · rw [decide_eq_false m, decide_eq_false fun w => (List.mem_cons.mp w).elim (fun q => e q.symm) m]
theorem rowD_sh {r : Row} (h : RowS r) : SeqAt.shaped (rowD r) = true := by simp [SeqAt.shaped, rowD_lay h, rowD_depth]
/-- what the law waits for -/
def wD1 (l : List Str) (ps : List Pt) : PyData := match l with
  | [] => .tuple [.int 8, .tuple (ptsD ps)]
  | m :: _ => refD m
theorem wD1_sh {l : List Str} {ps : List Pt} (hl : ∀ s ∈ l, PyData.strOk s = true) (h : PtsS ps) : SeqAt.shaped (wD1 l ps) = true ∧ PyData.canLay0 (wD1 l ps) = true := by
  cases l with
  | nil => exact sh_view h
  | cons m r => exact sh_ref (hl m (by simp))

def spLaw (K : PySem.W.Frag) : Sp := fun vs H Q _ => ∃ (a : Addr) (ns : List Int), vs = [.ref a] ∧ SqL K H a (ns.map V.int) ∧ ns.length ≤ 63 ∧ (∀ z ∈ ns, Builtin.Int.intBits z ≤ 1048576) ∧ ∀ H', Q (.bl true) H'
set_option maxHeartbeats 4000000 in
theorem ok_law {P : Program} {w : World} {K : PySem.W.Frag} {mg : Str → Option Value} {base : Heap} (T : T P K mg) : FnOk P w K mg base CX0 7 T.a_law T.fd_law ["script"] (spLaw K) := by
  refine T.F_law.ok sc_law (fun vs H Q E h => ?_) (fun cdv A outer s H vs Q E hr h => ?_)
  · obtain ⟨a, ns, rfl, _⟩ := h
    rfl
  · obtain ⟨c, cs, rfl, hS, hlen, hb, q⟩ := h
    refine ⟨_, (pss_cons (ps_set (i := 1) sc_law.nd rfl (by first | exact Or.inl rfl | exact Or.inr rfl) (pe_call (ok__law_numbers T) (hr.mono (by decide)) (by rfl) T.g__law_numbers T.F__law_numbers.kp T.b__law_numbers .nil pass0 (pa_cons (pv 0) (pa_cons pe_int pa_nil))))
      (pss_cons (ps_set (i := 2) sc_law.nd rfl (by first | exact Or.inl rfl | exact Or.inr rfl) (pe_call (ok__law_items T) (hr.mono (by decide)) (by rfl) T.g__law_items T.F__law_items.kp T.b__law_items .nil pass0 (pa_cons (pv 1) (pa_cons pe_int pa_nil))))
      (pss_cons (ps_set (i := 3) sc_law.nd rfl (by first | exact Or.inl rfl | exact Or.inr rfl) (pe_op op_sub (pe_call (ok__law_take T) (hr.mono (by decide)) (by rfl) T.g__law_take T.F__law_take.kp T.b__law_take .nil pass0 (pa_cons (pv 1) (pa_cons pe_int pa_nil))) pe_int))
      (pss_cons (ps_set (i := 4) sc_law.nd rfl (by first | exact Or.inl rfl | exact Or.inr rfl) (pe_lst (pa_cons (pe_lst pa_nil) (pa_cons (pe_lst (pa_cons (pe_tup (pa_cons (pe_ix ix_list (pv 2) pe_int (fun _ _ => rfl)) (pa_cons (pe_tup (pa_cons (pe_ix ix_tup (pe_ix ix_list (pv 2) pe_int (fun _ _ => rfl)) pe_int (fun _ _ => rfl)) (pa_cons pe_int pa_nil))) pa_nil))) pa_nil)) pa_nil))))
      (pss_cons (ps_for PassesOwn.never rfl (pi_range1 (by rfl) T.z_range (pa_cons pe_int pa_nil)) (pg_name (i := 5) sc_law.nd rfl (by first | exact Or.inl rfl | exact Or.inr rfl)) (Z.pss_consJ (ps_if (pt_not (pt_chain op_le op_le pe_int (pv 3) pe_int)) (pss_one (ps_asg (pe_tup (pa_cons pe_str (pa_cons (pv 3) pa_nil))) (pg_sub (pv 4) (pv 5) set_list))) pss_nil)
      (pss_one (ps_if (pt_cmpR (op_neD hr.units) (pe_call (ok__law_made T) (hr.mono (by decide)) (by rfl) T.g__law_made T.F__law_made.kp T.b__law_made .nil pass0 (pa_cons (pe_ix ix_list (pv 2) pe_int (fun _ _ => rfl)) (pa_cons (pv 3) (pa_cons (pe_cmpR op_eq (pv 5) pe_int (nomark _)) pa_nil)))) (pe_ix ix_list (pv 4) (pv 5) (fun _ _ => rfl)) (nomark _)) (pss_one (ps_ret pe_bl)) pss_nil))))
      (pss_cons (ps_set (i := 6) sc_law.nd rfl (by first | exact Or.inl rfl | exact Or.inr rfl) (pe_call (ok__law_parts T) (hr.mono (by decide)) (by rfl) T.g__law_parts T.F__law_parts.kp T.b__law_parts .nil pass0 (pa_cons (pv 1) (pa_cons (pe_slice sl_list (pv 2) po_none (po_some (pe_call (ok__law_take T) (hr.mono (by decide)) (by rfl) T.g__law_take T.F__law_take.kp T.b__law_take .nil pass0 (pa_cons (pv 1) (pa_cons pe_int pa_nil))))) pa_nil))))
      (pss_cons (ps_set (i := 7) sc_law.nd rfl (by first | exact Or.inl rfl | exact Or.inr rfl) (pe_call (ok__law_parts T) (hr.mono (by decide)) (by rfl) T.g__law_parts T.F__law_parts.kp T.b__law_parts .nil pass0 (pa_cons (pv 1) (pa_cons (pe_slice sl_list (pe_slice sl_list (pv 2) (po_some (pe_op op_add pe_int (pe_call (ok__law_take T) (hr.mono (by decide)) (by rfl) T.g__law_take T.F__law_take.kp T.b__law_take .nil pass0 (pa_cons (pv 1) (pa_cons pe_int pa_nil))))) po_none) po_none (po_some (pe_call (ok__law_take T) (hr.mono (by decide)) (by rfl) T.g__law_take T.F__law_take.kp T.b__law_take .nil pass0 (pa_cons (pv 1) (pa_cons pe_int pa_nil))))) pa_nil))))
      (pss_cons (ps_set (i := 8) sc_law.nd rfl (by first | exact Or.inl rfl | exact Or.inr rfl) (pe_callTy c_list (by rfl) T.z_list (by decide +kernel) (pa_cons (pv 6) pa_nil)))
      (pss_cons (ps_set (i := 9) sc_law.nd rfl (by first | exact Or.inl rfl | exact Or.inr rfl) (pe_make T.mk_Optimal (ok_Optimal_init T) (hr.mono (by decide)) (by rfl) T.mg_Optimal T.b_Optimal_init .nil pass0 (pa_cons pe_int (pa_cons (pv 8) pa_nil))))
      (pss_cons (ps_expr (pe_bm PySem.F.plainAttrs_list PySem.F.slot_list_append PySem.F.type_list_append mt_append (pv 8) (pa_cons pe_str pa_nil)))
      (pss_cons (ps_set (i := 10) sc_law.nd rfl (by first | exact Or.inl rfl | exact Or.inr rfl) (pe_make T.mk_Optimal (ok_Optimal_init T) (hr.mono (by decide)) (by rfl) T.mg_Optimal T.b_Optimal_init .nil pass0 (pa_cons (pe_ix ix_list (pe_lst (pa_cons pe_int (pa_cons pe_int (pa_cons pe_int (pa_cons pe_int pa_nil))))) (pe_call (ok__law_take T) (hr.mono (by decide)) (by rfl) T.g__law_take T.F__law_take.kp T.b__law_take .nil pass0 (pa_cons (pv 1) (pa_cons pe_int pa_nil))) (fun _ _ => rfl)) (pa_cons (pv 7) pa_nil))))
      (pss_cons (ps_if (PW.pt (pw_or (pt_cmpR op_ne (pe_fld (pv 9) rfl) pe_int (nomark _)) (pw_or (pt_cmpR (op_neD hr.units) (pe_fld (pv 9) rfl) (pv 6) (nomark _)) (pw_or1 (pt_cmpR (op_neD hr.units) (pe_fld (pv 9) rfl) (pe_lc (own := [("pair", 14)]) (g := gName 14) rfl sc_law.nd (pi_list (pv 6)) (blkOk_by (own := [("pair", 14)]) (N := N_law) (sc := defScope s_law) (by decide +kernel)) (fun _ _ _ _ _ => (pg_name (i := 14) sc_law.nd rfl (by first | exact Or.inl rfl | exact Or.inr rfl))) (fun _ _ _ _ _ => pts_nil) (fun _ _ _ _ _ => (pe_ix (ix_tup : IxR _ (rIxT K)) (pv 14) pe_int (fun _ _ => rfl)))) (nomark _)))))) (pss_one (ps_ret pe_bl)) pss_nil)
      (pss_cons (ps_if (PW.pt (pw_or (pt_cmpR (op_neD hr.units) (pe_meth0 (pv 9) T.cl_Optimal T.me_Optimal_view (ok_Optimal_view T) (hr.mono (by decide)) T.b_Optimal_view .nil pass0) (pe_tup (pa_cons pe_int (pa_cons (pe_callTy c_tuple (by rfl) T.z_tuple (by decide +kernel) (pa_cons (pv 6) pa_nil)) pa_nil))) (nomark _)) (pw_or1 (pt_cmpR (op_neD hr.units) (pe_meth0 (pv 9) T.cl_Optimal T.me_Optimal_adjusted_sum (ok_Optimal_adjusted_sum T) (hr.mono (by decide)) T.b_Optimal_adjusted_sum .nil pass0) (pe_call (ok__law_sum T) (hr.mono (by decide)) (by rfl) T.g__law_sum T.F__law_sum.kp T.b__law_sum .nil pass0 (pa_cons (pe_lc (own := [("pair", 14)]) (g := gName 14) rfl sc_law.nd (pi_list (pv 6)) (blkOk_by (own := [("pair", 14)]) (N := N_law) (sc := defScope s_law) (by decide +kernel)) (fun _ _ _ _ _ => (pg_name (i := 14) sc_law.nd rfl (by first | exact Or.inl rfl | exact Or.inr rfl))) (fun _ _ _ _ _ => pts_nil) (fun _ _ _ _ _ => (pe_ix (ix_tup : IxR _ (rIxT K)) (pv 14) pe_int (fun _ _ => rfl)))) pa_nil)) (nomark _))))) (pss_one (ps_ret pe_bl)) pss_nil)
      (pss_cons (ps_set (i := 11) sc_law.nd rfl (by first | exact Or.inl rfl | exact Or.inr rfl) (pe_callB ((RL.cr_sortedD hr.units) : CallR _ _ (RL.rSortedD K)) (by rfl) T.z_sorted (by decide +kernel) (pa_cons (pe_lc (own := [("pair", 14)]) (g := gName 14) rfl sc_law.nd (pi_list (pv 6)) (blkOk_by (own := [("pair", 14)]) (N := N_law) (sc := defScope s_law) (by decide +kernel)) (fun _ _ _ _ _ => (pg_name (i := 14) sc_law.nd rfl (by first | exact Or.inl rfl | exact Or.inr rfl))) (fun _ _ _ _ _ => (pts_one (pt_cmpR (op_inD (Z.u65 hr) : OpR _ _ (rInD K)) (pe_ix (ix_tup : IxR _ (rIxT K)) (pv 14) pe_int (fun _ _ => rfl)) (pe_lc (own := [("found", 15)]) (g := gName 15) rfl sc_law.nd ((pi_list (pv 7)) : PI _ _ _ (iList K _)) (blkOk_by (own := [("found", 15)]) (N := N_law) (sc := ({ kind := .function, names := [(".0", .local), ("pair", .local), ("second", .cell)], isGenerator := false, isCoroutine := false } : Scope)) (by decide +kernel)) (fun _ _ _ _ _ => (pg_name (i := 15) sc_law.nd rfl (by first | exact Or.inl rfl | exact Or.inr rfl))) (fun _ _ _ _ _ => pts_nil) (fun _ _ _ _ _ => (pe_ix (ix_tup : IxR _ (rIxT K)) (pv 15) pe_int (fun _ _ => rfl)))) rfl))) (fun _ _ _ _ _ => (pe_ix (ix_tup : IxR _ (rIxT K)) (pe_ix (ix_tup : IxR _ (rIxT K)) (pv 14) pe_int (fun _ _ => rfl)) pe_int (fun _ _ => rfl)))) pa_nil)))
      (pss_cons (ps_set (i := 12) sc_law.nd rfl (by first | exact Or.inl rfl | exact Or.inr rfl) (pe_tup (pa_cons pe_int (pa_cons (pe_callTy c_tuple (by rfl) T.z_tuple (by decide +kernel) (pa_cons (pe_callB ((RL.cr_sortedD hr.units) : CallR _ _ (RL.rSortedD K)) (by rfl) T.z_sorted (by decide +kernel) (pa_cons (pe_op op_cat (pv 6) (pv 7)) pa_nil)) pa_nil)) pa_nil))))
      (Z.pss_consJ (ps_if (pt_cmpR (op_neD hr.units) (pv 11) (pe_lst pa_nil) (nomark _)) (pss_one (ps_set (i := 12) sc_law.nd rfl (by first | exact Or.inl rfl | exact Or.inr rfl) (pe_tup (pa_cons pe_str (pa_cons (pe_ix ix_list (pv 11) pe_int (fun _ _ => rfl)) pa_nil))))) pss_nil)
      (Z.pss_consJ (ps_if (pt_cmpR op_ne (pe_fld (pv 10) rfl) pe_int (nomark _)) (pss_one (ps_set (i := 12) sc_law.nd rfl (by first | exact Or.inl rfl | exact Or.inr rfl) (pe_tup (pa_cons pe_str (pa_cons pe_str pa_nil))))) pss_nil)
      (pss_cons (ps_set (i := 13) sc_law.nd rfl (by first | exact Or.inl rfl | exact Or.inr rfl) (pe_make T.mk_Tape (ok_Tape_init T) (hr.mono (by decide)) (by rfl) T.mg_Tape T.b_Tape_init .nil pass0 (pa_cons (pe_lst (pa_cons pe_int (pa_cons pe_int pa_nil))) pa_nil)))
      (pss_cons (ps_if (PW.pt (pw_or (pt_cmpR (op_neD hr.units) (pe_call (ok__law_merged T) (hr.mono (by decide)) (by rfl) T.g__law_merged T.F__law_merged.kp T.b__law_merged .nil pass0 (pa_cons (pv 9) (pa_cons (pv 10) (pa_cons (pv 13) pa_nil)))) (pv 12) (nomark _)) (pw_or1 (pt_cmpR op_ne (pe_meth0 (pv 13) T.cl_Tape T.me_Tape_used (ok_Tape_used T) (hr.mono (by decide)) T.b_Tape_used .nil pass0) pe_int (nomark _))))) (pss_one (ps_ret pe_bl)) pss_nil)
      (pss_cons (ps_if (PW.pt (pw_or (pt_cmpR (op_neD hr.units) (pe_call (ok__law_merged T) (hr.mono (by decide)) (by rfl) T.g__law_merged T.F__law_merged.kp T.b__law_merged .nil pass0 (pa_cons (pv 9) (pa_cons (pe_make T.mk_Uniform (ok_Uniform_init T) (hr.mono (by decide)) (by rfl) T.mg_Uniform T.b_Uniform_init .nil pass0 (pa_cons pe_int (pa_cons pe_int (pa_cons (pe_lst (pa_cons (pe_ix ix_list (pv 2) pe_int (fun _ _ => rfl)) pa_nil)) pa_nil)))) (pa_cons (pv 13) pa_nil)))) (pe_tup (pa_cons pe_str (pa_cons pe_str pa_nil))) (nomark _)) (pw_or1 (pt_cmpR op_ne (pe_meth0 (pv 13) T.cl_Tape T.me_Tape_used (ok_Tape_used T) (hr.mono (by decide)) T.b_Tape_used .nil pass0) pe_int (nomark _))))) (pss_one (ps_ret pe_bl)) pss_nil)
      (pss_one (ps_ret (pe_and (pe_cmpR (op_eqD hr.units) (pe_meth0 (pv 9) T.cl_Optimal T.me_Optimal_view (ok_Optimal_view T) (hr.mono (by decide)) T.b_Optimal_view .nil pass0) (pe_tup (pa_cons pe_int (pa_cons (pe_callTy c_tuple (by rfl) T.z_tuple (by decide +kernel) (pa_cons (pv 6) pa_nil)) pa_nil))) (nomark _)) (pe_one (pe_cmpR (op_eqD hr.units) (pe_ix ix_tup (pe_meth0 (pv 10) T.cl_Optimal T.me_Optimal_view (ok_Optimal_view T) (hr.mono (by decide)) T.b_Optimal_view .nil pass0) pe_int (fun _ _ => rfl)) (pe_callTy c_tuple (by rfl) T.z_tuple (by decide +kernel) (pa_cons (pv 7) pa_nil)) (nomark _)))))))))))))))))))))))))), ?_⟩
    walk_at "z0"
    walk_at "z"
    refine ⟨c, cs, 90, rfl, hS, by decide, hb, fun a H1 na k1 d1 => ?_⟩
    walk_at "z"
    refine ⟨a, 7, rfl, d1, by decide, fun H2 p ps np I => ?_⟩
    have hpl : ps.length = 7 := I.len
    have hpa : p ≠ a := (d1.ne np).symm
    have hps : ∀ x ∈ ps, RowS x.2 ∧ 1 ≤ x.2.w ∧ x.2.w ≤ 1000 := fun x hx => by
      obtain ⟨j, hj, he⟩ := List.getElem_of_mem hx
      have h7 := I.ok j x (by rw [List.getElem?_eq_getElem hj, he])
      exact ⟨h7.s (by omega), h7.w0, h7.w1⟩
    have hsame : ∀ x ∈ ps, ∀ y ∈ ps, x.2.k = y.2.k → x = y := fun x hx y hy e => by
      obtain ⟨i, hi, hei⟩ := List.getElem_of_mem hx
      obtain ⟨j, hj, hej⟩ := List.getElem_of_mem hy
      have h1 := (I.ok i x (by rw [List.getElem?_eq_getElem hi, hei])).k
      have h2 := (I.ok j y (by rw [List.getElem?_eq_getElem hj, hej])).k
      rw [h1, h2] at e
      have := key7_inj (by omega) (by omega) e
      subst this
      rw [← hei, ← hej]
    have hnd : (ps.map fun x => x.2.k).Nodup := by
      refine List.pairwise_iff_getElem.mpr fun i j hi hj hij e => ?_
      rw [List.length_map] at hi hj
      rw [List.getElem_map, List.getElem_map] at e
      have h1 := (I.ok i _ (List.getElem?_eq_getElem hi)).k
      have h2 := (I.ok j _ (List.getElem?_eq_getElem hj)).k
      rw [h1, h2] at e
      have := key7_inj (by omega) (by omega) e
      omega
    walk_at "z"
    refine ⟨a, 24, rfl, I.dr, by decide, by decide, fun H3 z0 hz0 hz1 k3 d3 => ?_⟩
    have e3 := k3.get (nin1 hpa) I.at_
    have R3 := I.rows.kpd k3 I.dr
    obtain ⟨x0, hx0⟩ : ∃ x, ps[0]? = some x := ⟨_, List.getElem?_eq_getElem (by omega)⟩
    have hx0m := List.mem_of_getElem? hx0
    obtain ⟨x6, hx6⟩ : ∃ x, ps[6]? = some x := ⟨_, List.getElem?_eq_getElem (by omega)⟩
    have hx6m := List.mem_of_getElem? hx6
    walk_at "z"
    generalize hzz : z0 - 1 = z
    refine Z.lstK (fun L0 H4 n4 k4 e4 => ?_)
    walk_at "z"
    refine Z.ixL (lstL (k4.get nin0 e3)) (atI_nat (j := 0) (refs_at hx0)) ?_
    walk_at "z"
    refine Z.ixL (lstL (k4.get nin0 e3)) (atI_nat (j := 0) (refs_at hx0)) ?_
    walk_at "z"
    refine RowAt.w2 ((R3.kp0 k4) x0 hx0m) ?_
    walk_at "z"
    refine Z.tupK (fun c0 H5 n5 k5 e5 => ?_)
    walk_at "z"
    refine Z.tupK (fun t0 H6 n6 k6 e6 => ?_)
    walk_at "z"
    refine Z.lstK (fun L1 H7 n7 k7 e7 => ?_)
    walk_at "z"
    refine Z.lstK (fun DU H8 n8 k8 e8 => ?_)
    have k48 := (k4.trans k5).trans ((k6.trans k7).trans k8)
    have d8 := d3.kp0 k48
    have e8p := k48.get nin0 e3
    have R8 := R3.kp0 k48
    have hDUp : DU ≠ p := fun y => by rw [y, ((k4.trans k5).trans (k6.trans k7)).get nin0 e3] at n8; cases n8
    have hDUa : DU ≠ a := ((d3.kp0 ((k4.trans k5).trans (k6.trans k7))).ne n8).symm
    have nDU0 : L0 ≠ DU := ne_of_none (((k5.trans k6).trans k7).get nin0 e4) n8
    have nDU1 : L1 ≠ DU := ne_of_none e7 n8
    have nDUt : t0 ≠ DU := ne_of_none (k7.get nin0 e6) n8
    have nDUc : c0 ≠ DU := ne_of_none ((k6.trans k7).get nin0 e5) n8
    have hDp0 : ∀ G, Kp [DU] H8 G → Dp K G (.ref L0) (.list []) := fun G kG => .lst (lstL (kG.get (nin1 nDU0) (((k5.trans k6).trans (k7.trans k8)).get nin0 e4))) .nil
    have hDp1 : ∀ G, Kp [DU] H8 G → Dp K G (.ref L1) (.list [.tuple [rowD x0.2, frD (x0.2.w, 1)]]) := fun G kG => .lst (lstL (kG.get (nin1 nDU1) (k8.get nin0 e7))) (.cons (.tup (tupT (kG.get (nin1 nDUt) ((k7.trans k8).get nin0 e6))) (.cons (dpRow ((R8.kp1 kG e8) x0 hx0m)) (.cons (.tup (tupT (kG.get (nin1 nDUc) (((k6.trans k7).trans k8).get nin0 e5))) (.cons (.int _) (.cons (.int _) .nil))) .nil))) .nil)
    walk_at "z"
    refine Z.forr 2 rfl (by omega) (fun i σ' G => ∃ y5 v0 v1, σ' = [some (.ref c), some (.ref a), some (.ref p), some (.int z), some (.ref DU), y5, none, none, none, none, none, none, none, none, none, none] ∧ Kp [DU] H8 G ∧ G DU = some (.lst [v0, v1]) ∧ (i < 1 → v0 = .ref L0) ∧ (i < 2 → v1 = .ref L1)) ?_ ?_ ?_
    · exact ⟨none, _, _, rfl, Kp.refl _, e8, fun _ => rfl, fun _ => rfl⟩
    · rintro i σ' G hi ⟨y5, v0, v1, rfl, kG, eG, w0, w1⟩
      have hDi : (1 ≤ z ∧ z ≤ 20) → ∀ G', Kp [DU] H8 G' → ∃ v, [v0, v1][i]? = some v ∧ Dp K G' v (madeD x0.2 z (decide ((i : Int) = 1))) := fun hz G' kG' => by
        match i, hi, w0, w1 with
        | 0, _, w0, _ =>
          refine ⟨v0, rfl, ?_⟩
          rw [w0 (by decide)]
          unfold madeD
          rw [if_pos hz]
          exact hDp0 G' kG'
        | 1, _, _, w1 =>
          refine ⟨v1, rfl, ?_⟩
          rw [w1 (by decide)]
          unfold madeD
          rw [if_pos hz]
          exact hDp1 G' kG'
      walk_at "z"
      refine Z.seqJ (fun σ' G' => ∃ u0 u1 vi, σ' = [some (.ref c), some (.ref a), some (.ref p), some (.int z), some (.ref DU), some (.int (i : Int)), none, none, none, none, none, none, none, none, none, none] ∧ Kp [DU] H8 G' ∧ G' DU = some (.lst [u0, u1]) ∧ (i + 1 < 2 → u1 = .ref L1) ∧ [u0, u1][i]? = some vi ∧ Dp K G' vi (madeD x0.2 z (decide ((i : Int) = 1)))) ?_ ?_
      · rintro σ' G' ⟨u0, u1, vi, rfl, kG', eG', w1', hvi, hDv⟩
        have e8p' := kG'.get (nin1 hDUp.symm) e8p
        have R8' := R8.kp1 kG' e8
        walk_at "z"
        refine Z.ixL (lstL e8p') (atI_nat (j := 0) (refs_at hx0)) ?_
        walk_at "z"
        refine ⟨x0.1, x0.2, z, decide ((i : Int) = 1), rfl, R8' x0 hx0m, by omega, by omega, fun G2 v kk hv => ?_⟩
        walk_at "z"
        refine Z.ixL (lstL (kk.get nin0 eG')) (atI_nat hvi) ?_
        refine neD hv (dp_same kk _ hDv) (sh_made (hps x0 hx0m).1) ?_
        walk_at "z"
        exact ⟨_, u0, u1, rfl, kG'.trans (kk.sub (by simp)), kk.get nin0 eG', fun h => absurd h (by omega), w1'⟩
      · intro N jn
        have bad : ¬ (1 ≤ z ∧ z ≤ 20) → ∀ (tt : Addr) (G1 : Hp), Kp [] G G1 → G1 tt = some (.tup [.str ("refused" : Str), .int z]) → N [some (.ref c), some (.ref a), some (.ref p), some (.int z), some (.ref DU), some (.int (i : Int)), none, none, none, none, none, none, none, none, none, none] (upd G1 DU (.lst ([v0, v1].set i (.ref tt)))) := fun hz tt G1 j1 e1 => by
          have htD : tt ≠ DU := fun y => by rw [y, j1.get nin0 eG] at e1; cases e1
          have hD : Dp K (upd G1 DU (.lst ([v0, v1].set i (.ref tt)))) (.ref tt) (madeD x0.2 z (decide ((i : Int) = 1))) := by
            unfold madeD
            rw [if_neg hz]
            exact .tup (tupT ((upd_ne htD).trans e1)) (.cons (.str _) (.cons (.int _) .nil))
          match i, hi, w1, jn, hD with
          | 0, _, w1, jn, hD => exact jn _ _ ⟨.ref tt, v1, .ref tt, rfl, (kG.trans (j1.sub (by simp))).trans (Kp.put (by simp)), upd_same, fun _ => w1 (by decide), rfl, hD⟩
          | 1, _, _, jn, hD => exact jn _ _ ⟨v0, .ref tt, .ref tt, rfl, (kG.trans (j1.sub (by simp))).trans (Kp.put (by simp)), upd_same, fun h => absurd h (by decide), rfl, hD⟩
        walk_at "z"
        refine Z.ite (fun h1 => ?_) (fun h1 => ?_)
        · walk_at "z"
          refine Z.iteN (fun h2 => ?_) (fun h2 => ?_)
          · walk_at "z"
            refine Z.tupK (fun tt G1 nt j1 e1 => ?_)
            walk_at "z"
            refine Z.setL (j1.get nin0 eG) (ixN_nat (show i < 2 from hi)) ?_
            exact bad (fun h => h2 h.2) tt G1 j1 e1
          · walk_at "z"
            obtain ⟨v, hv, hD⟩ := hDi ⟨h1, h2⟩ G kG
            exact jn _ _ ⟨v0, v1, v, rfl, kG, eG, fun h => w1 (by omega), hv, hD⟩
        · refine ⟨_, rfl, ?_⟩
          refine Z.yesNB ?_
          walk_at "z"
          refine Z.tupK (fun tt G1 nt j1 e1 => ?_)
          walk_at "z"
          refine Z.setL (j1.get nin0 eG) (ixN_nat (show i < 2 from hi)) ?_
          exact bad (fun h => h1 h.1) tt G1 j1 e1
    · rintro σ' G ⟨y5, v0, v1, rfl, kG, eG, _, _⟩
      have e8p' := kG.get (nin1 hDUp.symm) e8p
      have R9 : RowsAt G ps := R8.kp1 kG e8
      have d9 : DrawsAt G a := d8.kp kG (nin1 hDUa.symm)
      walk_at "z"
      refine ⟨a, 5, rfl, d9, by decide, by decide, fun G1 m0 hm0 hm1 j1 d10 => ?_⟩
      obtain ⟨m, rfl⟩ : ∃ m : Nat, m0 = (m : Int) := ⟨m0.toNat, by omega⟩
      refine ⟨_, rfl, ?_⟩
      have ep1 := j1.get (nin1 hpa) e8p'
      refine Z.slL (lstL ep1) (fun f G2 nf j2 e2 => ?_)
      rw [cut_takeA, refs_take] at e2
      have R2 := (R9.kpd j1 d9).kp0 j2
      walk_at "z"
      refine ⟨a, f, ps.take m, rfl, d10.kp0 j2, e2, fun x hx => R2 x (List.mem_of_mem_take hx), by rw [List.length_take]; omega, fun x hx => (hps x (List.mem_of_mem_take hx)).2, fun G3 F1 p1 nF1 j3 d11 eF1 P1 ok1 => ?_⟩
      have ep3 := j3.get (nin1 hpa) (j2.get nin0 ep1)
      have hF1a : F1 ≠ a := ((d10.kp0 j2).ne nF1).symm
      walk_at "z"
      refine ⟨a, 3, rfl, d11, by decide, by decide, fun G4 b0 hb0 hb1 j4 d12 => ?_⟩
      obtain ⟨bb, hbb⟩ : ∃ m : Nat, 2 + b0 = (m : Int) := ⟨(2 + b0).toNat, by omega⟩
      walk_at "z"
      rw [hbb]
      have ep4 := j4.get (nin1 hpa) ep3
      refine Z.slL (lstL ep4) (fun g G5 ng j5 e5 => ?_)
      rw [Z.cut_drop (by rw [refs_len]; omega), refs_drop] at e5
      walk_at "z"
      refine ⟨a, 4, rfl, d12.kp0 j5, by decide, by decide, fun G6 n0 hn0 hn1 j6 d13 => ?_⟩
      obtain ⟨n, rfl⟩ : ∃ m : Nat, n0 = (m : Int) := ⟨n0.toNat, by omega⟩
      refine ⟨_, rfl, ?_⟩
      have hga : g ≠ a := (d12.ne ng).symm
      refine Z.slL (lstL (j6.get (nin1 hga) e5)) (fun h G7 nh j7 e7 => ?_)
      rw [cut_takeA, refs_take] at e7
      have kE : Kp [a] G3 G7 := j4.trans ((j5.sub (by simp)).trans (j6.trans (j7.sub (by simp))))
      have R7 : RowsAt G7 ps := (R2.kpd j3 (d10.kp0 j2)).kpd kE d11
      have hm2 : ∀ x ∈ (ps.drop bb).take n, x ∈ ps := fun x hx => List.mem_of_mem_drop (List.mem_of_mem_take hx)
      walk_at "z"
      refine ⟨a, h, (ps.drop bb).take n, rfl, d13.kp0 j7, e7, fun x hx => R7 x (hm2 x hx), by rw [List.length_take]; omega, fun x hx => (hps x (hm2 x hx)).2, fun G8 F2 p2 nF2 j8 d14 eF2 P2 ok2 => ?_⟩
      have kF : Kp [a] G3 G8 := kE.trans j8
      have eF1' := kF.get (nin1 hF1a) eF1
      have P1' := P1.kpd kF d11
      have hF2a : F2 ≠ a := ((d13.kp0 j7).ne nF2).symm
      have ep8 := kF.get (nin1 hpa) ep3
      have R8'' : RowsAt G8 ps := R7.kpd j8 (d13.kp0 j7)
      have l1 : p1.length ≤ 4 := by
        have := congrArg List.length ok1.rows
        rw [rowsOf_len, sortR_len, List.length_take] at this
        omega
      have l2 : p2.length ≤ 3 := by
        have := congrArg List.length ok2.rows
        rw [rowsOf_len, sortR_len, List.length_take] at this
        omega
      have m1 : ∀ x ∈ p1, (x.it, x.r) ∈ ps := fun x hx => by
        have : (x.it, x.r) ∈ rowsOf p1 := List.mem_map.mpr ⟨x, hx, rfl⟩
        rw [ok1.rows] at this
        exact List.mem_of_mem_take ((sortR_perm _).mem_iff.mp this)
      have m2 : ∀ x ∈ p2, (x.it, x.r) ∈ ps := fun x hx => by
        have : (x.it, x.r) ∈ rowsOf p2 := List.mem_map.mpr ⟨x, hx, rfl⟩
        rw [ok2.rows] at this
        exact hm2 _ ((sortR_perm _).mem_iff.mp this)
      have S1 : PtsS p1 := fun x hx => (hps _ (m1 x hx)).1
      have S2 : PtsS p2 := fun x hx => (hps _ (m2 x hx)).1
      have nd1 : (p1.map fun x => x.r.k).Nodup := by
        rw [← keysR, ok1.rows]
        exact ((sortR_perm _).map _).nodup_iff.mpr (List.Sublist.nodup ((List.take_sublist m ps).map _) hnd)
      have nd2 : (p2.map fun x => x.r.k).Nodup := by
        rw [← keysR, ok2.rows]
        exact ((sortR_perm _).map _).nodup_iff.mpr (List.Sublist.nodup (((List.take_sublist n _).trans (List.drop_sublist bb ps)).map _) hnd)
      have bnd1 := ok1.small
      have bnd2 := ok2.small
      walk_at "z"
      refine Z.listL (lstL eF1') (fun GV G9 nGV j9 eGV => ?_)
      walk_at "z"
      intro o1 dz nz ndz hdz
      refine ⟨o1, GV, dz, 8, p1, rfl, upd_same, (Kp.made (M := []) nz ndz).get nin0 eGV, (P1'.kp0 j9).kp0 (Kp.made nz ndz), by omega, fun G10 q1 r1 nq1 nr1 j10 O1 => ⟨rfl, ?_⟩⟩
      obtain ⟨no1, nq1', j910⟩ := made_new (Kp.refl _) nz ndz hdz nq1 j10
      obtain ⟨_, nr1', _⟩ := made_new (Kp.refl _) nz ndz hdz nr1 j10
      have eGV10 := j910.get nin0 eGV
      walk_at "z"
      refine ⟨Z.tyL eGV10, ?_⟩
      walk_at "z"
      refine Z.app eGV10 (Z.szl (m := 1000) (by rw [prefs_len]; omega)) ?_
      have kV : Kp [GV] G10 (upd G10 GV (.lst (prefs p1 ++ [.str ("spoilt" : Str)]))) := Kp.put (by simp)
      have kV8 : Kp [] G8 (upd G10 GV (.lst (prefs p1 ++ [.str ("spoilt" : Str)]))) := fun b o nb e => kV b o (nin1 fun y => by rw [y, nGV] at e; cases e) (j910.get nin0 (j9.get nin0 e))
      have O1' : OptAt T.C_Optimal (upd G10 GV (.lst (prefs p1 ++ [.str ("spoilt" : Str)]))) o1 q1 r1 8 p1 := by
        obtain ⟨⟨dx, e1⟩, _, _⟩ := id O1
        refine O1.kp kV (nin1 fun y => ?_) (nin1 fun y => ?_) (nin1 fun y => ?_)
        · rw [y, eGV10] at e1; cases e1
        · rw [y, eGV] at nq1'; cases nq1'
        · rw [y, eGV] at nr1'; cases nr1'
      generalize upd G10 GV (.lst (prefs p1 ++ [.str ("spoilt" : Str)])) = G11 at kV kV8 O1' ⊢
      have d15 := d14.kp0 kV8
      walk_at "z"
      refine Z.lstK (fun b2 G12 nb2 j12 eb2 => ?_)
      walk_at "z"
      refine ⟨a, 4, rfl, d15.kp0 j12, by decide, by decide, fun G13 sv hs0 hs1 j13 d16 => ?_⟩
      obtain ⟨s2, hs2, es2⟩ := pickI [8, 8, 8, 7] hs0 hs1
      have hs2' : s2 = 8 ∨ s2 = 7 := by simpa using hs2
      have hb2a : b2 ≠ a := (d15.ne nb2).symm
      refine Z.ixL (lstL (j13.get (nin1 hb2a) eb2)) es2 ?_
      have kJ : Kp [a] G8 G13 := (kV8.sub (by simp)).trans ((j12.sub (by simp)).trans j13)
      have eF2' := kJ.get (nin1 hF2a) eF2
      have P2' := P2.kpd kJ d14
      have P1'' := P1'.kpd kJ d14
      have eF1'' := kJ.get (nin1 hF1a) eF1'
      have ep13 := kJ.get (nin1 hpa) ep8
      have R13 := R8''.kpd kJ d14
      have O13 : OptAt T.C_Optimal G13 o1 q1 r1 8 p1 := by
        have O := O1'.kp0 j12
        obtain ⟨⟨dx, e1⟩, _, _⟩ := id O
        obtain ⟨nsd, ead⟩ := id (d15.kp0 j12)
        have hqa : q1 ≠ a := ((d14.kp0 j9).ne nq1').symm
        have hra : r1 ≠ a := ((d14.kp0 j9).ne nr1').symm
        exact O.kp j13 (nin1 fun y => by rw [y, ead] at e1; cases e1) (nin1 hqa) (nin1 hra)
      walk_at "z"
      intro o2 dy ny ndy hdy
      refine ⟨o2, F2, dy, s2, p2, rfl, upd_same, (Kp.made (M := []) ny ndy).get nin0 eF2', P2'.kp0 (Kp.made ny ndy), by omega, fun G14 q2 r2 nq2 nr2 j14 O2 => ⟨rfl, ?_⟩⟩
      obtain ⟨_, _, j134⟩ := made_new (Kp.refl _) ny ndy hdy nq2 j14
      have O1f := O13.kp0 j134
      have P1f := P1''.kp0 j134
      have P2f := P2'.kp0 j134
      have eF1f := j134.get nin0 eF1''
      have eF2f := j134.get nin0 eF2'
      have epf := j134.get nin0 ep13
      have Rf := R13.kp0 j134
      clear P1 P1' P1'' P2 P2' eF1 eF1' eF1'' eF2 eF2' O1 O1' O13 R13 R8'' R7 R2 R9 R8
      obtain ⟨⟨do1, ho1⟩, hq1, hr1⟩ := id O1f
      obtain ⟨⟨do2, ho2⟩, hq2, hr2⟩ := id O2
      walk_at "z"
      refine ⟨o1, _, do1, _, _, rfl, ho1, T.cl_Optimal, T.na_Optimal_size, op_size 8 q1 r1, ?_⟩
      walk_at "z"
      refine Z.noN rfl ?_
      walk_at "z"
      refine ⟨o1, _, do1, _, _, rfl, ho1, T.cl_Optimal, T.na_Optimal_parts, op_parts 8 q1 r1, ?_⟩
      walk_at "z"
      refine nePts hq1 eF1f P1f S1 ?_
      walk_at "z"
      refine ⟨o1, _, do1, _, _, rfl, ho1, T.cl_Optimal, T.na_Optimal_kept, op_kept 8 q1 r1, ?_⟩
      walk_at "z"
      refine Z.lcl (prefs p1) (lstL eF1f) (fun D i G' => Kp [] G14 G' ∧ G' D = some (.lst (refs (rowsOf (p1.take i))))) ?_ ?_ ?_ ?_
      · intro D G' nD k3 e3
        exact ⟨k3, e3⟩
      · rintro D i G' nD hi ⟨k3, e3⟩
        exact lstL (k3.get nin0 eF1f)
      · rintro D i v G' nD hv ⟨k3, e3⟩
        obtain ⟨z, hz, rfl⟩ := prefs_of hv
        have hzA := (P1f.kp0 k3) z (List.mem_of_getElem? hz)
        dsimp only [wipe, List.set]
        walk_at "z"
        refine ⟨rfl, ?_⟩
        walk_at "z"
        refine Z.ixT (tupT hzA.1) (v := .ref z.it) rfl ?_
        refine ⟨_, e3, Z.szl (m := 1000) (by rw [refs_len, rowsOf_len, List.length_take]; omega), k3.mut nD rfl, ?_⟩
        rw [upd_same, rowsOf_take hz, refs_snoc]
      rintro D1 Ga nD1 ⟨ka, eD1⟩
      rw [prefs_len, List.take_length] at eD1
      refine neRows (ps := rowsOf p1) (ka.get nin0 hr1) eD1 (P1f.kp0 ka).rows S1.rows ?_
      walk_at "z"
      refine ⟨o1, do1, _, rfl, ka.get nin0 ho1, rfl, ?_⟩
      walk_at "z"
      refine ⟨o1, q1, r1, 8, p1, rfl, O1f.kp0 ka, by omega, fun Gb t1 u1 kb et1 eu1 => ?_⟩
      have kab := ka.trans kb
      walk_at "z"
      refine ⟨F1, prefs p1, rfl, .inl ⟨lstL (kab.get nin0 eF1f), fun u2 nu2 => ?_⟩⟩
      have kc : Kp [] Gb (upd Gb u2 (.tup (prefs p1))) := Kp.new nu2
      have ec : upd Gb u2 (.tup (prefs p1)) u2 = some (.tup (prefs p1)) := upd_same
      generalize upd Gb u2 (.tup (prefs p1)) = Gc at kc ec ⊢
      walk_at "z"
      refine Z.tupK (fun t2 Gd nt2 kd ed => ?_)
      have kad := kab.trans (kc.trans kd)
      refine neD (D := .tuple [.int 8, .tuple (ptsD p1)]) (.tup (tupT ((kc.trans kd).get nin0 et1)) (.cons (.int _) (.cons (.tup (tupT ((kc.trans kd).get nin0 eu1)) (dpPts (P1f.kp0 kad))) .nil))) (.tup (tupT ed) (.cons (.int _) (.cons (.tup (tupT (kd.get nin0 ec)) (dpPts (P1f.kp0 kad))) .nil))) (sh_view S1) ?_
      walk_at "z"
      refine ⟨o1, do1, _, rfl, kad.get nin0 ho1, rfl, ?_⟩
      walk_at "z"
      refine ⟨o1, q1, r1, 8, p1, rfl, O1f.kp0 kad, P1f.kp0 kad, by omega, fun z hz => ⟨(bnd1 z hz).1, by have := (bnd1 z hz).2; omega⟩, fun Ge c1 ke Fe => ?_⟩
      have kae := kad.trans ke
      walk_at "z"
      refine Z.lcl (prefs p1) (lstL (kae.get nin0 eF1f)) (fun D i G' => Kp [] Ge G' ∧ G' D = some (.lst (((p1.take i).map Pt.c).map V.ref))) ?_ ?_ ?_ ?_
      · intro D G' nD k3 e3
        exact ⟨k3, e3⟩
      · rintro D i G' nD hi ⟨k3, e3⟩
        exact lstL (k3.get nin0 (kae.get nin0 eF1f))
      · rintro D i v G' nD hv ⟨k3, e3⟩
        obtain ⟨z, hz, rfl⟩ := prefs_of hv
        have hzA := (P1f.kp0 (kae.trans k3)) z (List.mem_of_getElem? hz)
        dsimp only [wipe, List.set]
        walk_at "z"
        refine ⟨rfl, ?_⟩
        walk_at "z"
        refine Z.ixT (tupT hzA.1) (v := .ref z.c) rfl ?_
        refine ⟨_, e3, Z.szl (m := 1000) (by rw [List.length_map, List.length_map, List.length_take]; omega), k3.mut nD rfl, ?_⟩
        rw [upd_same, List.take_add_one, hz, List.map_append, List.map_append]; rfl
      rintro D2 Gf nD2 ⟨kf, eD2⟩
      rw [prefs_len, List.take_length] at eD2
      have kaf := kae.trans kf
      walk_at "z"
      refine ⟨D2, p1.map Pt.c, p1.map Pt.f, rfl, lstL eD2, FrsOf (P1f.kp0 kaf), fun f hf => ?_, by rw [List.length_map]; omega, fun Gg c2 kg Fg => ?_⟩
      · obtain ⟨z, hz, rfl⟩ := List.mem_map.mp hf
        exact ⟨(bnd1 z hz).2, (bnd1 z hz).1⟩
      refine neFF (Fe.kp0 (kf.trans kg)) Fg ?_
      have kag := kaf.trans kg
      walk_at "z"
      have hsameP : ∀ y ∈ p2, ∀ z ∈ p1, y.r = z.r ∨ y.r.k ≠ z.r.k := fun y hy z hz => by
        by_cases e : y.r.k = z.r.k
        · have := hsame _ (m2 y hy) _ (m1 z hz) e
          exact .inl (Prod.mk.inj this).2
        · exact .inr e
      have eF1g := kag.get nin0 eF1f
      have eF2g := kag.get nin0 eF2f
      have P1g := P1f.kp0 kag
      have P2g := P2f.kp0 kag
      refine Z.lcl (prefs p1) (lstL eF1g) (fun D i G' => Kp [] Gg G' ∧ G' D = some (.lst (((ksP (p1.take i)).filter fun z => decide (z ∈ ksP p2)).map V.str))) ?_ ?_ ?_ ?_
      · intro D G' nD k3 e3
        exact ⟨k3, e3⟩
      · rintro D i G' nD hi ⟨k3, e3⟩
        exact lstL (k3.get nin0 eF1g)
      · rintro D i v G' nD hv ⟨k3, e3⟩
        obtain ⟨z, hz, rfl⟩ := prefs_of hv
        have hzm := List.mem_of_getElem? hz
        have hzA := (P1g.kp0 k3) z hzm
        have hlt : ((ksP (p1.take i)).filter fun z => decide (z ∈ ksP p2)).length ≤ 100 := by
          refine Nat.le_trans (List.length_filter_le _ _) ?_
          unfold ksP
          rw [List.length_map, List.length_take]
          omega
        dsimp only [wipe, List.set]
        walk_at "z"
        refine ⟨rfl, ?_⟩
        walk_at "z"
        refine Z.ixT (tupT hzA.1) (v := .ref z.it) rfl ?_
        walk_at "z"
        refine Z.lcl (prefs p2) (lstL (k3.get nin0 eF2g)) (fun E j G2 => Kp [] G' G2 ∧ G2 E = some (.lst (refs (rowsOf (p2.take j))))) ?_ ?_ ?_ ?_
        · intro E G2 nE k4 e4
          exact ⟨k4, e4⟩
        · rintro E j G2 nE hj ⟨k4, e4⟩
          exact lstL (k4.get nin0 (k3.get nin0 eF2g))
        · rintro E j v G2 nE hv2 ⟨k4, e4⟩
          obtain ⟨y, hy, rfl⟩ := prefs_of hv2
          have hyA := (P2g.kp0 (k3.trans k4)) y (List.mem_of_getElem? hy)
          dsimp only [wipe, List.set]
          walk_at "z"
          refine ⟨rfl, ?_⟩
          walk_at "z"
          refine Z.ixT (tupT hyA.1) (v := .ref y.it) rfl ?_
          refine ⟨_, e4, Z.szl (m := 1000) (by rw [refs_len, rowsOf_len, List.length_take]; omega), k4.mut nE rfl, ?_⟩
          rw [upd_same, rowsOf_take hy, refs_snoc]
        · rintro E G2 nE ⟨k4, e4⟩
          rw [prefs_len, List.take_length] at e4
          have hzA2 := hzA.kp0 k4
          refine ⟨rowD z.r, rowsD (rowsOf p2), dpRow hzA2.2.1, dpRows e4 ((P2g.kp0 (k3.trans k4)).rows), rowD_sh (S1 z hzm), shRows S2.rows, ?_⟩
          rw [any_rows S2 fun y hy => hsameP y hy z hzm]
          have e32 := k4.get nin0 e3
          walk_at "z"
          refine Z.ite (fun hin => ?_) (fun hin => ?_)
          · walk_at "z"
            refine Z.ixT (tupT hzA2.1) (v := .ref z.it) rfl ?_
            walk_at "z"
            refine RowAt.k0 hzA2.2.1 ?_
            refine ⟨_, e32, Z.szl (m := 1000) (by rw [List.length_map]; omega), (k3.trans k4).mut nD rfl, ?_⟩
            rw [upd_same, shared_snoc hz, if_pos hin, List.map_append]; rfl
          · refine ⟨k3.trans k4, ?_⟩
            rw [e32, shared_snoc hz, if_neg hin, List.append_nil]
      rintro D3 Gh nD3 ⟨kh, eD3⟩
      rw [prefs_len, List.take_length] at eD3
      generalize hsk : (ksP p1).filter (fun z => decide (z ∈ ksP p2)) = sk at eD3
      have hskok : ∀ s ∈ sortS sk, PyData.strOk s = true := fun s hs => by
        have h1 := (sortS_perm sk).mem_iff.mp hs
        rw [← hsk] at h1
        obtain ⟨z, hz, e⟩ := List.mem_map.mp (List.mem_filter.mp h1).1
        rw [← e]
        exact (S1 z hz).k
      have htw : twice (sortS (keysOf [rowsOf p1, rowsOf p2])) = (sortS sk).head? := by
        rw [keysOf_two, keysR, keysR, twice_shared nd1 nd2, ← hsk]; rfl
      walk_at "z"
      refine sortedStrs (lstL eD3) (fun SH Gi nSH ki eSH => ?_)
      have kai := kag.trans (kh.trans ki)
      generalize hsl : sortS sk = sl at eSH hskok htw
      walk_at "z"
      refine Z.cat (xs := prefs p1) (zs := prefs p2) (kai.get nin0 eF1f) (kai.get nin0 eF2f) (by rw [prefs_len, prefs_len]; omega) (fun CA Gj nCA kj eCA => ?_)
      rw [← prefs_app] at eCA
      walk_at "z"
      have P12 : PtsAt K Gj (p1 ++ p2) := (P1f.app P2f).kp0 (kai.trans kj)
      refine sortedPts (ps := p1 ++ p2) (lstL eCA) P12 (fun SP Gk nSP kk eSP => ?_)
      have kak := kai.trans (kj.trans kk)
      walk_at "z"
      refine ⟨SP, prefs (sortP (p1 ++ p2)), rfl, .inl ⟨lstL eSP, fun u3 nu3 => ?_⟩⟩
      have kl : Kp [] Gk (upd Gk u3 (.tup (prefs (sortP (p1 ++ p2))))) := Kp.new nu3
      have el : upd Gk u3 (.tup (prefs (sortP (p1 ++ p2)))) u3 = some (.tup (prefs (sortP (p1 ++ p2)))) := upd_same
      generalize upd Gk u3 (.tup (prefs (sortP (p1 ++ p2)))) = Gl at kl el ⊢
      walk_at "z"
      refine Z.tupK (fun t3 Gm nt3 km em => ?_)
      have kam := kak.trans (kl.trans km)
      have S12 : PtsS (sortP (p1 ++ p2)) := fun x hx => by
        rcases List.mem_append.mp ((sortP_perm _).mem_iff.mp hx) with h | h
        · exact S1 x h
        · exact S2 x h
      have P12m : PtsAt K Gm (sortP (p1 ++ p2)) := ((P1f.app P2f).kp0 kam).perm (sortP_perm _)
      have eSHm := (kj.trans (kk.trans (kl.trans km))).get nin0 eSH
      walk_at "z"
      refine Z.seqJ (fun σ' G' => ∃ wv, σ' = [some (.ref c), some (.ref a), some (.ref p), some (.int z), some (.ref DU), y5, some (.ref F1), some (.ref F2), some (.ref GV), some (.ref o1), some (.ref o2), some (.ref SH), some wv, none, none, none] ∧ Kp [] G14 G' ∧ Dp K G' wv (wD1 sl (sortP (p1 ++ p2)))) ?_ ?_
      · rintro σ' Gn ⟨wv, rfl, kn, hwD⟩
        walk_at "z"
        refine Z.seqJ (fun σ' G' => ∃ wv, σ' = [some (.ref c), some (.ref a), some (.ref p), some (.int z), some (.ref DU), y5, some (.ref F1), some (.ref F2), some (.ref GV), some (.ref o1), some (.ref o2), some (.ref SH), some wv, none, none, none] ∧ Kp [] G14 G' ∧ Dp K G' wv (if s2 = 8 then wD1 sl (sortP (p1 ++ p2)) else refD "kind")) ?_ ?_
        · clear hwD kn
          rintro σ' Gn ⟨wv, rfl, kn, hwD⟩
          have hwS : SeqAt.shaped (if s2 = 8 then wD1 sl (sortP (p1 ++ p2)) else refD "kind") = true ∧ PyData.canLay0 (if s2 = 8 then wD1 sl (sortP (p1 ++ p2)) else refD "kind") = true := by
            split
            · exact wD1_sh hskok S12
            · exact sh_ref (by decide +kernel)
          walk_at "z"
          refine Z.lstK (fun tb Go ntb ko etb => ?_)
          walk_at "z"
          intro tx dtx ntx ndtx hdtx
          refine ⟨tx, tb, dtx, [3, 1], rfl, upd_same, .inl (.inl ((Kp.made (M := []) ntx ndtx).get nin0 etb)), fun Gp tl ntl kp hT => ⟨rfl, ?_⟩⟩
          obtain ⟨_, _, kp'⟩ := made_new (Kp.refl _) ntx ndtx hdtx ntl kp
          have knp := ko.trans kp'
          have kap := kn.trans knp
          walk_at "z"
          refine ⟨o1, q1, r1, o2, tx, 8, p1, (if s2 = 8 then wD1 sl (sortP (p1 ++ p2)) else refD "kind"), rfl, O1f.kp0 kap, P1f.kp0 kap, S1, by omega, .inr ⟨q2, r2, s2, p2, O2.kp0 kap, P2f.kp0 kap, S2, by omega, ?_⟩, fun Gq v kq hv => ?_⟩
          · show (s2 ≠ 8 ∧ (if s2 = 8 then wD1 sl (sortP (p1 ++ p2)) else refD "kind") = refD "kind") ∨ _
            rcases hs2' with h8 | h7
            · subst h8
              rw [if_pos rfl]
              cases sl with
              | nil => exact .inr (.inr ⟨rfl, htw, by omega, by decide, rfl⟩)
              | cons m r => exact .inr (.inl ⟨rfl, m, htw, rfl⟩)
            · subst h7
              exact .inl ⟨by decide, by rw [if_neg (by decide)]⟩
          walk_at "z"
          refine neD hv (dp_same (knp.trans kq) _ hwD) hwS ?_
          have kaq := kap.trans kq
          obtain ⟨⟨dt1, ht1⟩, _⟩ := id (hT.kp0 kq)
          walk_at "z"
          refine ⟨tx, dt1, _, rfl, ht1, tf_used _ _, ?_⟩
          walk_at "z"
          refine ⟨tx, tl, [3, 1], 0, rfl, hT.kp0 kq, ?_⟩
          walk_at "z"
          refine Z.noN rfl ?_
          walk_at "z"
          refine Z.ixL (lstL (kaq.get nin0 epf)) (atI_nat (j := 6) (refs_at hx6)) ?_
          walk_at "z"
          refine Z.lstK (fun ub Gr nub kr eub => ?_)
          walk_at "z"
          intro ux dux nux ndux hdux
          refine ⟨ux, ub, dux, 8, 1, [x6], rfl, upd_same, (Kp.made (M := []) nux ndux).get nin0 eub, fun Gs uk nuk ks hUx => ⟨rfl, ?_⟩⟩
          obtain ⟨_, _, ks'⟩ := made_new (Kp.refl _) nux ndux hdux nuk ks
          have kas := kaq.trans (kr.trans ks')
          walk_at "z"
          refine ⟨o1, q1, r1, ux, tx, 8, p1, refD "kind", rfl, O1f.kp0 kas, P1f.kp0 kas, S1, by omega, .inl ⟨⟨uk, 8, 1, [x6], hUx⟩, rfl⟩, fun Gt v2 kt hv2 => ?_⟩
          walk_at "z"
          refine Z.tupK (fun tk Gu ntk ku etk => ?_)
          refine neD (dp_same ku _ hv2) (.tup (tupT etk) (.cons (.str _) (.cons (.str _) .nil))) (sh_ref (by decide +kernel)) ?_
          have kqu := kr.trans (ks'.trans (kt.trans ku))
          have kau := kaq.trans kqu
          have hT2 := (hT.kp0 kq).kp0 kqu
          obtain ⟨⟨dt2, ht2⟩, _⟩ := id hT2
          walk_at "z"
          refine ⟨tx, dt2, _, rfl, ht2, tf_used _ _, ?_⟩
          walk_at "z"
          refine ⟨tx, tl, [3, 1], 0, rfl, hT2, ?_⟩
          walk_at "z"
          refine Z.noN rfl ?_
          walk_at "z"
          refine ⟨o1, do1, _, rfl, kau.get nin0 ho1, rfl, ?_⟩
          walk_at "z"
          refine ⟨o1, q1, r1, 8, p1, rfl, O1f.kp0 kau, by omega, fun Gv t5 u5 kv et5 eu5 => ?_⟩
          have kav := kau.trans kv
          walk_at "z"
          refine ⟨F1, prefs p1, rfl, .inl ⟨lstL (kav.get nin0 eF1f), fun u6 nu6 => ?_⟩⟩
          have kw : Kp [] Gv (upd Gv u6 (.tup (prefs p1))) := Kp.new nu6
          have ew : upd Gv u6 (.tup (prefs p1)) u6 = some (.tup (prefs p1)) := upd_same
          generalize upd Gv u6 (.tup (prefs p1)) = Gw at kw ew ⊢
          walk_at "z"
          refine Z.tupK (fun t7 Gx nt7 kx ex => ?_)
          have kax := kav.trans (kw.trans kx)
          refine eqD (D := .tuple [.int 8, .tuple (ptsD p1)]) (.tup (tupT ((kw.trans kx).get nin0 et5)) (.cons (.int _) (.cons (.tup (tupT ((kw.trans kx).get nin0 eu5)) (dpPts (P1f.kp0 kax))) .nil))) (.tup (tupT ex) (.cons (.int _) (.cons (.tup (tupT (kx.get nin0 ew)) (dpPts (P1f.kp0 kax))) .nil))) (sh_view S1) ?_
          walk_at "z"
          refine ⟨o2, do2, _, rfl, kax.get nin0 ho2, rfl, ?_⟩
          walk_at "z"
          refine ⟨o2, q2, r2, s2, p2, rfl, O2.kp0 kax, by omega, fun Gy t8 u8 ky et8 eu8 => ?_⟩
          have kay := kax.trans ky
          walk_at "z"
          refine Z.ixT (tupT et8) (v := .ref u8) rfl ?_
          walk_at "z"
          refine ⟨F2, prefs p2, rfl, .inl ⟨lstL (kay.get nin0 eF2f), fun u9 nu9 => ?_⟩⟩
          have kz : Kp [] Gy (upd Gy u9 (.tup (prefs p2))) := Kp.new nu9
          have ez : upd Gy u9 (.tup (prefs p2)) u9 = some (.tup (prefs p2)) := upd_same
          generalize upd Gy u9 (.tup (prefs p2)) = Gz at kz ez ⊢
          have P2z := P2f.kp0 (kay.trans kz)
          refine eqD (D := .tuple (ptsD p2)) (.tup (tupT (kz.get nin0 eu8)) (dpPts P2z)) (.tup (tupT ez) (dpPts P2z)) (sh_ptsT' S2) ?_
          exact q _
        · intro N jn
          walk_at "z"
          refine ⟨o2, _, do2, _, _, rfl, kn.get nin0 ho2, T.cl_Optimal, T.na_Optimal_size, op_size s2 q2 r2, ?_⟩
          walk_at "z"
          refine Z.iteN (fun h8 => ?_) (fun h8 => ?_)
          · walk_at "z"
            refine Z.tupK (fun tk Go nt ko et => ?_)
            walk_at "z"
            refine jn _ _ ⟨_, rfl, kn.trans ko, ?_⟩
            rw [if_neg h8]
            exact .tup (tupT et) (.cons (.str _) (.cons (.str _) .nil))
          · walk_at "z"
            refine jn _ _ ⟨wv, rfl, kn, ?_⟩
            rw [if_pos h8]
            exact hwD
      · intro N jn
        walk_at "z"
        refine Z.lstK (fun b9 Gn nb9 kn eb9 => ?_)
        refine neNilS (l := sl) (kn.get nin0 eSHm) eb9 hskok ?_
        walk_at "z"
        cases sl with
        | nil =>
          refine Z.noNB ?_
          walk_at "z"
          exact jn _ _ ⟨_, rfl, kam.trans kn, .tup (tupT (kn.get nin0 em)) (.cons (.int _) (.cons (.tup (tupT ((km.trans kn).get nin0 el)) (dpPts (P12m.kp0 kn))) .nil))⟩
        | cons m r =>
          refine Z.yesNB ?_
          walk_at "z"
          refine Z.ixL (lstL (kn.get nin0 eSHm)) (v := .str m) (atI_nat (j := 0) rfl) ?_
          walk_at "z"
          refine Z.tupK (fun tk Go nt ko et => ?_)
          walk_at "z"
          exact jn _ _ ⟨_, rfl, kam.trans (kn.trans ko), .tup (tupT et) (.cons (.str _) (.cons (.str _) .nil))⟩

set_option maxHeartbeats 4000000 in
theorem all_mk {l : PySem.W.OpenLaw} {w : World} {K : PySem.W.Frag} {h : Heap} {mg : Str → Option Value} {fa : Addr} (X : K.In h) (G : h.Ns mainGlobals mg) (hfa : mg "law" = some (.ref fa))
    {CSamphireError : Addr}
    {CInvalidSize fInvalidSize cInvalidSize ccInvalidSize : Addr}
    {CSharedKey fSharedKey cSharedKey ccSharedKey : Addr}
    {CWrongKind fWrongKind cWrongKind ccWrongKind : Addr}
    {CZeroDenominator fZeroDenominator cZeroDenominator ccZeroDenominator : Addr}
    {COptimal : Addr}
    {CTape : Addr}
    {CUniform : Addr}
    {od1 an1 : Option Addr} {sl1 : Array (Option Value)} {oc1 kV1 dc1 pm1 cd1 ct1 : Value} {f1 : Addr}
    {od2 an2 : Option Addr} {sl2 : Array (Option Value)} {oc2 kV2 dc2 pm2 cd2 ct2 : Value} {f2 : Addr}
    {od3 an3 : Option Addr} {sl3 : Array (Option Value)} {oc3 kV3 dc3 pm3 cd3 ct3 : Value} {f3 : Addr}
    {od4 an4 : Option Addr} {sl4 : Array (Option Value)} {oc4 kV4 dc4 pm4 cd4 ct4 : Value} {f4 : Addr}
    {od5 an5 : Option Addr} {sl5 : Array (Option Value)} {oc5 kV5 dc5 pm5 cd5 ct5 : Value} {f5 : Addr}
    {od6 an6 : Option Addr} {sl6 : Array (Option Value)} {oc6 kV6 dc6 pm6 cd6 ct6 : Value} {f6 : Addr}
    {od7 an7 : Option Addr} {sl7 : Array (Option Value)} {oc7 kV7 dc7 pm7 cd7 ct7 : Value} {f7 : Addr}
    {od8 an8 : Option Addr} {sl8 : Array (Option Value)} {oc8 kV8 dc8 pm8 cd8 ct8 : Value} {f8 : Addr}
    {q8 : Addr} {rest8 : List Value}
    {od9 an9 : Option Addr} {sl9 : Array (Option Value)} {oc9 kV9 dc9 pm9 cd9 ct9 : Value} {f9 : Addr}
    {q9 : Addr} {rest9 : List Value}
    {od10 an10 : Option Addr} {sl10 : Array (Option Value)} {oc10 kV10 dc10 pm10 cd10 ct10 : Value} {f10 : Addr}
    {od11 an11 : Option Addr} {sl11 : Array (Option Value)} {oc11 kV11 dc11 pm11 cd11 ct11 : Value} {f11 : Addr}
    {od12 an12 : Option Addr} {sl12 : Array (Option Value)} {oc12 kV12 dc12 pm12 cd12 ct12 : Value} {f12 : Addr}
    {od13 an13 : Option Addr} {sl13 : Array (Option Value)} {oc13 kV13 dc13 pm13 cd13 ct13 : Value} {f13 : Addr}
    {od14 an14 : Option Addr} {sl14 : Array (Option Value)} {oc14 kV14 dc14 pm14 cd14 ct14 : Value} {f14 : Addr}
    {od15 an15 : Option Addr} {sl15 : Array (Option Value)} {oc15 kV15 dc15 pm15 cd15 ct15 : Value} {f15 : Addr}
    {od16 an16 : Option Addr} {sl16 : Array (Option Value)} {oc16 kV16 dc16 pm16 cd16 ct16 : Value} {f16 : Addr}
    {od17 an17 : Option Addr} {sl17 : Array (Option Value)} {oc17 kV17 dc17 pm17 cd17 ct17 : Value} {f17 : Addr}
    {od18 an18 : Option Addr} {sl18 : Array (Option Value)} {oc18 kV18 dc18 pm18 cd18 ct18 : Value} {f18 : Addr}
    {od19 an19 : Option Addr} {sl19 : Array (Option Value)} {oc19 kV19 dc19 pm19 cd19 ct19 : Value} {f19 : Addr}
    {od20 an20 : Option Addr} {sl20 : Array (Option Value)} {oc20 kV20 dc20 pm20 cd20 ct20 : Value} {f20 : Addr}
    {od21 an21 : Option Addr} {sl21 : Array (Option Value)} {oc21 kV21 dc21 pm21 cd21 ct21 : Value} {f21 : Addr}
    {od22 an22 : Option Addr} {sl22 : Array (Option Value)} {oc22 kV22 dc22 pm22 cd22 ct22 : Value} {f22 : Addr}
    {od23 an23 : Option Addr} {sl23 : Array (Option Value)} {oc23 kV23 dc23 pm23 cd23 ct23 : Value} {f23 : Addr}
    {od24 an24 : Option Addr} {sl24 : Array (Option Value)} {oc24 kV24 dc24 pm24 cd24 ct24 : Value} {f24 : Addr}
    {od25 an25 : Option Addr} {sl25 : Array (Option Value)} {oc25 kV25 dc25 pm25 cd25 ct25 : Value} {f25 : Addr}
    {od26 an26 : Option Addr} {sl26 : Array (Option Value)} {oc26 kV26 dc26 pm26 cd26 ct26 : Value} {f26 : Addr}
    {od27 an27 : Option Addr} {sl27 : Array (Option Value)} {oc27 kV27 dc27 pm27 cd27 ct27 : Value} {f27 : Addr}
    {od28 an28 : Option Addr} {sl28 : Array (Option Value)} {oc28 kV28 dc28 pm28 cd28 ct28 : Value} {f28 : Addr}
    {nmInvalidSize qInvalidSize : Str} {NInvalidSize : Addr} {bsInvalidSize : List Value} {snInvalidSize : List Str} {subInvalidSize : List Value} {abInvalidSize : Bool} {colInvalidSize : Option Bool} {ddInvalidSize : Option Addr} {m0InvalidSize m1InvalidSize m2InvalidSize m3InvalidSize m5InvalidSize : Option Value} {occInvalidSize : Value} {cddInvalidSize : Option Addr} {cvsInvalidSize : List Value} {cslInvalidSize : Array (Option Value)} {cclInvalidSize : Value} {ccdInvalidSize : Option Addr} {ccsInvalidSize : Array (Option Value)} {ocInvalidSize : Value} {odInvalidSize : Option Addr} {oslInvalidSize : Array (Option Value)} {docInvalidSize pmInvalidSize ctvInvalidSize : Value}
    {nmSharedKey qSharedKey : Str} {NSharedKey : Addr} {bsSharedKey : List Value} {snSharedKey : List Str} {subSharedKey : List Value} {abSharedKey : Bool} {colSharedKey : Option Bool} {ddSharedKey : Option Addr} {m0SharedKey m1SharedKey m2SharedKey m3SharedKey m5SharedKey : Option Value} {occSharedKey : Value} {cddSharedKey : Option Addr} {cvsSharedKey : List Value} {cslSharedKey : Array (Option Value)} {cclSharedKey : Value} {ccdSharedKey : Option Addr} {ccsSharedKey : Array (Option Value)} {ocSharedKey : Value} {odSharedKey : Option Addr} {oslSharedKey : Array (Option Value)} {docSharedKey pmSharedKey ctvSharedKey : Value}
    {nmWrongKind qWrongKind : Str} {NWrongKind : Addr} {bsWrongKind : List Value} {snWrongKind : List Str} {subWrongKind : List Value} {abWrongKind : Bool} {colWrongKind : Option Bool} {ddWrongKind : Option Addr} {m0WrongKind m1WrongKind m2WrongKind m3WrongKind m5WrongKind : Option Value} {occWrongKind : Value} {cddWrongKind : Option Addr} {cvsWrongKind : List Value} {cslWrongKind : Array (Option Value)} {cclWrongKind : Value} {ccdWrongKind : Option Addr} {ccsWrongKind : Array (Option Value)} {ocWrongKind : Value} {odWrongKind : Option Addr} {oslWrongKind : Array (Option Value)} {docWrongKind pmWrongKind ctvWrongKind : Value}
    {nmZeroDenominator qZeroDenominator : Str} {NZeroDenominator : Addr} {bsZeroDenominator : List Value} {snZeroDenominator : List Str} {subZeroDenominator : List Value} {abZeroDenominator : Bool} {colZeroDenominator : Option Bool} {ddZeroDenominator : Option Addr} {m0ZeroDenominator m1ZeroDenominator m2ZeroDenominator m3ZeroDenominator m5ZeroDenominator : Option Value} {occZeroDenominator : Value} {cddZeroDenominator : Option Addr} {cvsZeroDenominator : List Value} {cslZeroDenominator : Array (Option Value)} {cclZeroDenominator : Value} {ccdZeroDenominator : Option Addr} {ccsZeroDenominator : Array (Option Value)} {ocZeroDenominator : Value} {odZeroDenominator : Option Addr} {oslZeroDenominator : Array (Option Value)} {docZeroDenominator pmZeroDenominator ctvZeroDenominator : Value}
    {t_MOST_SIZE : Tok}
    {k_ZERO : Addr} {od_ZERO : Option Addr} {nn_ZERO : Nat} {sl_ZERO : Array (Option Value)} {t0_ZERO t1_ZERO : Tok}
    (a1 : PySem.W.nsIn K mainGlobals "lowest" = some (some (.ref f1)))
    (l1 : K.lookup f1 = some ⟨oc1, od1, .func (PySem.W.fnOf "lowest" "lowest" (defArgs s_lowest) (defBody s_lowest) (defScope s_lowest) .none kV1 dc1 pm1 an1 cd1 ct1), sl1⟩)
    (c1 : PySem.W.codeIn K cd1 "lowest" = true)
    (k1 : PySem.W.keepIn K (.ref f1) = true)
    (a2 : PySem.W.nsIn K mainGlobals "plus" = some (some (.ref f2)))
    (l2 : K.lookup f2 = some ⟨oc2, od2, .func (PySem.W.fnOf "plus" "plus" (defArgs s_plus) (defBody s_plus) (defScope s_plus) .none kV2 dc2 pm2 an2 cd2 ct2), sl2⟩)
    (c2 : PySem.W.codeIn K cd2 "plus" = true)
    (k2 : PySem.W.keepIn K (.ref f2) = true)
    (a3 : PySem.W.nsIn K mainGlobals "sum_of" = some (some (.ref f3)))
    (l3 : K.lookup f3 = some ⟨oc3, od3, .func (PySem.W.fnOf "sum_of" "sum_of" (defArgs s_sum_of) (defBody s_sum_of) (defScope s_sum_of) .none kV3 dc3 pm3 an3 cd3 ct3), sl3⟩)
    (c3 : PySem.W.codeIn K cd3 "sum_of" = true)
    (k3 : PySem.W.keepIn K (.ref f3) = true)
    (a4 : PySem.W.nsIn K mainGlobals "check_size" = some (some (.ref f4)))
    (l4 : K.lookup f4 = some ⟨oc4, od4, .func (PySem.W.fnOf "check_size" "check_size" (defArgs s_check_size) (defBody s_check_size) (defScope s_check_size) .none kV4 dc4 pm4 an4 cd4 ct4), sl4⟩)
    (c4 : PySem.W.codeIn K cd4 "check_size" = true)
    (k4 : PySem.W.keepIn K (.ref f4) = true)
    (a5 : PySem.W.nsIn K mainGlobals "least_twice" = some (some (.ref f5)))
    (l5 : K.lookup f5 = some ⟨oc5, od5, .func (PySem.W.fnOf "least_twice" "least_twice" (defArgs s_least_twice) (defBody s_least_twice) (defScope s_least_twice) .none kV5 dc5 pm5 an5 cd5 ct5), sl5⟩)
    (c5 : PySem.W.codeIn K cd5 "least_twice" = true)
    (k5 : PySem.W.keepIn K (.ref f5) = true)
    (a6 : PySem.W.nsIn K mainGlobals "check_keys" = some (some (.ref f6)))
    (l6 : K.lookup f6 = some ⟨oc6, od6, .func (PySem.W.fnOf "check_keys" "check_keys" (defArgs s_check_keys) (defBody s_check_keys) (defScope s_check_keys) .none kV6 dc6 pm6 an6 cd6 ct6), sl6⟩)
    (c6 : PySem.W.codeIn K cd6 "check_keys" = true)
    (k6 : PySem.W.keepIn K (.ref f6) = true)
    (a7 : PySem.W.findIn K (.ref COptimal) "__init__" = some (some (.ref f7)))
    (i7 : PySem.W.isFn K (.ref f7) = true)
    (l7 : K.lookup f7 = some ⟨oc7, od7, .func (PySem.W.fnOf "__init__" "Optimal.__init__" (defArgs s_Optimal_init) (defBody s_Optimal_init) (defScope s_Optimal_init) .none kV7 dc7 pm7 an7 cd7 ct7), sl7⟩)
    (c7 : PySem.W.codeIn K cd7 "Optimal.__init__" = true)
    (k7 : PySem.W.keepIn K (.ref f7) = true)
    (a8 : PySem.W.findCls K (.ref COptimal) (.type "type") "empty" = some (.get (.builtin "classmethod.__get__") (.ref q8) .none (.ref COptimal))) (rc8 : PySem.W.recIn K q8 "classmethod" = some (.ref f8 :: rest8)) (i8 : PySem.W.fnIn K f8 = true)
    (l8 : K.lookup f8 = some ⟨oc8, od8, .func (PySem.W.fnOf "empty" "Optimal.empty" (defArgs s_Optimal_empty) (defBody s_Optimal_empty) (defScope s_Optimal_empty) .none kV8 dc8 pm8 an8 cd8 ct8), sl8⟩)
    (c8 : PySem.W.codeIn K cd8 "Optimal.empty" = true)
    (k8 : PySem.W.keepIn K (.ref f8) = true)
    (a9 : PySem.W.findCls K (.ref COptimal) (.type "type") "single" = some (.get (.builtin "classmethod.__get__") (.ref q9) .none (.ref COptimal))) (rc9 : PySem.W.recIn K q9 "classmethod" = some (.ref f9 :: rest9)) (i9 : PySem.W.fnIn K f9 = true)
    (l9 : K.lookup f9 = some ⟨oc9, od9, .func (PySem.W.fnOf "single" "Optimal.single" (defArgs s_Optimal_single) (defBody s_Optimal_single) (defScope s_Optimal_single) .none kV9 dc9 pm9 an9 cd9 ct9), sl9⟩)
    (c9 : PySem.W.codeIn K cd9 "Optimal.single" = true)
    (k9 : PySem.W.keepIn K (.ref f9) = true)
    (a10 : PySem.W.findIn K (.ref COptimal) "merge" = some (some (.ref f10)))
    (i10 : PySem.W.isFn K (.ref f10) = true)
    (l10 : K.lookup f10 = some ⟨oc10, od10, .func (PySem.W.fnOf "merge" "Optimal.merge" (defArgs s_Optimal_merge) (defBody s_Optimal_merge) (defScope s_Optimal_merge) .none kV10 dc10 pm10 an10 cd10 ct10), sl10⟩)
    (c10 : PySem.W.codeIn K cd10 "Optimal.merge" = true)
    (k10 : PySem.W.keepIn K (.ref f10) = true)
    (a11 : PySem.W.findIn K (.ref COptimal) "adjusted_sum" = some (some (.ref f11)))
    (i11 : PySem.W.isFn K (.ref f11) = true)
    (l11 : K.lookup f11 = some ⟨oc11, od11, .func (PySem.W.fnOf "adjusted_sum" "Optimal.adjusted_sum" (defArgs s_Optimal_adjusted_sum) (defBody s_Optimal_adjusted_sum) (defScope s_Optimal_adjusted_sum) .none kV11 dc11 pm11 an11 cd11 ct11), sl11⟩)
    (c11 : PySem.W.codeIn K cd11 "Optimal.adjusted_sum" = true)
    (k11 : PySem.W.keepIn K (.ref f11) = true)
    (a12 : PySem.W.findIn K (.ref COptimal) "view" = some (some (.ref f12)))
    (i12 : PySem.W.isFn K (.ref f12) = true)
    (l12 : K.lookup f12 = some ⟨oc12, od12, .func (PySem.W.fnOf "view" "Optimal.view" (defArgs s_Optimal_view) (defBody s_Optimal_view) (defScope s_Optimal_view) .none kV12 dc12 pm12 an12 cd12 ct12), sl12⟩)
    (c12 : PySem.W.codeIn K cd12 "Optimal.view" = true)
    (k12 : PySem.W.keepIn K (.ref f12) = true)
    (a13 : PySem.W.nsIn K mainGlobals "number_at" = some (some (.ref f13)))
    (l13 : K.lookup f13 = some ⟨oc13, od13, .func (PySem.W.fnOf "number_at" "number_at" (defArgs s_number_at) (defBody s_number_at) (defScope s_number_at) .none kV13 dc13 pm13 an13 cd13 ct13), sl13⟩)
    (c13 : PySem.W.codeIn K cd13 "number_at" = true)
    (k13 : PySem.W.keepIn K (.ref f13) = true)
    (a14 : PySem.W.findIn K (.ref CTape) "__init__" = some (some (.ref f14)))
    (i14 : PySem.W.isFn K (.ref f14) = true)
    (l14 : K.lookup f14 = some ⟨oc14, od14, .func (PySem.W.fnOf "__init__" "Tape.__init__" (defArgs s_Tape_init) (defBody s_Tape_init) (defScope s_Tape_init) .none kV14 dc14 pm14 an14 cd14 ct14), sl14⟩)
    (c14 : PySem.W.codeIn K cd14 "Tape.__init__" = true)
    (k14 : PySem.W.keepIn K (.ref f14) = true)
    (a15 : PySem.W.findIn K (.ref CTape) "pick" = some (some (.ref f15)))
    (i15 : PySem.W.isFn K (.ref f15) = true)
    (l15 : K.lookup f15 = some ⟨oc15, od15, .func (PySem.W.fnOf "pick" "Tape.pick" (defArgs s_Tape_pick) (defBody s_Tape_pick) (defScope s_Tape_pick) .none kV15 dc15 pm15 an15 cd15 ct15), sl15⟩)
    (c15 : PySem.W.codeIn K cd15 "Tape.pick" = true)
    (k15 : PySem.W.keepIn K (.ref f15) = true)
    (a16 : PySem.W.findIn K (.ref CTape) "used" = some (some (.ref f16)))
    (i16 : PySem.W.isFn K (.ref f16) = true)
    (l16 : K.lookup f16 = some ⟨oc16, od16, .func (PySem.W.fnOf "used" "Tape.used" (defArgs s_Tape_used) (defBody s_Tape_used) (defScope s_Tape_used) .none kV16 dc16 pm16 an16 cd16 ct16), sl16⟩)
    (c16 : PySem.W.codeIn K cd16 "Tape.used" = true)
    (k16 : PySem.W.keepIn K (.ref f16) = true)
    (a17 : PySem.W.findIn K (.ref CUniform) "__init__" = some (some (.ref f17)))
    (i17 : PySem.W.isFn K (.ref f17) = true)
    (l17 : K.lookup f17 = some ⟨oc17, od17, .func (PySem.W.fnOf "__init__" "Uniform.__init__" (defArgs s_Uniform_init) (defBody s_Uniform_init) (defScope s_Uniform_init) .none kV17 dc17 pm17 an17 cd17 ct17), sl17⟩)
    (c17 : PySem.W.codeIn K cd17 "Uniform.__init__" = true)
    (k17 : PySem.W.keepIn K (.ref f17) = true)
    (a18 : PySem.W.nsIn K mainGlobals "_law_mix" = some (some (.ref f18)))
    (l18 : K.lookup f18 = some ⟨oc18, od18, .func (PySem.W.fnOf "_law_mix" "_law_mix" (defArgs s__law_mix) (defBody s__law_mix) (defScope s__law_mix) .none kV18 dc18 pm18 an18 cd18 ct18), sl18⟩)
    (c18 : PySem.W.codeIn K cd18 "_law_mix" = true)
    (k18 : PySem.W.keepIn K (.ref f18) = true)
    (a19 : PySem.W.nsIn K mainGlobals "_law_numbers" = some (some (.ref f19)))
    (l19 : K.lookup f19 = some ⟨oc19, od19, .func (PySem.W.fnOf "_law_numbers" "_law_numbers" (defArgs s__law_numbers) (defBody s__law_numbers) (defScope s__law_numbers) .none kV19 dc19 pm19 an19 cd19 ct19), sl19⟩)
    (c19 : PySem.W.codeIn K cd19 "_law_numbers" = true)
    (k19 : PySem.W.keepIn K (.ref f19) = true)
    (a20 : PySem.W.nsIn K mainGlobals "_law_take" = some (some (.ref f20)))
    (l20 : K.lookup f20 = some ⟨oc20, od20, .func (PySem.W.fnOf "_law_take" "_law_take" (defArgs s__law_take) (defBody s__law_take) (defScope s__law_take) .none kV20 dc20 pm20 an20 cd20 ct20), sl20⟩)
    (c20 : PySem.W.codeIn K cd20 "_law_take" = true)
    (k20 : PySem.W.keepIn K (.ref f20) = true)
    (a21 : PySem.W.nsIn K mainGlobals "_law_low" = some (some (.ref f21)))
    (l21 : K.lookup f21 = some ⟨oc21, od21, .func (PySem.W.fnOf "_law_low" "_law_low" (defArgs s__law_low) (defBody s__law_low) (defScope s__law_low) .none kV21 dc21 pm21 an21 cd21 ct21), sl21⟩)
    (c21 : PySem.W.codeIn K cd21 "_law_low" = true)
    (k21 : PySem.W.keepIn K (.ref f21) = true)
    (a22 : PySem.W.nsIn K mainGlobals "_law_plus" = some (some (.ref f22)))
    (l22 : K.lookup f22 = some ⟨oc22, od22, .func (PySem.W.fnOf "_law_plus" "_law_plus" (defArgs s__law_plus) (defBody s__law_plus) (defScope s__law_plus) .none kV22 dc22 pm22 an22 cd22 ct22), sl22⟩)
    (c22 : PySem.W.codeIn K cd22 "_law_plus" = true)
    (k22 : PySem.W.keepIn K (.ref f22) = true)
    (a23 : PySem.W.nsIn K mainGlobals "_law_sum" = some (some (.ref f23)))
    (l23 : K.lookup f23 = some ⟨oc23, od23, .func (PySem.W.fnOf "_law_sum" "_law_sum" (defArgs s__law_sum) (defBody s__law_sum) (defScope s__law_sum) .none kV23 dc23 pm23 an23 cd23 ct23), sl23⟩)
    (c23 : PySem.W.codeIn K cd23 "_law_sum" = true)
    (k23 : PySem.W.keepIn K (.ref f23) = true)
    (a24 : PySem.W.nsIn K mainGlobals "_law_items" = some (some (.ref f24)))
    (l24 : K.lookup f24 = some ⟨oc24, od24, .func (PySem.W.fnOf "_law_items" "_law_items" (defArgs s__law_items) (defBody s__law_items) (defScope s__law_items) .none kV24 dc24 pm24 an24 cd24 ct24), sl24⟩)
    (c24 : PySem.W.codeIn K cd24 "_law_items" = true)
    (k24 : PySem.W.keepIn K (.ref f24) = true)
    (a25 : PySem.W.nsIn K mainGlobals "_law_parts" = some (some (.ref f25)))
    (l25 : K.lookup f25 = some ⟨oc25, od25, .func (PySem.W.fnOf "_law_parts" "_law_parts" (defArgs s__law_parts) (defBody s__law_parts) (defScope s__law_parts) .none kV25 dc25 pm25 an25 cd25 ct25), sl25⟩)
    (c25 : PySem.W.codeIn K cd25 "_law_parts" = true)
    (k25 : PySem.W.keepIn K (.ref f25) = true)
    (a26 : PySem.W.nsIn K mainGlobals "_law_made" = some (some (.ref f26)))
    (l26 : K.lookup f26 = some ⟨oc26, od26, .func (PySem.W.fnOf "_law_made" "_law_made" (defArgs s__law_made) (defBody s__law_made) (defScope s__law_made) .none kV26 dc26 pm26 an26 cd26 ct26), sl26⟩)
    (c26 : PySem.W.codeIn K cd26 "_law_made" = true)
    (k26 : PySem.W.keepIn K (.ref f26) = true)
    (a27 : PySem.W.nsIn K mainGlobals "_law_merged" = some (some (.ref f27)))
    (l27 : K.lookup f27 = some ⟨oc27, od27, .func (PySem.W.fnOf "_law_merged" "_law_merged" (defArgs s__law_merged) (defBody s__law_merged) (defScope s__law_merged) .none kV27 dc27 pm27 an27 cd27 ct27), sl27⟩)
    (c27 : PySem.W.codeIn K cd27 "_law_merged" = true)
    (k27 : PySem.W.keepIn K (.ref f27) = true)
    (a28 : PySem.W.nsIn K mainGlobals "law" = some (some (.ref f28)))
    (l28 : K.lookup f28 = some ⟨oc28, od28, .func (PySem.W.fnOf "law" "law" (defArgs s_law) (defBody s_law) (defScope s_law) .none kV28 dc28 pm28 an28 cd28 ct28), sl28⟩)
    (c28 : PySem.W.codeIn K cd28 "law" = true)
    (k28 : PySem.W.keepIn K (.ref f28) = true)
    (aCSamphireError : PySem.W.nsIn K mainGlobals "SamphireError" = some (some (.ref CSamphireError)))
    (aCInvalidSize : PySem.W.nsIn K mainGlobals "InvalidSize" = some (some (.ref CInvalidSize)))
    (iCInvalidSize : PySem.W.findIn K (.ref CInvalidSize) "__init__" = some (some (.ref fInvalidSize)))
    (tIInvalidSize : PySem.W.typeIn K (.ref fInvalidSize) = some (.type "function"))
    (lkInvalidSize : K.lookup fInvalidSize = some ⟨ocInvalidSize, odInvalidSize, .func ((NF_InvalidSize ccInvalidSize cInvalidSize).fd docInvalidSize pmInvalidSize ctvInvalidSize), oslInvalidSize⟩)
    (hcInvalidSize : PySem.W.codeIn K (.ref cInvalidSize) "InvalidSize.__init__" = true)
    (xLInvalidSize : K.lookup CInvalidSize = some (excClassObj nmInvalidSize qInvalidSize CInvalidSize NInvalidSize bsInvalidSize [.ref CSamphireError, .type "ValueError", .type "Exception", .type "BaseException", .type "object"] true snInvalidSize subInvalidSize abInvalidSize colInvalidSize ddInvalidSize m0InvalidSize m1InvalidSize m2InvalidSize m3InvalidSize m5InvalidSize "ValueError.__new__"))
    (saInvalidSize : PySem.W.findIn K (.ref CInvalidSize) "__setattr__" = some (some (.builtin "object.__setattr__")))
    (sBInvalidSize : PySem.W.subIn K (.ref CInvalidSize) (.type "BaseException") = some true)
    (tCInvalidSize : PySem.W.typeIn K (.ref CInvalidSize) = some (.type "type"))
    (kCInvalidSize : PySem.W.keepIn K (.ref CInvalidSize) = true)
    (coInvalidSize : K.lookup cInvalidSize = some ⟨occInvalidSize, cddInvalidSize, .fields cvsInvalidSize.toArray, cslInvalidSize⟩)
    (flInvalidSize : Sup.flIs cvsInvalidSize l.prog.main.file = true)
    (ceInvalidSize : K.lookup ccInvalidSize = some ⟨cclInvalidSize, ccdInvalidSize, .cell (some (.ref CInvalidSize)), ccsInvalidSize⟩)
    (mrInvalidSize : PySem.W.mroIn K CInvalidSize (.ref CInvalidSize) = some true)
    (sVInvalidSize : PySem.W.subIn K (.ref CInvalidSize) (.type "ValueError") = some true)
    (anInvalidSize : PySem.W.nsIn K PySem.cStatics "thirdparty.any" = some none)
    (suInvalidSize : PySem.W.ks_superIn K CInvalidSize CInvalidSize "__init__" = some (some (.builtin "ValueError.__init__")))
    (tpInvalidSize : (l.prog.main.scope.names.lookup ("super" : Str)).isSome = false)
    (hgInvalidSize : PySem.W.findIn K (.ref CInvalidSize) "__getattribute__" = some (some (.builtin "BaseException.__getattribute__")))
    (hkInvalidSize : PySem.W.findIn K (.ref CInvalidSize) "__getattr__" = some none)
    (hdInvalidSize : PySem.W.hasDictIn K CInvalidSize = true)
    (haInvalidSize : PySem.W.findIn K (.ref CInvalidSize) "__class__" = some (some (.builtin "object.__class__")))
    (hnInvalidSize : PySem.W.specialIn K (.builtin "object.__class__") "__get__" = some (some (.builtin "getset_descriptor.__get__")))
    (htInvalidSize : PySem.W.takesIn K (.builtin "object.__class__") = some true)
    (hmInvalidSize : PySem.W.mroIn K CInvalidSize (.type "object") = some true)
    (icInvalidSize : PySem.W.isClsIn K CInvalidSize = true)
    (sCInvalidSize : PySem.W.subIn K (.ref CInvalidSize) (.ref CInvalidSize) = some true)
    (nf_size_InvalidSize : PySem.W.findIn K (.ref CInvalidSize) "size" = some none)
    (aCSharedKey : PySem.W.nsIn K mainGlobals "SharedKey" = some (some (.ref CSharedKey)))
    (iCSharedKey : PySem.W.findIn K (.ref CSharedKey) "__init__" = some (some (.ref fSharedKey)))
    (tISharedKey : PySem.W.typeIn K (.ref fSharedKey) = some (.type "function"))
    (lkSharedKey : K.lookup fSharedKey = some ⟨ocSharedKey, odSharedKey, .func ((NF_SharedKey ccSharedKey cSharedKey).fd docSharedKey pmSharedKey ctvSharedKey), oslSharedKey⟩)
    (hcSharedKey : PySem.W.codeIn K (.ref cSharedKey) "SharedKey.__init__" = true)
    (xLSharedKey : K.lookup CSharedKey = some (excClassObj nmSharedKey qSharedKey CSharedKey NSharedKey bsSharedKey [.ref CSamphireError, .type "ValueError", .type "Exception", .type "BaseException", .type "object"] true snSharedKey subSharedKey abSharedKey colSharedKey ddSharedKey m0SharedKey m1SharedKey m2SharedKey m3SharedKey m5SharedKey "ValueError.__new__"))
    (saSharedKey : PySem.W.findIn K (.ref CSharedKey) "__setattr__" = some (some (.builtin "object.__setattr__")))
    (sBSharedKey : PySem.W.subIn K (.ref CSharedKey) (.type "BaseException") = some true)
    (tCSharedKey : PySem.W.typeIn K (.ref CSharedKey) = some (.type "type"))
    (kCSharedKey : PySem.W.keepIn K (.ref CSharedKey) = true)
    (coSharedKey : K.lookup cSharedKey = some ⟨occSharedKey, cddSharedKey, .fields cvsSharedKey.toArray, cslSharedKey⟩)
    (flSharedKey : Sup.flIs cvsSharedKey l.prog.main.file = true)
    (ceSharedKey : K.lookup ccSharedKey = some ⟨cclSharedKey, ccdSharedKey, .cell (some (.ref CSharedKey)), ccsSharedKey⟩)
    (mrSharedKey : PySem.W.mroIn K CSharedKey (.ref CSharedKey) = some true)
    (sVSharedKey : PySem.W.subIn K (.ref CSharedKey) (.type "ValueError") = some true)
    (anSharedKey : PySem.W.nsIn K PySem.cStatics "thirdparty.any" = some none)
    (suSharedKey : PySem.W.ks_superIn K CSharedKey CSharedKey "__init__" = some (some (.builtin "ValueError.__init__")))
    (tpSharedKey : (l.prog.main.scope.names.lookup ("super" : Str)).isSome = false)
    (hgSharedKey : PySem.W.findIn K (.ref CSharedKey) "__getattribute__" = some (some (.builtin "BaseException.__getattribute__")))
    (hkSharedKey : PySem.W.findIn K (.ref CSharedKey) "__getattr__" = some none)
    (hdSharedKey : PySem.W.hasDictIn K CSharedKey = true)
    (haSharedKey : PySem.W.findIn K (.ref CSharedKey) "__class__" = some (some (.builtin "object.__class__")))
    (hnSharedKey : PySem.W.specialIn K (.builtin "object.__class__") "__get__" = some (some (.builtin "getset_descriptor.__get__")))
    (htSharedKey : PySem.W.takesIn K (.builtin "object.__class__") = some true)
    (hmSharedKey : PySem.W.mroIn K CSharedKey (.type "object") = some true)
    (icSharedKey : PySem.W.isClsIn K CSharedKey = true)
    (sCSharedKey : PySem.W.subIn K (.ref CSharedKey) (.ref CSharedKey) = some true)
    (nf_key_SharedKey : PySem.W.findIn K (.ref CSharedKey) "key" = some none)
    (aCWrongKind : PySem.W.nsIn K mainGlobals "WrongKind" = some (some (.ref CWrongKind)))
    (iCWrongKind : PySem.W.findIn K (.ref CWrongKind) "__init__" = some (some (.ref fWrongKind)))
    (tIWrongKind : PySem.W.typeIn K (.ref fWrongKind) = some (.type "function"))
    (lkWrongKind : K.lookup fWrongKind = some ⟨ocWrongKind, odWrongKind, .func ((NF_WrongKind ccWrongKind cWrongKind).fd docWrongKind pmWrongKind ctvWrongKind), oslWrongKind⟩)
    (hcWrongKind : PySem.W.codeIn K (.ref cWrongKind) "WrongKind.__init__" = true)
    (xLWrongKind : K.lookup CWrongKind = some (excClassObj nmWrongKind qWrongKind CWrongKind NWrongKind bsWrongKind [.ref CSamphireError, .type "ValueError", .type "Exception", .type "BaseException", .type "object"] true snWrongKind subWrongKind abWrongKind colWrongKind ddWrongKind m0WrongKind m1WrongKind m2WrongKind m3WrongKind m5WrongKind "ValueError.__new__"))
    (saWrongKind : PySem.W.findIn K (.ref CWrongKind) "__setattr__" = some (some (.builtin "object.__setattr__")))
    (sBWrongKind : PySem.W.subIn K (.ref CWrongKind) (.type "BaseException") = some true)
    (tCWrongKind : PySem.W.typeIn K (.ref CWrongKind) = some (.type "type"))
    (kCWrongKind : PySem.W.keepIn K (.ref CWrongKind) = true)
    (coWrongKind : K.lookup cWrongKind = some ⟨occWrongKind, cddWrongKind, .fields cvsWrongKind.toArray, cslWrongKind⟩)
    (flWrongKind : Sup.flIs cvsWrongKind l.prog.main.file = true)
    (ceWrongKind : K.lookup ccWrongKind = some ⟨cclWrongKind, ccdWrongKind, .cell (some (.ref CWrongKind)), ccsWrongKind⟩)
    (mrWrongKind : PySem.W.mroIn K CWrongKind (.ref CWrongKind) = some true)
    (sVWrongKind : PySem.W.subIn K (.ref CWrongKind) (.type "ValueError") = some true)
    (anWrongKind : PySem.W.nsIn K PySem.cStatics "thirdparty.any" = some none)
    (suWrongKind : PySem.W.ks_superIn K CWrongKind CWrongKind "__init__" = some (some (.builtin "ValueError.__init__")))
    (tpWrongKind : (l.prog.main.scope.names.lookup ("super" : Str)).isSome = false)
    (hgWrongKind : PySem.W.findIn K (.ref CWrongKind) "__getattribute__" = some (some (.builtin "BaseException.__getattribute__")))
    (hkWrongKind : PySem.W.findIn K (.ref CWrongKind) "__getattr__" = some none)
    (hdWrongKind : PySem.W.hasDictIn K CWrongKind = true)
    (haWrongKind : PySem.W.findIn K (.ref CWrongKind) "__class__" = some (some (.builtin "object.__class__")))
    (hnWrongKind : PySem.W.specialIn K (.builtin "object.__class__") "__get__" = some (some (.builtin "getset_descriptor.__get__")))
    (htWrongKind : PySem.W.takesIn K (.builtin "object.__class__") = some true)
    (hmWrongKind : PySem.W.mroIn K CWrongKind (.type "object") = some true)
    (icWrongKind : PySem.W.isClsIn K CWrongKind = true)
    (sCWrongKind : PySem.W.subIn K (.ref CWrongKind) (.ref CWrongKind) = some true)
    (aCZeroDenominator : PySem.W.nsIn K mainGlobals "ZeroDenominator" = some (some (.ref CZeroDenominator)))
    (iCZeroDenominator : PySem.W.findIn K (.ref CZeroDenominator) "__init__" = some (some (.ref fZeroDenominator)))
    (tIZeroDenominator : PySem.W.typeIn K (.ref fZeroDenominator) = some (.type "function"))
    (lkZeroDenominator : K.lookup fZeroDenominator = some ⟨ocZeroDenominator, odZeroDenominator, .func ((NF_ZeroDenominator ccZeroDenominator cZeroDenominator).fd docZeroDenominator pmZeroDenominator ctvZeroDenominator), oslZeroDenominator⟩)
    (hcZeroDenominator : PySem.W.codeIn K (.ref cZeroDenominator) "ZeroDenominator.__init__" = true)
    (xLZeroDenominator : K.lookup CZeroDenominator = some (excClassObj nmZeroDenominator qZeroDenominator CZeroDenominator NZeroDenominator bsZeroDenominator [.ref CSamphireError, .type "ValueError", .type "Exception", .type "BaseException", .type "object"] true snZeroDenominator subZeroDenominator abZeroDenominator colZeroDenominator ddZeroDenominator m0ZeroDenominator m1ZeroDenominator m2ZeroDenominator m3ZeroDenominator m5ZeroDenominator "ValueError.__new__"))
    (saZeroDenominator : PySem.W.findIn K (.ref CZeroDenominator) "__setattr__" = some (some (.builtin "object.__setattr__")))
    (sBZeroDenominator : PySem.W.subIn K (.ref CZeroDenominator) (.type "BaseException") = some true)
    (tCZeroDenominator : PySem.W.typeIn K (.ref CZeroDenominator) = some (.type "type"))
    (kCZeroDenominator : PySem.W.keepIn K (.ref CZeroDenominator) = true)
    (coZeroDenominator : K.lookup cZeroDenominator = some ⟨occZeroDenominator, cddZeroDenominator, .fields cvsZeroDenominator.toArray, cslZeroDenominator⟩)
    (flZeroDenominator : Sup.flIs cvsZeroDenominator l.prog.main.file = true)
    (ceZeroDenominator : K.lookup ccZeroDenominator = some ⟨cclZeroDenominator, ccdZeroDenominator, .cell (some (.ref CZeroDenominator)), ccsZeroDenominator⟩)
    (mrZeroDenominator : PySem.W.mroIn K CZeroDenominator (.ref CZeroDenominator) = some true)
    (sVZeroDenominator : PySem.W.subIn K (.ref CZeroDenominator) (.type "ValueError") = some true)
    (anZeroDenominator : PySem.W.nsIn K PySem.cStatics "thirdparty.any" = some none)
    (suZeroDenominator : PySem.W.ks_superIn K CZeroDenominator CZeroDenominator "__init__" = some (some (.builtin "ValueError.__init__")))
    (tpZeroDenominator : (l.prog.main.scope.names.lookup ("super" : Str)).isSome = false)
    (hgZeroDenominator : PySem.W.findIn K (.ref CZeroDenominator) "__getattribute__" = some (some (.builtin "BaseException.__getattribute__")))
    (hkZeroDenominator : PySem.W.findIn K (.ref CZeroDenominator) "__getattr__" = some none)
    (hdZeroDenominator : PySem.W.hasDictIn K CZeroDenominator = true)
    (haZeroDenominator : PySem.W.findIn K (.ref CZeroDenominator) "__class__" = some (some (.builtin "object.__class__")))
    (hnZeroDenominator : PySem.W.specialIn K (.builtin "object.__class__") "__get__" = some (some (.builtin "getset_descriptor.__get__")))
    (htZeroDenominator : PySem.W.takesIn K (.builtin "object.__class__") = some true)
    (hmZeroDenominator : PySem.W.mroIn K CZeroDenominator (.type "object") = some true)
    (icZeroDenominator : PySem.W.isClsIn K CZeroDenominator = true)
    (sCZeroDenominator : PySem.W.subIn K (.ref CZeroDenominator) (.ref CZeroDenominator) = some true)
    (kitOptimalOptimal : PySem.W.kitOne K (.ref COptimal) (.ref COptimal) = some true)
    (aCOptimal : PySem.W.nsIn K mainGlobals "Optimal" = some (some (.ref COptimal)))
    (pgOptimal : PySem.W.plainGet K COptimal Str.empty = true) (hdOptimal : PySem.W.hasDictIn K COptimal = true) (poOptimal : PySem.W.plainOver K COptimal = true) (saOptimal : PySem.W.findIn K (.ref COptimal) "__setattr__" = some (some (.builtin "object.__setattr__"))) (mkOptimal : PySem.W.makesIn K COptimal = true) (kcOptimal : PySem.W.keepIn K (.ref COptimal) = true)
    (nOptimal_size : PySem.W.findIn K (.ref COptimal) "size" = some none)
    (nOptimal_parts : PySem.W.findIn K (.ref COptimal) "parts" = some none)
    (nOptimal_kept : PySem.W.findIn K (.ref COptimal) "kept" = some none)
    (aCTape : PySem.W.nsIn K mainGlobals "Tape" = some (some (.ref CTape)))
    (pgTape : PySem.W.plainGet K CTape Str.empty = true) (hdTape : PySem.W.hasDictIn K CTape = true) (poTape : PySem.W.plainOver K CTape = true) (saTape : PySem.W.findIn K (.ref CTape) "__setattr__" = some (some (.builtin "object.__setattr__"))) (mkTape : PySem.W.makesIn K CTape = true) (kcTape : PySem.W.keepIn K (.ref CTape) = true)
    (nTape__numbers : PySem.W.findIn K (.ref CTape) "_numbers" = some none)
    (nTape__picks : PySem.W.findIn K (.ref CTape) "_picks" = some none)
    (aCUniform : PySem.W.nsIn K mainGlobals "Uniform" = some (some (.ref CUniform)))
    (pgUniform : PySem.W.plainGet K CUniform Str.empty = true) (hdUniform : PySem.W.hasDictIn K CUniform = true) (poUniform : PySem.W.plainOver K CUniform = true) (saUniform : PySem.W.findIn K (.ref CUniform) "__setattr__" = some (some (.builtin "object.__setattr__"))) (mkUniform : PySem.W.makesIn K CUniform = true) (kcUniform : PySem.W.keepIn K (.ref CUniform) = true)
    (nUniform_size : PySem.W.findIn K (.ref CUniform) "size" = some none)
    (nUniform_seen : PySem.W.findIn K (.ref CUniform) "seen" = some none)
    (nUniform_kept : PySem.W.findIn K (.ref CUniform) "kept" = some none)
    (crdOptimal : PySem.W.readsIn K COptimal (.type "type") = true) (cgaOptimal : PySem.W.specialIn K (.ref COptimal) "__getattribute__" = some (some (.builtin "type.__getattribute__")))
    (isaOptimal : PySem.W.findIn K (.ref COptimal) "__class__" = some (some (.builtin "object.__class__")))
    (isgOptimal : PySem.W.specialIn K (.builtin "object.__class__") "__get__" = some (some (.builtin "getset_descriptor.__get__")))
    (istOptimal : PySem.W.takesIn K (.builtin "object.__class__") = some true)
    (ismOptimal : PySem.W.mroIn K COptimal (.type "object") = some true)
    (isaUniform : PySem.W.findIn K (.ref CUniform) "__class__" = some (some (.builtin "object.__class__")))
    (isgUniform : PySem.W.specialIn K (.builtin "object.__class__") "__get__" = some (some (.builtin "getset_descriptor.__get__")))
    (istUniform : PySem.W.takesIn K (.builtin "object.__class__") = some true)
    (ismUniform : PySem.W.mroIn K CUniform (.type "object") = some true)
    (kitUniformOptimal : PySem.W.kitOne K (.ref CUniform) (.ref COptimal) = some false)
    (kitWrongKindSharedKey : PySem.W.kitOne K (.ref CWrongKind) (.ref CSharedKey) = some false)
    (kitexmSharedKeyWrongKind : PySem.W.exmOne K (.ref CSharedKey) (.ref CWrongKind) = some false)
    (z_abs : PySem.W.nsIn K mainGlobals "abs" = some none)
    (z_int : PySem.W.nsIn K mainGlobals "int" = some none)
    (z_isinstance : PySem.W.nsIn K mainGlobals "isinstance" = some none)
    (z_len : PySem.W.nsIn K mainGlobals "len" = some none)
    (z_list : PySem.W.nsIn K mainGlobals "list" = some none)
    (z_range : PySem.W.nsIn K mainGlobals "range" = some none)
    (z_sorted : PySem.W.nsIn K mainGlobals "sorted" = some none)
    (z_sum : PySem.W.nsIn K mainGlobals "sum" = some none)
    (z_super : PySem.W.nsIn K mainGlobals "super" = some none)
    (z_tuple : PySem.W.nsIn K mainGlobals "tuple" = some none)
    (v_MOST_SIZE : PySem.W.nsIn K mainGlobals "MOST_SIZE" = some (some (.int (20) t_MOST_SIZE)))
    (v_ZERO : PySem.W.nsIn K mainGlobals "ZERO" = some (some (.ref k_ZERO)))
    (l_ZERO : K.lookup k_ZERO = some ⟨.type "tuple", od_ZERO, .seq #[.int (0) t0_ZERO, .int (1) t1_ZERO] nn_ZERO, sl_ZERO⟩)
    (g_gcd : PySem.W.nsIn K mainGlobals "gcd" = some (some (.builtin "math.gcd"))) :
    ∃ fd : FuncData, (∀ (s : Shared) (v : Value), BindsTo s fd ⟨[v], []⟩ [("script", v)]) ∧ ∀ base : Heap, K.In base → base.Ns mainGlobals mg → FnOk l.prog w K mg base CX0 7 fa fd ["script"] (spLaw K) := by
  have e : f28 = fa := by
    have e := hfa.symm.trans (PySem.W.mg_of X G a28)
    cases e
    rfl
  subst e
  let t : T l.prog K mg := {
    a_lowest := f1, fd_lowest := _, F_lowest := fun_mk (st := s_lowest) l1 c1 k1, b_lowest := (fun_mk (st := s_lowest) l1 c1 k1).binds (ps := ["p", "q"]) (fun _ _ _ _ _ _ us hl => match us, hl with | [_, _], _ => rfl),
    g_lowest := PySem.W.mg_of X G a1,
    a_plus := f2, fd_plus := _, F_plus := fun_mk (st := s_plus) l2 c2 k2, b_plus := (fun_mk (st := s_plus) l2 c2 k2).binds (ps := ["a", "b"]) (fun _ _ _ _ _ _ us hl => match us, hl with | [_, _], _ => rfl),
    g_plus := PySem.W.mg_of X G a2,
    a_sum_of := f3, fd_sum_of := _, F_sum_of := fun_mk (st := s_sum_of) l3 c3 k3, b_sum_of := (fun_mk (st := s_sum_of) l3 c3 k3).binds (ps := ["fractions"]) (fun _ _ _ _ _ _ us hl => match us, hl with | [_], _ => rfl),
    g_sum_of := PySem.W.mg_of X G a3,
    a_check_size := f4, fd_check_size := _, F_check_size := fun_mk (st := s_check_size) l4 c4 k4, b_check_size := (fun_mk (st := s_check_size) l4 c4 k4).binds (ps := ["size"]) (fun _ _ _ _ _ _ us hl => match us, hl with | [_], _ => rfl),
    g_check_size := PySem.W.mg_of X G a4,
    a_least_twice := f5, fd_least_twice := _, F_least_twice := fun_mk (st := s_least_twice) l5 c5 k5, b_least_twice := (fun_mk (st := s_least_twice) l5 c5 k5).binds (ps := ["names"]) (fun _ _ _ _ _ _ us hl => match us, hl with | [_], _ => rfl),
    g_least_twice := PySem.W.mg_of X G a5,
    a_check_keys := f6, fd_check_keys := _, F_check_keys := fun_mk (st := s_check_keys) l6 c6 k6, b_check_keys := (fun_mk (st := s_check_keys) l6 c6 k6).binds (ps := ["samples"]) (fun _ _ _ _ _ _ us hl => match us, hl with | [_], _ => rfl),
    g_check_keys := PySem.W.mg_of X G a6,
    a_Optimal_init := f7, fd_Optimal_init := _, F_Optimal_init := fun_mk (st := s_Optimal_init) l7 c7 k7, b_Optimal_init := (fun_mk (st := s_Optimal_init) l7 c7 k7).binds (ps := ["self", "size", "parts"]) (fun _ _ _ _ _ _ us hl => match us, hl with | [_, _, _], _ => rfl),
    a_Optimal_empty := f8, fd_Optimal_empty := _, F_Optimal_empty := fun_mk (st := s_Optimal_empty) l8 c8 k8, b_Optimal_empty := (fun_mk (st := s_Optimal_empty) l8 c8 k8).binds (ps := ["cls", "size"]) (fun _ _ _ _ _ _ us hl => match us, hl with | [_, _], _ => rfl),
    a_Optimal_single := f9, fd_Optimal_single := _, F_Optimal_single := fun_mk (st := s_Optimal_single) l9 c9 k9, b_Optimal_single := (fun_mk (st := s_Optimal_single) l9 c9 k9).binds (ps := ["cls", "item", "size"]) (fun _ _ _ _ _ _ us hl => match us, hl with | [_, _, _], _ => rfl),
    a_Optimal_merge := f10, fd_Optimal_merge := _, F_Optimal_merge := fun_mk (st := s_Optimal_merge) l10 c10 k10, b_Optimal_merge := (fun_mk (st := s_Optimal_merge) l10 c10 k10).binds (ps := ["self", "other", "dice"]) (fun _ _ _ _ _ _ us hl => match us, hl with | [_, _, _], _ => rfl),
    a_Optimal_adjusted_sum := f11, fd_Optimal_adjusted_sum := _, F_Optimal_adjusted_sum := fun_mk (st := s_Optimal_adjusted_sum) l11 c11 k11, b_Optimal_adjusted_sum := (fun_mk (st := s_Optimal_adjusted_sum) l11 c11 k11).binds (ps := ["self"]) (fun _ _ _ _ _ _ us hl => match us, hl with | [_], _ => rfl),
    a_Optimal_view := f12, fd_Optimal_view := _, F_Optimal_view := fun_mk (st := s_Optimal_view) l12 c12 k12, b_Optimal_view := (fun_mk (st := s_Optimal_view) l12 c12 k12).binds (ps := ["self"]) (fun _ _ _ _ _ _ us hl => match us, hl with | [_], _ => rfl),
    a_number_at := f13, fd_number_at := _, F_number_at := fun_mk (st := s_number_at) l13 c13 k13, b_number_at := (fun_mk (st := s_number_at) l13 c13 k13).binds (ps := ["weights", "place"]) (fun _ _ _ _ _ _ us hl => match us, hl with | [_, _], _ => rfl),
    g_number_at := PySem.W.mg_of X G a13,
    a_Tape_init := f14, fd_Tape_init := _, F_Tape_init := fun_mk (st := s_Tape_init) l14 c14 k14, b_Tape_init := (fun_mk (st := s_Tape_init) l14 c14 k14).binds (ps := ["self", "numbers"]) (fun _ _ _ _ _ _ us hl => match us, hl with | [_, _], _ => rfl),
    a_Tape_pick := f15, fd_Tape_pick := _, F_Tape_pick := fun_mk (st := s_Tape_pick) l15 c15 k15, b_Tape_pick := (fun_mk (st := s_Tape_pick) l15 c15 k15).binds (ps := ["self", "weights"]) (fun _ _ _ _ _ _ us hl => match us, hl with | [_, _], _ => rfl),
    a_Tape_used := f16, fd_Tape_used := _, F_Tape_used := fun_mk (st := s_Tape_used) l16 c16 k16, b_Tape_used := (fun_mk (st := s_Tape_used) l16 c16 k16).binds (ps := ["self"]) (fun _ _ _ _ _ _ us hl => match us, hl with | [_], _ => rfl),
    a_Uniform_init := f17, fd_Uniform_init := _, F_Uniform_init := fun_mk (st := s_Uniform_init) l17 c17 k17, b_Uniform_init := (fun_mk (st := s_Uniform_init) l17 c17 k17).binds (ps := ["self", "size", "seen", "kept"]) (fun _ _ _ _ _ _ us hl => match us, hl with | [_, _, _, _], _ => rfl),
    a__law_mix := f18, fd__law_mix := _, F__law_mix := fun_mk (st := s__law_mix) l18 c18 k18, b__law_mix := (fun_mk (st := s__law_mix) l18 c18 k18).binds (ps := ["number", "k"]) (fun _ _ _ _ _ _ us hl => match us, hl with | [_, _], _ => rfl),
    g__law_mix := PySem.W.mg_of X G a18,
    a__law_numbers := f19, fd__law_numbers := _, F__law_numbers := fun_mk (st := s__law_numbers) l19 c19 k19, b__law_numbers := (fun_mk (st := s__law_numbers) l19 c19 k19).binds (ps := ["script", "count"]) (fun _ _ _ _ _ _ us hl => match us, hl with | [_, _], _ => rfl),
    g__law_numbers := PySem.W.mg_of X G a19,
    a__law_take := f20, fd__law_take := _, F__law_take := fun_mk (st := s__law_take) l20 c20 k20, b__law_take := (fun_mk (st := s__law_take) l20 c20 k20).binds (ps := ["row", "bound"]) (fun _ _ _ _ _ _ us hl => match us, hl with | [_, _], _ => rfl),
    g__law_take := PySem.W.mg_of X G a20,
    a__law_low := f21, fd__law_low := _, F__law_low := fun_mk (st := s__law_low) l21 c21 k21, b__law_low := (fun_mk (st := s__law_low) l21 c21 k21).binds (ps := ["p", "q"]) (fun _ _ _ _ _ _ us hl => match us, hl with | [_, _], _ => rfl),
    g__law_low := PySem.W.mg_of X G a21,
    a__law_plus := f22, fd__law_plus := _, F__law_plus := fun_mk (st := s__law_plus) l22 c22 k22, b__law_plus := (fun_mk (st := s__law_plus) l22 c22 k22).binds (ps := ["one", "other"]) (fun _ _ _ _ _ _ us hl => match us, hl with | [_, _], _ => rfl),
    g__law_plus := PySem.W.mg_of X G a22,
    a__law_sum := f23, fd__law_sum := _, F__law_sum := fun_mk (st := s__law_sum) l23 c23 k23, b__law_sum := (fun_mk (st := s__law_sum) l23 c23 k23).binds (ps := ["rows"]) (fun _ _ _ _ _ _ us hl => match us, hl with | [_], _ => rfl),
    g__law_sum := PySem.W.mg_of X G a23,
    a__law_items := f24, fd__law_items := _, F__law_items := fun_mk (st := s__law_items) l24 c24 k24, b__law_items := (fun_mk (st := s__law_items) l24 c24 k24).binds (ps := ["row", "many"]) (fun _ _ _ _ _ _ us hl => match us, hl with | [_, _], _ => rfl),
    g__law_items := PySem.W.mg_of X G a24,
    a__law_parts := f25, fd__law_parts := _, F__law_parts := fun_mk (st := s__law_parts) l25 c25 k25, b__law_parts := (fun_mk (st := s__law_parts) l25 c25 k25).binds (ps := ["row", "things"]) (fun _ _ _ _ _ _ us hl => match us, hl with | [_, _], _ => rfl),
    g__law_parts := PySem.W.mg_of X G a25,
    a__law_made := f26, fd__law_made := _, F__law_made := fun_mk (st := s__law_made) l26 c26 k26, b__law_made := (fun_mk (st := s__law_made) l26 c26 k26).binds (ps := ["item", "size", "is_single"]) (fun _ _ _ _ _ _ us hl => match us, hl with | [_, _, _], _ => rfl),
    g__law_made := PySem.W.mg_of X G a26,
    a__law_merged := f27, fd__law_merged := _, F__law_merged := fun_mk (st := s__law_merged) l27 c27 k27, b__law_merged := (fun_mk (st := s__law_merged) l27 c27 k27).binds (ps := ["one", "other", "tape"]) (fun _ _ _ _ _ _ us hl => match us, hl with | [_, _, _], _ => rfl),
    g__law_merged := PySem.W.mg_of X G a27,
    a_law := f28, fd_law := _, F_law := fun_mk (st := s_law) l28 c28 k28, b_law := (fun_mk (st := s_law) l28 c28 k28).binds (ps := ["script"]) (fun _ _ _ _ _ _ us hl => match us, hl with | [_], _ => rfl),
    g_law := PySem.W.mg_of X G a28,
    C_SamphireError := CSamphireError, mg_SamphireError := PySem.W.mg_of X G aCSamphireError,
    C_InvalidSize := CInvalidSize, a_InvalidSize_init := fInvalidSize, c_InvalidSize := cInvalidSize, cc_InvalidSize := ccInvalidSize, doc_InvalidSize := docInvalidSize, pm_InvalidSize := pmInvalidSize, ctv_InvalidSize := ctvInvalidSize, oc_InvalidSize := ocInvalidSize, od_InvalidSize := odInvalidSize, osl_InvalidSize := oslInvalidSize, lk_InvalidSize := lkInvalidSize, hc_InvalidSize := hcInvalidSize,
    x_InvalidSize := Sup.excT_mk xLInvalidSize rfl saInvalidSize sBInvalidSize tCInvalidSize kCInvalidSize coInvalidSize flInvalidSize ceInvalidSize mrInvalidSize sVInvalidSize (PySem.W.mg_none_of X G z_super) anInvalidSize suInvalidSize tpInvalidSize (PySem.W.mg_of X G aCInvalidSize) iCInvalidSize tIInvalidSize ⟨hgInvalidSize, hkInvalidSize, sBInvalidSize, hdInvalidSize, haInvalidSize, hnInvalidSize, htInvalidSize, hmInvalidSize⟩ icInvalidSize sCInvalidSize,
    bx_InvalidSize := .all (fun us hl => match us, hl with | [_, _], _ => rfl),
    nf_InvalidSize_size := nf_size_InvalidSize,
    C_SharedKey := CSharedKey, a_SharedKey_init := fSharedKey, c_SharedKey := cSharedKey, cc_SharedKey := ccSharedKey, doc_SharedKey := docSharedKey, pm_SharedKey := pmSharedKey, ctv_SharedKey := ctvSharedKey, oc_SharedKey := ocSharedKey, od_SharedKey := odSharedKey, osl_SharedKey := oslSharedKey, lk_SharedKey := lkSharedKey, hc_SharedKey := hcSharedKey,
    x_SharedKey := Sup.excT_mk xLSharedKey rfl saSharedKey sBSharedKey tCSharedKey kCSharedKey coSharedKey flSharedKey ceSharedKey mrSharedKey sVSharedKey (PySem.W.mg_none_of X G z_super) anSharedKey suSharedKey tpSharedKey (PySem.W.mg_of X G aCSharedKey) iCSharedKey tISharedKey ⟨hgSharedKey, hkSharedKey, sBSharedKey, hdSharedKey, haSharedKey, hnSharedKey, htSharedKey, hmSharedKey⟩ icSharedKey sCSharedKey,
    bx_SharedKey := .all (fun us hl => match us, hl with | [_, _], _ => rfl),
    nf_SharedKey_key := nf_key_SharedKey,
    C_WrongKind := CWrongKind, a_WrongKind_init := fWrongKind, c_WrongKind := cWrongKind, cc_WrongKind := ccWrongKind, doc_WrongKind := docWrongKind, pm_WrongKind := pmWrongKind, ctv_WrongKind := ctvWrongKind, oc_WrongKind := ocWrongKind, od_WrongKind := odWrongKind, osl_WrongKind := oslWrongKind, lk_WrongKind := lkWrongKind, hc_WrongKind := hcWrongKind,
    x_WrongKind := Sup.excT_mk xLWrongKind rfl saWrongKind sBWrongKind tCWrongKind kCWrongKind coWrongKind flWrongKind ceWrongKind mrWrongKind sVWrongKind (PySem.W.mg_none_of X G z_super) anWrongKind suWrongKind tpWrongKind (PySem.W.mg_of X G aCWrongKind) iCWrongKind tIWrongKind ⟨hgWrongKind, hkWrongKind, sBWrongKind, hdWrongKind, haWrongKind, hnWrongKind, htWrongKind, hmWrongKind⟩ icWrongKind sCWrongKind,
    bx_WrongKind := .all (fun us hl => match us, hl with | [_], _ => rfl),
    C_ZeroDenominator := CZeroDenominator, a_ZeroDenominator_init := fZeroDenominator, c_ZeroDenominator := cZeroDenominator, cc_ZeroDenominator := ccZeroDenominator, doc_ZeroDenominator := docZeroDenominator, pm_ZeroDenominator := pmZeroDenominator, ctv_ZeroDenominator := ctvZeroDenominator, oc_ZeroDenominator := ocZeroDenominator, od_ZeroDenominator := odZeroDenominator, osl_ZeroDenominator := oslZeroDenominator, lk_ZeroDenominator := lkZeroDenominator, hc_ZeroDenominator := hcZeroDenominator,
    x_ZeroDenominator := Sup.excT_mk xLZeroDenominator rfl saZeroDenominator sBZeroDenominator tCZeroDenominator kCZeroDenominator coZeroDenominator flZeroDenominator ceZeroDenominator mrZeroDenominator sVZeroDenominator (PySem.W.mg_none_of X G z_super) anZeroDenominator suZeroDenominator tpZeroDenominator (PySem.W.mg_of X G aCZeroDenominator) iCZeroDenominator tIZeroDenominator ⟨hgZeroDenominator, hkZeroDenominator, sBZeroDenominator, hdZeroDenominator, haZeroDenominator, hnZeroDenominator, htZeroDenominator, hmZeroDenominator⟩ icZeroDenominator sCZeroDenominator,
    bx_ZeroDenominator := .all (fun us hl => match us, hl with | [_], _ => rfl),
    kit_Optimal_Optimal := kitOptimalOptimal,
    C_Optimal := COptimal, cl_Optimal := ⟨pgOptimal, hdOptimal, poOptimal, saOptimal⟩, mg_Optimal := PySem.W.mg_of X G aCOptimal,
    mk_Optimal := ⟨mkOptimal, a7, i7, kcOptimal⟩,
    na_Optimal_size := nOptimal_size,
    na_Optimal_parts := nOptimal_parts,
    na_Optimal_kept := nOptimal_kept,
    p_Optimal_empty := q8, cm_Optimal_empty := ⟨a8, ⟨rest8, rc8⟩, i8⟩,
    p_Optimal_single := q9, cm_Optimal_single := ⟨a9, ⟨rest9, rc9⟩, i9⟩,
    me_Optimal_merge := ⟨a10, i10, k10⟩,
    me_Optimal_adjusted_sum := ⟨a11, i11, k11⟩,
    me_Optimal_view := ⟨a12, i12, k12⟩,
    C_Tape := CTape, cl_Tape := ⟨pgTape, hdTape, poTape, saTape⟩, mg_Tape := PySem.W.mg_of X G aCTape,
    mk_Tape := ⟨mkTape, a14, i14, kcTape⟩,
    na_Tape__numbers := nTape__numbers,
    na_Tape__picks := nTape__picks,
    me_Tape_pick := ⟨a15, i15, k15⟩,
    me_Tape_used := ⟨a16, i16, k16⟩,
    C_Uniform := CUniform, cl_Uniform := ⟨pgUniform, hdUniform, poUniform, saUniform⟩, mg_Uniform := PySem.W.mg_of X G aCUniform,
    mk_Uniform := ⟨mkUniform, a17, i17, kcUniform⟩,
    na_Uniform_size := nUniform_size,
    na_Uniform_seen := nUniform_seen,
    na_Uniform_kept := nUniform_kept,
    cr_Optimal := ⟨crdOptimal, cgaOptimal⟩,
    isa_Optimal := isaOptimal,
    isg_Optimal := isgOptimal,
    ist_Optimal := istOptimal,
    ism_Optimal := ismOptimal,
    isa_Uniform := isaUniform,
    isg_Uniform := isgUniform,
    ist_Uniform := istUniform,
    ism_Uniform := ismUniform,
    kit_Uniform_Optimal := kitUniformOptimal,
    kit_WrongKind_SharedKey := kitWrongKindSharedKey,
    exm_SharedKey_WrongKind := kitexmSharedKeyWrongKind,
    z_abs := PySem.W.mg_none_of X G z_abs,
    z_int := PySem.W.mg_none_of X G z_int,
    z_isinstance := PySem.W.mg_none_of X G z_isinstance,
    z_len := PySem.W.mg_none_of X G z_len,
    z_list := PySem.W.mg_none_of X G z_list,
    z_range := PySem.W.mg_none_of X G z_range,
    z_sorted := PySem.W.mg_none_of X G z_sorted,
    z_sum := PySem.W.mg_none_of X G z_sum,
    z_super := PySem.W.mg_none_of X G z_super,
    z_tuple := PySem.W.mg_none_of X G z_tuple,
    v_MOST_SIZE := _, g_MOST_SIZE := PySem.W.mg_of X G v_MOST_SIZE, r_MOST_SIZE := ⟨_, rfl⟩,
    k_ZERO := k_ZERO, g_ZERO := PySem.W.mg_of X G v_ZERO, q_ZERO := fun H => .inr ⟨_, _, _, l_ZERO, rfl, rfl, (show 2 ≤ sizeLine by decide), (.cons ⟨_, rfl⟩ (.cons ⟨_, rfl⟩ .nil))⟩,
    g_gcd := PySem.W.mg_of X G g_gcd }
  exact ⟨t.fd_law, fun s v => .of_eq rfl, fun base _ _ => ok_law t⟩

end K30
open PySem PySem.W PyProof.Rows in
set_option maxRecDepth 100000 in
set_option maxHeartbeats 0 in
theorem PySem.Challenge.cw_samphire_k30_optimal_samples_as_objects_holds : PySem.Challenge.rw_samphire_k30_optimal_samples_as_objects.Holds := by
  w_on; o_law; k_head; (case hw => w_witness2)
  k_fill
  refine L2.walk_ofB (l := PySem.Challenge.rw_samphire_k30_optimal_samples_as_objects) (n := 63) (k := 7) (x := "script") (CX := fun w => L2.CX0) (sp := fun w => K30.spLaw _) rfl (by decide) rfl ⟨rfl, by decide, by decide⟩ (fun w h Y => PySem.W.kIn_of Y) ?F (fun _ H a ns hl hb _ hS => ⟨a, ns, rfl, hS, hl, hb, fun _ => rfl⟩) (fun _ _ _ _ _ h => h)
  case F =>
    intro w mg fa h KX G hmg
    refine' K30.all_mk KX G hmg ?a1 ?l1 ?c1 ?k1 ?a2 ?l2 ?c2 ?k2 ?a3 ?l3 ?c3 ?k3 ?a4 ?l4 ?c4 ?k4 ?a5 ?l5 ?c5 ?k5 ?a6 ?l6 ?c6 ?k6 ?a7 ?i7 ?l7 ?c7 ?k7 ?a8 ?rc8 ?i8 ?l8 ?c8 ?k8 ?a9 ?rc9 ?i9 ?l9 ?c9 ?k9 ?a10 ?i10 ?l10 ?c10 ?k10 ?a11 ?i11 ?l11 ?c11 ?k11 ?a12 ?i12 ?l12 ?c12 ?k12 ?a13 ?l13 ?c13 ?k13 ?a14 ?i14 ?l14 ?c14 ?k14 ?a15 ?i15 ?l15 ?c15 ?k15 ?a16 ?i16 ?l16 ?c16 ?k16 ?a17 ?i17 ?l17 ?c17 ?k17 ?a18 ?l18 ?c18 ?k18 ?a19 ?l19 ?c19 ?k19 ?a20 ?l20 ?c20 ?k20 ?a21 ?l21 ?c21 ?k21 ?a22 ?l22 ?c22 ?k22 ?a23 ?l23 ?c23 ?k23 ?a24 ?l24 ?c24 ?k24 ?a25 ?l25 ?c25 ?k25 ?a26 ?l26 ?c26 ?k26 ?a27 ?l27 ?c27 ?k27 ?a28 ?l28 ?c28 ?k28 ?aCSamphireError ?aCInvalidSize ?iCInvalidSize ?tIInvalidSize ?lkInvalidSize ?hcInvalidSize ?xLInvalidSize ?saInvalidSize ?sBInvalidSize ?tCInvalidSize ?kCInvalidSize ?coInvalidSize ?flInvalidSize ?ceInvalidSize ?mrInvalidSize ?sVInvalidSize ?anInvalidSize ?suInvalidSize ?tpInvalidSize ?hgInvalidSize ?hkInvalidSize ?hdInvalidSize ?haInvalidSize ?hnInvalidSize ?htInvalidSize ?hmInvalidSize ?icInvalidSize ?sCInvalidSize ?nf_size_InvalidSize ?aCSharedKey ?iCSharedKey ?tISharedKey ?lkSharedKey ?hcSharedKey ?xLSharedKey ?saSharedKey ?sBSharedKey ?tCSharedKey ?kCSharedKey ?coSharedKey ?flSharedKey ?ceSharedKey ?mrSharedKey ?sVSharedKey ?anSharedKey ?suSharedKey ?tpSharedKey ?hgSharedKey ?hkSharedKey ?hdSharedKey ?haSharedKey ?hnSharedKey ?htSharedKey ?hmSharedKey ?icSharedKey ?sCSharedKey ?nf_key_SharedKey ?aCWrongKind ?iCWrongKind ?tIWrongKind ?lkWrongKind ?hcWrongKind ?xLWrongKind ?saWrongKind ?sBWrongKind ?tCWrongKind ?kCWrongKind ?coWrongKind ?flWrongKind ?ceWrongKind ?mrWrongKind ?sVWrongKind ?anWrongKind ?suWrongKind ?tpWrongKind ?hgWrongKind ?hkWrongKind ?hdWrongKind ?haWrongKind ?hnWrongKind ?htWrongKind ?hmWrongKind ?icWrongKind ?sCWrongKind ?aCZeroDenominator ?iCZeroDenominator ?tIZeroDenominator ?lkZeroDenominator ?hcZeroDenominator ?xLZeroDenominator ?saZeroDenominator ?sBZeroDenominator ?tCZeroDenominator ?kCZeroDenominator ?coZeroDenominator ?flZeroDenominator ?ceZeroDenominator ?mrZeroDenominator ?sVZeroDenominator ?anZeroDenominator ?suZeroDenominator ?tpZeroDenominator ?hgZeroDenominator ?hkZeroDenominator ?hdZeroDenominator ?haZeroDenominator ?hnZeroDenominator ?htZeroDenominator ?hmZeroDenominator ?icZeroDenominator ?sCZeroDenominator ?kitOptimalOptimal ?aCOptimal ?pgOptimal ?hdOptimal ?poOptimal ?saOptimal ?mkOptimal ?kcOptimal ?nOptimal_size ?nOptimal_parts ?nOptimal_kept ?aCTape ?pgTape ?hdTape ?poTape ?saTape ?mkTape ?kcTape ?nTape__numbers ?nTape__picks ?aCUniform ?pgUniform ?hdUniform ?poUniform ?saUniform ?mkUniform ?kcUniform ?nUniform_size ?nUniform_seen ?nUniform_kept ?crdOptimal ?cgaOptimal ?isaOptimal ?isgOptimal ?istOptimal ?ismOptimal ?isaUniform ?isgUniform ?istUniform ?ismUniform ?kitUniformOptimal ?kitWrongKindSharedKey ?kitexmSharedKeyWrongKind ?z_abs ?z_int ?z_isinstance ?z_len ?z_list ?z_range ?z_sorted ?z_sum ?z_super ?z_tuple ?v_MOST_SIZE ?v_ZERO ?l_ZERO ?g_gcd
    (case aCSamphireError => k_is)
    (case aCInvalidSize => k_is)
    (case aCSharedKey => k_is)
    (case aCWrongKind => k_is)
    (case aCZeroDenominator => k_is)
    (case aCOptimal => k_is)
    (case aCTape => k_is)
    (case aCUniform => k_is)
    (case a1 => k_is)
    (case l1 => k_is)
    (case c1 => k_is)
    (case k1 => k_is)
    (case a2 => k_is)
    (case l2 => k_is)
    (case c2 => k_is)
    (case k2 => k_is)
    (case a3 => k_is)
    (case l3 => k_is)
    (case c3 => k_is)
    (case k3 => k_is)
    (case a4 => k_is)
    (case l4 => k_is)
    (case c4 => k_is)
    (case k4 => k_is)
    (case a5 => k_is)
    (case l5 => k_is)
    (case c5 => k_is)
    (case k5 => k_is)
    (case a6 => k_is)
    (case l6 => k_is)
    (case c6 => k_is)
    (case k6 => k_is)
    (case a7 => k_is)
    (case i7 => k_is)
    (case l7 => k_is)
    (case c7 => k_is)
    (case k7 => k_is)
    (case a8 => k_is)
    (case rc8 => k_is)
    (case i8 => k_is)
    (case l8 => k_is)
    (case c8 => k_is)
    (case k8 => k_is)
    (case a9 => k_is)
    (case rc9 => k_is)
    (case i9 => k_is)
    (case l9 => k_is)
    (case c9 => k_is)
    (case k9 => k_is)
    (case a10 => k_is)
    (case i10 => k_is)
    (case l10 => k_is)
    (case c10 => k_is)
    (case k10 => k_is)
    (case a11 => k_is)
    (case i11 => k_is)
    (case l11 => k_is)
    (case c11 => k_is)
    (case k11 => k_is)
    (case a12 => k_is)
    (case i12 => k_is)
    (case l12 => k_is)
    (case c12 => k_is)
    (case k12 => k_is)
    (case a13 => k_is)
    (case l13 => k_is)
    (case c13 => k_is)
    (case k13 => k_is)
    (case a14 => k_is)
    (case i14 => k_is)
    (case l14 => k_is)
    (case c14 => k_is)
    (case k14 => k_is)
    (case a15 => k_is)
    (case i15 => k_is)
    (case l15 => k_is)
    (case c15 => k_is)
    (case k15 => k_is)
    (case a16 => k_is)
    (case i16 => k_is)
    (case l16 => k_is)
    (case c16 => k_is)
    (case k16 => k_is)
    (case a17 => k_is)
    (case i17 => k_is)
    (case l17 => k_is)
    (case c17 => k_is)
    (case k17 => k_is)
    (case a18 => k_is)
    (case l18 => k_is)
    (case c18 => k_is)
    (case k18 => k_is)
    (case a19 => k_is)
    (case l19 => k_is)
    (case c19 => k_is)
    (case k19 => k_is)
    (case a20 => k_is)
    (case l20 => k_is)
    (case c20 => k_is)
    (case k20 => k_is)
    (case a21 => k_is)
    (case l21 => k_is)
    (case c21 => k_is)
    (case k21 => k_is)
    (case a22 => k_is)
    (case l22 => k_is)
    (case c22 => k_is)
    (case k22 => k_is)
    (case a23 => k_is)
    (case l23 => k_is)
    (case c23 => k_is)
    (case k23 => k_is)
    (case a24 => k_is)
    (case l24 => k_is)
    (case c24 => k_is)
    (case k24 => k_is)
    (case a25 => k_is)
    (case l25 => k_is)
    (case c25 => k_is)
    (case k25 => k_is)
    (case a26 => k_is)
    (case l26 => k_is)
    (case c26 => k_is)
    (case k26 => k_is)
    (case a27 => k_is)
    (case l27 => k_is)
    (case c27 => k_is)
    (case k27 => k_is)
    (case a28 => k_is)
    (case l28 => k_is)
    (case c28 => k_is)
    (case k28 => k_is)
    (case iCInvalidSize => k_is)
    (case tIInvalidSize => k_is)
    (case lkInvalidSize => k_is)
    (case hcInvalidSize => k_is)
    (case xLInvalidSize => k_is)
    (case saInvalidSize => k_is)
    (case sBInvalidSize => k_is)
    (case tCInvalidSize => k_is)
    (case kCInvalidSize => k_is)
    (case coInvalidSize => k_is)
    (case flInvalidSize => first | rfl | decide +kernel)
    (case ceInvalidSize => k_is)
    (case mrInvalidSize => first | rfl | k_is)
    (case sVInvalidSize => k_is)
    (case anInvalidSize => k_is)
    (case suInvalidSize => ks_is)
    (case tpInvalidSize => first | rfl | decide +kernel)
    (case hgInvalidSize => k_is)
    (case hkInvalidSize => k_is)
    (case hdInvalidSize => k_is)
    (case haInvalidSize => k_is)
    (case hnInvalidSize => k_is)
    (case htInvalidSize => k_is)
    (case hmInvalidSize => k_is)
    (case icInvalidSize => k_is)
    (case sCInvalidSize => first | rfl | k_is)
    (case nf_size_InvalidSize => k_is)
    (case iCSharedKey => k_is)
    (case tISharedKey => k_is)
    (case lkSharedKey => k_is)
    (case hcSharedKey => k_is)
    (case xLSharedKey => k_is)
    (case saSharedKey => k_is)
    (case sBSharedKey => k_is)
    (case tCSharedKey => k_is)
    (case kCSharedKey => k_is)
    (case coSharedKey => k_is)
    (case flSharedKey => first | rfl | decide +kernel)
    (case ceSharedKey => k_is)
    (case mrSharedKey => first | rfl | k_is)
    (case sVSharedKey => k_is)
    (case anSharedKey => k_is)
    (case suSharedKey => ks_is)
    (case tpSharedKey => first | rfl | decide +kernel)
    (case hgSharedKey => k_is)
    (case hkSharedKey => k_is)
    (case hdSharedKey => k_is)
    (case haSharedKey => k_is)
    (case hnSharedKey => k_is)
    (case htSharedKey => k_is)
    (case hmSharedKey => k_is)
    (case icSharedKey => k_is)
    (case sCSharedKey => first | rfl | k_is)
    (case nf_key_SharedKey => k_is)
    (case iCWrongKind => k_is)
    (case tIWrongKind => k_is)
    (case lkWrongKind => k_is)
    (case hcWrongKind => k_is)
    (case xLWrongKind => k_is)
    (case saWrongKind => k_is)
    (case sBWrongKind => k_is)
    (case tCWrongKind => k_is)
    (case kCWrongKind => k_is)
    (case coWrongKind => k_is)
    (case flWrongKind => first | rfl | decide +kernel)
    (case ceWrongKind => k_is)
    (case mrWrongKind => first | rfl | k_is)
    (case sVWrongKind => k_is)
    (case anWrongKind => k_is)
    (case suWrongKind => ks_is)
    (case tpWrongKind => first | rfl | decide +kernel)
    (case hgWrongKind => k_is)
    (case hkWrongKind => k_is)
    (case hdWrongKind => k_is)
    (case haWrongKind => k_is)
    (case hnWrongKind => k_is)
    (case htWrongKind => k_is)
    (case hmWrongKind => k_is)
    (case icWrongKind => k_is)
    (case sCWrongKind => first | rfl | k_is)
    (case iCZeroDenominator => k_is)
    (case tIZeroDenominator => k_is)
    (case lkZeroDenominator => k_is)
    (case hcZeroDenominator => k_is)
    (case xLZeroDenominator => k_is)
    (case saZeroDenominator => k_is)
    (case sBZeroDenominator => k_is)
    (case tCZeroDenominator => k_is)
    (case kCZeroDenominator => k_is)
    (case coZeroDenominator => k_is)
    (case flZeroDenominator => first | rfl | decide +kernel)
    (case ceZeroDenominator => k_is)
    (case mrZeroDenominator => first | rfl | k_is)
    (case sVZeroDenominator => k_is)
    (case anZeroDenominator => k_is)
    (case suZeroDenominator => ks_is)
    (case tpZeroDenominator => first | rfl | decide +kernel)
    (case hgZeroDenominator => k_is)
    (case hkZeroDenominator => k_is)
    (case hdZeroDenominator => k_is)
    (case haZeroDenominator => k_is)
    (case hnZeroDenominator => k_is)
    (case htZeroDenominator => k_is)
    (case hmZeroDenominator => k_is)
    (case icZeroDenominator => k_is)
    (case sCZeroDenominator => first | rfl | k_is)
    (case kitOptimalOptimal => first | rfl | k_is | decide +kernel)
    (case pgOptimal => k_is)
    (case hdOptimal => k_is)
    (case poOptimal => k_is)
    (case saOptimal => k_is)
    (case mkOptimal => k_is)
    (case kcOptimal => k_is)
    (case nOptimal_size => k_is)
    (case nOptimal_parts => k_is)
    (case nOptimal_kept => k_is)
    (case pgTape => k_is)
    (case hdTape => k_is)
    (case poTape => k_is)
    (case saTape => k_is)
    (case mkTape => k_is)
    (case kcTape => k_is)
    (case nTape__numbers => k_is)
    (case nTape__picks => k_is)
    (case pgUniform => k_is)
    (case hdUniform => k_is)
    (case poUniform => k_is)
    (case saUniform => k_is)
    (case mkUniform => k_is)
    (case kcUniform => k_is)
    (case nUniform_size => k_is)
    (case nUniform_seen => k_is)
    (case nUniform_kept => k_is)
    (case crdOptimal => k_is)
    (case cgaOptimal => k_is)
    (case isaOptimal => k_is)
    (case isgOptimal => k_is)
    (case istOptimal => k_is)
    (case ismOptimal => k_is)
    (case isaUniform => k_is)
    (case isgUniform => k_is)
    (case istUniform => k_is)
    (case ismUniform => k_is)
    (case kitUniformOptimal => first | rfl | k_is | decide +kernel)
    (case kitWrongKindSharedKey => first | rfl | k_is | decide +kernel)
    (case kitexmSharedKeyWrongKind => first | rfl | k_is | decide +kernel)
    (case z_abs => k_is)
    (case z_int => k_is)
    (case z_isinstance => k_is)
    (case z_len => k_is)
    (case z_list => k_is)
    (case z_range => k_is)
    (case z_sorted => k_is)
    (case z_sum => k_is)
    (case z_super => k_is)
    (case z_tuple => k_is)
    (case v_MOST_SIZE => k_is)
    (case v_ZERO => k_is)
    (case l_ZERO => k_is)
    (case g_gcd => k_is)
