import PyProof.Rows.All
import Wide.All
import OpenK.AllK
import Wide.FinOn
import HandS.ForMost
import HandS.ForExc
import HandS.EndBits
import HandS.Wide
import HandS.IsInst
import HandS.ExcInit
import HandS.Nested
import KE.KExcSuper
import HandS.ExcIs
import HandS.ExcField
import HandS.Gcd
import HandS.Rev
import HandS.Walk
import HandS.Style
import HandS.FStr
import HandS.TryOnly
import KE.GoesEnumKw
import HandS.Text
import HandS.SortInts
import HandS.More
import HandS.ClsMeth
import HandS.WordsExc
import HandS.Deep
import HandS.StrMore
import HandS.TryMany
import KE.SortData
import KE.SortKeyHeap
import HandS.RevRange
import HandS.Lambda
import HandS.EndTab
import PyProof.Rows.TupSub
import HandS.SortKw
import KE.KSortKey
import PySem.Challenge.RW_samphire_k04_first_error_of_a_condition
set_option Elab.async false
set_option linter.all false
set_option maxRecDepth 100000

/-! ### an own exception whose __init__ begins with super().__init__(..) -/
namespace Sup
open PySem PySem.Spec PyProof.Rows L2 NdefX
/-- what the written part says of such a class (at C), of its __init__ (at f; its code at c, its cell of the class at cc) -/
structure SupC (P : Program) (K : PySem.W.Frag) (mg : Str → Option Value) (C f c cc : Addr) : Prop where
  T : OexC K C
  cd : ∃ cd, PySem.W.clsIn K C = some cd
  code : ∃ occ cdd vs sl file tf, K.lookup c = some ⟨occ, cdd, .fields vs, sl⟩ ∧ vs[2]? = some (.str file tf) ∧ ((P.main.file : Str) == file) = true
  cell : ∃ cl cld sl, K.lookup cc = some ⟨cl, cld, .cell (some (.ref C)), sl⟩
  sub : PySem.W.mroIn K C (.ref C) = some true
  subV : PySem.W.subIn K (.ref C) (.type "ValueError") = some true
  zs : mg "super" = none
  any : PySem.W.nsIn K PySem.cStatics "thirdparty.any" = some none
  sup : PySem.W.ks_superIn K C C "__init__" = some (some (.builtin "ValueError.__init__"))
  top : (P.main.scope.names.lookup ("super" : Str)).isSome = false
section
variable {CX : CXT} {P : Program} {w : World} {K : PySem.W.Frag} {mg : Str → Option Value} {base : Heap} {N ps : List Str} {F : NF} {f C cc : Addr} {k : Nat} {sp : Sp}
/-- the body's first statement -/
abbrev supSt (arg : Expr) (p0 p1 p2 p3 p4 : Pos) : Stmt := .Expr (.Call (.Attribute (.Call (.Name "super" p0) [] [] p1) "__init__" p2) [arg] [] p3) p4
theorem callW {M : Model} {A : Around} {E : Value → Shared → Prop} {s : Shared} {i : String} {u x : Addr} {pos : Pos} {env : Env} {e : Expr} {Q : Value → Shared → Prop} (he : starEach [e] env = (false, eval e env) :: starEach [] env)
    (h : wpAny M A (spliced (backTo pos (starEach [e] env))) (fun vs s₁ => PySem.W.KxsAt i u x s₁.heap ∧ wpAny M A (call (.ref u) vs) Q E s₁) E s) : wpAny M A (callWith pos (.ref u) [] (backTo pos (starEach [e] env)) []) Q E s := by
  rw [he] at h ⊢
  refine PySem.W.kxs_callWith (i := i) (x := x) rfl ?_
  exact PySem.Calls.evalArgs_plain h
theorem fn_super {oc : Value} {od : Option Addr} {osl : Array (Option Value)} {doc pm ctv : Value} {arg : Expr} {rest : List Stmt} {p0 p1 p2 p3 p4 : Pos} {p : Str} {ps' : List Str}
    (T : SupC P K mg C f F.c cc) (lk : K.lookup f = some ⟨oc, od, .func (F.fd doc pm ctv), osl⟩) (hcl : F.cl = [(("__class__" : Str), cc)]) (hcd : PySem.W.codeIn K (.ref F.c) F.qual = true) (S : NScope N ps ["__class__"] F.scope) (hps : ps = p :: ps')
    (hpar : ∃ ar, (F.params.posonlyargs ++ F.params.args).head? = some ar ∧ ar.arg = p) (hsu : F.scope.names.lookup ("super" : Str) = some .globalImplicit) (hbd : F.body = supSt arg p0 p1 p2 p3 p4 :: rest)
    (hsw : ∀ L : Addr, swapsWith (.Call (.Attribute (.Call (.Name "super" p0) [] [] p1) "__init__" p2) [arg] [] p3) none p4.line (envF F f L) = pure false)
    (hev : ∀ L : Addr, ∃ pl, eval (.Call (.Attribute (.Call (.Name "super" p0) [] [] p1) "__init__" p2) [arg] [] p3) (envF F f L) = (do
        let ov ← attributeBase (.Call (.Name "super" p0) [] [] p1) "__init__" (envF F f L) (eval (.Call (.Name "super" p0) [] [] p1) (envF F f L))
        standAt p2.atName
        let (f', first) ← holding [ov] (getMethod ov "__init__" pl)
        callWith p3 f' first (backTo p3 (starEach [arg] (envF F f L))) []))
    (hst : ∀ L : Addr, starEach [arg] (envF F f L) = (false, eval arg (envF F f L)) :: starEach [] (envF F f L))
    (len : ∀ vs H Q E, sp vs H Q E → vs.length = ps.length)
    (hbody : ∀ (A : Around) (outer : List Env) (s : Shared) (H : Hp) (vs : List V) (Q : VK) (E : XK), Room k (A.deeper (envF F f s.heap.objs.size)) → sp vs H Q E →
      ∃ a vs' ta t, vs = .ref a :: vs' ∧ H a = some (exo a C none) ∧ PA (ncx CX P w K mg base N F f A outer s H E) [arg] ta ∧ PSs (ncx CX P w K mg base N F f A outer s H E) rest t ∧
        ta (startF N vs [none]) H (fun ws H1 => ws.length ≤ 1000 ∧ H1 a = some (exo a C none) ∧ t { nx := fun _ H' => Q .non H', rt := Q } (startF N vs [none]) H1)) :
    FnOk P w K mg base CX (k + 1) f (F.fd doc pm ctv) ps sp := by
  refine ⟨len, fun A outer s H args us vs Q E hr e0 hb r hsp => ?_⟩
  have KX : K.In s.heap := e0.mod.kin.keeps fun b o e => (e0.bs b o e).1
  have hl := len _ _ _ _ hsp
  have lim : s.heap.NoLimit := e0.mod.nolimit.keeps fun b o e => (e0.bs b o e).1
  refine codeAny_call_function hr.depth (KX _ _ lk) rfl S.co S.gen rfl (PySem.W.codeRec_of KX hcd) (hb _ _ _ _ ?_)
  refine wpAny_newFunctionEnv S.nocell (fun ⟨n, _⟩ hy => S.par n (List.of_mem_zip hy).1) (fun h₁ hns hsb => ⟨lim.fresh _ hsb, ?_⟩) S.kind
  show codeAny _ _ (.func F.body (envF F f s.heap.objs.size)) _ _
  refine PySem.ks_codeAny_funcAt ?_
  have kp : ∀ b o, s.heap.get? b = some o → h₁.get? b = some o := fun b o e => hsb.extBut b o (Nat.ne_of_lt (Heap.lt_size e)) (Heap.get?_push_of_some _ e)
  obtain ⟨a, vs', ta, t, hvs, ha, hta, ht, hq⟩ := hbody A outer s H vs Q E (hr.deeper _) hsp
  obtain ⟨cl, cld, csl, hcell⟩ := T.cell
  have hbc : base.get? cc = some ⟨cl, cld, .cell (some (.ref C)), csl⟩ := e0.mod.kin _ _ hcell
  have hlook : ∀ {y : Str} {c : Addr}, F.cl.lookup y = some c → y = "__class__" ∧ c = cc := fun {y c} e => by
    rw [hcl] at e
    by_cases hy : y = "__class__"
    · subst hy
      rw [show List.lookup ("__class__" : Str) [(("__class__" : Str), cc)] = some cc by simp [List.lookup]] at e
      exact ⟨rfl, (Option.some.inj e).symm⟩
    · have hb : (y == ("__class__" : Str)) = false := by simpa using hy
      rw [show List.lookup y [(("__class__" : Str), cc)] = none by simp [List.lookup, hb]] at e
      cases e
  have hlk : F.cl.lookup ("__class__" : Str) = some cc := by rw [hcl]; simp [List.lookup]
  have CA : CellsAt F.cl ["__class__"] [none] s.heap H := {
    len := rfl
    all := fun y c e => by
      obtain ⟨_, rfl⟩ := hlook e
      exact ⟨(e0.bs _ _ hbc).2, _, ⟨_, (e0.bs _ _ hbc).1, rfl⟩⟩
    inj := fun x y c e1 e2 => (hlook e1).1.trans (hlook e2).1.symm
    has := fun i y e => by
      match i, e with
      | 0, e =>
        have ey : ("__class__" : Str) = y := Option.some.inj e
        subst ey
        exact ⟨cc, hlk, fun v hv => by simp at hv⟩ }
  have I : Inv (ncx CX P w K mg base N F f A outer s H E) [] (startF N vs [none]) H { s with heap := h₁, toks := s.toks + (ps.zip us).length } := inv_startN S hr.hd e0 hl r CA hns kp
  have kI : K.In h₁ := KX.keeps kp
  have hN0 : N[0]? = some p := by
    have q := S.pre
    rw [hps] at q
    have z : (N.take ((p :: ps').length + 1))[0]? = some p := by
      have z := congrArg (fun l : List Str => l[0]?) q
      exact z
    rw [List.getElem?_take_of_lt (by simp)] at z
    exact z
  have hs0 : (startF N vs [none])[0]? = some (some (.ref a)) := by rw [hvs]; rfl
  have hploc : F.scope.names.lookup p = some .local := S.par p (by rw [hps]; exact List.mem_cons_self)
  obtain ⟨m, hnm, hlm⟩ := id I.loc
  obtain ⟨u0, ru0, hu0⟩ := hlm 0 p (.ref a) hN0 hs0 (.inl hploc)
  have eu0 : u0 = Value.ref a := ru0
  subst eu0
  have hself : m p = some (.ref a) := by
    rcases hu0 with ⟨_, z⟩ | ⟨z, _⟩
    · exact z
    · have z' : F.scope.names.lookup p = some .cell ∨ F.scope.names.lookup p = some .free := z
      rw [hploc] at z'
      rcases z' with z' | z' <;> cases z'
  obtain ⟨occ, cdd, cvs, csl2, file, tf, hcode, hvs2, hfile⟩ := T.code
  obtain ⟨cdD, hcdD⟩ := T.cd
  have hD : ∃ oD, h₁.get? C = some oD ∧ oD.data = .cls cdD := by
    have hD := hcdD
    unfold PySem.W.clsIn at hD
    split at hD
    · rename_i c d cd' sl ho
      cases hD
      exact ⟨_, kI _ _ ho, rfl⟩
    · cases hD
  obtain ⟨oD, hD1, hD2⟩ := hD
  obtain ⟨nm, q, N', bs, bm, sn, sub, ab, col, dd, k0, k1, k2, k3, k5, hC, hbm⟩ := T.T.cls
  obtain ⟨ar, har1, har2⟩ := hpar
  have hkc : F.scope.names.lookup ("__class__" : Str) = some .free := S.frk _ (by simp)
  obtain ⟨mb, hb1, hb2⟩ := I.mod.blt
  rw [hbd]
  obtain ⟨pl, he⟩ := hev s.heap.objs.size
  refine PySem.ks_wpAt_execs_cons (PySem.ks_wpAt_Expr_any (PySem.ks_wpAt_MethodCall (pl := pl) (PySem.ks_wpAt_super_base (fd := F.fd doc pm ctv) hsu hkc (by decide) rfl (kI _ _ lk) rfl har1 rfl (kI _ _ hcode) rfl hvs2 hfile T.top ?_) he) I.quiet (hsw _))
  -- the names
  refine PySem.W.ks_loadName_global S.kind hsu (Calls.loadGlobal_builtin (by exact I.mod.glob.keeps I.bk) T.zs (by exact hb1.keeps I.bk) ((hb2 _ (by decide)).trans (by decide +kernel)) ⟨rfl, ?_⟩)
  refine wpAny_loadName_free S.kind hkc hlk ⟨_, kI _ _ hcell, rfl⟩ ?_
  refine wpAny_loadName_local S.kind (by rw [har2]; exact hploc) hnm (by rw [har2]; exact hself) ?_
  refine PySem.ks_wpAny_isType_cls hD1 hD2 ⟨rfl, ?_⟩
  obtain ⟨t1, hox⟩ := exo_at I.hok ha
  refine PySem.ks_wpAny_call_super hD1 hD2 hox rfl (fun c e => by cases e) (PySem.W.looks_mroIn kI T.sub) (fun h' hso k' => ?_)
  have I2 : Inv (ncx CX P w K mg base N F f A outer s H E) [] (startF N vs [none]) H { s with heap := h', toks := s.toks + (ps.zip us).length } := I.kept (t' := s.toks + (ps.zip us).length) k'
  have kI2 : K.In h' := kI.keeps k'
  have hox2 : h'.get? a = some ({ cls := .ref C, dict := none, data := .fields #[.ref t1, .none, .none, .none, .bool false, .none] } : Obj) := k' _ _ hox
  have IA : PySem.W.InstAt h' a ({ cls := .ref C, dict := none, data := .fields #[.ref t1, .none, .none, .none, .bool false, .none] } : Obj) C none := ⟨hox2, rfl, rfl, trivial⟩
  have hal : PySem.W.alongIn K "__init__" ((cdD.mro.dropWhile (· != .ref C)).drop 1) = some (some (.builtin "ValueError.__init__")) := by
    have z := T.sup
    unfold PySem.W.ks_superIn at z
    rw [hcdD] at z
    exact z
  refine PySem.W.kxs_getMethod PySem.W.kxs_ValueError hso (PySem.W.looks_opaque kI2 T.any) (l₀ := cdD.mro) (fun A Q E s k q => wpAny_bind ((PySem.W.looks_clsIn kI2 hcdD) A _ E s k (wpAny_pure q))) rfl kI2 hal (IA.type.andThen (PySem.W.looks_subIn kI2 T.subV)) (PySem.W.ks_ne kI2 IA hcdD) (by decide) ?_
  -- the bound __init__ at u
  have ku : ∀ b o, h'.get? b = some o → (h'.push (PySem.W.kxs_mw "ValueError.__init__" a)).get? b = some o := fun b o e => Heap.get?_push_of_some _ e
  have I3 : Inv (ncx CX P w K mg base N F f A outer s H E) [] (startF N vs [none]) H { s with heap := h'.push (PySem.W.kxs_mw "ValueError.__init__" a), toks := s.toks + (ps.zip us).length + 1 } := I2.kept (t' := s.toks + (ps.zip us).length + 1) ku
  have hu : (h'.push (PySem.W.kxs_mw "ValueError.__init__" a)).get? h'.objs.size = some (PySem.W.kxs_mw "ValueError.__init__" a) := Heap.get?_push_at rfl rfl
  have I4 : Inv (ncx CX P w K mg base N F f A outer s H E) [(h'.objs.size, PySem.W.kxs_mw "ValueError.__init__" a)] (startF N vs [none]) H { s with heap := h'.push (PySem.W.kxs_mw "ValueError.__init__" a), toks := s.toks + (ps.zip us).length + 1 } := I3.pins_of fun p hp => by
    have hp1 := List.mem_singleton.mp hp
    subst hp1
    exact ⟨hu, I2.hok.fresh (Nat.le_refl _), fun z => absurd (z ▸ I2.lt) (Nat.lt_irrefl _), I2.nofs (Nat.le_refl _), fun v z => by cases z⟩
  refine callW (i := "ValueError.__init__") (x := a) (hst _) ?_
  refine thn (hta.run p3 _ _ _ H _ I4 hq) fun ws' s5 ⟨ws, H5, I5, r5, hlen, ha5, ht5⟩ => ?_
  have hu5 : s5.heap.get? h'.objs.size = some (PySem.W.kxs_mw "ValueError.__init__" a) := (I5.pin _ (List.mem_append_right _ (List.mem_singleton.mpr rfl))).1
  refine ⟨hu5, ?_⟩
  obtain ⟨t5, hox5⟩ := exo_at I5.hok ha5
  have hws : ws'.length ≤ sizeLine := by
    rw [← Paired.length r5, sizeLine_eq]
    omega
  have I6 : Inv (ncx CX P w K mg base N F f A outer s H E) [] (startF N vs [none]) H5 s5 := I5.pins_of fun p hp => absurd hp (by simp)
  obtain ⟨h5, g5, d5, k5', os5⟩ := s5
  have hC5 := I5.kIn _ _ hC
  show wpAny _ _ (call (.ref h'.objs.size) ws') _ _ _
  refine wpAny_call (codeAny_of_tree ?_)
  show wpAny _ _ (callAny (.ref h'.objs.size) ⟨ws', []⟩) _ _ _
  simp only [callAny]
  refine wpAny_bind (wpAny_load hu5 ?_)
  simp only [PySem.W.kxs_mw, show (Value.type "method-wrapper" == Value.type "method" || Value.type "method-wrapper" == Value.type "builtin_function_or_method" || Value.type "method-wrapper" == Value.type "method-wrapper") = true by decide, if_true]
  refine PySem.W.KFB.if_so (by decide) ?_
  refine wpAny_bind (PySem.W.check_bound_init PySem.F.excBase_ValueError.toExcCallFacts hC5 hox5 rfl ?_)
  refine wpAny_bind (wpAny_pure (wpAny_pure ?_))
  refine ⟨plainId_quiet PySem.F.excBase_ValueError.init.plain _, codeAny_builtin PySem.F.excBase_ValueError.initEntry ?_⟩
  refine PySem.W.exc_init_tree (cls := .ref C) (t0 := t5) (dv := none) (c2 := .none) (c3 := .none) (b4 := .bool false) hox5 hws (fun h6 k6 e6 _ => ?_)
  have J := I6.write (t' := k5') (x := a) (e := a) (o := exo a C none) (by rw [ha5]; exact True.intro) (.inl rfl) k6 ⟨_, e6⟩ (exo_ok e6)
  have eu : upd H5 a (exo a C none) = H5 := by
    funext b
    by_cases hb : b = a
    · rw [hb, upd_same, ha5]
    · rw [upd_ne hb]
  rw [eu] at J
  refine PySem.wpAt_of_wpAny (wpAny_mono (ht.run [] _ (startF N vs [none]) H5 _ J ht5) (fun fl s' hs => ?_) fun e s' hs => hs)
  have fin : ∀ {σ' : L2.St} {H' : Hp} {v : V} {u : Value}, Inv (ncx CX P w K mg base N F f A outer s H E) [] σ' H' s' → L2.RelV v u → Q v H' → CE outer P w H s Q u s' :=
    fun {σ' H' v u} J rv q => ⟨v, H', J.os, J.bare, J.base, J.hok, rv, q⟩
  cases fl with
  | ret u =>
    obtain ⟨v, σ', H', J, rv, q⟩ := hs
    exact fin J rv q
  | next =>
    obtain ⟨σ', H', J, q⟩ := hs
    exact fin (v := V.non) (u := Value.none) J rfl q
  | brk =>
    obtain ⟨_, _, _, q⟩ := hs
    exact False.elim q
  | cont =>
    obtain ⟨_, _, _, q⟩ := hs
    exact False.elim q
end
/-! ### an exception without fields, made -/
section
variable {X : Cx}
theorem mk_endN {pins : List (Addr × Obj)} {σ : L2.St} {H1 H2 : Hp} {Q : XK} {hp hp2 h2 : Heap} {g1 g2 : Array GenState} {d1 d2 : Drawn} {t1 t2 : Nat} {os1 os2 : OsState} {a C : Addr} (T : Raises X (.ref C)) (I1 : Inv X pins σ H1 ⟨hp, g1, d1, t1, os1⟩)
    (ha : hp.objs.size ≤ a) (k : ∀ b o, hp.get? b = some o → hp2.get? b = some o) (un : Un (frs X.stack) [] (upd H1 a (exo a C none)) H2 hp2 h2) (hok : HOk X.prog X.w H2 h2) (ho : os2 = os1) (hb : AllBare g2)
    (ea : H2 a = some (exo a C none)) (q : Q (.ref C) none (del H2 a)) : MkP X pins σ Q (.ref a) ⟨h2, g2, d2, t2, os2⟩ := by
  obtain ⟨t0, hoe⟩ := exo_at hok ea
  have hn : H1 a = none := I1.hok.fresh ha
  obtain ⟨G, g1', g2'⟩ := restrict h2 fun b => decide (b ≠ a)
  have gk : ∀ b, b ≠ a → G.get? b = h2.get? b := fun b hb => g1' b (decide_eq_true hb)
  have ge : G.get? a = none := g2' a (by simp)
  have nha : ∀ {b : Addr} {o : Obj}, hp.get? b = some o → b ≠ a := fun {b o} z => Nat.ne_of_lt (Nat.lt_of_lt_of_le (Heap.lt_size z) ha)
  have up : ∀ {b : Addr}, b ≠ a → H1 b = none → upd H1 a (exo a C none) b = none := fun {b} hb n => by rw [upd_ne hb]; exact n
  have U : Un (frs X.stack) [] H1 (del H2 a) hp G := {
    keep := fun b o z n hf hx => by
      rw [gk b (nha z)]
      exact un.keep b o (k b o z) (up (nha z) n) hf hx
    slot := fun b o z n hf hx => by
      rw [gk b (nha z)]
      exact un.slot b o (k b o z) (up (nha z) n) hf hx
    free := fun b o z n hx => by
      rw [del_ne (nha z)]
      exact un.free b o (k b o z) (up (nha z) n) hx
    there := fun b o z hx => by
      rw [gk b (nha z)]
      exact un.there b o (k b o z) hx
    tups := fun b xs z => by
      rw [del_ne (ne_of_none z hn)]
      exact un.tups b xs (by rw [upd_ne (ne_of_none z hn)]; exact z)
    frzs := fun b o v z => by
      rw [del_ne (ne_of_none z hn)]
      exact un.frzs b o v (by rw [upd_ne (ne_of_none z hn)]; exact z)
    tbls := fun b ps z => by
      rw [del_ne (ne_of_none z hn)]
      exact un.tbls b ps (by rw [upd_ne (ne_of_none z hn)]; exact z) }
  have hok3 : HOk X.prog X.w (del H2 a) G := fun b o z => by
    have hba : b ≠ a := fun e => by
      rw [e, del_same] at z
      cases z
    rw [del_ne hba] at z
    have noa : ∀ {c : Addr}, H2 c = some (.own b) → c ≠ a := fun {c} hc => at_ne ea hc exo_own
    exact (hok b o z).stay (fun c v hc y => by
        have hca : c ≠ a := by
          rcases hc with hc | hc
          · rw [hc]
            exact hba
          · exact noa hc
        rw [gk c hca]
        exact y)
      (fun c hc => by rw [del_ne (noa hc)]; exact hc) (fun c xs hc => by rw [del_ne (at_ne ea hc exo_tup)]; exact hc)
  have J : Inv X pins σ (del H2 a) ⟨G, g2, d2, t2, os2⟩ := I1.call' (ch := []) ho U hok3 hb (fun b z => absurd z (by simp))
  refine ⟨a, _, _, ⟨G, g2, d2, t2, os2⟩, _, .ref C, none, rfl, J, fun b o z => ?_, ge, hoe, ⟨rfl, rfl⟩, rfl, rfl, del_same, rfl, hb, T, q⟩
  by_cases hba : b = a
  · rw [hba, ge] at z
    cases z
  · exact (gk b hba).symm.trans z
/-- C(), C's own __init__ keeping sp and making no field -/
def tMkN (C : Addr) (sp : Sp) : L2.St → Hp → XK → Prop := fun _ H Q => ∀ a, H a = none → sp [.ref a] (upd H a (exo a C none)) (fun v H2 => v = .non ∧ H2 a = some (exo a C none) ∧ Q (.ref C) none (del H2 a)) (fun _ _ _ => False)
theorem pmk_oexN {CX : CXT} {x : Str} {C fI : Addr} {k : Nat} {fd : FuncData} {ps : List Str} {sp : Sp} {p pos : Pos} (T : OexC X.K C) (iC : PySem.W.findIn X.K (.ref C) "__init__" = some (some (.ref fI))) (tI : PySem.W.typeIn X.K (.ref fI) = some (.type "function"))
    (F1 : FnOk X.prog X.w X.K X.mg X.base CX k fI fd ps sp) (hr : Room (k + 1) X.A) (hb : Binds X.K fd ps []) (hx : Passes CX X (fun _ _ _ => False)) (hg : Gl X x) (hm : X.mg x = some (.ref C))
    (hdb : (x == ("__debug__" : Str)) = false := by decide) : PMk X (.Call (.Name x p) [] [] pos) (tMkN C sp) := by
  intro pins s σ H1 Q I1 q1
  obtain ⟨nm, q, N, bs, bm, sn, sub, ab, col, dd, k0, k1, k2, k3, k5, hC, hbm⟩ := T.cls
  refine wpAny_Call_Name_kw (ld_glob I1 hg hm ?_ hdb)
  refine PySem.W.callWith_K0 I1.kIn T.kC ?_
  show wpAny _ _ (call (.ref C) []) _ _ _
  obtain ⟨hp, g, dr, tk, os⟩ := s
  have hsz : hp.objs.size ≤ hp.objs.size + 1 := Nat.le_succ _
  have hn : H1 (hp.objs.size + 1) = none := I1.hok.fresh hsz
  have hq := q1 (hp.objs.size + 1) hn
  have kk : ∀ b o, hp.get? b = some o → ((hp.push (PySem.W.kdv_tup [])).push (PySem.HandSPX.excO C hp.objs.size)).get? b = some o := fun b o e => Heap.get?_push_of_some _ (Heap.get?_push_of_some _ e)
  have hget : ((hp.push (PySem.W.kdv_tup [])).push (PySem.HandSPX.excO C hp.objs.size)).get? (hp.objs.size + 1) = some (PySem.HandSPX.excO C hp.objs.size) := by heap_get
  have I2 : Inv X pins σ (upd H1 (hp.objs.size + 1) (exo (hp.objs.size + 1) C none)) ⟨(hp.push (PySem.W.kdv_tup [])).push (PySem.HandSPX.excO C hp.objs.size), g, dr, tk, os⟩ :=
    I1.laid (t' := tk) (a := hp.objs.size + 1) (o := exo (hp.objs.size + 1) C none) (h' := (hp.push (PySem.W.kdv_tup [])).push (PySem.HandSPX.excO C hp.objs.size)) kk hsz (exo_ok hget)
  have r2 : Vals [V.ref (hp.objs.size + 1)] [Value.ref (hp.objs.size + 1)] := .cons rfl .nil
  have hl : ([Value.ref (hp.objs.size + 1)] ++ []).length = ps.length := by
    have e := r2.length
    rw [F1.len _ _ _ _ hq] at e
    exact e.symm
  refine wpAny_call (PySem.HandSPX.call_own PySem.F.excBase_ValueError (fun Y => PySem.HandSPX.refsVE_contains Y bm hbm) (I1.kIn _ _ hC) (PySem.W.looks_findIn I1.kIn iC) (fun self => PySem.W.bind_fn I1.kIn self tI) (Nat.zero_le _)
    (codeAny_mono (F1.run _ X.stack _ _ ⟨[Value.ref (hp.objs.size + 1)], []⟩ [Value.ref (hp.objs.size + 1)] _ _ (fun _ _ _ => False) (hr.make C [] []) (I2.env0.make C [] []) (hb _ [Value.ref (hp.objs.size + 1)] I2.kIn hl) r2 hq) fun r s' hq' => ?_))
  cases r with
  | error er => exact hx pins σ _ _ er s' I2 hq'
  | ok fl =>
    cases fl with
    | ret u =>
      obtain ⟨v, H2, os2, bare2, un2, hok2, rv, ev, ea, q2⟩ := hq'
      subst ev
      obtain ⟨h2, g2, d2, t2, os'⟩ := s'
      exact ⟨rv, mk_endN (raises_own T.exC T.tyC) I1 hsz kk un2 hok2 os2 bare2 ea q2⟩
    | next => exact False.elim hq'
    | brk => exact False.elim hq'
    | cont => exact False.elim hq'
end
/-! ### a call of a local name that holds a def, which may raise -/
section
variable {X : Cx} {CX : CXT} {k i : Nat} {f : Addr} {fd : FuncData} {ps : List Str} {sp : Sp} {E : L2.St → XK} {x : Str} {p pos : Pos} {e : Expr} {es : List Expr} {t : TA}
def tCallLS (i : Nat) (f : Addr) (sp : Sp) (E : L2.St → XK) (t : TA) : TE := fun σ H Q => σ[i]? = some (some (.ref f)) ∧ t σ H fun vs H1 => sp vs H1 Q (E σ)
theorem pe_callLS (F : FnOk X.prog X.w X.K X.mg X.base CX k f fd ps sp) (hr : Room k X.A) (hN : X.N[i]? = some x) (hv : Vis X.env.scope x) (hk : PySem.W.keepIn X.K (.ref f) = true) (hb : Binds X.K fd ps []) (hx : ∀ σ, PassesAt CX X σ (E σ)) (ha : PA X (e :: es) t)
    (hdb : (x == ("__debug__" : Str)) = false := by decide) (hcd : (x == ("__classdict__" : Str)) = false := by decide)
    (he : starEach (e :: es) X.env = (false, eval e X.env) :: starEach es X.env := by rfl) (hpl : (backTo pos (starEach es X.env)).any (·.1) = false := by rfl) : PE X (.Call (.Name x p) (e :: es) [] pos) (tCallLS i f sp E t) := by
  refine ⟨fun pins s σ H Q I h => ?_⟩
  obtain ⟨hs, ht⟩ := h
  refine wpAny_Call_Name_kw (thn ((pe_var (pos := p) hN hv hdb hcd).run pins s σ H (fun v H1 => v = .ref f ∧ H1 = H) I ⟨.ref f, hs, rfl, rfl⟩) fun u s1 ⟨v, H1, I1, r1, q1⟩ => ?_)
  obtain ⟨rfl, rfl⟩ := q1
  cases r1
  refine PySem.W.callWith_K (h₀ := X.base) I.ok.mod.kin hk (thn (ha.run pos pins s1 σ _ _ I1 ht) fun us s2 ⟨vs, H2, I2, r, q⟩ => ⟨I2.kIn, ?_⟩) he hpl
  exact run_fnS F hr hb (hx σ) I2 r q
end
/-! ### isinstance of a caught error of an own class without fields -/
def rIsX (K : PySem.W.Frag) (a : Addr) (cls : Value) (d : Option Addr) : List V → Hp → VK → Prop := fun xs H Q => ∃ (D : Addr) (c : V) (cv : Value) (b : Bool), cls = .ref D ∧ d = none ∧ ExcC K D ∧ xs = [.ref a, c] ∧ (∀ u, L2.RelV c u → u = cv) ∧ PySem.W.kitOne K (.ref D) cv = some b ∧ Q (.bl b) H
theorem call_isX {X : Cx} {a : Addr} {oe : Obj} {cls : Value} {d : Option Addr} {pn : List (Addr × Obj)} (hz : Zc cls d oe) (hf : ∃ vs, oe.data = .fields vs) : CallR (X.suite a ((a, oe) :: pn)) (.builtin "isinstance") (rIsX X.K a cls d) := by
  intro pins s σ H xs us Q I r h
  obtain ⟨D, c, cv, b, rfl, rfl, C, rfl, hc, e, q⟩ := h
  exact call_isE C hz hf pins s σ H [.ref a, c] us Q I r ⟨c, cv, b, rfl, hc, e, q⟩
/-! ### what a law's text says of an own exception -/
/-- ExcT C f c cc: the class at C over SamphireError .. over ValueError, with its own __init__ at f -/
structure ExcT (P : Program) (K : PySem.W.Frag) (mg : Str → Option Value) (name : Str) (C f c cc : Addr) : Prop where
  S : SupC P K mg C f c cc
  g : mg name = some (.ref C)
  iC : PySem.W.findIn K (.ref C) "__init__" = some (some (.ref f))
  tI : PySem.W.typeIn K (.ref f) = some (.type "function")
  is : ExcC K C
  te : PySem.W.exmOne K (.ref C) (.ref C) = some true
theorem ExcT.xf {P : Program} {K : PySem.W.Frag} {mg : Str → Option Value} {name : Str} {C f c cc : Addr} (T : ExcT P K mg name C f c cc) : XfC K C := ⟨T.is.hg, T.is.hk, T.is.hs, T.is.hd⟩
/-- the file that a code object tells -/
def flIs (cvs : List Value) (f : Str) : Bool := match cvs with | _ :: _ :: .str file _ :: _ => f == file | _ => false
/-- what k_is finds, put together -/
theorem excT_mk {P : Program} {K : PySem.W.Frag} {mg : Str → Option Value} {name : Str} {C f c cc : Addr} {nm q : Str} {N : Addr} {bs bm : List Value} {sn : List Str} {sub : List Value} {ab : Bool} {col : Option Bool} {dd : Option Addr} {m0 m1 m2 m3 m5 : Option Value}
    {occ : Value} {cdd : Option Addr} {cvs : List Value} {csl : Array (Option Value)} {ccl : Value} {ccd : Option Addr} {ccs : Array (Option Value)}
    (xL : K.lookup C = some (excClassObj nm q C N bs bm true sn sub ab col dd m0 m1 m2 m3 m5 "ValueError.__new__")) (rv : PySem.HandSPX.refsVE bm = true)
    (sa : PySem.W.findIn K (.ref C) "__setattr__" = some (some (.builtin "object.__setattr__"))) (sB : PySem.W.subIn K (.ref C) (.type "BaseException") = some true) (tC : PySem.W.typeIn K (.ref C) = some (.type "type")) (kC : PySem.W.keepIn K (.ref C) = true)
    (code : K.lookup c = some ⟨occ, cdd, .fields cvs.toArray, csl⟩) (hfile : flIs cvs P.main.file = true)
    (cell : K.lookup cc = some ⟨ccl, ccd, .cell (some (.ref C)), ccs⟩) (mro : PySem.W.mroIn K C (.ref C) = some true) (sV : PySem.W.subIn K (.ref C) (.type "ValueError") = some true) (zs : mg "super" = none)
    (any : PySem.W.nsIn K PySem.cStatics "thirdparty.any" = some none) (sup : PySem.W.ks_superIn K C C "__init__" = some (some (.builtin "ValueError.__init__"))) (top : (P.main.scope.names.lookup ("super" : Str)).isSome = false)
    (g : mg name = some (.ref C)) (iC : PySem.W.findIn K (.ref C) "__init__" = some (some (.ref f))) (tI : PySem.W.typeIn K (.ref f) = some (.type "function")) (is : ExcC K C) (isc : PySem.W.isClsIn K C = true) (sC : PySem.W.subIn K (.ref C) (.ref C) = some true) : ExcT P K mg name C f c cc where
  S := {
    T := ⟨⟨nm, q, N, bs, bm, sn, sub, ab, col, dd, m0, m1, m2, m3, m5, xL, rv⟩, sa, sB, tC, kC⟩
    cd := ⟨_, by unfold PySem.W.clsIn; rw [xL] <;> rfl⟩
    code := by
      match cvs, code, hfile with
      | a :: b :: .str file tf :: r, code, hfile => exact ⟨_, _, _, _, file, tf, code, rfl, hfile⟩
    cell := ⟨_, _, _, cell⟩
    sub := mro
    subV := sV
    zs := zs
    any := any
    sup := sup
    top := top }
  g := g
  iC := iC
  tI := tI
  is := is
  te := PySem.W.exm_ref sB is.hd tC sC
end Sup

/-! ### list(reversed(a list)) -/
namespace RL
open PySem PySem.Spec PyProof.Rows RT L2
section
variable {prog : Program} {w : World} {A : Around} {E : Value → Shared → Prop} {s : Shared}
theorem extend_rev {R : Result → Shared → Prop} {S it l : Addr} {items : Array Value} {res : Value} {c₀ : Nat} (hh : A.handled = none) (hit : s.heap.IsRevIter it l ((items.size : Int) - 1)) (hl : s.heap.IsList l items) (hne : l ≠ it) (hSi : S ≠ it) (hSl : S ≠ l) (hn : items.size ≤ sizeLine)
    (hS : s.heap.get? S = some { cls := .type "list", data := .seq #[] c₀ })
    (hR : ∀ s' acc' c', Moved (S :: [it]) (fun a b => b = a) s s' → s'.heap.get? S = some { cls := .type "list", dict := none, data := .seq acc' c', slots := #[] } → ItemsOf (fun i v => items[items.size - 1 - i]? = some v) acc' items.size → R (.ok (.ret res)) s') :
    wpAny (model prog w) A.in1 (Builtin.List.listExtendWith (.ref S) (.ref it) res)
      (fun fin s' => match fin with | .done f => R (.ok f) s' | .again c' => c'.quiet = true ∧ codeAny (model prog w) A c' R s') (fun e s' => R (.error e) s') s := by
  have W := (Walks.listRev (prog := prog) (w := w) (A := A.in1) hh it l hne items).toS
  have hSf : S ∉ [it, l] := by simp only [List.mem_cons, List.not_mem_nil, or_false, not_or]; exact ⟨hSi, hSl⟩
  have hT : s.TypeIs (.ref it) "list_reverseiterator" := Heap.IsRevIter.typeIs hit
  have h1 : Builtin.List.listSameRef (.ref S) (.ref it) = false := by simp [Builtin.List.listSameRef, hSi]
  unfold Builtin.List.listExtendWith
  refine wpAny_bind (wpAny_typeOf hT ?_)
  rw [if_neg (by rw [h1]; decide)]
  refine wpAny_bind (wpAny_pyIter_revIter hit ?_)
  refine wpAny_bind (wpAny_holding ?_)
  unfold Builtin.List.listLengthHint
  refine wpAny_bind (wpAny_specialOf hT nolen_lri ?_)
  show wpAny _ A.in1 (specialOf (Value.ref it) (Str.ofString "__length_hint__") >>= _) _ _ _
  refine wpAny_bind (wpAny_specialOf hT hint_lri ?_)
  generalize hid : ("list_reverseiterator.__length_hint__" : String) = id0
  wp_delta
  rw [show splitId id0 = some ("list_reverseiterator", "__length_hint__") from by subst hid; decide +kernel]
  subst hid
  refine wpAny_bind (wpAny_isInstance (b := true) hT (by rw [isSubtype_type]; kernel_rfl) ?_)
  refine wpAny_pure ?_
  rw [if_neg (by decide)]
  have e0 : ((items.size : Nat) : Int) - 1 - ((0 : Nat) : Int) = (items.size : Int) - 1 := by omega
  refine wpAny_pure ⟨plainId_quiet F.plain_extend_loop _, codeAny_extend_loopS W hn _ hSf _ items.size 0 _ _ _ rfl (Nat.zero_le _) ⟨Nat.zero_le _, by rw [e0]; exact hit, hl⟩ hS (ItemsOf.nil _) fun s' acc' c' hm hS' hacc => ?_⟩
  exact hR s' acc' c' hm hS' hacc
theorem init_rev {R : Result → Shared → Prop} {S it l : Addr} {items : Array Value} (hh : A.handled = none) (hit : s.heap.IsRevIter it l ((items.size : Int) - 1)) (hl : s.heap.IsList l items) (hne : l ≠ it) (hSi : S ≠ it) (hSl : S ≠ l) (hn : items.size ≤ sizeLine)
    (hS : s.heap.get? S = some { cls := .type "list", data := .seq #[] })
    (hR : ∀ (h' : Heap) (tk : Nat) (acc : Array Value) (c' : Nat), (∀ b o, b ≠ S → b ≠ it → s.heap.get? b = some o → h'.get? b = some o) → h'.get? S = some { cls := .type "list", dict := none, data := .seq acc c', slots := #[] } → ItemsOf (fun i v => items[items.size - 1 - i]? = some v) acc items.size → R (.ok (.ret .none)) { s with heap := h', toks := tk }) :
    wpAny (model prog w) A.in1 (Builtin.«list.__init__» ⟨[.ref S, .ref it], []⟩)
      (fun fin s' => match fin with | .done f => R (.ok f) s' | .again c' => c'.quiet = true ∧ codeAny (model prog w) A c' R s') (fun e s' => R (.error e) s') s := by
  show wpAny _ A.in1 (do let old ← Builtin.List.listItems (.ref S); Builtin.List.listUpdate (.ref S) (fun _ => #[]); letGo old.toList.reverse; Builtin.List.listExtendWith (.ref S) (.ref it) .none) _ _ s
  refine wpAny_bind ?_
  unfold Builtin.List.listItems
  refine wpAny_bind (wpAny_seqItems hS rfl (wpAny_pure ?_))
  show wpAny _ A.in1 (updateSeq S (fun _ => #[]) >>= fun _ => letGo (#[] : Array Value).toList.reverse >>= fun _ => Builtin.List.listExtendWith (.ref S) (.ref it) .none) _ _ s
  refine wpAny_bind (wpAny_updateSeq hS rfl ?_)
  have hS₂ := Heap.get?_update_self (Obj.mapSeq (fun _ => (#[] : Array Value))) hS rfl
  have oth : ∀ b o, b ≠ S → s.heap.get? b = some o → (s.heap.update S (Obj.mapSeq (fun _ => (#[] : Array Value)))).get? b = some o :=
    fun b o hb e => (Heap.get?_update_other _ _ (Ne.symm hb)).trans e
  refine wpAny_bind (wpAny_letGo ?_)
  refine extend_rev (s := { s with heap := s.heap.update S (Obj.mapSeq (fun _ => (#[] : Array Value))) }) hh (hit.at fun o e => oth it o hSi.symm e) (by obtain ⟨o, ho, x⟩ := hl; exact ⟨o, oth l o hSl.symm ho, x⟩) hne hSi hSl hn hS₂ fun s' acc' c' hm hS' hacc => ?_
  rw [Moved.eq_with hm]
  exact hR s'.heap s'.toks acc' c' (fun b o hb hb2 e => hm.heap b o (by simp [hb, hb2]) (oth b o hb e)) hS' hacc
theorem call_list_rev {it l : Addr} {items : Array Value} {Q : Value → Shared → Prop} (hh : A.handled = none) (hit : s.heap.IsRevIter it l ((items.size : Int) - 1)) (hl : s.heap.IsList l items) (hne : l ≠ it) (hn : items.size ≤ sizeLine)
    (hQ : ∀ (h' : Heap) (tk : Nat) (acc : Array Value) (c' : Nat), (∀ b o, b ≠ it → s.heap.get? b = some o → h'.get? b = some o) → h'.get? s.heap.objs.size = some { cls := .type "list", dict := none, data := .seq acc c', slots := #[] } → ItemsOf (fun i v => items[items.size - 1 - i]? = some v) acc items.size → Q (.ref s.heap.objs.size) { s with heap := h', toks := tk }) :
    wpAny (model prog w) A (call (.type "list") [.ref it]) Q E s := by
  refine callType_codes (Q₁ := fun obj s₁ => obj = .ref s.heap.objs.size ∧ s₁ = { s with heap := s.heap.push { cls := .type "list", data := .seq #[] } }) F.called_list (F.typeCall_list_1 _) F.entry_list_init
    (code_list_new _ ⟨rfl, rfl⟩) fun obj s₁ h₁ => ?_
  obtain ⟨rfl, rfl⟩ := h₁
  have hS : (s.heap.push { cls := .type "list", data := .seq #[] }).get? s.heap.objs.size = some { cls := .type "list", data := .seq #[] } := Heap.get?_push_size _ rfl
  obtain ⟨oi, hoi, _⟩ := id hit
  obtain ⟨ol, hol, _⟩ := id hl
  refine ⟨⟨_, hS, rfl⟩, F.args_list_init_2 _ _, init_rev (A := A.in1) (s := { s with heap := s.heap.push { cls := .type "list", data := .seq #[] } }) hh (hit.at fun o e => Heap.get?_push_of_some _ e) (hl.push _) hne (Nat.ne_of_gt (Heap.lt_size hoi)) (Nat.ne_of_gt (Heap.lt_size hol)) hn hS fun h' tk acc c' hk hS' hacc => ?_⟩
  exact ⟨rfl, hQ h' tk acc c' (fun b o hb e => hk b o (Nat.ne_of_lt (Heap.lt_size e)) hb (Heap.get?_push_of_some _ e)) hS' hacc⟩
end
section
variable {X : Cx}
/-- list(reversed(xs)): a new list -/
def tListRev (K : PySem.W.Frag) (te : TE) : TE := fun σ H Q => te σ H fun x H1 => ∃ a xs, x = .ref a ∧ SqL K H1 a xs ∧ ∀ p, H1 p = none → Q (.ref p) (upd H1 p (.lst xs.reverse))
theorem pe_listRev {e : Expr} {te : TE} {p p2 pos pos2 : Pos} (hc : X.calm = true) (hg : Gl X "list") (hm : X.mg "list" = none) (hg2 : Gl X "reversed") (hm2 : X.mg "reversed" = none) (he : PE X e te)
    (hs : starEach [e] X.env = (false, eval e X.env) :: starEach [] X.env := by rfl)
    (hs2 : starEach [.Call (.Name "reversed" p2) [e] [] pos2] X.env = (false, eval (.Call (.Name "reversed" p2) [e] [] pos2) X.env) :: starEach [] X.env := by rfl) :
    PE X (.Call (.Name "list" p) [.Call (.Name "reversed" p2) [e] [] pos2] [] pos) (tListRev X.K te) := by
  refine ⟨fun pins s σ H Q I h => ?_⟩
  refine Call_ (ld_blt I hg hm boot_list (PyProof.Rows.callWith_type1 (args_cons (Call_ (ld_blt I hg2 hm2 PyProof.Rows.boot_reversed (PyProof.Rows.callWith_type1 (args_cons (thn (he.run pins s σ H _ I h) fun u s1 ⟨v, H1, I1, r1, q1⟩ => args_nil ?_) hs) hs rfl))) hs2) hs2 rfl))
  obtain ⟨a, xs, ev, hq, q⟩ := q1
  subst ev
  obtain rfl : u = Value.ref a := r1
  obtain ⟨its, rv, p', hz⟩ := I1.list hq
  refine call_reversed_list p'.isList (args_nil ?_)
  have k0 : ∀ b o, s1.heap.get? b = some o → (s1.heap.push (revObj a ((its.toArray.size : Int) - 1))).get? b = some o := fun b o e => Heap.get?_push_of_some _ e
  have hl := p'.isList
  obtain ⟨ol, hol, _⟩ := id hl
  have hne : a ≠ s1.heap.objs.size := Nat.ne_of_lt (Heap.lt_size hol)
  have hn : its.toArray.size ≤ sizeLine := by rw [List.size_toArray, ← rv.length]; exact hz
  refine call_list_rev (s := { s1 with heap := s1.heap.push (revObj a ((its.toArray.size : Int) - 1)) }) (I1.ok.hd hc) ⟨_, Heap.get?_push_size _ rfl, rfl, rfl⟩ (hl.push _) hne hn fun h' tk acc c' hk hS' hi => ?_
  have hle : s1.heap.objs.size ≤ (s1.heap.push (revObj a ((its.toArray.size : Int) - 1))).objs.size := by simp [Heap.push]
  have ea : acc.toList.toArray = acc := by simp
  exact ⟨.ref (s1.heap.push (revObj a ((its.toArray.size : Int) - 1))).objs.size, upd H1 (s1.heap.push (revObj a ((its.toArray.size : Int) - 1))).objs.size (.lst xs.reverse), I1.laid (t' := tk) (fun c o e => hk c o (Nat.ne_of_lt (Heap.lt_size e)) (k0 c o e)) hle (show ObjOk X.prog X.w _ _ _ (.lst xs.reverse) from ⟨by rw [List.length_reverse]; exact hz, acc.toList, c', vals_rev rv hi, by rw [ea]; exact hS'⟩), rfl, q _ (I1.hok.fresh hle)⟩
end
end RL
/-! ### xs.extend(a tuple) -/
namespace RL
open PySem PySem.Spec PyProof.Rows RT L2
theorem meets_extend_tup (l : Addr) (items : Array Value) (n : Nat) (b : Addr) (items2 : Array Value) (n2 : Nat) (o : Obj) (hc : o.cls = .type "tuple") (hd : o.data = .seq items2 n2) (hs1 : items.size + items2.size ≤ sizeLine) :
    Meets (Builtin.«list.extend» ⟨[.ref l, .ref b], []⟩) (fun _ R s => s.heap.get? l = some { cls := .type "list", dict := none, data := .seq items n, slots := #[] } ∧ s.heap.get? b = some o ∧ R (.ok (.ret Value.none)) { s with heap := s.heap.update l (Obj.mapSeq fun x => x ++ items2), toks := s.toks }) :=
  .of_wp fun prog w A R s h => by
    obtain ⟨hl, hb, h⟩ := h
    show wpAny _ _ (Builtin.List.listExtendWith (.ref l) (.ref b) .none) _ _ _
    unfold Builtin.List.listExtendWith
    refine wpAny_bind (wpAny_typeOf ⟨o, hb, hc⟩ ?_)
    have h1 : (Builtin.List.listSameRef (.ref l) (.ref b) || Value.type "tuple" == Value.type "list" || Value.type "tuple" == Value.type "tuple") = true := by simp
    simp only [h1, if_true]
    refine wpAny_bind ?_
    unfold Builtin.List.listItems
    refine wpAny_bind (wpAny_seqItems hb hd (wpAny_pure ?_))
    refine wpAny_bind ?_
    refine wpAny_bind (wpAny_seqItems hl rfl (wpAny_pure ?_))
    have hlong : ¬ (!items.isEmpty && Builtin.List.listTooLong (items.size + items2.size)) = true := by
      rw [notLongL hs1, Bool.and_false]
      exact Bool.false_ne_true
    rw [if_neg hlong]
    show wpAny _ _ (updateSeq l (· ++ items2) >>= fun _ => ret .none) _ _ s
    refine wpAny_bind (wpAny_updateSeq hl rfl (hz := by omega) (_hz' := by rw [Array.size_append]; omega) ?_)
    exact wpAny_pure ⟨_, rfl, h⟩
section
variable {X : Cx}
def rExtT : V → List V → Hp → VK → Prop := fun x vs H Q => ∃ l b xs zs, x = .ref l ∧ vs = [.ref b] ∧ H l = some (.lst xs) ∧ H b = some (.tup zs) ∧ xs.length + zs.length ≤ sizeLine ∧ Q .non (upd H l (.lst (xs ++ zs)))
theorem mt_extendT : MtM X "list.extend" rExtT := by
  intro pins s σ H x vs v us Q I rx rv h
  obtain ⟨l, b, xs, zs, rfl, rfl, hH, hB, hz, q⟩ := h
  cases rx
  obtain ⟨u, rfl, ru⟩ := rv.one
  cases ru
  obtain ⟨z, its, n, r, hl, e⟩ := I.lstM hH
  obtain ⟨its2, r2, ⟨o, ho, hc, n2, hd⟩, hz2⟩ := I.tuple (SqT.of hB)
  have hl2 := r2.length
  refine call_meets PySem.F.slot_list_extend ⟨_, e, rfl⟩ PySem.F.entry_list_extend (PySem.F.args_list_extend_2 _ _)
    (meets_extend_tup l its.toArray n b its2.toArray n2 o hc hd (by rw [List.size_toArray, List.size_toArray]; omega)) ⟨e, ho, ?_⟩
  refine ⟨.non, _, I.lset (its' := its ++ its2) hH e (by simp) (r.append r2) ?_, rfl, q⟩
  rw [List.length_append]
  omega
end
end RL
/-! ### enumerate(a list, start=k) -/
namespace RL
open PySem PySem.Spec PyProof.Rows L2
section
variable {M : Model} {A : Around} {E : Value → Shared → Prop} {s : Shared} {env : Env}
theorem callWith_type_kwB {pos : Pos} {T : String} {first : List Value} {args : List (Bool × Sem Value)} {keywords : List (Option Str × Sem Value)} {Q : Value → Shared → Prop}
    (hplain : args.any (·.1) = false) (hkw : keywords.any (·.1.isNone) = false)
    (h : wpAny M A (evalArgs (.type T) true args keywords) (fun a s₁ => wpAny M A (call (.type T) (first ++ a.pos) a.kw) Q E s₁) E s) :
    wpAny M A (callWith pos (.type T) first args keywords) Q E s := by
  unfold callWith
  refine wpAny_bind (wpAny_holding (wpAny_mono h (fun a s₁ h₁ => wpAny_bind (wpAny_standAt ?_)) fun _ _ x => x))
  simp only [hplain, hkw, Bool.or_false]
  refine wpAny_bind (wpAny_pure ?_)
  exact wpAny_bind (wpAny_mono h₁ (fun r s₂ hr => wpAny_bind (wpAny_holding (wpAny_point (wpAny_pure hr)))) fun _ _ x => x)
theorem callWith_type_kw {pos : Pos} {T : String} {e : Expr} {rest : List Expr} {kws : List Keyword} {Q : Value → Shared → Prop}
    (h : wpAny M A (spliced (backTo pos (starEach (e :: rest) env))) (fun vs s₁ => wpAny M A (evalAll ((backToKw pos (keywordEach kws env)).map (·.2)))
      (fun kvs s₂ => wpAny M A (call (.type T) vs (((backToKw pos (keywordEach kws env)).filterMap (·.1)).zip kvs)) Q E s₂) E s₁) E s)
    (he : backTo pos (starEach (e :: rest) env) = (false, eval e env) :: backTo pos (starEach rest env))
    (hplain : (backTo pos (starEach (e :: rest) env)).any (·.1) = false)
    (hall : (backToKw pos (keywordEach kws env)).all (·.1.isSome) = true)
    (hkw : (backToKw pos (keywordEach kws env)).any (·.1.isNone) = false) :
    wpAny M A (callWith pos (.type T) [] (backTo pos (starEach (e :: rest) env)) (backToKw pos (keywordEach kws env))) Q E s := by
  refine callWith_type_kwB hplain hkw ?_
  rw [he] at h ⊢
  exact evalArgs_kwB hall h
end
/-- the list at a as it stands at each turn, each item in a new pair, counted from k -/
def IteS (K : PySem.W.Frag) (a : Addr) (k : Int) : It :=
  ⟨fun i H => ∃ (xs : List V) (x : V), SqL K H a xs ∧ xs[i]? = some x, fun i H v H' => ∃ T x, v = .ref T ∧ H T = none ∧ H' = upd H T (.tup [.int (k + (i : Nat)), x]) ∧ ∀ xs, SqL K H a xs → xs[i]? = some x, fun i H => ∃ xs : List V, SqL K H a xs ∧ xs.length = i⟩
theorem turn_enumS {P : Program} {w : World} {K : PySem.W.Frag} {elts : List Expr} {kk : Nat} {tpos : Pos} (a e it : Addr) (k : Int) :
    Turn P w K (.Tuple elts kk tpos) (IteS K a k) [e, it] e (fun i h => (∃ old, IsEnum h e it (k + ((i : Nat) : Int)) old) ∧ h.IsListIter it a i ∧ e ≠ it ∧ e ≠ a ∧ a ≠ it) where
  mem := by simp
  obj := fun i h st b hb => by
    obtain ⟨⟨old, he⟩, ⟨o, ho, hc, hd⟩, _⟩ := st
    have e' : b = e ∨ b = it := by simpa using hb
    rcases e' with z | z
    · rw [z]; exact ⟨_, he, fun v q => nomatch q⟩
    · rw [z]; exact ⟨o, ho, fun v q => by rw [hd] at q; cases q⟩
  keep := fun i h h' st k => let ⟨⟨old, he⟩, hi, hne⟩ := st; ⟨⟨old, k e (by simp) _ he⟩, hi.at fun o q => k it (by simp) o q, hne⟩
  item := by
    intro X hP hw hK hc i pins s σ H E I hf st hg
    subst hP hw hK
    obtain ⟨⟨old, he⟩, hit, hne, hea, hai⟩ := st
    obtain ⟨xs, x, hq, hx⟩ := hg
    obtain ⟨its, rv, p, hz⟩ := I.list hq
    obtain ⟨u, hu, ru⟩ := rv.get hx
    have hel : e < s.heap.objs.size := Heap.lt_size he
    have hil : it < s.heap.objs.size := by obtain ⟨_, q, _⟩ := hit; exact Heap.lt_size q
    have D := Draws.list (prog := X.prog) (w := X.w) (A := X.A.in1) (I.ok.hd hc) it a hai its.toArray
    have hlt : i < its.toArray.size := by
      have := (List.getElem?_eq_some_iff.mp hu).1
      simpa using this
    refine wpAny_pyNext_enum_itemC D he ⟨hit, p.isList⟩ hlt hne (by simp [hne, hea]) fun u' h' tk hu' ho hst' hT hsz hk => ?_
    have euu : u' = u := by
      have z : its.toArray[i]? = some u := by simpa using hu
      rw [z] at hu'
      exact (Option.some.inj hu').symm
    subst euu
    refine ⟨_, rfl, wpAny_letOwnedTupleGo_enum (s := { s with heap := h', toks := tk + 1 }) ho fun h'' he' sb => ?_⟩
    have hT2 : h''.get? s.heap.objs.size = some { cls := .type "tuple", data := .seq #[.int (k + (i : Nat)) tk, u'] } := (sb.2 _ (Nat.ne_of_gt hel)).trans hT
    have new : ObjOk X.prog X.w (upd H s.heap.objs.size (.tup [.int (k + (i : Nat)), x])) h'' s.heap.objs.size (.tup [.int (k + (i : Nat)), x]) :=
      ⟨by show 2 ≤ sizeLine; decide, [.int (k + (i : Nat)) tk, u'], .cons ⟨_, rfl⟩ (.cons ru .nil), ⟨_, hT2, rfl, _, rfl⟩⟩
    have I1 : Inv X pins σ (upd H s.heap.objs.size (.tup [.int (k + (i : Nat)), x])) { s with heap := h'', toks := tk + 1 } :=
      I.turnedNew (ch := [e, it]) (fun b ob hb q => (sb.2 b (fun z => hb (by simp [z]))).trans (hk b ob (fun z => hb (by simp [z])) (fun z => hb (by simp [z])) q)) hf (Nat.le_refl _) new
    refine ⟨.ref s.heap.objs.size, _, I1, rfl, ⟨_, x, rfl, I.hok.fresh (Nat.le_refl _), rfl, fun ys hy => by rw [I.list_inj hy hq]; exact hx⟩, ⟨⟨u', ?_⟩, hst'.1.at fun o q => (sb.2 it (Ne.symm hne)).trans q, hne, hea, hai⟩, fun b hb => ?_⟩
    · have e1 : k + ((i + 1 : Nat) : Int) = k + (i : Int) + 1 := by omega
      rw [e1]; exact he'
    · have hb' : b < s.heap.objs.size := by
        have e' : b = e ∨ b = it := by simpa using hb
        rcases e' with z | z
        · rw [z]; exact hel
        · rw [z]; exact hil
      rw [upd_ne (Nat.ne_of_lt hb')]
      exact (hf b hb).1
  done := by
    intro X hP hw hK hc i pins s σ H E I hf st hg
    subst hP hw hK
    obtain ⟨⟨old, he⟩, hit, hne, hea, hai⟩ := st
    obtain ⟨xs, hq, hx⟩ := hg
    obtain ⟨its, rv, p, hz⟩ := I.list hq
    obtain ⟨f0, f1, f2, f3, f4, f5⟩ := hf it (by simp)
    have hl := rv.length
    have D := Draws.list (prog := X.prog) (w := X.w) (A := X.A.in1) (I.ok.hd hc) it a hai its.toArray
    have en : i = its.toArray.size := by rw [List.size_toArray]; omega
    subst en
    exact wpAny_pyNext_enum_endD D he ⟨hit, p.isList⟩ fun h' eb => ⟨rfl, I.turned (t' := s.toks) (fun b o hb q => eb b o hb q) f0 f1 f3 f4 f5⟩
  self := fun A i s Q E st h => let ⟨⟨_, he⟩, _⟩ := st; wpAny_pyIter_enum he h
def iEnumS (K : PySem.W.Frag) (ta : TA) (tk : TA) : TI := fun σ H R => ta σ H fun vs H1 => tk σ H1 fun zs H2 => ∃ a xs k, vs = [.ref a] ∧ zs = [.int k] ∧ -(2 ^ 63) ≤ k ∧ k < 2 ^ 63 ∧ SqL K H2 a xs ∧ R (IteS K a k) H2
theorem pi_enumS {X : Cx} {e e2 : Expr} {ta tk : TA} {p pos tpos kp : Pos} {elts : List Expr} {kk : Nat} (hg : Gl X "enumerate") (hm : X.mg "enumerate" = none) (ha : PA X [e] ta) (hkw : PK X [⟨some ("start" : Str), e2, kp⟩] tk)
    (he : backTo pos (starEach [e] X.env) = (false, eval e X.env) :: backTo pos (starEach [] X.env) := by rfl) (hpl : (backTo pos (starEach [e] X.env)).any (·.1) = false := by rfl)
    (hall : (backToKw pos (keywordEach [⟨some ("start" : Str), e2, kp⟩] X.env)).all (·.1.isSome) = true := by rfl) (hnone : (backToKw pos (keywordEach [⟨some ("start" : Str), e2, kp⟩] X.env)).any (·.1.isNone) = false := by rfl)
    (hks : (backToKw pos (keywordEach [⟨some ("start" : Str), e2, kp⟩] X.env)).filterMap (·.1) = [("start" : Str)] := by rfl) :
    PI X (.Tuple elts kk tpos) (.Call (.Name "enumerate" p) [e] [⟨some ("start" : Str), e2, kp⟩] pos) (iEnumS X.K ta tk) := by
  refine ⟨fun pins s σ H R I h => ?_⟩
  refine wpAny_Call_Name_kw (ld_blt I hg hm boot_enumerate (callWith_type_kw (thn (ha.run pos pins s σ H _ I h) fun us s0 ⟨vs, H0, I0, r0, q0⟩ => thn (hkw.run pos pins s0 σ H0 _ I0 q0) fun ws s1 ⟨zs, H1, I1, r2, q1⟩ => ?_) he hpl hall hnone))
  rw [hks]
  obtain ⟨a, xs, k, ex, ez, hk0, hk1, hq, q⟩ := q1
  subst ex ez
  cases r0 with
  | cons r rr =>
    cases rr
    cases r
    cases r2 with
    | cons r3 rr3 =>
      cases rr3
      obtain ⟨t, rfl⟩ := r3
      obtain ⟨its, rv, p', hz⟩ := I1.list hq
      have hal : a < s1.heap.objs.size := by obtain ⟨_, z, _⟩ := p'.isList; exact Heap.lt_size z
      refine enum_begins_start (begins_list a its.toArray) p'.isList hk0 hk1 fun h' he' hit hsz hk => wpAny_pyIter_enum he' ?_
      have I2 : Inv X pins σ H1 { s1 with heap := h' } := I1.kept (t' := s1.toks) hk
      refine ⟨s1.heap.objs.size + 1, [s1.heap.objs.size + 1, s1.heap.objs.size], _, _, H1, rfl, I2, turn_enumS a (s1.heap.objs.size + 1) s1.heap.objs.size k, ⟨⟨.none, ?_⟩, ⟨_, hit, rfl, ?_⟩, Nat.succ_ne_self _, Nat.ne_of_gt (Nat.lt_succ_of_lt hal), Nat.ne_of_lt hal⟩, fun b hb => ?_, q⟩
      · rw [show k + ((0 : Nat) : Int) = k by omega]
        exact he'
      · rfl
      · have e' : b = s1.heap.objs.size + 1 ∨ b = s1.heap.objs.size := by simpa using hb
        have hle : s1.heap.objs.size ≤ b := by
          rcases e' with z | z
          · rw [z]; exact Nat.le_add_right _ _
          · rw [z]; exact Nat.le_refl _
        exact I1.fpOk hle (I1.hok.fresh hle)
end RL
/-! ### a text times an int -/
namespace RL
open PySem PySem.Spec PyProof.Rows L2
def repS (z : Str) (k : Nat) : Str := ⟨(List.replicate k z.cps).foldl (· ++ ·) #[]⟩
theorem foldl_size : ∀ (l : List (Array Nat)) (a : Array Nat), (l.foldl (· ++ ·) a).toList = a.toList ++ (l.map Array.toList).flatten
  | [], a => by simp
  | x :: r, a => by
    rw [List.foldl_cons, foldl_size r (a ++ x), Array.toList_append, List.map_cons, List.flatten_cons, List.append_assoc]
theorem repS_tl (z : Str) (k : Nat) : TL.tl (repS z k) = (List.replicate k z.cps.toList).flatten := by
  show ((List.replicate k z.cps).foldl (· ++ ·) #[]).toList = _
  rw [foldl_size, List.map_replicate]
  rfl
theorem repS_len (z : Str) (k : Nat) : (repS z k).length = k * z.length := by
  show (repS z k).cps.size = _
  rw [← Array.length_toList]
  have h := repS_tl z k
  unfold TL.tl at h
  rw [h]
  simp [List.length_flatten]
  rfl
def rMulS : R2 := fun x y H Q => ∃ (z : Str) (k : Nat), x = .str z ∧ y = .int (k : Int) ∧ 2 ≤ k ∧ k ≤ 100000 ∧ 1 ≤ z.length ∧ z.length ≤ 100 ∧ Q (.str (repS z k)) H
theorem op_mulS {X : Cx} : OpR X (binaryOp .Mult) rMulS := by
  intro pins s σ H x y v u Q I rx ry h
  obtain ⟨z, k, rfl, rfl, hk, hk2, hz, hz2, q⟩ := h
  obtain ⟨t, rfl⟩ := rx
  obtain ⟨t', rfl⟩ := ry
  have hle : z.length * k ≤ 10000000 := by
    have h1 : z.length * k ≤ 100 * k := Nat.mul_le_mul_right k hz2
    omega
  have hno : ((((k : Nat) : Int) == 1) || z.length == 0) = false := by
    have h1 : (((k : Nat) : Int) == 1) = false := by
      apply beq_false_of_ne
      omega
    have h2 : (z.length == 0) = false := by
      apply beq_false_of_ne
      omega
    rw [h1, h2]; rfl
  refine PySem.P.mul_str ?_ ?_ ?_ ?_
  · have h1 : ¬ (k : Int) < -(2 ^ 63 : Int) := by omega
    have h2 : ¬ (k : Int) ≥ 2 ^ 63 := by omega
    rw [decide_eq_false h1, decide_eq_false h2]; rfl
  · intro _ _
    have h3 : (1000 : Int) ≤ (2 ^ 63 - 1) / (k : Int) := by
      rw [Int.le_ediv_iff_mul_le (by omega)]
      omega
    omega
  · intro _ _
    rw [Int.toNat_natCast]
    have hs : 10000000 ≤ sizeLine := by decide
    unfold Builtin.Str.tooLong
    exact decide_eq_false (by omega)
  · rw [if_neg (by omega), if_neg (by rw [hno]; decide)]
    rw [Int.toNat_natCast]
    have hl := repS_len z k
    have hs : 10000000 ≤ sizeLine := by decide
    have hc : k * z.length = z.length * k := Nat.mul_comm _ _
    refine ⟨?_, ⟨.str (repS z k), H, I.tok _, ⟨_, rfl⟩, q⟩⟩
    show (repS z k).length ≤ sizeLine
    omega
end RL

/-! ### a text, also an empty one, times an int -/
namespace RL
open PySem PySem.Spec PyProof.Rows L2
theorem repS_nil {z : Str} (h : z.length = 0) (k : Nat) : repS z k = z := by
  have hz : z.cps.toList = [] := by
    rw [← List.length_eq_zero_iff, Array.length_toList]; exact h
  refine TL.ext_tl ?_
  rw [repS_tl, hz]
  show (List.replicate k ([] : List Nat)).flatten = z.cps.toList
  rw [hz]
  simp
def rMulE : R2 := fun x y H Q => ∃ (z : Str) (k : Nat), x = .str z ∧ y = .int (k : Int) ∧ 2 ≤ k ∧ k ≤ 100000 ∧ z.length ≤ 100 ∧ Q (.str (repS z k)) H
theorem op_mulE {X : Cx} : OpR X (binaryOp .Mult) rMulE := by
  intro pins s σ H x y v u Q I rx ry h
  obtain ⟨z, k, rfl, rfl, hk, hk2, hz2, q⟩ := h
  rcases Nat.eq_zero_or_pos z.length with h0 | h0
  · obtain ⟨t, rfl⟩ := rx
    obtain ⟨t', rfl⟩ := ry
    rw [repS_nil h0] at q
    have hyes : ((((k : Nat) : Int) == 1) || z.length == 0) = true := by
      rw [h0]; simp
    refine PySem.P.mul_str ?_ (fun _ h => absurd h (by rw [hyes]; decide)) (fun _ h => absurd h (by rw [hyes]; decide)) ?_
    · have h1 : ¬ (k : Int) < -(2 ^ 63 : Int) := by omega
      have h2 : ¬ (k : Int) ≥ 2 ^ 63 := by omega
      rw [decide_eq_false h1, decide_eq_false h2]; rfl
    · rw [if_neg (by omega), if_pos hyes]
      exact ⟨.str z, H, I, ⟨_, rfl⟩, q⟩
  · exact op_mulS pins s σ H _ _ v u Q I rx ry ⟨z, k, rfl, rfl, hk, hk2, h0, hz2, q⟩
end RL

/-! ### Z: single steps of readings, for walking by with_reducible refine -/
namespace Z
open PySem L2
/-- all but what stands at M is as it was -/
def Kp (M : List Addr) (H H' : Hp) : Prop := ∀ b o, b ∉ M → H b = some o → H' b = some o
theorem Kp.refl {M : List Addr} (H : Hp) : Kp M H H := fun _ _ _ h => h
theorem Kp.trans {M : List Addr} {H H1 H2 : Hp} (a : Kp M H H1) (b : Kp M H1 H2) : Kp M H H2 := fun c o n h => b c o n (a c o n h)
theorem Kp.new {M : List Addr} {H : Hp} {p : Addr} {o : HO} (h : H p = none) : Kp M H (upd H p o) := fun b u _ e => by
  rw [upd_ne (ne_of_none e h)]
  exact e
theorem Kp.put {M : List Addr} {H : Hp} {p : Addr} {o : HO} (h : p ∈ M) : Kp M H (upd H p o) := fun b u n e => by
  rw [upd_ne (fun q => n (by rw [q]; exact h))]
  exact e
theorem Kp.sub {M M' : List Addr} {H H' : Hp} (a : Kp M H H') (h : ∀ x, x ∈ M → x ∈ M') : Kp M' H H' := fun b o n e => a b o (fun z => n (h b z)) e
theorem Kp.same {H H' : Hp} (a : Kp [] H H') : Same H H' := fun b o e => a b o (by simp) e
theorem Kp.of_same {M : List Addr} {H H' : Hp} (a : Same H H') : Kp M H H' := fun b o _ e => a b o e
theorem Kp.none {M : List Addr} {H H' : Hp} (a : Kp M H H') {p : Addr} (n : p ∉ M) (h : H' p = Option.none) : H p = Option.none := by
  cases q : H p with
  | none => rfl
  | some o =>
    rw [a p o n q] at h
    cases h
/-- what was not there may be forgotten from M -/
theorem Kp.drop {M : List Addr} {H H' : Hp} {p : Addr} (a : Kp (p :: M) H H') (h : H p = Option.none) : Kp M H H' := fun b o n e => a b o (by
  intro z
  rcases List.mem_cons.mp z with z | z
  · rw [z, h] at e
    cases e
  · exact n z) e
theorem Kp.get {M : List Addr} {H H' : Hp} (a : Kp M H H') {b : Addr} {o : HO} (n : b ∉ M) (e : H b = some o) : H' b = some o := a b o n e
theorem Kp.seq {M : List Addr} {K : PySem.W.Frag} {H H' : Hp} (e : Kp M H H') {a : Addr} {xs : List V} (n : a ∉ M) (h : SqL K H a xs) : SqL K H' a xs := by
  rcases h with (h | ⟨o, h⟩) | h
  · exact .inl (.inl (e _ _ n h))
  · exact .inl (.inr ⟨o, e _ _ n h⟩)
  · exact .inr h
theorem Kp.tup {M : List Addr} {K : PySem.W.Frag} {H H' : Hp} (e : Kp M H H') {a : Addr} {xs : List V} (n : a ∉ M) (h : SqT K H a xs) : SqT K H' a xs := by
  rcases h with (h | ⟨o, h⟩) | h
  · exact .inl (.inl (e _ _ n h))
  · exact .inl (.inr ⟨o, e _ _ n h⟩)
  · exact .inr h
/-- what H0 does not know may change -/
theorem Kp.mut {M : List Addr} {H0 H H' : Hp} {l : Addr} {o : HO} (a : Kp M H0 H) (h : H0 l = Option.none) (e : H' = upd H l o) : Kp M H0 H' := fun b u n z => by
  rw [e, upd_ne (ne_of_none z h)]
  exact a b u n z
theorem Kp.then1 {M : List Addr} {H0 H H' : Hp} {l : Addr} (a : Kp M H0 H) (b : Kp [l] H H') (h : H0 l = Option.none) : Kp M H0 H' := fun c o n e => b c o (by
  intro z
  rw [List.mem_singleton.mp z, h] at e
  cases e) (a c o n e)
/-- a new instance and its dict -/
theorem Kp.made {M : List Addr} {H : Hp} {x dx : Addr} {o u : HO} (nx : H x = Option.none) (nd : H dx = Option.none) : Kp M H (upd (upd H dx u) x o) := fun c o n e => by
  rw [upd_ne (ne_of_none e nx), upd_ne (ne_of_none e nd)]
  exact e
theorem none2 {H : Hp} {x dx l : Addr} {o u : HO} (h : upd (upd H dx u) x o l = Option.none) : H l = Option.none := by
  unfold upd at h
  split at h
  · cases h
  · split at h
    · cases h
    · exact h
theorem nin1 {a b : Addr} (h : b ≠ a) : b ∉ [a] := by simpa using h
theorem nin0 {b : Addr} : b ∉ ([] : List Addr) := by simp
theorem lstL {K : PySem.W.Frag} {H : Hp} {a : Addr} {xs : List V} (h : H a = some (.lst xs)) : SqL K H a xs := .inl (.inl h)
theorem tupT {K : PySem.W.Frag} {H : Hp} {a : Addr} {xs : List V} (h : H a = some (.tup xs)) : SqT K H a xs := .inl (.inl h)

theorem cxK {CX : CXT} {P : Program} {w : World} {K : PySem.W.Frag} {mg : Str → Option Value} {base : Heap} {N : List Str} {qual : Str} {scope : Scope} {f : Addr} {cd : Value} {A : Around} {outer : List Env} {s : Shared} {H : Hp} {E : XK} : (cxOf CX P w K mg base N qual scope f cd A outer s H E).K = K := rfl
/-! named readings of rules -/
def rLenN (K : PySem.W.Frag) : List V → Hp → VK → Prop := fun xs H Q => ∃ p ys, xs = [.ref p] ∧ (SqL K H p ys ∨ SqT K H p ys) ∧ Q (.int ys.length) H
theorem c_len {X : Cx} : CallR X (.builtin "len") (rLenN X.K) := call_len_seq
def rListN (K : PySem.W.Frag) : List V → Hp → VK → Prop := fun xs H Q => ∃ p ys, xs = [.ref p] ∧ (SqL K H p ys ∨ SqT K H p ys) ∧ ∀ l, H l = none → Q (.ref l) (upd H l (.lst ys))
theorem c_list {X : Cx} : CallR X (.type "list") (rListN X.K) := call_list_of
def rTupN (K : PySem.W.Frag) : List V → Hp → VK → Prop := fun xs H Q => ∃ p ys, xs = [.ref p] ∧ ((SqL K H p ys ∧ ∀ l, H l = none → Q (.ref l) (upd H l (.tup ys))) ∨ (SqT K H p ys ∧ Q (.ref p) H))
theorem c_tuple {X : Cx} : CallR X (.type "tuple") (rTupN X.K) := call_tuple_of
def rInt1 : List V → Hp → VK → Prop := fun xs H Q => (∃ i, xs = [.int i] ∧ Q (.int i) H) ∨ ∃ k, xs = [.bl k] ∧ Q (.int (if k then 1 else 0)) H
theorem c_int {X : Cx} : CallR X (.type "int") rInt1 := call_int1
def rAbs : List V → Hp → VK → Prop := fun xs H Q => ∃ i, xs = [.int i] ∧ Q (.int (if i < 0 then -i else i)) H
theorem c_abs {X : Cx} : CallR X (.builtin "abs") rAbs := call_abs
def rIsN : R2 := fun x y H Q => y = .non ∧ Q (.bl (decide (x = .non))) H
theorem o_isN {X : Cx} : OpR X (compareOp .Is) rIsN := op_isN
def rNotN : R2 := fun x y H Q => y = .non ∧ Q (.bl (!decide (x = .non))) H
theorem o_notN {X : Cx} : OpR X (compareOp .IsNot) rNotN := op_notN
def rAddS : R2 := fun x y H Q => ∃ i j, x = .str i ∧ y = .str j ∧ i.length + j.length ≤ sizeLine ∧ Q (.str (i ++ j)) H
theorem o_addS {X : Cx} : OpR X (binaryOp .Add) rAddS := op_add_str
def rInSg : R2 := fun x y H Q => ∃ (c : Nat) (z : Str), x = .str ⟨#[c]⟩ ∧ y = .str z ∧ Q (.bl (decide (c ∈ z.cps.toList))) H
theorem o_inSg {X : Cx} : OpR X (compareOp .In) rInSg := op_in_sign
def rNinSg : R2 := fun x y H Q => ∃ (c : Nat) (z : Str), x = .str ⟨#[c]⟩ ∧ y = .str z ∧ Q (.bl (!decide (c ∈ z.cps.toList))) H
theorem o_ninSg {X : Cx} : OpR X (compareOp .NotIn) rNinSg := op_notIn_sign
/-- // by a divisor of any sign -/
def CDivA (_ j : Int) : Prop := j ≠ 0 ∧ j.natAbs.log2 < 9000
theorem op_fdivA {X : Cx} : OpR X (binaryOp .FloorDiv) (rI CDivA fun i j => .int (i.fdiv j)) := opI fun i j _ _ _ _ _ hc q => PyProof.Rows.floordiv_int hc.1 q (.inl (PyProof.noPylong_of_log2 hc.2))
theorem divA {i j : Int} {b : Nat} (h : j ≠ 0) (hb : j.natAbs < 2 ^ b) (h0 : 0 < b) (h9 : b ≤ 9000) : CDivA i j := ⟨h, Nat.lt_of_lt_of_le (PySem.Flt.log2_lt_of h0 hb) h9⟩
def rLenS : List V → Hp → VK → Prop := fun xs H Q => ∃ x : Str, xs = [.str x] ∧ x.cps.size ≤ 10000000 ∧ Q (.int (x.cps.size : Nat)) H
theorem c_lens {X : Cx} : CallR X (.builtin "len") rLenS := fun pins s σ H xs us Q I r h => call_len pins s σ H xs us Q I r (by obtain ⟨x, rfl, hz, q⟩ := h; exact ⟨.str x, _, rfl, ⟨Nat.le_trans hz (by decide), rfl⟩, q⟩)
def rPopQ : V → List V → Hp → VK → Prop := rPop
section
variable {σ : St} {H : Hp} {Q : VK} {v x y : V} {ta tb tc te : TE} {tA : TT} {D : Ends} {t u ts : TS} {r : R2} {K : PySem.W.Frag} {i : Nat} {A B : Prop}
/-! values -/
theorem var (h : σ[i]? = some (some v)) (q : Q v H) : tVar i σ H Q := ⟨v, h, q⟩
theorem cst (q : Q v H) : tC v σ H Q := q
theorem op (h : ta σ H fun x H1 => tb σ H1 fun y H2 => r x y H2 Q) : tOp r ta tb σ H Q := h
theorem un {r : V → Hp → VK → Prop} (h : ta σ H fun x H1 => r x H1 Q) : tUn r ta σ H Q := h
theorem i0 {g : Int → Int → V} {a b : Int} (q : Q (g a b) H) : rI0 g (.int a) (.int b) H Q := ⟨a, b, rfl, rfl, q⟩
theorem iC {C : Int → Int → Prop} {g : Int → Int → V} {a b : Int} (c : C a b) (q : Q (g a b) H) : rI C g (.int a) (.int b) H Q := ⟨a, b, rfl, rfl, c, q⟩
theorem iU {g : Int → V} {a : Int} (q : Q (g a) H) : rU g (.int a) H Q := ⟨a, rfl, q⟩
theorem eqII {a b : Int} (q : Q (.bl (decide (a = b))) H) : rEq (.int a) (.int b) H Q := ⟨rfl, by
  have e : decide (V.int a = V.int b) = decide (a = b) := by simp
  rw [e]; exact q⟩
theorem neII {a b : Int} (q : Q (.bl (!decide (a = b))) H) : rNe (.int a) (.int b) H Q := ⟨rfl, by
  have e : decide (V.int a = V.int b) = decide (a = b) := by simp
  rw [e]; exact q⟩
theorem eqSS {a b : Str} (q : Q (.bl (decide (a = b))) H) : rEq (.str a) (.str b) H Q := ⟨rfl, by
  have e : decide (V.str a = V.str b) = decide (a = b) := by simp
  rw [e]; exact q⟩
theorem neSS {a b : Str} (q : Q (.bl (!decide (a = b))) H) : rNe (.str a) (.str b) H Q := ⟨rfl, by
  have e : decide (V.str a = V.str b) = decide (a = b) := by simp
  rw [e]; exact q⟩
theorem eqBB {a b : Bool} (q : Q (.bl (decide (a = b))) H) : rEq (.bl a) (.bl b) H Q := ⟨rfl, by
  have e : decide (V.bl a = V.bl b) = decide (a = b) := by simp
  rw [e]; exact q⟩
theorem neBB {a b : Bool} (q : Q (.bl (!decide (a = b))) H) : rNe (.bl a) (.bl b) H Q := ⟨rfl, by
  have e : decide (V.bl a = V.bl b) = decide (a = b) := by simp
  rw [e]; exact q⟩
theorem bl {b : Bool} {q : Bool → Hp → Prop} (h : q b H) : ∃ k, V.bl b = .bl k ∧ q k H := ⟨b, rfl, h⟩
theorem bl' {b : Bool} {q : Bool → Prop} (h : q b) : ∃ k, V.bl b = .bl k ∧ q k := ⟨b, rfl, h⟩
theorem test {Q : Bool → Hp → Prop} (h : te σ H fun x H' => ∃ k, x = .bl k ∧ Q k H') : tTest te σ H Q := h
theorem tbb {Q : Bool → Hp → Prop} (h : te σ H fun x H' => ∃ k, x = .bl k ∧ Q k H') : tB te σ H Q := h
theorem tand {a b : TT} {Q : Bool → Hp → Prop} (h : a σ H fun c H1 => if c = true then b σ H1 Q else Q false H1) : tAnd a b σ H Q := h
theorem tor {a b : TT} {Q : Bool → Hp → Prop} (h : a σ H fun c H1 => if c = true then Q true H1 else b σ H1 Q) : tOr a b σ H Q := h
theorem tnot {a : TT} {Q : Bool → Hp → Prop} (h : a σ H fun c H1 => Q (!c) H1) : tNot a σ H Q := h
theorem tyes {Q : Bool → Hp → Prop} (h : Q true H) : tYes σ H Q := h
theorem andV (h : ta σ H fun x H1 => ∃ c, x = .bl c ∧ if c = true then tb σ H1 Q else Q (.bl false) H1) : tAndV ta tb σ H Q := h
theorem orV (h : ta σ H fun x H1 => ∃ c, x = .bl c ∧ if c = true then Q (.bl true) H1 else tb σ H1 Q) : tOrV ta tb σ H Q := h
theorem notV (h : ta σ H fun x H1 => ∃ c, x = .bl c ∧ Q (.bl (!c)) H1) : tNotV ta σ H Q := h
theorem ifE (h : tA σ H fun c H1 => if c = true then ta σ H1 Q else tb σ H1 Q) : L2.tIf tA ta tb σ H Q := h
theorem chain {r r' : R2} (h : ta σ H fun x H1 => tb σ H1 fun y H2 => r x y H2 fun z H3 => ∃ k, z = .bl k ∧ (if k = true then tc σ H3 fun w' H4 => r' y w' H4 Q else Q (.bl false) H3)) : tChain r r' ta tb tc σ H Q := h
/-! branches -/
theorem ite {p : Prop} [Decidable p] (h1 : p → A) (h2 : ¬p → B) : if decide p = true then A else B := by
  by_cases h : p
  · rw [decide_eq_true h, if_pos rfl]; exact h1 h
  · rw [decide_eq_false h, if_neg Bool.false_ne_true]; exact h2 h
theorem iteN {p : Prop} [Decidable p] (h1 : ¬p → A) (h2 : p → B) : if (!decide p) = true then A else B := by
  by_cases h : p
  · rw [decide_eq_true h]; exact h2 h
  · rw [decide_eq_false h]; exact h1 h
theorem iteB {b : Bool} (h1 : b = true → A) (h2 : b = false → B) : if b = true then A else B := by
  cases b with
  | true => exact h1 rfl
  | false => exact h2 rfl
theorem yes {p : Prop} [Decidable p] (h : p) (q : A) : if decide p = true then A else B := by rw [decide_eq_true h, if_pos rfl]; exact q
theorem no {p : Prop} [Decidable p] (h : ¬p) (q : B) : if decide p = true then A else B := by rw [decide_eq_false h, if_neg Bool.false_ne_true]; exact q
theorem yesN {p : Prop} [Decidable p] (h : ¬p) (q : A) : if (!decide p) = true then A else B := by rw [decide_eq_false h]; exact q
theorem noN {p : Prop} [Decidable p] (h : p) (q : B) : if (!decide p) = true then A else B := by rw [decide_eq_true h]; exact q
theorem yesB (q : A) : if true = true then A else B := q
theorem noNB (q : B) : if (!true) = true then A else B := q
theorem yesNB (q : A) : if (!false) = true then A else B := q
theorem noB (q : B) : if false = true then A else B := q
/-! calls -/
theorem nil {Q : List V → Hp → Prop} (q : Q [] H) : tNil σ H Q := q
theorem cons {Q : List V → Hp → Prop} {tr : TA} (h : ta σ H fun x H1 => tr σ H1 fun xs H2 => Q (x :: xs) H2) : tCons ta tr σ H Q := h
theorem cb {r : List V → Hp → VK → Prop} {a : TA} (h : a σ H fun vs H1 => r vs H1 Q) : tCB r a σ H Q := h
theorem call {sp : Sp} {dvs : List V} {E : XK} {a : TA} (h : a σ H fun vs H1 => sp (vs ++ dvs) H1 Q E) : tCall sp dvs E a σ H Q := h
theorem meth {C : Addr} {m : Str} {sp : Sp} {dvs : List V} {E : XK} {a : TA} (h : ta σ H fun x H1 => ∃ p dx fs, x = .ref p ∧ H1 p = some (.ins C dx fs) ∧ fs.lookup m = none ∧ a σ H1 fun vs H2 => sp (x :: (vs ++ dvs)) H2 Q E) : tMeth C m sp dvs E ta a σ H Q := h
theorem fld {f : Str} (h : ta σ H fun x H1 => ∃ a C dx fs v, x = .ref a ∧ H1 a = some (.ins C dx fs) ∧ Cls K C ∧ NoAttr K C f ∧ fs.lookup f = some v ∧ Q v H1) : tFld K ta f σ H Q := h
theorem int1 {a : Int} (q : Q (.int a) H) : rInt1 [.int a] H Q := .inl ⟨a, rfl, q⟩
theorem intb {b : Bool} (q : Q (.int (if b then 1 else 0)) H) : rInt1 [.bl b] H Q := .inr ⟨b, rfl, q⟩
theorem abs1 {a : Int} (q : Q (.int (if a < 0 then -a else a)) H) : rAbs [.int a] H Q := ⟨a, rfl, q⟩
theorem isN (q : Q (.bl (decide (x = .non))) H) : rIsN x .non H Q := ⟨rfl, q⟩
theorem notN (q : Q (.bl (!decide (x = .non))) H) : rNotN x .non H Q := ⟨rfl, q⟩
theorem addS {a b : Str} (h : a.length + b.length ≤ sizeLine) (q : Q (.str (a ++ b)) H) : rAddS (.str a) (.str b) H Q := ⟨a, b, rfl, rfl, h, q⟩
theorem inSg {c : Nat} {z : Str} (q : Q (.bl (decide (c ∈ z.cps.toList))) H) : rInSg (.str ⟨#[c]⟩) (.str z) H Q := ⟨c, z, rfl, rfl, q⟩
theorem ninSg {c : Nat} {z : Str} (q : Q (.bl (!decide (c ∈ z.cps.toList))) H) : rNinSg (.str ⟨#[c]⟩) (.str z) H Q := ⟨c, z, rfl, rfl, q⟩
/-- a new object -/
theorem new {o : HO} (h : ∀ p, H p = none → Q (.ref p) (upd H p o)) : ∀ p, H p = none → Q (.ref p) (upd H p o) := h
def TupN (Q : VK) (xs : List V) (H1 : Hp) : Prop := xs.length ≤ sizeLine ∧ ∀ p, H1 p = none → Q (.ref p) (upd H1 p (.tup xs))
def LstN (Q : VK) (xs : List V) (H1 : Hp) : Prop := xs.length ≤ sizeLine ∧ ∀ p, H1 p = none → Q (.ref p) (upd H1 p (.lst xs))
theorem tup {a : TA} (h : a σ H (TupN Q)) : tTup a σ H Q := h
theorem lst {a : TA} (h : a σ H (LstN Q)) : tLst a σ H Q := h
/-- a new object, the heap behind it a letter -/
theorem mk {o : HO} {H0 : Hp} {R : Addr → Hp → Prop} (h : ∀ p H1, H0 p = none → Kp [] H0 H1 → H1 p = some o → R p H1) : ∀ p, H0 p = none → R p (upd H0 p o) := fun p n => h p _ n (Kp.new n) upd_same
theorem tupK {xs : List V} (q : ∀ p H1, H p = none → Kp [] H H1 → H1 p = some (.tup xs) → Q (.ref p) H1) (h : xs.length ≤ 100000 := by simp) : TupN Q xs H := ⟨Nat.le_trans h (by decide), mk q⟩
theorem lstK {xs : List V} (q : ∀ p H1, H p = none → Kp [] H H1 → H1 p = some (.lst xs) → Q (.ref p) H1) (h : xs.length ≤ 100000 := by simp) : LstN Q xs H := ⟨Nat.le_trans h (by decide), mk q⟩
theorem sz {n m : Nat} (h : n ≤ m) (hm : m ≤ 10000000 := by decide) : n ≤ sizeLine := Nat.le_trans h (Nat.le_trans hm (by decide))
theorem szl {n m : Nat} (h : n ≤ m) (hm : m ≤ 10000000 := by decide) : n < sizeLine := Nat.lt_of_le_of_lt (Nat.le_trans h hm) (by decide)
/-! subscripts -/
theorem ixL {p : Addr} {xs : List V} {j : Int} (h : SqL K H p xs) (e : atI xs j = some v) (q : Q v H) : rIxL K (.ref p) (.int j) H Q := ⟨p, xs, j, v, rfl, rfl, h, e, q⟩
theorem ixT {p : Addr} {xs : List V} {j : Int} (h : SqT K H p xs) (e : atI xs j = some v) (q : Q v H) : rIxT K (.ref p) (.int j) H Q := ⟨p, xs, j, v, rfl, rfl, h, e, q⟩
theorem setL {p : Addr} {xs : List V} {k : Int} {j : Nat} {v : V} {q : Hp → Prop} (h : H p = some (.lst xs)) (e : ixN xs.length k = some j) (hq : q (upd H p (.lst (xs.set j v)))) : rSetL (.ref p) (.int k) v H q := ⟨p, xs, k, j, rfl, rfl, h, e, hq⟩
theorem gsub {to ti : TE} {t : TSet} {Q : St → Hp → Prop} (h : to σ H fun o H1 => ti σ H1 fun i H2 => t o i v H2 fun H3 => Q σ H3) : gSub to ti t v σ H Q := h
/-! statements -/
/-- a statement whose ways join ahead of the rest -/
def tSeqJ (t u : TS) : TS := tSeq t u
theorem pss_consJ {X : Cx} {st : Stmt} {rest : List Stmt} {t u : TS} (h1 : PS X st t) (h2 : PSs X rest u) : PSs X (st :: rest) (tSeqJ t u) := pss_cons h1 h2
theorem seqJ (J : St → Hp → Prop) (h2 : ∀ σ H, J σ H → u D σ H) (h1 : ∀ N : St → Hp → Prop, (∀ σ H, J σ H → N σ H) → t { D with nx := N } σ H) : tSeqJ t u D σ H := h1 (u D) h2
theorem seqJ' (h : tSeq t u D σ H) : tSeqJ t u D σ H := h
theorem seq (h : t { D with nx := u D } σ H) : tSeq t u D σ H := h
theorem asg {g : TG} (h : te σ H fun x H1 => g x σ H1 D.nx) : tAsg te g D σ H := h
theorem gname {Q : St → Hp → Prop} {σ' : St} (e : σ.set i (some v) = σ') (h : Q σ' H) : gName i v σ H Q := by
  subst e; exact h
def ParK (i j : Nat) (D : Ends) (σ : St) (vs : List V) (H1 : Hp) : Prop := ∃ v w, vs = [v, w] ∧ D.nx ((σ.set i (some v)).set j (some w)) H1
theorem par {i j : Nat} {a : TA} (h : a σ H (ParK i j D σ)) : tPar i j a D σ H := h
theorem par2 {i j : Nat} {v w : V} {σ' : St} (e : (σ.set i (some v)).set j (some w) = σ') (h : D.nx σ' H) : ParK i j D σ [v, w] H := ⟨v, w, rfl, by rw [e]; exact h⟩
theorem aug {ti : TIp} {x : V} (e : σ[i]? = some (some x)) (h : te σ H fun y H1 => ti x y H1 fun z H2 => D.nx (σ.set i (some z)) H2) : tAug i te ti D σ H := ⟨x, e, h⟩
theorem ipI' {f : Int → Int → Int} {a b : Int} (q : Q (.int (f a b)) H) : ipI f (.int a) (.int b) H Q := ⟨a, b, rfl, rfl, q⟩
theorem ifs {c : TT} (h : c σ H fun b H1 => if b = true then t D σ H1 else u D σ H1) : tIfS c t u D σ H := h
theorem ret (h : te σ H D.rt) : tRet te D σ H := h
theorem retN (h : D.rt .non H) : tRetN D σ H := h
theorem next (h : D.nx σ H) : tNext D σ H := h
theorem brk (h : D.bk σ H) : tBreak D σ H := h
theorem drop (h : te σ H fun _ H1 => D.nx σ H1) : tDrop te D σ H := h
theorem bm {T : String} {r : V → List V → Hp → VK → Prop} {to : TE} {a : TA} (h : to σ H fun x H1 => tyV K T x H1 ∧ a σ H1 fun xs H2 => r x xs H2 Q) : tBM K T r to a σ H Q := h
theorem bm0 {T : String} {r : V → List V → Hp → VK → Prop} {to : TE} (h : to σ H fun x H1 => tyV K T x H1 ∧ r x [] H1 Q) : tBM0 K T r to σ H Q := h
theorem app {l : Addr} {xs : List V} {y : V} (h : H l = some (.lst xs)) (z : xs.length < sizeLine) (q : Q .non (upd H l (.lst (xs ++ [y])))) : rAppend (.ref l) [y] H Q := ⟨l, xs, y, rfl, rfl, h, z, q⟩
theorem tyL {p : Addr} {xs : List V} (h : H p = some (.lst xs)) : tyV K "list" (.ref p) H := .inl ⟨rfl, _, SqL.of h⟩
theorem sfld {tv : TE} {f : Str} (h : tv σ H fun y H1 => ta σ H1 fun x H2 => ∃ a C dx fs, x = .ref a ∧ H2 a = some (.ins C dx fs) ∧ Cls K C ∧ NoAttr K C f ∧ fs.length < 1000 ∧ D.nx σ (upd H2 a (.ins C dx (putF f y fs)))) : sFld K ta tv f D σ H := h
theorem sfldaug {tv : TE} {rd : V → V → Hp → VK → Prop} {f : Str} (h : ta σ H fun x H1 => ∃ a C dx fs v, x = .ref a ∧ H1 a = some (.ins C dx fs) ∧ Cls K C ∧ NoAttr K C f ∧ fs.lookup f = some v ∧ tv σ H1 fun y H2 => rd v y H2 fun z H3 => ∃ dx' fs', H3 a = some (.ins C dx' fs') ∧ fs'.length < 1000 ∧ D.nx σ (upd H3 a (.ins C dx' (putF f z fs')))) : sFldAug K ta tv rd f D σ H := h
theorem radd {a b : Int} (q : Q (.int (a + b)) H) : rAdd (.int a) (.int b) H Q := ⟨a, b, rfl, rfl, q⟩
theorem make {C : Addr} {sp : Sp} {dvs : List V} {E : XK} {a : TA} (h : a σ H fun vs H1 => ∀ x dx, H1 x = none → H1 dx = none → dx ≠ x → sp (.ref x :: (vs ++ dvs)) (upd (upd H1 dx (.own x)) x (.ins C dx [])) (fun v H2 => v = .non ∧ Q (.ref x) H2) E) : tMake C sp dvs E a σ H Q := h
/-- while -/
def WhB (W : Nat → St → Hp → Prop) (m : Nat) (tb : TS) (D : Ends) (σ : St) (H1 : Hp) : Prop := ∃ N : St → Hp → Prop, (∀ σ' H', N σ' H' → ∃ m', m' < m ∧ W m' σ' H') ∧ tb { D with nx := N, ct := N, bk := D.nx } σ H1
theorem whb {W : Nat → St → Hp → Prop} {m : Nat} {tb : TS} (h : tb { D with nx := fun σ' H' => ∃ m', m' < m ∧ W m' σ' H', ct := fun σ' H' => ∃ m', m' < m ∧ W m' σ' H', bk := D.nx } σ H) : WhB W m tb D σ H := ⟨_, fun _ _ z => z, h⟩
theorem wh {c : TT} {tb : TS} (W : Nat → St → Hp → Prop) (m : Nat) (h0 : W m σ H) (hs : ∀ m σ H, W m σ H → c σ H fun b H1 => if b = true then WhB W m tb D σ H1 else D.nx σ H1) : tWhile c tb D σ H := ⟨W, ⟨m, h0⟩, hs⟩
/-- calls by values -/
theorem sumL {a : Addr} {ns : List Int} (h : SqL K H a (ns.map V.int)) (q : Q (.int ns.sum) H) : rSum K [.ref a] H Q := ⟨a, ns, rfl, h, q⟩
theorem gcd {a b : Int} (q : Q (.int ((Nat.gcd a.natAbs b.natAbs : Nat) : Int)) H) : rGcd [.int a, .int b] H Q := ⟨a, b, rfl, q⟩
theorem mkN {C : Addr} {sp : Sp} {Q : XK} (h : ∀ a, H a = none → sp [.ref a] (upd H a (exo a C none)) (fun v H2 => v = .non ∧ H2 a = some (exo a C none) ∧ Q (.ref C) none (del H2 a)) (fun _ _ _ => False)) : Sup.tMkN C sp σ H Q := h
theorem gtup {n : Nat} {t : TGs} {a : Addr} {xs : List V} {Q : St → Hp → Prop} (h : SqT K H a xs) (e : xs.length = n) (q : t xs σ H Q) : gTup K n t (.ref a) σ H Q := ⟨a, xs, rfl, h, e, q⟩
theorem gcons {t : TG} {u : TGs} {v : V} {r : List V} {Q : St → Hp → Prop} (q : t v σ H fun σ' H' => u r σ' H' Q) : gCons t u (v :: r) σ H Q := ⟨v, r, rfl, q⟩
theorem gnil {Q : St → Hp → Prop} (q : Q σ H) : gNil [] σ H Q := ⟨rfl, q⟩
theorem lenL {a : Addr} {xs : List V} (h : SqL K H a xs) (q : Q (.int xs.length) H) : rLenN K [.ref a] H Q := ⟨a, xs, rfl, .inl h, q⟩
theorem lenT {a : Addr} {xs : List V} (h : SqT K H a xs) (q : Q (.int xs.length) H) : rLenN K [.ref a] H Q := ⟨a, xs, rfl, .inr h, q⟩
theorem listL {a : Addr} {xs : List V} (h : SqL K H a xs) (q : ∀ p H1, H p = none → Kp [] H H1 → H1 p = some (.lst xs) → Q (.ref p) H1) : rListN K [.ref a] H Q := ⟨a, xs, rfl, .inl h, mk q⟩
theorem isi {A B : String} {x : V} {b : Bool} (ht : TyX K H x (.type A)) (hk : kitB A B = some b) (q : Q (.bl b) H) : rIsi K [x, .ty B] H Q := ⟨x, _, _, _, b, rfl, .ty _, ht, kit_ty hk, q⟩
theorem isiI {B : String} {a : Int} {b : Bool} (hk : kitB "int" B = some b) (q : Q (.bl b) H) : rIsi K [.int a, .ty B] H Q := isi (.base (.int _)) hk q
theorem atM {ns : List Int} {j : Nat} {x : Int} (h : ns[j]? = some x) : atI (ns.map V.int) (j : Int) = some (.int x) := atI_nat (by rw [List.getElem?_map, h]; rfl)
theorem ixN_nat {n j : Nat} (hj : j < n) : ixN n (j : Int) = some j := by
  unfold ixN
  rw [if_pos (by omega), if_pos (by omega)]
  simp
/-- a comprehension, a loop over range(n), over a list -/
def ForK (g : TG) (tb : TS) (D : Ends) (σ : St) (J : It) (H1 : Hp) : Prop := ∃ W : Nat → Nat → St → Hp → Prop, (∃ m, W 0 m σ H1) ∧ ∀ i m σ H, W i m σ H →
  (J.stop i H ∧ D.nx σ H) ∨ (J.go i H ∧ ∃ N : St → Hp → Prop, (∀ σ' H', N σ' H' → ∃ m', m' < m ∧ W (i + 1) m' σ' H') ∧ ∀ x H', J.yld i H x H' → g x σ H' fun σ2 H2 => tb { D with nx := N, ct := N, bk := D.nx } σ2 H2)
def LcK (g : TG) (tt : TT) (te : TE) (vs : List Nat) (σ : St) (Q : VK) (J : It) (H1 : Hp) : Prop := ∀ D, H1 D = none → ∃ W : Nat → Nat → Hp → Prop, (∃ m, W 0 m (upd H1 D (.lst []))) ∧ ∀ i m H, W i m H →
      (J.stop i H ∧ Q (.ref D) H) ∨ (J.go i H ∧ ∃ Nx : Hp → Prop, (∀ H', Nx H' → ∃ m', m' < m ∧ W (i + 1) m' H') ∧ ∀ x H', J.yld i H x H' → g x (wipe σ vs) H' fun σ2 H2 => wipe σ2 vs = wipe σ vs ∧ tt σ2 H2 fun b H3 => if b = true then te σ2 H3 fun y H4 => ∃ acc, H4 D = some (.lst acc) ∧ acc.length < sizeLine ∧ Nx (upd H4 D (.lst (acc ++ [y]))) else Nx H3)
def Rng1K (R : It → Hp → Prop) (vs : List V) (H1 : Hp) : Prop := ∃ j : Int, vs = [.int j] ∧ -(2 ^ 62) ≤ j ∧ j < 2 ^ 62 ∧ R (Itr 0 j.toNat) H1
def ListK (K : PySem.W.Frag) (R : It → Hp → Prop) (x : V) (H1 : Hp) : Prop := ∃ a, x = .ref a ∧ (∃ xs, SqL K H1 a xs) ∧ R (Itl K a) H1
theorem lc {wi : TI} {g : TG} {tt : TT} {vs : List Nat} (h : wi σ H (LcK g tt te vs σ Q)) : tLc wi g tt te vs σ H Q := h
theorem rng1 {a : TA} {R : It → Hp → Prop} (h : a σ H (Rng1K R)) : iRng1 a σ H R := h
theorem ilist {R : It → Hp → Prop} (h : ta σ H (ListK K R)) : iList K ta σ H R := h
theorem for_ {wi : TI} {g : TG} {tb : TS} (h : wi σ H (ForK g tb D σ)) : tFor wi g tb D σ H := h
/-- what one turn of a comprehension asks -/
def LcT (g : TG) (tt : TT) (te : TE) (vs : List Nat) (σ : St) (D : Addr) (P : Hp → Prop) (x : V) (H1 : Hp) : Prop := g x (wipe σ vs) H1 fun σ2 H2 => wipe σ2 vs = wipe σ vs ∧ tt σ2 H2 fun b H3 => if b = true then te σ2 H3 fun y H4 => ∃ acc, H4 D = some (.lst acc) ∧ acc.length < sizeLine ∧ P (upd H4 D (.lst (acc ++ [y]))) else P H3
theorem lcr {g : TG} {tt : TT} {vs : List Nat} {e : Int} (n : Nat) (he : e = (n : Int)) (hb : n < 4611686018427387904) (Pv : Addr → Nat → Hp → Prop) (h0 : ∀ D H1, H D = none → Kp [] H H1 → H1 D = some (.lst []) → Pv D 0 H1)
    (hs : ∀ D i H1, H D = none → i < n → Pv D i H1 → g (.int (i : Int)) (wipe σ vs) H1 fun σ2 H2 => wipe σ2 vs = wipe σ vs ∧ tt σ2 H2 fun b H3 => if b = true then te σ2 H3 fun y H4 => ∃ acc, H4 D = some (.lst acc) ∧ acc.length < sizeLine ∧ Pv D (i + 1) (upd H4 D (.lst (acc ++ [y]))) else Pv D (i + 1) H3)
    (hd : ∀ D H1, H D = none → Pv D n H1 → Q (.ref D) H1) : Rng1K (LcK g tt te vs σ Q) [.int e] H := by
  subst he
  refine ⟨(n : Int), rfl, by omega, by omega, fun D hD => ?_⟩
  rw [show ((n : Int)).toNat = n by simp]
  refine lc_range (lo := 0) (n := n) (Pv D) (h0 D _ hD (Kp.new hD) upd_same) (fun i H1 hi p => ?_) fun H1 p => hd D H1 hD p
  rw [show (0 : Int) + (i : Int) = (i : Int) by omega]
  exact hs D i H1 hD hi p
theorem lcl {g : TG} {tt : TT} {vs : List Nat} {a : Addr} (xs : List V) (hS : SqL K H a xs) (Pv : Addr → Nat → Hp → Prop) (h0 : ∀ D H1, H D = none → Kp [] H H1 → H1 D = some (.lst []) → Pv D 0 H1)
    (hl : ∀ D i H1, H D = none → i ≤ xs.length → Pv D i H1 → SqL K H1 a xs)
    (hs : ∀ D i x H1, H D = none → xs[i]? = some x → Pv D i H1 → g x (wipe σ vs) H1 fun σ2 H2 => wipe σ2 vs = wipe σ vs ∧ tt σ2 H2 fun b H3 => if b = true then te σ2 H3 fun y H4 => ∃ acc, H4 D = some (.lst acc) ∧ acc.length < sizeLine ∧ Pv D (i + 1) (upd H4 D (.lst (acc ++ [y]))) else Pv D (i + 1) H3)
    (hd : ∀ D H1, H D = none → Pv D xs.length H1 → Q (.ref D) H1) : ListK K (LcK g tt te vs σ Q) (.ref a) H :=
  ⟨a, rfl, ⟨xs, hS⟩, fun D hD => lc_list (K := K) (a := a) (xs := xs) (Pv D) (h0 D _ hD (Kp.new hD) upd_same) (fun i H1 hi p => hl D i H1 hD hi p) (fun i x H1 hx p => hs D i x H1 hD hx p) fun H1 p => hd D H1 hD p⟩
/-- over a tuple -/
def TupK (K : PySem.W.Frag) (R : It → Hp → Prop) (x : V) (H1 : Hp) : Prop := ∃ a, x = .ref a ∧ (∃ xs, SqT K H1 a xs) ∧ R (Itt K a) H1
theorem itup {R : It → Hp → Prop} (h : ta σ H (TupK K R)) : iTup K ta σ H R := h
theorem lct {g : TG} {tt : TT} {vs : List Nat} {a : Addr} (xs : List V) (hS : SqT K H a xs) (Pv : Addr → Nat → Hp → Prop) (h0 : ∀ D H1, H D = none → Kp [] H H1 → H1 D = some (.lst []) → Pv D 0 H1)
    (hl : ∀ D i H1, H D = none → i ≤ xs.length → Pv D i H1 → SqT K H1 a xs)
    (hs : ∀ D i x H1, H D = none → xs[i]? = some x → Pv D i H1 → g x (wipe σ vs) H1 fun σ2 H2 => wipe σ2 vs = wipe σ vs ∧ tt σ2 H2 fun b H3 => if b = true then te σ2 H3 fun y H4 => ∃ acc, H4 D = some (.lst acc) ∧ acc.length < sizeLine ∧ Pv D (i + 1) (upd H4 D (.lst (acc ++ [y]))) else Pv D (i + 1) H3)
    (hd : ∀ D H1, H D = none → Pv D xs.length H1 → Q (.ref D) H1) : TupK K (LcK g tt te vs σ Q) (.ref a) H :=
  ⟨a, rfl, ⟨xs, hS⟩, fun D hD => lc_tup (K := K) (a := a) (xs := xs) (Pv D) (h0 D _ hD (Kp.new hD) upd_same) (fun i H1 hi p => hl D i H1 hD hi p) (fun i x H1 hx p => hs D i x H1 hD hx p) fun H1 p => hd D H1 hD p⟩
theorem allL {a : Addr} {bs : List Bool} (h : SqL K H a (bs.map V.bl)) (q : Q (.bl (bs.all id)) H) : rAll K [.ref a] H Q := ⟨a, bs, rfl, h, q⟩
theorem anyL {a : Addr} {bs : List Bool} (h : SqL K H a (bs.map V.bl)) (q : Q (.bl (bs.any id)) H) : rAny K [.ref a] H Q := ⟨a, bs, rfl, h, q⟩
theorem forr {g : TG} {tb : TS} {e : Int} (n : Nat) (he : e = (n : Int)) (hb : n < 4611686018427387904) (Pv : Nat → St → Hp → Prop) (h0 : Pv 0 σ H)
    (hs : ∀ i σ H, i < n → Pv i σ H → g (.int (i : Int)) σ H fun σ2 H2 => tb { D with nx := Pv (i + 1), ct := Pv (i + 1), bk := D.nx } σ2 H2) (hd : ∀ σ H, Pv n σ H → D.nx σ H) : Rng1K (ForK g tb D σ) [.int e] H := by
  subst he
  refine ⟨(n : Int), rfl, by omega, by omega, ?_⟩
  rw [show ((n : Int)).toNat = n by simp]
  refine for_range (lo := 0) (n := n) Pv h0 (fun i σ H1 hi p => ?_) hd
  rw [show (0 : Int) + (i : Int) = (i : Int) by omega]
  exact hs i σ H1 hi p
theorem forl {g : TG} {tb : TS} {a : Addr} (xs : List V) (hS : SqL K H a xs) (Pv : Nat → St → Hp → Prop) (h0 : Pv 0 σ H) (hl : ∀ i σ H, i ≤ xs.length → Pv i σ H → SqL K H a xs)
    (hs : ∀ i x σ H, xs[i]? = some x → Pv i σ H → g x σ H fun σ2 H2 => tb { D with nx := Pv (i + 1), ct := Pv (i + 1), bk := D.nx } σ2 H2) (hd : ∀ σ H, Pv xs.length σ H → D.nx σ H) : ListK K (ForK g tb D σ) (.ref a) H :=
  ⟨a, rfl, ⟨xs, hS⟩, for_list (K := K) (a := a) (xs := xs) Pv h0 hl hs hd⟩
/-! texts -/
def StrK (R : It → Hp → Prop) (v : V) (H1 : Hp) : Prop := ∃ x, v = .str x ∧ R (Its x) H1
theorem istr {R : It → Hp → Prop} (h : ta σ H (StrK R)) : iStr ta σ H R := h
theorem fors {g : TG} {tb : TS} {x : Str} (Pv : Nat → St → Hp → Prop) (h0 : Pv 0 σ H)
    (hs : ∀ i c σ H, x.cps[i]? = some c → Pv i σ H → g (.str ⟨#[c]⟩) σ H fun σ2 H2 => tb { D with nx := Pv (i + 1), ct := Pv (i + 1), bk := D.nx } σ2 H2) (hd : ∀ σ H, Pv x.cps.size σ H → D.nx σ H) : StrK (ForK g tb D σ) (.str x) H :=
  ⟨x, rfl, for_it walk_str Pv h0 (fun _ _ _ _ _ => trivial) (fun i v σ H H' hi p y => by obtain ⟨rfl, c, hc, rfl⟩ := y; exact hs i c σ _ hc p) hd⟩
theorem lcs {g : TG} {tt : TT} {vs : List Nat} {x : Str} (Pv : Addr → Nat → Hp → Prop) (h0 : ∀ D H1, H D = none → Kp [] H H1 → H1 D = some (.lst []) → Pv D 0 H1)
    (hs : ∀ D i c H1, H D = none → x.cps[i]? = some c → Pv D i H1 → g (.str ⟨#[c]⟩) (wipe σ vs) H1 fun σ2 H2 => wipe σ2 vs = wipe σ vs ∧ tt σ2 H2 fun b H3 => if b = true then te σ2 H3 fun y H4 => ∃ acc, H4 D = some (.lst acc) ∧ acc.length < sizeLine ∧ Pv D (i + 1) (upd H4 D (.lst (acc ++ [y]))) else Pv D (i + 1) H3)
    (hd : ∀ D H1, H D = none → Pv D x.cps.size H1 → Q (.ref D) H1) : StrK (LcK g tt te vs σ Q) (.str x) H :=
  ⟨x, rfl, fun D hD => lc_it walk_str (Pv D) (h0 D _ hD (Kp.new hD) upd_same) (fun _ _ _ _ => trivial) (fun i v H H' hi p y => by obtain ⟨rfl, c, hc, rfl⟩ := y; exact hs D i c _ hD hc p) fun H1 p => hd D H1 hD p⟩
theorem lenS {x : Str} (hz : x.cps.size ≤ 10000000) (q : Q (.int (x.cps.size : Nat)) H) : rLenS [.str x] H Q := ⟨x, rfl, hz, q⟩
/-! enumerate -/
def EnumK (K : PySem.W.Frag) (R : It → Hp → Prop) (vs : List V) (H1 : Hp) : Prop := ∃ a xs, vs = [.ref a] ∧ SqL K H1 a xs ∧ R (Ite K a) H1
theorem ienum {a : TA} {R : It → Hp → Prop} (h : a σ H (EnumK K R)) : iEnum K a σ H R := h
theorem fore {g : TG} {tb : TS} {a : Addr} (xs : List V) (hS : SqL K H a xs) (Pv : Nat → St → Hp → Prop) (h0 : Pv 0 σ H) (hl : ∀ i σ H, i ≤ xs.length → Pv i σ H → SqL K H a xs)
    (hs : ∀ i x σ H H' T, xs[i]? = some x → Pv i σ H → H T = none → Kp [] H H' → H' T = some (.tup [.int (i : Nat), x]) → g (.ref T) σ H' fun σ2 H2 => tb { D with nx := Pv (i + 1), ct := Pv (i + 1), bk := D.nx } σ2 H2) (hd : ∀ σ H, Pv xs.length σ H → D.nx σ H) : EnumK K (ForK g tb D σ) [.ref a] H :=
  ⟨a, xs, rfl, hS, for_it (walk_enum (K := K) (a := a) (xs := xs)) Pv h0 hl (fun i v σ H H' hi p y => by
    obtain ⟨T, x, z, rfl, h1, rfl, h2, h3⟩ := y
    cases h2
    exact hs i z σ H _ T h3 p h1 (Kp.new h1) upd_same) hd⟩
/-! dicts -/
theorem dnew (h : ∀ p H1, H p = none → Kp [] H H1 → H1 p = some (.dK []) → Q (.ref p) H1) : tDNewK σ H Q := mk h
theorem din {ty td : TE} (h : ty σ H fun y H1 => td σ H1 fun x H2 => ∃ a o, x = .ref a ∧ DGet H2 a y o ∧ Q (.bl o.isSome) H2) : tDIn ty td σ H Q := h
theorem dput {td ty tv : TE} (h : tv σ H fun v H1 => td σ H1 fun x H2 => ty σ H2 fun y H3 => ∃ a H4, x = .ref a ∧ DPut H3 a y v H4 ∧ D.nx σ H4) : sDPut td ty tv D σ H := h
theorem dget2 {td ty tx : TE} (h : td σ H fun x H1 => ∃ a, x = .ref a ∧ IsD H1 a ∧ ty σ H1 fun y H2 => tx σ H2 fun z H3 => ∃ o, DGet H3 a y o ∧ Q (o.getD z) H3) : tDGet2 td ty tx σ H Q := h
theorem dget {td ty : TE} (h : td σ H fun x H1 => ty σ H1 fun y H2 => ∃ a v, x = .ref a ∧ DGet H2 a y (some v) ∧ Q v H2) : tDGet td ty σ H Q := h
/-! lists and tuples -/
theorem ixA {p : Addr} {xs : List V} {j : Int} (h : SqL K H p xs ∨ SqT K H p xs) (e : atI xs j = some v) (q : Q v H) : rIx K (.ref p) (.int j) H Q := h.elim (fun h => .inl (ixL h e q)) (fun h => .inr (.inl (ixT h e q)))
theorem lenA {a : Addr} {xs : List V} (h : SqL K H a xs ∨ SqT K H a xs) (q : Q (.int xs.length) H) : rLenN K [.ref a] H Q := ⟨a, xs, rfl, h, q⟩
theorem sl {r : V → Option Int → Option Int → Hp → VK → Prop} {tl th : TO} (h : ta σ H fun x H1 => tl σ H1 fun l H2 => th σ H2 fun u H3 => r x l u H3 Q) : tSl r ta tl th σ H Q := h
theorem slno {Q : Option Int → Hp → Prop} (h : Q none H) : tNoPart σ H Q := h
theorem slpart {Q : Option Int → Hp → Prop} (h : ta σ H fun x H1 => ∃ i, x = .int i ∧ Q (some i) H1) : tPart ta σ H Q := h
theorem bint {i : Int} {q : Int → Prop} (h : q i) : ∃ k, V.int i = .int k ∧ q k := ⟨i, rfl, h⟩
theorem slL {p : Addr} {xs : List V} {lo hi : Option Int} (h : SqL K H p xs) (q : ∀ d H1, H d = none → Kp [] H H1 → H1 d = some (.lst (cutV xs lo hi)) → Q (.ref d) H1) : rSlL K (.ref p) lo hi H Q := ⟨p, xs, rfl, h, mk q⟩
theorem cut_take {xs : List V} {k : Nat} (h : k ≤ xs.length) : cutV xs none (some (k : Int)) = xs.take k := by
  unfold cutV
  rw [HT.sIx_none, HT.sIx_nat, List.drop_zero, Nat.sub_zero, Nat.min_eq_left h]
theorem cut_drop {xs : List V} {k : Nat} (h : k ≤ xs.length) : cutV xs (some (k : Int)) none = xs.drop k := by
  unfold cutV
  rw [HT.sIx_none, HT.sIx_nat, Nat.min_eq_left h]
  exact List.take_of_length_le (by rw [List.length_drop] <;> omega)
theorem inq {neg : Bool} {p : Addr} {xs : List V} (h : SqL K H p xs ∨ SqT K H p xs) (fx : flatV x = true) (fs : xs.all flatV = true) (q : Q (.bl (if neg then !inV x xs else inV x xs)) H) : rIn K neg x (.ref p) H Q := ⟨p, xs, rfl, h, fx, fs, q⟩
theorem inV_strs {a : Str} {l : List Str} : inV (.str a) (l.map V.str) = decide (a ∈ l) := by
  unfold inV
  induction l with
  | nil => simp
  | cons b r ih =>
    rw [List.map_cons, List.any_cons, ih]
    show ((b == a) || _) = _
    by_cases e : b = a
    · subst e; simp
    · have e' : ¬ a = b := fun z => e z.symm
      simp [e, e']
theorem strs_flat {l : List Str} : (l.map V.str).all flatV = true := by simp [flatV]
theorem pop {l : Addr} {xs : List V} {y : V} (h : H l = some (.lst xs)) (e : xs[xs.length - 1]? = some y) (q : Q y (upd H l (.lst xs.dropLast))) : rPop (.ref l) [] H Q := ⟨l, xs, y, rfl, rfl, h, e, q⟩
def LRK (K : PySem.W.Frag) (Q : VK) (x : V) (H1 : Hp) : Prop := ∃ a xs, x = .ref a ∧ SqL K H1 a xs ∧ ∀ p, H1 p = none → Q (.ref p) (upd H1 p (.lst xs.reverse))
theorem listrev (h : ta σ H (LRK K Q)) : RL.tListRev K ta σ H Q := h
theorem lrk {a : Addr} {xs : List V} (hS : SqL K H a xs) (q : ∀ p H1, H p = none → Kp [] H H1 → H1 p = some (.lst xs.reverse) → Q (.ref p) H1) : LRK K Q (.ref a) H := ⟨a, xs, rfl, hS, mk q⟩
theorem popS {l : Addr} {xs : List V} {y : V} (h : H l = some (.lst (xs ++ [y]))) (q : Q y (upd H l (.lst xs))) : rPop (.ref l) [] H Q := ⟨l, _, y, rfl, rfl, h, by simp, by rw [List.dropLast_concat]; exact q⟩
theorem extT {l b : Addr} {xs zs : List V} (h : H l = some (.lst xs)) (h2 : H b = some (.tup zs)) (hz : xs.length + zs.length ≤ 10000000) (q : Q .non (upd H l (.lst (xs ++ zs)))) : RL.rExtT (.ref l) [.ref b] H Q := ⟨l, b, xs, zs, rfl, rfl, h, h2, Nat.le_trans hz (by decide), q⟩
theorem slT {p : Addr} {xs : List V} {k : Nat} (h : SqT K H p xs) (h0 : 0 < k) (h1 : k ≤ xs.length) (q : ∀ d H1, H d = none → Kp [] H H1 → H1 d = some (.tup (xs.drop k)) → Q (.ref d) H1) : rSlT K (.ref p) (some (k : Int)) none H Q := ⟨p, xs, rfl, h, fun z => by
  rw [HT.sIx_nat, Nat.min_eq_left h1] at z
  omega, mk (by rw [cut_drop h1]; exact q)⟩
theorem revl (h : ta σ H (LRK K Q)) : tRevL K ta σ H Q := h
theorem idx {a : Addr} {ys : List V} {y : V} (j : Nat) {z : V} (hS : SqL K H a ys) (fy : flatV y = true) (fs : ys.all flatV = true) (hz : ys[j]? = some z) (hy : eqV z y = true) (hn : ∀ (m : Nat) (z' : V), m < j → ys[m]? = some z' → eqV z' y = false) (q : Q (.int (j : Nat)) H) : rIndex K (.ref a) [y] H Q := ⟨a, ys, y, j, z, rfl, rfl, hS, fy, fs, hz, hy, hn, q⟩
theorem truL {p : Addr} {xs : List V} {q : Bool → Prop} (h : H p = some (.lst xs)) (hq : q (!xs.isEmpty)) : ∃ k, TruV K (.ref p) H k ∧ q k := ⟨_, .inl ⟨xs, lstL h, rfl⟩, hq⟩
theorem glst {n : Nat} {t : TGs} {a : Addr} {xs : List V} {Q : St → Hp → Prop} (h : SqL K H a xs) (e : xs.length = n) (q : t xs σ H Q) : gLst K n t (.ref a) σ H Q := ⟨a, xs, rfl, h, e, q⟩
def rSplitQ : V → List V → Hp → VK → Prop := fun x xs H Q => ∃ a b, x = .str a ∧ xs = [.str b] ∧ (b.length == 0) = false ∧ a.length + 2 ≤ sizeLine ∧ rNewStrs (Txt.split a b) H Q
theorem m_split {X : Cx} : MtR X "str.split" rSplitQ := mt_split
theorem split {a b : Str} (hb : (b.length == 0) = false) (hz : a.length ≤ 10000000) (q : ∀ p H1, H p = none → Kp [] H H1 → H1 p = some (.lst ((Txt.split a b).map V.str)) → Q (.ref p) H1) : rSplitQ (.str a) [.str b] H Q := ⟨a, b, rfl, rfl, hb, Nat.le_trans (Nat.add_le_add_right hz 2) (by decide), mk q⟩
def EnSK (K : PySem.W.Frag) (R : It → Hp → Prop) (vs zs : List V) (H2 : Hp) : Prop := ∃ a xs k, vs = [.ref a] ∧ zs = [.int k] ∧ -(2 ^ 63) ≤ k ∧ k < 2 ^ 63 ∧ SqL K H2 a xs ∧ R (RL.IteS K a k) H2
theorem ienumS {a b : TA} {R : It → Hp → Prop} (h : a σ H fun vs H1 => b σ H1 fun zs H2 => EnSK K R vs zs H2) : RL.iEnumS K a b σ H R := h
theorem walk_enumS {a : Addr} {xs : List V} {k : Int} : Walk (RL.IteS K a k) xs.length (fun H => SqL K H a xs) (YPair (fun i => some (.int (k + (i : Nat)))) (fun i => xs[i]?)) := by
  refine ⟨fun i _ hi q => ⟨xs, xs[i], q, by simp [hi]⟩, fun _ q => ⟨xs, q, rfl⟩, fun i H v H' _ q y => ?_⟩
  obtain ⟨T, x, h1, h2, h3, h4⟩ := y
  exact ⟨T, .int (k + (i : Nat)), x, h1, h2, h3, rfl, h4 xs q⟩
theorem fores {g : TG} {tb : TS} {a : Addr} {k : Int} (xs : List V) (hk0 : -(2 ^ 63) ≤ k) (hk1 : k < 2 ^ 63) (hS : SqL K H a xs) (Pv : Nat → St → Hp → Prop) (h0 : Pv 0 σ H) (hl : ∀ i σ H, i ≤ xs.length → Pv i σ H → SqL K H a xs)
    (hs : ∀ i x σ H H' T, xs[i]? = some x → Pv i σ H → H T = none → Kp [] H H' → H' T = some (.tup [.int (k + (i : Nat)), x]) → g (.ref T) σ H' fun σ2 H2 => tb { D with nx := Pv (i + 1), ct := Pv (i + 1), bk := D.nx } σ2 H2) (hd : ∀ σ H, Pv xs.length σ H → D.nx σ H) : EnSK K (ForK g tb D σ) [.ref a] [.int k] H :=
  ⟨a, xs, k, rfl, rfl, hk0, hk1, hS, for_it (walk_enumS (K := K) (a := a) (xs := xs) (k := k)) Pv h0 hl (fun i v σ H H' hi p y => by
    obtain ⟨T, x, z, rfl, h1, rfl, h2, h3⟩ := y
    cases h2
    exact hs i z σ H _ T h3 p h1 (Kp.new h1) upd_same) hd⟩
/-- an f-string of two parts or more -/
def tJoin (ts : List TE) : TE := fun σ H Q => tJs ts Str.empty σ H fun out H1 => Q (.str out) H1
theorem pe_joinedN {X : Cx} {v1 v2 : Expr} {rest : List Expr} {ts : List TE} {pos : Pos} (h : PJ X (v1 :: v2 :: rest) ts) : PE X (.JoinedStr (v1 :: v2 :: rest) pos) (tJoin ts) := pe_joined h
def rJoinQ (K : PySem.W.Frag) : V → List V → Hp → VK → Prop := fun x xs H Q => ∃ a p, ∃ ys : List Str, x = .str a ∧ xs = [.ref p] ∧ (SqL K H p (ys.map V.str) ∨ SqT K H p (ys.map V.str)) ∧ (ys.map (·.length)).sum + ys.length * a.length ≤ 16777216 ∧ Q (.str (Txt.join a ys)) H
theorem m_join {X : Cx} : MtR X "str.join" (rJoinQ X.K) := mt_join
theorem join {a : Str} {p : Addr} {ys : List Str} (h : SqL K H p (ys.map V.str)) (hz : (ys.map (·.length)).sum + ys.length * a.length ≤ 16777216) (q : Q (.str (Txt.join a ys)) H) : rJoinQ K (.str a) [.ref p] H Q := ⟨a, p, ys, rfl, rfl, .inl h, hz, q⟩
theorem lens_le {n : Nat} : ∀ {ys : List Str}, (∀ y ∈ ys, y.length ≤ n) → (ys.map (·.length)).sum ≤ n * ys.length
  | [], _ => by simp
  | y :: r, h => by
    have h1 := h y (by simp)
    have h2 := lens_le (n := n) (ys := r) fun z hz => h z (by simp [hz])
    rw [List.map_cons, List.sum_cons, List.length_cons, Nat.mul_add]
    omega
theorem mulS {x : Str} {k : Nat} (h1 : 2 ≤ k) (h2 : k ≤ 100000) (h3 : 1 ≤ x.length) (h4 : x.length ≤ 100) (q : Q (.str (RL.repS x k)) H) : RL.rMulS (.str x) (.int (k : Int)) H Q := ⟨x, k, rfl, rfl, h1, h2, h3, h4, q⟩
theorem cat {l b : Addr} {xs zs : List V} (h : H l = some (.lst xs)) (h2 : H b = some (.lst zs)) (hz : xs.length + zs.length ≤ 100000) (q : ∀ p H1, H p = none → Kp [] H H1 → H1 p = some (.lst (xs ++ zs)) → Q (.ref p) H1) : rCat (.ref l) (.ref b) H Q := ⟨l, b, xs, zs, rfl, rfl, h, h2, Nat.le_trans hz (by decide), mk q⟩
end
end Z

/-! ### ClsM: classmethods and methods within a try, a class in a local name -/
namespace ClsM
open PySem PySem.Spec PyProof.Rows L2
/-- how the text of o.m(..) is run -/
abbrev MForm (X : Cx) (o : Expr) (m : Str) (es : List Expr) (apos pos : Pos) (pl : Sem Bool) : Prop := eval (.Call (.Attribute o m apos) es [] pos) X.env = (do let ov ← eval o X.env; standAt apos.atName; let (f, first) ← holding [ov] (getMethod ov m pl); callWith pos f first (backTo pos (starEach es X.env)) (backToKw pos (keywordEach [] X.env)))
section
variable {X : Cx} {CX : CXT} {k i : Nat} {f C p g : Addr} {fd : FuncData} {ps : List Str} {sp : Sp} {E : L2.St → XK} {E1 : XK} {m x : Str} {pos apos : Pos} {o e : Expr} {es : List Expr} {ta : TE} {t : TA} {pl : Sem Bool} {mc : Value}
/-- o.m(e, ..) within a try -/
def tMethA (C : Addr) (m : Str) (sp : Sp) (E : L2.St → XK) (ta : TE) (t : TA) : TE := fun σ H Q => ta σ H fun x H1 => ∃ a dx fs, x = .ref a ∧ H1 a = some (.ins C dx fs) ∧ fs.lookup m = none ∧ t σ H1 fun vs H2 => sp (x :: vs) H2 Q (E σ)
theorem pe_methA (he : PE X o ta) (c : Cls X.K C) (hm : Meth X.K C m f) (F : FnOk X.prog X.w X.K X.mg X.base CX k f fd ps sp) (hr : Room k X.A) (hb : Binds X.K fd ps []) (hx : ∀ σ, PassesAt CX X σ (E σ)) (ha : PA X (e :: es) t) (hst : starEach (e :: es) X.env = (false, eval e X.env) :: starEach es X.env := by rfl) (hpl : (backTo pos (starEach es X.env)).any (·.1) = false := by rfl) (ht : MForm X o m (e :: es) apos pos pl := by rfl) :
    PE X (.Call (.Attribute o m apos) (e :: es) [] pos) (tMethA C m sp E ta t) := by
  refine ⟨fun pins s σ H Q I h => PySem.W.methodCall_KW (pl := pl) (thn (he.run pins s σ H _ I h) fun u s1 ⟨x, H1, I1, rx, a, dx, fs, ex, ea, l, q⟩ => ?_) ht⟩
  subst ex
  obtain rfl : u = Value.ref a := rx
  exact getmeth_ok I1 ea c hm l (PySem.W.callWith_K (first := [.ref a]) (h₀ := X.base) I.ok.mod.kin hm.kp (thn (ha.run pos pins s1 σ H1 _ I1 q) fun us s2 ⟨vs, H2, I2, r, q2⟩ => ⟨I2.kIn, run_fnS (us := .ref a :: us) (vs := .ref a :: vs) F hr hb (hx σ) I2 (.cons rfl r) q2⟩) hst hpl)
theorem methA {σ : L2.St} {H : Hp} {Q : VK} (h : ta σ H fun x H1 => ∃ a dx fs, x = .ref a ∧ H1 a = some (.ins C dx fs) ∧ fs.lookup m = none ∧ t σ H1 fun vs H2 => sp (x :: vs) H2 Q (E σ)) : tMethA C m sp E ta t σ H Q := h
/-- the call of a bound classmethod, at the slots σ -/
theorem run_cmS {q : Addr} {pins : List (Addr × Obj)} {σ : L2.St} {H : Hp} {s : Shared} {Q : VK} {us : List Value} {vs : List V} (F : FnOk X.prog X.w X.K X.mg X.base CX k g fd ps sp) (hb : Binds X.K fd ps []) (hr : Room k X.A) (hx : PassesAt CX X σ (E σ)) (I : Inv X ((q, PySem.W.methodObj (.ref g) (.ref C)) :: pins) σ H s) (r : Vals vs us) (h : sp (.ref C :: vs) H Q (E σ)) : wpAny (model X.prog X.w) X.A (call (.ref q) us) (EP X pins σ Q) X.xe s := by
  have hl : (Value.ref C :: us).length = ps.length := by rw [← F.len _ _ _ _ h]; exact congrArg Nat.succ r.length.symm
  have b := hb s (.ref C :: us) I.kIn (by rw [List.append_nil]; exact hl)
  rw [List.append_nil] at b
  have z : wpAny (model X.prog X.w) X.A (call (.ref q) us) (EP X ((q, PySem.W.methodObj (.ref g) (.ref C)) :: pins) σ Q) X.xe s := by
    refine wpAny_call (PySem.W.method_call (ClX.pin_at I) (codeAny_mono (F.run X.A X.stack s H ⟨.ref C :: us, []⟩ (.ref C :: us) (.ref C :: vs) Q (E σ) hr I.env0 b (.cons rfl r) h) fun y s' hq => ?_))
    match y, hq with
    | .error e, hq => exact hx _ H s e s' I hq
    | .ok (.ret u), hq => exact I.after hq
    | .ok .next, hq => exact False.elim hq
    | .ok .brk, hq => exact False.elim hq
    | .ok .cont, hq => exact False.elim hq
  exact thn z fun _ _ y => ClX.unpinE y
/-- C.m(e, ..), m a classmethod of the class C, within a try -/
def tCMeth (C : Addr) (sp : Sp) (E : L2.St → XK) (ta : TE) (t : TA) : TE := fun σ H Q => ta σ H fun x H1 => x = .ref C ∧ t σ H1 fun vs H2 => sp (.ref C :: vs) H2 Q (E σ)
theorem pe_cm (he : PE X o ta) (r : ClX.CRead X.K C mc) (c : ClX.CMet X.K C mc m p g) (F : FnOk X.prog X.w X.K X.mg X.base CX k g fd ps sp) (hb : Binds X.K fd ps []) (hr : Room k X.A) (hx : ∀ σ, PassesAt CX X σ (E σ)) (ha : PA X (e :: es) t) (hst : starEach (e :: es) X.env = (false, eval e X.env) :: starEach es X.env := by rfl) (hpl : (backTo pos (starEach es X.env)).any (·.1) = false := by rfl) (ht : MForm X o m (e :: es) apos pos pl := by rfl) :
    PE X (.Call (.Attribute o m apos) (e :: es) [] pos) (tCMeth C sp E ta t) := by
  refine ⟨fun pins s σ H Q I h => PySem.W.methodCall_KW (pl := pl) (thn (he.run pins s σ H _ I h) fun u s1 ⟨x, H1, I1, rx, ex, q⟩ => ?_) ht⟩
  subst ex
  obtain rfl : u = Value.ref C := rx
  refine ClX.getmethcm_ok I1 r c fun s2 I2 => ClX.callwith_cm I2 (ClX.base_none I1 (Nat.le_refl _)) c.fi (thn (ha.run pos _ s2 σ H1 _ I2 q) fun us s3 ⟨vs, H2, I3, rv, q2⟩ => ⟨⟨ClX.pin_at I3, I3.kIn⟩, ?_⟩) hst hpl
  exact run_cmS F hb hr (hx σ) I3 rv q2
theorem cm {σ : L2.St} {H : Hp} {Q : VK} (h : ta σ H fun x H1 => x = .ref C ∧ t σ H1 fun vs H2 => sp (.ref C :: vs) H2 Q (E σ)) : tCMeth C sp E ta t σ H Q := h
theorem passC {E0 : XK} (hx : Passes CX X E0) (σ : L2.St) : PassesAt CX X σ ((fun _ => E0) σ) := fun pins H s e s' I c => hx pins σ H s e s' I c
/-- n(e, ..), the local n the class C -/
def tMakeL (i : Nat) (C : Addr) (sp : Sp) (t : TA) : TE := fun σ H Q => σ[i]? = some (some (.ref C)) ∧ t σ H fun vs H1 => ∀ x dx, H1 x = none → H1 dx = none → dx ≠ x → sp (.ref x :: (vs ++ [])) (upd (upd H1 dx (.own x)) x (.ins C dx [])) (fun v H2 => v = .non ∧ Q (.ref x) H2) E0
theorem pe_makeL {pp : Pos} (M : Mk X.K C f) (F : FnOk X.prog X.w X.K X.mg X.base CX k f fd ps sp) (hr : Room (k + 1) X.A) (hN : X.N[i]? = some x) (hv : Vis X.env.scope x) (hb : Binds X.K fd ps []) (hx : Passes CX X E0) (ha : PA X (e :: es) t) (hdb : (x == ("__debug__" : Str)) = false := by decide) (hcd : (x == ("__classdict__" : Str)) = false := by decide)
    (he : starEach (e :: es) X.env = (false, eval e X.env) :: starEach es X.env := by rfl) (hpl : (backTo pos (starEach es X.env)).any (·.1) = false := by rfl) : PE X (.Call (.Name x pp) (e :: es) [] pos) (tMakeL i C sp t) := by
  refine ⟨fun pins s σ H Q I ⟨hs, ht⟩ => wpAny_Call_Name_kw (thn ((pe_var (pos := pp) hN hv hdb hcd).run pins s σ H (fun v H1 => v = .ref C ∧ H1 = H) I ⟨.ref C, hs, rfl, rfl⟩) fun u s1 ⟨v, H1, I1, r1, q1⟩ => ?_)⟩
  obtain ⟨rfl, rfl⟩ := q1
  cases r1
  exact PySem.W.callWith_K (h₀ := X.base) I.ok.mod.kin M.kp (thn (ha.run pos pins s1 σ _ _ I1 ht) fun us s2 ⟨vs, H2, I2, r, q⟩ => ⟨I2.kIn, run_make M F hr hb .nil hx I2 r q⟩) he hpl
theorem makeL {σ : L2.St} {H : Hp} {Q : VK} (hs : σ[i]? = some (some (.ref C))) (h : t σ H fun vs H1 => ∀ x dx, H1 x = none → H1 dx = none → dx ≠ x → sp (.ref x :: (vs ++ [])) (upd (upd H1 dx (.own x)) x (.ins C dx [])) (fun v H2 => v = .non ∧ Q (.ref x) H2) E0) : tMakeL i C sp t σ H Q := ⟨hs, h⟩
theorem fldK {f : Str} (K : PySem.W.Frag) (hK : X.K = K) (h : PE X e (tFld X.K ta f)) : PE X e (tFld K ta f) := hK ▸ h
theorem bmK {T : String} {r : V → List V → Hp → VK → Prop} (K : PySem.W.Frag) (hK : X.K = K) (h : PE X e (tBM X.K T r ta t)) : PE X e (tBM K T r ta t) := hK ▸ h
end
end ClsM

/-! ### Many: a try with several clauses, with or without names -/
namespace Many
open PySem PySem.Spec PyProof.Rows L2
/-- a clause: its class, the slot of its name, what its suite does -/
structure Cl where
  c : Value
  at_ : Option Nat
  ts : Addr → Value → Option Addr → TS
def gone : Option Nat → L2.St → L2.St
  | none, σ => σ
  | some i, σ => σ.set i none
def bound : Option Nat → Addr → L2.St → L2.St
  | none, _, σ => σ
  | some i, a, σ => σ.set i (some (.ref a))
def ends : Option Nat → Ends → Ends
  | none, D => D
  | some i, D => { nx := fun σ H => D.nx (σ.set i none) H, rt := D.rt, bk := fun σ H => D.bk (σ.set i none) H, ct := fun σ H => D.ct (σ.set i none) H }
/-- what the clauses wish, the first that fits -/
def wish (K : PySem.W.Frag) (out : WX) (D : Ends) : List Cl → WX
  | [] => out
  | k :: r => fun cls d σ H => ∃ b, PySem.W.exmOne K cls k.c = some b ∧ (b = true → ∀ a, H a = none → k.ts a cls d (ends k.at_ D) (bound k.at_ a σ) H) ∧ (b = false → wish K out D r cls d σ H)
theorem wish_yes {K : PySem.W.Frag} {out : WX} {D : Ends} {k : Cl} {r : List Cl} {cls : Value} {d : Option Addr} {σ : L2.St} {H : Hp} (e : PySem.W.exmOne K cls k.c = some true) (h : ∀ a, H a = none → k.ts a cls d (ends k.at_ D) (bound k.at_ a σ) H) : wish K out D (k :: r) cls d σ H := ⟨true, e, fun _ => h, fun z => by cases z⟩
theorem wish_no {K : PySem.W.Frag} {out : WX} {D : Ends} {k : Cl} {r : List Cl} {cls : Value} {d : Option Addr} {σ : L2.St} {H : Hp} (e : PySem.W.exmOne K cls k.c = some false) (h : wish K out D r cls d σ H) : wish K out D (k :: r) cls d σ H := ⟨false, e, (fun z => by cases z), fun _ => h⟩
inductive Ok (X : Cx) : List ExceptHandler → List Cl → Prop
  | nil : Ok X [] []
  | bare {x : Str} {c : Value} {ts : Addr → Value → Option Addr → TS} {b₀ : Stmt} {su : List Stmt} {p q : Pos} {hs : List ExceptHandler} {l : List Cl} (hc : Names X x c) (hb : ∀ (a : Addr) (oe : Obj) (cls : Value) (d : Option Addr) (pn : List (Addr × Obj)), Zc cls d oe → (∃ vs, oe.data = .fields vs) → PSs (X.suite a ((a, oe) :: pn)) (b₀ :: su) (ts a cls d)) (r : Ok X hs l) : Ok X (.ExceptHandler (some (.Name x p)) none (b₀ :: su) q :: hs) (⟨c, none, ts⟩ :: l)
  | named {x n : Str} {c : Value} {ts : Addr → Value → Option Addr → TS} {i : Nat} {b₀ : Stmt} {su : List Stmt} {p q : Pos} {hs : List ExceptHandler} {l : List Cl} (hN : X.N.Nodup) (hi : X.N[i]? = some n) (hl : X.env.kindOf n = some .local) (hc : Names X x c) (hb : ∀ (a : Addr) (oe : Obj) (cls : Value) (d : Option Addr) (pn : List (Addr × Obj)), Zc cls d oe → (∃ vs, oe.data = .fields vs) → PSs (X.suite a ((a, oe) :: pn)) (b₀ :: su) (ts a cls d)) (r : Ok X hs l) : Ok X (.ExceptHandler (some (.Name x p)) (some n) (b₀ :: su) q :: hs) (⟨c, some i, ts⟩ :: l)
section
variable {X : Cx} {body : List Stmt} {h₀ : ExceptHandler} {hds : List ExceptHandler} {l : List Cl} {pos : Pos} {tb : WX → TS} {out : WX}
theorem ps_try_named (hs : X.stack = X.env :: X.outer) (hf : X.env.frame = some X.env.locals) (tk : Takes X out)
    (hb : ∀ (W : WX) (pn : List (Addr × Obj)) (xe : Value → Shared → Prop), Takes (X.tr pn xe) W → PassesOwn (model X.prog X.w) X.A X.env xe → PSs (X.tr pn xe) body (tb W)) (hh : Ok X (h₀ :: hds) l) :
    PS X (.Try body (h₀ :: hds) [] [] pos) (fun D σ H => tb (wish X.K out D l) D σ H) := by
  refine ⟨fun pins s σ H D I h => ?_⟩
  have ok := I.ok; have hfr : X.A.frames = some (X.env :: X.outer) := by rw [ok.frames, hs]
  refine wpAny_Try_except ?_
  refine wpAny_mono ((hb (wish X.K out D l) (X.pn ++ pins) (fun e s₁ => wpAny (model X.prog X.w) X.A (noteFrame e X.env) (fun _ s₂ => wpAny (model X.prog X.w) X.A (setFlight e none) (fun _ s₃ => wpAny (model X.prog X.w) X.A (handleBy e X.env (h₀ :: hds)) (SP X pins D) X.xe s₃) X.xe s₂) X.xe s₁) (fun u s' xx => ?_) PassesOwn.looking).run [] s σ H D (I.toTry _) h) (fun f s1 hsp => ?_) (fun e s1 he => he)
  · obtain ⟨a, B, sI, pins', σ', H', cls, d, rfl, J', nb, up, sky, na, os, ag, w⟩ := xx
    have J : Inv X pins σ' H' sI := J'.ofTry ok; have sky' : Sky B (X.env :: X.outer) a (Zc cls d) X.env.locals s'.heap := by rw [← hs]; exact sky
    show wpAny (model X.prog X.w) X.A (noteFrame (.ref a) X.env) _ _ _
    refine Sky.land Zc.steady hfr hf sky' fun h3 fl3 up3 => ?_
    have J3 : Inv X pins σ' H' { s' with heap := h3 } := J.landed nb fl3.1 (up.trans up3) os ag; obtain ⟨oe3, vs3, he3, hz3, hd3⟩ := fl3.there
    have nfr : a ∉ frs (X.env :: X.outer) := fun hm => by
      obtain ⟨_, o', e', hnf⟩ := fl3.2.2.1.mem hm
      rw [he3] at e'; cases e'; exact hnf _ hd3
    have nL : a ≠ X.env.locals := fun z => nfr (List.mem_filterMap.mpr ⟨X.env, List.mem_cons_self, by rw [hf, z]⟩)
    have nF : a ∉ X.fs := fun hm => by
      obtain ⟨e, he, q⟩ := List.mem_filterMap.mp hm; exact nfr (List.mem_filterMap.mpr ⟨e, List.mem_cons_of_mem _ he, q⟩)
    have S3 := J3.suite he3 hd3 na nL nF
    have go : ∀ {hs' : List ExceptHandler} {l' : List Cl}, Ok X hs' l' → wish X.K out D l' cls d σ' H' → wpAny (model X.prog X.w) X.A (handleBy (.ref a) X.env hs') (SP X pins D) X.xe { s' with heap := h3 } := by
      intro hs' l' hk
      have test : ∀ {x : Str} {c : Value} {np : Pos} {Q : Value → Shared → Prop} {E : Value → Shared → Prop}, Names X x c → Q c { s' with heap := h3 } → wpAny (model X.prog X.w) (X.A.mark (some (.ref a))) (eval (.Name x np) X.env) Q E { s' with heap := h3 } := fun {x c np Q E} hc q => by
        obtain ⟨hg, hdbg, hm | ⟨hm, hv, hnn⟩⟩ := hc
        · exact ld_glob (X := X.suite a ((a, oe3) :: (X.pn ++ pins))) S3 hg hm q hdbg
        · exact ld_blt (X := X.suite a ((a, oe3) :: (X.pn ++ pins))) S3 hg hm hv q hnn hdbg
      have LT : PySem.W.Looks (model X.prog X.w) h3 (typeOf (.ref a)) cls := fun A Q E s k q => wpAny_typeOf_ref (k _ _ he3) (by rw [hz3.1]; exact q)
      induction hk with
      | nil =>
        intro w
        refine wpAny_handleBy_nil ?_
        obtain ⟨k1, k2, k3, oe, vs, T, oT, ts', he, hz, hd, h1, hr⟩ := id fl3; unfold PySem.passOn
        refine wpAny_bind (wpAny_field he hd h1 ?_); rw [if_neg (show ¬ ((Value.ref T == Value.none) = true) from by simp)]
        have fin : wpAny (model X.prog X.w) X.A (setFlight (.ref a) X.env.frame) (fun _ s4 => wpAny (model X.prog X.w) X.A (throw (.ref a) : Sem Flow) (SP X pins D) X.xe s4) X.xe { s' with heap := h3 } := by
          rw [hf]; exact HandSPX.setFlight_upZ fl3 fun h4 hh4 up4 => wpAny_throw (tk _ _ ⟨a, B, sI, pins, σ', H', cls, d, rfl, J, nb, (up.trans up3).trans up4, .inr (.inr (by rw [hs]; exact hh4)), na, os, ag, w⟩)
        first | exact wpAny_bind (wpAny_pure (wpAny_bind fin)) | exact wpAny_bind fin
      | @bare x c ts b₀ su p q hs2 l2 hc hsu r ih =>
        intro w
        obtain ⟨b, hb1, hyes, hno⟩ := w
        refine wpAny_handleBy_cons (codeAny_handlers_test ?_) (by intro q; cases q)
        refine test hc ((PySem.W.exm_one (M := model X.prog X.w) (J3.kIn) LT hb1).here ?_)
        cases b with
        | true =>
          refine codeAny_handlers_suite (HandSPX.lands_againZ fl3 fun h4 fl4 up4 => ?_)
          have J4 : Inv X pins σ' H' { s' with heap := h4 } := J.landed nb fl4.1 ((up.trans up3).trans up4) os ag; obtain ⟨oe4, vs4, he4, hz4, hd4⟩ := fl4.there
          have S4 := J4.suite he4 hd4 na nL nF; have y := hyes rfl a na
          refine wpAny_mono ((hsu a oe4 cls d (X.pn ++ pins) hz4 ⟨_, hd4⟩).run [] _ _ H' _ S4 y) (fun f s6 hsp => ?_) (fun _ _ z => False.elim z)
          cases f with
          | ret u => obtain ⟨v6, σ6, H6, S6, r6, q6⟩ := hsp; exact ⟨_, _, _, S6.unsuite ok, r6, q6⟩
          | next => obtain ⟨σ6, H6, S6, q6⟩ := hsp; exact ⟨_, _, S6.unsuite ok, q6⟩
          | brk => obtain ⟨σ6, H6, S6, q6⟩ := hsp; exact ⟨_, _, S6.unsuite ok, q6⟩
          | cont => obtain ⟨σ6, H6, S6, q6⟩ := hsp; exact ⟨_, _, S6.unsuite ok, q6⟩
        | false => exact ih (hno rfl)
      | @named x n c ts i b₀ su p q hs2 l2 hN hi hl hc hsu r ih =>
        intro w
        obtain ⟨b, hb1, hyes, hno⟩ := w
        refine wpAny_handleBy_cons (codeAny_handlers_test ?_) (by intro q; cases q)
        refine test hc ((PySem.W.exm_one (M := model X.prog X.w) (J3.kIn) LT hb1).here ?_)
        cases b with
        | true =>
          refine codeAny_handlers_suite_as (HandSPX.lands_againZ fl3 fun h4 fl4 up4 => ?_)
          have J4 : Inv X pins σ' H' { s' with heap := h4 } := J.landed nb fl4.1 ((up.trans up3).trans up4) os ag; obtain ⟨oe4, vs4, he4, hz4, hd4⟩ := fl4.there
          have S4 := J4.suite he4 hd4 na nL nF; have y := hyes rfl a na
          refine store_ok (X := X.suite a ((a, oe4) :: (X.pn ++ pins))) (v := .ref a) S4 hN hi (show Loc X.env.scope n from .inl hl) rfl (fun s5 S5 => ?_) (.inr hl)
          refine wpAny_mono ((hsu a oe4 cls d (X.pn ++ pins) hz4 ⟨_, hd4⟩).run [] s5 _ H' _ S5 y) (fun f s6 hsp => ?_) (fun _ _ z => False.elim z)
          have fin : ∀ {σ6 : L2.St} {H6 : Hp} {Q : Shared → Prop}, Inv (X.suite a ((a, oe4) :: (X.pn ++ pins))) [] σ6 H6 s6 → (∀ s7, Inv X pins (σ6.set i none) H6 s7 → Q s7) → wpAny (model X.prog X.w) X.A (do bindName X.env n .none; unbindBehindTheSuite X.env n q) (fun _ s7 => Q s7) X.xe s6 := fun {σ6 H6 Q} S6 hq => gone_ok (S6.unsuite ok) hN hi hl hq
          cases f with
          | ret u => obtain ⟨v6, σ6, H6, S6, r6, q6⟩ := hsp; exact fin S6 fun s7 J7 => ⟨_, _, _, J7, r6, q6⟩
          | next => obtain ⟨σ6, H6, S6, q6⟩ := hsp; exact fin S6 fun s7 J7 => ⟨_, _, J7, q6⟩
          | brk => obtain ⟨σ6, H6, S6, q6⟩ := hsp; exact fin S6 fun s7 J7 => ⟨_, _, J7, q6⟩
          | cont => obtain ⟨σ6, H6, S6, q6⟩ := hsp; exact fin S6 fun s7 J7 => ⟨_, _, J7, q6⟩
        | false => exact ih (hno rfl)
    exact go hh w
  · cases f with
    | ret u => obtain ⟨v, σ', H', J', r, q⟩ := hsp; exact ⟨v, σ', H', J'.ofTry ok, r, q⟩
    | next => obtain ⟨σ', H', J', q⟩ := hsp; exact wpAny_execs_nil ⟨σ', H', J'.ofTry ok, q⟩
    | brk => obtain ⟨σ', H', J', q⟩ := hsp; exact ⟨σ', H', J'.ofTry ok, q⟩
    | cont => obtain ⟨σ', H', J', q⟩ := hsp; exact ⟨σ', H', J'.ofTry ok, q⟩
end
end Many

namespace Z
open PySem L2
/-! range(lo, e) -/
def Rng2K (R : It → Hp → Prop) (vs : List V) (H1 : Hp) : Prop := ∃ i j : Int, vs = [.int i, .int j] ∧ (-(2 ^ 62) ≤ i ∧ i < 2 ^ 62 ∧ -(2 ^ 62) ≤ j ∧ j < 2 ^ 62) ∧ R (Itr i (j - i).toNat) H1
theorem irng2 {a : TA} {σ : L2.St} {H : Hp} {R : It → Hp → Prop} (h : a σ H (Rng2K R)) : iRng2 a σ H R := h
theorem forr2 {σ : L2.St} {H : Hp} {D : Ends} {g : TG} {tb : TS} {lo e : Int} (n : Nat) (he : (e - lo).toNat = n) (hb : -1000000 ≤ lo ∧ lo ≤ 1000000 ∧ -1000000 ≤ e ∧ e ≤ 1000000) (Pv : Nat → L2.St → Hp → Prop) (h0 : Pv 0 σ H)
    (hs : ∀ i σ H, i < n → Pv i σ H → g (.int (lo + (i : Int))) σ H fun σ2 H2 => tb { D with nx := Pv (i + 1), ct := Pv (i + 1), bk := D.nx } σ2 H2) (hd : ∀ σ H, Pv n σ H → D.nx σ H) : Rng2K (ForK g tb D σ) [.int lo, .int e] H := by
  refine ⟨lo, e, rfl, ⟨by omega, by omega, by omega, by omega⟩, ?_⟩
  rw [he]
  exact for_range (lo := lo) (n := n) Pv h0 (fun i σ H1 hi p => hs i σ H1 hi p) hd
end Z

namespace Z
open PySem L2
/-! comprehensions of two clauses, both over lists -/
theorem it_list {K : PySem.W.Frag} {a : Addr} {xs : List V} {H0 : Hp} {R : Hp → Prop} {B : V → (Hp → Prop) → Hp → Prop} (Pv : Nat → Hp → Prop) (h0 : Pv 0 H0) (hl : ∀ i H, i ≤ xs.length → Pv i H → SqL K H a xs)
    (hs : ∀ i x H, xs[i]? = some x → Pv i H → B x (Pv (i + 1)) H) (hd : ∀ H, Pv xs.length H → R H) :
    ∃ W : Nat → Nat → Hp → Prop, (∃ m, W 0 m H0) ∧ ∀ i m H, W i m H →
      ((Itl K a).stop i H ∧ R H) ∨ ((Itl K a).go i H ∧ ∃ Nx : Hp → Prop, (∀ H', Nx H' → ∃ m', m' < m ∧ W (i + 1) m' H') ∧ ∀ x H', (Itl K a).yld i H x H' → B x Nx H') := by
  refine ⟨fun i m H => m = xs.length - i ∧ i ≤ xs.length ∧ Pv i H, ⟨xs.length, by simp, Nat.zero_le _, h0⟩, ?_⟩
  rintro i m H ⟨rfl, hi, p⟩
  have q := hl i H hi p
  by_cases hlt : i < xs.length
  · refine .inr ⟨⟨xs, xs[i], q, by simp [hlt]⟩, Pv (i + 1), fun H' p' => ⟨xs.length - (i + 1), by omega, rfl, hlt, p'⟩, fun x H' y => ?_⟩
    obtain ⟨e, y⟩ := y
    subst e
    exact hs i x _ (y xs q) p
  · have e : i = xs.length := by omega
    subst e
    exact .inl ⟨⟨xs, q, Nat.le_refl _⟩, hd H p⟩
def In2K (g1 : TG) (tt1 : TT) (te : TE) (vs1 : List Nat) (σ2 : L2.St) (D : Addr) (Nx : Hp → Prop) (J1 : It) (H4 : Hp) : Prop := ∃ W1 : Nat → Nat → Hp → Prop, (∃ m, W1 0 m H4) ∧ ∀ j k H, W1 j k H →
      (J1.stop j H ∧ Nx H) ∨ (J1.go j H ∧ ∃ Nx1 : Hp → Prop, (∀ H', Nx1 H' → ∃ k', k' < k ∧ W1 (j + 1) k' H') ∧ ∀ x H', J1.yld j H x H' → g1 x (wipe σ2 vs1) H' fun σ3 H5 => wipe σ3 vs1 = wipe σ2 vs1 ∧ tt1 σ3 H5 fun b H6 =>
        if b = true then te σ3 H6 fun y H7 => ∃ acc, H7 D = some (.lst acc) ∧ acc.length < sizeLine ∧ Nx1 (upd H7 D (.lst (acc ++ [y]))) else Nx1 H6)
def Lc2K (g : TG) (tt : TT) (wi1 : TI) (g1 : TG) (tt1 : TT) (te : TE) (vs vs1 : List Nat) (σ : L2.St) (Q : VK) (J : It) (H1 : Hp) : Prop := ∀ D, H1 D = none → ∃ W : Nat → Nat → Hp → Prop, (∃ m, W 0 m (upd H1 D (.lst []))) ∧ ∀ i m H, W i m H →
  (J.stop i H ∧ Q (.ref D) H) ∨ (J.go i H ∧ ∃ Nx : Hp → Prop, (∀ H', Nx H' → ∃ m', m' < m ∧ W (i + 1) m' H') ∧ ∀ x H', J.yld i H x H' → g x (wipe σ vs) H' fun σ2 H2 => wipe σ2 vs = wipe σ vs ∧ tt σ2 H2 fun b H3 =>
    if b = true then wi1 σ2 H3 (In2K g1 tt1 te vs1 σ2 D Nx) else Nx H3)
theorem lc2 {wi wi1 : TI} {g g1 : TG} {tt tt1 : TT} {te : TE} {vs vs1 : List Nat} {σ : L2.St} {H : Hp} {Q : VK} (h : wi σ H (Lc2K g tt wi1 g1 tt1 te vs vs1 σ Q)) : tLc2 wi g tt wi1 g1 tt1 te vs vs1 σ H Q := h
theorem lc2l {K : PySem.W.Frag} {wi1 : TI} {g g1 : TG} {tt tt1 : TT} {te : TE} {vs vs1 : List Nat} {σ : L2.St} {H : Hp} {Q : VK} {a : Addr} (xs : List V) (hS : SqL K H a xs) (Pv : Addr → Nat → Hp → Prop) (h0 : ∀ D H1, H D = none → Kp [] H H1 → H1 D = some (.lst []) → Pv D 0 H1)
    (hl : ∀ D i H1, H D = none → i ≤ xs.length → Pv D i H1 → SqL K H1 a xs)
    (hs : ∀ D i x H1, H D = none → xs[i]? = some x → Pv D i H1 → g x (wipe σ vs) H1 fun σ2 H2 => wipe σ2 vs = wipe σ vs ∧ tt σ2 H2 fun b H3 => if b = true then wi1 σ2 H3 (In2K g1 tt1 te vs1 σ2 D (Pv D (i + 1))) else Pv D (i + 1) H3)
    (hd : ∀ D H1, H D = none → Pv D xs.length H1 → Q (.ref D) H1) : ListK K (Lc2K g tt wi1 g1 tt1 te vs vs1 σ Q) (.ref a) H :=
  ⟨a, rfl, ⟨xs, hS⟩, fun D hD => it_list (K := K) (a := a) (xs := xs) (R := fun H1 => Q (.ref D) H1) (B := fun x Nx H' => g x (wipe σ vs) H' fun σ2 H2 => wipe σ2 vs = wipe σ vs ∧ tt σ2 H2 fun b H3 => if b = true then wi1 σ2 H3 (In2K g1 tt1 te vs1 σ2 D Nx) else Nx H3) (Pv D) (h0 D _ hD (Kp.new hD) upd_same) (fun i H1 hi p => hl D i H1 hD hi p) (fun i x H1 hx p => hs D i x H1 hD hx p) fun H1 p => hd D H1 hD p⟩
theorem in2l {K : PySem.W.Frag} {g1 : TG} {tt1 : TT} {te : TE} {vs1 : List Nat} {σ2 : L2.St} {H : Hp} {D : Addr} {Nx : Hp → Prop} {a : Addr} (ys : List V) (hS : SqL K H a ys) (Pv : Nat → Hp → Prop) (h0 : Pv 0 H) (hl : ∀ i H1, i ≤ ys.length → Pv i H1 → SqL K H1 a ys)
    (hs : ∀ j y H1, ys[j]? = some y → Pv j H1 → g1 y (wipe σ2 vs1) H1 fun σ3 H5 => wipe σ3 vs1 = wipe σ2 vs1 ∧ tt1 σ3 H5 fun b H6 => if b = true then te σ3 H6 fun z H7 => ∃ acc, H7 D = some (.lst acc) ∧ acc.length < sizeLine ∧ Pv (j + 1) (upd H7 D (.lst (acc ++ [z]))) else Pv (j + 1) H6)
    (hd : ∀ H1, Pv ys.length H1 → Nx H1) : ListK K (In2K g1 tt1 te vs1 σ2 D Nx) (.ref a) H :=
  ⟨a, rfl, ⟨ys, hS⟩, it_list (K := K) (a := a) (xs := ys) (R := Nx) (B := fun x Nx1 H' => g1 x (wipe σ2 vs1) H' fun σ3 H5 => wipe σ3 vs1 = wipe σ2 vs1 ∧ tt1 σ3 H5 fun b H6 => if b = true then te σ3 H6 fun y H7 => ∃ acc, H7 D = some (.lst acc) ∧ acc.length < sizeLine ∧ Nx1 (upd H7 D (.lst (acc ++ [y]))) else Nx1 H6) Pv h0 hl hs hd⟩
end Z

/-! ### xs[i] += y; comprehensions over range(lo, hi) -/
namespace Z
open PySem L2 PySem.Spec PyProof.Rows
theorem pget_list {X : Cx} : PGet X (rIxL X.K) := by
  rintro pins s σ H _ _ v u Q I rx ry ⟨p, xs, i, z, rfl, rfl, hS, hz, q⟩
  obtain rfl : v = Value.ref p := by cases rx; rfl
  obtain ⟨tok, rfl⟩ := ry
  have ⟨items, vals, plain, _⟩ := I.list hS
  have ⟨k, k1, k2, k3, k4, k5⟩ := atI_get hz
  have ⟨val, hval, rel⟩ := vals.get k2
  have len := vals.length
  have big := line63
  have done : EP X pins σ Q val s := ⟨z, H, I, rel, q⟩
  rcases Int.lt_or_le i 0 with neg | pos
  · rw [seqIndex_neg neg k4] at k1
    have ek := Option.some.inj k1
    refine wpAny_getItem_list_neg plain.isList neg (by rw [List.size_toArray]; omega) (by omega) ?_ done
    rw [List.size_toArray, ← len, ek]
    simpa using hval
  · rw [seqIndex_of pos k5] at k1
    have ek := Option.some.inj k1
    refine wpAny_getItem_list plain.isList pos (by omega) ?_ done
    rw [ek]
    simpa using hval
theorem augs {σ : L2.St} {H : Hp} {D : Ends} {to ti te : TE} {tget : V → V → Hp → VK → Prop} {tip : TIp} {tset : TSet} (h : to σ H fun o H1 => ti σ H1 fun i H2 => tget o i H2 fun x H3 => te σ H3 fun y H4 => tip x y H4 fun z H5 => tset o i z H5 fun H6 => D.nx σ H6) : tAugS to ti te tget tip tset D σ H := h
theorem lcr2 {σ : L2.St} {H : Hp} {Q : VK} {te : TE} {g : TG} {tt : TT} {vs : List Nat} {lo e : Int} (n : Nat) (he : (e - lo).toNat = n) (hb : -1000000 ≤ lo ∧ lo ≤ 1000000 ∧ -1000000 ≤ e ∧ e ≤ 1000000) (Pv : Addr → Nat → Hp → Prop) (h0 : ∀ D H1, H D = none → Kp [] H H1 → H1 D = some (.lst []) → Pv D 0 H1)
    (hs : ∀ D i H1, H D = none → i < n → Pv D i H1 → g (.int (lo + (i : Int))) (wipe σ vs) H1 fun σ2 H2 => wipe σ2 vs = wipe σ vs ∧ tt σ2 H2 fun b H3 => if b = true then te σ2 H3 fun y H4 => ∃ acc, H4 D = some (.lst acc) ∧ acc.length < sizeLine ∧ Pv D (i + 1) (upd H4 D (.lst (acc ++ [y]))) else Pv D (i + 1) H3)
    (hd : ∀ D H1, H D = none → Pv D n H1 → Q (.ref D) H1) : Rng2K (LcK g tt te vs σ Q) [.int lo, .int e] H := by
  refine ⟨lo, e, rfl, ⟨by omega, by omega, by omega, by omega⟩, ?_⟩
  rw [he]
  exact fun D hD => lc_it (walk_range (lo := lo) (n := n)) (Pv D) (h0 D _ hD (Kp.new hD) upd_same) (fun _ _ _ _ => trivial) (fun i v H H' hi p y => by
    obtain ⟨rfl, rfl⟩ := y
    exact hs D i _ hD hi p) fun H1 p => hd D H1 hD p
end Z

/-! ### sorted of data that are alike -/
namespace RL
open PySem PySem.Spec PyProof.Rows L2 PySem.W
def DBs := List (V × PyData)
def rSortedD (K : PySem.W.Frag) : List V → Hp → VK → Prop := fun vs H Q => ∃ (a : Addr) (bs : List (V × PyData)), vs = [V.ref a] ∧ SqL K H a (bs.map Prod.fst) ∧ (∀ b ∈ bs, Dp K H b.1 b.2) ∧ AllAlike (bs.map Prod.snd) ∧ Sortable (bs.map Prod.snd) ∧ (∀ b ∈ bs, b.2.depth ≤ 60) ∧
  ∀ p, H p = none → Q (.ref p) (upd H p (.lst ((bs.mergeSort (dataLe false Prod.snd)).map Prod.fst)))
theorem each_vals : ∀ {bs : List (V × PyData)} {us : List Value}, Vals (bs.map Prod.fst) us → EachIs (fun (v : Value) (b : V × PyData) => RelV b.1 v) us bs
  | [], us, h => by cases h; exact .nil
  | b :: r, us, h => by
    cases h with
    | cons h1 h2 => exact .cons h1 (each_vals h2)
theorem vals_each : ∀ {bs : List (V × PyData)} {us : List Value}, EachIs (fun (v : Value) (b : V × PyData) => RelV b.1 v) us bs → Vals (bs.map Prod.fst) us
  | _, _, .nil => .nil
  | _, _, .cons h1 h2 => .cons h1 (vals_each h2)
theorem each_and {α β : Type} {R : α → β → Prop} {P : β → Prop} {S : α → β → Prop} (hS : ∀ a b, R a b → P b → S a b) : ∀ {as : List α} {bs : List β}, EachIs R as bs → (∀ b ∈ bs, P b) → EachIs S as bs
  | _, _, .nil, _ => .nil
  | _, _, .cons h1 h2, hp => .cons (hS _ _ h1 (hp _ (by simp))) (each_and hS h2 fun b hb => hp b (by simp [hb]))
theorem cr_sortedD {X : Cx} (hu : X.A.units + 64 < cLine) : CallR X (.builtin "sorted") (rSortedD X.K) := by
  intro pins s σ H vs us Q I r h
  obtain ⟨a, bs, rfl, hs, hD, hal, hk, hd, q⟩ := h
  obtain ⟨its, rv, hl, hz⟩ := I.list hs
  rw [Vals.ref1 r]
  have e := each_vals rv
  have er : EachIs (fun (v : Value) (b : V × PyData) => ∃ as, Reads s.heap v b.2 as) its bs := each_and (P := fun (b : V × PyData) => Dp X.K H b.1 b.2) (fun v b h1 h2 => Dp.reads I _ _ _ h2 h1) e hD
  have hL : bs.length ≤ sizeLine := by rw [List.length_map] at hz; exact hz
  refine sorted_data (enc := Prod.snd) (R := fun (v : Value) (b : V × PyData) => RelV b.1 v) hl.isList e er hal hk hL (fun b hb => by have := hd b hb; omega) fun out hlen ho => ?_
  obtain ⟨ep, he'⟩ := PyProof.Rows.sortedAll_at s.heap its out.toArray
  have hlen2 : ((bs.mergeSort (dataLe false Prod.snd)).map Prod.fst).length ≤ sizeLine := by rw [List.length_map, List.length_mergeSort]; exact hL
  exact ⟨.ref _, upd H (s.heap.objs.size + 1) (.lst ((bs.mergeSort (dataLe false Prod.snd)).map Prod.fst)), I.laid (t' := s.toks) (fun _ _ => PyProof.Rows.sortedAll_old) (Nat.le_succ _) ⟨hlen2, out, ep, vals_each ho, he'⟩, rfl, q _ (I.hok.fresh (Nat.le_succ _))⟩
end RL

namespace Z
open PySem L2
/-- what is never reached -/
def tDead : TS := fun _ _ _ => False
theorem ps_dead {X : Cx} {s : Stmt} : PS X s tDead := ⟨fun _ _ _ _ _ _ h => h.elim⟩
theorem u65 {k : Nat} {A : Around} (hr : Room k A) : A.units + 65 < cLine := by have := hr.un; omega
end Z

set_option maxRecDepth 100000

namespace K04
open PySem L2 Z
def topS (i : Nat) : Stmt := PySem.Challenge.pw_samphire_k04_first_error_of_a_condition.main.body.getD i (.Pass ⟨0, 0, 0, 0⟩)
abbrev s_made_of : Stmt := topS 7
abbrev N_made_of : List Str := ["text", "signs", "sign"]
theorem sc_made_of : FnScope N_made_of ["text", "signs"] (defScope s_made_of) := ⟨rfl, rfl, rfl, by decide +kernel, rfl, by decide +kernel, by decide +kernel⟩
abbrev s_writes_integer : Stmt := topS 8
abbrev N_writes_integer : List Str := ["word", "digits"]
theorem sc_writes_integer : FnScope N_writes_integer ["word"] (defScope s_writes_integer) := ⟨rfl, rfl, rfl, by decide +kernel, rfl, by decide +kernel, by decide +kernel⟩
abbrev s_integer_within : Stmt := topS 9
abbrev N_integer_within : List Str := ["word", "low", "high", "number"]
theorem sc_integer_within : FnScope N_integer_within ["word", "low", "high"] (defScope s_integer_within) := ⟨rfl, rfl, rfl, by decide +kernel, rfl, by decide +kernel, by decide +kernel⟩
abbrev s_is_name : Stmt := topS 12
abbrev N_is_name : List Str := ["text"]
theorem sc_is_name : FnScope N_is_name ["text"] (defScope s_is_name) := ⟨rfl, rfl, rfl, by decide +kernel, rfl, by decide +kernel, by decide +kernel⟩
abbrev s_token_end : Stmt := topS 18
abbrev N_token_end : List Str := ["text", "start", "end"]
theorem sc_token_end : FnScope N_token_end ["text", "start"] (defScope s_token_end) := ⟨rfl, rfl, rfl, by decide +kernel, rfl, by decide +kernel, by decide +kernel⟩
abbrev s_tokens_of : Stmt := topS 19
abbrev N_tokens_of : List Str := ["text", "found", "at", "end"]
theorem sc_tokens_of : FnScope N_tokens_of ["text"] (defScope s_tokens_of) := ⟨rfl, rfl, rfl, by decide +kernel, rfl, by decide +kernel, by decide +kernel⟩
abbrev s_ConditionReader_init : Stmt := inClass (topS 20) 0
abbrev N_ConditionReader_init : List Str := ["self", "text"]
theorem sc_ConditionReader_init : FnScope N_ConditionReader_init ["self", "text"] (defScope s_ConditionReader_init) := ⟨rfl, rfl, rfl, by decide +kernel, rfl, by decide +kernel, by decide +kernel⟩
abbrev s_ConditionReader_whole : Stmt := inClass (topS 20) 1
abbrev N_ConditionReader_whole : List Str := ["self", "condition"]
theorem sc_ConditionReader_whole : FnScope N_ConditionReader_whole ["self"] (defScope s_ConditionReader_whole) := ⟨rfl, rfl, rfl, by decide +kernel, rfl, by decide +kernel, by decide +kernel⟩
abbrev s_ConditionReader__here : Stmt := inClass (topS 20) 2
abbrev N_ConditionReader__here : List Str := ["self"]
theorem sc_ConditionReader__here : FnScope N_ConditionReader__here ["self"] (defScope s_ConditionReader__here) := ⟨rfl, rfl, rfl, by decide +kernel, rfl, by decide +kernel, by decide +kernel⟩
abbrev s_ConditionReader__refuse : Stmt := inClass (topS 20) 3
abbrev N_ConditionReader__refuse : List Str := ["self", "reason", "column"]
theorem sc_ConditionReader__refuse : FnScope N_ConditionReader__refuse ["self", "reason"] (defScope s_ConditionReader__refuse) := ⟨rfl, rfl, rfl, by decide +kernel, rfl, by decide +kernel, by decide +kernel⟩
abbrev s_ConditionReader__take : Stmt := inClass (topS 20) 4
abbrev N_ConditionReader__take : List Str := ["self", "can_stand", "word"]
theorem sc_ConditionReader__take : FnScope N_ConditionReader__take ["self", "can_stand"] (defScope s_ConditionReader__take) := ⟨rfl, rfl, rfl, by decide +kernel, rfl, by decide +kernel, by decide +kernel⟩
abbrev s_ConditionReader__go_in : Stmt := inClass (topS 20) 5
abbrev N_ConditionReader__go_in : List Str := ["self"]
theorem sc_ConditionReader__go_in : FnScope N_ConditionReader__go_in ["self"] (defScope s_ConditionReader__go_in) := ⟨rfl, rfl, rfl, by decide +kernel, rfl, by decide +kernel, by decide +kernel⟩
abbrev s_ConditionReader__either : Stmt := inClass (topS 20) 6
abbrev N_ConditionReader__either : List Str := ["self", "condition"]
theorem sc_ConditionReader__either : FnScope N_ConditionReader__either ["self"] (defScope s_ConditionReader__either) := ⟨rfl, rfl, rfl, by decide +kernel, rfl, by decide +kernel, by decide +kernel⟩
abbrev s_ConditionReader__both : Stmt := inClass (topS 20) 7
abbrev N_ConditionReader__both : List Str := ["self", "condition"]
theorem sc_ConditionReader__both : FnScope N_ConditionReader__both ["self"] (defScope s_ConditionReader__both) := ⟨rfl, rfl, rfl, by decide +kernel, rfl, by decide +kernel, by decide +kernel⟩
abbrev s_ConditionReader__turned : Stmt := inClass (topS 20) 8
abbrev N_ConditionReader__turned : List Str := ["self", "condition"]
theorem sc_ConditionReader__turned : FnScope N_ConditionReader__turned ["self"] (defScope s_ConditionReader__turned) := ⟨rfl, rfl, rfl, by decide +kernel, rfl, by decide +kernel, by decide +kernel⟩
abbrev s_ConditionReader__atom : Stmt := inClass (topS 20) 9
abbrev N_ConditionReader__atom : List Str := ["self", "word", "sign"]
theorem sc_ConditionReader__atom : FnScope N_ConditionReader__atom ["self"] (defScope s_ConditionReader__atom) := ⟨rfl, rfl, rfl, by decide +kernel, rfl, by decide +kernel, by decide +kernel⟩
abbrev s_ConditionReader__bracket : Stmt := inClass (topS 20) 10
abbrev N_ConditionReader__bracket : List Str := ["self", "condition"]
theorem sc_ConditionReader__bracket : FnScope N_ConditionReader__bracket ["self"] (defScope s_ConditionReader__bracket) := ⟨rfl, rfl, rfl, by decide +kernel, rfl, by decide +kernel, by decide +kernel⟩
abbrev s_ConditionReader__number : Stmt := inClass (topS 20) 11
abbrev N_ConditionReader__number : List Str := ["self", "below", "word", "number"]
theorem sc_ConditionReader__number : FnScope N_ConditionReader__number ["self"] (defScope s_ConditionReader__number) := ⟨rfl, rfl, rfl, by decide +kernel, rfl, by decide +kernel, by decide +kernel⟩
abbrev s_parse_condition : Stmt := topS 23
abbrev N_parse_condition : List Str := ["text", "reader"]
theorem sc_parse_condition : FnScope N_parse_condition ["text"] (defScope s_parse_condition) := ⟨rfl, rfl, rfl, by decide +kernel, rfl, by decide +kernel, by decide +kernel⟩
abbrev s__law_draws : Stmt := topS 25
abbrev N__law_draws : List Str := ["script", "draws", "cell", "number", "first", "k", "seed"]
theorem sc__law_draws : FnScope N__law_draws ["script"] (defScope s__law_draws) := ⟨rfl, rfl, rfl, by decide +kernel, rfl, by decide +kernel, by decide +kernel⟩
abbrev s__law_take : Stmt := topS 26
abbrev N__law_take : List Str := ["draws", "bound"]
theorem sc__law_take : FnScope N__law_take ["draws", "bound"] (defScope s__law_take) := ⟨rfl, rfl, rfl, by decide +kernel, rfl, by decide +kernel, by decide +kernel⟩
abbrev s__law_same : Stmt := topS 27
abbrev N__law_same : List Str := ["actual", "due", "k"]
theorem sc__law_same : FnScope N__law_same ["actual", "due"] (defScope s__law_same) := ⟨rfl, rfl, rfl, by decide +kernel, rfl, by decide +kernel, by decide +kernel⟩
abbrev s__law_name : Stmt := topS 28
abbrev N__law_name : List Str := ["draws"]
theorem sc__law_name : FnScope N__law_name ["draws"] (defScope s__law_name) := ⟨rfl, rfl, rfl, by decide +kernel, rfl, by decide +kernel, by decide +kernel⟩
abbrev s__law_number : Stmt := topS 29
abbrev N__law_number : List Str := ["draws"]
theorem sc__law_number : FnScope N__law_number ["draws"] (defScope s__law_number) := ⟨rfl, rfl, rfl, by decide +kernel, rfl, by decide +kernel, by decide +kernel⟩
abbrev s__law_condition : Stmt := topS 30
abbrev N__law_condition : List Str := ["draws", "depth", "kind", "first"]
theorem sc__law_condition : FnScope N__law_condition ["draws", "depth"] (defScope s__law_condition) := ⟨rfl, rfl, rfl, by decide +kernel, rfl, by decide +kernel, by decide +kernel⟩
abbrev s__law_part : Stmt := topS 31
abbrev N__law_part : List Str := ["condition", "words", "text"]
theorem sc__law_part : FnScope N__law_part ["condition", "words"] (defScope s__law_part) := ⟨rfl, rfl, rfl, by decide +kernel, rfl, by decide +kernel, by decide +kernel⟩
abbrev s__law_written : Stmt := topS 32
abbrev N__law_written : List Str := ["condition", "word"]
theorem sc__law_written : FnScope N__law_written ["condition"] (defScope s__law_written) := ⟨rfl, rfl, rfl, by decide +kernel, rfl, by decide +kernel, by decide +kernel⟩
abbrev s__law_error : Stmt := topS 33
abbrev N__law_error : List Str := ["text", "e"]
theorem sc__law_error : FnScope N__law_error ["text"] (defScope s__law_error) := ⟨rfl, rfl, rfl, by decide +kernel, rfl, by decide +kernel, by decide +kernel⟩
abbrev s__law_parts : Stmt := topS 34
abbrev N__law_parts : List Str := ["rows"]
theorem sc__law_parts : FnScope N__law_parts [] (defScope s__law_parts) := ⟨rfl, rfl, rfl, by decide +kernel, rfl, by decide +kernel, by decide +kernel⟩
abbrev s_law : Stmt := topS 35
abbrev N_law : List Str := ["script", "draws", "rows", "row", "head", "opening", "sign", "text", "at", "spoilt", "first", "many", "marks", "deep", "wide", "k"]
theorem sc_law : FnScope N_law ["script"] (defScope s_law) := ⟨rfl, rfl, rfl, by decide +kernel, rfl, by decide +kernel, by decide +kernel⟩
abbrev s_TextError_init : Stmt := inClass (topS 2) 0
abbrev N_TextError_init : List Str := ["self", "line", "column", "reason", "__class__"]
theorem sc_TextError_init : NdefX.NScope N_TextError_init ["self", "line", "column", "reason"] ["__class__"] (defScope s_TextError_init) := NdefX.nscope_by (by decide +kernel)
abbrev NF_TextError (cc c : Addr) : NdefX.NF := ⟨"__init__", "TextError.__init__", defArgs s_TextError_init, defBody s_TextError_init, defScope s_TextError_init, [(("__class__" : Str), cc)], c⟩
abbrev s_TooLarge_init : Stmt := inClass (topS 3) 0
abbrev N_TooLarge_init : List Str := ["self", "limit", "__class__"]
theorem sc_TooLarge_init : NdefX.NScope N_TooLarge_init ["self", "limit"] ["__class__"] (defScope s_TooLarge_init) := NdefX.nscope_by (by decide +kernel)
abbrev NF_TooLarge (cc c : Addr) : NdefX.NF := ⟨"__init__", "TooLarge.__init__", defArgs s_TooLarge_init, defBody s_TooLarge_init, defScope s_TooLarge_init, [(("__class__" : Str), cc)], c⟩
set_option maxHeartbeats 4000000 in
structure T (P : Program) (K : PySem.W.Frag) (mg : Str → Option Value) where
  a_made_of : Addr
  fd_made_of : FuncData
  F_made_of : Fun K "made_of" "made_of" s_made_of a_made_of fd_made_of
  b_made_of : Binds K fd_made_of ["text", "signs"] []
  g_made_of : mg "made_of" = some (.ref a_made_of)
  a_writes_integer : Addr
  fd_writes_integer : FuncData
  F_writes_integer : Fun K "writes_integer" "writes_integer" s_writes_integer a_writes_integer fd_writes_integer
  b_writes_integer : Binds K fd_writes_integer ["word"] []
  g_writes_integer : mg "writes_integer" = some (.ref a_writes_integer)
  a_integer_within : Addr
  fd_integer_within : FuncData
  F_integer_within : Fun K "integer_within" "integer_within" s_integer_within a_integer_within fd_integer_within
  b_integer_within : Binds K fd_integer_within ["word", "low", "high"] []
  g_integer_within : mg "integer_within" = some (.ref a_integer_within)
  a_is_name : Addr
  fd_is_name : FuncData
  F_is_name : Fun K "is_name" "is_name" s_is_name a_is_name fd_is_name
  b_is_name : Binds K fd_is_name ["text"] []
  g_is_name : mg "is_name" = some (.ref a_is_name)
  a_token_end : Addr
  fd_token_end : FuncData
  F_token_end : Fun K "token_end" "token_end" s_token_end a_token_end fd_token_end
  b_token_end : Binds K fd_token_end ["text", "start"] []
  g_token_end : mg "token_end" = some (.ref a_token_end)
  a_tokens_of : Addr
  fd_tokens_of : FuncData
  F_tokens_of : Fun K "tokens_of" "tokens_of" s_tokens_of a_tokens_of fd_tokens_of
  b_tokens_of : Binds K fd_tokens_of ["text"] []
  g_tokens_of : mg "tokens_of" = some (.ref a_tokens_of)
  a_ConditionReader_init : Addr
  fd_ConditionReader_init : FuncData
  F_ConditionReader_init : Fun K "__init__" "ConditionReader.__init__" s_ConditionReader_init a_ConditionReader_init fd_ConditionReader_init
  b_ConditionReader_init : Binds K fd_ConditionReader_init ["self", "text"] []
  a_ConditionReader_whole : Addr
  fd_ConditionReader_whole : FuncData
  F_ConditionReader_whole : Fun K "whole" "ConditionReader.whole" s_ConditionReader_whole a_ConditionReader_whole fd_ConditionReader_whole
  b_ConditionReader_whole : Binds K fd_ConditionReader_whole ["self"] []
  a_ConditionReader__here : Addr
  fd_ConditionReader__here : FuncData
  F_ConditionReader__here : Fun K "_here" "ConditionReader._here" s_ConditionReader__here a_ConditionReader__here fd_ConditionReader__here
  b_ConditionReader__here : Binds K fd_ConditionReader__here ["self"] []
  a_ConditionReader__refuse : Addr
  fd_ConditionReader__refuse : FuncData
  F_ConditionReader__refuse : Fun K "_refuse" "ConditionReader._refuse" s_ConditionReader__refuse a_ConditionReader__refuse fd_ConditionReader__refuse
  b_ConditionReader__refuse : Binds K fd_ConditionReader__refuse ["self", "reason"] []
  a_ConditionReader__take : Addr
  fd_ConditionReader__take : FuncData
  F_ConditionReader__take : Fun K "_take" "ConditionReader._take" s_ConditionReader__take a_ConditionReader__take fd_ConditionReader__take
  b_ConditionReader__take : Binds K fd_ConditionReader__take ["self", "can_stand"] []
  a_ConditionReader__go_in : Addr
  fd_ConditionReader__go_in : FuncData
  F_ConditionReader__go_in : Fun K "_go_in" "ConditionReader._go_in" s_ConditionReader__go_in a_ConditionReader__go_in fd_ConditionReader__go_in
  b_ConditionReader__go_in : Binds K fd_ConditionReader__go_in ["self"] []
  a_ConditionReader__either : Addr
  fd_ConditionReader__either : FuncData
  F_ConditionReader__either : Fun K "_either" "ConditionReader._either" s_ConditionReader__either a_ConditionReader__either fd_ConditionReader__either
  b_ConditionReader__either : Binds K fd_ConditionReader__either ["self"] []
  a_ConditionReader__both : Addr
  fd_ConditionReader__both : FuncData
  F_ConditionReader__both : Fun K "_both" "ConditionReader._both" s_ConditionReader__both a_ConditionReader__both fd_ConditionReader__both
  b_ConditionReader__both : Binds K fd_ConditionReader__both ["self"] []
  a_ConditionReader__turned : Addr
  fd_ConditionReader__turned : FuncData
  F_ConditionReader__turned : Fun K "_turned" "ConditionReader._turned" s_ConditionReader__turned a_ConditionReader__turned fd_ConditionReader__turned
  b_ConditionReader__turned : Binds K fd_ConditionReader__turned ["self"] []
  a_ConditionReader__atom : Addr
  fd_ConditionReader__atom : FuncData
  F_ConditionReader__atom : Fun K "_atom" "ConditionReader._atom" s_ConditionReader__atom a_ConditionReader__atom fd_ConditionReader__atom
  b_ConditionReader__atom : Binds K fd_ConditionReader__atom ["self"] []
  a_ConditionReader__bracket : Addr
  fd_ConditionReader__bracket : FuncData
  F_ConditionReader__bracket : Fun K "_bracket" "ConditionReader._bracket" s_ConditionReader__bracket a_ConditionReader__bracket fd_ConditionReader__bracket
  b_ConditionReader__bracket : Binds K fd_ConditionReader__bracket ["self"] []
  a_ConditionReader__number : Addr
  fd_ConditionReader__number : FuncData
  F_ConditionReader__number : Fun K "_number" "ConditionReader._number" s_ConditionReader__number a_ConditionReader__number fd_ConditionReader__number
  b_ConditionReader__number : Binds K fd_ConditionReader__number ["self"] []
  a_parse_condition : Addr
  fd_parse_condition : FuncData
  F_parse_condition : Fun K "parse_condition" "parse_condition" s_parse_condition a_parse_condition fd_parse_condition
  b_parse_condition : Binds K fd_parse_condition ["text"] []
  g_parse_condition : mg "parse_condition" = some (.ref a_parse_condition)
  a__law_draws : Addr
  fd__law_draws : FuncData
  F__law_draws : Fun K "_law_draws" "_law_draws" s__law_draws a__law_draws fd__law_draws
  b__law_draws : Binds K fd__law_draws ["script"] []
  g__law_draws : mg "_law_draws" = some (.ref a__law_draws)
  a__law_take : Addr
  fd__law_take : FuncData
  F__law_take : Fun K "_law_take" "_law_take" s__law_take a__law_take fd__law_take
  b__law_take : Binds K fd__law_take ["draws", "bound"] []
  g__law_take : mg "_law_take" = some (.ref a__law_take)
  a__law_same : Addr
  fd__law_same : FuncData
  F__law_same : Fun K "_law_same" "_law_same" s__law_same a__law_same fd__law_same
  b__law_same : Binds K fd__law_same ["actual", "due"] []
  g__law_same : mg "_law_same" = some (.ref a__law_same)
  a__law_name : Addr
  fd__law_name : FuncData
  F__law_name : Fun K "_law_name" "_law_name" s__law_name a__law_name fd__law_name
  b__law_name : Binds K fd__law_name ["draws"] []
  g__law_name : mg "_law_name" = some (.ref a__law_name)
  a__law_number : Addr
  fd__law_number : FuncData
  F__law_number : Fun K "_law_number" "_law_number" s__law_number a__law_number fd__law_number
  b__law_number : Binds K fd__law_number ["draws"] []
  g__law_number : mg "_law_number" = some (.ref a__law_number)
  a__law_condition : Addr
  fd__law_condition : FuncData
  F__law_condition : Fun K "_law_condition" "_law_condition" s__law_condition a__law_condition fd__law_condition
  b__law_condition : Binds K fd__law_condition ["draws", "depth"] []
  g__law_condition : mg "_law_condition" = some (.ref a__law_condition)
  a__law_part : Addr
  fd__law_part : FuncData
  F__law_part : Fun K "_law_part" "_law_part" s__law_part a__law_part fd__law_part
  b__law_part : Binds K fd__law_part ["condition", "words"] []
  g__law_part : mg "_law_part" = some (.ref a__law_part)
  a__law_written : Addr
  fd__law_written : FuncData
  F__law_written : Fun K "_law_written" "_law_written" s__law_written a__law_written fd__law_written
  b__law_written : Binds K fd__law_written ["condition"] []
  g__law_written : mg "_law_written" = some (.ref a__law_written)
  a__law_error : Addr
  fd__law_error : FuncData
  F__law_error : Fun K "_law_error" "_law_error" s__law_error a__law_error fd__law_error
  b__law_error : Binds K fd__law_error ["text"] []
  g__law_error : mg "_law_error" = some (.ref a__law_error)
  a__law_parts : Addr
  fd__law_parts : FuncData
  F__law_parts : Fun K "_law_parts" "_law_parts" s__law_parts a__law_parts fd__law_parts
  b__law_parts : Binds K fd__law_parts [] []
  g__law_parts : mg "_law_parts" = some (.ref a__law_parts)
  a_law : Addr
  fd_law : FuncData
  F_law : Fun K "law" "law" s_law a_law fd_law
  b_law : Binds K fd_law ["script"] []
  g_law : mg "law" = some (.ref a_law)
  C_ConditionReader : Addr
  cl_ConditionReader : Cls K C_ConditionReader
  mg_ConditionReader : mg "ConditionReader" = some (.ref C_ConditionReader)
  mk_ConditionReader : Mk K C_ConditionReader a_ConditionReader_init
  na_ConditionReader__tokens : NoAttr K C_ConditionReader "_tokens"
  na_ConditionReader__behind : NoAttr K C_ConditionReader "_behind"
  na_ConditionReader__at : NoAttr K C_ConditionReader "_at"
  na_ConditionReader__depth : NoAttr K C_ConditionReader "_depth"
  me_ConditionReader_whole : Meth K C_ConditionReader "whole" a_ConditionReader_whole
  me_ConditionReader__here : Meth K C_ConditionReader "_here" a_ConditionReader__here
  me_ConditionReader__refuse : Meth K C_ConditionReader "_refuse" a_ConditionReader__refuse
  me_ConditionReader__take : Meth K C_ConditionReader "_take" a_ConditionReader__take
  me_ConditionReader__go_in : Meth K C_ConditionReader "_go_in" a_ConditionReader__go_in
  me_ConditionReader__either : Meth K C_ConditionReader "_either" a_ConditionReader__either
  me_ConditionReader__both : Meth K C_ConditionReader "_both" a_ConditionReader__both
  me_ConditionReader__turned : Meth K C_ConditionReader "_turned" a_ConditionReader__turned
  me_ConditionReader__atom : Meth K C_ConditionReader "_atom" a_ConditionReader__atom
  me_ConditionReader__bracket : Meth K C_ConditionReader "_bracket" a_ConditionReader__bracket
  me_ConditionReader__number : Meth K C_ConditionReader "_number" a_ConditionReader__number
  C_SamphireError : Addr
  mg_SamphireError : mg "SamphireError" = some (.ref C_SamphireError)
  C_TextError : Addr
  a_TextError_init : Addr
  c_TextError : Addr
  cc_TextError : Addr
  x_TextError : Sup.ExcT P K mg "TextError" C_TextError a_TextError_init c_TextError cc_TextError
  doc_TextError : Value
  pm_TextError : Value
  ctv_TextError : Value
  oc_TextError : Value
  od_TextError : Option Addr
  osl_TextError : Array (Option Value)
  lk_TextError : K.lookup a_TextError_init = some ⟨oc_TextError, od_TextError, .func ((NF_TextError cc_TextError c_TextError).fd doc_TextError pm_TextError ctv_TextError), osl_TextError⟩
  hc_TextError : PySem.W.codeIn K (.ref c_TextError) "TextError.__init__" = true
  bx_TextError : Binds K ((NF_TextError cc_TextError c_TextError).fd doc_TextError pm_TextError ctv_TextError) ["self", "line", "column", "reason"] []
  nf_TextError_line : PySem.W.findIn K (.ref C_TextError) "line" = some none
  nf_TextError_column : PySem.W.findIn K (.ref C_TextError) "column" = some none
  nf_TextError_reason : PySem.W.findIn K (.ref C_TextError) "reason" = some none
  C_TooLarge : Addr
  a_TooLarge_init : Addr
  c_TooLarge : Addr
  cc_TooLarge : Addr
  x_TooLarge : Sup.ExcT P K mg "TooLarge" C_TooLarge a_TooLarge_init c_TooLarge cc_TooLarge
  doc_TooLarge : Value
  pm_TooLarge : Value
  ctv_TooLarge : Value
  oc_TooLarge : Value
  od_TooLarge : Option Addr
  osl_TooLarge : Array (Option Value)
  lk_TooLarge : K.lookup a_TooLarge_init = some ⟨oc_TooLarge, od_TooLarge, .func ((NF_TooLarge cc_TooLarge c_TooLarge).fd doc_TooLarge pm_TooLarge ctv_TooLarge), osl_TooLarge⟩
  hc_TooLarge : PySem.W.codeIn K (.ref c_TooLarge) "TooLarge.__init__" = true
  bx_TooLarge : Binds K ((NF_TooLarge cc_TooLarge c_TooLarge).fd doc_TooLarge pm_TooLarge ctv_TooLarge) ["self", "limit"] []
  nf_TooLarge_limit : PySem.W.findIn K (.ref C_TooLarge) "limit" = some none
  exm_TooLarge_TextError : PySem.W.exmOne K (.ref C_TooLarge) (.ref C_TextError) = some false
  z_abs : mg "abs" = none
  z_bool : mg "bool" = none
  z_int : mg "int" = none
  z_isinstance : mg "isinstance" = none
  z_len : mg "len" = none
  z_list : mg "list" = none
  z_max : mg "max" = none
  z_range : mg "range" = none
  z_reversed : mg "reversed" = none
  z_str : mg "str" = none
  z_super : mg "super" = none
  z_tuple : mg "tuple" = none
  v_DIGITS : Value
  g_DIGITS : mg "DIGITS" = some v_DIGITS
  r_DIGITS : RelV (.str "0123456789") v_DIGITS
  v_WORD_SIGNS : Value
  g_WORD_SIGNS : mg "WORD_SIGNS" = some v_WORD_SIGNS
  r_WORD_SIGNS : RelV (.str "abcdefghijklmnopqrstuvwxyz0123456789") v_WORD_SIGNS
  v_MOST_IN_NAME : Value
  g_MOST_IN_NAME : mg "MOST_IN_NAME" = some v_MOST_IN_NAME
  r_MOST_IN_NAME : RelV (.int (12)) v_MOST_IN_NAME
  v_MOST_OPEN : Value
  g_MOST_OPEN : mg "MOST_OPEN" = some v_MOST_OPEN
  r_MOST_OPEN : RelV (.int (20)) v_MOST_OPEN
  v_MOST_NUMBER : Value
  g_MOST_NUMBER : mg "MOST_NUMBER" = some v_MOST_NUMBER
  r_MOST_NUMBER : RelV (.int (1000000)) v_MOST_NUMBER
  v_MOST_CHARACTERS : Value
  g_MOST_CHARACTERS : mg "MOST_CHARACTERS" = some v_MOST_CHARACTERS
  r_MOST_CHARACTERS : RelV (.int (2000)) v_MOST_CHARACTERS
  k_COMPARING : Addr
  g_COMPARING : mg "COMPARING" = some (.ref k_COMPARING)
  q_COMPARING : ∀ H, SqT K H k_COMPARING [.str "<", .str "<=", .str "=", .str ">=", .str ">"]
  k_ATOM_WORDS : Addr
  g_ATOM_WORDS : mg "ATOM_WORDS" = some (.ref k_ATOM_WORDS)
  q_ATOM_WORDS : ∀ H, SqT K H k_ATOM_WORDS [.str "all", .str "weight", .str "amount", .str "group", .str "key"]
/-! ### the walk by single steps -/
local macro_rules | `(tactic| walk_at "z1") => `(tactic| first
  | with_reducible refine Z.seq ?_
  | with_reducible refine Z.asg ?_
  | ((with_reducible refine' Z.gname ?zv ?_); (case zv => first | (dsimp only [List.set]; done) | (dsimp only [List.set]; exact rfl)))
  | ((with_reducible refine' Z.var ?zv ?_); (case zv => exact rfl))
  | with_reducible refine Z.cst ?_
  | with_reducible refine Z.op ?_
  | with_reducible refine Z.un ?_
  | with_reducible refine Z.i0 ?_
  | with_reducible refine Z.iU ?_
  | with_reducible refine Z.eqII ?_
  | with_reducible refine Z.neII ?_
  | with_reducible refine Z.eqSS ?_
  | with_reducible refine Z.neSS ?_
  | with_reducible refine Z.eqBB ?_
  | with_reducible refine Z.neBB ?_
  | with_reducible refine Z.bl' ?_
  | with_reducible refine Z.test ?_
  | with_reducible refine Z.tbb ?_
  | with_reducible refine Z.tand ?_
  | with_reducible refine Z.tor ?_
  | with_reducible refine Z.tnot ?_
  | with_reducible refine Z.tyes ?_
  | with_reducible refine Z.andV ?_
  | with_reducible refine Z.orV ?_
  | with_reducible refine Z.notV ?_
  | with_reducible refine Z.ifE ?_
  | with_reducible refine Z.chain ?_
  | with_reducible refine Z.yesB ?_
  | with_reducible refine Z.noB ?_
  | with_reducible refine Z.noNB ?_
  | with_reducible refine Z.yesNB ?_
  | with_reducible refine Z.nil ?_
  | with_reducible refine Z.cons ?_
  | with_reducible refine Z.cb ?_
  | with_reducible refine Z.call ?_
  | with_reducible refine Z.meth ?_
  | with_reducible refine Z.fld ?_
  | with_reducible refine Z.int1 ?_
  | with_reducible refine Z.intb ?_
  | with_reducible refine Z.abs1 ?_
  | with_reducible refine Z.gcons ?_
  | with_reducible refine Z.gnil ?_
  | with_reducible refine Z.gcd ?_
  | ((with_reducible refine' Z.par2 ?zv ?_); (case zv => first | (dsimp only [List.set]; done) | (dsimp only [List.set]; exact rfl)))
  | with_reducible refine Z.isN ?_
  | with_reducible refine Z.notN ?_
  | with_reducible refine Z.inSg ?_
  | with_reducible refine Z.ninSg ?_
  | with_reducible refine Z.tup ?_
  | with_reducible refine Z.lst ?_
  | with_reducible refine Z.gsub ?_
  | with_reducible refine Z.par ?_
  | ((with_reducible refine' Z.aug ?zv ?_); (case zv => exact rfl))
  | with_reducible refine Z.ipI' ?_
  | with_reducible refine Z.ifs ?_
  | with_reducible refine Z.ret ?_
  | with_reducible refine Z.retN ?_
  | with_reducible refine Z.next ?_
  | with_reducible refine Z.brk ?_
  | with_reducible refine Z.drop ?_
  | with_reducible refine Z.bm ?_
  | with_reducible refine Z.bm0 ?_
  | with_reducible refine Z.sfld ?_
  | with_reducible refine Z.sfldaug ?_
  | with_reducible refine Z.radd ?_
  | with_reducible refine Z.make ?_
  | with_reducible refine Z.lc ?_
  | with_reducible refine Z.rng1 ?_
  | with_reducible refine Z.ilist ?_
  | with_reducible refine Z.itup ?_
  | with_reducible refine Z.for_ ?_
  | with_reducible refine Z.istr ?_
  | with_reducible refine Z.ienum ?_
  | with_reducible refine Z.izip ?_
  | with_reducible refine Z.irng2 ?_
  | with_reducible refine Z.augs ?_
  | with_reducible refine Z.ienumS ?_
  | with_reducible refine Z.din ?_
  | with_reducible refine Z.dput ?_
  | with_reducible refine Z.dget ?_
  | with_reducible refine Z.dget2 ?_
  | with_reducible refine Z.sl ?_
  | with_reducible refine Z.slno ?_
  | with_reducible refine Z.slpart ?_
  | with_reducible refine Z.bint ?_
  | with_reducible refine Z.listrev ?_
  | with_reducible refine Z.revl ?_
  | dsimp only)
local macro_rules | `(tactic| walk_at "z0") => `(tactic| ((try simp only [Z.cxK]); (try dsimp only [L2.start, List.map, List.length, Nat.reduceAdd, Nat.reduceSub, List.replicate, List.cons_append, List.nil_append])))
local macro_rules | `(tactic| walk_at "z") => `(tactic| (repeat (walk_at "z1")))

/-! ### signs of texts -/
def signs : Str := "abcdefghijklmnopqrstuvwxyz0123456789"
def allIn (s z : Str) : Bool := s.cps.toList.all fun c => decide (c ∈ z.cps.toList)
def fineB (s : Str) : Bool := decide (1 ≤ s.cps.size) && (decide (s.cps.size ≤ 12) && allIn s signs)
theorem app_len (a b : Str) : (a ++ b).length = a.length + b.length := by
  show (a.cps ++ b.cps).size = _
  rw [Array.size_append]; rfl

/-! ### made_of, is_name -/
def spMade : Sp := fun vs H Q _ => ∃ s z : Str, vs = [.str s, .str z] ∧ Q (.bl (allIn s z)) H
theorem allIn_no {s z : Str} {i c : Nat} (h : s.cps[i]? = some c) (hc : c ∉ z.cps.toList) : allIn s z = false := by
  cases e : allIn s z with
  | false => rfl
  | true =>
    have h1 := List.all_eq_true.mp e c (by
      rw [← Array.getElem?_toList] at h
      exact List.mem_of_getElem? h)
    exact absurd (of_decide_eq_true h1) hc
theorem allIn_yes {s z : Str} (h : ∀ (i c : Nat), i < s.cps.size → s.cps[i]? = some c → c ∈ z.cps.toList) : allIn s z = true := by
  refine List.all_eq_true.mpr fun c hc => decide_eq_true ?_
  obtain ⟨i, hi⟩ := List.getElem?_of_mem hc
  rw [Array.getElem?_toList] at hi
  exact h i c (Array.getElem?_eq_some_iff.mp hi).1 hi
theorem ok_made_of {P : Program} {w : World} {K : PySem.W.Frag} {mg : Str → Option Value} {base : Heap} (T : T P K mg) : FnOk P w K mg base CX0 1 T.a_made_of T.fd_made_of ["text", "signs"] spMade := by
  refine T.F_made_of.ok sc_made_of (fun vs H Q E h => ?_) (fun cdv A outer s H vs Q E hr h => ?_)
  · obtain ⟨s, z, rfl, _⟩ := h
    rfl
  · obtain ⟨s, z, rfl, q⟩ := h
    refine ⟨_, (pss_cons (ps_for PassesOwn.never rfl (pi_str (pv 0)) (pg_name (i := 2) sc_made_of.nd rfl (by first | exact Or.inl rfl | exact Or.inr rfl)) (pss_one (ps_if (pt_cmpR o_ninSg (pv 2) (pv 1) rfl) (pss_one (ps_ret pe_bl)) pss_nil)))
      (pss_one (ps_ret pe_bl))), ?_⟩
    walk_at "z0"
    walk_at "z"
    refine Z.fors (fun i σ' H' => ∃ y, σ' = [some (.str s), some (.str z), y] ∧ H' = H ∧ ∀ (j c : Nat), j < i → s.cps[j]? = some c → c ∈ z.cps.toList) ⟨_, rfl, rfl, fun _ _ h => by omega⟩ ?_ ?_
    · rintro i c σ' H' hc ⟨y, rfl, rfl, hi⟩
      walk_at "z"
      refine Z.iteN (fun h1 => ?_) (fun h1 => ?_)
      · walk_at "z"
        rw [allIn_no hc h1] at q
        exact q
      · walk_at "z"
        refine ⟨_, rfl, rfl, fun j d hj hd => ?_⟩
        by_cases e : j = i
        · subst e
          rw [hc] at hd
          cases hd
          exact h1
        · exact hi j d (by omega) hd
    · rintro σ' H' ⟨y, rfl, rfl, hi⟩
      walk_at "z"
      rw [allIn_yes hi] at q
      exact q
def spIsName : Sp := fun vs H Q _ => ∃ s : Str, vs = [.str s] ∧ s.cps.size ≤ 100000 ∧ Q (.bl (fineB s)) H
theorem ok_is_name {P : Program} {w : World} {K : PySem.W.Frag} {mg : Str → Option Value} {base : Heap} (T : T P K mg) : FnOk P w K mg base CX0 2 T.a_is_name T.fd_is_name ["text"] spIsName := by
  refine T.F_is_name.ok sc_is_name (fun vs H Q E h => ?_) (fun cdv A outer s H vs Q E hr h => ?_)
  · obtain ⟨s, rfl, _⟩ := h
    rfl
  · obtain ⟨s, rfl, hz, q⟩ := h
    refine ⟨_, (pss_one (ps_ret (pe_and (pe_chain op_le op_le pe_int (pe_callB c_lens (by rfl) T.z_len (by decide +kernel) (pa_cons (pv 0) pa_nil)) (pe_glob (by rfl) T.g_MOST_IN_NAME T.r_MOST_IN_NAME)) (pe_one (pe_call (ok_made_of T) (hr.mono (by decide)) (by rfl) T.g_made_of T.F_made_of.kp T.b_made_of .nil pass0 (pa_cons (pv 0) (pa_cons (pe_glob (by rfl) T.g_WORD_SIGNS T.r_WORD_SIGNS) pa_nil))))))), ?_⟩
    unfold fineB at q
    walk_at "z0"
    walk_at "z"
    refine Z.lenS (by omega) ?_
    walk_at "z"
    refine Z.ite (fun h1 => ?_) (fun h1 => ?_)
    · rw [decide_eq_true (by omega : 1 ≤ s.cps.size)] at q
      walk_at "z"
      refine Z.ite (fun h2 => ?_) (fun h2 => ?_)
      · rw [decide_eq_true (by omega : s.cps.size ≤ 12)] at q
        walk_at "z"
        exact ⟨s, _, rfl, q⟩
      · rw [decide_eq_false (by omega : ¬ s.cps.size ≤ 12)] at q
        walk_at "z"
        exact q
    · rw [decide_eq_false (by omega : ¬ 1 ≤ s.cps.size)] at q
      walk_at "z"
      exact q

/-! ### writes_integer, integer_within -/
def digits10 : Str := "0123456789"
def bodyOf (w : Str) : Str := if Txt.startswith w "-" then cutS w (some 1) none else w
def firstIs0 (s : Str) : Bool := decide ((⟨#[s.cps.toList.headD 0]⟩ : Str) = "0")
def intW (w : Str) : Bool := if w = "0" then true else !decide (bodyOf w = "") && (!firstIs0 (bodyOf w) && allIn (bodyOf w) digits10)
theorem dig_iff (c : Nat) : c ∈ digits10.cps.toList ↔ 48 ≤ c ∧ c ≤ 57 := by
  have e : digits10.cps.toList = [48, 49, 50, 51, 52, 53, 54, 55, 56, 57] := by decide +kernel
  rw [e]
  simp only [List.mem_cons, List.not_mem_nil, or_false]
  omega
theorem cps_nil {s : Str} (h : s.cps.toList = []) : s = "" := by
  have e : s.cps = #[] := by
    apply Array.toList_inj.mp
    rw [h]
  cases s
  cases e
  decide +kernel
theorem starts_minus (w : Str) : Txt.startswith w "-" = true ↔ ∃ cs, w.cps.toList = 45 :: cs := by
  rw [show ("-" : Str) = ⟨#[45]⟩ by decide +kernel]
  unfold Txt.startswith
  rw [Bool.and_eq_true, decide_eq_true_eq]
  refine (PySem.StrLaws.subAt_one w 45 0).trans ?_
  cases w.cps.toList with
  | nil => simp
  | cons c r => simp
theorem body_minus {w : Str} {cs : List Nat} (h : w.cps.toList = 45 :: cs) : (bodyOf w).cps.toList = cs := by
  have h1 := (starts_minus w).mpr ⟨cs, h⟩
  unfold bodyOf
  rw [if_pos h1]
  unfold cutS
  have hl : w.length = cs.length + 1 := by
    show w.cps.size = _
    rw [← Array.length_toList, h, List.length_cons]
  have e1 : HT.sIx w.length 0 (some 1) = 1 := by
    have := HT.sIx_nat w.length 0 1
    rw [show (some (1 : Int)) = some ((1 : Nat) : Int) from rfl, this]
    omega
  rw [e1, HT.sIx_none, h]
  show ((45 :: cs).drop 1).take (w.length - 1) = cs
  rw [List.drop_one, List.tail_cons]
  exact List.take_of_length_le (by omega)
theorem body_plain {w : Str} (h : ¬ ∃ cs, w.cps.toList = 45 :: cs) : bodyOf w = w := by
  unfold bodyOf
  rw [if_neg (fun z => h ((starts_minus w).mp z))]
theorem intW_reads {w : Str} (h : intW w = true) (hl : w.length ≤ 640) : ∃ n, intText? w = some n := by
  unfold intW at h
  by_cases h0 : w = "0"
  · rw [h0]
    exact ⟨0, by decide +kernel⟩
  · rw [if_neg h0, Bool.and_eq_true, Bool.and_eq_true] at h
    obtain ⟨h1, _, h3⟩ := h
    have hd : NumText.AllDigits (bodyOf w).cps.toList := fun c hc => (dig_iff c).mp (of_decide_eq_true (List.all_eq_true.mp h3 c hc))
    have hn : (bodyOf w).cps.toList ≠ [] := fun z => by
      rw [cps_nil z] at h1
      exact absurd h1 (by decide +kernel)
    by_cases hm : ∃ cs, w.cps.toList = 45 :: cs
    · obtain ⟨cs, hcs⟩ := hm
      rw [body_minus hcs] at hd hn
      exact ⟨_, intText_neg hcs hd hn (by omega)⟩
    · rw [body_plain hm] at hd hn
      exact ⟨_, intText_digits hd hn (by omega)⟩
theorem tyStr {K : PySem.W.Frag} {H : Hp} {w : Str} : tyV K "str" (.str w) H := by
  first | exact .inr (.inl ⟨rfl, w, rfl⟩) | trivial | simp [tyV]
def spWrites : Sp := fun vs H Q _ => ∃ w : Str, vs = [.str w] ∧ w.length ≤ 10000000 ∧ Q (.bl (intW w)) H
theorem first_at {s : Str} (h : ¬ s = "") : atI s.cps.toList 0 = some (s.cps.toList.headD 0) := by
  have := cps_nil (s := s)
  cases e : s.cps.toList with
  | nil => exact absurd (this e) h
  | cons c r => exact atI_nat (j := 0) rfl
theorem bodyOf_len (w : Str) : (bodyOf w).length ≤ w.length := by
  unfold bodyOf
  split
  · exact cutS_length _ _ _
  · exact Nat.le_refl _
theorem ok_writes_integer {P : Program} {w : World} {K : PySem.W.Frag} {mg : Str → Option Value} {base : Heap} (T : T P K mg) : FnOk P w K mg base CX0 2 T.a_writes_integer T.fd_writes_integer ["word"] spWrites := by
  refine T.F_writes_integer.ok sc_writes_integer (fun vs H Q E h => ?_) (fun cdv A outer s H vs Q E hr h => ?_)
  · obtain ⟨w, rfl, _⟩ := h
    rfl
  · obtain ⟨w, rfl, hz, q⟩ := h
    refine ⟨_, (pss_cons (ps_if (pt_cmpR op_eq (pv 0) pe_str (nomark _)) (pss_one (ps_ret pe_bl)) pss_nil)
      (pss_cons (ps_set (i := 1) sc_writes_integer.nd rfl (by first | exact Or.inl rfl | exact Or.inr rfl) (pv 0))
      (Z.pss_consJ (ps_if (pt_val (pe_bm PySem.F.plainAttrs_str PySem.F.slot_str_startswith PySem.F.type_str_startswith mt_startswith (pv 0) (pa_cons pe_str pa_nil))) (pss_one (ps_set (i := 1) sc_writes_integer.nd rfl (by first | exact Or.inl rfl | exact Or.inr rfl) (pe_slice sl_str (pv 0) (po_some pe_int) po_none))) pss_nil)
      (pss_one (ps_ret (pe_and (pe_cmpR op_ne (pv 1) pe_str (nomark _)) (pe_and (pe_cmpR op_ne (pe_ix ix_str (pv 1) pe_int (fun _ _ => rfl)) pe_str (nomark _)) (pe_one (pe_call (ok_made_of T) (hr.mono (by decide)) (by rfl) T.g_made_of T.F_made_of.kp T.b_made_of .nil pass0 (pa_cons (pv 1) (pa_cons (pe_glob (by rfl) T.g_DIGITS T.r_DIGITS) pa_nil))))))))))), ?_⟩
    unfold intW at q
    walk_at "z0"
    walk_at "z"
    have hsz : ∀ n, n ≤ 10000000 → n ≤ sizeLine := fun n h => Nat.le_trans h (by decide)
    refine Z.ite (fun h1 => ?_) (fun h1 => ?_)
    · rw [if_pos h1] at q
      walk_at "z"
      exact q
    · rw [if_neg h1] at q
      walk_at "z"
      refine Z.seqJ (fun σ' H' => σ' = [some (.str w), some (.str (bodyOf w))] ∧ H' = H) ?_ ?_
      · rintro σ' H' ⟨rfl, rfl⟩
        have hb := bodyOf_len w
        walk_at "z"
        refine Z.iteN (fun h2 => ?_) (fun h2 => ?_)
        · rw [decide_eq_false h2] at q
          walk_at "z"
          refine ⟨_, 0, _, rfl, rfl, hsz _ (by omega), first_at h2, ?_⟩
          walk_at "z"
          cases hf : firstIs0 (bodyOf w) with
          | true =>
            rw [hf] at q
            unfold firstIs0 at hf
            rw [hf]
            walk_at "z"
            exact q
          | false =>
            rw [hf] at q
            unfold firstIs0 at hf
            rw [hf]
            walk_at "z"
            exact ⟨_, _, rfl, q⟩
        · rw [decide_eq_true h2] at q
          walk_at "z"
          exact q
      · intro N jn
        walk_at "z"
        refine ⟨tyStr, ?_⟩
        walk_at "z"
        refine ⟨w, "-", rfl, rfl, ?_⟩
        walk_at "z"
        cases hm : Txt.startswith w "-" with
        | true =>
          walk_at "z"
          refine ⟨w, rfl, hsz _ hz, ?_⟩
          walk_at "z"
          exact jn _ _ ⟨by unfold bodyOf; rw [if_pos hm], rfl⟩
        | false =>
          walk_at "z"
          exact jn _ _ ⟨by unfold bodyOf; rw [if_neg (by rw [hm]; decide)], rfl⟩
def tlen (i : Int) : Nat := (Str.ofString (toString i)).cps.size
def capOf (lo hi : Int) : Int := if (tlen hi : Int) > (tlen lo : Int) then (tlen hi : Int) else (tlen lo : Int)
def withinO (w : Str) (lo hi : Int) : Option Int :=
  if (w.cps.size : Int) > capOf lo hi then none else if intW w = true then match intText? w with
    | some n => if lo ≤ n ∧ n ≤ hi then some n else none
    | none => none
  else none
def optI : Option Int → V
  | none => .non
  | some n => .int n
theorem optI_non (o : Option Int) : decide (optI o = .non) = o.isNone := by cases o <;> simp [optI]
def spWithin : Sp := fun vs H Q _ => ∃ (w : Str) (lo hi : Int), vs = [.str w, .int lo, .int hi] ∧ w.cps.size ≤ 10000000 ∧ lo.natAbs < 2 ^ 30 ∧ hi.natAbs < 2 ^ 30 ∧ tlen lo ≤ 600 ∧ tlen hi ≤ 600 ∧ Q (optI (withinO w lo hi)) H
theorem ok_integer_within {P : Program} {w : World} {K : PySem.W.Frag} {mg : Str → Option Value} {base : Heap} (T : T P K mg) : FnOk P w K mg base CX0 3 T.a_integer_within T.fd_integer_within ["word", "low", "high"] spWithin := by
  refine T.F_integer_within.ok sc_integer_within (fun vs H Q E h => ?_) (fun cdv A outer s H vs Q E hr h => ?_)
  · obtain ⟨w, lo, hi, rfl, _⟩ := h
    rfl
  · obtain ⟨w, lo, hi, rfl, hz, hlo, hhi, tlo, thi, q⟩ := h
    refine ⟨_, (pss_cons (ps_if (PW.pt (pw_or (pt_cmpR op_gt (pe_callB c_lens (by rfl) T.z_len (by decide +kernel) (pa_cons (pv 0) pa_nil)) (pe_callB (call_max2 rfl) (by rfl) T.z_max (by decide +kernel) (pa_cons (pe_callB c_lens (by rfl) T.z_len (by decide +kernel) (pa_cons (pe_callTy call_str_int (by rfl) T.z_str (by decide +kernel) (pa_cons (pv 1) pa_nil)) pa_nil)) (pa_cons (pe_callB c_lens (by rfl) T.z_len (by decide +kernel) (pa_cons (pe_callTy call_str_int (by rfl) T.z_str (by decide +kernel) (pa_cons (pv 2) pa_nil)) pa_nil)) pa_nil))) (nomark _)) (pw_or1 (pt_not (pt_val (pe_call (ok_writes_integer T) (hr.mono (by decide)) (by rfl) T.g_writes_integer T.F_writes_integer.kp T.b_writes_integer .nil pass0 (pa_cons (pv 0) pa_nil))))))) (pss_one (ps_ret pe_non)) pss_nil)
      (pss_cons (ps_set (i := 3) sc_integer_within.nd rfl (by first | exact Or.inl rfl | exact Or.inr rfl) (pe_callTy call_int_str (by rfl) T.z_int (by decide +kernel) (pa_cons (pv 0) pa_nil)))
      (Z.pss_consJ (ps_if (pt_chain op_le op_le (pv 1) (pv 3) (pv 2)) (pss_one (ps_ret (pv 3))) pss_nil)
      (pss_one (ps_ret pe_non))))), ?_⟩
    have llo : lo.natAbs.log2 < 1920 := Nat.lt_of_lt_of_le (PySem.Flt.log2_lt_of (k := 30) (by decide) hlo) (by decide)
    have lhi : hi.natAbs.log2 < 1920 := Nat.lt_of_lt_of_le (PySem.Flt.log2_lt_of (k := 30) (by decide) hhi) (by decide)
    unfold withinO at q
    walk_at "z0"
    walk_at "z"
    refine Z.lenS hz ?_
    walk_at "z"
    refine ⟨lo, rfl, llo, ?_⟩
    walk_at "z"
    refine Z.lenS (Nat.le_trans tlo (by decide)) ?_
    walk_at "z"
    refine ⟨hi, rfl, lhi, ?_⟩
    walk_at "z"
    refine Z.lenS (Nat.le_trans thi (by decide)) ?_
    walk_at "z"
    refine ⟨_, _, rfl, ?_⟩
    walk_at "z"
    have hcap : capOf lo hi ≤ 600 := by
      unfold capOf
      split <;> omega
    refine Z.ite (fun h1 => ?_) (fun h1 => ?_)
    · rw [if_pos (show (w.cps.size : Int) > capOf lo hi from h1)] at q
      walk_at "z"
      exact q
    · have h1' : ¬ (w.cps.size : Int) > capOf lo hi := h1
      rw [if_neg h1'] at q
      walk_at "z"
      refine ⟨w, rfl, hz, ?_⟩
      walk_at "z"
      cases hw : intW w with
      | false =>
        rw [hw, if_neg Bool.false_ne_true] at q
        walk_at "z"
        exact q
      | true =>
        rw [hw, if_pos rfl] at q
        have hl : w.length ≤ 640 := by
          show w.cps.size ≤ 640
          omega
        obtain ⟨n, hn⟩ := intW_reads hw hl
        rw [hn] at q
        dsimp only at q
        walk_at "z"
        refine ⟨w, n, rfl, hn, hl, ?_⟩
        walk_at "z"
        refine Z.seqJ (fun σ' H' => H' = H ∧ ¬ (lo ≤ n ∧ n ≤ hi)) ?_ ?_
        · rintro σ' H' ⟨rfl, hno⟩
          rw [if_neg hno] at q
          walk_at "z"
          exact q
        · intro N jn
          walk_at "z"
          refine Z.ite (fun h3 => ?_) (fun h3 => ?_)
          · walk_at "z"
            refine Z.ite (fun h4 => ?_) (fun h4 => ?_)
            · rw [if_pos ⟨h3, h4⟩] at q
              walk_at "z"
              exact q
            · walk_at "z"
              exact jn _ _ ⟨rfl, fun z => h4 z.2⟩
          · walk_at "z"
            exact jn _ _ ⟨rfl, fun z => h3 z.1⟩

/-! ### sums of lists of ints -/
theorem sum_nonneg : ∀ {l : List Int}, (∀ n ∈ l, 0 ≤ n) → 0 ≤ l.sum
  | [], _ => by simp
  | a :: r, h => by
    have h1 := h a (by simp)
    have h2 := sum_nonneg (l := r) fun n hn => h n (by simp [hn])
    rw [List.sum_cons]
    omega
theorem sum_le {c : Int} : ∀ {l : List Int}, (∀ n ∈ l, n ≤ c) → l.sum ≤ c * l.length
  | [], _ => by simp
  | a :: r, h => by
    have h1 := h a (by simp)
    have h2 := sum_le (c := c) (l := r) fun n hn => h n (by simp [hn])
    rw [List.sum_cons, List.length_cons, show c * ((r.length + 1 : Nat) : Int) = c * r.length + c by rw [Int.natCast_add, Int.mul_add]; simp]
    omega
theorem sum_ge_mem : ∀ {l : List Int}, (∀ n ∈ l, 0 ≤ n) → ∀ x ∈ l, x ≤ l.sum
  | [], _, x, hx => by simp at hx
  | a :: r, h, x, hx => by
    have h1 := h a (by simp)
    have h3 := sum_nonneg (l := r) fun n hn => h n (by simp [hn])
    rw [List.sum_cons]
    rcases List.mem_cons.mp hx with e | e
    · omega
    · have h2 := sum_ge_mem (l := r) (fun n hn => h n (by simp [hn])) x e
      omega
theorem take_nonneg {l : List Int} (h : ∀ n ∈ l, 0 ≤ n) (i : Nat) : 0 ≤ (l.take i).sum := sum_nonneg fun n hn => h n (List.mem_of_mem_take hn)
/-! ### lists of ints as data -/
theorem layInts : ∀ ws : List Int, PyData.canLayAll0 (ws.map PyData.int) = true
  | [] => by simp [PyData.canLayAll0]
  | w :: r => by simp [PyData.canLayAll0, PyData.canLay0, layInts r]
theorem depthInts : ∀ ws : List Int, PyData.depthAll (ws.map PyData.int) = 0
  | [] => by simp [PyData.depthAll]
  | w :: r => by simp [PyData.depthAll, PyData.depth, depthInts r]
theorem shInts (ws : List Int) : SeqAt.shaped (.list (ws.map PyData.int)) = true := by
  simp [SeqAt.shaped, PyData.canLay0, PyData.depth, layInts, depthInts]
theorem dpInts {K : PySem.W.Frag} {H : Hp} : ∀ ws : List Int, DpAll K H (ws.map V.int) (ws.map PyData.int)
  | [] => .nil
  | w :: r => .cons (.int w) (dpInts r)
theorem dpI {K : PySem.W.Frag} {H : Hp} {a : Addr} {ws : List Int} (h : SqL K H a (ws.map V.int)) : Dp K H (.ref a) (.list (ws.map PyData.int)) := .lst h (dpInts ws)
theorem eqvI (ws : List Int) : PyData.eqv (.list (ws.map PyData.int)) (.list (ws.map PyData.int)) = true := SeqAt.eqv_refl _ (by simp [PyData.canLay0, layInts])
theorem neLL {K : PySem.W.Frag} {H : Hp} {Q : VK} {a b : Addr} {ws : List Int} (h1 : SqL K H a (ws.map V.int)) (h2 : SqL K H b (ws.map V.int)) (q : Q (.bl false) H) : rNeD K (.ref a) (.ref b) H Q :=
  ⟨_, _, dpI h1, dpI h2, shInts _, shInts _, by rw [eqvI]; exact q⟩
theorem eqLL {K : PySem.W.Frag} {H : Hp} {Q : VK} {a b : Addr} {ws : List Int} (h1 : SqL K H a (ws.map V.int)) (h2 : SqL K H b (ws.map V.int)) (q : Q (.bl true) H) : rEqD K (.ref a) (.ref b) H Q :=
  ⟨_, _, dpI h1, dpI h2, shInts _, shInts _, by rw [eqvI]; exact q⟩

/-! ### errors of samphire.errors with fields -/
/-- what an own __init__ with fields does: ok says what it is called with, fl which fields it keeps -/
def spErr (C : Addr) (ok : List V → Prop) (fl : List V → List (Str × V)) : Sp := fun vs H Q _ => ∃ (a : Addr) (ws : List V), vs = .ref a :: ws ∧ ok ws ∧ H a = some (exo a C none) ∧
  ∀ d H', H d = none → d ≠ a → H' a = some (exo a C (some d)) → H' d = some (exd d (fl ws)) → (∀ b, b ≠ a → b ≠ d → H' b = H b) → Q .non H'
theorem err_heap {H H' : Hp} {a d : Addr} {o : HO} (ha : H a = none) (h : ∀ b, b ≠ a → b ≠ d → H' b = H b) : upd (del H' a) d o = upd H d o := by
  funext b
  by_cases hd : b = d
  · rw [hd, upd_same, upd_same]
  · rw [upd_ne hd, upd_ne hd]
    by_cases hb : b = a
    · rw [hb, del_same, ha]
    · rw [del_ne hb, h b hb hd]
/-- raise C(..) -/
theorem mkErr {C : Addr} {ok : List V → Prop} {fl : List V → List (Str × V)} {ta : TA} {σ : L2.St} {H : Hp} {Q : XK} (h : ta σ H fun vs H1 => vs.length ≤ 1000 ∧ ok vs ∧ ∀ d, H1 d = none → Q (.ref C) (some d) (upd H1 d (.xd (fl vs)))) (mono : ∀ {R S : List V → Hp → Prop}, (∀ v u, R v u → S v u) → ta σ H R → ta σ H S) : tMkO C (spErr C ok fl) [] ta σ H Q := by
  refine mono ?_ h
  rintro vs H1 ⟨hz, hok, q⟩
  refine ⟨hz, fun a ha => ⟨a, vs, by rw [List.append_nil], hok, upd_same, fun d H' hd hda h1 h2 h3 => ⟨rfl, d, fl vs, h1, h2, ?_, ?_⟩⟩⟩
  · rwa [upd_ne hda] at hd
  · rw [err_heap ha fun b hb hd => by rw [h3 b hb hd, upd_ne hb]]
    refine q d ?_
    rwa [upd_ne hda] at hd
def okWord (ws : List V) : Prop := ∃ s : Str, ws = [.str s] ∧ s.length ≤ 1000
def flOne (f : Str) : List V → List (Str × V)
  | [v] => [(f, v)]
  | _ => []
theorem ok_TooLarge_init {P : Program} {w : World} {K : PySem.W.Frag} {mg : Str → Option Value} {base : Heap} (T : T P K mg) : FnOk P w K mg base CX0 1 T.a_TooLarge_init ((NF_TooLarge T.cc_TooLarge T.c_TooLarge).fd T.doc_TooLarge T.pm_TooLarge T.ctv_TooLarge) ["self", "limit"] (spErr T.C_TooLarge okWord (flOne "limit")) := by
  refine Sup.fn_super (F := NF_TooLarge T.cc_TooLarge T.c_TooLarge) (p := "self") (ps' := ["limit"]) T.x_TooLarge.S T.lk_TooLarge rfl T.hc_TooLarge sc_TooLarge_init rfl ⟨_, rfl, rfl⟩ rfl rfl (fun _ => rfl) (fun _ => ⟨_, rfl⟩) (fun _ => rfl) (fun vs H Q E h => ?_) (fun A outer s H vs Q E hr h => ?_)
  · obtain ⟨a, ws, rfl, ⟨s, rfl, _⟩, _⟩ := h
    rfl
  · obtain ⟨a, ws, rfl, ⟨s, rfl, hz⟩, ha, q⟩ := h
    refine ⟨a, [.str s], _, _, rfl, ha, pa_cons (pe_joined (.cons pe_str (.cons (pe_fmt (pv 1)) .nil))) pa_nil, pss_one (ps_ost (pv 0) (pv 1)), ?_⟩
    refine ⟨_, rfl, ?_, V.str s, rfl, .inl ⟨s, rfl, Nat.le_trans hz (by decide), s, rfl, ?_, ?_⟩⟩
    · decide +kernel
    · rw [app_len]
      refine Nat.le_trans (Nat.add_le_add (Nat.le_of_eq (show _ = 11 by decide +kernel)) hz) (by decide)
    refine ⟨by show 1 ≤ 1000; decide, ha, V.str s, rfl, V.ref a, rfl, a, T.C_TooLarge, rfl, T.x_TooLarge.S.T, T.nf_TooLarge_limit, .inl ⟨ha, fun d hd hda => ?_⟩⟩
    exact q d _ hd hda upd_same (by rw [upd_ne hda]; exact upd_same) (fun b hb hb2 => by rw [upd_ne hb, upd_ne hb2])
def okText (ws : List V) : Prop := ∃ (l c : Nat) (s : Str), ws = [.int (l : Int), .int (c : Int), .str s] ∧ l < 1000000000 ∧ c < 1000000000 ∧ s.length ≤ 1000
def flText : List V → List (Str × V)
  | [l, c, r] => [("reason", r), ("column", c), ("line", l)]
  | _ => []
theorem num_len {n : Nat} (h : n < 1000000000) : (Str.ofString (toString (n : Int))).length ≤ 9 := by
  have e := TL.tl_num n
  have h1 := TL.numL_len (n := n) (k := 9) (by decide) h
  rw [← e] at h1
  exact h1
theorem num_log {n : Nat} (h : n < 1000000000) : ((n : Nat) : Int).natAbs.log2 < 1920 := by
  rw [Int.natAbs_natCast]
  exact Nat.lt_of_lt_of_le (PySem.Flt.log2_lt_of (k := 30) (by decide) (Nat.lt_of_lt_of_le h (by decide))) (by decide)
theorem ok_TextError_init {P : Program} {w : World} {K : PySem.W.Frag} {mg : Str → Option Value} {base : Heap} (T : T P K mg) : FnOk P w K mg base CX0 1 T.a_TextError_init ((NF_TextError T.cc_TextError T.c_TextError).fd T.doc_TextError T.pm_TextError T.ctv_TextError) ["self", "line", "column", "reason"] (spErr T.C_TextError okText flText) := by
  refine Sup.fn_super (F := NF_TextError T.cc_TextError T.c_TextError) (p := "self") (ps' := ["line", "column", "reason"]) T.x_TextError.S T.lk_TextError rfl T.hc_TextError sc_TextError_init rfl ⟨_, rfl, rfl⟩ rfl rfl (fun _ => rfl) (fun _ => ⟨_, rfl⟩) (fun _ => rfl) (fun vs H Q E h => ?_) (fun A outer s H vs Q E hr h => ?_)
  · obtain ⟨a, ws, rfl, ⟨l, c, s, rfl, _⟩, _⟩ := h
    rfl
  · obtain ⟨a, ws, rfl, ⟨l, c, s, rfl, hl, hc, hz⟩, ha, q⟩ := h
    refine ⟨a, [.int l, .int c, .str s], _, _, rfl, ha, pa_cons (pe_joined (.cons pe_str (.cons (pe_fmt (pv 1)) (.cons pe_str (.cons (pe_fmt (pv 2)) (.cons pe_str (.cons (pe_fmt (pv 3)) .nil))))))) pa_nil, pss_cons (ps_ost (pv 0) (pv 1)) (pss_cons (ps_ost (pv 0) (pv 2)) (pss_one (ps_ost (pv 0) (pv 3)))), ?_⟩
    have nl := num_len hl
    have nc := num_len hc
    have z0 : (Str.empty ++ ("line " : Str)).length = 5 := by decide +kernel
    have z1 : (", column " : Str).length = 9 := by decide +kernel
    have z2 : (": " : Str).length = 2 := by decide +kernel
    have zl : 100000 ≤ sizeLine := by decide
    refine ⟨_, rfl, ?_, V.int l, rfl, .inr ⟨l, rfl, num_log hl, _, rfl, ?_, _, rfl, ?_, V.int c, rfl, .inr ⟨c, rfl, num_log hc, _, rfl, ?_, _, rfl, ?_, V.str s, rfl, .inl ⟨s, rfl, by omega, s, rfl, ?_, ?_⟩⟩⟩⟩
    · decide +kernel
    · rw [app_len, z0]; omega
    · rw [app_len, app_len, z0, z1]; omega
    · rw [app_len, app_len, app_len, z0, z1]; omega
    · rw [app_len, app_len, app_len, app_len, z0, z1, z2]; omega
    · rw [app_len, app_len, app_len, app_len, app_len, z0, z1, z2]; omega
    refine ⟨by show 1 ≤ 1000; decide, ha, V.int l, rfl, V.ref a, rfl, a, T.C_TextError, rfl, T.x_TextError.S.T, T.nf_TextError_line, .inl ⟨ha, fun d hd hda => ?_⟩⟩
    have e1 : (upd (upd H d (exd d [(("line" : Str), V.int l)])) a (exo a T.C_TextError (some d))) a = some (exo a T.C_TextError (some d)) := upd_same
    have e2 : (upd (upd H d (exd d [(("line" : Str), V.int l)])) a (exo a T.C_TextError (some d))) d = some (exd d [(("line" : Str), V.int l)]) := by rw [upd_ne hda]; exact upd_same
    have e3 : ∀ b, b ≠ a → b ≠ d → (upd (upd H d (exd d [(("line" : Str), V.int l)])) a (exo a T.C_TextError (some d))) b = H b := fun b hb hb2 => by rw [upd_ne hb, upd_ne hb2]
    revert e1 e2 e3
    generalize upd (upd H d (exd d [(("line" : Str), V.int l)])) a (exo a T.C_TextError (some d)) = H1
    intro e1 e2 e3
    refine ⟨V.int c, rfl, V.ref a, rfl, a, T.C_TextError, rfl, T.x_TextError.S.T, T.nf_TextError_column, .inr ⟨d, _, e1, e2, by show 1 ≤ 900; decide, ?_⟩⟩
    refine ⟨V.str s, rfl, V.ref a, rfl, a, T.C_TextError, rfl, T.x_TextError.S.T, T.nf_TextError_reason, .inr ⟨d, _, (upd_ne hda.symm).trans e1, upd_same, by show 2 ≤ 900; decide, ?_⟩⟩
    refine q d _ hd hda ?_ ?_ ?_
    · rw [upd_ne hda.symm, upd_ne hda.symm]; exact e1
    · rw [upd_same]; rfl
    · intro b hb hb2
      rw [upd_ne hb2, upd_ne hb2]
      exact e3 b hb hb2

/-! ### words of a text, with their columns -/
theorem cutS_list {z : Str} {a b : Nat} (h : b ≤ z.length) : (cutS z (some (a : Int)) (some (b : Int))).cps.toList = (z.cps.toList.take b).drop a := by
  unfold cutS
  rw [HT.sIx_nat, HT.sIx_nat, Nat.min_eq_left h]
  show (List.take (b - min a z.length) (List.drop (min a z.length) z.cps.toList)) = _
  have hz : z.cps.toList.length = z.length := by rw [Array.length_toList]; rfl
  rcases Nat.le_total a z.length with h1 | h1
  · rw [Nat.min_eq_left h1, List.drop_take]
  · rw [Nat.min_eq_right h1, List.drop_of_length_le (by omega), List.drop_of_length_le (by rw [List.length_take]; omega), List.take_nil]
def isW (c : Nat) : Bool := decide (c ∈ signs.cps.toList)
def opsS : Str := "<=>-()"
def opLen : List Nat → Option Nat
  | [] => none
  | c :: _ => if c ∈ opsS.cps.toList then some 1 else none
/-- how long the first word of a text is -/
def wordLen (s : List Nat) : Option Nat :=
  if 0 < (s.takeWhile isW).length then some (s.takeWhile isW).length
  else if (⟨(s.take 2).toArray⟩ : Str) = "<=" ∨ (⟨(s.take 2).toArray⟩ : Str) = ">=" then some 2
  else opLen s
def optN : Option Nat → V
  | some n => .int (n : Int)
  | none => .non
def spTokEnd (K : PySem.W.Frag) : Sp := fun vs H Q _ => ∃ (z : Str) (a : Nat), vs = [.str z, .int (a : Int)] ∧ a < z.cps.size ∧ z.cps.size ≤ 1000000 ∧ ∀ H', Kp [] H H' → Q (optN ((wordLen (z.cps.toList.drop a)).map (a + ·))) H'
def twoOps : List Str := ["<=", ">="]
theorem takeWhile_at {s : List Nat} {j : Nat} (h1 : ∀ i, i < j → ∃ c, s[i]? = some c ∧ isW c = true) (h2 : ∀ c, s[j]? = some c → isW c = false) (hj : j ≤ s.length) : (s.takeWhile isW).length = j := by
  induction j generalizing s with
  | zero =>
    cases s with
    | nil => rfl
    | cons c r => rw [List.takeWhile_cons_of_neg (by rw [h2 c rfl]; decide)]; rfl
  | succ j ih =>
    cases s with
    | nil => simp at hj
    | cons c r =>
      obtain ⟨d, hd, hw⟩ := h1 0 (by omega)
      cases hd
      rw [List.takeWhile_cons_of_pos hw, List.length_cons]
      rw [ih (s := r) (fun i hi => by
        obtain ⟨e, he, hw⟩ := h1 (i + 1) (by omega)
        exact ⟨e, by simpa using he, hw⟩) (fun e he => h2 e (by simpa using he)) (by simpa using hj)]
theorem ok_token_end {P : Program} {w : World} {K : PySem.W.Frag} {mg : Str → Option Value} {base : Heap} (T : T P K mg) : FnOk P w K mg base CX0 1 T.a_token_end T.fd_token_end ["text", "start"] (spTokEnd K) := by
  refine T.F_token_end.ok sc_token_end (fun vs H Q E h => ?_) (fun cdv A outer s H vs Q E hr h => ?_)
  · obtain ⟨z, a, rfl, _⟩ := h
    rfl
  · obtain ⟨z, a, rfl, ha, hz, q⟩ := h
    refine ⟨_, (pss_cons (ps_set (i := 2) sc_token_end.nd rfl (by first | exact Or.inl rfl | exact Or.inr rfl) (pv 1))
      (pss_cons (ps_while PassesOwn.never (PW.pt (pw_and (pt_cmpR op_lt (pv 2) (pe_callB c_lens (by rfl) T.z_len (by decide +kernel) (pa_cons (pv 0) pa_nil)) (nomark _)) (pw_and1 (pt_cmpR o_inSg (pe_ix ix_str (pv 0) (pv 2) (fun _ _ => rfl)) (pe_glob (by rfl) T.g_WORD_SIGNS T.r_WORD_SIGNS) rfl)))) (pss_one (ps_aug (i := 2) sc_token_end.nd rfl (by first | exact Or.inl rfl | exact Or.inr rfl) pe_int ip_add)))
      (pss_cons (ps_if (pt_cmpR op_gt (pv 2) (pv 1) (nomark _)) (pss_one (ps_ret (pv 2))) pss_nil)
      (pss_cons (ps_if (pt_cmpR op_in_seq (pe_slice sl_str (pv 0) (po_some (pv 1)) (po_some (pe_op op_add (pv 1) pe_int))) (pe_tup (pa_cons pe_str (pa_cons pe_str pa_nil))) rfl) (pss_one (ps_ret (pe_op op_add (pv 1) pe_int))) pss_nil)
      (pss_cons (ps_if (pt_cmpR o_inSg (pe_ix ix_str (pv 0) (pv 1) (fun _ _ => rfl)) pe_str rfl) (pss_one (ps_ret (pe_op op_add (pv 1) pe_int))) pss_nil)
      (pss_one (ps_ret pe_non))))))), ?_⟩
    have hzl : z.cps.toList.length = z.cps.size := Array.length_toList
    walk_at "z0"
    walk_at "z"
    have hgS : signs.cps.toList = ("abcdefghijklmnopqrstuvwxyz0123456789" : Str).cps.toList := rfl
    generalize hs : z.cps.toList.drop a = s at q
    have hsl : s.length = z.cps.size - a := by rw [← hs, List.length_drop, hzl]
    have hat : ∀ j, s[j]? = z.cps.toList[a + j]? := fun j => by rw [← hs, List.getElem?_drop]
    refine Z.wh (fun m σ' H' => ∃ j : Nat, σ' = [some (.str z), some (.int (a : Int)), some (.int ((a + j : Nat) : Int))] ∧ H' = H ∧ m + j = s.length ∧ ∀ i, i < j → ∃ c, s[i]? = some c ∧ isW c = true) s.length ⟨0, rfl, rfl, by omega, fun i hi => absurd hi (by omega)⟩ ?_
    rintro m σ' H' ⟨j, rfl, rfl, hm, hall⟩
    have done : (∀ c, s[j]? = some c → isW c = false) → (tSeq (tIfS (tTest (tOp (rI0 fun i j => V.bl (decide (j < i))) (tVar 2) (tVar 1))) (tRet (tVar 2)) tNext)
          (tSeq
            (tIfS
              (tTest
                (tOp (rIn K false)
                  (tSl rSlS (tVar 0) (tPart (tVar 1))
                    (tPart (tOp (rI0 fun i j => V.int (i + j)) (tVar 1) (tC (V.int 2)))))
                  (tTup (tCons (tC (V.str ("<=" : Str))) (tCons (tC (V.str (">=" : Str))) tNil)))))
              (tRet (tOp (rI0 fun i j => V.int (i + j)) (tVar 1) (tC (V.int 2)))) tNext)
            (tSeq
              (tIfS (tTest (tOp rInSg (tOp rIxS (tVar 0) (tVar 1)) (tC (V.str ("<=>-()" : Str)))))
                (tRet (tOp (rI0 fun i j => V.int (i + j)) (tVar 1) (tC (V.int 1)))) tNext)
              (tRet (tC V.non))))
          { nx := fun x H' => Q V.non H', rt := Q }) [some (.str z), some (.int (a : Int)), some (.int ((a + j : Nat) : Int))] H' := by
      intro hno
      have htw := takeWhile_at hall hno (by omega)
      have hw : wordLen s = if 0 < j then some j else if (⟨(s.take 2).toArray⟩ : Str) = "<=" ∨ (⟨(s.take 2).toArray⟩ : Str) = ">=" then some 2
  else opLen s := by
        unfold wordLen
        rw [htw]
      walk_at "z"
      refine Z.ite (fun h1 => ?_) (fun h1 => ?_)
      · walk_at "z"
        have := q _ (Kp.refl _)
        rw [hw, if_pos (by omega)] at this
        exact this
      · rw [if_neg (by omega)] at hw
        have hj0 : j = 0 := by omega
        walk_at "z"
        refine ⟨z, rfl, Nat.le_trans hz (by decide), ?_⟩
        have hcut : cutS z (some (a : Int)) (some ((a : Int) + 2)) = ⟨(s.take 2).toArray⟩ := by
          unfold cutS
          rw [show ((a : Int) + 2) = ((a + 2 : Nat) : Int) by omega, HT.sIx_nat, HT.sIx_nat]
          have hzz : z.length = z.cps.size := rfl
          rw [hzz, Nat.min_eq_left (show a ≤ z.cps.size by omega), hs]
          rcases Nat.le_total (a + 2) z.cps.size with h | h
          · rw [Nat.min_eq_left h, show a + 2 - a = 2 by omega]
          · rw [Nat.min_eq_right h, List.take_of_length_le (by omega), List.take_of_length_le (by omega)]
        rw [hcut]
        walk_at "z"
        refine Z.tupK (fun t H1 nt k1 e1 => ?_)
        refine Z.inq (xs := twoOps.map V.str) (.inr (tupT e1)) rfl Z.strs_flat ?_
        rw [if_neg Bool.false_ne_true, Z.inV_strs]
        walk_at "z"
        refine Z.ite (fun h2 => ?_) (fun h2 => ?_)
        · walk_at "z"
          have := q _ k1
          rw [hw, if_pos (by simpa [twoOps] using h2)] at this
          exact this
        · rw [if_neg (by simpa [twoOps] using h2)] at hw
          walk_at "z"
          obtain ⟨c, hc⟩ : ∃ c, z.cps.toList[a]? = some c := ⟨_, List.getElem?_eq_getElem (by omega)⟩
          have hcs : s[0]? = some c := by rw [hat 0]; exact hc
          refine ⟨z, (a : Int), c, rfl, rfl, Nat.le_trans hz (by decide), atI_nat hc, ?_⟩
          walk_at "z"
          have hs2 : ∃ r, s = c :: r := by
            cases s with
            | nil => simp at hcs
            | cons d r => simp at hcs; exact ⟨r, by rw [hcs]⟩
          obtain ⟨r, hr2⟩ := hs2
          rw [hr2] at hw
          refine Z.ite (fun h3 => ?_) (fun h3 => ?_)
          · walk_at "z"
            have := q _ k1
            rw [hr2, hw, show opLen (c :: r) = some 1 from if_pos h3] at this
            exact this
          · walk_at "z"
            have := q _ k1
            rw [hr2, hw, show opLen (c :: r) = none from if_neg h3] at this
            exact this
    walk_at "z"
    refine Z.lenS (Nat.le_trans hz (by decide)) ?_
    walk_at "z"
    refine Z.ite (fun h1 => ?_) (fun h1 => ?_)
    · obtain ⟨c, hc⟩ : ∃ c, z.cps.toList[a + j]? = some c := ⟨_, List.getElem?_eq_getElem (by omega)⟩
      walk_at "z"
      refine ⟨z, ((a + j : Nat) : Int), c, rfl, rfl, Nat.le_trans hz (by decide), atI_nat (by rw [hc]), ?_⟩
      walk_at "z"
      refine Z.ite (fun h2 => ?_) (fun h2 => ?_)
      · refine Z.whb ?_
        walk_at "z"
        have hjs : j < s.length := by omega
        refine ⟨m - 1, by omega, j + 1, by rw [show ((a + j : Nat) : Int) + 1 = ((a + (j + 1) : Nat) : Int) by omega]; rfl, rfl, by omega, fun i hi => ?_⟩
        rcases Nat.lt_or_ge i j with h | h
        · exact hall i h
        · obtain rfl : i = j := by omega
          exact ⟨c, by rw [hat]; exact hc, decide_eq_true h2⟩
      · refine done fun d hd => ?_
        rw [hat, hc] at hd
        cases hd
        exact decide_eq_false h2
    · refine done fun d hd => ?_
      have := (List.getElem?_eq_some_iff.mp hd).1
      omega
/-- the words of a text from place a on, or where it stops being one -/
def toks : Nat → List Nat → Nat → Except Nat (List (Str × Nat))
  | 0, _, _ => .ok []
  | _ + 1, [], _ => .ok []
  | n + 1, c :: r, a => if c = 32 then toks n r (a + 1) else match wordLen (c :: r) with
    | none => .error (a + 1)
    | some k => match toks n ((c :: r).drop k) (a + k) with
      | .error e => .error e
      | .ok l => .ok ((⟨((c :: r).take k).toArray⟩, a + 1) :: l)
theorem wordLen_pos {s : List Nat} {k : Nat} (h : wordLen s = some k) (hs : 0 < s.length) : 0 < k ∧ (k ≤ s.length) := by
  unfold wordLen at h
  split at h
  · rename_i h1
    cases h
    exact ⟨h1, (List.takeWhile_sublist _).length_le⟩
  · split at h
    · rename_i h2
      cases h
      refine ⟨by decide, ?_⟩
      have e : (s.take 2).length = 2 := by
        rcases h2 with h | h
        · have := congrArg (fun z : Str => z.cps.size) h
          exact (by simpa using this : (s.take 2).length = ("<=" : Str).cps.size).trans (by decide +kernel)
        · have := congrArg (fun z : Str => z.cps.size) h
          exact (by simpa using this : (s.take 2).length = (">=" : Str).cps.size).trans (by decide +kernel)
      rw [List.length_take] at e
      omega
    · unfold opLen at h
      cases s with
      | nil => simp at hs
      | cons c r =>
        simp only at h
        split at h
        · cases h; simp
        · cases h
/-- a word at its place -/
structure Tk where
  p : Addr
  w : Str
  c : Nat
def TkAt (H : Hp) (t : Tk) : Prop := H t.p = some (.tup [.str t.w, .int (t.c : Int)])
def TksAt (H : Hp) (ts : List Tk) : Prop := ∀ t ∈ ts, TkAt H t
def tkrefs (ts : List Tk) : List V := ts.map fun t => V.ref t.p
def tkw (ts : List Tk) : List (Str × Nat) := ts.map fun t => (t.w, t.c)
theorem tkrefs_len (ts : List Tk) : (tkrefs ts).length = ts.length := by unfold tkrefs; rw [List.length_map]
theorem TksAt.kp {M : List Addr} {H H' : Hp} {ts : List Tk} (h : TksAt H ts) (k : Kp M H H') (n : ∀ x ∈ M, ∀ vs, H x ≠ some (.tup vs)) : TksAt H' ts := fun t ht => k.get (fun z => n _ z _ (h t ht)) (h t ht)
theorem TksAt.kp0 {H H' : Hp} {ts : List Tk} (h : TksAt H ts) (k : Kp [] H H') : TksAt H' ts := h.kp k fun x hx => by cases hx
def spTokens (K : PySem.W.Frag) (C : Addr) : Sp := fun vs H Q E => ∃ z : Str, vs = [.str z] ∧ z.cps.size ≤ 10000 ∧
  (∀ l, toks (z.cps.size + 1) z.cps.toList 0 = .ok l → ∀ H' d ts, H d = none → Kp [] H H' → H' d = some (.lst (tkrefs ts)) → TksAt H' ts → tkw ts = l → Q (.ref d) H') ∧
  (∀ c, toks (z.cps.size + 1) z.cps.toList 0 = .error c → ∀ H' d, Kp [] H H' → H' d = none → E (.ref C) (some d) (upd H' d (.xd (flText [.int 1, .int (c : Int), .str "character"]))))
/-- what is found so far, ahead of the rest -/
def pre (f : List (Str × Nat)) : Except Nat (List (Str × Nat)) → Except Nat (List (Str × Nat))
  | .ok l => .ok (f ++ l)
  | .error e => .error e
theorem toks_more : ∀ {n m : Nat} {s : List Nat} {a : Nat}, s.length < n → s.length < m → toks n s a = toks m s a
  | 0, _, _, _, h, _ => by omega
  | _, 0, _, _, _, h => by omega
  | n + 1, m + 1, [], a, _, _ => rfl
  | n + 1, m + 1, c :: r, a, h1, h2 => by
    rw [List.length_cons] at h1 h2
    unfold toks
    by_cases e : c = 32
    · rw [if_pos e, if_pos e]
      exact toks_more (by omega) (by omega)
    · rw [if_neg e, if_neg e]
      cases hw : wordLen (c :: r) with
      | none => rfl
      | some k =>
        have hk := wordLen_pos hw (by simp)
        simp only
        rw [toks_more (n := n) (m := m) (s := (c :: r).drop k) (a := a + k) (by rw [List.length_drop, List.length_cons]; omega) (by rw [List.length_drop, List.length_cons]; omega)]
theorem ok_tokens_of {P : Program} {w : World} {K : PySem.W.Frag} {mg : Str → Option Value} {base : Heap} (T : T P K mg) : FnOk P w K mg base (L2.CX P w) 3 T.a_tokens_of T.fd_tokens_of ["text"] (spTokens K T.C_TextError) := by
  refine T.F_tokens_of.okX sc_tokens_of (fun vs H Q E h => ?_) (fun cdv A outer s H vs Q E hr h => ?_)
  · obtain ⟨z, rfl, _⟩ := h
    rfl
  · obtain ⟨z, rfl, hz, q, e⟩ := h
    refine ⟨_, (pss_cons (ps_set (i := 1) sc_tokens_of.nd rfl (by first | exact Or.inl rfl | exact Or.inr rfl) (pe_lst pa_nil))
      (pss_cons (ps_set (i := 2) sc_tokens_of.nd rfl (by first | exact Or.inl rfl | exact Or.inr rfl) pe_int)
      (pss_cons (ps_while (passes_of rfl) (pt_cmpR op_lt (pv 2) (pe_callB c_lens (by rfl) T.z_len (by decide +kernel) (pa_cons (pv 0) pa_nil)) (nomark _)) (pss_one (ps_if (pt_cmpR op_eq (pe_ix ix_str (pv 0) (pv 2) (fun _ _ => rfl)) pe_str (nomark _)) (pss_one (ps_aug (i := 2) sc_tokens_of.nd rfl (by first | exact Or.inl rfl | exact Or.inr rfl) pe_int ip_add)) (pss_cons (ps_set (i := 3) sc_tokens_of.nd rfl (by first | exact Or.inl rfl | exact Or.inr rfl) (pe_call (ok_token_end T) (hr.mono (by decide)) (by rfl) T.g_token_end T.F_token_end.kp T.b_token_end .nil pass0 (pa_cons (pv 0) (pa_cons (pv 2) pa_nil))))
      (pss_cons (ps_if (pt_cmpR o_isN (pv 3) pe_non (nomark _)) (pss_one (ps_raise rfl (takes_of rfl rfl rfl rfl) (pmk_oex T.x_TextError.S.T T.x_TextError.iC T.x_TextError.tI (ok_TextError_init T) (hr.mono (by decide)) (T.bx_TextError) .nil pass0 (by rfl) T.x_TextError.g (pa_cons pe_int (pa_cons (pe_op op_add (pv 2) pe_int) (pa_cons pe_str pa_nil)))))) pss_nil)
      (pss_cons (ps_expr (pe_bm PySem.F.plainAttrs_list PySem.F.slot_list_append PySem.F.type_list_append mt_append (pv 1) (pa_cons (pe_tup (pa_cons (pe_slice sl_str (pv 0) (po_some (pv 2)) (po_some (pv 3))) (pa_cons (pe_op op_add (pv 2) pe_int) pa_nil))) pa_nil)))
      (pss_one (ps_set (i := 2) sc_tokens_of.nd rfl (by first | exact Or.inl rfl | exact Or.inr rfl) (pv 3)))))))))
      (pss_one (ps_ret (pv 1)))))), ?_⟩
    have hzl : z.cps.toList.length = z.cps.size := Array.length_toList
    walk_at "z0"
    walk_at "z"
    refine Z.lstK (fun F H1 nF k1 e1 => ?_)
    walk_at "z"
    refine Z.wh (fun m σ' H' => ∃ (a : Nat) (y : Option V) (ts : List Tk), σ' = [some (.str z), some (.ref F), some (.int (a : Int)), y] ∧ m + a = z.cps.size ∧ Kp [] H H' ∧ H' F = some (.lst (tkrefs ts)) ∧ TksAt H' ts ∧ ts.length ≤ a ∧ toks (z.cps.size + 1) z.cps.toList 0 = pre (tkw ts) (toks (z.cps.size + 1) (z.cps.toList.drop a) a)) z.cps.size ⟨0, none, [], rfl, rfl, k1, e1, fun t ht => (by cases ht), Nat.le_refl _, ?_⟩ ?_
    · rw [List.drop_zero]
      cases toks (z.cps.size + 1) z.cps.toList 0 <;> rfl
    rintro m σ' H' ⟨a, y, ts, rfl, hm, kk, eF, hT, hlt, htk⟩
    walk_at "z"
    refine Z.lenS (Nat.le_trans hz (by decide)) ?_
    walk_at "z"
    refine Z.ite (fun h1 => ?_) (fun h1 => ?_)
    · refine Z.whb ?_
      have haz : a < z.cps.toList.length := by omega
      obtain ⟨c, hc⟩ : ∃ c, z.cps.toList[a]? = some c := ⟨_, List.getElem?_eq_getElem haz⟩
      have hdrop : z.cps.toList.drop a = c :: z.cps.toList.drop (a + 1) := by
        rw [List.drop_eq_getElem_cons haz, (List.getElem?_eq_some_iff.mp hc).2]
      walk_at "z"
      refine ⟨z, (a : Int), c, rfl, rfl, Nat.le_trans hz (by decide), atI_nat hc, ?_⟩
      walk_at "z"
      have hsp : ((⟨#[c]⟩ : Str) = " ") ↔ c = 32 := by
        constructor
        · intro h
          have := congrArg (fun z : Str => z.cps.toList) h
          simp at this
          exact (List.cons.inj (this.trans (show (" " : Str).cps.toList = [32] by decide +kernel))).1
        · rintro rfl
          decide +kernel
      refine Z.ite (fun h2 => ?_) (fun h2 => ?_)
      · walk_at "z"
        refine ⟨m - 1, by omega, a + 1, y, ts, rfl, by omega, kk, eF, hT, by omega, ?_⟩
        rw [htk, hdrop]
        rw [show toks (z.cps.size + 1) (c :: z.cps.toList.drop (a + 1)) a = toks z.cps.size (z.cps.toList.drop (a + 1)) (a + 1) by rw [toks, if_pos (hsp.mp h2)]]
        rw [toks_more (n := z.cps.size) (m := z.cps.size + 1) (s := z.cps.toList.drop (a + 1)) (a := a + 1) (by rw [List.length_drop]; omega) (by rw [List.length_drop]; omega)]
      · have h32 : ¬ c = 32 := fun h => h2 (hsp.mpr h)
        walk_at "z"
        refine ⟨z, a, rfl, by omega, by omega, fun H2 k2 => ?_⟩
        rw [hdrop] at htk ⊢
        have htk2 : toks (z.cps.size + 1) (c :: z.cps.toList.drop (a + 1)) a = match wordLen (c :: z.cps.toList.drop (a + 1)) with
          | none => .error (a + 1)
          | some k => match toks z.cps.size ((c :: z.cps.toList.drop (a + 1)).drop k) (a + k) with
            | .error e => .error e
            | .ok l => .ok ((⟨((c :: z.cps.toList.drop (a + 1)).take k).toArray⟩, a + 1) :: l) := by
          rw [toks, if_neg h32]
        cases hw : wordLen (c :: z.cps.toList.drop (a + 1)) with
        | none =>
          rw [hw] at htk2
          walk_at "z"
          refine Z.yes rfl ?_
          refine mkErr ?_ (fun hRS h => ?_)
          · refine ⟨_, rfl, (a : Int), 1, rfl, rfl, by simp, ⟨1, a + 1, "character", rfl, by omega, by omega, by decide +kernel⟩, fun d hd => ?_⟩
            exact e (a + 1) (by rw [htk, htk2]; rfl) H2 d (kk.trans k2) hd
          · obtain ⟨v1, e1, i, j, e2, e3, h⟩ := h
            exact ⟨v1, e1, i, j, e2, e3, hRS _ _ h⟩
        | some k =>
          rw [hw] at htk2
          dsimp only at htk2
          obtain ⟨hk0, hk1⟩ := wordLen_pos hw (by simp)
          have hrl : (c :: z.cps.toList.drop (a + 1)).length = z.cps.size - a := by rw [← hdrop, List.length_drop, hzl]
          rw [hrl] at hk1
          walk_at "z"
          refine Z.no (by simp [optN]) ?_
          walk_at "z"
          have eF2 := k2.get nin0 eF
          refine ⟨Z.tyL eF2, ?_⟩
          walk_at "z"
          refine ⟨((a + k : Nat) : Int), rfl, ?_⟩
          refine ⟨z, rfl, Nat.le_trans hz (by decide), ?_⟩
          walk_at "z"
          refine Z.tupK (fun t H3 nt k3 e3 => ?_)
          walk_at "z"
          have eF3 := k3.get nin0 eF2
          refine Z.app eF3 (Z.szl (m := 100000) (by rw [tkrefs_len]; omega)) ?_
          walk_at "z"
          have htF : t ≠ F := fun y => by rw [y, eF3] at e3; cases e3
          have kF : Kp [F] H3 (upd H3 F (.lst (tkrefs ts ++ [.ref t]))) := Kp.put (by simp)
          have hcut : cutS z (some (a : Int)) (some ((a + k : Nat) : Int)) = ⟨((c :: z.cps.toList.drop (a + 1)).take k).toArray⟩ := by
            have hh := cutS_list (z := z) (a := a) (b := a + k) (by show a + k ≤ z.cps.size; omega)
            rw [List.drop_take, show a + k - a = k by omega, hdrop] at hh
            generalize cutS z (some (a : Int)) (some ((a + k : Nat) : Int)) = w at hh ⊢
            obtain ⟨⟨l⟩⟩ := w
            cases hh
            rfl
          refine ⟨m - k, by omega, a + k, some (.int ((a + k : Nat) : Int)), ts ++ [⟨t, ⟨((c :: z.cps.toList.drop (a + 1)).take k).toArray⟩, a + 1⟩], rfl, by omega, ((kk.trans k2).trans k3).mut nF rfl, ?_, fun x hx => ?_, by rw [List.length_append, List.length_singleton]; omega, ?_⟩
          · rw [upd_same]
            unfold tkrefs
            rw [List.map_append]; rfl
          · rcases List.mem_append.mp hx with h | h
            · have := ((hT.kp0 k2).kp0 k3) x h
              exact kF.get (nin1 fun y => by unfold TkAt at this; rw [y, eF3] at this; cases this) this
            · rw [List.mem_singleton.mp h]
              refine kF.get (nin1 htF) ?_
              rw [e3, ← hcut]; rfl
          · rw [htk, htk2]
            have hd2 : (c :: z.cps.toList.drop (a + 1)).drop k = z.cps.toList.drop (a + k) := by rw [← hdrop, List.drop_drop]
            rw [hd2]
            rw [toks_more (n := z.cps.size) (m := z.cps.size + 1) (s := z.cps.toList.drop (a + k)) (a := a + k) (by rw [List.length_drop]; omega) (by rw [List.length_drop]; omega)]
            unfold tkw
            rw [List.map_append]
            cases toks (z.cps.size + 1) (z.cps.toList.drop (a + k)) (a + k) with
            | error e => rfl
            | ok l => simp [pre]
    · walk_at "z"
      have haz : z.cps.toList.drop a = [] := List.drop_of_length_le (by omega)
      rw [haz] at htk
      exact q (tkw ts) (by rw [htk]; simp [toks, pre]) H' F ts nF kk eF hT rfl

/-! ### the reader of a condition -/
abbrev TT (P : Program) (K : PySem.W.Frag) (mg : Str → Option Value) := T P K mg
theorem ne_ba : ¬ (("_behind" : Str) = "_at") := by decide +kernel
theorem ne_bd : ¬ (("_behind" : Str) = "_depth") := by decide +kernel
theorem ne_ta : ¬ (("_tokens" : Str) = "_at") := by decide +kernel
theorem ne_tb : ¬ (("_tokens" : Str) = "_behind") := by decide +kernel
theorem ne_td : ¬ (("_tokens" : Str) = "_depth") := by decide +kernel
theorem ne_ad : ¬ (("_at" : Str) = "_depth") := by decide +kernel
def rf (l : Addr) (b a d : Int) : List (Str × V) := [("_tokens", .ref l), ("_behind", .int b), ("_at", .int a), ("_depth", .int d)]
theorem rf_t {l : Addr} {b a d : Int} : (rf l b a d).lookup ("_tokens" : Str) = some (.ref l) := rfl
theorem rf_b {l : Addr} {b a d : Int} : (rf l b a d).lookup ("_behind" : Str) = some (.int b) := rfl
theorem rf_a {l : Addr} {b a d : Int} : (rf l b a d).lookup ("_at" : Str) = some (.int a) := rfl
theorem rf_d {l : Addr} {b a d : Int} : (rf l b a d).lookup ("_depth" : Str) = some (.int d) := rfl
theorem rf_refuse {l : Addr} {b a d : Int} : (rf l b a d).lookup ("_refuse" : Str) = none := rfl
theorem rf_here {l : Addr} {b a d : Int} : (rf l b a d).lookup ("_here" : Str) = none := rfl
theorem rf_take {l : Addr} {b a d : Int} : (rf l b a d).lookup ("_take" : Str) = none := rfl
theorem rf_go_in {l : Addr} {b a d : Int} : (rf l b a d).lookup ("_go_in" : Str) = none := rfl
theorem rf_either {l : Addr} {b a d : Int} : (rf l b a d).lookup ("_either" : Str) = none := rfl
theorem rf_both {l : Addr} {b a d : Int} : (rf l b a d).lookup ("_both" : Str) = none := rfl
theorem rf_turned {l : Addr} {b a d : Int} : (rf l b a d).lookup ("_turned" : Str) = none := rfl
theorem rf_atom {l : Addr} {b a d : Int} : (rf l b a d).lookup ("_atom" : Str) = none := rfl
theorem rf_bracket {l : Addr} {b a d : Int} : (rf l b a d).lookup ("_bracket" : Str) = none := rfl
theorem rf_number {l : Addr} {b a d : Int} : (rf l b a d).lookup ("_number" : Str) = none := rfl
theorem rf_whole {l : Addr} {b a d : Int} : (rf l b a d).lookup ("whole" : Str) = none := rfl
theorem rf_mk {l : Addr} {b a d : Int} : putF "_depth" (.int d) (putF "_at" (.int a) (putF "_behind" (.int b) (putF "_tokens" (.ref l) []))) = rf l b a d := by
  show (if ("_tokens" : Str) = "_depth" then _ else _) = _
  simp [putF, ne_ba, ne_bd, ne_ta, ne_tb, ne_td, ne_ad, rf]
theorem rf_pa {l : Addr} {b a d e : Int} : putF "_at" (.int e) (rf l b a d) = rf l b e d := by
  simp [putF, ne_ba, ne_bd, ne_ta, ne_tb, ne_td, ne_ad, rf]
theorem rf_pd {l : Addr} {b a d e : Int} : putF "_depth" (.int e) (rf l b a d) = rf l b a e := by
  simp [putF, ne_ba, ne_bd, ne_ta, ne_tb, ne_td, ne_ad, rf]
/-- what holds of the words from the start on -/
structure RdOk (ts : List Tk) (bh : Nat) : Prop where
  len : ts.length ≤ 10000
  bh : bh < 1000000000
  col : ∀ t ∈ ts, t.c < 1000000000
  wd : ∀ t ∈ ts, t.w.cps.size ≤ 10000
/-- the reader, with the words ws left, dp deep -/
structure RdAt (C : Addr) (H : Hp) (S L dx : Addr) (ts : List Tk) (bh a : Nat) (ws : List Str) (dp : Nat) : Prop where
  len : a + ws.length = ts.length
  ws : (ts.drop a).map Tk.w = ws
  at_ : H S = some (.ins C dx (rf L bh a dp))
  l : H L = some (.lst (tkrefs ts))
  t : TksAt H ts
  ok : RdOk ts bh
theorem RdAt.kp {C : Addr} {H H' : Hp} {S L dx : Addr} {ts : List Tk} {bh a : Nat} {ws : List Str} {dp : Nat} (h : RdAt C H S L dx ts bh a ws dp) (k : Kp [] H H') : RdAt C H' S L dx ts bh a ws dp := ⟨h.len, h.ws, k.get nin0 h.at_, k.get nin0 h.l, h.t.kp0 k, h.ok⟩
theorem RdAt.put {C : Addr} {H : Hp} {S L dx : Addr} {ts : List Tk} {bh a b : Nat} {ws us : List Str} {dp e : Nat} (h : RdAt C H S L dx ts bh a ws dp) (h1 : b + us.length = ts.length) (h2 : (ts.drop b).map Tk.w = us) : RdAt C (upd H S (.ins C dx (rf L bh b e))) S L dx ts bh b us e := by
  have nls : L ≠ S := ne_of h.l h.at_ (by intro e; cases e)
  refine ⟨h1, h2, upd_same, (upd_ne nls).trans h.l, fun t ht => ?_, h.ok⟩
  have := h.t t ht
  unfold TkAt at this ⊢
  exact (upd_ne (ne_of this h.at_ (by intro e; cases e))).trans this
theorem RdAt.tok {C : Addr} {H : Hp} {S L dx : Addr} {ts : List Tk} {bh a : Nat} {ws : List Str} {dp : Nat} (h : RdAt C H S L dx ts bh a ws dp) (ha : a < ts.length) : ∃ t u, ts[a]? = some t ∧ (tkrefs ts)[a]? = some (.ref t.p) ∧ H t.p = some (.tup [.str t.w, .int (t.c : Int)]) ∧ ws = t.w :: u ∧ (ts.drop (a + 1)).map Tk.w = u ∧ t ∈ ts := by
  have e := List.getElem?_eq_getElem ha
  have hd := List.drop_eq_getElem_cons ha
  refine ⟨ts[a], (ts.drop (a + 1)).map Tk.w, e, ?_, h.t _ (List.getElem_mem ha), ?_, rfl, List.getElem_mem ha⟩
  · unfold tkrefs
    rw [List.getElem?_map, e]; rfl
  · rw [← h.ws, hd]; rfl
def here (ws : List Str) : Str := ws.headD ""
theorem RdAt.nil {C : Addr} {H : Hp} {S L dx : Addr} {ts : List Tk} {bh a : Nat} {ws : List Str} {dp : Nat} (h : RdAt C H S L dx ts bh a ws dp) (ha : ¬ a < ts.length) : ws = [] := by
  have := h.len
  exact List.length_eq_zero_iff.mp (by omega)
theorem RdAt.step {C : Addr} {H : Hp} {S L dx : Addr} {ts : List Tk} {bh a : Nat} {ws : List Str} {dp e : Nat} (h : RdAt C H S L dx ts bh a ws dp) (hn : ws ≠ []) : RdAt C (upd H S (.ins C dx (rf L bh ((a : Int) + 1) e))) S L dx ts bh (a + 1) ws.tail e := by
  have hp : 0 < ws.length := List.length_pos_iff.mpr hn
  have hl := h.len
  obtain ⟨t, u, e1, e2, e3, e4, e5, e6⟩ := h.tok (by omega)
  have := h.put (b := a + 1) (us := ws.tail) (e := e) (by rw [List.length_tail]; omega) (by rw [e5, e4]; rfl)
  exact this
/-- the column of the word with which l words are left -/
def colR (ts : List Tk) (bh l : Nat) : Nat := if l = 0 then bh else ((ts[ts.length - l]?).map Tk.c).getD 0
def spHere (C : Addr) : Sp := fun vs H Q _ => ∃ S L dx ts bh a ws dp, vs = [.ref S] ∧ RdAt C H S L dx ts bh a ws dp ∧ Q (.str (here ws)) H
theorem ok_ConditionReader__here {P : Program} {w : World} {K : PySem.W.Frag} {mg : Str → Option Value} {base : Heap} (T : T P K mg) : FnOk P w K mg base CX0 1 T.a_ConditionReader__here T.fd_ConditionReader__here ["self"] (spHere T.C_ConditionReader) := by
  refine T.F_ConditionReader__here.ok sc_ConditionReader__here (fun vs H Q E h => ?_) (fun cdv A outer s H vs Q E hr h => ?_)
  · obtain ⟨S, L, dx, ts, bh, a, ws, dp, rfl, _⟩ := h
    rfl
  · obtain ⟨S, L, dx, ts, bh, a, ws, dp, rfl, hR, q⟩ := h
    refine ⟨_, (pss_cons (ps_if (pt_cmpR op_lt (pe_fld (pv 0) rfl) (pe_callB c_len (by rfl) T.z_len (by decide +kernel) (pa_cons (pe_fld (pv 0) rfl) pa_nil)) (nomark _)) (pss_one (ps_ret (pe_ix ix_tup (pe_ix ix_list (pe_fld (pv 0) rfl) (pe_fld (pv 0) rfl) (fun _ _ => rfl)) pe_int (fun _ _ => rfl)))) pss_nil)
      (pss_one (ps_ret pe_str))), ?_⟩
    have hlen := hR.ok.len
    walk_at "z0"
    walk_at "z"
    refine ⟨S, _, dx, _, _, rfl, hR.at_, T.cl_ConditionReader, T.na_ConditionReader__at, rf_a, ?_⟩
    walk_at "z"
    refine ⟨S, _, dx, _, _, rfl, hR.at_, T.cl_ConditionReader, T.na_ConditionReader__tokens, rf_t, ?_⟩
    walk_at "z"
    refine Z.lenL (lstL hR.l) ?_
    walk_at "z"
    rw [tkrefs_len]
    refine Z.ite (fun h1 => ?_) (fun h1 => ?_)
    · obtain ⟨t, u, e1, e2, e3, e4, e5, e6⟩ := hR.tok (by omega)
      walk_at "z"
      refine ⟨S, _, dx, _, _, rfl, hR.at_, T.cl_ConditionReader, T.na_ConditionReader__tokens, rf_t, ?_⟩
      walk_at "z"
      refine ⟨S, _, dx, _, _, rfl, hR.at_, T.cl_ConditionReader, T.na_ConditionReader__at, rf_a, ?_⟩
      refine Z.ixL (lstL hR.l) (atI_nat e2) ?_
      walk_at "z"
      refine Z.ixT (tupT e3) rfl ?_
      walk_at "z"
      rw [e4] at q
      exact q
    · walk_at "z"
      rw [hR.nil (by omega)] at q
      exact q
def spRefuse (C CE : Addr) : Sp := fun vs H Q E => ∃ S L dx ts bh a ws dp re, vs = [.ref S, .str re] ∧ RdAt C H S L dx ts bh a ws dp ∧ re.length ≤ 1000 ∧ ∀ d, H d = none → E (.ref CE) (some d) (upd H d (.xd (flText [.int 1, .int (colR ts bh ws.length : Int), .str re])))
theorem ok_ConditionReader__refuse {P : Program} {w : World} {K : PySem.W.Frag} {mg : Str → Option Value} {base : Heap} (T : T P K mg) : FnOk P w K mg base (L2.CX P w) 3 T.a_ConditionReader__refuse T.fd_ConditionReader__refuse ["self", "reason"] (spRefuse T.C_ConditionReader T.C_TextError) := by
  refine T.F_ConditionReader__refuse.okX sc_ConditionReader__refuse (fun vs H Q E h => ?_) (fun cdv A outer s H vs Q E hr h => ?_)
  · obtain ⟨S, L, dx, ts, bh, a, ws, dp, re, rfl, _⟩ := h
    rfl
  · obtain ⟨S, L, dx, ts, bh, a, ws, dp, re, rfl, hR, hre, e⟩ := h
    refine ⟨_, (pss_cons (ps_set (i := 2) sc_ConditionReader__refuse.nd rfl (by first | exact Or.inl rfl | exact Or.inr rfl) (pe_fld (pv 0) rfl))
      (Z.pss_consJ (ps_if (pt_cmpR op_lt (pe_fld (pv 0) rfl) (pe_callB c_len (by rfl) T.z_len (by decide +kernel) (pa_cons (pe_fld (pv 0) rfl) pa_nil)) (nomark _)) (pss_one (ps_set (i := 2) sc_ConditionReader__refuse.nd rfl (by first | exact Or.inl rfl | exact Or.inr rfl) (pe_ix ix_tup (pe_ix ix_list (pe_fld (pv 0) rfl) (pe_fld (pv 0) rfl) (fun _ _ => rfl)) pe_int (fun _ _ => rfl)))) pss_nil)
      (pss_one (ps_raise rfl (takes_of rfl rfl rfl rfl) (pmk_oex T.x_TextError.S.T T.x_TextError.iC T.x_TextError.tI (ok_TextError_init T) (hr.mono (by decide)) (T.bx_TextError) .nil pass0 (by rfl) T.x_TextError.g (pa_cons pe_int (pa_cons (pv 2) (pa_cons (pv 1) pa_nil)))))))), ?_⟩
    have hlen := hR.ok.len
    have hl2 := hR.len
    walk_at "z0"
    walk_at "z"
    refine ⟨S, _, dx, _, _, rfl, hR.at_, T.cl_ConditionReader, T.na_ConditionReader__behind, rf_b, ?_⟩
    walk_at "z"
    refine Z.seqJ (fun σ' H' => σ' = [some (.ref S), some (.str re), some (.int (colR ts bh ws.length : Int))] ∧ H' = H) ?_ ?_
    · rintro σ' H' ⟨rfl, rfl⟩
      walk_at "z"
      have hc : colR ts bh ws.length < 1000000000 := by
        unfold colR
        split
        · exact hR.ok.bh
        · cases e1 : ts[ts.length - ws.length]? with
          | none => decide
          | some t => exact hR.ok.col t (List.mem_of_getElem? e1)
      refine mkErr ?_ (fun hRS h => ?_)
      · refine ⟨_, rfl, _, rfl, by simp, ⟨1, colR ts bh ws.length, re, rfl, by omega, hc, hre⟩, fun d hd => ?_⟩
        exact e d hd
      · obtain ⟨v1, e1, v2, e2, h⟩ := h
        exact ⟨v1, e1, v2, e2, hRS _ _ h⟩
    · intro N jn
      walk_at "z"
      refine ⟨S, _, dx, _, _, rfl, hR.at_, T.cl_ConditionReader, T.na_ConditionReader__at, rf_a, ?_⟩
      walk_at "z"
      refine ⟨S, _, dx, _, _, rfl, hR.at_, T.cl_ConditionReader, T.na_ConditionReader__tokens, rf_t, ?_⟩
      walk_at "z"
      refine Z.lenL (lstL hR.l) ?_
      walk_at "z"
      rw [tkrefs_len]
      refine Z.ite (fun h1 => ?_) (fun h1 => ?_)
      · obtain ⟨t, u, e1, e2, e3, e4, e5, e6⟩ := hR.tok (by omega)
        walk_at "z"
        refine ⟨S, _, dx, _, _, rfl, hR.at_, T.cl_ConditionReader, T.na_ConditionReader__tokens, rf_t, ?_⟩
        walk_at "z"
        refine ⟨S, _, dx, _, _, rfl, hR.at_, T.cl_ConditionReader, T.na_ConditionReader__at, rf_a, ?_⟩
        refine Z.ixL (lstL hR.l) (atI_nat e2) ?_
        walk_at "z"
        refine Z.ixT (tupT e3) rfl ?_
        walk_at "z"
        refine jn _ _ ⟨?_, rfl⟩
        unfold colR
        rw [if_neg (by omega), show ts.length - ws.length = a by omega, e1]; rfl
      · walk_at "z"
        refine jn _ _ ⟨?_, rfl⟩
        unfold colR
        rw [if_pos (by omega)]
def spRTake (C CE : Addr) : Sp := fun vs H Q E => ∃ S L dx ts bh a ws dp, ∃ b : Bool, vs = [.ref S, .bl b] ∧ RdAt C H S L dx ts bh a ws dp ∧
  (b = true → ws ≠ [] ∧ ∀ H', Kp [S] H H' → RdAt C H' S L dx ts bh (a + 1) ws.tail dp → Q (.str (here ws)) H') ∧
  (b = false → ∀ d, H d = none → E (.ref CE) (some d) (upd H d (.xd (flText [.int 1, .int (colR ts bh ws.length : Int), .str "expected"]))))
theorem ok_ConditionReader__take {P : Program} {w : World} {K : PySem.W.Frag} {mg : Str → Option Value} {base : Heap} (T : T P K mg) : FnOk P w K mg base (L2.CX P w) 4 T.a_ConditionReader__take T.fd_ConditionReader__take ["self", "can_stand"] (spRTake T.C_ConditionReader T.C_TextError) := by
  refine T.F_ConditionReader__take.okX sc_ConditionReader__take (fun vs H Q E h => ?_) (fun cdv A outer s H vs Q E hr h => ?_)
  · obtain ⟨S, L, dx, ts, bh, a, ws, dp, b, rfl, _⟩ := h
    rfl
  · obtain ⟨S, L, dx, ts, bh, a, ws, dp, b, rfl, hR, q, e⟩ := h
    refine ⟨_, (Z.pss_consJ (ps_if (pt_not (pt_val (pv 1))) (pss_one (ps_expr (pe_meth (pv 0) T.cl_ConditionReader T.me_ConditionReader__refuse (ok_ConditionReader__refuse T) (hr.mono (by decide)) T.b_ConditionReader__refuse .nil (passes_call (takes_of rfl rfl rfl rfl) (fun _ _ _ _ h => h)) (pa_cons pe_str pa_nil)))) pss_nil)
      (pss_cons (ps_set (i := 2) sc_ConditionReader__take.nd rfl (by first | exact Or.inl rfl | exact Or.inr rfl) (pe_meth0 (pv 0) T.cl_ConditionReader T.me_ConditionReader__here (ok_ConditionReader__here T) (hr.mono (by decide)) T.b_ConditionReader__here .nil pass0))
      (pss_cons (ps_fldaug (pv 0) pe_int in_add)
      (pss_one (ps_ret (pv 2)))))), ?_⟩
    walk_at "z0"
    walk_at "z"
    cases b with
    | false =>
      refine Z.seqJ (fun σ' H' => False) (fun _ _ h => h.elim) ?_
      intro N jn
      walk_at "z"
      refine ⟨S, dx, _, rfl, hR.at_, rf_refuse, ?_⟩
      walk_at "z"
      exact ⟨S, L, dx, ts, bh, a, ws, dp, "expected", rfl, hR, by decide +kernel, e rfl⟩
    | true =>
      obtain ⟨hn, q⟩ := q rfl
      refine Z.seqJ (fun σ' H' => σ' = [some (.ref S), some (.bl true), none] ∧ H' = H) ?_ ?_
      · rintro σ' H' ⟨rfl, rfl⟩
        walk_at "z"
        refine ⟨S, dx, _, rfl, hR.at_, rf_here, ?_⟩
        walk_at "z"
        refine ⟨S, L, dx, ts, bh, a, ws, dp, rfl, hR, ?_⟩
        walk_at "z"
        refine ⟨S, _, dx, _, _, rfl, hR.at_, T.cl_ConditionReader, T.na_ConditionReader__at, rf_a, ?_⟩
        walk_at "z"
        refine ⟨dx, _, hR.at_, by show 4 < 1000; decide, ?_⟩
        walk_at "z"
        rw [rf_pa]
        exact q _ (Kp.put (by simp)) (hR.step hn)
      · intro N jn
        walk_at "z"
        exact jn _ _ ⟨rfl, rfl⟩
def spGo (C CE : Addr) : Sp := fun vs H Q E => ∃ S L dx ts bh a ws dp, vs = [.ref S] ∧ RdAt C H S L dx ts bh a ws dp ∧ dp ≤ 20 ∧
  (dp < 20 → ws ≠ [] ∧ ∀ H', Kp [S] H H' → RdAt C H' S L dx ts bh (a + 1) ws.tail (dp + 1) → Q .non H') ∧
  (dp = 20 → ∀ d, H d = none → E (.ref CE) (some d) (upd H d (.xd (flText [.int 1, .int (colR ts bh ws.length : Int), .str "deep"]))))
theorem ok_ConditionReader__go_in {P : Program} {w : World} {K : PySem.W.Frag} {mg : Str → Option Value} {base : Heap} (T : T P K mg) : FnOk P w K mg base (L2.CX P w) 4 T.a_ConditionReader__go_in T.fd_ConditionReader__go_in ["self"] (spGo T.C_ConditionReader T.C_TextError) := by
  refine T.F_ConditionReader__go_in.okX sc_ConditionReader__go_in (fun vs H Q E h => ?_) (fun cdv A outer s H vs Q E hr h => ?_)
  · obtain ⟨S, L, dx, ts, bh, a, ws, dp, rfl, _⟩ := h
    rfl
  · obtain ⟨S, L, dx, ts, bh, a, ws, dp, rfl, hR, hdp, q, e⟩ := h
    refine ⟨_, (Z.pss_consJ (ps_if (pt_cmpR op_eq (pe_fld (pv 0) rfl) (pe_glob (by rfl) T.g_MOST_OPEN T.r_MOST_OPEN) (nomark _)) (pss_one (ps_expr (pe_meth (pv 0) T.cl_ConditionReader T.me_ConditionReader__refuse (ok_ConditionReader__refuse T) (hr.mono (by decide)) T.b_ConditionReader__refuse .nil (passes_call (takes_of rfl rfl rfl rfl) (fun _ _ _ _ h => h)) (pa_cons pe_str pa_nil)))) pss_nil)
      (pss_cons (ps_fldaug (pv 0) pe_int in_add)
      (pss_one (ps_fldaug (pv 0) pe_int in_add)))), ?_⟩
    walk_at "z0"
    walk_at "z"
    refine Z.seqJ (fun σ' H' => dp < 20 ∧ σ' = [some (.ref S)] ∧ H' = H) ?_ ?_
    · rintro σ' H' ⟨h1, rfl, rfl⟩
      obtain ⟨hn, q⟩ := q h1
      walk_at "z"
      refine ⟨S, _, dx, _, _, rfl, hR.at_, T.cl_ConditionReader, T.na_ConditionReader__depth, rf_d, ?_⟩
      walk_at "z"
      refine ⟨dx, _, hR.at_, by show 4 < 1000; decide, ?_⟩
      walk_at "z"
      rw [rf_pd]
      refine ⟨S, _, dx, _, _, rfl, upd_same, T.cl_ConditionReader, T.na_ConditionReader__at, rf_a, ?_⟩
      walk_at "z"
      refine ⟨dx, _, upd_same, by show 4 < 1000; decide, ?_⟩
      walk_at "z"
      rw [rf_pa, upd_upd]
      exact q _ (Kp.put (by simp)) (hR.step (e := dp + 1) hn)
    · intro N jn
      walk_at "z"
      refine ⟨S, _, dx, _, _, rfl, hR.at_, T.cl_ConditionReader, T.na_ConditionReader__depth, rf_d, ?_⟩
      walk_at "z"
      refine Z.ite (fun h1 => ?_) (fun h1 => ?_)
      · walk_at "z"
        refine ⟨S, dx, _, rfl, hR.at_, rf_refuse, ?_⟩
        walk_at "z"
        exact ⟨S, L, dx, ts, bh, a, ws, dp, "deep", rfl, hR, by decide +kernel, e (by omega)⟩
      · walk_at "z"
        exact jn _ _ ⟨by omega, rfl, rfl⟩

/-! ### numbers, and what a part of a condition reads -/
def spRd {α : Type} (C CE : Addr) (f : List Str → Except (Nat × Str) (α × List Str)) (val : α → V → Hp → Prop) (D : Nat) : Sp := fun vs H Q E => ∃ S L dx ts bh a ws dp, vs = [.ref S] ∧ RdAt C H S L dx ts bh a ws dp ∧ dp + D = 20 ∧
  (∀ x r, f ws = .ok (x, r) → ∀ H' v a', Kp [S] H H' → RdAt C H' S L dx ts bh a' r dp → val x v H' → Q v H') ∧
  (∀ l re, f ws = .error (l, re) → ∀ H' d, Kp [S] H H' → H' d = none → E (.ref CE) (some d) (upd H' d (.xd (flText [.int 1, .int (colR ts bh l : Int), .str re]))))
def numF (ws : List Str) : Except (Nat × Str) (Int × List Str) :=
  if intW (here (if here ws = "-" then ws.tail else ws)) = false ∨ (here ws = "-" ∧ here (if here ws = "-" then ws.tail else ws) = "0") then .error ((if here ws = "-" then ws.tail else ws).length, "expected")
  else match withinO (here (if here ws = "-" then ws.tail else ws)) 0 1000000 with
    | none => .error ((if here ws = "-" then ws.tail else ws).length, "range")
    | some n => .ok (if here ws = "-" then -n else n, (if here ws = "-" then ws.tail else ws).tail)
theorem here_sz {C : Addr} {H : Hp} {S L dx : Addr} {ts : List Tk} {bh a : Nat} {ws : List Str} {dp : Nat} (h : RdAt C H S L dx ts bh a ws dp) : (here ws).cps.size ≤ 10000 := by
  by_cases ha : a < ts.length
  · obtain ⟨t, u, e1, e2, e3, e4, e5, e6⟩ := h.tok ha
    rw [e4]
    exact h.ok.wd t e6
  · rw [h.nil ha]
    exact Nat.zero_le _
theorem here_ne {ws : List Str} {w : Str} (h : here ws = w) (hw : ¬ (w = "")) : ws ≠ [] := by
  rintro rfl
  exact hw h.symm
theorem here_int {ws : List Str} (h : intW (here ws) = true) : ws ≠ [] := by
  rintro rfl
  revert h
  show intW "" = true → False
  decide +kernel
theorem number_ok {P : Program} {w : World} {K : PySem.W.Frag} {mg : Str → Option Value} {base : Heap} (T : T P K mg) (D : Nat) : FnOk P w K mg base (L2.CX P w) 4 T.a_ConditionReader__number T.fd_ConditionReader__number ["self"] (spRd T.C_ConditionReader T.C_TextError numF (fun n v _ => v = .int n) D) := by
  refine T.F_ConditionReader__number.okX sc_ConditionReader__number (fun vs H Q E h => ?_) (fun cdv A outer s H vs Q E hr h => ?_)
  · obtain ⟨S, L, dx, ts, bh, a, ws, dp, rfl, _⟩ := h
    rfl
  · obtain ⟨S, L, dx, ts, bh, a, ws, dp, rfl, hR, hdp, q, e⟩ := h
    refine ⟨_, (pss_cons (ps_set (i := 1) sc_ConditionReader__number.nd rfl (by first | exact Or.inl rfl | exact Or.inr rfl) (pe_cmpR op_eq (pe_meth0 (pv 0) T.cl_ConditionReader T.me_ConditionReader__here (ok_ConditionReader__here T) (hr.mono (by decide)) T.b_ConditionReader__here .nil pass0) pe_str (nomark _)))
      (Z.pss_consJ (ps_if (pt_val (pv 1)) (pss_one (ps_fldaug (pv 0) pe_int in_add)) pss_nil)
      (pss_cons (ps_set (i := 2) sc_ConditionReader__number.nd rfl (by first | exact Or.inl rfl | exact Or.inr rfl) (pe_meth0 (pv 0) T.cl_ConditionReader T.me_ConditionReader__here (ok_ConditionReader__here T) (hr.mono (by decide)) T.b_ConditionReader__here .nil pass0))
      (Z.pss_consJ (ps_if (PW.pt (pw_or (pt_not (pt_val (pe_call (ok_writes_integer T) (hr.mono (by decide)) (by rfl) T.g_writes_integer T.F_writes_integer.kp T.b_writes_integer .nil pass0 (pa_cons (pv 2) pa_nil)))) (pw_or1 (PW.pt (pw_and (pt_val (pv 1)) (pw_and1 (pt_cmpR op_eq (pv 2) pe_str (nomark _)))))))) (pss_one (ps_expr (pe_meth (pv 0) T.cl_ConditionReader T.me_ConditionReader__refuse (ok_ConditionReader__refuse T) (hr.mono (by decide)) T.b_ConditionReader__refuse .nil (passes_call (takes_of rfl rfl rfl rfl) (fun _ _ _ _ h => h)) (pa_cons pe_str pa_nil)))) pss_nil)
      (pss_cons (ps_set (i := 3) sc_ConditionReader__number.nd rfl (by first | exact Or.inl rfl | exact Or.inr rfl) (pe_call (ok_integer_within T) (hr.mono (by decide)) (by rfl) T.g_integer_within T.F_integer_within.kp T.b_integer_within .nil pass0 (pa_cons (pv 2) (pa_cons pe_int (pa_cons (pe_glob (by rfl) T.g_MOST_NUMBER T.r_MOST_NUMBER) pa_nil)))))
      (Z.pss_consJ (ps_if (pt_cmpR o_isN (pv 3) pe_non (nomark _)) (pss_one (ps_expr (pe_meth (pv 0) T.cl_ConditionReader T.me_ConditionReader__refuse (ok_ConditionReader__refuse T) (hr.mono (by decide)) T.b_ConditionReader__refuse .nil (passes_call (takes_of rfl rfl rfl rfl) (fun _ _ _ _ h => h)) (pa_cons pe_str pa_nil)))) pss_nil)
      (pss_cons (ps_fldaug (pv 0) pe_int in_add)
      (pss_cons (ps_if (pt_val (pv 1)) (pss_one (ps_ret (pe_un un_neg (pv 3)))) pss_nil)
      (pss_one (ps_ret (pv 3))))))))))), ?_⟩
    walk_at "z0"
    walk_at "z"
    refine ⟨S, dx, _, rfl, hR.at_, rf_here, ?_⟩
    refine ⟨S, L, dx, ts, bh, a, ws, dp, rfl, hR, ?_⟩
    walk_at "z"
    generalize hr1 : (if here ws = "-" then ws.tail else ws) = r1
    have hN : numF ws = if intW (here r1) = false ∨ (here ws = "-" ∧ here r1 = "0") then .error (r1.length, "expected")
      else match withinO (here r1) 0 1000000 with
      | none => .error (r1.length, "range")
      | some n => .ok (if here ws = "-" then -n else n, r1.tail) := by
      unfold numF
      rw [hr1]
    refine Z.seqJ (fun σ' H' => σ' = [some (.ref S), some (.bl (decide (here ws = "-"))), none, none] ∧ Kp [S] H H' ∧ ∃ a1, RdAt T.C_ConditionReader H' S L dx ts bh a1 r1 dp) ?_ ?_
    · rintro σ' H1 ⟨rfl, k1, a1, hR1⟩
      have hsz := here_sz hR1
      walk_at "z"
      refine ⟨S, dx, _, rfl, hR1.at_, rf_here, ?_⟩
      refine ⟨S, L, dx, ts, bh, a1, r1, dp, rfl, hR1, ?_⟩
      walk_at "z"
      refine Z.seqJ (fun σ' H' => ¬ (intW (here r1) = false ∨ (here ws = "-" ∧ here r1 = "0")) ∧ σ' = [some (.ref S), some (.bl (decide (here ws = "-"))), some (.str (here r1)), none] ∧ H' = H1) ?_ ?_
      · rintro σ' H2 ⟨hno, rfl, rfl⟩
        rw [if_neg hno] at hN
        have hne : r1 ≠ [] := here_int (by
          cases h : intW (here r1) with
          | true => rfl
          | false => exact absurd (.inl h) hno)
        walk_at "z"
        refine ⟨here r1, 0, 1000000, rfl, by omega, by decide, by decide, by decide +kernel, by decide +kernel, ?_⟩
        walk_at "z"
        cases hw : withinO (here r1) 0 1000000 with
        | none =>
          rw [hw] at hN
          refine Z.seqJ (fun σ' H' => False) (fun _ _ h => h.elim) ?_
          intro N jn
          walk_at "z"
          refine Z.yes rfl ?_
          walk_at "z"
          refine ⟨S, dx, _, rfl, hR1.at_, rf_refuse, ?_⟩
          walk_at "z"
          exact ⟨S, L, dx, ts, bh, a1, r1, dp, "range", rfl, hR1, by decide +kernel, fun d hd => e r1.length "range" hN _ d k1 hd⟩
        | some n =>
          rw [hw] at hN
          dsimp only at hN
          refine Z.seqJ (fun σ' H' => σ' = [some (.ref S), some (.bl (decide (here ws = "-"))), some (.str (here r1)), some (.int n)] ∧ H' = H2) ?_ ?_
          · rintro σ' H' ⟨rfl, rfl⟩
            walk_at "z"
            refine ⟨S, _, dx, _, _, rfl, hR1.at_, T.cl_ConditionReader, T.na_ConditionReader__at, rf_a, ?_⟩
            walk_at "z"
            refine ⟨dx, _, hR1.at_, by show 4 < 1000; decide, ?_⟩
            walk_at "z"
            rw [rf_pa]
            have hR2 := hR1.step (e := dp) hne
            have k2 : Kp [S] H (upd H' S (.ins T.C_ConditionReader dx (rf L bh ((a1 : Int) + 1) dp))) := k1.trans (Kp.put (by simp))
            refine Z.ite (fun h1 => ?_) (fun h1 => ?_)
            · walk_at "z"
              have h1' : here ws = "-" := by simpa using h1
              rw [if_pos h1'] at hN
              exact q _ _ hN _ _ _ k2 hR2 rfl
            · walk_at "z"
              have h1' : ¬ here ws = "-" := by simpa using h1
              rw [if_neg h1'] at hN
              exact q _ _ hN _ _ _ k2 hR2 rfl
          · intro N jn
            walk_at "z"
            refine Z.no (by simp [optI]) ?_
            walk_at "z"
            exact jn _ _ ⟨rfl, rfl⟩
      · intro N jn
        walk_at "z"
        refine ⟨here r1, rfl, Nat.le_trans hsz (by decide), intW (here r1), rfl, ?_⟩
        have bad : (intW (here r1) = false ∨ (here ws = "-" ∧ here r1 = "0")) → ∀ d, H1 d = none → E (.ref T.C_TextError) (some d) (upd H1 d (.xd (flText [.int 1, .int (colR ts bh r1.length : Int), .str "expected"]))) := fun hb d hd => by
          rw [if_pos hb] at hN
          exact e _ _ hN _ d k1 hd
        cases h1' : intW (here r1) with
        | false =>
          rw [if_pos (show (!false) = true from rfl), if_pos rfl]
          walk_at "z"
          refine ⟨S, dx, _, rfl, hR1.at_, rf_refuse, ?_⟩
          walk_at "z"
          exact ⟨S, L, dx, ts, bh, a1, r1, dp, "expected", rfl, hR1, by decide +kernel, bad (.inl h1')⟩
        | true =>
          rw [if_neg (show ¬ (!true) = true by simp)]
          walk_at "z"
          refine Z.ite (fun h2 => ?_) (fun h2 => ?_)
          · have h2' : here ws = "-" := by simpa using h2
            walk_at "z"
            refine Z.ite (fun h3 => ?_) (fun h3 => ?_)
            · have h3' : here r1 = "0" := by simpa using h3
              walk_at "z"
              refine ⟨S, dx, _, rfl, hR1.at_, rf_refuse, ?_⟩
              walk_at "z"
              exact ⟨S, L, dx, ts, bh, a1, r1, dp, "expected", rfl, hR1, by decide +kernel, bad (.inr ⟨h2', h3'⟩)⟩
            · have h3' : ¬ here r1 = "0" := by simpa using h3
              walk_at "z"
              refine jn _ _ ⟨?_, rfl, rfl⟩
              rintro (h | ⟨_, h⟩)
              · rw [h1'] at h; cases h
              · exact h3' h
          · have h2' : ¬ here ws = "-" := by simpa using h2
            walk_at "z"
            refine jn _ _ ⟨?_, rfl, rfl⟩
            rintro (h | ⟨h, _⟩)
            · rw [h1'] at h; cases h
            · exact h2' h
    · intro N jn
      walk_at "z"
      refine Z.ite (fun h1 => ?_) (fun h1 => ?_)
      · walk_at "z"
        have h1' : here ws = "-" := by simpa using h1
        refine ⟨S, _, dx, _, _, rfl, hR.at_, T.cl_ConditionReader, T.na_ConditionReader__at, rf_a, ?_⟩
        walk_at "z"
        refine ⟨dx, _, hR.at_, by show 4 < 1000; decide, ?_⟩
        walk_at "z"
        rw [rf_pa]
        rw [if_pos h1'] at hr1
        refine jn _ _ ⟨rfl, Kp.put (by simp), a + 1, ?_⟩
        rw [← hr1]
        exact hR.step (here_ne h1' (by decide +kernel))
      · walk_at "z"
        have h1' : ¬ here ws = "-" := by simpa using h1
        rw [if_neg h1'] at hr1
        exact jn _ _ ⟨rfl, Kp.refl _, a, by rw [← hr1]; exact hR⟩

/-! ### conditions as trees -/
inductive Atom where
  | cmp (a : Bool) (s : Str) (n : Int)
  | grp (s : Str)
  | key (s : Str)
  | all
def cmpW (a : Bool) : Str := if a then "amount" else "weight"
def twoW (o : Bool) : Str := if o then "or" else "and"
def Atom.vs : Atom → List V
  | .cmp a s n => [.str (cmpW a), .str s, .int n]
  | .grp s => [.str "group", .str s]
  | .key s => [.str "key", .str s]
  | .all => [.str "all"]
inductive PT where
  | leaf (a : Atom)
  | neg (c : PT)
  | two (o : Bool) (c d : PT)
def TrAt (H : Hp) : PT → V → Prop
  | .leaf a, v => ∃ p, v = .ref p ∧ H p = some (.tup a.vs)
  | .neg c, v => ∃ p u, v = .ref p ∧ H p = some (.tup [.str "not", u]) ∧ TrAt H c u
  | .two o c d, v => ∃ p u x, v = .ref p ∧ H p = some (.tup [.str (twoW o), u, x]) ∧ TrAt H c u ∧ TrAt H d x
theorem TrAt.kp {M : List Addr} {H H' : Hp} (k : Kp M H H') (n : ∀ x ∈ M, ∀ vs, H x ≠ some (.tup vs)) : ∀ {t : PT} {v : V}, TrAt H t v → TrAt H' t v
  | .leaf a, v, ⟨p, e, h⟩ => ⟨p, e, k.get (fun z => n _ z _ h) h⟩
  | .neg c, v, ⟨p, u, e, h, h1⟩ => ⟨p, u, e, k.get (fun z => n _ z _ h) h, h1.kp k n⟩
  | .two o c d, v, ⟨p, u, x, e, h, h1, h2⟩ => ⟨p, u, x, e, k.get (fun z => n _ z _ h) h, h1.kp k n, h2.kp k n⟩
theorem TrAt.kp0 {H H' : Hp} {t : PT} {v : V} (h : TrAt H t v) (k : Kp [] H H') : TrAt H' t v := h.kp k fun _ h => by cases h
theorem TrAt.kpS {S C dx : Addr} {fs : List (Str × V)} {H H' : Hp} {t : PT} {v : V} (h : TrAt H t v) (k : Kp [S] H H') (e : H S = some (.ins C dx fs)) : TrAt H' t v := h.kp k fun x hx vs y => by
  rw [List.mem_singleton.mp hx, e] at y; cases y
/-! ### the parser as functions of words -/
abbrev Res := Except (Nat × Str) (PT × List Str)
def atomWs : List Str := ["all", "weight", "amount", "group", "key"]
def signs5 : List Str := ["<", "<=", "=", ">=", ">"]
def leafF (ws : List Str) : Res :=
  if here ws ∈ atomWs then
    if here ws = "all" then .ok (.leaf .all, ws.tail)
    else if here ws ∈ ([("group" : Str), "key"] : List Str) then
      if fineB (here ws.tail) then .ok (.leaf (if here ws = "group" then .grp (here ws.tail) else .key (here ws.tail)), ws.tail.tail)
      else .error (ws.tail.length, "expected")
    else if here ws.tail ∈ signs5 then
      match numF ws.tail.tail with
      | .ok (n, r) => .ok (.leaf (.cmp (decide (here ws = "amount")) (here ws.tail) n), r)
      | .error e => .error e
    else .error (ws.tail.length, "expected")
  else .error (ws.length, "expected")
def chainL (o : Bool) (tu : List Str → Res) : Nat → PT → List Str → Res
  | 0, t, ws => .ok (t, ws)
  | n + 1, t, ws => if here ws = twoW o then match tu ws.tail with
      | .ok (t2, r) => chainL o tu n (.two o t t2) r
      | .error e => .error e
    else .ok (t, ws)
def chain (o : Bool) (tu : List Str → Res) (ws : List Str) : Res := match tu ws with
  | .ok (t, r) => chainL o tu r.length t r
  | .error e => .error e
def brF (ei : Option (List Str → Res)) (ws : List Str) : Res := match ei with
  | none => .error (ws.length, "deep")
  | some f => match f ws.tail with
    | .ok (t, r) => if here r = ")" then .ok (t, r.tail) else .error (r.length, "expected")
    | .error e => .error e
def atomF (br : List Str → Res) (ws : List Str) : Res := if here ws = "(" then br ws else leafF ws
def turnS (dn : Option (List Str → Res)) (ws : List Str) : Res :=
  if here ws = "not" then match dn with
    | none => .error (ws.length, "deep")
    | some f => match f ws.tail with
      | .ok (t, r) => .ok (.neg t, r)
      | .error e => .error e
  else atomF (brF (dn.map fun f => chain true (chain false f))) ws
def turnF : Nat → List Str → Res
  | 0 => turnS none
  | D + 1 => turnS (some (turnF D))
/-- nothing is put back -/
def Shr (f : List Str → Res) : Prop := ∀ ws t r, f ws = .ok (t, r) → r.length ≤ ws.length
theorem tail_le (ws : List Str) : ws.tail.length ≤ ws.length := by rw [List.length_tail]; omega
theorem numF_shr {ws : List Str} {n : Int} {r : List Str} (h : numF ws = .ok (n, r)) : r.length ≤ ws.length := by
  unfold numF at h
  generalize hr1 : (if here ws = "-" then ws.tail else ws) = r1 at h
  have hl : r1.length ≤ ws.length := by
    rw [← hr1]
    split
    · exact tail_le _
    · exact Nat.le_refl _
  by_cases hb : intW (here r1) = false ∨ (here ws = "-" ∧ here r1 = "0")
  · rw [if_pos hb] at h; cases h
  · rw [if_neg hb] at h
    cases hw : withinO (here r1) 0 1000000 with
    | none => rw [hw] at h; cases h
    | some m =>
      rw [hw] at h
      cases h
      have := tail_le r1
      omega
theorem leafF_shr : Shr leafF := fun ws t r h => by
  unfold leafF at h
  have h1 := tail_le ws
  have h2 := tail_le ws.tail
  split at h
  · split at h
    · cases h; exact h1
    · split at h
      · split at h
        · cases h; omega
        · cases h
      · split at h
        · split at h
          · rename_i e
            cases h
            have := numF_shr e
            omega
          · cases h
        · cases h
  · cases h
theorem chainL_shr {o : Bool} {f : List Str → Res} (hf : Shr f) : ∀ {n : Nat} {t : PT} {ws : List Str} {t' : PT} {r : List Str}, chainL o f n t ws = .ok (t', r) → r.length ≤ ws.length
  | 0, t, ws, t', r, h => by cases h; exact Nat.le_refl _
  | n + 1, t, ws, t', r, h => by
    unfold chainL at h
    split at h
    · split at h
      · rename_i e
        have h1 := hf _ _ _ e
        have h2 := chainL_shr hf h
        have := tail_le ws
        omega
      · cases h
    · cases h; exact Nat.le_refl _
theorem chain_shr {o : Bool} {f : List Str → Res} (hf : Shr f) : Shr (chain o f) := fun ws t r h => by
  unfold chain at h
  split at h
  · rename_i e
    have h1 := hf _ _ _ e
    have h2 := chainL_shr hf h
    omega
  · cases h
theorem brF_shr {ei : Option (List Str → Res)} (hf : ∀ f, ei = some f → Shr f) : Shr (brF ei) := fun ws t r h => by
  unfold brF at h
  split at h
  · cases h
  · split at h
    · rename_i e
      have h1 := hf _ rfl _ _ _ e
      split at h
      · have := tail_le ws
        cases h
        rw [List.length_tail]
        omega
      · cases h
    · cases h
theorem atomF_shr {br : List Str → Res} (hf : Shr br) : Shr (atomF br) := fun ws t r h => by
  unfold atomF at h
  split at h
  · exact hf _ _ _ h
  · exact leafF_shr _ _ _ h
theorem turnS_shr {dn : Option (List Str → Res)} (hf : ∀ f, dn = some f → Shr f) : Shr (turnS dn) := fun ws t r h => by
  unfold turnS at h
  split at h
  · split at h
    · cases h
    · split at h
      · rename_i e
        have h1 := hf _ rfl _ _ _ e
        cases h
        have := tail_le ws
        omega
      · cases h
  · refine atomF_shr (brF_shr fun f hf1 => ?_) ws t r h
    cases dn with
    | none => cases hf1
    | some g =>
      cases hf1
      exact chain_shr (chain_shr (hf g rfl))
theorem turnF_shr : ∀ D, Shr (turnF D)
  | 0 => turnS_shr fun f h => by cases h
  | D + 1 => turnS_shr fun f h => by cases h; exact turnF_shr D

/-! ### the reader's parts -/
abbrev spTree (C CE : Addr) (f : List Str → Res) (D : Nat) : Sp := spRd C CE f (fun t v H => TrAt H t v) D
/-- one level down, where there is one -/
def spDn (C CE : Addr) (f : Option (List Str → Res)) (D : Nat) : Sp := fun vs H Q E => ∃ D' g, D = D' + 1 ∧ f = some g ∧ spTree C CE g D' vs H Q E
theorem no_fn {P : Program} {w : World} {K : PySem.W.Frag} {mg : Str → Option Value} {base : Heap} {m : Nat} {a : Addr} {fd : FuncData} {ps : List Str} {C CE : Addr} {D : Nat} : FnOk P w K mg base (L2.CX P w) m a fd ps (spDn C CE none D) :=
  ⟨fun _ _ _ _ h => (by obtain ⟨_, _, _, h, _⟩ := h; cases h), fun _ _ _ _ _ _ _ _ _ _ _ _ _ h => (by obtain ⟨_, _, _, h, _⟩ := h; cases h)⟩
theorem dn_fn {P : Program} {w : World} {K : PySem.W.Frag} {mg : Str → Option Value} {base : Heap} {m : Nat} {a : Addr} {fd : FuncData} {ps : List Str} {C CE : Addr} {D : Nat} {f : List Str → Res} (h : FnOk P w K mg base (L2.CX P w) m a fd ps (spTree C CE f D)) : FnOk P w K mg base (L2.CX P w) m a fd ps (spDn C CE (some f) (D + 1)) :=
  ⟨fun _ _ _ _ h1 => (by
    obtain ⟨D', g, e1, e2, h1⟩ := h1
    cases e1; cases e2
    exact h.1 _ _ _ _ h1), fun a1 a2 a3 a4 a5 a6 a7 a8 a9 a10 a11 a12 a13 h1 => (by
    obtain ⟨D', g, e1, e2, h1⟩ := h1
    cases e1; cases e2
    exact h.2 a1 a2 a3 a4 a5 a6 a7 a8 a9 a10 a11 a12 a13 h1)⟩
theorem chainL_yes {o : Bool} {f : List Str → Res} {n : Nat} {t t2 : PT} {ws r : List Str} (h : here ws = twoW o) (h2 : f ws.tail = .ok (t2, r)) : chainL o f (n + 1) t ws = chainL o f n (.two o t t2) r := by rw [chainL, if_pos h, h2]
theorem chainL_err {o : Bool} {f : List Str → Res} {n : Nat} {t : PT} {ws : List Str} {e : Nat × Str} (h : here ws = twoW o) (h2 : f ws.tail = .error e) : chainL o f (n + 1) t ws = .error e := by rw [chainL, if_pos h, h2]
theorem chainL_no {o : Bool} {f : List Str → Res} {n : Nat} {t : PT} {ws : List Str} (h : ¬ here ws = twoW o) : chainL o f n t ws = .ok (t, ws) := by
  cases n with
  | zero => rfl
  | succ n => rw [chainL, if_neg h]
theorem leaf_num {ws : List Str} {n : Int} {r : List Str} (h1 : here ws ∈ atomWs) (h2 : ¬ here ws = "all") (h3 : ¬ here ws ∈ ([("group" : Str), "key"] : List Str)) (h4 : here ws.tail ∈ signs5) (h : numF ws.tail.tail = .ok (n, r)) : leafF ws = .ok (.leaf (.cmp (decide (here ws = "amount")) (here ws.tail) n), r) := by
  unfold leafF
  rw [if_pos h1, if_neg h2, if_neg h3, if_pos h4, h]
theorem leaf_nerr {ws : List Str} {e : Nat × Str} (h1 : here ws ∈ atomWs) (h2 : ¬ here ws = "all") (h3 : ¬ here ws ∈ ([("group" : Str), "key"] : List Str)) (h4 : here ws.tail ∈ signs5) (h : numF ws.tail.tail = .error e) : leafF ws = .error e := by
  unfold leafF
  rw [if_pos h1, if_neg h2, if_neg h3, if_pos h4, h]
theorem cmpW_of {w : Str} (h1 : w ∈ atomWs) (h2 : ¬ w = "all") (h3 : ¬ w ∈ ([("group" : Str), "key"] : List Str)) : cmpW (decide (w = "amount")) = w := by
  unfold atomWs at h1
  simp only [List.mem_cons, List.not_mem_nil, or_false, not_or] at h1 h3
  unfold cmpW
  by_cases e : w = "amount"
  · rw [if_pos (decide_eq_true e), e]
  · rw [if_neg (by simpa using e)]
    rcases h1 with h | h | h | h | h
    · exact absurd h h2
    · exact h.symm
    · exact absurd h e
    · exact absurd h h3.1
    · exact absurd h h3.2
def spBr (C CE : Addr) (f : List Str → Res) (D : Nat) : Sp := fun vs H Q E => ∃ S L dx ts bh a ws dp, vs = [.ref S] ∧ RdAt C H S L dx ts bh a ws dp ∧ here ws = "(" ∧ dp + D = 20 ∧
  (∀ x r, f ws = .ok (x, r) → ∀ H' v a', Kp [S] H H' → RdAt C H' S L dx ts bh a' r dp → TrAt H' x v → Q v H') ∧
  (∀ l re, f ws = .error (l, re) → ∀ H' d, Kp [S] H H' → H' d = none → E (.ref CE) (some d) (upd H' d (.xd (flText [.int 1, .int (colR ts bh l : Int), .str re]))))
section
variable {P : Program} {w : World} {K : PySem.W.Frag} {mg : Str → Option Value} {base : Heap}
theorem both_ok (T : T P K mg) {D m : Nat} (hm : 4 ≤ m) {f : List Str → Res} (hf : Shr f) (hT : FnOk P w K mg base (L2.CX P w) m T.a_ConditionReader__turned T.fd_ConditionReader__turned ["self"] (spTree T.C_ConditionReader T.C_TextError f D)) : FnOk P w K mg base (L2.CX P w) (m + 1) T.a_ConditionReader__both T.fd_ConditionReader__both ["self"] (spTree T.C_ConditionReader T.C_TextError (chain false f) D) := by
  have ok_ConditionReader__turned := fun (_ : TT P K mg) => hT
  refine T.F_ConditionReader__both.okX sc_ConditionReader__both (fun vs H Q E h => ?_) (fun cdv A outer s H vs Q E hr h => ?_)
  · obtain ⟨S, L, dx, ts, bh, a, ws, dp, rfl, _⟩ := h
    rfl
  · obtain ⟨S, L, dx, ts, bh, a, ws, dp, rfl, hR, hdp, q, e⟩ := h
    refine ⟨_, (pss_cons (ps_set (i := 1) sc_ConditionReader__both.nd rfl (by first | exact Or.inl rfl | exact Or.inr rfl) (pe_meth0 (pv 0) T.cl_ConditionReader T.me_ConditionReader__turned (ok_ConditionReader__turned T) (hr.mono (by omega)) T.b_ConditionReader__turned .nil (passes_call (takes_of rfl rfl rfl rfl) (fun _ _ _ _ h => h))))
      (pss_cons (ps_while (passes_of rfl) (pt_cmpR op_eq (pe_meth0 (pv 0) T.cl_ConditionReader T.me_ConditionReader__here (ok_ConditionReader__here T) (hr.mono (by omega)) T.b_ConditionReader__here .nil pass0) pe_str (nomark _)) (pss_cons (ps_fldaug (pv 0) pe_int in_add)
      (pss_one (ps_set (i := 1) sc_ConditionReader__both.nd rfl (by first | exact Or.inl rfl | exact Or.inr rfl) (pe_tup (pa_cons pe_str (pa_cons (pv 1) (pa_cons (pe_meth0 (pv 0) T.cl_ConditionReader T.me_ConditionReader__turned (ok_ConditionReader__turned T) (hr.mono (by omega)) T.b_ConditionReader__turned .nil (passes_call (takes_of rfl rfl rfl rfl) (fun _ _ _ _ h => h))) pa_nil))))))))
      (pss_one (ps_ret (pv 1))))), ?_⟩
    walk_at "z0"
    walk_at "z"
    refine ⟨S, dx, _, rfl, hR.at_, rf_turned, ?_⟩
    refine ⟨S, L, dx, ts, bh, a, ws, dp, rfl, hR, hdp, fun t r hf1 H1 v a1 k1 hR1 hv => ?_, fun l re hf1 H1 d k1 hd => ?_⟩
    · have hC : chain false f ws = chainL false f r.length t r := by unfold chain; rw [hf1]
      walk_at "z"
      refine Z.wh (fun m σ' H' => ∃ (t : PT) (r : List Str) (v : V) (a1 : Nat), σ' = [some (.ref S), some v] ∧ r.length ≤ m ∧ Kp [S] H H' ∧ RdAt T.C_ConditionReader H' S L dx ts bh a1 r dp ∧ TrAt H' t v ∧ chain false f ws = chainL false f m t r) r.length ⟨t, r, v, a1, rfl, Nat.le_refl _, k1, hR1, hv, hC⟩ ?_
      rintro n σ' H2 ⟨t, r, v, a2, rfl, hn, k2, hR2, hv2, hC⟩
      walk_at "z"
      refine ⟨S, dx, _, rfl, hR2.at_, rf_here, ?_⟩
      refine ⟨S, L, dx, ts, bh, a2, r, dp, rfl, hR2, ?_⟩
      walk_at "z"
      refine Z.ite (fun h1 => ?_) (fun h1 => ?_)
      · refine Z.whb ?_
        have hne := here_ne h1 (by decide +kernel)
        have hpos : 0 < r.length := List.length_pos_iff.mpr hne
        obtain ⟨n, rfl⟩ : ∃ n', n = n' + 1 := ⟨n - 1, by omega⟩
        walk_at "z"
        refine ⟨S, _, dx, _, _, rfl, hR2.at_, T.cl_ConditionReader, T.na_ConditionReader__at, rf_a, ?_⟩
        walk_at "z"
        refine ⟨dx, _, hR2.at_, by show 4 < 1000; decide, ?_⟩
        walk_at "z"
        rw [rf_pa]
        have hR3 := hR2.step (e := dp) hne
        have k3 : Kp [S] H2 (upd H2 S (.ins T.C_ConditionReader dx (rf L bh ((a2 : Int) + 1) dp))) := Kp.put (by simp)
        have hv3 := hv2.kpS k3 hR2.at_
        refine ⟨S, dx, _, rfl, hR3.at_, rf_turned, ?_⟩
        refine ⟨S, L, dx, ts, bh, _, r.tail, dp, rfl, hR3, hdp, fun t2 r2 hf2 H4 v2 a4 k4 hR4 hv4 => ?_, fun l re hf2 H4 d k4 hd => ?_⟩
        · walk_at "z"
          refine Z.tupK (fun p H5 np k5 e5 => ?_)
          walk_at "z"
          have hCn := chainL_yes (n := n) (t := t) (show here r = twoW false from h1) hf2
          have hs := hf _ _ _ hf2
          rw [List.length_tail] at hs
          refine ⟨n, by omega, .two false t t2, r2, .ref p, a4, rfl, by omega, ((k2.trans k3).trans k4).trans (k5.sub (by simp)), hR4.kp k5, ⟨p, v, v2, rfl, e5, (hv3.kpS k4 hR3.at_).kp0 k5, hv4.kp0 k5⟩, by rw [hC, hCn]⟩
        · have hCn := chainL_err (n := n) (t := t) (show here r = twoW false from h1) hf2
          exact e l re (by rw [hC, hCn]) _ d ((k2.trans k3).trans k4) hd
      · walk_at "z"
        have hCn := chainL_no (n := n) (f := f) (t := t) (show ¬ here r = twoW false from h1)
        exact q t r (by rw [hC, hCn]) _ _ _ k2 hR2 hv2
    · exact e l re (by unfold chain; rw [hf1]) H1 d k1 hd
theorem either_ok (T : T P K mg) {D m : Nat} (hm : 4 ≤ m) {f : List Str → Res} (hf : Shr f) (hT : FnOk P w K mg base (L2.CX P w) m T.a_ConditionReader__both T.fd_ConditionReader__both ["self"] (spTree T.C_ConditionReader T.C_TextError f D)) : FnOk P w K mg base (L2.CX P w) (m + 1) T.a_ConditionReader__either T.fd_ConditionReader__either ["self"] (spTree T.C_ConditionReader T.C_TextError (chain true f) D) := by
  have ok_ConditionReader__both := fun (_ : TT P K mg) => hT
  refine T.F_ConditionReader__either.okX sc_ConditionReader__either (fun vs H Q E h => ?_) (fun cdv A outer s H vs Q E hr h => ?_)
  · obtain ⟨S, L, dx, ts, bh, a, ws, dp, rfl, _⟩ := h
    rfl
  · obtain ⟨S, L, dx, ts, bh, a, ws, dp, rfl, hR, hdp, q, e⟩ := h
    refine ⟨_, (pss_cons (ps_set (i := 1) sc_ConditionReader__either.nd rfl (by first | exact Or.inl rfl | exact Or.inr rfl) (pe_meth0 (pv 0) T.cl_ConditionReader T.me_ConditionReader__both (ok_ConditionReader__both T) (hr.mono (by omega)) T.b_ConditionReader__both .nil (passes_call (takes_of rfl rfl rfl rfl) (fun _ _ _ _ h => h))))
      (pss_cons (ps_while (passes_of rfl) (pt_cmpR op_eq (pe_meth0 (pv 0) T.cl_ConditionReader T.me_ConditionReader__here (ok_ConditionReader__here T) (hr.mono (by omega)) T.b_ConditionReader__here .nil pass0) pe_str (nomark _)) (pss_cons (ps_fldaug (pv 0) pe_int in_add)
      (pss_one (ps_set (i := 1) sc_ConditionReader__either.nd rfl (by first | exact Or.inl rfl | exact Or.inr rfl) (pe_tup (pa_cons pe_str (pa_cons (pv 1) (pa_cons (pe_meth0 (pv 0) T.cl_ConditionReader T.me_ConditionReader__both (ok_ConditionReader__both T) (hr.mono (by omega)) T.b_ConditionReader__both .nil (passes_call (takes_of rfl rfl rfl rfl) (fun _ _ _ _ h => h))) pa_nil))))))))
      (pss_one (ps_ret (pv 1))))), ?_⟩
    walk_at "z0"
    walk_at "z"
    refine ⟨S, dx, _, rfl, hR.at_, rf_both, ?_⟩
    refine ⟨S, L, dx, ts, bh, a, ws, dp, rfl, hR, hdp, fun t r hf1 H1 v a1 k1 hR1 hv => ?_, fun l re hf1 H1 d k1 hd => ?_⟩
    · have hC : chain true f ws = chainL true f r.length t r := by unfold chain; rw [hf1]
      walk_at "z"
      refine Z.wh (fun m σ' H' => ∃ (t : PT) (r : List Str) (v : V) (a1 : Nat), σ' = [some (.ref S), some v] ∧ r.length ≤ m ∧ Kp [S] H H' ∧ RdAt T.C_ConditionReader H' S L dx ts bh a1 r dp ∧ TrAt H' t v ∧ chain true f ws = chainL true f m t r) r.length ⟨t, r, v, a1, rfl, Nat.le_refl _, k1, hR1, hv, hC⟩ ?_
      rintro n σ' H2 ⟨t, r, v, a2, rfl, hn, k2, hR2, hv2, hC⟩
      walk_at "z"
      refine ⟨S, dx, _, rfl, hR2.at_, rf_here, ?_⟩
      refine ⟨S, L, dx, ts, bh, a2, r, dp, rfl, hR2, ?_⟩
      walk_at "z"
      refine Z.ite (fun h1 => ?_) (fun h1 => ?_)
      · refine Z.whb ?_
        have hne := here_ne h1 (by decide +kernel)
        have hpos : 0 < r.length := List.length_pos_iff.mpr hne
        obtain ⟨n, rfl⟩ : ∃ n', n = n' + 1 := ⟨n - 1, by omega⟩
        walk_at "z"
        refine ⟨S, _, dx, _, _, rfl, hR2.at_, T.cl_ConditionReader, T.na_ConditionReader__at, rf_a, ?_⟩
        walk_at "z"
        refine ⟨dx, _, hR2.at_, by show 4 < 1000; decide, ?_⟩
        walk_at "z"
        rw [rf_pa]
        have hR3 := hR2.step (e := dp) hne
        have k3 : Kp [S] H2 (upd H2 S (.ins T.C_ConditionReader dx (rf L bh ((a2 : Int) + 1) dp))) := Kp.put (by simp)
        have hv3 := hv2.kpS k3 hR2.at_
        refine ⟨S, dx, _, rfl, hR3.at_, rf_both, ?_⟩
        refine ⟨S, L, dx, ts, bh, _, r.tail, dp, rfl, hR3, hdp, fun t2 r2 hf2 H4 v2 a4 k4 hR4 hv4 => ?_, fun l re hf2 H4 d k4 hd => ?_⟩
        · walk_at "z"
          refine Z.tupK (fun p H5 np k5 e5 => ?_)
          walk_at "z"
          have hCn := chainL_yes (n := n) (t := t) (show here r = twoW true from h1) hf2
          have hs := hf _ _ _ hf2
          rw [List.length_tail] at hs
          refine ⟨n, by omega, .two true t t2, r2, .ref p, a4, rfl, by omega, ((k2.trans k3).trans k4).trans (k5.sub (by simp)), hR4.kp k5, ⟨p, v, v2, rfl, e5, (hv3.kpS k4 hR3.at_).kp0 k5, hv4.kp0 k5⟩, by rw [hC, hCn]⟩
        · have hCn := chainL_err (n := n) (t := t) (show here r = twoW true from h1) hf2
          exact e l re (by rw [hC, hCn]) _ d ((k2.trans k3).trans k4) hd
      · walk_at "z"
        have hCn := chainL_no (n := n) (f := f) (t := t) (show ¬ here r = twoW true from h1)
        exact q t r (by rw [hC, hCn]) _ _ _ k2 hR2 hv2
    · exact e l re (by unfold chain; rw [hf1]) H1 d k1 hd
theorem bracket_ok (T : T P K mg) {D m : Nat} (hm : 4 ≤ m) {f : Option (List Str → Res)} (hD : f = none ↔ D = 0) (hT : FnOk P w K mg base (L2.CX P w) m T.a_ConditionReader__either T.fd_ConditionReader__either ["self"] (spDn T.C_ConditionReader T.C_TextError f D)) : FnOk P w K mg base (L2.CX P w) (m + 1) T.a_ConditionReader__bracket T.fd_ConditionReader__bracket ["self"] (spBr T.C_ConditionReader T.C_TextError (brF f) D) := by
  have ok_ConditionReader__either := fun (_ : TT P K mg) => hT
  refine T.F_ConditionReader__bracket.okX sc_ConditionReader__bracket (fun vs H Q E h => ?_) (fun cdv A outer s H vs Q E hr h => ?_)
  · obtain ⟨S, L, dx, ts, bh, a, ws, dp, rfl, _⟩ := h
    rfl
  · obtain ⟨S, L, dx, ts, bh, a, ws, dp, rfl, hR, hp, hdp, q, e⟩ := h
    refine ⟨_, (pss_cons (ps_expr (pe_meth0 (pv 0) T.cl_ConditionReader T.me_ConditionReader__go_in (ok_ConditionReader__go_in T) (hr.mono (by omega)) T.b_ConditionReader__go_in .nil (passes_call (takes_of rfl rfl rfl rfl) (fun _ _ _ _ h => h))))
      (pss_cons (ps_set (i := 1) sc_ConditionReader__bracket.nd rfl (by first | exact Or.inl rfl | exact Or.inr rfl) (pe_meth0 (pv 0) T.cl_ConditionReader T.me_ConditionReader__either (ok_ConditionReader__either T) (hr.mono (by omega)) T.b_ConditionReader__either .nil (passes_call (takes_of rfl rfl rfl rfl) (fun _ _ _ _ h => h))))
      (pss_cons (ps_expr (pe_meth (pv 0) T.cl_ConditionReader T.me_ConditionReader__take (ok_ConditionReader__take T) (hr.mono (by omega)) T.b_ConditionReader__take .nil (passes_call (takes_of rfl rfl rfl rfl) (fun _ _ _ _ h => h)) (pa_cons (pe_cmpR op_eq (pe_meth0 (pv 0) T.cl_ConditionReader T.me_ConditionReader__here (ok_ConditionReader__here T) (hr.mono (by omega)) T.b_ConditionReader__here .nil pass0) pe_str (nomark _)) pa_nil)))
      (pss_cons (ps_fldaug (pv 0) pe_int in_sub)
      (pss_one (ps_ret (pv 1))))))), ?_⟩
    walk_at "z0"
    walk_at "z"
    refine ⟨S, dx, _, rfl, hR.at_, rf_go_in, ?_⟩
    refine ⟨S, L, dx, ts, bh, a, ws, dp, rfl, hR, by omega, fun hlt => ⟨here_ne hp (by decide +kernel), fun H1 k1 hR1 => ?_⟩, fun heq d hd => ?_⟩
    · cases f with
      | none => exact absurd (hD.mp rfl) (by omega)
      | some g =>
        obtain ⟨D, rfl⟩ : ∃ D', D = D' + 1 := ⟨D - 1, by omega⟩
        walk_at "z"
        refine ⟨S, dx, _, rfl, hR1.at_, rf_either, ?_⟩
        refine ⟨D, g, rfl, rfl, S, L, dx, ts, bh, _, ws.tail, dp + 1, rfl, hR1, by omega, fun t r hf1 H2 v a2 k2 hR2 hv => ?_, fun l re hf1 H2 d k2 hd => ?_⟩
        · walk_at "z"
          refine ⟨S, dx, _, rfl, hR2.at_, rf_take, ?_⟩
          walk_at "z"
          refine ⟨S, dx, _, rfl, hR2.at_, rf_here, ?_⟩
          refine ⟨S, L, dx, ts, bh, a2, r, dp + 1, rfl, hR2, ?_⟩
          walk_at "z"
          have hB : brF (some g) ws = if here r = ")" then .ok (t, r.tail) else .error (r.length, "expected") := by
            unfold brF
            simp only [hf1]
          refine ⟨S, L, dx, ts, bh, a2, r, dp + 1, _, rfl, hR2, fun hb => ?_, fun hb d hd => ?_⟩
          · have hb' : here r = ")" := of_decide_eq_true hb
            refine ⟨here_ne hb' (by decide +kernel), fun H3 k3 hR3 => ?_⟩
            walk_at "z"
            refine ⟨S, _, dx, _, _, rfl, hR3.at_, T.cl_ConditionReader, T.na_ConditionReader__depth, rf_d, ?_⟩
            walk_at "z"
            refine ⟨_, _, rfl, rfl, ?_⟩
            refine ⟨dx, _, hR3.at_, by show 4 < 1000; decide, ?_⟩
            walk_at "z"
            rw [rf_pd, show ((dp + 1 : Nat) : Int) - 1 = (dp : Int) by omega]
            rw [if_pos hb'] at hB
            have k4 : Kp [S] H3 (upd H3 S (.ins T.C_ConditionReader dx (rf L bh ((a2 + 1 : Nat) : Int) dp))) := Kp.put (by simp)
            refine q t r.tail hB _ v _ (((k1.trans k2).trans k3).trans k4) (hR3.put (e := dp) hR3.len hR3.ws) ((hv.kpS k3 hR2.at_).kpS k4 hR3.at_)
          · have hb' : ¬ here r = ")" := of_decide_eq_false hb
            rw [if_neg hb'] at hB
            exact e _ _ hB _ d (k1.trans k2) hd
        · exact e l re (by unfold brF; simp only [hf1]) _ d (k1.trans k2) hd
    · cases f with
      | some g => exact absurd (hD.mpr (by omega)) (by simp)
      | none => exact e ws.length "deep" rfl _ d (Kp.refl _) hd
theorem atom_ok (T : T P K mg) {D m : Nat} (hm : 5 ≤ m) {f : List Str → Res} (hT : FnOk P w K mg base (L2.CX P w) m T.a_ConditionReader__bracket T.fd_ConditionReader__bracket ["self"] (spBr T.C_ConditionReader T.C_TextError f D)) : FnOk P w K mg base (L2.CX P w) (m + 1) T.a_ConditionReader__atom T.fd_ConditionReader__atom ["self"] (spTree T.C_ConditionReader T.C_TextError (atomF f) D) := by
  have ok_ConditionReader__bracket := fun (_ : TT P K mg) => hT
  have ok_ConditionReader__number := fun (T : TT P K mg) => number_ok (w := w) (base := base) T D
  refine T.F_ConditionReader__atom.okX sc_ConditionReader__atom (fun vs H Q E h => ?_) (fun cdv A outer s H vs Q E hr h => ?_)
  · obtain ⟨S, L, dx, ts, bh, a, ws, dp, rfl, _⟩ := h
    rfl
  · obtain ⟨S, L, dx, ts, bh, a, ws, dp, rfl, hR, hdp, q, e⟩ := h
    refine ⟨_, (pss_cons (ps_if (pt_cmpR op_eq (pe_meth0 (pv 0) T.cl_ConditionReader T.me_ConditionReader__here (ok_ConditionReader__here T) (hr.mono (by omega)) T.b_ConditionReader__here .nil pass0) pe_str (nomark _)) (pss_one (ps_ret (pe_meth0 (pv 0) T.cl_ConditionReader T.me_ConditionReader__bracket (ok_ConditionReader__bracket T) (hr.mono (by omega)) T.b_ConditionReader__bracket .nil (passes_call (takes_of rfl rfl rfl rfl) (fun _ _ _ _ h => h))))) pss_nil)
      (pss_cons (ps_set (i := 1) sc_ConditionReader__atom.nd rfl (by first | exact Or.inl rfl | exact Or.inr rfl) (pe_meth (pv 0) T.cl_ConditionReader T.me_ConditionReader__take (ok_ConditionReader__take T) (hr.mono (by omega)) T.b_ConditionReader__take .nil (passes_call (takes_of rfl rfl rfl rfl) (fun _ _ _ _ h => h)) (pa_cons (pe_cmpR op_in_seq (pe_meth0 (pv 0) T.cl_ConditionReader T.me_ConditionReader__here (ok_ConditionReader__here T) (hr.mono (by omega)) T.b_ConditionReader__here .nil pass0) (pe_glob (v := .ref T.k_ATOM_WORDS) (by rfl) T.g_ATOM_WORDS rfl) rfl) pa_nil)))
      (pss_cons (ps_if (pt_cmpR op_eq (pv 1) pe_str (nomark _)) (pss_one (ps_ret (pe_tup (pa_cons pe_str pa_nil)))) pss_nil)
      (pss_cons (ps_if (pt_cmpR op_in_seq (pv 1) (pe_tup (pa_cons pe_str (pa_cons pe_str pa_nil))) rfl) (pss_one (ps_ret (pe_tup (pa_cons (pv 1) (pa_cons (pe_meth (pv 0) T.cl_ConditionReader T.me_ConditionReader__take (ok_ConditionReader__take T) (hr.mono (by omega)) T.b_ConditionReader__take .nil (passes_call (takes_of rfl rfl rfl rfl) (fun _ _ _ _ h => h)) (pa_cons (pe_call (ok_is_name T) (hr.mono (by omega)) (by rfl) T.g_is_name T.F_is_name.kp T.b_is_name .nil pass0 (pa_cons (pe_meth0 (pv 0) T.cl_ConditionReader T.me_ConditionReader__here (ok_ConditionReader__here T) (hr.mono (by omega)) T.b_ConditionReader__here .nil pass0) pa_nil)) pa_nil)) pa_nil))))) pss_nil)
      (pss_cons (ps_set (i := 2) sc_ConditionReader__atom.nd rfl (by first | exact Or.inl rfl | exact Or.inr rfl) (pe_meth (pv 0) T.cl_ConditionReader T.me_ConditionReader__take (ok_ConditionReader__take T) (hr.mono (by omega)) T.b_ConditionReader__take .nil (passes_call (takes_of rfl rfl rfl rfl) (fun _ _ _ _ h => h)) (pa_cons (pe_cmpR op_in_seq (pe_meth0 (pv 0) T.cl_ConditionReader T.me_ConditionReader__here (ok_ConditionReader__here T) (hr.mono (by omega)) T.b_ConditionReader__here .nil pass0) (pe_glob (v := .ref T.k_COMPARING) (by rfl) T.g_COMPARING rfl) rfl) pa_nil)))
      (pss_one (ps_ret (pe_tup (pa_cons (pv 1) (pa_cons (pv 2) (pa_cons (pe_meth0 (pv 0) T.cl_ConditionReader T.me_ConditionReader__number (ok_ConditionReader__number T) (hr.mono (by omega)) T.b_ConditionReader__number .nil (passes_call (takes_of rfl rfl rfl rfl) (fun _ _ _ _ h => h))) pa_nil))))))))))), ?_⟩
    walk_at "z0"
    walk_at "z"
    refine ⟨S, dx, _, rfl, hR.at_, rf_here, ?_⟩
    refine ⟨S, L, dx, ts, bh, a, ws, dp, rfl, hR, ?_⟩
    walk_at "z"
    refine Z.ite (fun h1 => ?_) (fun h1 => ?_)
    · have hA : atomF f ws = f ws := by unfold atomF; rw [if_pos h1]
      walk_at "z"
      refine ⟨S, dx, _, rfl, hR.at_, rf_bracket, ?_⟩
      refine ⟨S, L, dx, ts, bh, a, ws, dp, rfl, hR, h1, hdp, fun t r hf1 H2 v a2 k2 hR2 hv => ?_, fun l re hf1 H2 d k2 hd => ?_⟩
      · walk_at "z"
        exact q t r (by rw [hA, hf1]) _ v _ k2 hR2 hv
      · exact e l re (by rw [hA, hf1]) _ d k2 hd
    · have hA : atomF f ws = leafF ws := by unfold atomF; rw [if_neg h1]
      walk_at "z"
      refine ⟨S, dx, _, rfl, hR.at_, rf_take, ?_⟩
      walk_at "z"
      refine ⟨S, dx, _, rfl, hR.at_, rf_here, ?_⟩
      refine ⟨S, L, dx, ts, bh, a, ws, dp, rfl, hR, ?_⟩
      walk_at "z"
      refine Z.inq (xs := atomWs.map V.str) (.inr (T.q_ATOM_WORDS _)) rfl Z.strs_flat ?_
      rw [if_neg Bool.false_ne_true, Z.inV_strs]
      walk_at "z"
      refine ⟨S, L, dx, ts, bh, a, ws, dp, _, rfl, hR, fun hb => ?_, fun hb d hd => ?_⟩
      · have hb' : here ws ∈ atomWs := of_decide_eq_true hb
        refine ⟨here_ne (w := here ws) rfl (fun z => by rw [z] at hb'; revert hb'; decide +kernel), fun H1 k1 hR1 => ?_⟩
        walk_at "z"
        refine Z.ite (fun h2 => ?_) (fun h2 => ?_)
        · walk_at "z"
          refine Z.tupK (fun p H2 np k2 e2 => ?_)
          walk_at "z"
          exact q (.leaf .all) ws.tail (by rw [hA]; unfold leafF; rw [if_pos hb', if_pos h2]) _ _ _ (k1.trans (k2.sub (by simp))) (hR1.kp k2) ⟨p, rfl, e2⟩
        · walk_at "z"
          refine Z.tupK (fun p H2 np k2 e2 => ?_)
          refine Z.inq (xs := ([("group" : Str), "key"] : List Str).map V.str) (.inr (tupT e2)) rfl Z.strs_flat ?_
          rw [if_neg Bool.false_ne_true, Z.inV_strs]
          walk_at "z"
          have hR2 := hR1.kp k2
          refine Z.ite (fun h3 => ?_) (fun h3 => ?_)
          · walk_at "z"
            refine ⟨S, dx, _, rfl, hR2.at_, rf_take, ?_⟩
            walk_at "z"
            refine ⟨S, dx, _, rfl, hR2.at_, rf_here, ?_⟩
            refine ⟨S, L, dx, ts, bh, _, ws.tail, dp, rfl, hR2, ?_⟩
            refine ⟨here ws.tail, rfl, Nat.le_trans (here_sz hR2) (by decide), ?_⟩
            walk_at "z"
            refine ⟨S, L, dx, ts, bh, _, ws.tail, dp, _, rfl, hR2, fun hc => ?_, fun hc d hd => ?_⟩
            · refine ⟨here_ne (w := here ws.tail) rfl (fun z => by rw [z] at hc; revert hc; decide +kernel), fun H3 k3 hR3 => ?_⟩
              walk_at "z"
              refine Z.tupK (fun p H5 np k5 e5 => ?_)
              walk_at "z"
              refine q (.leaf (if here ws = "group" then .grp (here ws.tail) else .key (here ws.tail))) ws.tail.tail (by rw [hA]; unfold leafF; rw [if_pos hb', if_neg h2, if_pos h3, if_pos hc]) _ _ _ (((k1.trans (k2.sub (by simp))).trans k3).trans (k5.sub (by simp))) (hR3.kp k5) ⟨p, rfl, ?_⟩
              by_cases hg : here ws = "group"
              · rw [if_pos hg, e5, hg]; rfl
              · rw [if_neg hg, e5]
                have : here ws = "key" := by simpa [hg] using h3
                rw [this]; rfl
            · exact e _ _ (by rw [hA]; unfold leafF; rw [if_pos hb', if_neg h2, if_pos h3, if_neg (by rw [hc]; decide)]) _ d (k1.trans (k2.sub (by simp))) hd
          · walk_at "z"
            refine ⟨S, dx, _, rfl, hR2.at_, rf_take, ?_⟩
            walk_at "z"
            refine ⟨S, dx, _, rfl, hR2.at_, rf_here, ?_⟩
            refine ⟨S, L, dx, ts, bh, _, ws.tail, dp, rfl, hR2, ?_⟩
            walk_at "z"
            refine Z.inq (xs := signs5.map V.str) (.inr (T.q_COMPARING _)) rfl Z.strs_flat ?_
            rw [if_neg Bool.false_ne_true, Z.inV_strs]
            walk_at "z"
            refine ⟨S, L, dx, ts, bh, _, ws.tail, dp, _, rfl, hR2, fun hc => ?_, fun hc d hd => ?_⟩
            · have hc' : here ws.tail ∈ signs5 := of_decide_eq_true hc
              refine ⟨here_ne (w := here ws.tail) rfl (fun z => by rw [z] at hc'; revert hc'; decide +kernel), fun H3 k3 hR3 => ?_⟩
              walk_at "z"
              refine ⟨S, dx, _, rfl, hR3.at_, rf_number, ?_⟩
              refine ⟨S, L, dx, ts, bh, _, ws.tail.tail, dp, rfl, hR3, hdp, fun n r hn H4 v a4 k4 hR4 hv => ?_, fun l re hn H4 d k4 hd => ?_⟩
              · obtain rfl : v = .int n := hv
                walk_at "z"
                refine Z.tupK (fun p H5 np k5 e5 => ?_)
                walk_at "z"
                refine q (.leaf (.cmp (decide (here ws = "amount")) (here ws.tail) n)) r (by rw [hA]; exact leaf_num hb' h2 h3 hc' hn) _ _ _ ((((k1.trans (k2.sub (by simp))).trans k3).trans k4).trans (k5.sub (by simp))) (hR4.kp k5) ⟨p, rfl, ?_⟩
                show H5 p = some (.tup [.str (cmpW (decide (here ws = "amount"))), .str (here ws.tail), .int n])
                rw [cmpW_of hb' h2 h3]
                exact e5
              · exact e l re (by rw [hA]; exact leaf_nerr hb' h2 h3 hc' hn) _ d (((k1.trans (k2.sub (by simp))).trans k3).trans k4) hd
            · have hc' : ¬ here ws.tail ∈ signs5 := of_decide_eq_false hc
              exact e _ _ (by rw [hA]; unfold leafF; rw [if_pos hb', if_neg h2, if_neg h3, if_neg hc']) _ d (k1.trans (k2.sub (by simp))) hd
      · have hb' : ¬ here ws ∈ atomWs := of_decide_eq_false hb
        exact e _ _ (by rw [hA]; unfold leafF; rw [if_neg hb']) _ d (Kp.refl _) hd
theorem turned_ok (T : T P K mg) {D m : Nat} (hm : 6 ≤ m) {dn : Option (List Str → Res)} (hD : dn = none ↔ D = 0) (hT : FnOk P w K mg base (L2.CX P w) m T.a_ConditionReader__turned T.fd_ConditionReader__turned ["self"] (spDn T.C_ConditionReader T.C_TextError dn D)) (hA : FnOk P w K mg base (L2.CX P w) m T.a_ConditionReader__atom T.fd_ConditionReader__atom ["self"] (spTree T.C_ConditionReader T.C_TextError (atomF (brF (dn.map fun f => chain true (chain false f)))) D)) : FnOk P w K mg base (L2.CX P w) (m + 1) T.a_ConditionReader__turned T.fd_ConditionReader__turned ["self"] (spTree T.C_ConditionReader T.C_TextError (turnS dn) D) := by
  have ok_ConditionReader__turned := fun (_ : TT P K mg) => hT
  have ok_ConditionReader__atom := fun (_ : TT P K mg) => hA
  refine T.F_ConditionReader__turned.okX sc_ConditionReader__turned (fun vs H Q E h => ?_) (fun cdv A outer s H vs Q E hr h => ?_)
  · obtain ⟨S, L, dx, ts, bh, a, ws, dp, rfl, _⟩ := h
    rfl
  · obtain ⟨S, L, dx, ts, bh, a, ws, dp, rfl, hR, hdp, q, e⟩ := h
    refine ⟨_, (pss_cons (ps_if (pt_cmpR op_ne (pe_meth0 (pv 0) T.cl_ConditionReader T.me_ConditionReader__here (ok_ConditionReader__here T) (hr.mono (by omega)) T.b_ConditionReader__here .nil pass0) pe_str (nomark _)) (pss_one (ps_ret (pe_meth0 (pv 0) T.cl_ConditionReader T.me_ConditionReader__atom (ok_ConditionReader__atom T) (hr.mono (by omega)) T.b_ConditionReader__atom .nil (passes_call (takes_of rfl rfl rfl rfl) (fun _ _ _ _ h => h))))) pss_nil)
      (pss_cons (ps_expr (pe_meth0 (pv 0) T.cl_ConditionReader T.me_ConditionReader__go_in (ok_ConditionReader__go_in T) (hr.mono (by omega)) T.b_ConditionReader__go_in .nil (passes_call (takes_of rfl rfl rfl rfl) (fun _ _ _ _ h => h))))
      (pss_cons (ps_set (i := 1) sc_ConditionReader__turned.nd rfl (by first | exact Or.inl rfl | exact Or.inr rfl) (pe_meth0 (pv 0) T.cl_ConditionReader T.me_ConditionReader__turned (ok_ConditionReader__turned T) (hr.mono (by omega)) T.b_ConditionReader__turned .nil (passes_call (takes_of rfl rfl rfl rfl) (fun _ _ _ _ h => h))))
      (pss_cons (ps_fldaug (pv 0) pe_int in_sub)
      (pss_one (ps_ret (pe_tup (pa_cons pe_str (pa_cons (pv 1) pa_nil))))))))), ?_⟩
    walk_at "z0"
    walk_at "z"
    refine ⟨S, dx, _, rfl, hR.at_, rf_here, ?_⟩
    refine ⟨S, L, dx, ts, bh, a, ws, dp, rfl, hR, ?_⟩
    walk_at "z"
    by_cases h1 : here ws = "not"
    · rw [if_neg (show ¬ (!decide (here ws = "not")) = true by simp [h1])]
      walk_at "z"
      refine ⟨S, dx, _, rfl, hR.at_, rf_go_in, ?_⟩
      refine ⟨S, L, dx, ts, bh, a, ws, dp, rfl, hR, by omega, fun hlt => ⟨here_ne h1 (by decide +kernel), fun H1 k1 hR1 => ?_⟩, fun heq d hd => ?_⟩
      · cases dn with
        | none => exact absurd (hD.mp rfl) (by omega)
        | some g =>
          obtain ⟨D, rfl⟩ : ∃ D', D = D' + 1 := ⟨D - 1, by omega⟩
          walk_at "z"
          refine ⟨S, dx, _, rfl, hR1.at_, rf_turned, ?_⟩
          refine ⟨D, g, rfl, rfl, S, L, dx, ts, bh, _, ws.tail, dp + 1, rfl, hR1, by omega, fun t r hf1 H2 v a2 k2 hR2 hv => ?_, fun l re hf1 H2 d k2 hd => ?_⟩
          · walk_at "z"
            refine ⟨S, _, dx, _, _, rfl, hR2.at_, T.cl_ConditionReader, T.na_ConditionReader__depth, rf_d, ?_⟩
            walk_at "z"
            refine ⟨_, _, rfl, rfl, ?_⟩
            refine ⟨dx, _, hR2.at_, by show 4 < 1000; decide, ?_⟩
            walk_at "z"
            rw [rf_pd, show ((dp + 1 : Nat) : Int) - 1 = (dp : Int) by omega]
            have k4 : Kp [S] H2 (upd H2 S (.ins T.C_ConditionReader dx (rf L bh (a2 : Int) dp))) := Kp.put (by simp)
            have hR3 := hR2.put (e := dp) hR2.len hR2.ws
            refine Z.tupK (fun p H5 np k5 e5 => ?_)
            walk_at "z"
            refine q (.neg t) r (by unfold turnS; rw [if_pos h1]; simp only [hf1]) _ _ _ (((k1.trans k2).trans k4).trans (k5.sub (by simp))) (hR3.kp k5) ⟨p, v, rfl, e5, (hv.kpS k4 hR2.at_).kp0 k5⟩
          · exact e l re (by unfold turnS; rw [if_pos h1]; simp only [hf1]) _ d (k1.trans k2) hd
      · cases dn with
        | some g => exact absurd (hD.mpr (by omega)) (by simp)
        | none => exact e ws.length "deep" (by unfold turnS; rw [if_pos h1]) _ d (Kp.refl _) hd
    · rw [if_pos (show (!decide (here ws = "not")) = true by simp [h1])]
      have hS : turnS dn ws = atomF (brF (dn.map fun f => chain true (chain false f))) ws := by unfold turnS; rw [if_neg h1]
      walk_at "z"
      refine ⟨S, dx, _, rfl, hR.at_, rf_atom, ?_⟩
      refine ⟨S, L, dx, ts, bh, a, ws, dp, rfl, hR, hdp, fun t r hf1 H2 v a2 k2 hR2 hv => ?_, fun l re hf1 H2 d k2 hd => ?_⟩
      · walk_at "z"
        exact q t r (by rw [hS, hf1]) _ _ _ k2 hR2 hv
      · exact e l re (by rw [hS, hf1]) _ d k2 hd
theorem turnF_ok (T : T P K mg) : ∀ D, FnOk P w K mg base (L2.CX P w) (5 * D + 8) T.a_ConditionReader__turned T.fd_ConditionReader__turned ["self"] (spTree T.C_ConditionReader T.C_TextError (turnF D) D)
  | 0 => turned_ok T (m := 7) (by omega) ⟨fun _ => rfl, fun _ => rfl⟩ no_fn ((atom_ok T (m := 6) (by omega) (bracket_ok T (m := 5) (by omega) ⟨fun _ => rfl, fun _ => rfl⟩ no_fn)).mono (by omega))
  | D + 1 => by
    have ih := turnF_ok T D
    have hb := both_ok T (by omega) (turnF_shr D) ih
    have he := either_ok T (by omega) (chain_shr (turnF_shr D)) hb
    have hr := bracket_ok T (by omega) ⟨fun h => (by cases h), fun h => absurd h (by omega)⟩ (dn_fn he)
    have ha := atom_ok T (by omega) hr
    exact turned_ok T (m := 5 * D + 12) (by omega) (dn := some (turnF D)) ⟨fun h => (by cases h), fun h => absurd h (by omega)⟩ (dn_fn (ih.mono (by omega))) ha
end

/-! ### whole conditions -/
def topF (ws : List Str) : Res := chain true (chain false (turnF 20)) ws
def wholeF (ws : List Str) : Except (Nat × Str) PT := match topF ws with
  | .ok (t, r) => if r = [] then .ok t else .error (r.length, "expected")
  | .error e => .error e
section
variable {P : Program} {w : World} {K : PySem.W.Frag} {mg : Str → Option Value} {base : Heap}
theorem ok_ConditionReader__either (T : T P K mg) : FnOk P w K mg base (L2.CX P w) 120 T.a_ConditionReader__either T.fd_ConditionReader__either ["self"] (spTree T.C_ConditionReader T.C_TextError topF 20) :=
  (either_ok T (m := 119) (by omega) (chain_shr (turnF_shr 20)) ((both_ok T (by omega) (turnF_shr 20) (turnF_ok T 20)).mono (by omega)))
def spWhole (C CE : Addr) : Sp := fun vs H Q E => ∃ S L dx ts bh a ws, vs = [.ref S] ∧ RdAt C H S L dx ts bh a ws 0 ∧
  (∀ t, wholeF ws = .ok t → ∀ H' v, Kp [S] H H' → TrAt H' t v → Q v H') ∧
  (∀ l re, wholeF ws = .error (l, re) → ∀ H' d, Kp [S] H H' → H' d = none → E (.ref CE) (some d) (upd H' d (.xd (flText [.int 1, .int (colR ts bh l : Int), .str re]))))
theorem ok_ConditionReader_whole (T : T P K mg) : FnOk P w K mg base (L2.CX P w) 121 T.a_ConditionReader_whole T.fd_ConditionReader_whole ["self"] (spWhole T.C_ConditionReader T.C_TextError) := by
  refine T.F_ConditionReader_whole.okX sc_ConditionReader_whole (fun vs H Q E h => ?_) (fun cdv A outer s H vs Q E hr h => ?_)
  · obtain ⟨S, L, dx, ts, bh, a, ws, rfl, _⟩ := h
    rfl
  · obtain ⟨S, L, dx, ts, bh, a, ws, rfl, hR, q, e⟩ := h
    refine ⟨_, (pss_cons (ps_set (i := 1) sc_ConditionReader_whole.nd rfl (by first | exact Or.inl rfl | exact Or.inr rfl) (pe_meth0 (pv 0) T.cl_ConditionReader T.me_ConditionReader__either (ok_ConditionReader__either T) (hr.mono (by omega)) T.b_ConditionReader__either .nil (passes_call (takes_of rfl rfl rfl rfl) (fun _ _ _ _ h => h))))
      (Z.pss_consJ (ps_if (pt_cmpR op_lt (pe_fld (pv 0) rfl) (pe_callB c_len (by rfl) T.z_len (by decide +kernel) (pa_cons (pe_fld (pv 0) rfl) pa_nil)) (nomark _)) (pss_one (ps_expr (pe_meth (pv 0) T.cl_ConditionReader T.me_ConditionReader__refuse (ok_ConditionReader__refuse T) (hr.mono (by omega)) T.b_ConditionReader__refuse .nil (passes_call (takes_of rfl rfl rfl rfl) (fun _ _ _ _ h => h)) (pa_cons pe_str pa_nil)))) pss_nil)
      (pss_one (ps_ret (pv 1))))), ?_⟩
    walk_at "z0"
    walk_at "z"
    refine ⟨S, dx, _, rfl, hR.at_, rf_either, ?_⟩
    refine ⟨S, L, dx, ts, bh, a, ws, 0, rfl, hR, rfl, fun t r hf1 H1 v a1 k1 hR1 hv => ?_, fun l re hf1 H1 d k1 hd => ?_⟩
    · have hW : wholeF ws = if r = [] then .ok t else .error (r.length, "expected") := by
        unfold wholeF
        simp only [hf1]
      have hlen := hR1.ok.len
      have hl1 := hR1.len
      walk_at "z"
      refine Z.seqJ (fun σ' H' => r = [] ∧ σ' = [some (.ref S), some v] ∧ H' = H1) ?_ ?_
      · rintro σ' H' ⟨hr0, rfl, rfl⟩
        walk_at "z"
        rw [if_pos hr0] at hW
        exact q t hW _ _ k1 hv
      · intro N jn
        walk_at "z"
        refine ⟨S, _, dx, _, _, rfl, hR1.at_, T.cl_ConditionReader, T.na_ConditionReader__at, rf_a, ?_⟩
        walk_at "z"
        refine ⟨S, _, dx, _, _, rfl, hR1.at_, T.cl_ConditionReader, T.na_ConditionReader__tokens, rf_t, ?_⟩
        walk_at "z"
        refine Z.lenL (lstL hR1.l) ?_
        walk_at "z"
        rw [tkrefs_len]
        refine Z.ite (fun h1 => ?_) (fun h1 => ?_)
        · walk_at "z"
          refine ⟨S, dx, _, rfl, hR1.at_, rf_refuse, ?_⟩
          walk_at "z"
          rw [if_neg (fun z => by rw [z] at hl1; simp at hl1; omega)] at hW
          exact ⟨S, L, dx, ts, bh, a1, r, 0, "expected", rfl, hR1, by decide +kernel, fun d hd => e _ _ hW _ d k1 hd⟩
        · walk_at "z"
          exact jn _ _ ⟨List.length_eq_zero_iff.mp (by omega), rfl, rfl⟩
    · exact e l re (by unfold wholeF; simp only [hf1]) H1 d k1 hd
end
theorem toks_ok : ∀ {n : Nat} {s : List Nat} {a : Nat} {l : List (Str × Nat)}, toks n s a = .ok l → l.length ≤ s.length ∧ ∀ x ∈ l, x.2 ≤ a + s.length ∧ x.1.cps.size ≤ s.length
  | 0, s, a, l, h => by
    rw [toks] at h
    cases h
    exact ⟨Nat.zero_le _, fun x hx => by cases hx⟩
  | n + 1, [], a, l, h => by
    rw [toks] at h
    cases h
    exact ⟨Nat.zero_le _, fun x hx => by cases hx⟩
  | n + 1, c :: r, a, l, h => by
    rw [toks] at h
    by_cases h0 : c = 32
    · rw [if_pos h0] at h
      obtain ⟨h1, h2⟩ := toks_ok h
      refine ⟨by rw [List.length_cons]; omega, fun x hx => ?_⟩
      have := h2 x hx
      rw [List.length_cons]
      omega
    · rw [if_neg h0] at h
      cases hw : wordLen (c :: r) with
      | none => rw [hw] at h; cases h
      | some k =>
        rw [hw] at h
        have hk := wordLen_pos hw (by simp)
        dsimp only at h
        cases ht : toks n ((c :: r).drop k) (a + k) with
        | error e => rw [ht] at h; cases h
        | ok m =>
          rw [ht] at h
          cases h
          obtain ⟨h1, h2⟩ := toks_ok ht
          rw [List.length_drop] at h1 h2
          refine ⟨by rw [List.length_cons (as := m)]; omega, fun x hx => ?_⟩
          rcases List.mem_cons.mp hx with rfl | hx
          · refine ⟨?_, ?_⟩
            · show a + 1 ≤ _
              rw [List.length_cons]; omega
            · show (List.take k (c :: r)).toArray.size ≤ _
              rw [List.size_toArray, List.length_take]; omega
          · have := h2 x hx
            omega
def spRInit (C CE : Addr) : Sp := fun vs H Q E => ∃ S dx z, vs = [.ref S, .str z] ∧ H S = some (.ins C dx []) ∧ z.cps.size ≤ 2000 ∧
  (∀ l, toks (z.cps.size + 1) z.cps.toList 0 = .ok l → ∀ H' L ts, Kp [S] H H' → RdAt C H' S L dx ts (z.cps.size + 1) 0 (l.map Prod.fst) 0 → tkw ts = l → Q .non H') ∧
  (∀ c, toks (z.cps.size + 1) z.cps.toList 0 = .error c → ∀ H' d, Kp [] H H' → H' d = none → E (.ref CE) (some d) (upd H' d (.xd (flText [.int 1, .int (c : Int), .str "character"]))))
theorem ok_ConditionReader_init {P : Program} {w : World} {K : PySem.W.Frag} {mg : Str → Option Value} {base : Heap} (T : T P K mg) : FnOk P w K mg base (L2.CX P w) 4 T.a_ConditionReader_init T.fd_ConditionReader_init ["self", "text"] (spRInit T.C_ConditionReader T.C_TextError) := by
  refine T.F_ConditionReader_init.okX sc_ConditionReader_init (fun vs H Q E h => ?_) (fun cdv A outer s H vs Q E hr h => ?_)
  · obtain ⟨S, dx, z, rfl, _⟩ := h
    rfl
  · obtain ⟨S, dx, z, rfl, hS, hz, q, e⟩ := h
    refine ⟨_, (pss_cons (ps_fld (pv 0) (pe_call (ok_tokens_of T) (hr.mono (by decide)) (by rfl) T.g_tokens_of T.F_tokens_of.kp T.b_tokens_of .nil (passes_call (takes_of rfl rfl rfl rfl) (fun _ _ _ _ h => h)) (pa_cons (pv 1) pa_nil)) rfl)
      (pss_cons (ps_fld (pv 0) (pe_op op_add (pe_callB c_lens (by rfl) T.z_len (by decide +kernel) (pa_cons (pv 1) pa_nil)) pe_int) rfl)
      (pss_cons (ps_fld (pv 0) pe_int rfl)
      (pss_one (ps_fld (pv 0) pe_int rfl))))), ?_⟩
    have hzl : z.cps.toList.length = z.cps.size := Array.length_toList
    walk_at "z0"
    walk_at "z"
    refine ⟨z, rfl, by omega, fun l hl H1 d ts nd k1 e1 hT hts => ?_, fun c hc H1 d k1 hd => ?_⟩
    · have hS1 := k1.get nin0 hS
      have nSd : S ≠ d := ne_of_none hS nd
      walk_at "z"
      refine ⟨S, _, dx, [], rfl, hS1, T.cl_ConditionReader, T.na_ConditionReader__tokens, by decide, ?_⟩
      walk_at "z"
      refine Z.lenS (Nat.le_trans hz (by decide)) ?_
      walk_at "z"
      refine ⟨S, _, dx, _, rfl, upd_same, T.cl_ConditionReader, T.na_ConditionReader__behind, by show 1 < 1000; decide, ?_⟩
      walk_at "z"
      refine ⟨S, _, dx, _, rfl, upd_same, T.cl_ConditionReader, T.na_ConditionReader__at, by show 2 < 1000; decide, ?_⟩
      walk_at "z"
      refine ⟨S, _, dx, _, rfl, upd_same, T.cl_ConditionReader, T.na_ConditionReader__depth, by show 3 < 1000; decide, ?_⟩
      walk_at "z"
      rw [upd_upd, upd_upd, upd_upd]
      have hf : ∀ H : Hp, upd H S (.ins T.C_ConditionReader dx (putF "_depth" (.int 0) (putF "_at" (.int 0) (putF "_behind" (.int ((z.cps.size : Int) + 1)) (putF "_tokens" (.ref d) []))))) = upd H S (.ins T.C_ConditionReader dx (rf d ((z.cps.size + 1 : Nat) : Int) ((0 : Nat) : Int) ((0 : Nat) : Int))) := fun H => by rw [rf_mk]; rfl
      obtain ⟨h1, h2⟩ := toks_ok hl
      rw [hzl] at h1 h2
      have hlt : l.length = ts.length := by rw [← hts]; unfold tkw; rw [List.length_map]
      refine q l hl _ d ts (k1.sub (by simp) |>.trans (Kp.put (M := [S]) (by simp))) ?_ hts
      rw [hf]
      refine ⟨by rw [List.length_map]; omega, by rw [List.drop_zero, ← hts]; unfold tkw; rw [List.map_map]; rfl, upd_same, (upd_ne nSd.symm).trans e1, fun t ht => ?_, ⟨by omega, by omega, fun t ht => ?_, fun t ht => ?_⟩⟩
      · have := hT t ht
        unfold TkAt at this ⊢
        exact (upd_ne (ne_of this hS1 (by intro e; cases e))).trans this
      · have := (h2 (t.w, t.c) (by rw [← hts]; exact List.mem_map_of_mem ht)).1
        have e9 : (t.w, t.c).2 = t.c := rfl
        omega
      · have := (h2 (t.w, t.c) (by rw [← hts]; exact List.mem_map_of_mem ht)).2
        exact Nat.le_trans this (by omega)
    · exact e c hc H1 d k1 hd
def colW (l : List (Str × Nat)) (bh k : Nat) : Nat := if k = 0 then bh else ((l[l.length - k]?).map Prod.snd).getD 0
theorem colW_tkw (ts : List Tk) (bh k : Nat) : colR ts bh k = colW (tkw ts) bh k := by
  unfold colR colW tkw
  rw [List.length_map, List.getElem?_map, Option.map_map]; rfl
def spParse (C CE CL : Addr) : Sp := fun vs H Q E => ∃ z, vs = [.str z] ∧ z.cps.size ≤ 10000000 ∧
  (z.cps.size ≤ 2000 → (∀ c, toks (z.cps.size + 1) z.cps.toList 0 = .error c → ∀ H' d, Kp [] H H' → H' d = none → E (.ref CE) (some d) (upd H' d (.xd (flText [.int 1, .int (c : Int), .str "character"])))) ∧
    ∀ l, toks (z.cps.size + 1) z.cps.toList 0 = .ok l → (∀ t, wholeF (l.map Prod.fst) = .ok t → ∀ H' v, Kp [] H H' → TrAt H' t v → Q v H') ∧
      (∀ k re, wholeF (l.map Prod.fst) = .error (k, re) → ∀ H' d, Kp [] H H' → H' d = none → E (.ref CE) (some d) (upd H' d (.xd (flText [.int 1, .int (colW l (z.cps.size + 1) k : Int), .str re]))))) ∧
  (2000 < z.cps.size → ∀ d, H d = none → E (.ref CL) (some d) (upd H d (.xd (flOne "limit" [.str "text"]))))
theorem ok_parse_condition {P : Program} {w : World} {K : PySem.W.Frag} {mg : Str → Option Value} {base : Heap} (T : T P K mg) : FnOk P w K mg base (L2.CX P w) 130 T.a_parse_condition T.fd_parse_condition ["text"] (spParse T.C_ConditionReader T.C_TextError T.C_TooLarge) := by
  refine T.F_parse_condition.okX sc_parse_condition (fun vs H Q E h => ?_) (fun cdv A outer s H vs Q E hr h => ?_)
  · obtain ⟨z, rfl, _⟩ := h
    rfl
  · obtain ⟨z, rfl, hz, q, e⟩ := h
    refine ⟨_, (pss_cons (ps_if (pt_cmpR op_gt (pe_callB c_lens (by rfl) T.z_len (by decide +kernel) (pa_cons (pv 0) pa_nil)) (pe_glob (by rfl) T.g_MOST_CHARACTERS T.r_MOST_CHARACTERS) (nomark _)) (pss_one (ps_raise rfl (takes_of rfl rfl rfl rfl) (pmk_oex T.x_TooLarge.S.T T.x_TooLarge.iC T.x_TooLarge.tI (ok_TooLarge_init T) (hr.mono (by decide)) (T.bx_TooLarge) .nil pass0 (by rfl) T.x_TooLarge.g (pa_cons pe_str pa_nil)))) pss_nil)
      (pss_cons (ps_set (i := 1) sc_parse_condition.nd rfl (by first | exact Or.inl rfl | exact Or.inr rfl) (pe_make T.mk_ConditionReader (ok_ConditionReader_init T) (hr.mono (by decide)) (by rfl) T.mg_ConditionReader T.b_ConditionReader_init .nil (passes_call (takes_of rfl rfl rfl rfl) (fun _ _ _ _ h => h)) (pa_cons (pv 0) pa_nil)))
      (pss_one (ps_ret (pe_meth0 (pv 1) T.cl_ConditionReader T.me_ConditionReader_whole (ok_ConditionReader_whole T) (hr.mono (by decide)) T.b_ConditionReader_whole .nil (passes_call (takes_of rfl rfl rfl rfl) (fun _ _ _ _ h => h))))))), ?_⟩
    walk_at "z0"
    walk_at "z"
    refine Z.lenS hz ?_
    walk_at "z"
    refine Z.ite (fun h1 => ?_) (fun h1 => ?_)
    · walk_at "z"
      refine mkErr ?_ (fun hRS h => ?_)
      · refine ⟨by simp, ⟨"text", rfl, by decide +kernel⟩, fun d hd => ?_⟩
        exact e (by omega) d hd
      · exact hRS _ _ h
    · obtain ⟨q1, q2⟩ := q (by omega)
      walk_at "z"
      intro x dx nx ndx hne
      have k0 : Kp [] H (upd (upd H dx (.own x)) x (.ins T.C_ConditionReader dx [])) := Kp.made nx ndx
      refine ⟨x, dx, z, rfl, upd_same, by omega, fun l hl H1 L ts k1 hR hts => ⟨rfl, ?_⟩, fun c hc H1 d k1 hd => q1 c hc H1 d (k0.trans k1) hd⟩
      obtain ⟨qa, qb⟩ := q2 l hl
      walk_at "z"
      refine ⟨x, dx, _, rfl, hR.at_, rf_whole, ?_⟩
      refine ⟨x, L, dx, ts, z.cps.size + 1, 0, l.map Prod.fst, rfl, hR, fun t ht H2 v k2 hv => ?_, fun k re hf H2 d k2 hd => ?_⟩
      · walk_at "z"
        exact qa t ht H2 v ((k0.then1 k1 nx).then1 k2 nx) hv
      · have := qb k re hf H2 d ((k0.then1 k1 nx).then1 k2 nx) hd
        rw [colW_tkw, hts]
        exact this

/-! ### the text of a condition -/
def Atom.word : Atom → Str
  | .cmp a _ _ => cmpW a
  | .grp _ => "group"
  | .key _ => "key"
  | .all => "all"
def PT.word : PT → Str
  | .leaf a => a.word
  | .neg _ => "not"
  | .two o _ _ => twoW o
def parS (ws : List Str) (w x : Str) : Str := if w ∈ ws then ("(" : Str) ++ x ++ (")" : Str) else x
def nS (n : Int) : Str := Str.ofString (toString n)
def Atom.text : Atom → Str
  | .cmp a s n => cmpW a ++ (" " : Str) ++ s ++ (" " : Str) ++ nS n
  | .grp s => ("group" : Str) ++ (" " : Str) ++ s
  | .key s => ("key" : Str) ++ (" " : Str) ++ s
  | .all => "all"
def wr : PT → Str
  | .leaf a => a.text
  | .neg c => ("not " : Str) ++ parS ["and", "or"] c.word (wr c)
  | .two false c d => parS ["or"] c.word (wr c) ++ (" and " : Str) ++ parS ["and", "or"] d.word (wr d)
  | .two true c d => wr c ++ (" or " : Str) ++ parS ["or"] d.word (wr d)
inductive Pc where
  | s (w : Str)
  | t (c : PT)
def Pc.text : Pc → Str
  | .s w => w
  | .t c => wr c
def PcAt (H : Hp) : Pc → V → Prop
  | .s w, v => v = .str w
  | .t c, v => TrAt H c v
def PcsAt (H : Hp) : List Pc → List V → Prop
  | [], vs => vs = []
  | p :: ps, vs => ∃ v us, vs = v :: us ∧ PcAt H p v ∧ PcsAt H ps us
def win (ws : List Str) (c : PT) : List Pc := if c.word ∈ ws then [.s "(", .t c, .s ")"] else [.t c]
def pieces : PT → List Pc
  | .leaf a => [.s a.text]
  | .neg c => .s "not " :: win ["and", "or"] c
  | .two false c d => win ["or"] c ++ (.s " and " :: win ["and", "or"] d)
  | .two true c d => .t c :: .s " or " :: win ["or"] d
theorem TrAt.tup {H : Hp} : ∀ {t : PT} {v : V}, TrAt H t v → ∃ p r, v = .ref p ∧ H p = some (.tup (.str t.word :: r))
  | .leaf (.cmp a s n), v, ⟨p, e, h⟩ => ⟨p, _, e, h⟩
  | .leaf (.grp s), v, ⟨p, e, h⟩ => ⟨p, _, e, h⟩
  | .leaf (.key s), v, ⟨p, e, h⟩ => ⟨p, _, e, h⟩
  | .leaf .all, v, ⟨p, e, h⟩ => ⟨p, _, e, h⟩
  | .neg c, v, ⟨p, u, e, h, _⟩ => ⟨p, _, e, h⟩
  | .two o c d, v, ⟨p, u, x, e, h, _⟩ => ⟨p, _, e, h⟩
theorem PcAt.kp0 {H H' : Hp} {p : Pc} {v : V} (h : PcAt H p v) (k : Kp [] H H') : PcAt H' p v := by
  cases p with
  | s w => exact h
  | t c => exact TrAt.kp0 h k
theorem PcsAt.kp0 {H H' : Hp} (k : Kp [] H H') : ∀ {ps : List Pc} {vs : List V}, PcsAt H ps vs → PcsAt H' ps vs
  | [], vs, h => h
  | p :: ps, vs, ⟨v, us, e, h1, h2⟩ => ⟨v, us, e, h1.kp0 k, PcsAt.kp0 k h2⟩
theorem PcsAt.app {H : Hp} : ∀ {ps qs : List Pc} {vs us : List V}, PcsAt H ps vs → PcsAt H qs us → PcsAt H (ps ++ qs) (vs ++ us)
  | [], qs, vs, us, h1, h2 => by cases h1; exact h2
  | p :: ps, qs, vs, us, ⟨v, vs', e, h1, h3⟩, h2 => ⟨v, vs' ++ us, by rw [e]; rfl, h1, h3.app h2⟩
theorem PcsAt.one {H : Hp} {p : Pc} {v : V} (h : PcAt H p v) : PcsAt H [p] [v] := ⟨v, [], rfl, h, rfl⟩
theorem at0 {v : V} {r : List V} : atI (v :: r) 0 = some v := atI_nat (xs := v :: r) (j := 0) rfl
def nums : List Int := (List.range 41).map (fun k : Nat => (k : Int) - 20) ++ [1000000, -1000000]
def PT.Sz : PT → Prop
  | .leaf (.cmp _ s n) => s ∈ signs5 ∧ n ∈ nums
  | .leaf (.grp s) => s.length ≤ 12
  | .leaf (.key s) => s.length ≤ 12
  | .leaf .all => True
  | .neg c => c.Sz
  | .two _ c d => c.Sz ∧ d.Sz
theorem empty_app (x : Str) : Str.empty ++ x = x := by
  obtain ⟨⟨l⟩⟩ := x
  show (⟨_⟩ : Str) = _
  simp [Str.empty]
theorem nS_all : ∀ n ∈ nums, (nS n).length ≤ 10 ∧ n.natAbs ≤ 1000000 := by decide +kernel
theorem signs_len {s : Str} (h : s ∈ signs5) : s.length ≤ 2 := by
  unfold signs5 at h
  simp only [List.mem_cons, List.not_mem_nil, or_false] at h
  rcases h with rfl | rfl | rfl | rfl | rfl <;> decide +kernel

/-! ### the draws of a law: _law_draws, _law_take -/
/-- draws stand at a -/
def DrawsAt (H : Hp) (a : Addr) : Prop := ∃ ns : List Int, H a = some (.lst (ns.map V.int))
theorem DrawsAt.ne {H : Hp} {a l : Addr} (d : DrawsAt H a) (h : H l = none) : a ≠ l := ne_of_none d.choose_spec h
theorem DrawsAt.kp {M : List Addr} {H H' : Hp} {a : Addr} (d : DrawsAt H a) (k : Kp M H H') (n : a ∉ M) : DrawsAt H' a := let ⟨ns, h⟩ := d; ⟨ns, k _ _ n h⟩
theorem DrawsAt.kp0 {H H' : Hp} {a : Addr} (d : DrawsAt H a) (k : Kp [] H H') : DrawsAt H' a := d.kp k nin0
theorem DrawsAt.put {H : Hp} {a b : Addr} {o : HO} (d : DrawsAt H a) (n : a ≠ b) : DrawsAt (upd H b o) a := let ⟨ns, h⟩ := d; ⟨ns, (upd_ne n).trans h⟩
def spTake (K : PySem.W.Frag) : Sp := fun vs H Q _ => ∃ (a : Addr) (m : Int), vs = [.ref a, .int m] ∧ DrawsAt H a ∧ 1 ≤ m ∧ m < 18446744073709551616 ∧ ∀ H' v, 0 ≤ v → v < m → Kp [a] H H' → DrawsAt H' a → Q (.int v) H'
theorem ok__law_take {P : Program} {w : World} {K : PySem.W.Frag} {mg : Str → Option Value} {base : Heap} (T : T P K mg) : FnOk P w K mg base CX0 1 T.a__law_take T.fd__law_take ["draws", "bound"] (spTake K) := by
  refine T.F__law_take.ok sc__law_take (fun vs H Q E h => ?_) (fun cdv A outer s H vs Q E hr h => ?_)
  · obtain ⟨a, m, rfl, _⟩ := h
    rfl
  · obtain ⟨a, m, rfl, ⟨ns, ha⟩, h0, h1, q⟩ := h
    refine ⟨_, (pss_cons (ps_if (pt_cmpR op_eq (pe_callB c_len (by rfl) T.z_len (by decide +kernel) (pa_cons (pv 0) pa_nil)) pe_int (nomark _)) (pss_one (ps_ret pe_int)) pss_nil)
      (pss_one (ps_ret (pe_op op_mod (pe_callTy c_int (by rfl) T.z_int (by decide +kernel) (pa_cons (pe_bm0 PySem.F.plainAttrs_list PySem.F.slot_list_pop PySem.F.type_list_pop mt_pop (pv 0)) pa_nil)) (pv 1))))), ?_⟩
    walk_at "z0"
    walk_at "z"
    refine Z.lenL (lstL ha) ?_
    walk_at "z"
    refine Z.ite (fun h2 => ?_) (fun h2 => ?_)
    · walk_at "z"
      exact q _ _ (by omega) (by omega) (Kp.refl _) ⟨ns, ha⟩
    · walk_at "z"
      refine ⟨Z.tyL ha, ?_⟩
      have hl : 0 < ns.length := by
        rw [List.length_map] at h2
        omega
      have hi : ns.length - 1 < ns.length := by omega
      refine Z.pop ha (y := .int ns[ns.length - 1]) (by rw [List.length_map, List.getElem?_map, List.getElem?_eq_getElem hi]; rfl) ?_
      walk_at "z"
      refine Z.iC (by omega) ?_
      exact q _ _ (Int.emod_nonneg _ (by omega)) (Int.emod_lt_of_pos _ (by omega)) (Kp.put (by simp)) ⟨ns.dropLast, by rw [upd_same, List.map_dropLast]⟩
def spDraws (K : PySem.W.Frag) : Sp := fun vs H Q _ => ∃ (c : Addr) (ns : List Int), vs = [.ref c] ∧ SqL K H c (ns.map V.int) ∧ ns.length ≤ 63 ∧ (∀ z ∈ ns, Builtin.Int.intBits z ≤ 1048576) ∧ ∀ a H', H a = none → Kp [] H H' → DrawsAt H' a → Q (.ref a) H'
theorem ok__law_draws {P : Program} {w : World} {K : PySem.W.Frag} {mg : Str → Option Value} {base : Heap} (T : T P K mg) : FnOk P w K mg base CX0 1 T.a__law_draws T.fd__law_draws ["script"] (spDraws K) := by
  refine T.F__law_draws.ok sc__law_draws (fun vs H Q E h => ?_) (fun cdv A outer s H vs Q E hr h => ?_)
  · obtain ⟨c, ns, rfl, _⟩ := h
    rfl
  · obtain ⟨c, ns, rfl, hS, hlen, hb, q⟩ := h
    refine ⟨_, (pss_cons (ps_set (i := 1) sc__law_draws.nd rfl (by first | exact Or.inl rfl | exact Or.inr rfl) (pe_lst pa_nil))
      (pss_cons (ps_for PassesOwn.never rfl (pi_list (pv 0)) (pg_name (i := 2) sc__law_draws.nd rfl (by first | exact Or.inl rfl | exact Or.inr rfl)) (pss_cons (ps_set (i := 3) sc__law_draws.nd rfl (by first | exact Or.inl rfl | exact Or.inr rfl) (pe_callB c_abs (by rfl) T.z_abs (by decide +kernel) (pa_cons (pv 2) pa_nil)))
      (Z.pss_consJ (ps_if (pt_cmpR op_lt (pv 3) (pe_op op_pow pe_int pe_int) (nomark _)) (pss_cons (ps_set (i := 4) sc__law_draws.nd rfl (by first | exact Or.inl rfl | exact Or.inr rfl) (pe_op op_mod (pe_callTy c_int (by rfl) T.z_int (by decide +kernel) (pa_cons (pe_op op_add (pe_op op_mul (pv 3) pe_int) pe_int) pa_nil)) pe_int))
      (pss_cons (ps_expr (pe_bm PySem.F.plainAttrs_list PySem.F.slot_list_append PySem.F.type_list_append mt_append (pv 1) (pa_cons (pe_op op_mod (pe_callTy c_int (by rfl) T.z_int (by decide +kernel) (pa_cons (pe_op op_add (pe_op op_mul (pv 4) pe_int) (pv 3)) pa_nil)) pe_int) pa_nil)))
      (pss_cons (ps_expr (pe_bm PySem.F.plainAttrs_list PySem.F.slot_list_append PySem.F.type_list_append mt_append (pv 1) (pa_cons (pe_op op_mod (pe_callTy c_int (by rfl) T.z_int (by decide +kernel) (pa_cons (pe_op op_add (pv 4) (pe_op op_fdivW (pv 3) pe_int)) pa_nil)) pe_int) pa_nil)))
      (pss_one (ps_set (i := 3) sc__law_draws.nd rfl (by first | exact Or.inl rfl | exact Or.inr rfl) pe_int))))) pss_nil)
      (pss_one (ps_for PassesOwn.never rfl (pi_range1 (by rfl) T.z_range (pa_cons pe_int pa_nil)) (pg_name (i := 5) sc__law_draws.nd rfl (by first | exact Or.inl rfl | exact Or.inr rfl)) (pss_one (ps_if (pt_cmpR op_gt (pv 3) pe_int (nomark _)) (pss_cons (ps_expr (pe_bm PySem.F.plainAttrs_list PySem.F.slot_list_append PySem.F.type_list_append mt_append (pv 1) (pa_cons (pe_op op_mod (pe_callTy c_int (by rfl) T.z_int (by decide +kernel) (pa_cons (pv 3) pa_nil)) pe_int) pa_nil)))
      (pss_one (ps_set (i := 3) sc__law_draws.nd rfl (by first | exact Or.inl rfl | exact Or.inr rfl) (pe_op op_fdivW (pv 3) pe_int)))) pss_nil)))))))
      (pss_cons (ps_set (i := 6) sc__law_draws.nd rfl (by first | exact Or.inl rfl | exact Or.inr rfl) pe_int)
      (Z.pss_consJ (ps_if (pt_cmpR op_gt (pe_callB c_len (by rfl) T.z_len (by decide +kernel) (pa_cons (pv 0) pa_nil)) pe_int (nomark _)) (pss_one (ps_set (i := 6) sc__law_draws.nd rfl (by first | exact Or.inl rfl | exact Or.inr rfl) (pe_op op_add pe_int (pe_callB c_abs (by rfl) T.z_abs (by decide +kernel) (pa_cons (pe_ix ix_list (pv 0) pe_int (fun _ _ => rfl)) pa_nil))))) pss_nil)
      (pss_cons (ps_for PassesOwn.never rfl (pi_range1 (by rfl) T.z_range (pa_cons pe_int pa_nil)) (pg_name (i := 5) sc__law_draws.nd rfl (by first | exact Or.inl rfl | exact Or.inr rfl)) (pss_cons (ps_set (i := 6) sc__law_draws.nd rfl (by first | exact Or.inl rfl | exact Or.inr rfl) (pe_op op_mod (pe_callTy c_int (by rfl) T.z_int (by decide +kernel) (pa_cons (pe_op op_add (pe_op op_mul (pv 6) pe_int) pe_int) pa_nil)) pe_int))
      (pss_one (ps_expr (pe_bm PySem.F.plainAttrs_list PySem.F.slot_list_append PySem.F.type_list_append mt_append (pv 1) (pa_cons (pe_op op_fdivW (pv 6) pe_int) pa_nil))))))
      (pss_one (ps_ret (RL.pe_listRev rfl (by rfl) T.z_list (by rfl) T.z_reversed (pv 1))))))))), ?_⟩
    walk_at "z0"
    walk_at "z"
    refine Z.lstK (fun D H1 nD k1 e1 => ?_)
    walk_at "z"
    refine Z.forl (ns.map V.int) (k1.seq nin0 hS) (fun i σ' H' => ∃ y2 y3 y4 y5, ∃ ds : List Int, σ' = [some (.ref c), some (.ref D), y2, y3, y4, y5, none] ∧ Kp [] H H' ∧ H' D = some (.lst (ds.map V.int)) ∧ ds.length ≤ i * 62) ⟨_, _, _, _, [], rfl, k1, e1, by simp⟩ ?_ ?_ ?_
    · rintro i σ' H' hi ⟨y2, y3, y4, y5, ds, rfl, k2, e2, hl⟩
      exact k2.seq nin0 hS
    · rintro i x σ' H' hx ⟨y2, y3, y4, y5, ds, rfl, k2, e2, hl⟩
      obtain ⟨z, hz, rfl⟩ : ∃ z, ns[i]? = some z ∧ x = .int z := by
        rw [List.getElem?_map] at hx
        cases hw : ns[i]? with
        | none => rw [hw] at hx; cases hx
        | some r => rw [hw] at hx; exact ⟨r, rfl, (Option.some.inj hx).symm⟩
      have hi : i < ns.length := (List.getElem?_eq_some_iff.mp hz).1
      walk_at "z"
      refine Z.seqJ (fun σ' H' => ∃ y4, ∃ (n : Int) (ds : List Int), σ' = [some (.ref c), some (.ref D), some (.int z), some (.int n), y4, y5, none] ∧ Kp [] H H' ∧ H' D = some (.lst (ds.map V.int)) ∧ ds.length ≤ i * 62 + 2) ?_ ?_
      · rintro σ' H' ⟨y4, n, ds, rfl, k3, e3, hl3⟩
        walk_at "z"
        refine Z.forr 60 (by rfl) (by decide) (fun j σ' H' => ∃ y5, ∃ (n : Int) (ds : List Int), σ' = [some (.ref c), some (.ref D), some (.int z), some (.int n), y4, y5, none] ∧ Kp [] H H' ∧ H' D = some (.lst (ds.map V.int)) ∧ ds.length ≤ i * 62 + 2 + j) ⟨_, _, ds, rfl, k3, e3, by omega⟩ ?_ ?_
        · rintro j σ' H' hj ⟨y5, n, ds, rfl, k4, e4, hl4⟩
          walk_at "z"
          refine Z.ite (fun h2 => ?_) (fun h2 => ?_)
          · walk_at "z"
            refine ⟨Z.tyL e4, ?_⟩
            walk_at "z"
            refine Z.iC (by decide) ?_
            walk_at "z"
            refine Z.app e4 (Z.szl (m := 100000) (by rw [List.length_map]; omega)) ?_
            walk_at "z"
            refine Z.iC ⟨by decide, by decide⟩ ?_
            walk_at "z"
            exact ⟨_, _, ds ++ [n % 997], rfl, k4.mut nD rfl, by rw [upd_same, List.map_append]; rfl, by simp; omega⟩
          · walk_at "z"
            exact ⟨_, _, ds, rfl, k4, e4, by omega⟩
        · rintro σ' H' ⟨y5, n, ds, rfl, k4, e4, hl4⟩
          exact ⟨_, _, _, _, ds, rfl, k4, e4, by omega⟩
      · intro N jn
        walk_at "z"
        refine Z.iC ⟨by decide, by decide, by decide⟩ ?_
        walk_at "z"
        refine Z.ite (fun h2 => ?_) (fun h2 => ?_)
        · walk_at "z"
          refine Z.iC (.inr (by decide)) ?_
          walk_at "z"
          refine Z.iC (by decide) ?_
          walk_at "z"
          refine ⟨Z.tyL e2, ?_⟩
          walk_at "z"
          refine Z.iC (.inr (by decide)) ?_
          walk_at "z"
          refine Z.iC (by decide) ?_
          walk_at "z"
          refine Z.app e2 (Z.szl (m := 100000) (by rw [List.length_map]; omega)) ?_
          walk_at "z"
          refine ⟨Z.tyL upd_same, ?_⟩
          walk_at "z"
          refine Z.iC ⟨by decide, by decide⟩ ?_
          walk_at "z"
          refine Z.iC (by decide) ?_
          walk_at "z"
          refine Z.app upd_same (Z.szl (m := 100000) (by rw [List.length_append, List.length_map]; simp; omega)) ?_
          walk_at "z"
          rw [upd_upd]
          exact jn _ _ ⟨_, _, ds ++ [_, _], rfl, k2.mut nD rfl, by rw [upd_same, List.map_append, List.append_assoc]; rfl, by simp; omega⟩
        · walk_at "z"
          exact jn _ _ ⟨_, _, ds, rfl, k2, e2, by omega⟩
    · rintro σ' H' ⟨y2, y3, y4, y5, ds, rfl, k2, e2, hl⟩
      rw [List.length_map] at hl
      walk_at "z"
      refine Z.seqJ (fun σ' H' => ∃ z : Int, σ' = [some (.ref c), some (.ref D), y2, y3, y4, y5, some (.int z)] ∧ Kp [] H H' ∧ H' D = some (.lst (ds.map V.int))) ?_ ?_
      · rintro σ' H' ⟨z, rfl, k3, e3⟩
        walk_at "z"
        refine Z.forr 240 (by rfl) (by decide) (fun j σ' H' => ∃ y5, ∃ (z : Int) (es : List Int), σ' = [some (.ref c), some (.ref D), y2, y3, y4, y5, some (.int z)] ∧ Kp [] H H' ∧ H' D = some (.lst (es.map V.int)) ∧ es.length ≤ ds.length + j) ⟨_, _, ds, rfl, k3, e3, by omega⟩ ?_ ?_
        · rintro j σ' H' hj ⟨y5, z, es, rfl, k4, e4, hl4⟩
          walk_at "z"
          refine Z.iC (.inr (by decide)) ?_
          walk_at "z"
          refine Z.iC (by decide) ?_
          walk_at "z"
          refine ⟨Z.tyL e4, ?_⟩
          walk_at "z"
          refine Z.iC ⟨by decide, by decide⟩ ?_
          walk_at "z"
          refine Z.app e4 (Z.szl (m := 100000) (by rw [List.length_map]; omega)) ?_
          exact ⟨_, _, es ++ [_], rfl, k4.mut nD rfl, by rw [upd_same, List.map_append]; rfl, by simp; omega⟩
        · rintro σ' H' ⟨y5, z, es, rfl, k4, e4, hl4⟩
          walk_at "z"
          refine Z.lrk (lstL e4) (fun p H5 np k5 e5 => ?_)
          exact q p H5 (k4.none nin0 np) (k4.trans k5) ⟨es.reverse, by rw [e5, List.map_reverse]⟩
      · intro N jn
        walk_at "z"
        refine Z.lenL (k2.seq nin0 hS) ?_
        walk_at "z"
        rw [List.length_map]
        refine Z.ite (fun h2 => ?_) (fun h2 => ?_)
        · walk_at "z"
          have h0 : 0 < ns.length := by omega
          refine Z.ixL (k2.seq nin0 hS) (atM (j := 0) (List.getElem?_eq_getElem h0)) ?_
          walk_at "z"
          exact jn _ _ ⟨_, rfl, k2, e2⟩
        · walk_at "z"
          exact jn _ _ ⟨_, rfl, k2, e2⟩

/-! ### _law_same: equal data, the same kinds -/
def scl : V → Bool
  | .non => true
  | .bl _ => true
  | .int _ => true
  | .str _ => true
  | _ => false
def Sm : Nat → Hp → V → V → Prop
  | 0, _, _, _ => False
  | n + 1, H, x, y => (x = y ∧ scl x = true) ∨ ∃ (a b : Addr) (xs ys : List V), x = .ref a ∧ y = .ref b ∧ ((H a = some (.lst xs) ∧ H b = some (.lst ys)) ∨ (H a = some (.tup xs) ∧ H b = some (.tup ys))) ∧ xs.length = ys.length ∧ xs.length ≤ 100000 ∧
    ∀ (i : Nat) (u v : V), xs[i]? = some u → ys[i]? = some v → Sm n H u v
theorem Sm.sc {n : Nat} {H : Hp} {x : V} (h : scl x = true) : Sm (n + 1) H x x := .inl ⟨rfl, h⟩
theorem Sm.int {n : Nat} {H : Hp} (i : Int) : Sm (n + 1) H (.int i) (.int i) := .inl ⟨rfl, rfl⟩
theorem Sm.lst {n : Nat} {H : Hp} {a b : Addr} {xs ys : List V} (h1 : H a = some (.lst xs)) (h2 : H b = some (.lst ys)) (hl : xs.length = ys.length) (hm : xs.length ≤ 100000) (h : ∀ (i : Nat) (u v : V), xs[i]? = some u → ys[i]? = some v → Sm n H u v) : Sm (n + 1) H (.ref a) (.ref b) := .inr ⟨a, b, xs, ys, rfl, rfl, .inl ⟨h1, h2⟩, hl, hm, h⟩
theorem Sm.tup {n : Nat} {H : Hp} {a b : Addr} {xs ys : List V} (h1 : H a = some (.tup xs)) (h2 : H b = some (.tup ys)) (hl : xs.length = ys.length) (hm : xs.length ≤ 100000) (h : ∀ (i : Nat) (u v : V), xs[i]? = some u → ys[i]? = some v → Sm n H u v) : Sm (n + 1) H (.ref a) (.ref b) := .inr ⟨a, b, xs, ys, rfl, rfl, .inr ⟨h1, h2⟩, hl, hm, h⟩
/-- lists of the same plain values -/
theorem Sm.plain {n : Nat} {H : Hp} {a b : Addr} {xs : List V} (h1 : H a = some (.lst xs)) (h2 : H b = some (.lst xs)) (hm : xs.length ≤ 100000) (h : ∀ x ∈ xs, scl x = true) : Sm (n + 2) H (.ref a) (.ref b) := .lst h1 h2 rfl hm fun i u v hu hv => by
  rw [hu] at hv
  cases hv
  exact .sc (h u (List.mem_of_getElem? hu))
theorem Sm.plainT {n : Nat} {H : Hp} {a b : Addr} {xs : List V} (h1 : H a = some (.tup xs)) (h2 : H b = some (.tup xs)) (hm : xs.length ≤ 100000) (h : ∀ x ∈ xs, scl x = true) : Sm (n + 2) H (.ref a) (.ref b) := .tup h1 h2 rfl hm fun i u v hu hv => by
  rw [hu] at hv
  cases hv
  exact .sc (h u (List.mem_of_getElem? hu))
def spSm (n : Nat) : Sp := fun vs H Q _ => ∃ x y, vs = [x, y] ∧ Sm n H x y ∧ Q (.bl true) H
theorem scl_ty {K : PySem.W.Frag} {H : Hp} {x : V} (h : scl x = true) : ∃ A b1 b2 b3, TyX K H x (.type A) ∧ kitB A "tuple" = some false ∧ kitB A "list" = some false ∧ kitB A "bool" = some b1 ∧ kitB A "int" = some b2 ∧ kitB A "str" = some b3 := by
  cases x with
  | non => exact ⟨"NoneType", false, false, false, .base .non, by decide +kernel, by decide +kernel, by decide +kernel, by decide +kernel, by decide +kernel⟩
  | bl b => exact ⟨"bool", true, true, false, .base (.bl b), by decide +kernel, by decide +kernel, by decide +kernel, by decide +kernel, by decide +kernel⟩
  | int i => exact ⟨"int", false, true, false, .base (.int i), by decide +kernel, by decide +kernel, by decide +kernel, by decide +kernel, by decide +kernel⟩
  | str z => exact ⟨"str", false, false, true, .base (.str z), by decide +kernel, by decide +kernel, by decide +kernel, by decide +kernel, by decide +kernel⟩
  | _ => cases h
theorem scl_scal {x : V} (h : scl x = true) : scal x x = true := by
  cases x with
  | non => rfl
  | bl b => rfl
  | int i => rfl
  | str z => rfl
  | _ => cases h
theorem same_rec {P : Program} {w : World} {K : PySem.W.Frag} {mg : Str → Option Value} {base : Heap} (T : T P K mg) : ∀ n, FnOk P w K mg base CX0 (n + 1) T.a__law_same T.fd__law_same ["actual", "due"] (spSm n)
  | 0 => ⟨fun _ _ _ _ h => by obtain ⟨_, _, _, h, _⟩ := h; exact h.elim, fun _ _ _ _ _ _ _ _ _ _ _ _ _ h => by obtain ⟨_, _, _, h, _⟩ := h; exact h.elim⟩
  | n + 1 => by
    have ih := same_rec (w := w) (base := base) T n
    refine T.F__law_same.ok sc__law_same (fun vs H Q E h => ?_) (fun cdv A outer s H vs Q E hr h => ?_)
    · obtain ⟨x, y, rfl, _⟩ := h
      rfl
    · obtain ⟨x, y, rfl, hs, q⟩ := h
      refine ⟨_, (pss_cons (ps_if (PW.pt (pw_or (pt_val (pe_callB call_isi (by rfl) T.z_isinstance (by decide +kernel) (pa_cons (pv 1) (pa_cons (pe_bltn (v := .ty "tuple") (by rfl) T.z_tuple (by decide +kernel) rfl) pa_nil)))) (pw_or1 (pt_val (pe_callB call_isi (by rfl) T.z_isinstance (by decide +kernel) (pa_cons (pv 1) (pa_cons (pe_bltn (v := .ty "list") (by rfl) T.z_list (by decide +kernel) rfl) pa_nil))))))) (pss_cons (ps_if (PW.pt (pw_or (pt_cmpR op_ne (pe_callB call_isi (by rfl) T.z_isinstance (by decide +kernel) (pa_cons (pv 1) (pa_cons (pe_bltn (v := .ty "tuple") (by rfl) T.z_tuple (by decide +kernel) rfl) pa_nil))) (pe_callB call_isi (by rfl) T.z_isinstance (by decide +kernel) (pa_cons (pv 0) (pa_cons (pe_bltn (v := .ty "tuple") (by rfl) T.z_tuple (by decide +kernel) rfl) pa_nil))) (nomark _)) (pw_or1 (pt_cmpR op_ne (pe_callB call_isi (by rfl) T.z_isinstance (by decide +kernel) (pa_cons (pv 1) (pa_cons (pe_bltn (v := .ty "list") (by rfl) T.z_list (by decide +kernel) rfl) pa_nil))) (pe_callB call_isi (by rfl) T.z_isinstance (by decide +kernel) (pa_cons (pv 0) (pa_cons (pe_bltn (v := .ty "list") (by rfl) T.z_list (by decide +kernel) rfl) pa_nil))) (nomark _))))) (pss_one (ps_ret pe_bl)) pss_nil)
      (pss_cons (ps_if (pt_cmpR op_ne (pe_callB c_len (by rfl) T.z_len (by decide +kernel) (pa_cons (pv 0) pa_nil)) (pe_callB c_len (by rfl) T.z_len (by decide +kernel) (pa_cons (pv 1) pa_nil)) (nomark _)) (pss_one (ps_ret pe_bl)) pss_nil)
      (pss_cons (ps_for PassesOwn.never rfl (pi_range1 (by rfl) T.z_range (pa_cons (pe_callB c_len (by rfl) T.z_len (by decide +kernel) (pa_cons (pv 1) pa_nil)) pa_nil)) (pg_name (i := 2) sc__law_same.nd rfl (by first | exact Or.inl rfl | exact Or.inr rfl)) (pss_one (ps_if (pt_not (pt_val (pe_call ih (hr.mono (by omega)) (by rfl) T.g__law_same T.F__law_same.kp T.b__law_same .nil pass0 (pa_cons (pe_ix ix_seq (pv 0) (pv 2) (fun _ _ => rfl)) (pa_cons (pe_ix ix_seq (pv 1) (pv 2) (fun _ _ => rfl)) pa_nil))))) (pss_one (ps_ret pe_bl)) pss_nil)))
      (pss_one (ps_ret pe_bl))))) pss_nil)
      (pss_cons (ps_if (pt_cmpR op_ne (pe_callB call_isi (by rfl) T.z_isinstance (by decide +kernel) (pa_cons (pv 1) (pa_cons (pe_bltn (v := .ty "bool") (by rfl) T.z_bool (by decide +kernel) rfl) pa_nil))) (pe_callB call_isi (by rfl) T.z_isinstance (by decide +kernel) (pa_cons (pv 0) (pa_cons (pe_bltn (v := .ty "bool") (by rfl) T.z_bool (by decide +kernel) rfl) pa_nil))) (nomark _)) (pss_one (ps_ret pe_bl)) pss_nil)
      (pss_cons (ps_if (PW.pt (pw_or (pt_cmpR op_ne (pe_callB call_isi (by rfl) T.z_isinstance (by decide +kernel) (pa_cons (pv 1) (pa_cons (pe_bltn (v := .ty "int") (by rfl) T.z_int (by decide +kernel) rfl) pa_nil))) (pe_callB call_isi (by rfl) T.z_isinstance (by decide +kernel) (pa_cons (pv 0) (pa_cons (pe_bltn (v := .ty "int") (by rfl) T.z_int (by decide +kernel) rfl) pa_nil))) (nomark _)) (pw_or1 (pt_cmpR op_ne (pe_callB call_isi (by rfl) T.z_isinstance (by decide +kernel) (pa_cons (pv 1) (pa_cons (pe_bltn (v := .ty "str") (by rfl) T.z_str (by decide +kernel) rfl) pa_nil))) (pe_callB call_isi (by rfl) T.z_isinstance (by decide +kernel) (pa_cons (pv 0) (pa_cons (pe_bltn (v := .ty "str") (by rfl) T.z_str (by decide +kernel) rfl) pa_nil))) (nomark _))))) (pss_one (ps_ret pe_bl)) pss_nil)
      (pss_one (ps_ret (pe_cmpR op_eq (pv 0) (pv 1) (nomark _))))))), ?_⟩
      walk_at "z0"
      walk_at "z"
      rcases hs with ⟨rfl, hx⟩ | ⟨a, b, xs, ys, rfl, rfl, hab, hl, hm, hi⟩
      · obtain ⟨A, b1, b2, b3, ht, k1, k2, k3, k4, k5⟩ := scl_ty (K := K) (H := H) hx
        refine Z.isi ht k1 ?_
        walk_at "z"
        refine Z.isi ht k2 ?_
        walk_at "z"
        refine Z.isi ht k3 ?_
        walk_at "z"
        refine Z.isi ht k3 ?_
        walk_at "z"
        refine Z.noN rfl ?_
        walk_at "z"
        refine Z.isi ht k4 ?_
        walk_at "z"
        refine Z.isi ht k4 ?_
        walk_at "z"
        refine Z.noN rfl ?_
        walk_at "z"
        refine Z.isi ht k5 ?_
        walk_at "z"
        refine Z.isi ht k5 ?_
        walk_at "z"
        refine Z.noN rfl ?_
        walk_at "z"
        refine ⟨scl_scal hx, ?_⟩
        rw [decide_eq_true rfl]
        exact q
      · rcases hab with ⟨ha, hb⟩ | ⟨ha, hb⟩
        · have ht : TyX K H (.ref b) (.type "list") := .base (.lst hb)
          have ha' : TyX K H (.ref a) (.type "list") := .base (.lst ha)
          refine Z.isi ht (b := false) (by decide +kernel) ?_
          walk_at "z"
          refine Z.isi ht (b := true) (by decide +kernel) ?_
          walk_at "z"
          refine Z.isi ht (b := false) (by decide +kernel) ?_
          walk_at "z"
          refine Z.isi ha' (b := false) (by decide +kernel) ?_
          walk_at "z"
          refine Z.noN rfl ?_
          walk_at "z"
          refine Z.isi ht (b := true) (by decide +kernel) ?_
          walk_at "z"
          refine Z.isi ha' (b := true) (by decide +kernel) ?_
          walk_at "z"
          refine Z.noN rfl ?_
          walk_at "z"
          refine Z.lenL (lstL ha) ?_
          walk_at "z"
          refine Z.lenL (lstL hb) ?_
          walk_at "z"
          refine Z.noN (by omega) ?_
          walk_at "z"
          refine Z.lenL (lstL hb) ?_
          refine Z.forr xs.length (by omega) (by omega) (fun i σ' H' => ∃ z, σ' = [some (.ref a), some (.ref b), z] ∧ H' = H) ⟨_, rfl, rfl⟩ ?_ ?_
          · rintro i σ' H' hlt ⟨z, rfl, rfl⟩
            have hu : xs[i]? = some xs[i] := List.getElem?_eq_getElem hlt
            have hv : ys[i]? = some (ys[i]'(by omega)) := List.getElem?_eq_getElem _
            walk_at "z"
            refine Z.ixA (.inl (lstL ha)) (atI_nat hu) ?_
            walk_at "z"
            refine Z.ixA (.inl (lstL hb)) (atI_nat hv) ?_
            walk_at "z"
            refine ⟨_, _, rfl, hi i _ _ hu hv, ?_⟩
            walk_at "z"
            exact ⟨_, rfl, rfl⟩
          · rintro σ' H' ⟨z, rfl, rfl⟩
            walk_at "z"
            exact q
        · have ht : TyX K H (.ref b) (.type "tuple") := .base (.tup hb)
          have ha' : TyX K H (.ref a) (.type "tuple") := .base (.tup ha)
          refine Z.isi ht (b := true) (by decide +kernel) ?_
          walk_at "z"
          refine Z.isi ht (b := true) (by decide +kernel) ?_
          walk_at "z"
          refine Z.isi ha' (b := true) (by decide +kernel) ?_
          walk_at "z"
          refine Z.noN rfl ?_
          walk_at "z"
          refine Z.isi ht (b := false) (by decide +kernel) ?_
          walk_at "z"
          refine Z.isi ha' (b := false) (by decide +kernel) ?_
          walk_at "z"
          refine Z.noN rfl ?_
          walk_at "z"
          refine Z.lenT (tupT ha) ?_
          walk_at "z"
          refine Z.lenT (tupT hb) ?_
          walk_at "z"
          refine Z.noN (by omega) ?_
          walk_at "z"
          refine Z.lenT (tupT hb) ?_
          refine Z.forr xs.length (by omega) (by omega) (fun i σ' H' => ∃ z, σ' = [some (.ref a), some (.ref b), z] ∧ H' = H) ⟨_, rfl, rfl⟩ ?_ ?_
          · rintro i σ' H' hlt ⟨z, rfl, rfl⟩
            have hu : xs[i]? = some xs[i] := List.getElem?_eq_getElem hlt
            have hv : ys[i]? = some (ys[i]'(by omega)) := List.getElem?_eq_getElem _
            walk_at "z"
            refine Z.ixA (.inr (tupT ha)) (atI_nat hu) ?_
            walk_at "z"
            refine Z.ixA (.inr (tupT hb)) (atI_nat hv) ?_
            walk_at "z"
            refine ⟨_, _, rfl, hi i _ _ hu hv, ?_⟩
            walk_at "z"
            exact ⟨_, rfl, rfl⟩
          · rintro σ' H' ⟨z, rfl, rfl⟩
            walk_at "z"
            exact q
theorem ok__law_same {P : Program} {w : World} {K : PySem.W.Frag} {mg : Str → Option Value} {base : Heap} (T : T P K mg) : FnOk P w K mg base CX0 9 T.a__law_same T.fd__law_same ["actual", "due"] (spSm 8) := same_rec T 8

/-! ### the law's own conditions -/
def lawNames : List Str := ["a", "b7", "k", "q", "zz", "9", "abcdefghijkl", "or", "m2", "weight"]
def sp3 : List Str := [" ", "  ", "   "]
def sp2 : List Str := ["", " "]
def grps : List Str := ["red", "blue", "k", "and"]
theorem pickS (l : List Str) {v : Int} (h0 : 0 ≤ v) (h1 : v < (l.length : Nat)) : ∃ s, s ∈ l ∧ atI (l.map V.str) v = some (.str s) := by
  obtain ⟨j, rfl⟩ : ∃ j : Nat, v = (j : Int) := ⟨v.toNat, by omega⟩
  have hj : j < l.length := by omega
  exact ⟨l[j], List.getElem_mem hj, atI_nat (by rw [List.getElem?_map, List.getElem?_eq_getElem hj]; rfl)⟩
theorem pickI (l : List Int) {v : Int} (h0 : 0 ≤ v) (h1 : v < (l.length : Nat)) : ∃ s, s ∈ l ∧ atI (l.map V.int) v = some (.int s) := by
  obtain ⟨j, rfl⟩ : ∃ j : Nat, v = (j : Int) := ⟨v.toNat, by omega⟩
  have hj : j < l.length := by omega
  exact ⟨l[j], List.getElem_mem hj, atI_nat (by rw [List.getElem?_map, List.getElem?_eq_getElem hj]; rfl)⟩
def spName (K : PySem.W.Frag) : Sp := fun vs H Q _ => ∃ a : Addr, vs = [.ref a] ∧ DrawsAt H a ∧ ∀ H' s, s ∈ lawNames → Kp [a] H H' → DrawsAt H' a → Q (.str s) H'
theorem ok__law_name {P : Program} {w : World} {K : PySem.W.Frag} {mg : Str → Option Value} {base : Heap} (T : T P K mg) : FnOk P w K mg base CX0 2 T.a__law_name T.fd__law_name ["draws"] (spName K) := by
  refine T.F__law_name.ok sc__law_name (fun vs H Q E h => ?_) (fun cdv A outer s H vs Q E hr h => ?_)
  · obtain ⟨a, rfl, _⟩ := h
    rfl
  · obtain ⟨a, rfl, hd, q⟩ := h
    refine ⟨_, (pss_one (ps_ret (pe_ix ix_list (pe_lst (pa_cons pe_str (pa_cons pe_str (pa_cons pe_str (pa_cons pe_str (pa_cons pe_str (pa_cons pe_str (pa_cons pe_str (pa_cons pe_str (pa_cons pe_str (pa_cons pe_str pa_nil))))))))))) (pe_call (ok__law_take T) (hr.mono (by decide)) (by rfl) T.g__law_take T.F__law_take.kp T.b__law_take .nil pass0 (pa_cons (pv 0) (pa_cons pe_int pa_nil))) (fun _ _ => rfl)))), ?_⟩
    walk_at "z0"
    walk_at "z"
    refine Z.lstK (fun b H1 nb k1 e1 => ?_)
    walk_at "z"
    refine ⟨a, 10, rfl, hd.kp0 k1, by decide, by decide, fun H2 v h0 h1 k2 d2 => ?_⟩
    obtain ⟨s, hs, es⟩ := pickS lawNames h0 h1
    refine Z.ixL (lstL (k2.get (nin1 (hd.ne nb).symm) e1)) es ?_
    exact q H2 s hs ((k1.sub (by simp)).trans k2) d2
def PT.Good : PT → Prop
  | .leaf (.cmp _ s n) => s ∈ signs5 ∧ n ∈ nums
  | .leaf (.grp s) => s ∈ grps
  | .leaf (.key s) => s ∈ lawNames
  | .leaf .all => True
  | .neg c => c.Good
  | .two _ c d => c.Good ∧ d.Good
def PT.dep : PT → Nat
  | .leaf _ => 0
  | .neg c => c.dep + 1
  | .two _ c d => max c.dep d.dep + 1
theorem TrAt.kpd {H H' : Hp} {a : Addr} {t : PT} {v : V} (h : TrAt H t v) (k : Kp [a] H H') (d : DrawsAt H a) : TrAt H' t v := h.kp k fun x hx vs e => by
  rw [List.mem_singleton.mp hx, d.choose_spec] at e
  cases e
theorem names_len : ∀ s ∈ lawNames, s.length ≤ 12 := by decide +kernel
theorem grps_len : ∀ s ∈ grps, s.length ≤ 12 := by decide +kernel
theorem good_sz : ∀ {t : PT}, t.Good → t.Sz
  | .leaf (.cmp _ s n), h => h
  | .leaf (.grp s), h => grps_len s h
  | .leaf (.key s), h => names_len s h
  | .leaf .all, _ => trivial
  | .neg c, h => good_sz (t := c) h
  | .two _ c d, h => ⟨good_sz (t := c) h.1, good_sz (t := d) h.2⟩
def spNumber (K : PySem.W.Frag) : Sp := fun vs H Q _ => ∃ a : Addr, vs = [.ref a] ∧ DrawsAt H a ∧ ∀ H' n, n ∈ nums → Kp [a] H H' → DrawsAt H' a → Q (.int n) H'
theorem ok__law_number {P : Program} {w : World} {K : PySem.W.Frag} {mg : Str → Option Value} {base : Heap} (T : T P K mg) : FnOk P w K mg base CX0 2 T.a__law_number T.fd__law_number ["draws"] (spNumber K) := by
  refine T.F__law_number.ok sc__law_number (fun vs H Q E h => ?_) (fun cdv A outer s H vs Q E hr h => ?_)
  · obtain ⟨a, rfl, _⟩ := h
    rfl
  · obtain ⟨a, rfl, hd, q⟩ := h
    refine ⟨_, (pss_one (ps_ret (pe_ix ix_list (pe_lst (pa_cons (pe_op op_sub (pe_call (ok__law_take T) (hr.mono (by decide)) (by rfl) T.g__law_take T.F__law_take.kp T.b__law_take .nil pass0 (pa_cons (pv 0) (pa_cons pe_int pa_nil))) pe_int) (pa_cons pe_int (pa_cons (pe_un un_neg pe_int) (pa_cons pe_int pa_nil))))) (pe_ix ix_list (pe_lst (pa_cons pe_int (pa_cons pe_int (pa_cons pe_int (pa_cons pe_int (pa_cons pe_int (pa_cons pe_int pa_nil))))))) (pe_call (ok__law_take T) (hr.mono (by decide)) (by rfl) T.g__law_take T.F__law_take.kp T.b__law_take .nil pass0 (pa_cons (pv 0) (pa_cons pe_int pa_nil))) (fun _ _ => rfl)) (fun _ _ => rfl)))), ?_⟩
    walk_at "z0"
    walk_at "z"
    refine ⟨a, 41, rfl, hd, by decide, by decide, fun H1 v hv0 hv1 k1 d1 => ?_⟩
    walk_at "z"
    refine Z.lstK (fun b H2 nb k2 e2 => ?_)
    walk_at "z"
    refine Z.lstK (fun b2 H3 nb2 k3 e3 => ?_)
    have d3 := (d1.kp0 k2).kp0 k3
    have nab : a ≠ b := d1.ne nb
    have nab2 : a ≠ b2 := (d1.kp0 k2).ne nb2
    walk_at "z"
    refine ⟨a, 6, rfl, d3, by decide, by decide, fun H4 u hu0 hu1 k4 d4 => ?_⟩
    obtain ⟨j, hj, ej⟩ := pickI [0, 0, 0, 1, 2, 3] hu0 hu1
    refine Z.ixL (lstL (k4.get (nin1 nab2.symm) e3)) ej ?_
    have hv : v - 20 ∈ nums := by
      unfold nums
      refine List.mem_append_left _ (List.mem_map.mpr ⟨v.toNat, List.mem_range.mpr (by omega), by omega⟩)
    obtain ⟨n, hn, en⟩ : ∃ n : Int, n ∈ nums ∧ atI [V.int (v - 20), V.int 1000000, V.int (-1000000), V.int 0] j = some (.int n) := by
      simp only [List.mem_cons, List.not_mem_nil, or_false] at hj
      rcases hj with rfl | rfl | rfl | rfl | rfl | rfl
      · exact ⟨_, hv, rfl⟩
      · exact ⟨_, hv, rfl⟩
      · exact ⟨_, hv, rfl⟩
      · exact ⟨1000000, by decide +kernel, rfl⟩
      · exact ⟨-1000000, by decide +kernel, rfl⟩
      · exact ⟨0, by decide +kernel, rfl⟩
    refine Z.ixL (lstL (k4.get (nin1 nab.symm) (k3.get nin0 e2))) en ?_
    exact q H4 n hn (k1.trans ((k2.trans k3).sub (by simp) |>.trans k4)) d4
def spCond (n : Nat) : Sp := fun vs H Q _ => ∃ (a : Addr) (m : Nat), vs = [.ref a, .int (m : Int)] ∧ m < n ∧ DrawsAt H a ∧ ∀ H' t v, Kp [a] H H' → DrawsAt H' a → TrAt H' t v → t.Good → t.dep ≤ m → Q v H'
theorem cond_rec {P : Program} {w : World} {K : PySem.W.Frag} {mg : Str → Option Value} {base : Heap} (T : T P K mg) : ∀ n, FnOk P w K mg base CX0 (n + 4) T.a__law_condition T.fd__law_condition ["draws", "depth"] (spCond n)
  | 0 => ⟨fun _ _ _ _ h => by obtain ⟨_, _, _, h, _⟩ := h; omega, fun _ _ _ _ _ _ _ _ _ _ _ _ _ h => by obtain ⟨_, _, _, h, _⟩ := h; omega⟩
  | n + 1 => by
    have ih := cond_rec (w := w) (base := base) T n
    show FnOk P w K mg base CX0 (n + 4 + 1) _ _ _ _
    refine T.F__law_condition.ok sc__law_condition (fun vs H Q E h => ?_) (fun cdv A outer s H vs Q E hr h => ?_)
    · obtain ⟨a, m, rfl, _⟩ := h
      rfl
    · obtain ⟨a, m, rfl, hm, hd, q⟩ := h
      refine ⟨_, (pss_cons (ps_set (i := 2) sc__law_condition.nd rfl (by first | exact Or.inl rfl | exact Or.inr rfl) (pe_call (ok__law_take T) (hr.mono (by omega)) (by rfl) T.g__law_take T.F__law_take.kp T.b__law_take .nil pass0 (pa_cons (pv 0) (pa_cons pe_int pa_nil))))
      (pss_cons (ps_if (PW.pt (pw_or (pt_cmpR op_eq (pv 1) pe_int (nomark _)) (pw_or1 (pt_cmpR op_lt (pv 2) pe_int (nomark _))))) (pss_cons (ps_set (i := 2) sc__law_condition.nd rfl (by first | exact Or.inl rfl | exact Or.inr rfl) (pe_call (ok__law_take T) (hr.mono (by omega)) (by rfl) T.g__law_take T.F__law_take.kp T.b__law_take .nil pass0 (pa_cons (pv 0) (pa_cons pe_int pa_nil))))
      (pss_cons (ps_if (pt_cmpR op_lt (pv 2) pe_int (nomark _)) (pss_one (ps_ret (pe_tup (pa_cons (pe_ix ix_list (pe_lst (pa_cons pe_str (pa_cons pe_str pa_nil))) (pv 2) (fun _ _ => rfl)) (pa_cons (pe_ix ix_list (pe_lst (pa_cons pe_str (pa_cons pe_str (pa_cons pe_str (pa_cons pe_str (pa_cons pe_str pa_nil)))))) (pe_call (ok__law_take T) (hr.mono (by omega)) (by rfl) T.g__law_take T.F__law_take.kp T.b__law_take .nil pass0 (pa_cons (pv 0) (pa_cons pe_int pa_nil))) (fun _ _ => rfl)) (pa_cons (pe_call (ok__law_number T) (hr.mono (by omega)) (by rfl) T.g__law_number T.F__law_number.kp T.b__law_number .nil pass0 (pa_cons (pv 0) pa_nil)) pa_nil)))))) pss_nil)
      (pss_cons (ps_if (pt_cmpR op_eq (pv 2) pe_int (nomark _)) (pss_one (ps_ret (pe_tup (pa_cons pe_str (pa_cons (pe_ix ix_list (pe_lst (pa_cons pe_str (pa_cons pe_str (pa_cons pe_str (pa_cons pe_str pa_nil))))) (pe_call (ok__law_take T) (hr.mono (by omega)) (by rfl) T.g__law_take T.F__law_take.kp T.b__law_take .nil pass0 (pa_cons (pv 0) (pa_cons pe_int pa_nil))) (fun _ _ => rfl)) pa_nil))))) pss_nil)
      (pss_cons (ps_if (pt_cmpR op_eq (pv 2) pe_int (nomark _)) (pss_one (ps_ret (pe_tup (pa_cons pe_str (pa_cons (pe_call (ok__law_name T) (hr.mono (by omega)) (by rfl) T.g__law_name T.F__law_name.kp T.b__law_name .nil pass0 (pa_cons (pv 0) pa_nil)) pa_nil))))) pss_nil)
      (pss_one (ps_ret (pe_tup (pa_cons pe_str pa_nil)))))))) pss_nil)
      (pss_cons (ps_if (pt_cmpR op_eq (pv 2) pe_int (nomark _)) (pss_one (ps_ret (pe_tup (pa_cons pe_str (pa_cons (pe_call ih (hr.mono (by omega)) (by rfl) T.g__law_condition T.F__law_condition.kp T.b__law_condition .nil pass0 (pa_cons (pv 0) (pa_cons (pe_op op_sub (pv 1) pe_int) pa_nil))) pa_nil))))) pss_nil)
      (pss_cons (ps_set (i := 3) sc__law_condition.nd rfl (by first | exact Or.inl rfl | exact Or.inr rfl) (pe_call ih (hr.mono (by omega)) (by rfl) T.g__law_condition T.F__law_condition.kp T.b__law_condition .nil pass0 (pa_cons (pv 0) (pa_cons (pe_op op_sub (pv 1) pe_int) pa_nil))))
      (pss_one (ps_ret (pe_tup (pa_cons (pe_ix ix_list (pe_lst (pa_cons pe_str (pa_cons pe_str pa_nil))) (pe_op op_mod (pe_callTy c_int (by rfl) T.z_int (by decide +kernel) (pa_cons (pv 2) pa_nil)) pe_int) (fun _ _ => rfl)) (pa_cons (pv 3) (pa_cons (pe_call ih (hr.mono (by omega)) (by rfl) T.g__law_condition T.F__law_condition.kp T.b__law_condition .nil pass0 (pa_cons (pv 0) (pa_cons (pe_op op_sub (pv 1) pe_int) pa_nil))) pa_nil)))))))))), ?_⟩
      walk_at "z0"
      walk_at "z"
      refine ⟨a, 9, rfl, hd, by decide, by decide, fun H1 kd hk0 hk1 k1 d1 => ?_⟩
      walk_at "z"
      refine Z.ite (fun c0 => ?_) (fun c0 => ?_)
      · walk_at "z"
        refine ⟨a, 5, rfl, d1, by decide, by decide, fun H2 kd2 h20 h21 k2 d2 => ?_⟩
        have k02 := k1.trans k2
        walk_at "z"
        refine Z.ite (fun c1 => ?_) (fun c1 => ?_)
        · walk_at "z"
          refine Z.lstK (fun b H3 nb k3 e3 => ?_)
          have d3 := d2.kp0 k3
          walk_at "z"
          obtain ⟨bb, ebb⟩ : ∃ bb : Bool, atI [V.str "weight", V.str "amount"] kd2 = some (.str (cmpW bb)) := by
            have hk : kd2 = 0 ∨ kd2 = 1 := by omega
            rcases hk with rfl | rfl
            · exact ⟨false, rfl⟩
            · exact ⟨true, rfl⟩
          refine Z.ixL (lstL e3) ebb ?_
          walk_at "z"
          refine Z.lstK (fun b2 H4 nb2 k4 e4 => ?_)
          have d4 := d3.kp0 k4
          have nab2 : a ≠ b2 := d3.ne nb2
          walk_at "z"
          refine ⟨a, 5, rfl, d4, by decide, by decide, fun H5 v hv0 hv1 k5 d5 => ?_⟩
          obtain ⟨sg, hsg, esg⟩ := pickS signs5 hv0 hv1
          refine Z.ixL (lstL (k5.get (nin1 nab2.symm) e4)) esg ?_
          walk_at "z"
          refine ⟨a, rfl, d5, fun H6 n6 hn6 k6 d6 => ?_⟩
          walk_at "z"
          refine Z.tupK (fun p H7 np k7 e7 => ?_)
          exact q H7 (.leaf (.cmp bb sg n6)) _ (k02.trans (((k3.trans k4).sub (by simp)).trans (k5.trans (k6.trans (k7.sub (by simp)))))) (d6.kp0 k7) ⟨p, rfl, e7⟩ ⟨hsg, hn6⟩ (Nat.zero_le _)
        · walk_at "z"
          refine Z.ite (fun c2 => ?_) (fun c2 => ?_)
          · walk_at "z"
            refine Z.lstK (fun b H3 nb k3 e3 => ?_)
            have d3 := d2.kp0 k3
            have nab : a ≠ b := d2.ne nb
            walk_at "z"
            refine ⟨a, 4, rfl, d3, by decide, by decide, fun H4 v hv0 hv1 k4 d4 => ?_⟩
            obtain ⟨sg, hsg, esg⟩ := pickS grps hv0 hv1
            refine Z.ixL (lstL (k4.get (nin1 nab.symm) e3)) esg ?_
            walk_at "z"
            refine Z.tupK (fun p H5 np k5 e5 => ?_)
            exact q H5 (.leaf (.grp sg)) _ (k02.trans ((k3.sub (by simp)).trans (k4.trans (k5.sub (by simp))))) (d4.kp0 k5) ⟨p, rfl, e5⟩ hsg (Nat.zero_le _)
          · walk_at "z"
            refine Z.ite (fun c3 => ?_) (fun c3 => ?_)
            · walk_at "z"
              refine ⟨a, rfl, d2, fun H3 sg hsg k3 d3 => ?_⟩
              walk_at "z"
              refine Z.tupK (fun p H4 np k4 e4 => ?_)
              exact q H4 (.leaf (.key sg)) _ (k02.trans (k3.trans (k4.sub (by simp)))) (d3.kp0 k4) ⟨p, rfl, e4⟩ hsg (Nat.zero_le _)
            · walk_at "z"
              refine Z.tupK (fun p H4 np k4 e4 => ?_)
              exact q H4 (.leaf .all) _ (k02.trans (k4.sub (by simp))) (d2.kp0 k4) ⟨p, rfl, e4⟩ trivial (Nat.zero_le _)
      · walk_at "z"
        refine Z.ite (fun c4 => ?_) (fun c4 => ?_)
        · walk_at "z"
          refine ⟨a, 5, rfl, d1, by decide, by decide, fun H2 kd2 h20 h21 k2 d2 => ?_⟩
          have k02 := k1.trans k2
          walk_at "z"
          refine Z.ite (fun c1 => ?_) (fun c1 => ?_)
          · walk_at "z"
            refine Z.lstK (fun b H3 nb k3 e3 => ?_)
            have d3 := d2.kp0 k3
            walk_at "z"
            obtain ⟨bb, ebb⟩ : ∃ bb : Bool, atI [V.str "weight", V.str "amount"] kd2 = some (.str (cmpW bb)) := by
              have hk : kd2 = 0 ∨ kd2 = 1 := by omega
              rcases hk with rfl | rfl
              · exact ⟨false, rfl⟩
              · exact ⟨true, rfl⟩
            refine Z.ixL (lstL e3) ebb ?_
            walk_at "z"
            refine Z.lstK (fun b2 H4 nb2 k4 e4 => ?_)
            have d4 := d3.kp0 k4
            have nab2 : a ≠ b2 := d3.ne nb2
            walk_at "z"
            refine ⟨a, 5, rfl, d4, by decide, by decide, fun H5 v hv0 hv1 k5 d5 => ?_⟩
            obtain ⟨sg, hsg, esg⟩ := pickS signs5 hv0 hv1
            refine Z.ixL (lstL (k5.get (nin1 nab2.symm) e4)) esg ?_
            walk_at "z"
            refine ⟨a, rfl, d5, fun H6 n6 hn6 k6 d6 => ?_⟩
            walk_at "z"
            refine Z.tupK (fun p H7 np k7 e7 => ?_)
            exact q H7 (.leaf (.cmp bb sg n6)) _ (k02.trans (((k3.trans k4).sub (by simp)).trans (k5.trans (k6.trans (k7.sub (by simp)))))) (d6.kp0 k7) ⟨p, rfl, e7⟩ ⟨hsg, hn6⟩ (Nat.zero_le _)
          · walk_at "z"
            refine Z.ite (fun c2 => ?_) (fun c2 => ?_)
            · walk_at "z"
              refine Z.lstK (fun b H3 nb k3 e3 => ?_)
              have d3 := d2.kp0 k3
              have nab : a ≠ b := d2.ne nb
              walk_at "z"
              refine ⟨a, 4, rfl, d3, by decide, by decide, fun H4 v hv0 hv1 k4 d4 => ?_⟩
              obtain ⟨sg, hsg, esg⟩ := pickS grps hv0 hv1
              refine Z.ixL (lstL (k4.get (nin1 nab.symm) e3)) esg ?_
              walk_at "z"
              refine Z.tupK (fun p H5 np k5 e5 => ?_)
              exact q H5 (.leaf (.grp sg)) _ (k02.trans ((k3.sub (by simp)).trans (k4.trans (k5.sub (by simp))))) (d4.kp0 k5) ⟨p, rfl, e5⟩ hsg (Nat.zero_le _)
            · walk_at "z"
              refine Z.ite (fun c3 => ?_) (fun c3 => ?_)
              · walk_at "z"
                refine ⟨a, rfl, d2, fun H3 sg hsg k3 d3 => ?_⟩
                walk_at "z"
                refine Z.tupK (fun p H4 np k4 e4 => ?_)
                exact q H4 (.leaf (.key sg)) _ (k02.trans (k3.trans (k4.sub (by simp)))) (d3.kp0 k4) ⟨p, rfl, e4⟩ hsg (Nat.zero_le _)
              · walk_at "z"
                refine Z.tupK (fun p H4 np k4 e4 => ?_)
                exact q H4 (.leaf .all) _ (k02.trans (k4.sub (by simp))) (d2.kp0 k4) ⟨p, rfl, e4⟩ trivial (Nat.zero_le _)
        · walk_at "z"
          have em : ((m : Int) - 1) = ((m - 1 : Nat) : Int) := by omega
          refine Z.ite (fun c5 => ?_) (fun c5 => ?_)
          · walk_at "z"
            rw [em]
            refine ⟨a, m - 1, rfl, by omega, d1, fun H2 t u k2 d2 ht hg hdep => ?_⟩
            walk_at "z"
            refine Z.tupK (fun p H3 np k3 e3 => ?_)
            exact q H3 (.neg t) _ (k1.trans (k2.trans (k3.sub (by simp)))) (d2.kp0 k3) ⟨p, u, rfl, e3, ht.kp0 k3⟩ hg (by rw [PT.dep]; omega)
          · walk_at "z"
            rw [em]
            refine ⟨a, m - 1, rfl, by omega, d1, fun H2 t u k2 d2 ht hg hdep => ?_⟩
            walk_at "z"
            refine Z.lstK (fun b H3 nb k3 e3 => ?_)
            have d3 := d2.kp0 k3
            walk_at "z"
            refine Z.iC (by decide) ?_
            obtain ⟨o, eo⟩ : ∃ o : Bool, atI [V.str "and", V.str "or"] (kd % 2) = some (.str (twoW o)) := by
              have hk : kd % 2 = 0 ∨ kd % 2 = 1 := by omega
              rcases hk with h | h
              · exact ⟨false, by rw [h]; rfl⟩
              · exact ⟨true, by rw [h]; rfl⟩
            refine Z.ixL (lstL e3) eo ?_
            walk_at "z"
            rw [em]
            refine ⟨a, m - 1, rfl, by omega, d3, fun H4 t2 u2 k4 d4 ht2 hg2 hdep2 => ?_⟩
            walk_at "z"
            refine Z.tupK (fun p H5 np k5 e5 => ?_)
            exact q H5 (.two o t t2) _ (k1.trans (k2.trans ((k3.sub (by simp)).trans (k4.trans (k5.sub (by simp)))))) (d4.kp0 k5) ⟨p, u, u2, rfl, e5, ((ht.kp0 k3).kpd k4 d3).kp0 k5, ht2.kp0 k5⟩ ⟨hg, hg2⟩ (by rw [PT.dep]; omega)
theorem ok__law_condition {P : Program} {w : World} {K : PySem.W.Frag} {mg : Str → Option Value} {base : Heap} (T : T P K mg) : FnOk P w K mg base CX0 9 T.a__law_condition T.fd__law_condition ["draws", "depth"] (spCond 5) := cond_rec T 5

/-! ### the law's own text -/
theorem parS_len (ws : List Str) (w x : Str) : (parS ws w x).length ≤ x.length + 2 := by
  unfold parS
  split
  · rw [app_len, app_len, show ("(" : Str).length = 1 by decide +kernel, show (")" : Str).length = 1 by decide +kernel]; omega
  · omega
theorem atom_len : ∀ {a : Atom}, (PT.leaf a).Good → a.text.length ≤ 30
  | .cmp a s n, h => by
    have h1 := signs_len h.1
    have h2 := (nS_all n h.2).1
    have hal : (cmpW a).length = 6 := by cases a <;> decide +kernel
    show (cmpW a ++ (" " : Str) ++ s ++ (" " : Str) ++ nS n).length ≤ 30
    rw [app_len, app_len, app_len, app_len, show (" " : Str).length = 1 by decide +kernel]
    omega
  | .grp s, h => by
    have h1 := grps_len s h
    show (("group" : Str) ++ (" " : Str) ++ s).length ≤ 30
    rw [app_len, app_len, show (" " : Str).length = 1 by decide +kernel, show ("group" : Str).length = 5 by decide +kernel]
    omega
  | .key s, h => by
    have h1 := names_len s h
    show (("key" : Str) ++ (" " : Str) ++ s).length ≤ 30
    rw [app_len, app_len, show (" " : Str).length = 1 by decide +kernel, show ("key" : Str).length = 3 by decide +kernel]
    omega
  | .all, _ => by decide +kernel
theorem wr_len : ∀ {t : PT}, t.Good → (wr t).length + 20 ≤ 60 * 2 ^ t.dep
  | .leaf a, h => by
    have := atom_len h
    show a.text.length + 20 ≤ 60 * 2 ^ 0
    omega
  | .neg c, h => by
    have h1 := wr_len (t := c) h
    have h2 := parS_len ["and", "or"] c.word (wr c)
    have h3 : 0 < 2 ^ c.dep := Nat.pow_pos (by decide)
    show (("not " : Str) ++ parS ["and", "or"] c.word (wr c)).length + 20 ≤ 60 * 2 ^ (c.dep + 1)
    rw [app_len, Nat.pow_succ, show ("not " : Str).length = 4 by decide +kernel]
    omega
  | .two false c d, h => by
    have h1 := wr_len (t := c) h.1
    have h2 := wr_len (t := d) h.2
    have e1 : 2 ^ c.dep ≤ 2 ^ max c.dep d.dep := Nat.pow_le_pow_right (by decide) (by omega)
    have e2 : 2 ^ d.dep ≤ 2 ^ max c.dep d.dep := Nat.pow_le_pow_right (by decide) (by omega)
    have g1 := parS_len ["or"] c.word (wr c)
    have g2 := parS_len ["and", "or"] d.word (wr d)
    show (parS ["or"] c.word (wr c) ++ (" and " : Str) ++ parS ["and", "or"] d.word (wr d)).length + 20 ≤ 60 * 2 ^ (max c.dep d.dep + 1)
    rw [app_len, app_len, Nat.pow_succ, show (" and " : Str).length = 5 by decide +kernel]
    omega
  | .two true c d, h => by
    have h1 := wr_len (t := c) h.1
    have h2 := wr_len (t := d) h.2
    have e1 : 2 ^ c.dep ≤ 2 ^ max c.dep d.dep := Nat.pow_le_pow_right (by decide) (by omega)
    have e2 : 2 ^ d.dep ≤ 2 ^ max c.dep d.dep := Nat.pow_le_pow_right (by decide) (by omega)
    have g2 := parS_len ["or"] d.word (wr d)
    show (wr c ++ (" or " : Str) ++ parS ["or"] d.word (wr d)).length + 20 ≤ 60 * 2 ^ (max c.dep d.dep + 1)
    rw [app_len, app_len, Nat.pow_succ, show (" or " : Str).length = 4 by decide +kernel]
    omega
theorem wr_le {t : PT} (h : t.Good) (hd : t.dep ≤ 5) : (wr t).length ≤ 1900 := by
  have h1 := wr_len h
  have h2 : 2 ^ t.dep ≤ 2 ^ 5 := Nat.pow_le_pow_right (by decide) hd
  omega
theorem aS {a b : Str} {Q : VK} {H : Hp} (h : a.length + b.length ≤ 6000) (q : Q (.str (a ++ b)) H) : rAddS (.str a) (.str b) H Q := Z.addS (Nat.le_trans h (by decide)) q
def spLW (n : Nat) : Sp := fun vs H Q _ => ∃ (t : PT) (v : V), vs = [v] ∧ TrAt H t v ∧ t.Good ∧ t.dep < n ∧ t.dep ≤ 5 ∧ ∀ H', Kp [] H H' → Q (.str (wr t)) H'
def spLP (K : PySem.W.Frag) (n : Nat) : Sp := fun vs H Q _ => ∃ (t : PT) (v : V) (a : Addr) (ws : List Str), vs = [v, .ref a] ∧ TrAt H t v ∧ t.Good ∧ t.dep < n ∧ t.dep ≤ 5 ∧ H a = some (.lst (ws.map V.str)) ∧ ∀ H', Kp [] H H' → Q (.str (parS ws t.word (wr t))) H'
section
variable {P : Program} {w : World} {K : PySem.W.Frag} {mg : Str → Option Value} {base : Heap}
theorem lpart_ok (T : T P K mg) {n m : Nat} (hm : 1 ≤ m) (hW : FnOk P w K mg base CX0 m T.a__law_written T.fd__law_written ["condition"] (spLW n)) : FnOk P w K mg base CX0 (m + 1) T.a__law_part T.fd__law_part ["condition", "words"] (spLP K n) := by
  have ok__law_written := fun (_ : TT P K mg) => hW
  refine T.F__law_part.ok sc__law_part (fun vs H Q E h => ?_) (fun cdv A outer s H vs Q E hr h => ?_)
  · obtain ⟨t, v, a, ws, rfl, _⟩ := h
    rfl
  · obtain ⟨t, v, a, ws, rfl, hv, hg, hd, hd5, ha, q⟩ := h
    refine ⟨_, (pss_cons (ps_set (i := 2) sc__law_part.nd rfl (by first | exact Or.inl rfl | exact Or.inr rfl) (pe_call (ok__law_written T) (hr.mono (by omega)) (by rfl) T.g__law_written T.F__law_written.kp T.b__law_written .nil pass0 (pa_cons (pv 0) pa_nil)))
      (pss_cons (ps_if (pt_cmpR op_in_seq (pe_ix ix_tup (pv 0) pe_int (fun _ _ => rfl)) (pv 1) rfl) (pss_one (ps_ret (pe_op o_addS (pe_op o_addS pe_str (pv 2)) pe_str))) pss_nil)
      (pss_one (ps_ret (pv 2))))), ?_⟩
    obtain ⟨p, r, rfl, hp⟩ := hv.tup
    have hl := wr_le hg hd5
    walk_at "z0"
    walk_at "z"
    refine ⟨t, _, rfl, hv, hg, hd, hd5, fun H1 k1 => ?_⟩
    walk_at "z"
    refine Z.ixT (tupT (k1.get nin0 hp)) at0 ?_
    walk_at "z"
    refine Z.inq (xs := ws.map V.str) (.inl (lstL (k1.get nin0 ha))) rfl Z.strs_flat ?_
    rw [if_neg Bool.false_ne_true, Z.inV_strs]
    walk_at "z"
    unfold parS at q
    refine Z.ite (fun h1 => ?_) (fun h1 => ?_)
    · rw [if_pos h1] at q
      walk_at "z"
      refine aS (by rw [show ("(" : Str).length = 1 by decide +kernel]; omega) ?_
      walk_at "z"
      refine aS (by rw [app_len, show ("(" : Str).length = 1 by decide +kernel, show (")" : Str).length = 1 by decide +kernel]; omega) ?_
      walk_at "z"
      exact q H1 k1
    · rw [if_neg h1] at q
      walk_at "z"
      exact q H1 k1
theorem lwritten_rec (T : T P K mg) : ∀ n, FnOk P w K mg base CX0 (2 * n + 2) T.a__law_written T.fd__law_written ["condition"] (spLW n)
  | 0 => ⟨fun _ _ _ _ h => by obtain ⟨_, _, _, _, _, h, _⟩ := h; omega, fun _ _ _ _ _ _ _ _ _ _ _ _ _ h => by obtain ⟨_, _, _, _, _, h, _⟩ := h; omega⟩
  | n + 1 => by
    have ih := lwritten_rec T n
    have ok__law_part := fun (_ : TT P K mg) => lpart_ok T (by omega) ih
    show FnOk P w K mg base CX0 (2 * n + 2 + 1 + 1) _ _ _ _
    refine T.F__law_written.ok sc__law_written (fun vs H Q E h => ?_) (fun cdv A outer s H vs Q E hr h => ?_)
    · obtain ⟨t, v, rfl, _⟩ := h
      rfl
    · obtain ⟨t, v, rfl, hv, hg, hd, hd5, q⟩ := h
      refine ⟨_, (pss_cons (ps_set (i := 1) sc__law_written.nd rfl (by first | exact Or.inl rfl | exact Or.inr rfl) (pe_ix ix_tup (pv 0) pe_int (fun _ _ => rfl)))
      (pss_cons (ps_if (pt_cmpR op_eq (pv 1) pe_str (nomark _)) (pss_one (ps_ret pe_str)) pss_nil)
      (pss_cons (ps_if (pt_cmpR op_in_seq (pv 1) (pe_lst (pa_cons pe_str (pa_cons pe_str pa_nil))) rfl) (pss_one (ps_ret (pe_op o_addS (pe_op o_addS (pe_op o_addS (pe_op o_addS (pv 1) pe_str) (pe_ix ix_tup (pv 0) pe_int (fun _ _ => rfl))) pe_str) (pe_callTy call_str_int (by rfl) T.z_str (by decide +kernel) (pa_cons (pe_ix ix_tup (pv 0) pe_int (fun _ _ => rfl)) pa_nil))))) pss_nil)
      (pss_cons (ps_if (pt_cmpR op_in_seq (pv 1) (pe_lst (pa_cons pe_str (pa_cons pe_str pa_nil))) rfl) (pss_one (ps_ret (pe_op o_addS (pe_op o_addS (pv 1) pe_str) (pe_ix ix_tup (pv 0) pe_int (fun _ _ => rfl))))) pss_nil)
      (pss_cons (ps_if (pt_cmpR op_eq (pv 1) pe_str (nomark _)) (pss_one (ps_ret (pe_op o_addS pe_str (pe_call (ok__law_part T) (hr.mono (by omega)) (by rfl) T.g__law_part T.F__law_part.kp T.b__law_part .nil pass0 (pa_cons (pe_ix ix_tup (pv 0) pe_int (fun _ _ => rfl)) (pa_cons (pe_lst (pa_cons pe_str (pa_cons pe_str pa_nil))) pa_nil)))))) pss_nil)
      (pss_cons (ps_if (pt_cmpR op_eq (pv 1) pe_str (nomark _)) (pss_one (ps_ret (pe_op o_addS (pe_op o_addS (pe_call (ok__law_part T) (hr.mono (by omega)) (by rfl) T.g__law_part T.F__law_part.kp T.b__law_part .nil pass0 (pa_cons (pe_ix ix_tup (pv 0) pe_int (fun _ _ => rfl)) (pa_cons (pe_lst (pa_cons pe_str pa_nil)) pa_nil))) pe_str) (pe_call (ok__law_part T) (hr.mono (by omega)) (by rfl) T.g__law_part T.F__law_part.kp T.b__law_part .nil pass0 (pa_cons (pe_ix ix_tup (pv 0) pe_int (fun _ _ => rfl)) (pa_cons (pe_lst (pa_cons pe_str (pa_cons pe_str pa_nil))) pa_nil)))))) pss_nil)
      (pss_one (ps_ret (pe_op o_addS (pe_op o_addS (pe_call ih (hr.mono (by omega)) (by rfl) T.g__law_written T.F__law_written.kp T.b__law_written .nil pass0 (pa_cons (pe_ix ix_tup (pv 0) pe_int (fun _ _ => rfl)) pa_nil)) pe_str) (pe_call (ok__law_part T) (hr.mono (by omega)) (by rfl) T.g__law_part T.F__law_part.kp T.b__law_part .nil pass0 (pa_cons (pe_ix ix_tup (pv 0) pe_int (fun _ _ => rfl)) (pa_cons (pe_lst (pa_cons pe_str pa_nil)) pa_nil)))))))))))), ?_⟩
      obtain ⟨p, r, rfl, hp⟩ := hv.tup
      have hl := wr_le hg hd5
      walk_at "z0"
      walk_at "z"
      refine Z.ixT (tupT hp) at0 ?_
      walk_at "z"
      cases t with
      | leaf a =>
        have hal := atom_len hg
        obtain ⟨p', e0, hp'⟩ := hv
        cases e0
        cases a with
        | all =>
          refine Z.yes rfl ?_
          walk_at "z"
          exact q H (Kp.refl _)
        | grp s =>
          have hs : s.length ≤ 12 := good_sz hg
          refine Z.no (by show ¬ (("group" : Str) = ("all" : Str)); decide +kernel) ?_
          walk_at "z"
          refine Z.lstK (fun b1 H1 nb1 k1 e1 => ?_)
          refine Z.inq (xs := ([("weight" : Str), "amount"] : List Str).map V.str) (.inl (lstL e1)) rfl Z.strs_flat ?_
          rw [if_neg Bool.false_ne_true, Z.inV_strs]
          walk_at "z"
          refine Z.no (by show ¬ (("group" : Str) ∈ ([("weight" : Str), "amount"] : List Str)); decide +kernel) ?_
          walk_at "z"
          refine Z.lstK (fun b2 H2 nb2 k2 e2 => ?_)
          refine Z.inq (xs := ([("group" : Str), "key"] : List Str).map V.str) (.inl (lstL e2)) rfl Z.strs_flat ?_
          rw [if_neg Bool.false_ne_true, Z.inV_strs]
          walk_at "z"
          refine Z.yes (by show ("group" : Str) ∈ ([("group" : Str), "key"] : List Str); decide +kernel) ?_
          walk_at "z"
          refine aS (by show ("group" : Str).length + (" " : Str).length ≤ 6000; decide +kernel) ?_
          walk_at "z"
          refine Z.ixT (tupT ((k1.trans k2).get nin0 hp')) (j := 1) (v := .str s) rfl ?_
          refine aS (by rw [app_len]; show ("group" : Str).length + (" " : Str).length + s.length ≤ 6000; rw [show ("group" : Str).length = 5 by decide +kernel, show (" " : Str).length = 1 by decide +kernel]; omega) ?_
          exact q H2 (k1.trans k2)
        | key s =>
          have hs : s.length ≤ 12 := good_sz hg
          refine Z.no (by show ¬ (("key" : Str) = ("all" : Str)); decide +kernel) ?_
          walk_at "z"
          refine Z.lstK (fun b1 H1 nb1 k1 e1 => ?_)
          refine Z.inq (xs := ([("weight" : Str), "amount"] : List Str).map V.str) (.inl (lstL e1)) rfl Z.strs_flat ?_
          rw [if_neg Bool.false_ne_true, Z.inV_strs]
          walk_at "z"
          refine Z.no (by show ¬ (("key" : Str) ∈ ([("weight" : Str), "amount"] : List Str)); decide +kernel) ?_
          walk_at "z"
          refine Z.lstK (fun b2 H2 nb2 k2 e2 => ?_)
          refine Z.inq (xs := ([("group" : Str), "key"] : List Str).map V.str) (.inl (lstL e2)) rfl Z.strs_flat ?_
          rw [if_neg Bool.false_ne_true, Z.inV_strs]
          walk_at "z"
          refine Z.yes (by show ("key" : Str) ∈ ([("group" : Str), "key"] : List Str); decide +kernel) ?_
          walk_at "z"
          refine aS (by show ("key" : Str).length + (" " : Str).length ≤ 6000; decide +kernel) ?_
          walk_at "z"
          refine Z.ixT (tupT ((k1.trans k2).get nin0 hp')) (j := 1) (v := .str s) rfl ?_
          refine aS (by rw [app_len]; show ("key" : Str).length + (" " : Str).length + s.length ≤ 6000; rw [show ("key" : Str).length = 3 by decide +kernel, show (" " : Str).length = 1 by decide +kernel]; omega) ?_
          exact q H2 (k1.trans k2)
        | cmp a s n =>
          obtain ⟨hs, hn⟩ := hg
          have hsl : s.length ≤ 2 := signs_len hs
          obtain ⟨hnl, hna⟩ := nS_all n hn
          have hal : (cmpW a).length = 6 := by cases a <;> decide +kernel
          have n1 : ¬ cmpW a = "all" := by cases a <;> decide +kernel
          have n3 : cmpW a ∈ ([("weight" : Str), "amount"] : List Str) := by cases a <;> decide +kernel
          have z1 : (" " : Str).length = 1 := by decide +kernel
          refine Z.no n1 ?_
          walk_at "z"
          refine Z.lstK (fun b1 H1 nb1 k1 e1 => ?_)
          refine Z.inq (xs := ([("weight" : Str), "amount"] : List Str).map V.str) (.inl (lstL e1)) rfl Z.strs_flat ?_
          rw [if_neg Bool.false_ne_true, Z.inV_strs]
          walk_at "z"
          refine Z.yes n3 ?_
          walk_at "z"
          have hp1 := k1.get nin0 hp'
          refine aS (a := cmpW a) (by omega) ?_
          walk_at "z"
          refine Z.ixT (tupT hp1) (j := 1) (v := .str s) rfl ?_
          refine aS (by rw [app_len]; omega) ?_
          walk_at "z"
          refine aS (by rw [app_len, app_len]; omega) ?_
          walk_at "z"
          refine Z.ixT (tupT hp1) (j := 2) (v := .int n) rfl ?_
          walk_at "z"
          refine ⟨n, rfl, Nat.lt_of_lt_of_le (PySem.Flt.log2_lt_of (k := 30) (by decide) (Nat.lt_of_le_of_lt hna (by decide))) (by decide), ?_⟩
          refine aS (b := nS n) (by rw [app_len, app_len, app_len]; omega) ?_
          exact q H1 k1
      | neg c =>
        obtain ⟨p', u, e0, hp', hc⟩ := hv
        cases e0
        have hdc : c.dep + 1 < n + 1 := hd
        have hd5c : c.dep + 1 ≤ 5 := hd5
        have hlc := wr_le (t := c) hg (by omega)
        have g1 := parS_len ["and", "or"] c.word (wr c)
        refine Z.no (by show ¬ (("not" : Str) = ("all" : Str)); decide +kernel) ?_
        walk_at "z"
        refine Z.lstK (fun b1 H1 nb1 k1 e1 => ?_)
        refine Z.inq (xs := ([("weight" : Str), "amount"] : List Str).map V.str) (.inl (lstL e1)) rfl Z.strs_flat ?_
        rw [if_neg Bool.false_ne_true, Z.inV_strs]
        walk_at "z"
        refine Z.no (by show ¬ (("not" : Str) ∈ ([("weight" : Str), "amount"] : List Str)); decide +kernel) ?_
        walk_at "z"
        refine Z.lstK (fun b2 H2 nb2 k2 e2 => ?_)
        refine Z.inq (xs := ([("group" : Str), "key"] : List Str).map V.str) (.inl (lstL e2)) rfl Z.strs_flat ?_
        rw [if_neg Bool.false_ne_true, Z.inV_strs]
        walk_at "z"
        refine Z.no (by show ¬ (("not" : Str) ∈ ([("group" : Str), "key"] : List Str)); decide +kernel) ?_
        walk_at "z"
        refine Z.yes (by show ("not" : Str) = ("not" : Str); decide +kernel) ?_
        walk_at "z"
        have hp2 := (k1.trans k2).get nin0 hp'
        refine Z.ixT (tupT hp2) (j := 1) (v := u) rfl ?_
        walk_at "z"
        refine Z.lstK (fun b3 H3 nb3 k3 e3 => ?_)
        walk_at "z"
        have kk := k1.trans (k2.trans k3)
        refine ⟨c, u, b3, ["and", "or"], rfl, hc.kp0 kk, hg, by omega, by omega, e3, fun H4 k4 => ?_⟩
        refine aS (by rw [show ("not " : Str).length = 4 by decide +kernel]; omega) ?_
        exact q H4 (kk.trans k4)
      | two o c d =>
        obtain ⟨p', u, x, e0, hp', hc, hdd⟩ := hv
        cases e0
        have hd' : max c.dep d.dep + 1 < n + 1 := hd
        have hd5' : max c.dep d.dep + 1 ≤ 5 := hd5
        have hlc := wr_le (t := c) hg.1 (by omega)
        have hld := wr_le (t := d) hg.2 (by omega)
        cases o with
        | false =>
          have g1 := parS_len ["or"] c.word (wr c)
          have g2 := parS_len ["and", "or"] d.word (wr d)
          refine Z.no (by show ¬ (("and" : Str) = ("all" : Str)); decide +kernel) ?_
          walk_at "z"
          refine Z.lstK (fun b1 H1 nb1 k1 e1 => ?_)
          refine Z.inq (xs := ([("weight" : Str), "amount"] : List Str).map V.str) (.inl (lstL e1)) rfl Z.strs_flat ?_
          rw [if_neg Bool.false_ne_true, Z.inV_strs]
          walk_at "z"
          refine Z.no (by show ¬ (("and" : Str) ∈ ([("weight" : Str), "amount"] : List Str)); decide +kernel) ?_
          walk_at "z"
          refine Z.lstK (fun b2 H2 nb2 k2 e2 => ?_)
          refine Z.inq (xs := ([("group" : Str), "key"] : List Str).map V.str) (.inl (lstL e2)) rfl Z.strs_flat ?_
          rw [if_neg Bool.false_ne_true, Z.inV_strs]
          walk_at "z"
          refine Z.no (by show ¬ (("and" : Str) ∈ ([("group" : Str), "key"] : List Str)); decide +kernel) ?_
          walk_at "z"
          refine Z.no (by show ¬ (("and" : Str) = ("not" : Str)); decide +kernel) ?_
          walk_at "z"
          refine Z.yes (by show ("and" : Str) = ("and" : Str); decide +kernel) ?_
          walk_at "z"
          have hp2 := (k1.trans k2).get nin0 hp'
          refine Z.ixT (tupT hp2) (j := 1) (v := u) rfl ?_
          walk_at "z"
          refine Z.lstK (fun b3 H3 nb3 k3 e3 => ?_)
          walk_at "z"
          have kk := k1.trans (k2.trans k3)
          refine ⟨c, u, b3, ["or"], rfl, hc.kp0 kk, hg.1, by omega, by omega, e3, fun H4 k4 => ?_⟩
          walk_at "z"
          refine aS (by rw [show (" and " : Str).length = 5 by decide +kernel]; omega) ?_
          walk_at "z"
          refine Z.ixT (tupT ((kk.trans k4).get nin0 hp')) (j := 2) (v := x) rfl ?_
          walk_at "z"
          refine Z.lstK (fun b5 H5 nb5 k5 e5 => ?_)
          walk_at "z"
          have kk5 := (kk.trans k4).trans k5
          refine ⟨d, x, b5, ["and", "or"], rfl, hdd.kp0 kk5, hg.2, by omega, by omega, e5, fun H6 k6 => ?_⟩
          refine aS (by rw [app_len, show (" and " : Str).length = 5 by decide +kernel]; omega) ?_
          exact q H6 (kk5.trans k6)
        | true =>
          have g2 := parS_len ["or"] d.word (wr d)
          refine Z.no (by show ¬ (("or" : Str) = ("all" : Str)); decide +kernel) ?_
          walk_at "z"
          refine Z.lstK (fun b1 H1 nb1 k1 e1 => ?_)
          refine Z.inq (xs := ([("weight" : Str), "amount"] : List Str).map V.str) (.inl (lstL e1)) rfl Z.strs_flat ?_
          rw [if_neg Bool.false_ne_true, Z.inV_strs]
          walk_at "z"
          refine Z.no (by show ¬ (("or" : Str) ∈ ([("weight" : Str), "amount"] : List Str)); decide +kernel) ?_
          walk_at "z"
          refine Z.lstK (fun b2 H2 nb2 k2 e2 => ?_)
          refine Z.inq (xs := ([("group" : Str), "key"] : List Str).map V.str) (.inl (lstL e2)) rfl Z.strs_flat ?_
          rw [if_neg Bool.false_ne_true, Z.inV_strs]
          walk_at "z"
          refine Z.no (by show ¬ (("or" : Str) ∈ ([("group" : Str), "key"] : List Str)); decide +kernel) ?_
          walk_at "z"
          refine Z.no (by show ¬ (("or" : Str) = ("not" : Str)); decide +kernel) ?_
          walk_at "z"
          refine Z.no (by show ¬ (("or" : Str) = ("and" : Str)); decide +kernel) ?_
          walk_at "z"
          have hp2 := (k1.trans k2).get nin0 hp'
          refine Z.ixT (tupT hp2) (j := 1) (v := u) rfl ?_
          walk_at "z"
          have kk := k1.trans k2
          refine ⟨c, u, rfl, hc.kp0 kk, hg.1, by omega, by omega, fun H4 k4 => ?_⟩
          walk_at "z"
          refine aS (by rw [show (" or " : Str).length = 4 by decide +kernel]; omega) ?_
          walk_at "z"
          refine Z.ixT (tupT ((kk.trans k4).get nin0 hp')) (j := 2) (v := x) rfl ?_
          walk_at "z"
          refine Z.lstK (fun b5 H5 nb5 k5 e5 => ?_)
          walk_at "z"
          have kk5 := (kk.trans k4).trans k5
          refine ⟨d, x, b5, ["or"], rfl, hdd.kp0 kk5, hg.2, by omega, by omega, e5, fun H6 k6 => ?_⟩
          refine aS (by rw [app_len, show (" or " : Str).length = 4 by decide +kernel]; omega) ?_
          exact q H6 (kk5.trans k6)
theorem ok__law_written (T : T P K mg) : FnOk P w K mg base CX0 12 T.a__law_written T.fd__law_written ["condition"] (spLW 5) := lwritten_rec T 5
end

/-! ### what the parser reads -/
def R0 (D : Nat) (t : PT) (ws : List Str) : Prop := ∀ rest, turnF D (ws ++ rest) = .ok (t, rest)
def R1 (D : Nat) (t : PT) (ws : List Str) : Prop := ∀ rest, chain false (turnF D) (ws ++ rest) = chainL false (turnF D) rest.length t rest
def R2 (D : Nat) (t : PT) (ws : List Str) : Prop := ∀ rest, ¬ here rest = "and" → chain true (chain false (turnF D)) (ws ++ rest) = chainL true (chain false (turnF D)) rest.length t rest
theorem chain_ok {o : Bool} {f : List Str → Res} {ws r : List Str} {t : PT} (h : f ws = .ok (t, r)) : chain o f ws = chainL o f r.length t r := by
  unfold chain
  simp only [h]
theorem R1.of {D : Nat} {t : PT} {ws : List Str} (h : R0 D t ws) : R1 D t ws := fun rest => chain_ok (h rest)
theorem R1.fin {D : Nat} {t : PT} {ws : List Str} (h : R1 D t ws) {rest : List Str} (hr : ¬ here rest = "and") : chain false (turnF D) (ws ++ rest) = .ok (t, rest) := by
  rw [h rest]
  exact chainL_no (show ¬ here rest = twoW false from hr)
theorem R2.of {D : Nat} {t : PT} {ws : List Str} (h : R1 D t ws) : R2 D t ws := fun rest hr => chain_ok (h.fin hr)
theorem R2.fin {D : Nat} {t : PT} {ws : List Str} (h : R2 D t ws) {rest : List Str} (hr : ¬ here rest = "and") (hr2 : ¬ here rest = "or") : chain true (chain false (turnF D)) (ws ++ rest) = .ok (t, rest) := by
  rw [h rest hr]
  exact chainL_no (show ¬ here rest = twoW true from hr2)
theorem chainL_fuel {o : Bool} {f : List Str → Res} (hf : Shr f) : ∀ {n m : Nat} {t : PT} {ws : List Str}, ws.length ≤ n → ws.length ≤ m → chainL o f n t ws = chainL o f m t ws
  | 0, m, t, ws, h, _ => by
    have : ws = [] := List.length_eq_zero_iff.mp (by omega)
    subst this
    rw [chainL_no (n := m) (by cases o <;> decide +kernel)]; rfl
  | n + 1, 0, t, ws, _, h => by
    have : ws = [] := List.length_eq_zero_iff.mp (by omega)
    subst this
    rw [chainL_no (n := n + 1) (by cases o <;> decide +kernel)]; rfl
  | n + 1, m + 1, t, ws, h1, h2 => by
    by_cases hh : here ws = twoW o
    · have hne := here_ne hh (by cases o <;> decide +kernel)
      have hp : 0 < ws.length := List.length_pos_iff.mpr hne
      cases e : f ws.tail with
      | error x => rw [chainL_err hh e, chainL_err hh e]
      | ok x =>
        obtain ⟨t2, r⟩ := x
        have := hf _ _ _ e
        rw [List.length_tail] at this
        rw [chainL_yes hh e, chainL_yes hh e]
        exact chainL_fuel hf (by omega) (by omega)
    · rw [chainL_no hh, chainL_no hh]
theorem here_cons (w : Str) (r : List Str) : here (w :: r) = w := rfl
theorem R0.par {D : Nat} {t : PT} {ws : List Str} (h : R2 D t ws) : R0 (D + 1) t (("(" : Str) :: (ws ++ [(")" : Str)])) := fun rest => by
  show turnS (some (turnF D)) (("(" : Str) :: (ws ++ [(")" : Str)] ++ rest)) = _
  unfold turnS
  rw [here_cons, if_neg (by decide +kernel)]
  unfold atomF
  rw [here_cons, if_pos rfl]
  show brF (some (chain true (chain false (turnF D)))) _ = _
  unfold brF
  have e : chain true (chain false (turnF D)) (ws ++ [(")" : Str)] ++ rest) = .ok (t, (")" : Str) :: rest) := by
    rw [List.append_assoc]
    exact h.fin (by rw [List.cons_append, here_cons]; decide +kernel) (by rw [List.cons_append, here_cons]; decide +kernel)
  simp only [List.tail_cons, e, here_cons, if_pos]
theorem R0.neg {D : Nat} {t : PT} {ws : List Str} (h : R0 D t ws) : R0 (D + 1) (.neg t) (("not" : Str) :: ws) := fun rest => by
  show turnS (some (turnF D)) (("not" : Str) :: (ws ++ rest)) = _
  unfold turnS
  rw [here_cons, if_pos rfl]
  simp only [List.tail_cons, h rest]
theorem R1.and {D : Nat} {c d : PT} {ws us : List Str} (h1 : R1 D c ws) (h2 : R0 D d us) : R1 D (.two false c d) (ws ++ ("and" : Str) :: us) := fun rest => by
  rw [List.append_assoc, h1]
  have e : turnF D ((("and" : Str) :: us ++ rest).tail) = .ok (d, rest) := h2 rest
  have hl : (("and" : Str) :: us ++ rest).length = (us ++ rest).length + 1 := by rw [List.cons_append, List.length_cons]
  rw [hl, chainL_yes (o := false) (show here (("and" : Str) :: us ++ rest) = twoW false from rfl) e]
  exact chainL_fuel (turnF_shr D) (by rw [List.length_append]; omega) (Nat.le_refl _)
theorem R2.or {D : Nat} {c d : PT} {ws us : List Str} (h1 : R2 D c ws) (h2 : R1 D d us) : R2 D (.two true c d) (ws ++ ("or" : Str) :: us) := fun rest hr => by
  rw [List.append_assoc, h1 _ (by rw [List.cons_append, here_cons]; decide +kernel)]
  have e : chain false (turnF D) ((("or" : Str) :: us ++ rest).tail) = .ok (d, rest) := h2.fin hr
  have hl : (("or" : Str) :: us ++ rest).length = (us ++ rest).length + 1 := by rw [List.cons_append, List.length_cons]
  rw [hl, chainL_yes (o := true) (show here (("or" : Str) :: us ++ rest) = twoW true from rfl) e]
  exact chainL_fuel (chain_shr (turnF_shr D)) (by rw [List.length_append]; omega) (Nat.le_refl _)
def numW (n : Int) : List Str := if n < 0 then ["-", nS (-n)] else [nS n]
def leafW : Atom → List Str
  | .cmp a s n => cmpW a :: s :: numW n
  | .grp s => ["group", s]
  | .key s => ["key", s]
  | .all => ["all"]
theorem nums_read : ∀ n ∈ nums, (n < 0 → intW (nS (-n)) = true ∧ ¬ nS (-n) = "0" ∧ withinO (nS (-n)) 0 1000000 = some (-n)) ∧ (¬ n < 0 → ¬ nS n = "-" ∧ intW (nS n) = true ∧ withinO (nS n) 0 1000000 = some n) := by decide +kernel
theorem names_fine : ∀ s ∈ lawNames, fineB s = true := by decide +kernel
theorem grps_fine : ∀ s ∈ grps, fineB s = true := by decide +kernel
theorem numF_eq {ws r1 : List Str} (hr1 : (if here ws = "-" then ws.tail else ws) = r1) : numF ws = if intW (here r1) = false ∨ (here ws = "-" ∧ here r1 = "0") then .error (r1.length, "expected")
      else match withinO (here r1) 0 1000000 with
      | none => .error (r1.length, "range")
      | some n => .ok (if here ws = "-" then -n else n, r1.tail) := by
  subst hr1; rfl
theorem numF_reads {n : Int} (h : n ∈ nums) (rest : List Str) : numF (numW n ++ rest) = .ok (n, rest) := by
  obtain ⟨h1, h2⟩ := nums_read n h
  unfold numW
  by_cases hn : n < 0
  · obtain ⟨a, b, c⟩ := h1 hn
    rw [if_pos hn]
    show numF (("-" : Str) :: nS (-n) :: rest) = _
    rw [numF_eq (r1 := nS (-n) :: rest) (by rw [here_cons, if_pos rfl]; rfl)]
    simp only [here_cons]
    rw [if_neg (by
      rintro (h | ⟨_, h⟩)
      · rw [a] at h; cases h
      · exact b h), c]
    show Except.ok (if ("-" : Str) = "-" then - -n else -n, rest) = _
    rw [if_pos rfl, Int.neg_neg]
  · obtain ⟨a, b, c⟩ := h2 hn
    rw [if_neg hn]
    show numF (nS n :: rest) = _
    rw [numF_eq (r1 := nS n :: rest) (by rw [here_cons, if_neg a])]
    have hneg : ¬ (intW (here (nS n :: rest)) = false ∨ (here (nS n :: rest) = "-" ∧ here (nS n :: rest) = "0")) := by
      rintro (h | ⟨h, _⟩)
      · rw [here_cons, b] at h; cases h
      · exact a h
    rw [if_neg hneg, show withinO (here (nS n :: rest)) 0 1000000 = some n from c]
    show Except.ok (if nS n = "-" then -n else n, rest) = _
    rw [if_neg a]
theorem leafF_reads {a : Atom} (h : (PT.leaf a).Good) (rest : List Str) : leafF (leafW a ++ rest) = .ok (.leaf a, rest) := by
  cases a with
  | all =>
    show leafF ("all" :: rest) = _
    unfold leafF
    rw [here_cons, if_pos (by decide +kernel), if_pos rfl]; rfl
  | grp s =>
    show leafF ("group" :: s :: rest) = _
    unfold leafF
    rw [here_cons, if_pos (by decide +kernel), if_neg (by decide +kernel), if_pos (by decide +kernel), if_pos (by show fineB s = true; exact grps_fine s h), if_pos rfl]; rfl
  | key s =>
    show leafF ("key" :: s :: rest) = _
    unfold leafF
    rw [here_cons, if_pos (by decide +kernel), if_neg (by decide +kernel), if_pos (by decide +kernel), if_pos (by show fineB s = true; exact names_fine s h), if_neg (by decide +kernel)]; rfl
  | cmp a s n =>
    have e := leaf_num (ws := cmpW a :: s :: (numW n ++ rest)) (n := n) (r := rest) (by rw [here_cons]; cases a <;> decide +kernel) (by rw [here_cons]; cases a <;> decide +kernel) (by rw [here_cons]; cases a <;> decide +kernel) h.1 (numF_reads h.2 rest)
    show leafF (cmpW a :: s :: (numW n ++ rest)) = _
    rw [e]
    have : decide (here (cmpW a :: s :: (numW n ++ rest)) = "amount") = a := by
      rw [here_cons]
      cases a <;> decide +kernel
    rw [this]; rfl
theorem leafW_head : ∀ {a : Atom}, ∀ rest, here (leafW a ++ rest) = a.word
  | .cmp a s n, _ => rfl
  | .grp s, _ => rfl
  | .key s, _ => rfl
  | .all, _ => rfl
theorem word_not : ∀ {a : Atom}, ¬ a.word = "not" ∧ ¬ a.word = "(" ∧ ¬ a.word ∈ ([("and" : Str), "or"] : List Str) ∧ ¬ a.word ∈ ([("or" : Str)] : List Str)
  | .cmp true s n => by show ¬ (("amount" : Str) = "not") ∧ ¬ (("amount" : Str) = "(") ∧ ¬ (("amount" : Str) ∈ ([("and" : Str), "or"] : List Str)) ∧ ¬ (("amount" : Str) ∈ ([("or" : Str)] : List Str)); decide +kernel
  | .cmp false s n => by show ¬ (("weight" : Str) = "not") ∧ ¬ (("weight" : Str) = "(") ∧ ¬ (("weight" : Str) ∈ ([("and" : Str), "or"] : List Str)) ∧ ¬ (("weight" : Str) ∈ ([("or" : Str)] : List Str)); decide +kernel
  | .grp s => by show ¬ (("group" : Str) = "not") ∧ ¬ (("group" : Str) = "(") ∧ ¬ (("group" : Str) ∈ ([("and" : Str), "or"] : List Str)) ∧ ¬ (("group" : Str) ∈ ([("or" : Str)] : List Str)); decide +kernel
  | .key s => by show ¬ (("key" : Str) = "not") ∧ ¬ (("key" : Str) = "(") ∧ ¬ (("key" : Str) ∈ ([("and" : Str), "or"] : List Str)) ∧ ¬ (("key" : Str) ∈ ([("or" : Str)] : List Str)); decide +kernel
  | .all => by show ¬ (("all" : Str) = "not") ∧ ¬ (("all" : Str) = "(") ∧ ¬ (("all" : Str) ∈ ([("and" : Str), "or"] : List Str)) ∧ ¬ (("all" : Str) ∈ ([("or" : Str)] : List Str)); decide +kernel
theorem R0.leaf {D : Nat} {a : Atom} (h : (PT.leaf a).Good) : R0 D (.leaf a) (leafW a) := fun rest => by
  have e : ∀ dn, turnS dn (leafW a ++ rest) = .ok (.leaf a, rest) := fun dn => by
    unfold turnS
    rw [if_neg (by rw [leafW_head]; exact word_not.1)]
    unfold atomF
    rw [if_neg (by rw [leafW_head]; exact word_not.2.1)]
    exact leafF_reads h rest
  cases D with
  | zero => exact e _
  | succ D => exact e _
def pw (ws : List Str) (w : Str) (us : List Str) : List Str := if w ∈ ws then ("(" : Str) :: (us ++ [(")" : Str)]) else us
def tw : PT → List Str
  | .leaf a => leafW a
  | .neg c => ("not" : Str) :: pw ["and", "or"] c.word (tw c)
  | .two false c d => pw ["or"] c.word (tw c) ++ ("and" : Str) :: pw ["and", "or"] d.word (tw d)
  | .two true c d => tw c ++ ("or" : Str) :: pw ["or"] d.word (tw d)
def twL : PT → List Str
  | .leaf a => leafW a
  | .neg c => ("not" : Str) :: ("(" : Str) :: (twL c ++ [(")" : Str)])
  | .two o c d => (("(" : Str) :: (twL c ++ [(")" : Str)])) ++ twoW o :: ("(" : Str) :: (twL d ++ [(")" : Str)])
theorem reads : ∀ {t : PT}, t.Good → ∀ {D : Nat}, 2 * t.dep ≤ D → R2 D t (tw t) ∧ (¬ t.word ∈ ([("or" : Str)] : List Str) → R1 D t (tw t)) ∧ (¬ t.word ∈ ([("and" : Str), "or"] : List Str) → R0 D t (tw t))
  | .leaf a, h, D, hD => ⟨R2.of (R1.of (R0.leaf h)), fun _ => R1.of (R0.leaf h), fun _ => R0.leaf h⟩
  | .neg c, h, D, hD => by
    have hD' : 2 * (c.dep + 1) ≤ D := hD
    obtain ⟨D, rfl⟩ : ∃ D', D = D' + 2 := ⟨D - 2, by omega⟩
    have h0 : R0 (D + 2) (.neg c) (tw (.neg c)) := by
      refine R0.neg ?_
      unfold pw
      split
      · exact R0.par (reads (t := c) h (D := D) (by omega)).1
      · rename_i hn
        exact (reads (t := c) h (D := D + 1) (by omega)).2.2 hn
    exact ⟨R2.of (R1.of h0), fun _ => R1.of h0, fun _ => h0⟩
  | .two false c d, h, D, hD => by
    have hD' : 2 * (max c.dep d.dep + 1) ≤ D := hD
    obtain ⟨D, rfl⟩ : ∃ D', D = D' + 2 := ⟨D - 2, by omega⟩
    have h1 : R1 (D + 2) c (pw ["or"] c.word (tw c)) := by
      unfold pw
      split
      · exact R1.of (R0.par (reads (t := c) h.1 (D := D + 1) (by omega)).1)
      · rename_i hn
        exact (reads (t := c) h.1 (D := D + 2) (by omega)).2.1 hn
    have h2 : R0 (D + 2) d (pw ["and", "or"] d.word (tw d)) := by
      unfold pw
      split
      · exact R0.par (reads (t := d) h.2 (D := D + 1) (by omega)).1
      · rename_i hn
        exact (reads (t := d) h.2 (D := D + 2) (by omega)).2.2 hn
    have h3 : R1 (D + 2) (.two false c d) (tw (.two false c d)) := R1.and h1 h2
    exact ⟨R2.of h3, fun _ => h3, fun hn => absurd (show ("and" : Str) ∈ ([("and" : Str), "or"] : List Str) by decide +kernel) hn⟩
  | .two true c d, h, D, hD => by
    have hD' : 2 * (max c.dep d.dep + 1) ≤ D := hD
    obtain ⟨D, rfl⟩ : ∃ D', D = D' + 2 := ⟨D - 2, by omega⟩
    have h1 : R1 (D + 2) d (pw ["or"] d.word (tw d)) := by
      unfold pw
      split
      · exact R1.of (R0.par (reads (t := d) h.2 (D := D + 1) (by omega)).1)
      · rename_i hn
        exact (reads (t := d) h.2 (D := D + 2) (by omega)).2.1 hn
    have h3 : R2 (D + 2) (.two true c d) (tw (.two true c d)) := R2.or (reads (t := c) h.1 (D := D + 2) (by omega)).1 h1
    exact ⟨h3, fun hn => absurd (show ("or" : Str) ∈ ([("or" : Str)] : List Str) by decide +kernel) hn, fun hn => absurd (show ("or" : Str) ∈ ([("and" : Str), "or"] : List Str) by decide +kernel) hn⟩
theorem readsL : ∀ {t : PT}, t.Good → ∀ {D : Nat}, 2 * t.dep ≤ D → R2 D t (twL t)
  | .leaf a, h, D, hD => R2.of (R1.of (R0.leaf h))
  | .neg c, h, D, hD => by
    have hD' : 2 * (c.dep + 1) ≤ D := hD
    obtain ⟨D, rfl⟩ : ∃ D', D = D' + 2 := ⟨D - 2, by omega⟩
    exact R2.of (R1.of (R0.neg (R0.par (readsL (t := c) h (D := D) (by omega)))))
  | .two false c d, h, D, hD => by
    have hD' : 2 * (max c.dep d.dep + 1) ≤ D := hD
    obtain ⟨D, rfl⟩ : ∃ D', D = D' + 2 := ⟨D - 2, by omega⟩
    exact R2.of (R1.and (R1.of (R0.par (readsL (t := c) h.1 (D := D + 1) (by omega)))) (R0.par (readsL (t := d) h.2 (D := D + 1) (by omega))))
  | .two true c d, h, D, hD => by
    have hD' : 2 * (max c.dep d.dep + 1) ≤ D := hD
    obtain ⟨D, rfl⟩ : ∃ D', D = D' + 2 := ⟨D - 2, by omega⟩
    exact R2.or (R2.of (R1.of (R0.par (readsL (t := c) h.1 (D := D + 1) (by omega))))) (R1.of (R0.par (readsL (t := d) h.2 (D := D + 1) (by omega))))
theorem whole_of {t : PT} {ws : List Str} (h : R2 20 t ws) : wholeF ws = .ok t := by
  have e := h.fin (rest := []) (by decide +kernel) (by decide +kernel)
  rw [List.append_nil] at e
  unfold wholeF topF
  simp only [e, if_pos]

/-! ### words of texts -/
def shT (b : Nat) (l : List (Str × Nat)) : List (Str × Nat) := l.map fun t => (t.1, t.2 + b)
/-- a text with these words, and at its end (of xl signs) words with their columns told -/
def RdG (lx : List (Str × Nat)) (xl : Nat) (s : List Nat) (ws : List Str) : Prop := xl ≤ s.length ∧ ∀ n a, s.length < n → ∃ l, toks n s a = .ok (l ++ shT (a + (s.length - xl)) lx) ∧ l.map Prod.fst ++ lx.map Prod.fst = ws
theorem Rd_nil : RdG [] 0 [] [] := ⟨Nat.le_refl _, fun n a h => by
  obtain ⟨n, rfl⟩ : ∃ m, n = m + 1 := ⟨n - 1, by simp at h; omega⟩
  exact ⟨[], rfl, rfl⟩⟩
section
variable {lx : List (Str × Nat)} {xl : Nat}
theorem RdG.sp {s : List Nat} {ws : List Str} (h : RdG lx xl s ws) : RdG lx xl (32 :: s) ws := by
  obtain ⟨h0, h⟩ := h
  refine ⟨by rw [List.length_cons]; omega, fun n a hn => ?_⟩
  rw [List.length_cons] at hn ⊢
  obtain ⟨n, rfl⟩ : ∃ m, n = m + 1 := ⟨n - 1, by omega⟩
  rw [toks, if_pos rfl]
  obtain ⟨l, e1, e2⟩ := h n (a + 1) (by omega)
  exact ⟨l, by rw [e1, show a + 1 + (s.length - xl) = a + (s.length + 1 - xl) by omega], e2⟩
theorem RdG.word {w : Str} {s : List Nat} {ws : List Str} (hw : wordLen (TL.tl w ++ s) = some (TL.tl w).length) (h0 : ∀ c, (TL.tl w).head? = some c → ¬ c = 32) (hne : TL.tl w ≠ []) (h : RdG lx xl s ws) : RdG lx xl (TL.tl w ++ s) (w :: ws) := by
  obtain ⟨hx, h⟩ := h
  refine ⟨by rw [List.length_append]; omega, fun n a hn => ?_⟩
  obtain ⟨c, r, hr⟩ : ∃ c r, TL.tl w = c :: r := by
    cases e : TL.tl w with
    | nil => exact absurd e hne
    | cons c r => exact ⟨c, r, rfl⟩
  rw [hr] at hw h0 hn ⊢
  have hl : ((c :: r) ++ s).length = r.length + 1 + s.length := by rw [List.length_append, List.length_cons]
  rw [hl] at hn ⊢
  obtain ⟨n, rfl⟩ : ∃ m, n = m + 1 := ⟨n - 1, by omega⟩
  rw [List.cons_append] at hw ⊢
  rw [toks, if_neg (h0 c rfl), hw]
  dsimp only
  have hd : (c :: (r ++ s)).drop (c :: r).length = s := by rw [← List.cons_append, List.drop_left]
  have ht : (c :: (r ++ s)).take (c :: r).length = c :: r := by rw [← List.cons_append, List.take_left]
  rw [hd, ht]
  obtain ⟨l, e1, e2⟩ := h n (a + (c :: r).length) (by omega)
  rw [e1]
  have hwe : (⟨(c :: r).toArray⟩ : Str) = w := TL.ext_tl (by rw [TL.tl_mk, hr])
  refine ⟨(w, a + 1) :: l, ?_, by rw [List.map_cons, List.cons_append, e2]⟩
  rw [hwe, List.length_cons, show a + (r.length + 1) + (s.length - xl) = a + (r.length + 1 + s.length - xl) by omega]
  rfl
def AW (w : Str) : Prop := TL.tl w ≠ [] ∧ (TL.tl w).all isW = true
instance (w : Str) : Decidable (AW w) := by unfold AW; infer_instance
def Ok (s : List Nat) : Prop := ∀ c, s.head? = some c → isW c = false
theorem Ok.sp {s : List Nat} : Ok (32 :: s) := fun c h => by cases h; decide +kernel
theorem Ok.rb {s : List Nat} : Ok (41 :: s) := fun c h => by cases h; decide +kernel
theorem Ok.lb {s : List Nat} : Ok (40 :: s) := fun c h => by cases h; decide +kernel
theorem Ok.nil : Ok [] := fun c h => by cases h
theorem isW32 : isW 32 = false := by decide +kernel
theorem RdG.aw {w : Str} (hw : AW w) {s : List Nat} (hs : Ok s) {ws : List Str} (h : RdG lx xl s ws) : RdG lx xl (TL.tl w ++ s) (w :: ws) := by
  obtain ⟨hne, hall⟩ := hw
  rw [List.all_eq_true] at hall
  have hpos : 0 < (TL.tl w).length := List.length_pos_iff.mpr hne
  have htw := takeWhile_at (s := TL.tl w ++ s) (j := (TL.tl w).length) (fun i hi => ⟨(TL.tl w)[i], by rw [List.getElem?_append_left hi, List.getElem?_eq_getElem hi], hall _ (List.getElem_mem hi)⟩) (fun c hc => by
    rw [List.getElem?_append_right (Nat.le_refl _), Nat.sub_self] at hc
    exact hs c (by rw [List.head?_eq_getElem?]; exact hc)) (by rw [List.length_append]; omega)
  refine RdG.word ?_ (fun c hc => ?_) hne h
  · unfold wordLen
    rw [htw, if_pos hpos]
  · rintro rfl
    have := hall 32 (List.mem_of_head? hc)
    rw [isW32] at this
    cases this
theorem two_eq {c : Nat} {s : List Nat} {w : Str} : (⟨((c :: s).take 2).toArray⟩ : Str) = w → (c :: s).take 2 = TL.tl w := fun h => by rw [← h, TL.tl_mk]
/-- a sign of one -/
theorem RdG.one {c : Nat} {w : Str} (hw : TL.tl w = [c]) (hc : isW c = false) (ho : c ∈ opsS.cps.toList) {s : List Nat} (hs : c = 60 ∨ c = 62 → ¬ s.head? = some 61) {ws : List Str} (h : RdG lx xl s ws) : RdG lx xl (c :: s) (w :: ws) := by
  have h32 : ¬ c = 32 := fun e => by rw [e] at ho; revert ho; decide +kernel
  have e : RdG lx xl (TL.tl w ++ s) (w :: ws) := by
    refine RdG.word ?_ (fun d hd => ?_) (by rw [hw]; simp) h
    · rw [hw]
      show wordLen (c :: s) = some 1
      unfold wordLen
      rw [List.takeWhile_cons_of_neg (by rw [hc]; decide), if_neg (by decide), if_neg, opLen, if_pos ho]
      intro h2
      have : c :: s.take 1 = [60, 61] ∨ c :: s.take 1 = [62, 61] := by
        rcases h2 with h2 | h2
        · exact .inl ((two_eq h2).trans (by decide +kernel))
        · exact .inr ((two_eq h2).trans (by decide +kernel))
      cases s with
      | nil => rcases this with h | h <;> simp at h
      | cons d r =>
        rcases this with h | h
        · simp at h
          exact hs (.inl h.1) (by rw [h.2]; rfl)
        · simp at h
          exact hs (.inr h.1) (by rw [h.2]; rfl)
    · rw [hw] at hd
      cases hd
      exact h32
  rw [hw] at e
  exact e
theorem RdG.two {w : Str} (hw : w = "<=" ∨ w = ">=") {s : List Nat} {ws : List Str} (h : RdG lx xl s ws) : RdG lx xl (TL.tl w ++ s) (w :: ws) := by
  have ht : TL.tl w = [60, 61] ∨ TL.tl w = [62, 61] := by
    rcases hw with rfl | rfl
    · exact .inl (by decide +kernel)
    · exact .inr (by decide +kernel)
  refine RdG.word ?_ (fun d hd => ?_) (by rcases ht with h | h <;> rw [h] <;> simp) h
  · have hw2 : (⟨((TL.tl w ++ s).take 2).toArray⟩ : Str) = w := TL.ext_tl (by rw [TL.tl_mk]; rcases ht with h | h <;> rw [h] <;> rfl)
    have hh : ((TL.tl w ++ s).takeWhile isW) = [] := by
      rcases ht with h | h <;> rw [h, List.cons_append, List.takeWhile_cons_of_neg (by decide +kernel)]
    unfold wordLen
    rw [hh, if_neg (by decide), hw2, if_pos hw]
    rcases ht with h | h <;> rw [h] <;> rfl
  · rcases ht with h | h <;> rw [h] at hd <;> cases hd <;> decide
theorem RdG.sign {x : Str} (hx : x ∈ signs5) {s : List Nat} (hs : ¬ s.head? = some 61) {ws : List Str} (h : RdG lx xl s ws) : RdG lx xl (TL.tl x ++ s) (x :: ws) := by
  unfold signs5 at hx
  simp only [List.mem_cons, List.not_mem_nil, or_false] at hx
  rcases hx with rfl | rfl | rfl | rfl | rfl
  · exact RdG.one (c := 60) (by decide +kernel) (by decide +kernel) (by decide +kernel) (fun _ => hs) h
  · exact RdG.two (.inl rfl) h
  · exact RdG.one (c := 61) (by decide +kernel) (by decide +kernel) (by decide +kernel) (fun _ => hs) h
  · exact RdG.two (.inr rfl) h
  · exact RdG.one (c := 62) (by decide +kernel) (by decide +kernel) (by decide +kernel) (fun _ => hs) h
theorem RdG.lp {s : List Nat} {ws : List Str} (h : RdG lx xl s ws) : RdG lx xl (40 :: s) (("(" : Str) :: ws) := RdG.one (by decide +kernel) (by decide +kernel) (by decide +kernel) (fun h => by omega) h
theorem RdG.rp {s : List Nat} {ws : List Str} (h : RdG lx xl s ws) : RdG lx xl (41 :: s) ((")" : Str) :: ws) := RdG.one (by decide +kernel) (by decide +kernel) (by decide +kernel) (fun h => by omega) h
theorem RdG.mi {s : List Nat} {ws : List Str} (h : RdG lx xl s ws) : RdG lx xl (45 :: s) (("-" : Str) :: ws) := RdG.one (by decide +kernel) (by decide +kernel) (by decide +kernel) (fun h => by omega) h
theorem nums_aw : ∀ n ∈ nums, (n < 0 → AW (nS (-n)) ∧ TL.tl (nS n) = 45 :: TL.tl (nS (-n))) ∧ (¬ n < 0 → AW (nS n) ∧ ¬ (TL.tl (nS n)).head? = some 61) := by decide +kernel
theorem names_aw : ∀ s ∈ lawNames, AW s := by decide +kernel
theorem grps_aw : ∀ s ∈ grps, AW s := by decide +kernel
theorem cmpW_aw (a : Bool) : AW (cmpW a) := by cases a <;> decide +kernel
theorem twoW_aw (o : Bool) : AW (twoW o) := by cases o <;> decide +kernel
theorem tl_sp : TL.tl (" " : Str) = [32] := by decide +kernel
theorem sp2_sp : ∀ s ∈ sp2, TL.tl s = [] ∨ TL.tl s = [32] := by decide +kernel
theorem sp3_sp : ∀ s ∈ sp3, TL.tl s = [32] ∨ TL.tl s = [32, 32] ∨ TL.tl s = [32, 32, 32] := by decide +kernel
theorem RdG.s2 {z : Str} (hz : z ∈ sp2) {s : List Nat} {ws : List Str} (h : RdG lx xl s ws) : RdG lx xl (TL.tl z ++ s) ws := by
  rcases sp2_sp z hz with e | e <;> rw [e]
  · exact h
  · exact h.sp
theorem RdG.s3 {z : Str} (hz : z ∈ sp3) {s : List Nat} {ws : List Str} (h : RdG lx xl s ws) : RdG lx xl (TL.tl z ++ s) ws ∧ Ok (TL.tl z ++ s) := by
  rcases sp3_sp z hz with e | e | e <;> rw [e]
  · exact ⟨h.sp, Ok.sp⟩
  · exact ⟨h.sp.sp, Ok.sp⟩
  · exact ⟨h.sp.sp.sp, Ok.sp⟩
/-- a number, with a space behind its minus or none -/
theorem RdG.num {n : Int} (hn : n ∈ nums) {z : Str} (hz : z ∈ sp2) {s : List Nat} (hs : Ok s) {ws : List Str} (h : RdG lx xl s ws) : RdG lx xl (TL.tl (if n < 0 then ("-" : Str) ++ z ++ nS (-n) else nS n) ++ s) (numW n ++ ws) ∧ ¬ (TL.tl (if n < 0 then ("-" : Str) ++ z ++ nS (-n) else nS n) ++ s).head? = some 61 := by
  obtain ⟨h1, h2⟩ := nums_aw n hn
  unfold numW
  by_cases hneg : n < 0
  · rw [if_pos hneg, if_pos hneg, TL.tl_append, TL.tl_append, show TL.tl ("-" : Str) = [45] by decide +kernel]
    refine ⟨?_, by simp⟩
    rw [List.append_assoc, List.append_assoc]
    exact RdG.mi (RdG.s2 hz (RdG.aw (h1 hneg).1 hs h))
  · rw [if_neg hneg, if_neg hneg]
    obtain ⟨a, b⟩ := h2 hneg
    refine ⟨RdG.aw a hs h, ?_⟩
    cases e : TL.tl (nS n) with
    | nil => exact absurd e a.1
    | cons c r => rw [e] at b; exact b
theorem nS_eq {n : Int} (hn : n ∈ nums) : TL.tl (nS n) = TL.tl (if n < 0 then ("-" : Str) ++ ("" : Str) ++ nS (-n) else nS n) := by
  by_cases hneg : n < 0
  · rw [if_pos hneg, TL.tl_append, TL.tl_append, ((nums_aw n hn).1 hneg).2]; rfl
  · rw [if_neg hneg]
theorem rd_leaf : ∀ {a : Atom}, (PT.leaf a).Good → ∀ {s : List Nat} {ws : List Str}, Ok s → RdG lx xl s ws → RdG lx xl (TL.tl a.text ++ s) (leafW a ++ ws)
  | .all, _, s, ws, hs, h => RdG.aw (by decide +kernel) hs h
  | .grp x, hg, s, ws, hs, h => by
    show RdG lx xl (TL.tl (("group" : Str) ++ (" " : Str) ++ x) ++ s) (("group" : Str) :: x :: ws)
    rw [TL.tl_append, TL.tl_append, tl_sp, List.append_assoc, List.append_assoc]
    exact RdG.aw (by decide +kernel) Ok.sp (RdG.sp (RdG.aw (grps_aw x hg) hs h))
  | .key x, hg, s, ws, hs, h => by
    show RdG lx xl (TL.tl (("key" : Str) ++ (" " : Str) ++ x) ++ s) (("key" : Str) :: x :: ws)
    rw [TL.tl_append, TL.tl_append, tl_sp, List.append_assoc, List.append_assoc]
    exact RdG.aw (by decide +kernel) Ok.sp (RdG.sp (RdG.aw (names_aw x hg) hs h))
  | .cmp a x n, hg, s, ws, hs, h => by
    show RdG lx xl (TL.tl (cmpW a ++ (" " : Str) ++ x ++ (" " : Str) ++ nS n) ++ s) (cmpW a :: x :: (numW n ++ ws))
    rw [TL.tl_append, TL.tl_append, TL.tl_append, TL.tl_append, tl_sp, nS_eq hg.2]
    simp only [List.append_assoc]
    exact RdG.aw (cmpW_aw a) Ok.sp (RdG.sp (RdG.sign hg.1 (by simp) (RdG.sp (RdG.num hg.2 (by decide +kernel) hs h).1)))
theorem rd_par {w x : Str} {ws us vs : List Str} (hx : ∀ {s : List Nat} {ws : List Str}, Ok s → RdG lx xl s ws → RdG lx xl (TL.tl x ++ s) (us ++ ws)) {s : List Nat} (hs : Ok s) (h : RdG lx xl s vs) : RdG lx xl (TL.tl (parS ws w x) ++ s) (pw ws w us ++ vs) := by
  unfold parS pw
  by_cases hw : w ∈ ws
  · rw [if_pos hw, if_pos hw, TL.tl_append, TL.tl_append, show TL.tl ("(" : Str) = [40] by decide +kernel, show TL.tl (")" : Str) = [41] by decide +kernel]
    simp only [List.append_assoc, List.cons_append, List.nil_append]
    exact RdG.lp (hx Ok.rb (RdG.rp h))
  · rw [if_neg hw, if_neg hw]
    exact hx hs h
theorem rd_wr : ∀ {t : PT}, t.Good → ∀ {s : List Nat} {ws : List Str}, Ok s → RdG lx xl s ws → RdG lx xl (TL.tl (wr t) ++ s) (tw t ++ ws)
  | .leaf a, hg, s, ws, hs, h => rd_leaf hg hs h
  | .neg c, hg, s, ws, hs, h => by
    show RdG lx xl (TL.tl (("not " : Str) ++ parS ["and", "or"] c.word (wr c)) ++ s) (("not" : Str) :: (pw ["and", "or"] c.word (tw c) ++ ws))
    rw [TL.tl_append, show TL.tl ("not " : Str) = TL.tl ("not" : Str) ++ [32] by decide +kernel, List.append_assoc, List.append_assoc]
    exact RdG.aw (by decide +kernel) Ok.sp (RdG.sp (rd_par (fun h1 h2 => rd_wr (t := c) hg h1 h2) hs h))
  | .two false c d, hg, s, ws, hs, h => by
    show RdG lx xl (TL.tl (parS ["or"] c.word (wr c) ++ (" and " : Str) ++ parS ["and", "or"] d.word (wr d)) ++ s) (pw ["or"] c.word (tw c) ++ ("and" : Str) :: pw ["and", "or"] d.word (tw d) ++ ws)
    rw [TL.tl_append, TL.tl_append, show TL.tl (" and " : Str) = 32 :: (TL.tl ("and" : Str) ++ [32]) by decide +kernel]
    simp only [List.append_assoc, List.cons_append]
    exact rd_par (fun h1 h2 => rd_wr (t := c) hg.1 h1 h2) Ok.sp (RdG.sp (RdG.aw (by decide +kernel) Ok.sp (RdG.sp (rd_par (fun h1 h2 => rd_wr (t := d) hg.2 h1 h2) hs h))))
  | .two true c d, hg, s, ws, hs, h => by
    show RdG lx xl (TL.tl (wr c ++ (" or " : Str) ++ parS ["or"] d.word (wr d)) ++ s) (tw c ++ ("or" : Str) :: pw ["or"] d.word (tw d) ++ ws)
    rw [TL.tl_append, TL.tl_append, show TL.tl (" or " : Str) = 32 :: (TL.tl ("or" : Str) ++ [32]) by decide +kernel]
    simp only [List.append_assoc, List.cons_append]
    exact rd_wr (t := c) hg.1 Ok.sp (RdG.sp (RdG.aw (by decide +kernel) Ok.sp (RdG.sp (rd_par (fun h1 h2 => rd_wr (t := d) hg.2 h1 h2) hs h))))
end
/-- what is read of a text that stands for t -/
theorem parses {t : PT} {z : Str} {ws : List Str} (h1 : RdG [] 0 (TL.tl z) ws) (h2 : R2 20 t ws) : ∃ l, toks (z.cps.size + 1) z.cps.toList 0 = .ok l ∧ wholeF (l.map Prod.fst) = .ok t := by
  obtain ⟨l, e1, e2⟩ := h1.2 (z.cps.size + 1) 0 (by show z.cps.toList.length < _; rw [Array.length_toList]; omega)
  rw [show shT (0 + ((TL.tl z).length - 0)) ([] : List (Str × Nat)) = [] from rfl, List.append_nil] at e1
  rw [List.map_nil, List.append_nil] at e2
  exact ⟨l, e1, by rw [e2]; exact whole_of h2⟩
theorem parses_wr {t : PT} (hg : t.Good) (hd : t.dep ≤ 10) : ∃ l, toks ((wr t).cps.size + 1) (wr t).cps.toList 0 = .ok l ∧ wholeF (l.map Prod.fst) = .ok t := by
  have h := rd_wr hg Ok.nil Rd_nil
  rw [List.append_nil, List.append_nil] at h
  exact parses h (reads hg (by omega)).1

/-! ### the first error of a text, as a list -/
/-- the column and the reason, or none where the text is a condition -/
def errT (z : Str) : Option (Nat × Str) := match toks (z.cps.size + 1) z.cps.toList 0 with
  | .error c => some (c, "character")
  | .ok l => match wholeF (l.map Prod.fst) with
    | .ok _ => none
    | .error (k, re) => some (colW l (z.cps.size + 1) k, re)
def errOf (z : Str) : List V := if 2000 < z.cps.size then [.str "text"] else match errT z with
  | none => []
  | some (c, re) => [.int 1, .int (c : Int), .str re]
def spErrs : Sp := fun vs H Q _ => ∃ z : Str, vs = [.str z] ∧ z.cps.size ≤ 10000000 ∧ ∀ H' d, H d = none → Kp [] H H' → H' d = some (.lst (errOf z)) → Q (.ref d) H'
theorem ok__law_error {P : Program} {w : World} {K : PySem.W.Frag} {mg : Str → Option Value} {base : Heap} (T : T P K mg) : FnOk P w K mg base CX0 140 T.a__law_error T.fd__law_error ["text"] spErrs := by
  refine T.F__law_error.ok sc__law_error (fun vs H Q E h => ?_) (fun cdv A outer s H vs Q E hr h => ?_)
  · obtain ⟨z, rfl, _⟩ := h
    rfl
  · obtain ⟨z, rfl, hz, q⟩ := h
    refine ⟨_, (pss_cons (Many.ps_try_named rfl rfl takes0 (fun W pn xe tk po => (pss_one (ps_expr (pe_callS (ok_parse_condition T) (hr.mono (by decide)) (by rfl) T.g_parse_condition T.F_parse_condition.kp T.b_parse_condition (fun σ => passAt tk σ) (pa_cons (pv 0) pa_nil))))) (.named (i := 1) sc__law_error.nd rfl rfl ⟨by rfl, by decide, .inl T.x_TextError.g⟩ (fun a oe cls d pn hz hf => (pss_one (ps_ret (pe_lst (pa_cons (pe_xf T.x_TextError.xf T.nf_TextError_line hz hf (pv 1)) (pa_cons (pe_xf T.x_TextError.xf T.nf_TextError_column hz hf (pv 1)) (pa_cons (pe_xf T.x_TextError.xf T.nf_TextError_reason hz hf (pv 1)) pa_nil))))))) (.named (i := 1) sc__law_error.nd rfl rfl ⟨by rfl, by decide, .inl T.x_TooLarge.g⟩ (fun a oe cls d pn hz hf => (pss_one (ps_ret (pe_lst (pa_cons (pe_xf T.x_TooLarge.xf T.nf_TooLarge_limit hz hf (pv 1)) pa_nil))))) .nil)))
      (pss_one (ps_ret (pe_lst pa_nil)))), ?_⟩
    walk_at "z0"
    walk_at "z"
    refine ⟨_, rfl, ?_⟩
    refine ⟨z, rfl, hz, fun h2 => ⟨fun c hc H1 d k1 nd => ?_, fun l hl => ⟨fun t ht H1 v k1 hv => ?_, fun k re hk H1 d k1 nd => ?_⟩⟩, fun h2 d nd => ?_⟩
    · have he : errOf z = [.int 1, .int (c : Int), .str "character"] := by
        unfold errOf errT
        rw [if_neg (by omega), hc]
      refine Many.wish_yes T.x_TextError.te fun a na => ?_
      simp only [Many.ends, Many.bound, List.set]
      walk_at "z"
      refine ⟨_, rfl, rfl, rfl, d, _, .int 1, rfl, upd_same, rfl, ?_⟩
      walk_at "z"
      refine ⟨_, rfl, rfl, rfl, d, _, .int (c : Int), rfl, upd_same, rfl, ?_⟩
      walk_at "z"
      refine ⟨_, rfl, rfl, rfl, d, _, .str "character", rfl, upd_same, rfl, ?_⟩
      walk_at "z"
      refine Z.lstK (fun b H2 nb k2 e2 => ?_)
      exact q H2 b ((k1.trans (Kp.new nd)).none nin0 nb) ((k1.trans (Kp.new nd)).trans k2) (by rw [he]; exact e2)
    · have he : errOf z = [] := by
        unfold errOf errT
        rw [if_neg (by omega), hl]
        simp only [ht]
      walk_at "z"
      refine Z.lstK (fun b H2 nb k2 e2 => ?_)
      exact q H2 b (k1.none nin0 nb) (k1.trans k2) (by rw [he]; exact e2)
    · have he : errOf z = [.int 1, .int (colW l (z.cps.size + 1) k : Int), .str re] := by
        unfold errOf errT
        rw [if_neg (by omega), hl]
        simp only [hk]
      refine Many.wish_yes T.x_TextError.te fun a na => ?_
      simp only [Many.ends, Many.bound, List.set]
      walk_at "z"
      refine ⟨_, rfl, rfl, rfl, d, _, .int 1, rfl, upd_same, rfl, ?_⟩
      walk_at "z"
      refine ⟨_, rfl, rfl, rfl, d, _, .int (colW l (z.cps.size + 1) k : Int), rfl, upd_same, rfl, ?_⟩
      walk_at "z"
      refine ⟨_, rfl, rfl, rfl, d, _, .str re, rfl, upd_same, rfl, ?_⟩
      walk_at "z"
      refine Z.lstK (fun b H2 nb k2 e2 => ?_)
      exact q H2 b ((k1.trans (Kp.new nd)).none nin0 nb) ((k1.trans (Kp.new nd)).trans k2) (by rw [he]; exact e2)
    · have he : errOf z = [.str "text"] := by
        unfold errOf
        rw [if_pos h2]
      refine Many.wish_no T.exm_TooLarge_TextError (Many.wish_yes T.x_TooLarge.te fun a na => ?_)
      simp only [Many.ends, Many.bound, List.set]
      walk_at "z"
      refine ⟨_, rfl, rfl, rfl, d, _, .str "text", rfl, upd_same, rfl, ?_⟩
      walk_at "z"
      refine Z.lstK (fun b H2 nb k2 e2 => ?_)
      exact q H2 b ((Kp.new (M := []) nd).none nin0 nb) ((Kp.new nd).trans k2) (by rw [he]; exact e2)
/-! ### errors of signs -/
def legal (c : Nat) : Bool := isW c || (c == 32) || decide (c ∈ opsS.cps.toList)
theorem legal_len {c : Nat} {r : List Nat} (h : legal c = true) (h32 : ¬ c = 32) : ∃ k, wordLen (c :: r) = some k := by
  unfold wordLen
  split
  · exact ⟨_, rfl⟩
  · split
    · exact ⟨_, rfl⟩
    · rename_i hn _
      have hw : isW c = false := by
        cases e : isW c with
        | false => rfl
        | true => rw [List.takeWhile_cons_of_pos e, List.length_cons] at hn; omega
      unfold legal at h
      rw [hw, Bool.false_or, Bool.or_eq_true] at h
      rcases h with h | h
      · exact absurd (eq_of_beq h) h32
      · exact ⟨1, by show (if c ∈ opsS.cps.toList then some 1 else none) = some 1; rw [if_pos (of_decide_eq_true h)]⟩
theorem illegal_len {c : Nat} {r : List Nat} (h : legal c = false) : wordLen (c :: r) = none := by
  unfold legal at h
  rw [Bool.or_eq_false_iff, Bool.or_eq_false_iff] at h
  obtain ⟨⟨hw, h32⟩, ho⟩ := h
  unfold wordLen
  rw [List.takeWhile_cons_of_neg (by rw [hw]; decide), if_neg (by decide), if_neg, opLen, if_neg (of_decide_eq_false ho)]
  intro h2
  have : c = 60 ∨ c = 62 := by
    rcases h2 with h2 | h2
    · have h3 := (two_eq h2).trans (show TL.tl ("<=" : Str) = [60, 61] by decide +kernel)
      rw [List.take_succ_cons] at h3
      exact .inl (List.cons.inj h3).1
    · have h3 := (two_eq h2).trans (show TL.tl (">=" : Str) = [62, 61] by decide +kernel)
      rw [List.take_succ_cons] at h3
      exact .inr (List.cons.inj h3).1
  have ho' := of_decide_eq_false ho
  rcases this with rfl | rfl <;> exact ho' (by decide +kernel)
theorem len_legal {p : List Nat} {k : Nat} (h : wordLen p = some k) (c : Nat) (hc : c ∈ p.take k) : legal c = true := by
  unfold wordLen at h
  split at h
  · cases h
    have : c ∈ p.takeWhile isW := by
      have e : p.take (p.takeWhile isW).length = p.takeWhile isW := by
        conv => lhs; arg 2; rw [← List.takeWhile_append_dropWhile (p := isW) (l := p)]
        rw [List.take_left]
      rw [e] at hc
      exact hc
    unfold legal
    rw [List.all_eq_true.mp List.all_takeWhile c this]; rfl
  · split at h
    · rename_i h2
      cases h
      have : p.take 2 = [60, 61] ∨ p.take 2 = [62, 61] := by
        rcases h2 with h2 | h2
        · exact .inl (by rw [← TL.tl_mk (p.take 2), h2]; decide +kernel)
        · exact .inr (by rw [← TL.tl_mk (p.take 2), h2]; decide +kernel)
      rcases this with e | e <;> rw [e] at hc <;> simp only [List.mem_cons, List.not_mem_nil, or_false] at hc <;> rcases hc with rfl | rfl <;> decide +kernel
    · cases p with
      | nil => cases h
      | cons d r =>
        have ho : opLen (d :: r) = if d ∈ opsS.cps.toList then some 1 else none := rfl
        rw [ho] at h
        by_cases hm : d ∈ opsS.cps.toList
        · rw [if_pos hm] at h
          cases h
          have hcd : c = d := by simpa using hc
          unfold legal
          rw [hcd, decide_eq_true hm, Bool.or_true]
        · rw [if_neg hm] at h; cases h
theorem toks_bad : ∀ {n : Nat} {p : List Nat} {c : Nat} {r : List Nat} {a : Nat}, (p ++ c :: r).length < n → (∀ x ∈ p, legal x = true) → legal c = false → toks n (p ++ c :: r) a = .error (a + p.length + 1)
  | 0, p, c, r, a, h, _, _ => by omega
  | n + 1, [], c, r, a, h, _, hc => by
    have h32 : ¬ c = 32 := fun e => by rw [e] at hc; revert hc; decide +kernel
    rw [List.nil_append, toks, if_neg h32, illegal_len hc]; rfl
  | n + 1, x :: p, c, r, a, h, hp, hc => by
    rw [List.cons_append, List.length_cons] at h
    have hx := hp x (by simp)
    have hp' : ∀ y ∈ p, legal y = true := fun y hy => hp y (by simp [hy])
    rw [List.cons_append, toks]
    by_cases h32 : x = 32
    · rw [if_pos h32, toks_bad (by omega) hp' hc, List.length_cons]
      congr 1; omega
    · rw [if_neg h32]
      obtain ⟨k, hk⟩ := legal_len (r := p ++ c :: r) hx h32
      rw [hk]
      dsimp only
      have hkp := wordLen_pos hk (by simp)
      have hle : k ≤ (x :: p).length := by
        rcases Nat.lt_or_ge (x :: p).length k with hlt | hge
        · exfalso
          have hm : c ∈ (x :: (p ++ c :: r)).take k := by
            have e : x :: (p ++ c :: r) = (x :: p) ++ c :: r := rfl
            rw [e, List.take_append]
            refine List.mem_append_right _ ?_
            obtain ⟨j, hj⟩ : ∃ j, k - (x :: p).length = j + 1 := ⟨k - (x :: p).length - 1, by omega⟩
            rw [hj, List.take_succ_cons]
            simp
          have := len_legal hk c hm
          rw [this] at hc; cases hc
        · exact hge
      have hd : (x :: (p ++ c :: r)).drop k = (x :: p).drop k ++ c :: r := by
        have e : x :: (p ++ c :: r) = (x :: p) ++ c :: r := rfl
        rw [e, List.drop_append_of_le_length hle]
      rw [hd, toks_bad (n := n) (by rw [List.length_append, List.length_drop, List.length_cons, List.length_cons]; rw [List.length_append, List.length_cons] at h; omega) (fun y hy => hp y (List.mem_of_mem_drop hy)) hc]
      rw [List.length_drop]
      show Except.error _ = Except.error _
      congr 1
      omega

/-! ### the rows, alone and behind an opening -/
def lawRows : List (Str × Nat × Str) := [("", 1, "expected"), ("all all", 5, "expected"), ("all)", 4, "expected"), ("(all", 5, "expected"), ("()", 2, "expected"), ("not", 4, "expected"),
  ("weight", 7, "expected"), ("weight 5", 8, "expected"), ("weight <", 9, "expected"), ("weight < x", 10, "expected"), ("weight < 05", 10, "expected"),
  ("weight < -0", 11, "expected"), ("weight < - 7 7", 14, "expected"), ("weight < --7", 11, "expected"), ("weight < 1000001", 10, "range"), ("amount >=-1000001", 11, "range"),
  (("amount = " : Str) ++ RL.repS "9" 400, 10, "range"), ("group", 6, "expected"), ("group abcdefghijklm", 7, "expected"), ("key <", 5, "expected"), ("red", 1, "expected"),
  ("amount > = 5", 10, "expected"), ("weight => 5", 9, "expected"), ("all and", 8, "expected"), ("all or or all", 8, "expected"), ("and all", 1, "expected"),
  ("all and not or", 13, "expected"), ("weight < 5x", 10, "expected"), ("(all and all", 13, "expected"), ("Weight < 5", 1, "character"), ("group < Red", 9, "character")]
theorem rows_err : ∀ r ∈ lawRows, errT r.1 = some (r.2.1, r.2.2) ∧ r.1.cps.size ≤ 450 := by decide +kernel
def chainE (o : Bool) (tu : List Str → Res) : Nat → List Str → Except (Nat × Str) (List Str)
  | 0, ws => .ok ws
  | n + 1, ws => if here ws = twoW o then match tu ws.tail with
      | .ok (_, r) => chainE o tu n r
      | .error e => .error e
    else .ok ws
def er (r : Res) : Except (Nat × Str) (List Str) := match r with
  | .ok (_, r) => .ok r
  | .error e => .error e
theorem chainL_er {o : Bool} {f : List Str → Res} : ∀ {n : Nat} {t : PT} {ws : List Str}, er (chainL o f n t ws) = chainE o f n ws
  | 0, t, ws => rfl
  | n + 1, t, ws => by
    rw [chainL, chainE]
    by_cases h : here ws = twoW o
    · rw [if_pos h, if_pos h]
      cases e : f ws.tail with
      | error x => rfl
      | ok x => exact chainL_er
    · rw [if_neg h, if_neg h]; rfl
theorem chain_err {o : Bool} {f : List Str → Res} {ws : List Str} {e : Nat × Str} (h : f ws = .error e) : chain o f ws = .error e := by
  unfold chain
  rw [h]
/-- what is left when rest comes behind a first condition -/
def kE (rest : List Str) : Option (Nat × Str) := match chainE false (turnF 20) rest.length rest with
  | .error e => some e
  | .ok r => match chainE true (chain false (turnF 20)) r.length r with
    | .error e => some e
    | .ok r => if r = [] then none else some (r.length, "expected")
theorem whole_kE {t : PT} {ws : List Str} (h : R1 20 t ws) {rest : List Str} {e : Nat × Str} (hk : kE rest = some e) : wholeF (ws ++ rest) = .error e := by
  have h1 : er (chain false (turnF 20) (ws ++ rest)) = chainE false (turnF 20) rest.length rest := by rw [h rest]; exact chainL_er
  unfold kE at hk
  rw [← h1] at hk
  cases e1 : chain false (turnF 20) (ws ++ rest) with
  | error x =>
    rw [e1] at hk
    simp only [er] at hk
    cases hk
    have ht : topF (ws ++ rest) = .error e := chain_err e1
    unfold wholeF
    rw [ht]
  | ok x =>
    obtain ⟨t2, r⟩ := x
    rw [e1] at hk
    simp only [er] at hk
    have h2 : er (chainL true (chain false (turnF 20)) r.length t2 r) = chainE true (chain false (turnF 20)) r.length r := chainL_er
    rw [← h2] at hk
    have ht : topF (ws ++ rest) = chainL true (chain false (turnF 20)) r.length t2 r := chain_ok e1
    unfold wholeF
    rw [ht]
    cases e2 : chainL true (chain false (turnF 20)) r.length t2 r with
    | error y =>
      rw [e2] at hk
      simp only [er] at hk
      cases hk
      rfl
    | ok y =>
      obtain ⟨t3, r3⟩ := y
      rw [e2] at hk
      simp only [er] at hk
      dsimp only
      by_cases h0 : r3 = []
      · rw [if_pos h0] at hk; cases hk
      · rw [if_neg h0] at hk ⊢
        cases hk
        rfl
def exclR : List Str := ["all)", "all all", "weight < - 7 7"]
def tokL (z : Str) : Option (List (Str × Nat)) := match toks (z.cps.size + 1) z.cps.toList 0 with
  | .ok l => some l
  | .error _ => none
def opens : List (List Str) := [["and"], ["or"], ["and", "not"], ["or", "("]]
/-- a row with words: behind each opening the same error -/
def rowOk (r : Str × Nat × Str) : Bool := match tokL r.1 with
  | none => true
  | some l => opens.all fun ow => match kE (ow ++ l.map Prod.fst) with
    | none => false
    | some (k, re) => decide (k ≤ l.length) && decide (colW l (r.1.cps.size + 1) k = r.2.1) && decide (re = r.2.2)
theorem rows_open : ∀ r ∈ lawRows, ¬ r.1 ∈ exclR → rowOk r = true := by decide +kernel

theorem toks_shift : ∀ {n : Nat} {s : List Nat} {a b : Nat}, toks n s (a + b) = match toks n s a with
    | .ok l => .ok (shT b l)
    | .error c => .error (c + b)
  | 0, s, a, b => rfl
  | n + 1, [], a, b => rfl
  | n + 1, c :: r, a, b => by
    rw [toks, toks]
    by_cases h : c = 32
    · rw [if_pos h, if_pos h, show a + b + 1 = a + 1 + b by omega]
      exact toks_shift
    · rw [if_neg h, if_neg h]
      cases wordLen (c :: r) with
      | none => show Except.error _ = Except.error _; congr 1; omega
      | some k =>
        dsimp only
        rw [show a + b + k = a + k + b by omega, toks_shift]
        cases toks n ((c :: r).drop k) (a + k) with
        | error e => rfl
        | ok l =>
          dsimp only
          rw [show a + b + 1 = a + 1 + b by omega]; rfl
theorem Rd_base {x : Str} {lx : List (Str × Nat)} (h : toks (x.cps.size + 1) x.cps.toList 0 = .ok lx) : RdG lx (TL.tl x).length (TL.tl x) (lx.map Prod.fst) := by
  refine ⟨Nat.le_refl _, fun n a hn => ⟨[], ?_, rfl⟩⟩
  rw [Nat.sub_self, List.nil_append]
  have e : toks n (TL.tl x) a = toks (x.cps.size + 1) x.cps.toList a := toks_more hn (by rw [Array.length_toList]; omega)
  have h2 := toks_shift (n := x.cps.size + 1) (s := x.cps.toList) (a := 0) (b := a)
  rw [Nat.zero_add, h] at h2
  rw [e, h2]; rfl
theorem split_first : ∀ {s : List Nat}, (∃ c ∈ s, legal c = false) → ∃ p c r, s = p ++ c :: r ∧ (∀ x ∈ p, legal x = true) ∧ legal c = false
  | [], ⟨c, h, _⟩ => by cases h
  | x :: s, ⟨c, h, hc⟩ => by
    cases hx : legal x with
    | false => exact ⟨[], x, s, rfl, fun y hy => (by cases hy), hx⟩
    | true =>
      have h' : c ∈ s := by
        rcases List.mem_cons.mp h with rfl | h
        · rw [hx] at hc; cases hc
        · exact h
      obtain ⟨p, d, r, e, h1, h2⟩ := split_first ⟨c, h', hc⟩
      exact ⟨x :: p, d, r, by rw [e]; rfl, fun y hy => (by
        rcases List.mem_cons.mp hy with rfl | hy
        · exact hx
        · exact h1 y hy), h2⟩
theorem toks_legal {n : Nat} {s : List Nat} {a : Nat} {l : List (Str × Nat)} (hn : s.length < n) (h : toks n s a = .ok l) (c : Nat) (hc : c ∈ s) : legal c = true := by
  cases e : legal c with
  | true => rfl
  | false =>
    obtain ⟨p, d, r, rfl, h1, h2⟩ := split_first ⟨c, hc, e⟩
    rw [toks_bad hn h1 h2] at h
    cases h
/-- the first sign that is none of the allowed ones -/
theorem err_bad {z : Str} {p : List Nat} {c : Nat} {r : List Nat} (hz : TL.tl z = p ++ c :: r) (hp : ∀ x ∈ p, legal x = true) (hc : legal c = false) : errT z = some (p.length + 1, ("character" : Str)) := by
  have hl : (TL.tl z).length = z.cps.size := Array.length_toList
  have e : toks (z.cps.size + 1) z.cps.toList 0 = .error (0 + p.length + 1) := by
    show toks (z.cps.size + 1) (TL.tl z) 0 = _
    rw [← hl, hz]
    exact toks_bad (by omega) hp hc
  unfold errT
  rw [e]
  show some (0 + p.length + 1, _) = _
  rw [Nat.zero_add]
def mids : List (Str × List Str) := [(") and ", ["and"]), (") or ", ["or"]), (") and not ", ["and", "not"]), (") or (", ["or", "("])]
theorem rd_open {lx : List (Str × Nat)} {xl : Nat} {t : PT} (hg : t.Good) {m : Str × List Str} (hm : m ∈ mids) {s : List Nat} {ws : List Str} (h : RdG lx xl s ws) : RdG lx xl (TL.tl (("(" : Str) ++ wr t ++ m.1) ++ s) ((("(" : Str) :: (tw t ++ [(")" : Str)])) ++ (m.2 ++ ws)) := by
  have e2 : (("(" : Str) :: (tw t ++ [(")" : Str)])) ++ (m.2 ++ ws) = ("(" : Str) :: (tw t ++ ((")" : Str) :: (m.2 ++ ws))) := by
    simp only [List.cons_append, List.append_assoc, List.nil_append]
  rw [e2, TL.tl_append, TL.tl_append, show TL.tl ("(" : Str) = [40] by decide +kernel]
  simp only [List.append_assoc]
  refine RdG.lp ?_
  unfold mids at hm
  simp only [List.mem_cons, List.not_mem_nil, or_false] at hm
  rcases hm with rfl | rfl | rfl | rfl
  · rw [show TL.tl (") and " : Str) = 41 :: 32 :: (TL.tl ("and" : Str) ++ [32]) by decide +kernel]
    simp only [List.cons_append, List.append_assoc, List.nil_append]
    exact rd_wr hg Ok.rb (RdG.rp (RdG.sp (RdG.aw (by decide +kernel) Ok.sp (RdG.sp h))))
  · rw [show TL.tl (") or " : Str) = 41 :: 32 :: (TL.tl ("or" : Str) ++ [32]) by decide +kernel]
    simp only [List.cons_append, List.append_assoc, List.nil_append]
    exact rd_wr hg Ok.rb (RdG.rp (RdG.sp (RdG.aw (by decide +kernel) Ok.sp (RdG.sp h))))
  · rw [show TL.tl (") and not " : Str) = 41 :: 32 :: (TL.tl ("and" : Str) ++ 32 :: (TL.tl ("not" : Str) ++ [32])) by decide +kernel]
    simp only [List.cons_append, List.append_assoc, List.nil_append]
    exact rd_wr hg Ok.rb (RdG.rp (RdG.sp (RdG.aw (by decide +kernel) Ok.sp (RdG.sp (RdG.aw (by decide +kernel) Ok.sp (RdG.sp h))))))
  · rw [show TL.tl (") or (" : Str) = 41 :: 32 :: (TL.tl ("or" : Str) ++ [32, 40]) by decide +kernel]
    simp only [List.cons_append, List.append_assoc, List.nil_append]
    exact rd_wr hg Ok.rb (RdG.rp (RdG.sp (RdG.aw (by decide +kernel) Ok.sp (RdG.sp (RdG.lp h)))))
theorem colW_shift {l1 lx : List (Str × Nat)} {b m k : Nat} (hk : k ≤ lx.length) : colW (l1 ++ shT b lx) (b + m) k = b + colW lx m k := by
  unfold colW
  by_cases h0 : k = 0
  · rw [if_pos h0, if_pos h0]
  · rw [if_neg h0, if_neg h0]
    have hs : (shT b lx).length = lx.length := by unfold shT; rw [List.length_map]
    rw [List.length_append, hs, List.getElem?_append_right (by omega), show l1.length + lx.length - k - l1.length = lx.length - k by omega]
    unfold shT
    rw [List.getElem?_map]
    have : lx.length - k < lx.length := by omega
    rw [List.getElem?_eq_getElem this]
    show lx[lx.length - k].2 + b = b + lx[lx.length - k].2
    omega
def rowBad (r : Str × Nat × Str) : Bool := match tokL r.1 with
  | some _ => true
  | none => ((TL.tl r.1).take (r.2.1 - 1)).all legal && (match (TL.tl r.1)[r.2.1 - 1]? with
    | some c => !legal c
    | none => false) && decide (r.2.2 = "character") && decide (0 < r.2.1)
theorem rows_bad : ∀ r ∈ lawRows, rowBad r = true := by decide +kernel
theorem open_err {t : PT} (hg : t.Good) (hd : t.dep ≤ 5) {m : Str × List Str} (hm : m ∈ mids) {r : Str × Nat × Str} (hr : r ∈ lawRows) (hx : ¬ r.1 ∈ exclR) : errT (("(" : Str) ++ wr t ++ m.1 ++ r.1) = some ((("(" : Str) ++ wr t ++ m.1).length + r.2.1, r.2.2) := by
  have h1 := rows_open r hr hx
  have h2 := rows_bad r hr
  generalize ho : ("(" : Str) ++ wr t ++ m.1 = o at *
  have hol : (TL.tl o).length = o.length := Array.length_toList
  unfold rowOk at h1
  unfold rowBad at h2
  cases htk : tokL r.1 with
  | none =>
    rw [htk] at h2
    simp only [Bool.and_eq_true, decide_eq_true_eq] at h2
    obtain ⟨⟨⟨ha, hb⟩, hc⟩, hpos⟩ := h2
    cases hch : (TL.tl r.1)[r.2.1 - 1]? with
    | none => rw [hch] at hb; cases hb
    | some c =>
      rw [hch] at hb
      have hleg : ∀ x ∈ TL.tl o, legal x = true := by
        have h := (rd_open hg hm Rd_nil).2 ((TL.tl o ++ []).length + 1) 0
        rw [ho] at h
        obtain ⟨l, e, _⟩ := h (by omega)
        intro x hx
        exact toks_legal (by omega) e x (by rw [List.append_nil]; exact hx)
      have hlt := (List.getElem?_eq_some_iff.mp hch).1
      have hsplit : TL.tl (o ++ r.1) = (TL.tl o ++ (TL.tl r.1).take (r.2.1 - 1)) ++ c :: (TL.tl r.1).drop (r.2.1 - 1 + 1) := by
        rw [TL.tl_append, List.append_assoc]
        congr 1
        have := List.take_append_drop (r.2.1 - 1) (TL.tl r.1)
        rw [List.drop_eq_getElem_cons hlt, (List.getElem?_eq_some_iff.mp hch).2] at this
        exact this.symm
      rw [err_bad hsplit (fun x hx => by
        rcases List.mem_append.mp hx with h | h
        · exact hleg x h
        · exact List.all_eq_true.mp ha x h) (by simpa using hb)]
      rw [List.length_append, List.length_take, hol, hc]
      congr 2
      omega
  | some lx =>
    rw [htk] at h1
    have htoks : toks (r.1.cps.size + 1) r.1.cps.toList 0 = .ok lx := by
      unfold tokL at htk
      cases e : toks (r.1.cps.size + 1) r.1.cps.toList 0 with
      | error c => rw [e] at htk; cases htk
      | ok l => rw [e] at htk; cases htk; rfl
    have hmo : m.2 ∈ opens := by
      unfold mids at hm
      simp only [List.mem_cons, List.not_mem_nil, or_false] at hm
      rcases hm with rfl | rfl | rfl | rfl <;> decide +kernel
    have h3 := List.all_eq_true.mp h1 m.2 hmo
    cases hk : kE (m.2 ++ lx.map Prod.fst) with
    | none => rw [hk] at h3; cases h3
    | some e =>
      obtain ⟨k, re⟩ := e
      rw [hk] at h3
      simp only [Bool.and_eq_true, decide_eq_true_eq] at h3
      obtain ⟨⟨hkl, hcol⟩, hre⟩ := h3
      have hrd := rd_open hg hm (Rd_base htoks)
      rw [ho, ← TL.tl_append] at hrd
      have hz : (TL.tl (o ++ r.1)).length = (o ++ r.1).cps.size := Array.length_toList
      obtain ⟨l1, e1, e2⟩ := hrd.2 ((o ++ r.1).cps.size + 1) 0 (by omega)
      have hxl : (TL.tl r.1).length = r.1.cps.size := Array.length_toList
      have hb : 0 + ((TL.tl (o ++ r.1)).length - (TL.tl r.1).length) = o.length := by
        rw [TL.tl_append, List.length_append]; omega
      rw [hb] at e1
      have hw : wholeF ((l1 ++ shT o.length lx).map Prod.fst) = .error (k, re) := by
        have : (l1 ++ shT o.length lx).map Prod.fst = (("(" : Str) :: (tw t ++ [(")" : Str)])) ++ (m.2 ++ lx.map Prod.fst) := by
          rw [List.map_append, ← e2]
          congr 1
          unfold shT
          rw [List.map_map]; rfl
        rw [this]
        exact whole_kE (R1.of (R0.par (reads hg (D := 19) (by omega)).1)) hk
      have hsz : (o ++ r.1).cps.size + 1 = o.length + (r.1.cps.size + 1) := by
        rw [← hz, TL.tl_append, List.length_append]; omega
      unfold errT
      rw [show toks ((o ++ r.1).cps.size + 1) (o ++ r.1).cps.toList 0 = _ from e1]
      dsimp only
      rw [hw]
      dsimp only
      rw [hsz, colW_shift hkl, hcol, hre]

/-! ### the law -/
def rowVs (r : Str × Nat × Str) : List V := [.str r.1, .int (r.2.1 : Int), .str r.2.2]
/-- rows at their places, new ones -/
def PartsL (H0 H : Hp) : List Addr → List (Str × Nat × Str) → Prop
  | [], [] => True
  | p :: ps, r :: rs => (H0 p = none ∧ H p = some (.lst (rowVs r))) ∧ PartsL H0 H ps rs
  | _, _ => False
theorem PartsL.at_ {H0 H : Hp} : ∀ {ps : List Addr} {rs : List (Str × Nat × Str)}, PartsL H0 H ps rs → ps.length = rs.length ∧ ∀ (i : Nat) (r : Str × Nat × Str), rs[i]? = some r → ∃ p, ps[i]? = some p ∧ H0 p = none ∧ H p = some (.lst (rowVs r))
  | [], [], _ => ⟨rfl, fun i r h => by simp at h⟩
  | [], r :: rs, h => by cases h
  | p :: ps, [], h => by cases h
  | p :: ps, r :: rs, h => by
    obtain ⟨h1, h2⟩ := h
    obtain ⟨e, g⟩ := PartsL.at_ h2
    refine ⟨by rw [List.length_cons, List.length_cons, e], fun i x hx => ?_⟩
    cases i with
    | zero => cases hx; exact ⟨p, rfl, h1⟩
    | succ i => exact g i x (by simpa using hx)
def arefs (ps : List Addr) : List V := ps.map V.ref
theorem mulE {x : Str} {k : Nat} {H : Hp} {Q : VK} (h1 : 2 ≤ k) (h2 : k ≤ 100000) (h4 : x.length ≤ 100) (q : Q (.str (RL.repS x k)) H) : RL.rMulE (.str x) (.int (k : Int)) H Q := ⟨x, k, rfl, rfl, h1, h2, h4, q⟩
def spParts : Sp := fun vs H Q _ => vs = [] ∧ ∀ H' d ps, H d = none → Kp [] H H' → H' d = some (.lst (arefs ps)) → PartsL H H' ps lawRows → Q (.ref d) H'
theorem ok__law_parts {P : Program} {w : World} {K : PySem.W.Frag} {mg : Str → Option Value} {base : Heap} (T : T P K mg) : FnOk P w K mg base CX0 1 T.a__law_parts T.fd__law_parts [] spParts := by
  refine T.F__law_parts.ok sc__law_parts (fun vs H Q E h => ?_) (fun cdv A outer s H vs Q E hr h => ?_)
  · obtain ⟨rfl, _⟩ := h
    rfl
  · obtain ⟨rfl, q⟩ := h
    refine ⟨_, (pss_cons (ps_set (i := 0) sc__law_parts.nd rfl (by first | exact Or.inl rfl | exact Or.inr rfl) (pe_lst (pa_cons (pe_lst (pa_cons pe_str (pa_cons pe_int (pa_cons pe_str pa_nil)))) (pa_cons (pe_lst (pa_cons pe_str (pa_cons pe_int (pa_cons pe_str pa_nil)))) (pa_cons (pe_lst (pa_cons pe_str (pa_cons pe_int (pa_cons pe_str pa_nil)))) (pa_cons (pe_lst (pa_cons pe_str (pa_cons pe_int (pa_cons pe_str pa_nil)))) (pa_cons (pe_lst (pa_cons pe_str (pa_cons pe_int (pa_cons pe_str pa_nil)))) (pa_cons (pe_lst (pa_cons pe_str (pa_cons pe_int (pa_cons pe_str pa_nil)))) pa_nil))))))))
      (pss_cons (ps_set (i := 0) sc__law_parts.nd rfl (by first | exact Or.inl rfl | exact Or.inr rfl) (pe_op op_cat (pv 0) (pe_lst (pa_cons (pe_lst (pa_cons pe_str (pa_cons pe_int (pa_cons pe_str pa_nil)))) (pa_cons (pe_lst (pa_cons pe_str (pa_cons pe_int (pa_cons pe_str pa_nil)))) (pa_cons (pe_lst (pa_cons pe_str (pa_cons pe_int (pa_cons pe_str pa_nil)))) (pa_cons (pe_lst (pa_cons pe_str (pa_cons pe_int (pa_cons pe_str pa_nil)))) (pa_cons (pe_lst (pa_cons pe_str (pa_cons pe_int (pa_cons pe_str pa_nil)))) pa_nil))))))))
      (pss_cons (ps_set (i := 0) sc__law_parts.nd rfl (by first | exact Or.inl rfl | exact Or.inr rfl) (pe_op op_cat (pv 0) (pe_lst (pa_cons (pe_lst (pa_cons pe_str (pa_cons pe_int (pa_cons pe_str pa_nil)))) (pa_cons (pe_lst (pa_cons pe_str (pa_cons pe_int (pa_cons pe_str pa_nil)))) (pa_cons (pe_lst (pa_cons pe_str (pa_cons pe_int (pa_cons pe_str pa_nil)))) (pa_cons (pe_lst (pa_cons pe_str (pa_cons pe_int (pa_cons pe_str pa_nil)))) (pa_cons (pe_lst (pa_cons pe_str (pa_cons pe_int (pa_cons pe_str pa_nil)))) pa_nil))))))))
      (pss_cons (ps_set (i := 0) sc__law_parts.nd rfl (by first | exact Or.inl rfl | exact Or.inr rfl) (pe_op op_cat (pv 0) (pe_lst (pa_cons (pe_lst (pa_cons (pe_op o_addS pe_str (pe_op RL.op_mulS pe_str pe_int)) (pa_cons pe_int (pa_cons pe_str pa_nil)))) (pa_cons (pe_lst (pa_cons pe_str (pa_cons pe_int (pa_cons pe_str pa_nil)))) (pa_cons (pe_lst (pa_cons pe_str (pa_cons pe_int (pa_cons pe_str pa_nil)))) (pa_cons (pe_lst (pa_cons pe_str (pa_cons pe_int (pa_cons pe_str pa_nil)))) (pa_cons (pe_lst (pa_cons pe_str (pa_cons pe_int (pa_cons pe_str pa_nil)))) pa_nil))))))))
      (pss_cons (ps_set (i := 0) sc__law_parts.nd rfl (by first | exact Or.inl rfl | exact Or.inr rfl) (pe_op op_cat (pv 0) (pe_lst (pa_cons (pe_lst (pa_cons pe_str (pa_cons pe_int (pa_cons pe_str pa_nil)))) (pa_cons (pe_lst (pa_cons pe_str (pa_cons pe_int (pa_cons pe_str pa_nil)))) (pa_cons (pe_lst (pa_cons pe_str (pa_cons pe_int (pa_cons pe_str pa_nil)))) (pa_cons (pe_lst (pa_cons pe_str (pa_cons pe_int (pa_cons pe_str pa_nil)))) (pa_cons (pe_lst (pa_cons pe_str (pa_cons pe_int (pa_cons pe_str pa_nil)))) pa_nil))))))))
      (pss_one (ps_ret (pe_op op_cat (pv 0) (pe_lst (pa_cons (pe_lst (pa_cons pe_str (pa_cons pe_int (pa_cons pe_str pa_nil)))) (pa_cons (pe_lst (pa_cons pe_str (pa_cons pe_int (pa_cons pe_str pa_nil)))) (pa_cons (pe_lst (pa_cons pe_str (pa_cons pe_int (pa_cons pe_str pa_nil)))) (pa_cons (pe_lst (pa_cons pe_str (pa_cons pe_int (pa_cons pe_str pa_nil)))) (pa_cons (pe_lst (pa_cons pe_str (pa_cons pe_int (pa_cons pe_str pa_nil)))) pa_nil)))))))))))))), ?_⟩
    walk_at "z0"
    walk_at "z"
    refine Z.lstK (fun p0 G1 np0 k1 e0 => ?_)
    walk_at "z"
    refine Z.lstK (fun p1 G2 np1 k2 e1 => ?_)
    walk_at "z"
    refine Z.lstK (fun p2 G3 np2 k3 e2 => ?_)
    walk_at "z"
    refine Z.lstK (fun p3 G4 np3 k4 e3 => ?_)
    walk_at "z"
    refine Z.lstK (fun p4 G5 np4 k5 e4 => ?_)
    walk_at "z"
    refine Z.lstK (fun p5 G6 np5 k6 e5 => ?_)
    walk_at "z"
    refine Z.lstK (fun l0 G7 nl0 k7 f0 => ?_)
    walk_at "z"
    refine Z.lstK (fun p6 G8 np6 k8 e6 => ?_)
    walk_at "z"
    refine Z.lstK (fun p7 G9 np7 k9 e7 => ?_)
    walk_at "z"
    refine Z.lstK (fun p8 G10 np8 k10 e8 => ?_)
    walk_at "z"
    refine Z.lstK (fun p9 G11 np9 k11 e9 => ?_)
    walk_at "z"
    refine Z.lstK (fun p10 G12 np10 k12 e10 => ?_)
    walk_at "z"
    refine Z.lstK (fun l1 G13 nl1 k13 f1 => ?_)
    walk_at "z"
    refine Z.cat ((k8.trans (k9.trans (k10.trans (k11.trans (k12.trans (k13)))))).get nin0 f0) f1 (by simp) (fun c1 G14 nc1 k14 g1 => ?_)
    walk_at "z"
    refine Z.lstK (fun p11 G15 np11 k15 e11 => ?_)
    walk_at "z"
    refine Z.lstK (fun p12 G16 np12 k16 e12 => ?_)
    walk_at "z"
    refine Z.lstK (fun p13 G17 np13 k17 e13 => ?_)
    walk_at "z"
    refine Z.lstK (fun p14 G18 np14 k18 e14 => ?_)
    walk_at "z"
    refine Z.lstK (fun p15 G19 np15 k19 e15 => ?_)
    walk_at "z"
    refine Z.lstK (fun l2 G20 nl2 k20 f2 => ?_)
    walk_at "z"
    refine Z.cat ((k15.trans (k16.trans (k17.trans (k18.trans (k19.trans (k20)))))).get nin0 g1) f2 (by simp) (fun c2 G21 nc2 k21 g2 => ?_)
    walk_at "z"
    refine Z.mulS (k := 400) (by decide) (by decide) (by decide +kernel) (by decide +kernel) ?_
    refine Z.addS (by rw [RL.repS_len]; decide +kernel) ?_
    walk_at "z"
    refine Z.lstK (fun p16 G22 np16 k22 e16 => ?_)
    walk_at "z"
    refine Z.lstK (fun p17 G23 np17 k23 e17 => ?_)
    walk_at "z"
    refine Z.lstK (fun p18 G24 np18 k24 e18 => ?_)
    walk_at "z"
    refine Z.lstK (fun p19 G25 np19 k25 e19 => ?_)
    walk_at "z"
    refine Z.lstK (fun p20 G26 np20 k26 e20 => ?_)
    walk_at "z"
    refine Z.lstK (fun l3 G27 nl3 k27 f3 => ?_)
    walk_at "z"
    refine Z.cat ((k22.trans (k23.trans (k24.trans (k25.trans (k26.trans (k27)))))).get nin0 g2) f3 (by simp) (fun c3 G28 nc3 k28 g3 => ?_)
    walk_at "z"
    refine Z.lstK (fun p21 G29 np21 k29 e21 => ?_)
    walk_at "z"
    refine Z.lstK (fun p22 G30 np22 k30 e22 => ?_)
    walk_at "z"
    refine Z.lstK (fun p23 G31 np23 k31 e23 => ?_)
    walk_at "z"
    refine Z.lstK (fun p24 G32 np24 k32 e24 => ?_)
    walk_at "z"
    refine Z.lstK (fun p25 G33 np25 k33 e25 => ?_)
    walk_at "z"
    refine Z.lstK (fun l4 G34 nl4 k34 f4 => ?_)
    walk_at "z"
    refine Z.cat ((k29.trans (k30.trans (k31.trans (k32.trans (k33.trans (k34)))))).get nin0 g3) f4 (by simp) (fun c4 G35 nc4 k35 g4 => ?_)
    walk_at "z"
    refine Z.lstK (fun p26 G36 np26 k36 e26 => ?_)
    walk_at "z"
    refine Z.lstK (fun p27 G37 np27 k37 e27 => ?_)
    walk_at "z"
    refine Z.lstK (fun p28 G38 np28 k38 e28 => ?_)
    walk_at "z"
    refine Z.lstK (fun p29 G39 np29 k39 e29 => ?_)
    walk_at "z"
    refine Z.lstK (fun p30 G40 np30 k40 e30 => ?_)
    walk_at "z"
    refine Z.lstK (fun l5 G41 nl5 k41 f5 => ?_)
    walk_at "z"
    refine Z.cat ((k36.trans (k37.trans (k38.trans (k39.trans (k40.trans (k41)))))).get nin0 g4) f5 (by simp) (fun c5 G42 nc5 k42 g5 => ?_)
    walk_at "z"
    refine q G42 c5 [p0, p1, p2, p3, p4, p5, p6, p7, p8, p9, p10, p11, p12, p13, p14, p15, p16, p17, p18, p19, p20, p21, p22, p23, p24, p25, p26, p27, p28, p29, p30] ((k1.trans (k2.trans (k3.trans (k4.trans (k5.trans (k6.trans (k7.trans (k8.trans (k9.trans (k10.trans (k11.trans (k12.trans (k13.trans (k14.trans (k15.trans (k16.trans (k17.trans (k18.trans (k19.trans (k20.trans (k21.trans (k22.trans (k23.trans (k24.trans (k25.trans (k26.trans (k27.trans (k28.trans (k29.trans (k30.trans (k31.trans (k32.trans (k33.trans (k34.trans (k35.trans (k36.trans (k37.trans (k38.trans (k39.trans (k40.trans (k41))))))))))))))))))))))))))))))))))))))))).none nin0 nc5) (k1.trans (k2.trans (k3.trans (k4.trans (k5.trans (k6.trans (k7.trans (k8.trans (k9.trans (k10.trans (k11.trans (k12.trans (k13.trans (k14.trans (k15.trans (k16.trans (k17.trans (k18.trans (k19.trans (k20.trans (k21.trans (k22.trans (k23.trans (k24.trans (k25.trans (k26.trans (k27.trans (k28.trans (k29.trans (k30.trans (k31.trans (k32.trans (k33.trans (k34.trans (k35.trans (k36.trans (k37.trans (k38.trans (k39.trans (k40.trans (k41.trans (k42)))))))))))))))))))))))))))))))))))))))))) (by rw [g5]; rfl) ?_
    unfold lawRows
    simp only [PartsL, rowVs]
    exact ⟨⟨(Kp.refl _).none nin0 np0, (k2.trans (k3.trans (k4.trans (k5.trans (k6.trans (k7.trans (k8.trans (k9.trans (k10.trans (k11.trans (k12.trans (k13.trans (k14.trans (k15.trans (k16.trans (k17.trans (k18.trans (k19.trans (k20.trans (k21.trans (k22.trans (k23.trans (k24.trans (k25.trans (k26.trans (k27.trans (k28.trans (k29.trans (k30.trans (k31.trans (k32.trans (k33.trans (k34.trans (k35.trans (k36.trans (k37.trans (k38.trans (k39.trans (k40.trans (k41.trans (k42))))))))))))))))))))))))))))))))))))))))).get nin0 e0⟩, ⟨(k1).none nin0 np1, (k3.trans (k4.trans (k5.trans (k6.trans (k7.trans (k8.trans (k9.trans (k10.trans (k11.trans (k12.trans (k13.trans (k14.trans (k15.trans (k16.trans (k17.trans (k18.trans (k19.trans (k20.trans (k21.trans (k22.trans (k23.trans (k24.trans (k25.trans (k26.trans (k27.trans (k28.trans (k29.trans (k30.trans (k31.trans (k32.trans (k33.trans (k34.trans (k35.trans (k36.trans (k37.trans (k38.trans (k39.trans (k40.trans (k41.trans (k42)))))))))))))))))))))))))))))))))))))))).get nin0 e1⟩, ⟨(k1.trans (k2)).none nin0 np2, (k4.trans (k5.trans (k6.trans (k7.trans (k8.trans (k9.trans (k10.trans (k11.trans (k12.trans (k13.trans (k14.trans (k15.trans (k16.trans (k17.trans (k18.trans (k19.trans (k20.trans (k21.trans (k22.trans (k23.trans (k24.trans (k25.trans (k26.trans (k27.trans (k28.trans (k29.trans (k30.trans (k31.trans (k32.trans (k33.trans (k34.trans (k35.trans (k36.trans (k37.trans (k38.trans (k39.trans (k40.trans (k41.trans (k42))))))))))))))))))))))))))))))))))))))).get nin0 e2⟩, ⟨(k1.trans (k2.trans (k3))).none nin0 np3, (k5.trans (k6.trans (k7.trans (k8.trans (k9.trans (k10.trans (k11.trans (k12.trans (k13.trans (k14.trans (k15.trans (k16.trans (k17.trans (k18.trans (k19.trans (k20.trans (k21.trans (k22.trans (k23.trans (k24.trans (k25.trans (k26.trans (k27.trans (k28.trans (k29.trans (k30.trans (k31.trans (k32.trans (k33.trans (k34.trans (k35.trans (k36.trans (k37.trans (k38.trans (k39.trans (k40.trans (k41.trans (k42)))))))))))))))))))))))))))))))))))))).get nin0 e3⟩, ⟨(k1.trans (k2.trans (k3.trans (k4)))).none nin0 np4, (k6.trans (k7.trans (k8.trans (k9.trans (k10.trans (k11.trans (k12.trans (k13.trans (k14.trans (k15.trans (k16.trans (k17.trans (k18.trans (k19.trans (k20.trans (k21.trans (k22.trans (k23.trans (k24.trans (k25.trans (k26.trans (k27.trans (k28.trans (k29.trans (k30.trans (k31.trans (k32.trans (k33.trans (k34.trans (k35.trans (k36.trans (k37.trans (k38.trans (k39.trans (k40.trans (k41.trans (k42))))))))))))))))))))))))))))))))))))).get nin0 e4⟩, ⟨(k1.trans (k2.trans (k3.trans (k4.trans (k5))))).none nin0 np5, (k7.trans (k8.trans (k9.trans (k10.trans (k11.trans (k12.trans (k13.trans (k14.trans (k15.trans (k16.trans (k17.trans (k18.trans (k19.trans (k20.trans (k21.trans (k22.trans (k23.trans (k24.trans (k25.trans (k26.trans (k27.trans (k28.trans (k29.trans (k30.trans (k31.trans (k32.trans (k33.trans (k34.trans (k35.trans (k36.trans (k37.trans (k38.trans (k39.trans (k40.trans (k41.trans (k42)))))))))))))))))))))))))))))))))))).get nin0 e5⟩, ⟨(k1.trans (k2.trans (k3.trans (k4.trans (k5.trans (k6.trans (k7))))))).none nin0 np6, (k9.trans (k10.trans (k11.trans (k12.trans (k13.trans (k14.trans (k15.trans (k16.trans (k17.trans (k18.trans (k19.trans (k20.trans (k21.trans (k22.trans (k23.trans (k24.trans (k25.trans (k26.trans (k27.trans (k28.trans (k29.trans (k30.trans (k31.trans (k32.trans (k33.trans (k34.trans (k35.trans (k36.trans (k37.trans (k38.trans (k39.trans (k40.trans (k41.trans (k42)))))))))))))))))))))))))))))))))).get nin0 e6⟩, ⟨(k1.trans (k2.trans (k3.trans (k4.trans (k5.trans (k6.trans (k7.trans (k8)))))))).none nin0 np7, (k10.trans (k11.trans (k12.trans (k13.trans (k14.trans (k15.trans (k16.trans (k17.trans (k18.trans (k19.trans (k20.trans (k21.trans (k22.trans (k23.trans (k24.trans (k25.trans (k26.trans (k27.trans (k28.trans (k29.trans (k30.trans (k31.trans (k32.trans (k33.trans (k34.trans (k35.trans (k36.trans (k37.trans (k38.trans (k39.trans (k40.trans (k41.trans (k42))))))))))))))))))))))))))))))))).get nin0 e7⟩, ⟨(k1.trans (k2.trans (k3.trans (k4.trans (k5.trans (k6.trans (k7.trans (k8.trans (k9))))))))).none nin0 np8, (k11.trans (k12.trans (k13.trans (k14.trans (k15.trans (k16.trans (k17.trans (k18.trans (k19.trans (k20.trans (k21.trans (k22.trans (k23.trans (k24.trans (k25.trans (k26.trans (k27.trans (k28.trans (k29.trans (k30.trans (k31.trans (k32.trans (k33.trans (k34.trans (k35.trans (k36.trans (k37.trans (k38.trans (k39.trans (k40.trans (k41.trans (k42)))))))))))))))))))))))))))))))).get nin0 e8⟩, ⟨(k1.trans (k2.trans (k3.trans (k4.trans (k5.trans (k6.trans (k7.trans (k8.trans (k9.trans (k10)))))))))).none nin0 np9, (k12.trans (k13.trans (k14.trans (k15.trans (k16.trans (k17.trans (k18.trans (k19.trans (k20.trans (k21.trans (k22.trans (k23.trans (k24.trans (k25.trans (k26.trans (k27.trans (k28.trans (k29.trans (k30.trans (k31.trans (k32.trans (k33.trans (k34.trans (k35.trans (k36.trans (k37.trans (k38.trans (k39.trans (k40.trans (k41.trans (k42))))))))))))))))))))))))))))))).get nin0 e9⟩, ⟨(k1.trans (k2.trans (k3.trans (k4.trans (k5.trans (k6.trans (k7.trans (k8.trans (k9.trans (k10.trans (k11))))))))))).none nin0 np10, (k13.trans (k14.trans (k15.trans (k16.trans (k17.trans (k18.trans (k19.trans (k20.trans (k21.trans (k22.trans (k23.trans (k24.trans (k25.trans (k26.trans (k27.trans (k28.trans (k29.trans (k30.trans (k31.trans (k32.trans (k33.trans (k34.trans (k35.trans (k36.trans (k37.trans (k38.trans (k39.trans (k40.trans (k41.trans (k42)))))))))))))))))))))))))))))).get nin0 e10⟩, ⟨(k1.trans (k2.trans (k3.trans (k4.trans (k5.trans (k6.trans (k7.trans (k8.trans (k9.trans (k10.trans (k11.trans (k12.trans (k13.trans (k14)))))))))))))).none nin0 np11, (k16.trans (k17.trans (k18.trans (k19.trans (k20.trans (k21.trans (k22.trans (k23.trans (k24.trans (k25.trans (k26.trans (k27.trans (k28.trans (k29.trans (k30.trans (k31.trans (k32.trans (k33.trans (k34.trans (k35.trans (k36.trans (k37.trans (k38.trans (k39.trans (k40.trans (k41.trans (k42))))))))))))))))))))))))))).get nin0 e11⟩, ⟨(k1.trans (k2.trans (k3.trans (k4.trans (k5.trans (k6.trans (k7.trans (k8.trans (k9.trans (k10.trans (k11.trans (k12.trans (k13.trans (k14.trans (k15))))))))))))))).none nin0 np12, (k17.trans (k18.trans (k19.trans (k20.trans (k21.trans (k22.trans (k23.trans (k24.trans (k25.trans (k26.trans (k27.trans (k28.trans (k29.trans (k30.trans (k31.trans (k32.trans (k33.trans (k34.trans (k35.trans (k36.trans (k37.trans (k38.trans (k39.trans (k40.trans (k41.trans (k42)))))))))))))))))))))))))).get nin0 e12⟩, ⟨(k1.trans (k2.trans (k3.trans (k4.trans (k5.trans (k6.trans (k7.trans (k8.trans (k9.trans (k10.trans (k11.trans (k12.trans (k13.trans (k14.trans (k15.trans (k16)))))))))))))))).none nin0 np13, (k18.trans (k19.trans (k20.trans (k21.trans (k22.trans (k23.trans (k24.trans (k25.trans (k26.trans (k27.trans (k28.trans (k29.trans (k30.trans (k31.trans (k32.trans (k33.trans (k34.trans (k35.trans (k36.trans (k37.trans (k38.trans (k39.trans (k40.trans (k41.trans (k42))))))))))))))))))))))))).get nin0 e13⟩, ⟨(k1.trans (k2.trans (k3.trans (k4.trans (k5.trans (k6.trans (k7.trans (k8.trans (k9.trans (k10.trans (k11.trans (k12.trans (k13.trans (k14.trans (k15.trans (k16.trans (k17))))))))))))))))).none nin0 np14, (k19.trans (k20.trans (k21.trans (k22.trans (k23.trans (k24.trans (k25.trans (k26.trans (k27.trans (k28.trans (k29.trans (k30.trans (k31.trans (k32.trans (k33.trans (k34.trans (k35.trans (k36.trans (k37.trans (k38.trans (k39.trans (k40.trans (k41.trans (k42)))))))))))))))))))))))).get nin0 e14⟩, ⟨(k1.trans (k2.trans (k3.trans (k4.trans (k5.trans (k6.trans (k7.trans (k8.trans (k9.trans (k10.trans (k11.trans (k12.trans (k13.trans (k14.trans (k15.trans (k16.trans (k17.trans (k18)))))))))))))))))).none nin0 np15, (k20.trans (k21.trans (k22.trans (k23.trans (k24.trans (k25.trans (k26.trans (k27.trans (k28.trans (k29.trans (k30.trans (k31.trans (k32.trans (k33.trans (k34.trans (k35.trans (k36.trans (k37.trans (k38.trans (k39.trans (k40.trans (k41.trans (k42))))))))))))))))))))))).get nin0 e15⟩, ⟨(k1.trans (k2.trans (k3.trans (k4.trans (k5.trans (k6.trans (k7.trans (k8.trans (k9.trans (k10.trans (k11.trans (k12.trans (k13.trans (k14.trans (k15.trans (k16.trans (k17.trans (k18.trans (k19.trans (k20.trans (k21))))))))))))))))))))).none nin0 np16, (k23.trans (k24.trans (k25.trans (k26.trans (k27.trans (k28.trans (k29.trans (k30.trans (k31.trans (k32.trans (k33.trans (k34.trans (k35.trans (k36.trans (k37.trans (k38.trans (k39.trans (k40.trans (k41.trans (k42)))))))))))))))))))).get nin0 e16⟩, ⟨(k1.trans (k2.trans (k3.trans (k4.trans (k5.trans (k6.trans (k7.trans (k8.trans (k9.trans (k10.trans (k11.trans (k12.trans (k13.trans (k14.trans (k15.trans (k16.trans (k17.trans (k18.trans (k19.trans (k20.trans (k21.trans (k22)))))))))))))))))))))).none nin0 np17, (k24.trans (k25.trans (k26.trans (k27.trans (k28.trans (k29.trans (k30.trans (k31.trans (k32.trans (k33.trans (k34.trans (k35.trans (k36.trans (k37.trans (k38.trans (k39.trans (k40.trans (k41.trans (k42))))))))))))))))))).get nin0 e17⟩, ⟨(k1.trans (k2.trans (k3.trans (k4.trans (k5.trans (k6.trans (k7.trans (k8.trans (k9.trans (k10.trans (k11.trans (k12.trans (k13.trans (k14.trans (k15.trans (k16.trans (k17.trans (k18.trans (k19.trans (k20.trans (k21.trans (k22.trans (k23))))))))))))))))))))))).none nin0 np18, (k25.trans (k26.trans (k27.trans (k28.trans (k29.trans (k30.trans (k31.trans (k32.trans (k33.trans (k34.trans (k35.trans (k36.trans (k37.trans (k38.trans (k39.trans (k40.trans (k41.trans (k42)))))))))))))))))).get nin0 e18⟩, ⟨(k1.trans (k2.trans (k3.trans (k4.trans (k5.trans (k6.trans (k7.trans (k8.trans (k9.trans (k10.trans (k11.trans (k12.trans (k13.trans (k14.trans (k15.trans (k16.trans (k17.trans (k18.trans (k19.trans (k20.trans (k21.trans (k22.trans (k23.trans (k24)))))))))))))))))))))))).none nin0 np19, (k26.trans (k27.trans (k28.trans (k29.trans (k30.trans (k31.trans (k32.trans (k33.trans (k34.trans (k35.trans (k36.trans (k37.trans (k38.trans (k39.trans (k40.trans (k41.trans (k42))))))))))))))))).get nin0 e19⟩, ⟨(k1.trans (k2.trans (k3.trans (k4.trans (k5.trans (k6.trans (k7.trans (k8.trans (k9.trans (k10.trans (k11.trans (k12.trans (k13.trans (k14.trans (k15.trans (k16.trans (k17.trans (k18.trans (k19.trans (k20.trans (k21.trans (k22.trans (k23.trans (k24.trans (k25))))))))))))))))))))))))).none nin0 np20, (k27.trans (k28.trans (k29.trans (k30.trans (k31.trans (k32.trans (k33.trans (k34.trans (k35.trans (k36.trans (k37.trans (k38.trans (k39.trans (k40.trans (k41.trans (k42)))))))))))))))).get nin0 e20⟩, ⟨(k1.trans (k2.trans (k3.trans (k4.trans (k5.trans (k6.trans (k7.trans (k8.trans (k9.trans (k10.trans (k11.trans (k12.trans (k13.trans (k14.trans (k15.trans (k16.trans (k17.trans (k18.trans (k19.trans (k20.trans (k21.trans (k22.trans (k23.trans (k24.trans (k25.trans (k26.trans (k27.trans (k28)))))))))))))))))))))))))))).none nin0 np21, (k30.trans (k31.trans (k32.trans (k33.trans (k34.trans (k35.trans (k36.trans (k37.trans (k38.trans (k39.trans (k40.trans (k41.trans (k42))))))))))))).get nin0 e21⟩, ⟨(k1.trans (k2.trans (k3.trans (k4.trans (k5.trans (k6.trans (k7.trans (k8.trans (k9.trans (k10.trans (k11.trans (k12.trans (k13.trans (k14.trans (k15.trans (k16.trans (k17.trans (k18.trans (k19.trans (k20.trans (k21.trans (k22.trans (k23.trans (k24.trans (k25.trans (k26.trans (k27.trans (k28.trans (k29))))))))))))))))))))))))))))).none nin0 np22, (k31.trans (k32.trans (k33.trans (k34.trans (k35.trans (k36.trans (k37.trans (k38.trans (k39.trans (k40.trans (k41.trans (k42)))))))))))).get nin0 e22⟩, ⟨(k1.trans (k2.trans (k3.trans (k4.trans (k5.trans (k6.trans (k7.trans (k8.trans (k9.trans (k10.trans (k11.trans (k12.trans (k13.trans (k14.trans (k15.trans (k16.trans (k17.trans (k18.trans (k19.trans (k20.trans (k21.trans (k22.trans (k23.trans (k24.trans (k25.trans (k26.trans (k27.trans (k28.trans (k29.trans (k30)))))))))))))))))))))))))))))).none nin0 np23, (k32.trans (k33.trans (k34.trans (k35.trans (k36.trans (k37.trans (k38.trans (k39.trans (k40.trans (k41.trans (k42))))))))))).get nin0 e23⟩, ⟨(k1.trans (k2.trans (k3.trans (k4.trans (k5.trans (k6.trans (k7.trans (k8.trans (k9.trans (k10.trans (k11.trans (k12.trans (k13.trans (k14.trans (k15.trans (k16.trans (k17.trans (k18.trans (k19.trans (k20.trans (k21.trans (k22.trans (k23.trans (k24.trans (k25.trans (k26.trans (k27.trans (k28.trans (k29.trans (k30.trans (k31))))))))))))))))))))))))))))))).none nin0 np24, (k33.trans (k34.trans (k35.trans (k36.trans (k37.trans (k38.trans (k39.trans (k40.trans (k41.trans (k42)))))))))).get nin0 e24⟩, ⟨(k1.trans (k2.trans (k3.trans (k4.trans (k5.trans (k6.trans (k7.trans (k8.trans (k9.trans (k10.trans (k11.trans (k12.trans (k13.trans (k14.trans (k15.trans (k16.trans (k17.trans (k18.trans (k19.trans (k20.trans (k21.trans (k22.trans (k23.trans (k24.trans (k25.trans (k26.trans (k27.trans (k28.trans (k29.trans (k30.trans (k31.trans (k32)))))))))))))))))))))))))))))))).none nin0 np25, (k34.trans (k35.trans (k36.trans (k37.trans (k38.trans (k39.trans (k40.trans (k41.trans (k42))))))))).get nin0 e25⟩, ⟨(k1.trans (k2.trans (k3.trans (k4.trans (k5.trans (k6.trans (k7.trans (k8.trans (k9.trans (k10.trans (k11.trans (k12.trans (k13.trans (k14.trans (k15.trans (k16.trans (k17.trans (k18.trans (k19.trans (k20.trans (k21.trans (k22.trans (k23.trans (k24.trans (k25.trans (k26.trans (k27.trans (k28.trans (k29.trans (k30.trans (k31.trans (k32.trans (k33.trans (k34.trans (k35))))))))))))))))))))))))))))))))))).none nin0 np26, (k37.trans (k38.trans (k39.trans (k40.trans (k41.trans (k42)))))).get nin0 e26⟩, ⟨(k1.trans (k2.trans (k3.trans (k4.trans (k5.trans (k6.trans (k7.trans (k8.trans (k9.trans (k10.trans (k11.trans (k12.trans (k13.trans (k14.trans (k15.trans (k16.trans (k17.trans (k18.trans (k19.trans (k20.trans (k21.trans (k22.trans (k23.trans (k24.trans (k25.trans (k26.trans (k27.trans (k28.trans (k29.trans (k30.trans (k31.trans (k32.trans (k33.trans (k34.trans (k35.trans (k36)))))))))))))))))))))))))))))))))))).none nin0 np27, (k38.trans (k39.trans (k40.trans (k41.trans (k42))))).get nin0 e27⟩, ⟨(k1.trans (k2.trans (k3.trans (k4.trans (k5.trans (k6.trans (k7.trans (k8.trans (k9.trans (k10.trans (k11.trans (k12.trans (k13.trans (k14.trans (k15.trans (k16.trans (k17.trans (k18.trans (k19.trans (k20.trans (k21.trans (k22.trans (k23.trans (k24.trans (k25.trans (k26.trans (k27.trans (k28.trans (k29.trans (k30.trans (k31.trans (k32.trans (k33.trans (k34.trans (k35.trans (k36.trans (k37))))))))))))))))))))))))))))))))))))).none nin0 np28, (k39.trans (k40.trans (k41.trans (k42)))).get nin0 e28⟩, ⟨(k1.trans (k2.trans (k3.trans (k4.trans (k5.trans (k6.trans (k7.trans (k8.trans (k9.trans (k10.trans (k11.trans (k12.trans (k13.trans (k14.trans (k15.trans (k16.trans (k17.trans (k18.trans (k19.trans (k20.trans (k21.trans (k22.trans (k23.trans (k24.trans (k25.trans (k26.trans (k27.trans (k28.trans (k29.trans (k30.trans (k31.trans (k32.trans (k33.trans (k34.trans (k35.trans (k36.trans (k37.trans (k38)))))))))))))))))))))))))))))))))))))).none nin0 np29, (k40.trans (k41.trans (k42))).get nin0 e29⟩, ⟨(k1.trans (k2.trans (k3.trans (k4.trans (k5.trans (k6.trans (k7.trans (k8.trans (k9.trans (k10.trans (k11.trans (k12.trans (k13.trans (k14.trans (k15.trans (k16.trans (k17.trans (k18.trans (k19.trans (k20.trans (k21.trans (k22.trans (k23.trans (k24.trans (k25.trans (k26.trans (k27.trans (k28.trans (k29.trans (k30.trans (k31.trans (k32.trans (k33.trans (k34.trans (k35.trans (k36.trans (k37.trans (k38.trans (k39))))))))))))))))))))))))))))))))))))))).none nin0 np30, (k41.trans (k42)).get nin0 e30⟩, trivial⟩

def deepT (o c : Str) (n : Nat) : Str := RL.repS o n ++ ("all" : Str) ++ RL.repS c n
theorem deep_all : errT (deepT "(" ")" 20) = none ∧ errT (deepT "(" ")" 21) = some (21, ("deep" : Str)) ∧ errT (deepT "not " "" 20) = none ∧ errT (deepT "not " "" 21) = some (81, ("deep" : Str)) := by decide +kernel
theorem rd_sps : ∀ k : Nat, RdG [] 0 (List.replicate k 32) []
  | 0 => Rd_nil
  | k + 1 => by
    rw [List.replicate_succ]
    exact RdG.sp (rd_sps k)
theorem rep_flat : ∀ k : Nat, (List.replicate k [32]).flatten = List.replicate k 32
  | 0 => rfl
  | k + 1 => by rw [List.replicate_succ, List.replicate_succ, List.flatten_cons, rep_flat k]; rfl
theorem wide_k (k : Nat) : errT (("all" : Str) ++ RL.repS " " (k + 1)) = none := by
  have e : TL.tl (("all" : Str) ++ RL.repS " " (k + 1)) = TL.tl ("all" : Str) ++ List.replicate (k + 1) 32 := by
    rw [TL.tl_append, RL.repS_tl, show (" " : Str).cps.toList = [32] by decide +kernel, rep_flat]
  have h : RdG [] 0 (TL.tl (("all" : Str) ++ RL.repS " " (k + 1))) [("all" : Str)] := by
    rw [e, List.replicate_succ]
    exact RdG.aw (by decide +kernel) Ok.sp (RdG.sp (rd_sps k))
  obtain ⟨l, e1, e2⟩ := parses h (R2.of (R1.of (R0.leaf (D := 20) (a := .all) trivial)))
  unfold errT
  rw [e1]
  dsimp only
  rw [e2]
def allS : Str := "abcdefghijklmnopqrstuvwxyz0123456789 <=>-()"
theorem allS_list : allS.cps.toList = signs.cps.toList ++ [32] ++ opsS.cps.toList := by decide +kernel
theorem allS_iff (c : Nat) : c ∈ allS.cps.toList ↔ legal c = true := by
  rw [allS_list, List.mem_append, List.mem_append]
  unfold legal isW
  rw [Bool.or_eq_true, Bool.or_eq_true, decide_eq_true_eq, decide_eq_true_eq, beq_iff_eq, List.mem_singleton]
def signs8 : List Str := ["_", "A", "#", "+", "/", "!", "[", "."]
theorem signs8_bad : ∀ s ∈ signs8, ∃ c ∈ TL.tl s, legal c = false := by decide +kernel
theorem signs8_len : ∀ s ∈ signs8, s.length = 1 := by decide +kernel
theorem pick4 {h : Str} {v : Int} (h0 : 0 ≤ v) (h1 : v < 4) : ∃ m ∈ mids, atI [V.str (("(" : Str) ++ h ++ (") and " : Str)), V.str (("(" : Str) ++ h ++ (") or " : Str)), V.str (("(" : Str) ++ h ++ (") and not " : Str)), V.str (("(" : Str) ++ h ++ (") or (" : Str))] v = some (.str (("(" : Str) ++ h ++ m.1)) := by
  have hv : v = 0 ∨ v = 1 ∨ v = 2 ∨ v = 3 := by omega
  rcases hv with rfl | rfl | rfl | rfl
  · exact ⟨(") and ", ["and"]), by decide +kernel, rfl⟩
  · exact ⟨(") or ", ["or"]), by decide +kernel, rfl⟩
  · exact ⟨(") and not ", ["and", "not"]), by decide +kernel, rfl⟩
  · exact ⟨(") or (", ["or", "("]), by decide +kernel, rfl⟩
theorem cut_le {z : Str} {i j : Option Int} : (cutS z i j).length ≤ z.length := by
  unfold cutS
  show (List.take _ (List.drop _ z.cps.toList)).toArray.size ≤ z.cps.size
  rw [List.size_toArray, List.length_take, List.length_drop, Array.length_toList]
  omega
theorem mids_len : ∀ m ∈ mids, m.1.length ≤ 10 := by decide +kernel
theorem errOf_some {z : Str} {c : Nat} {re : Str} (hz : z.cps.size ≤ 2000) (h : errT z = some (c, re)) : errOf z = [.int 1, .int (c : Int), .str re] := by
  unfold errOf
  rw [if_neg (by omega), h]
theorem errOf_none {z : Str} (hz : z.cps.size ≤ 2000) (h : errT z = none) : errOf z = [] := by
  unfold errOf
  rw [if_neg (by omega), h]
theorem err_scl {z : Str} : ∀ x ∈ errOf z, scl x = true := by
  intro x hx
  unfold errOf at hx
  split at hx
  · rw [List.mem_singleton.mp hx]; rfl
  · split at hx
    · cases hx
    · simp only [List.mem_cons, List.not_mem_nil, or_false] at hx
      rcases hx with rfl | rfl | rfl <;> rfl
theorem err_len {z : Str} : (errOf z).length ≤ 3 := by
  unfold errOf
  split
  · decide
  · split <;> simp
def spLaw (K : PySem.W.Frag) : Sp := fun vs H Q _ => ∃ (a : Addr) (ns : List Int), vs = [.ref a] ∧ SqL K H a (ns.map V.int) ∧ ns.length ≤ 63 ∧ (∀ z ∈ ns, Builtin.Int.intBits z ≤ 1048576) ∧ ∀ H', Q (.bl true) H'
theorem ok_law {P : Program} {w : World} {K : PySem.W.Frag} {mg : Str → Option Value} {base : Heap} (T : T P K mg) : FnOk P w K mg base CX0 141 T.a_law T.fd_law ["script"] (spLaw K) := by
  refine T.F_law.ok sc_law (fun vs H Q E h => ?_) (fun cdv A outer s H vs Q E hr h => ?_)
  · obtain ⟨a, ns, rfl, _⟩ := h
    rfl
  · obtain ⟨c, ns, rfl, hS, hlen, hb, q⟩ := h
    refine ⟨_, (pss_cons (ps_set (i := 1) sc_law.nd rfl (by first | exact Or.inl rfl | exact Or.inr rfl) (pe_call (ok__law_draws T) (hr.mono (by decide)) (by rfl) T.g__law_draws T.F__law_draws.kp T.b__law_draws .nil pass0 (pa_cons (pv 0) pa_nil)))
      (pss_cons (ps_set (i := 2) sc_law.nd rfl (by first | exact Or.inl rfl | exact Or.inr rfl) (pe_call0 (ok__law_parts T) (hr.mono (by decide)) (by rfl) T.g__law_parts T.F__law_parts.kp T.b__law_parts .nil pass0))
      (pss_cons (ps_set (i := 3) sc_law.nd rfl (by first | exact Or.inl rfl | exact Or.inr rfl) (pe_ix ix_list (pv 2) (pe_call (ok__law_take T) (hr.mono (by decide)) (by rfl) T.g__law_take T.F__law_take.kp T.b__law_take .nil pass0 (pa_cons (pv 1) (pa_cons (pe_callB c_len (by rfl) T.z_len (by decide +kernel) (pa_cons (pv 2) pa_nil)) pa_nil))) (fun _ _ => rfl)))
      (pss_cons (ps_if (pt_not (pt_val (pe_call (ok__law_same T) (hr.mono (by decide)) (by rfl) T.g__law_same T.F__law_same.kp T.b__law_same .nil pass0 (pa_cons (pe_call (ok__law_error T) (hr.mono (by decide)) (by rfl) T.g__law_error T.F__law_error.kp T.b__law_error .nil pass0 (pa_cons (pe_ix ix_list (pv 3) pe_int (fun _ _ => rfl)) pa_nil)) (pa_cons (pe_lst (pa_cons pe_int (pa_cons (pe_ix ix_list (pv 3) pe_int (fun _ _ => rfl)) (pa_cons (pe_ix ix_list (pv 3) pe_int (fun _ _ => rfl)) pa_nil)))) pa_nil))))) (pss_one (ps_ret pe_bl)) pss_nil)
      (pss_cons (ps_set (i := 4) sc_law.nd rfl (by first | exact Or.inl rfl | exact Or.inr rfl) (pe_call (ok__law_written T) (hr.mono (by decide)) (by rfl) T.g__law_written T.F__law_written.kp T.b__law_written .nil pass0 (pa_cons (pe_call (ok__law_condition T) (hr.mono (by decide)) (by rfl) T.g__law_condition T.F__law_condition.kp T.b__law_condition .nil pass0 (pa_cons (pv 1) (pa_cons pe_int pa_nil))) pa_nil)))
      (pss_cons (ps_set (i := 5) sc_law.nd rfl (by first | exact Or.inl rfl | exact Or.inr rfl) (pe_ix ix_list (pe_lst (pa_cons (pe_op o_addS (pe_op o_addS pe_str (pv 4)) pe_str) (pa_cons (pe_op o_addS (pe_op o_addS pe_str (pv 4)) pe_str) (pa_cons (pe_op o_addS (pe_op o_addS pe_str (pv 4)) pe_str) (pa_cons (pe_op o_addS (pe_op o_addS pe_str (pv 4)) pe_str) pa_nil))))) (pe_call (ok__law_take T) (hr.mono (by decide)) (by rfl) T.g__law_take T.F__law_take.kp T.b__law_take .nil pass0 (pa_cons (pv 1) (pa_cons pe_int pa_nil))) (fun _ _ => rfl)))
      (Z.pss_consJ (ps_if (PW.pt (pw_and (pt_cmpR op_notIn_seq (pe_ix ix_list (pv 3) pe_int (fun _ _ => rfl)) (pe_lst (pa_cons pe_str (pa_cons pe_str (pa_cons pe_str pa_nil)))) rfl) (pw_and1 (pt_not (pt_val (pe_call (ok__law_same T) (hr.mono (by decide)) (by rfl) T.g__law_same T.F__law_same.kp T.b__law_same .nil pass0 (pa_cons (pe_call (ok__law_error T) (hr.mono (by decide)) (by rfl) T.g__law_error T.F__law_error.kp T.b__law_error .nil pass0 (pa_cons (pe_op o_addS (pv 5) (pe_ix ix_list (pv 3) pe_int (fun _ _ => rfl))) pa_nil)) (pa_cons (pe_lst (pa_cons pe_int (pa_cons (pe_op op_add (pe_callB c_lens (by rfl) T.z_len (by decide +kernel) (pa_cons (pv 5) pa_nil)) (pe_ix ix_list (pv 3) pe_int (fun _ _ => rfl))) (pa_cons (pe_ix ix_list (pv 3) pe_int (fun _ _ => rfl)) pa_nil)))) pa_nil)))))))) (pss_one (ps_ret pe_bl)) pss_nil)
      (pss_cons (ps_set (i := 6) sc_law.nd rfl (by first | exact Or.inl rfl | exact Or.inr rfl) (pe_ix ix_list (pe_lst (pa_cons pe_str (pa_cons pe_str (pa_cons pe_str (pa_cons pe_str (pa_cons pe_str (pa_cons pe_str (pa_cons pe_str (pa_cons pe_str pa_nil))))))))) (pe_call (ok__law_take T) (hr.mono (by decide)) (by rfl) T.g__law_take T.F__law_take.kp T.b__law_take .nil pass0 (pa_cons (pv 1) (pa_cons pe_int pa_nil))) (fun _ _ => rfl)))
      (pss_cons (ps_set (i := 7) sc_law.nd rfl (by first | exact Or.inl rfl | exact Or.inr rfl) (pe_op o_addS (pe_op o_addS (pv 4) pe_str) (pe_ix ix_list (pv 3) pe_int (fun _ _ => rfl))))
      (pss_cons (ps_set (i := 8) sc_law.nd rfl (by first | exact Or.inl rfl | exact Or.inr rfl) (pe_call (ok__law_take T) (hr.mono (by decide)) (by rfl) T.g__law_take T.F__law_take.kp T.b__law_take .nil pass0 (pa_cons (pv 1) (pa_cons (pe_op op_add (pe_callB c_lens (by rfl) T.z_len (by decide +kernel) (pa_cons (pv 7) pa_nil)) pe_int) pa_nil))))
      (pss_cons (ps_set (i := 9) sc_law.nd rfl (by first | exact Or.inl rfl | exact Or.inr rfl) (pe_op o_addS (pe_op o_addS (pe_slice sl_str (pv 7) po_none (po_some (pv 8))) (pv 6)) (pe_slice sl_str (pv 7) (po_some (pv 8)) po_none)))
      (pss_cons (ps_set (i := 10) sc_law.nd rfl (by first | exact Or.inl rfl | exact Or.inr rfl) (pe_ix ix_list (pe_lc (own := [("k", 15)]) (g := gName 15) rfl sc_law.nd (pi_range1 (by rfl) T.z_range (pa_cons (pe_callB c_lens (by rfl) T.z_len (by decide +kernel) (pa_cons (pv 9) pa_nil)) pa_nil)) (blkOk_by (own := [("k", 15)]) (N := N_law) (sc := defScope s_law) (by decide +kernel)) (fun _ _ _ _ _ => (pg_name (i := 15) sc_law.nd rfl (by first | exact Or.inl rfl | exact Or.inr rfl))) (fun _ _ _ _ _ => (pts_one (pt_cmpR o_ninSg (pe_ix ix_str (pv 9) (pv 15) (fun _ _ => rfl)) pe_str rfl))) (fun _ _ _ _ _ => (pv 15))) pe_int (fun _ _ => rfl)))
      (pss_cons (ps_if (pt_not (pt_val (pe_call (ok__law_same T) (hr.mono (by decide)) (by rfl) T.g__law_same T.F__law_same.kp T.b__law_same .nil pass0 (pa_cons (pe_call (ok__law_error T) (hr.mono (by decide)) (by rfl) T.g__law_error T.F__law_error.kp T.b__law_error .nil pass0 (pa_cons (pv 9) pa_nil)) (pa_cons (pe_lst (pa_cons pe_int (pa_cons (pe_op op_add (pv 10) pe_int) (pa_cons pe_str pa_nil)))) pa_nil))))) (pss_one (ps_ret pe_bl)) pss_nil)
      (pss_cons (ps_set (i := 11) sc_law.nd rfl (by first | exact Or.inl rfl | exact Or.inr rfl) (pe_op op_add pe_int (pe_call (ok__law_take T) (hr.mono (by decide)) (by rfl) T.g__law_take T.F__law_take.kp T.b__law_take .nil pass0 (pa_cons (pv 1) (pa_cons pe_int pa_nil)))))
      (pss_cons (ps_set (i := 12) sc_law.nd rfl (by first | exact Or.inl rfl | exact Or.inr rfl) (pe_ix ix_list (pe_lst (pa_cons (pe_lst (pa_cons pe_str (pa_cons pe_str pa_nil))) (pa_cons (pe_lst (pa_cons pe_str (pa_cons pe_str pa_nil))) pa_nil))) (pe_call (ok__law_take T) (hr.mono (by decide)) (by rfl) T.g__law_take T.F__law_take.kp T.b__law_take .nil pass0 (pa_cons (pv 1) (pa_cons pe_int pa_nil))) (fun _ _ => rfl)))
      (pss_cons (ps_set (i := 13) sc_law.nd rfl (by first | exact Or.inl rfl | exact Or.inr rfl) (pe_op o_addS (pe_op o_addS (pe_op RL.op_mulE (pe_ix ix_list (pv 12) pe_int (fun _ _ => rfl)) (pv 11)) pe_str) (pe_op RL.op_mulE (pe_ix ix_list (pv 12) pe_int (fun _ _ => rfl)) (pv 11))))
      (pss_cons (ps_if (pt_not (pt_val (pe_call (ok__law_same T) (hr.mono (by decide)) (by rfl) T.g__law_same T.F__law_same.kp T.b__law_same .nil pass0 (pa_cons (pe_call (ok__law_error T) (hr.mono (by decide)) (by rfl) T.g__law_error T.F__law_error.kp T.b__law_error .nil pass0 (pa_cons (pv 13) pa_nil)) (pa_cons (pe_ix ix_list (pe_lst (pa_cons (pe_lst pa_nil) (pa_cons (pe_lst (pa_cons pe_int (pa_cons (pe_op op_add (pe_op op_mul pe_int (pe_callB c_lens (by rfl) T.z_len (by decide +kernel) (pa_cons (pe_ix ix_list (pv 12) pe_int (fun _ _ => rfl)) pa_nil))) pe_int) (pa_cons pe_str pa_nil)))) pa_nil))) (pe_op op_sub (pv 11) pe_int) (fun _ _ => rfl)) pa_nil))))) (pss_one (ps_ret pe_bl)) pss_nil)
      (pss_cons (ps_set (i := 14) sc_law.nd rfl (by first | exact Or.inl rfl | exact Or.inr rfl) (pe_op o_addS pe_str (pe_op RL.op_mulE pe_str (pe_op op_add pe_int (pe_call (ok__law_take T) (hr.mono (by decide)) (by rfl) T.g__law_take T.F__law_take.kp T.b__law_take .nil pass0 (pa_cons (pv 1) (pa_cons pe_int pa_nil)))))))
      (pss_one (ps_ret (pe_call (ok__law_same T) (hr.mono (by decide)) (by rfl) T.g__law_same T.F__law_same.kp T.b__law_same .nil pass0 (pa_cons (pe_call (ok__law_error T) (hr.mono (by decide)) (by rfl) T.g__law_error T.F__law_error.kp T.b__law_error .nil pass0 (pa_cons (pv 14) pa_nil)) (pa_cons (pe_ix ix_list (pe_lst (pa_cons (pe_lst pa_nil) (pa_cons (pe_lst (pa_cons pe_str pa_nil)) pa_nil))) (pe_op op_sub (pe_callB c_lens (by rfl) T.z_len (by decide +kernel) (pa_cons (pv 14) pa_nil)) pe_int) (fun _ _ => rfl)) pa_nil))))))))))))))))))))))), ?_⟩
    walk_at "z0"
    walk_at "z"
    refine ⟨c, ns, rfl, hS, hlen, hb, fun a H1 na k1 d1 => ?_⟩
    walk_at "z"
    refine ⟨rfl, fun H2 D ps nD k2 eD hP => ?_⟩
    have d2 := d1.kp0 k2
    have naD : a ≠ D := d1.ne nD
    obtain ⟨hpl, hpa⟩ := hP.at_
    have h31 : (arefs ps).length = 31 := by unfold arefs; rw [List.length_map, hpl]; rfl
    walk_at "z"
    refine Z.lenL (lstL eD) ?_
    walk_at "z"
    rw [h31]
    refine ⟨a, 31, rfl, d2, by decide, by decide, fun H3 v hv0 hv1 k3 d3 => ?_⟩
    obtain ⟨j, rfl⟩ : ∃ j : Nat, v = (j : Int) := ⟨v.toNat, by omega⟩
    have hj : j < lawRows.length := by show j < 31; omega
    have hr0 : lawRows[j]? = some lawRows[j] := List.getElem?_eq_getElem hj
    have hrm : lawRows[j] ∈ lawRows := List.getElem_mem hj
    generalize lawRows[j] = r at hr0 hrm
    obtain ⟨p, hpj, np, hp2⟩ := hpa j r hr0
    have nap : a ≠ p := d1.ne np
    have hp3 := k3.get (nin1 nap.symm) hp2
    refine Z.ixL (v := .ref p) (lstL (k3.get (nin1 naD.symm) eD)) (atI_nat (by unfold arefs; rw [List.getElem?_map, hpj]; rfl)) ?_
    obtain ⟨hre, hrz⟩ := rows_err r hrm
    have hrl : r.1.length ≤ 450 := hrz
    walk_at "z"
    refine Z.ixL (j := 0) (v := .str r.1) (lstL hp3) rfl ?_
    walk_at "z"
    refine ⟨r.1, rfl, Nat.le_trans hrz (by decide), fun H4 x4 n4 k4 e4 => ?_⟩
    have hp4 := k4.get nin0 hp3
    have d4 := d3.kp0 k4
    walk_at "z"
    refine Z.ixL (j := 1) (v := .int (r.2.1 : Int)) (lstL hp4) rfl ?_
    walk_at "z"
    refine Z.ixL (j := 2) (v := .str r.2.2) (lstL hp4) rfl ?_
    walk_at "z"
    refine Z.lstK (fun x5 H5 n5 k5 e5 => ?_)
    have hp5 := k5.get nin0 hp4
    have d5 := d4.kp0 k5
    walk_at "z"
    rw [errOf_some (Nat.le_trans hrz (by decide)) hre] at e4
    refine ⟨_, _, rfl, .plain (k5.get nin0 e4) e5 (by simp) (fun x hx => by
      simp only [List.mem_cons, List.not_mem_nil, or_false] at hx
      rcases hx with rfl | rfl | rfl <;> rfl), ?_⟩
    walk_at "z"
    refine ⟨a, 3, rfl, by decide, d5, fun H6 t v6 k6 d6 ht hg hd => ?_⟩
    have hp6 := k6.get (nin1 nap.symm) hp5
    walk_at "z"
    refine ⟨t, v6, rfl, ht, hg, by omega, by omega, fun H7 k7 => ?_⟩
    have hl := wr_le hg (by omega)
    have hp7 := k7.get nin0 hp6
    have d7 := d6.kp0 k7
    have z1 : ("(" : Str).length = 1 := by decide +kernel
    have w3 : (wr t).length ≤ 480 := by
      have h1 := wr_len hg
      have h2 : 2 ^ t.dep ≤ 2 ^ 3 := Nat.pow_le_pow_right (by decide) hd
      omega
    walk_at "z"
    refine aS (by omega) ?_
    walk_at "z"
    refine aS (by rw [app_len, show (") and " : Str).length = 6 by decide +kernel]; omega) ?_
    walk_at "z"
    refine aS (by omega) ?_
    walk_at "z"
    refine aS (by rw [app_len, show (") or " : Str).length = 5 by decide +kernel]; omega) ?_
    walk_at "z"
    refine aS (by omega) ?_
    walk_at "z"
    refine aS (by rw [app_len, show (") and not " : Str).length = 10 by decide +kernel]; omega) ?_
    walk_at "z"
    refine aS (by omega) ?_
    walk_at "z"
    refine aS (by rw [app_len, show (") or (" : Str).length = 6 by decide +kernel]; omega) ?_
    walk_at "z"
    refine Z.lstK (fun x8 H8 n8 k8 e8 => ?_)
    have d8 := d7.kp0 k8
    have hp8 := k8.get nin0 hp7
    have na8 : a ≠ x8 := d7.ne n8
    walk_at "z"
    refine ⟨a, 4, rfl, d8, by decide, by decide, fun H9 iv hi0 hi1 k9 d9 => ?_⟩
    obtain ⟨m, hm, em⟩ := pick4 (h := wr t) hi0 hi1
    refine Z.ixL (lstL (k9.get (nin1 na8.symm) e8)) em ?_
    have hp9 := k9.get (nin1 nap.symm) hp8
    have hml := mids_len m hm
    generalize ho : ("(" : Str) ++ wr t ++ m.1 = o
    have hol : o.length ≤ 500 := by rw [← ho, app_len, app_len, z1]; omega
    walk_at "z"
    refine Z.seqJ (fun σ' H' => σ' = [some (.ref c), some (.ref a), some (.ref D), some (.ref p), some (.str (wr t)), some (.str o), none, none, none, none, none, none, none, none, none, none] ∧ DrawsAt H' a ∧ H' p = some (.lst (rowVs r))) ?_ ?_
    · rintro σ' G1 ⟨rfl, f1, hq1⟩
      walk_at "z"
      refine Z.lstK (fun x2 G2 n2 j2 g2 => ?_)
      have f2 := f1.kp0 j2
      have nb2 : a ≠ x2 := f1.ne n2
      walk_at "z"
      refine ⟨a, 8, rfl, f2, by decide, by decide, fun G3 sv hs0 hs1 j3 f3 => ?_⟩
      obtain ⟨sg, hsg, esg⟩ := pickS signs8 hs0 hs1
      refine Z.ixL (lstL (j3.get (nin1 nb2.symm) g2)) esg ?_
      have hq3 := j3.get (nin1 nap.symm) (j2.get nin0 hq1)
      have hsl := signs8_len sg hsg
      walk_at "z"
      refine aS (by rw [show (" " : Str).length = 1 by decide +kernel]; omega) ?_
      walk_at "z"
      refine Z.ixL (j := 0) (v := .str r.1) (lstL hq3) rfl ?_
      refine aS (by rw [app_len, show (" " : Str).length = 1 by decide +kernel]; omega) ?_
      walk_at "z"
      generalize htx : wr t ++ (" " : Str) ++ r.1 = tx
      have htl : tx.length ≤ 931 := by rw [← htx, app_len, app_len, show (" " : Str).length = 1 by decide +kernel]; omega
      refine Z.lenS (Nat.le_trans htl (by decide)) ?_
      walk_at "z"
      refine ⟨a, (tx.cps.size : Int) + 1, rfl, f3, by omega, by have : tx.cps.size ≤ 931 := htl; omega, fun G4 av ha0 ha1 j4 f4 => ?_⟩
      obtain ⟨at_, rfl⟩ : ∃ n : Nat, av = (n : Int) := ⟨av.toNat, by omega⟩
      have hq4 := j4.get (nin1 nap.symm) hq3
      walk_at "z"
      refine ⟨tx, rfl, Nat.le_trans htl (by decide), ?_⟩
      have hc1 := cut_le (z := tx) (i := none) (j := some (at_ : Int))
      have hc2 := cut_le (z := tx) (i := some (at_ : Int)) (j := none)
      walk_at "z"
      refine aS (by omega) ?_
      walk_at "z"
      refine ⟨tx, rfl, Nat.le_trans htl (by decide), ?_⟩
      refine aS (by rw [app_len]; omega) ?_
      walk_at "z"
      have hill : ∃ c ∈ TL.tl (cutS tx none (some (at_ : Int)) ++ sg ++ cutS tx (some (at_ : Int)) none), legal c = false := by
        obtain ⟨c, h1, h2⟩ := signs8_bad sg hsg
        exact ⟨c, by rw [TL.tl_append, TL.tl_append]; simp [h1], h2⟩
      have hspl : (cutS tx none (some (at_ : Int)) ++ sg ++ cutS tx (some (at_ : Int)) none).length ≤ 2000 := by rw [app_len, app_len]; omega
      generalize cutS tx none (some (at_ : Int)) ++ sg ++ cutS tx (some (at_ : Int)) none = sp at hill hspl
      obtain ⟨pl, cx, rx, hsplit, hpl, hcx⟩ := split_first hill
      have hspn : (TL.tl sp).length = sp.length := Array.length_toList
      have hplt : pl.length < sp.length := by rw [← hspn, hsplit, List.length_append, List.length_cons]; omega
      refine Z.lenS (Nat.le_trans hspl (by decide)) ?_
      refine Z.lcr sp.length rfl (by omega) (fun G i H' => Kp [] G4 H' ∧ ∃ xs : List Int, H' G = some (.lst (xs.map V.int)) ∧ xs.length ≤ i ∧ (i ≤ pl.length → xs = []) ∧ (pl.length < i → xs[0]? = some (pl.length : Int))) ?_ ?_ ?_
      · intro G H10 nG k10 e10
        exact ⟨k10, [], e10, by simp, fun _ => rfl, fun h => by omega⟩
      · rintro G i H10 nG hi ⟨k10, xs, e10, hxl, hx1, hx2⟩
        have hci : ∃ ci, sp.cps.toList[i]? = some ci := ⟨_, List.getElem?_eq_getElem (by rw [Array.length_toList]; exact hi)⟩
        obtain ⟨ci, hci⟩ := hci
        have hci' : (TL.tl sp)[i]? = some ci := hci
        dsimp only [wipe, List.set]
        walk_at "z"
        refine ⟨rfl, ?_⟩
        walk_at "z"
        refine ⟨sp, (i : Int), ci, rfl, rfl, Nat.le_trans hspl (by decide), atI_nat hci, ?_⟩
        walk_at "z"
        change if (!decide (ci ∈ allS.cps.toList)) = true then _ else _
        by_cases hin : ¬ ci ∈ allS.cps.toList
        rw [if_pos (show (!decide (ci ∈ allS.cps.toList)) = true by simp [hin])]
        rotate_left
        rw [if_neg (show ¬ (!decide (ci ∈ allS.cps.toList)) = true by simpa using hin)]
        rotate_left
        · have hil : legal ci = false := by
            cases e : legal ci with
            | false => rfl
            | true => exact absurd ((allS_iff ci).mpr e) hin
          walk_at "z"
          refine ⟨_, e10, Z.szl (m := 5000) (by rw [List.length_map]; omega), k10.mut nG rfl, xs ++ [(i : Int)], ?_, ?_, ?_, ?_⟩
          · rw [upd_same, List.map_append]; rfl
          · rw [List.length_append, List.length_singleton]; omega
          · intro h
            have : ci ∈ pl := by
              rw [hsplit, List.getElem?_append_left (by omega)] at hci'
              exact List.mem_of_getElem? hci'
            rw [hpl ci this] at hil; cases hil
          · intro h
            rcases Nat.lt_or_ge pl.length i with h1 | h1
            · have := hx2 h1
              cases xs with
              | nil => cases this
              | cons x xs => exact this
            · have : xs = [] := hx1 h1
              subst this
              have : i = pl.length := by omega
              subst this
              rfl
        · walk_at "z"
          refine ⟨k10, xs, e10, by omega, fun h => hx1 (by omega), fun h => ?_⟩
          rcases Nat.lt_or_ge pl.length i with h1 | h1
          · exact hx2 h1
          · exfalso
            have : i = pl.length := by omega
            subst this
            rw [hsplit, List.getElem?_append_right (Nat.le_refl _), Nat.sub_self] at hci'
            cases hci'
            have : cx ∈ allS.cps.toList := Decidable.byContradiction fun h => hin h
            rw [(allS_iff cx).mp this] at hcx
            cases hcx
      · rintro G H10 nG ⟨k10, xs, e10, hxl, hx1, hx2⟩
        have hx0 := hx2 hplt
        walk_at "z"
        refine Z.ixL (j := 0) (v := .int (pl.length : Int)) (lstL e10) (atI_nat (j := 0) (by rw [List.getElem?_map, hx0]; rfl)) ?_
        walk_at "z"
        refine ⟨sp, rfl, Nat.le_trans hspl (by decide), fun G5 x5 n5 j5 g5 => ?_⟩
        have f5 := (f4.kp0 k10).kp0 j5
        rw [errOf_some hspl (err_bad hsplit hpl hcx)] at g5
        walk_at "z"
        refine Z.lstK (fun x6 G6 n6 j6 g6 => ?_)
        have f6 := f5.kp0 j6
        walk_at "z"
        refine ⟨_, _, rfl, .plain (j6.get nin0 g5) g6 (by simp) (fun x hx => by
          simp only [List.mem_cons, List.not_mem_nil, or_false] at hx
          rcases hx with rfl | rfl | rfl <;> rfl), ?_⟩
        walk_at "z"
        refine ⟨a, 2, rfl, f6, by decide, by decide, fun G7 mv hm0 hm1 j7 f7 => ?_⟩
        walk_at "z"
        refine Z.lstK (fun y1 G8 m1 j8 g8 => ?_)
        walk_at "z"
        refine Z.lstK (fun y2 G9 m2 j9 g9 => ?_)
        walk_at "z"
        refine Z.lstK (fun y3 G10 m3 j10 g10 => ?_)
        have f10 := ((f7.kp0 j8).kp0 j9).kp0 j10
        have nay3 : a ≠ y3 := ((f7.kp0 j8).kp0 j9).ne m3
        have nay1 : a ≠ y1 := f7.ne m1
        have nay2 : a ≠ y2 := (f7.kp0 j8).ne m2
        walk_at "z"
        refine ⟨a, 2, rfl, f10, by decide, by decide, fun G11 kv hk0 hk1 j11 f11 => ?_⟩
        have g8' := j11.get (nin1 nay1.symm) (j10.get nin0 (j9.get nin0 g8))
        have g9' := j11.get (nin1 nay2.symm) (j10.get nin0 g9)
        have g10' := j11.get (nin1 nay3.symm) g10
        obtain ⟨y, oo, cc, hy, hyo, hoc⟩ : ∃ (y : Addr) (oo cc : Str), atI [V.ref y1, V.ref y2] kv = some (.ref y) ∧ G11 y = some (.lst [.str oo, .str cc]) ∧ ((oo = "(" ∧ cc = ")") ∨ (oo = "not " ∧ cc = "")) := by
          have hk : kv = 0 ∨ kv = 1 := by omega
          rcases hk with rfl | rfl
          · exact ⟨y1, "(", ")", rfl, g8', .inl ⟨rfl, rfl⟩⟩
          · exact ⟨y2, "not ", "", rfl, g9', .inr ⟨rfl, rfl⟩⟩
        refine Z.ixL (lstL g10') hy ?_
        obtain ⟨mn, hmn, hmn2⟩ : ∃ mn : Nat, 20 + mv = (mn : Int) ∧ (mn = 20 ∨ mn = 21) := ⟨(20 + mv).toNat, by omega, by omega⟩
        have hol2 : oo.length ≤ 4 ∧ cc.length ≤ 1 := by
          rcases hoc with ⟨rfl, rfl⟩ | ⟨rfl, rfl⟩ <;> decide +kernel
        walk_at "z"
        refine Z.ixL (j := 0) (v := .str oo) (lstL hyo) rfl ?_
        walk_at "z"
        rw [hmn]
        refine mulE (by omega) (by omega) (by omega) ?_
        walk_at "z"
        have l1 : (RL.repS oo mn).length ≤ 100 := by
          rw [RL.repS_len]
          have : mn * oo.length ≤ 21 * 4 := Nat.mul_le_mul (by omega) hol2.1
          omega
        have l2 : (RL.repS cc mn).length ≤ 100 := by
          rw [RL.repS_len]
          have : mn * cc.length ≤ 21 * 1 := Nat.mul_le_mul (by omega) hol2.2
          omega
        have l3 : ("all" : Str).length = 3 := by decide +kernel
        refine aS (by omega) ?_
        walk_at "z"
        refine Z.ixL (j := 1) (v := .str cc) (lstL hyo) rfl ?_
        walk_at "z"
        refine mulE (by omega) (by omega) (by omega) ?_
        refine aS (by rw [app_len]; omega) ?_
        walk_at "z"
        have ldp : (deepT oo cc mn).cps.size ≤ 2000 := by
          show (RL.repS oo mn ++ ("all" : Str) ++ RL.repS cc mn).length ≤ 2000
          rw [app_len, app_len]; omega
        refine ⟨deepT oo cc mn, rfl, Nat.le_trans ldp (by decide), fun G12 x12 n12 j12 g12 => ?_⟩
        have hyo12 := j12.get nin0 hyo
        have f12 := f11.kp0 j12
        walk_at "z"
        refine Z.lstK (fun q1 K1 mq1 t1 s1 => ?_)
        walk_at "z"
        refine Z.ixL (j := 0) (v := .str oo) (lstL (t1.get nin0 hyo12)) rfl ?_
        walk_at "z"
        refine Z.lenS (Nat.le_trans (m := 4) hol2.1 (by decide)) ?_
        walk_at "z"
        refine Z.iC (.inl (by decide)) ?_
        walk_at "z"
        refine Z.lstK (fun q2 K2 mq2 t2 s2 => ?_)
        walk_at "z"
        refine Z.lstK (fun q3 K3 mq3 t3 s3 => ?_)
        walk_at "z"
        have kk := t1.trans (t2.trans t3)
        have s1' := (t2.trans t3).get nin0 s1
        have s2' := t3.get nin0 s2
        have g12' := kk.get nin0 g12
        have f13 := f12.kp0 kk
        have dup : deepT oo cc mn = RL.repS oo mn ++ ("all" : Str) ++ RL.repS cc mn := rfl
        obtain ⟨y9, ys, hy9, hy9s, hye⟩ : ∃ (y9 : Addr) (ys : List V), atI [V.ref q1, V.ref q2] ((mn : Int) - 20) = some (.ref y9) ∧ K3 y9 = some (.lst ys) ∧ errOf (deepT oo cc mn) = ys := by
          obtain ⟨D1, D2, D3, D4⟩ := deep_all
          rcases hmn2 with rfl | rfl
          · refine ⟨q1, [], rfl, s1', errOf_none ldp ?_⟩
            rcases hoc with ⟨rfl, rfl⟩ | ⟨rfl, rfl⟩
            · exact D1
            · exact D3
          · refine ⟨q2, _, rfl, s2', ?_⟩
            rcases hoc with ⟨rfl, rfl⟩ | ⟨rfl, rfl⟩
            · exact errOf_some ldp D2
            · exact errOf_some ldp D4
        refine Z.ixL (lstL s3) hy9 ?_
        walk_at "z"
        rw [hye] at g12'
        refine ⟨_, _, rfl, .plain g12' hy9s (by rw [← hye]; exact Nat.le_trans err_len (by decide)) (by rw [← hye]; exact err_scl), ?_⟩
        walk_at "z"
        refine ⟨a, 2, rfl, f13, by decide, by decide, fun K4 wv hw0 hw1 t4 f14 => ?_⟩
        obtain ⟨wn, hwn, hwn2⟩ : ∃ wn : Nat, 1997 + wv = ((wn + 1 : Nat) : Int) ∧ (wn = 1996 ∨ wn = 1997) := ⟨(1996 + wv).toNat, by omega, by omega⟩
        walk_at "z"
        rw [hwn]
        refine mulE (by omega) (by omega) (by decide +kernel) ?_
        have lw : (RL.repS " " (wn + 1)).length = wn + 1 := by
          rw [RL.repS_len, show (" " : Str).length = 1 by decide +kernel]; omega
        refine aS (by rw [lw]; omega) ?_
        have lww : (("all" : Str) ++ RL.repS " " (wn + 1)).cps.size = wn + 4 := by
          show (("all" : Str) ++ RL.repS " " (wn + 1)).length = wn + 4
          rw [app_len, lw]; omega
        have hwide : errOf (("all" : Str) ++ RL.repS " " (wn + 1)) = if wn = 1996 then [] else [.str "text"] := by
          rcases hwn2 with rfl | rfl
          · rw [if_pos rfl]
            exact errOf_none (by omega) (wide_k 1996)
          · rw [if_neg (by decide)]
            unfold errOf
            rw [if_pos (by omega)]
        generalize ("all" : Str) ++ RL.repS " " (wn + 1) = wide at hwide lww
        walk_at "z"
        refine ⟨wide, rfl, by rw [lww]; omega, fun K5 x15 n15 t5 s5 => ?_⟩
        walk_at "z"
        refine Z.lstK (fun r1 K6 mr1 t6 s6 => ?_)
        walk_at "z"
        refine Z.lstK (fun r2 K7 mr2 t7 s7 => ?_)
        walk_at "z"
        refine Z.lstK (fun r3 K8 mr3 t8 s8 => ?_)
        walk_at "z"
        refine Z.lenS (by rw [lww]; omega) ?_
        rw [lww]
        walk_at "z"
        have s5' := (t6.trans (t7.trans t8)).get nin0 s5
        rw [hwide] at s5'
        obtain ⟨y8, hy8, hy8s⟩ : ∃ (y8 : Addr), atI [V.ref r1, V.ref r2] (((wn + 4 : Nat) : Int) - 2000) = some (.ref y8) ∧ K8 y8 = some (.lst (if wn = 1996 then [] else [.str "text"])) := by
          rcases hwn2 with rfl | rfl
          · exact ⟨r1, rfl, (t7.trans t8).get nin0 s6⟩
          · exact ⟨r2, rfl, t8.get nin0 s7⟩
        refine Z.ixL (lstL s8) hy8 ?_
        walk_at "z"
        refine ⟨_, _, rfl, .plain s5' hy8s (by split <;> simp) (fun x hx => by
          rcases hwn2 with rfl | rfl
          · simp at hx
          · simp at hx; rw [hx]; rfl), ?_⟩
        exact q _
    · intro N jn
      walk_at "z"
      refine Z.ixL (j := 0) (v := .str r.1) (lstL hp9) rfl ?_
      walk_at "z"
      refine Z.lstK (fun x2 G2 n2 j2 g2 => ?_)
      have hq2 := j2.get nin0 hp9
      have f2 := d9.kp0 j2
      refine Z.inq (xs := exclR.map V.str) (.inl (lstL g2)) rfl Z.strs_flat ?_
      rw [if_pos rfl, Z.inV_strs]
      walk_at "z"
      by_cases hex : r.1 ∈ exclR
      · rw [decide_eq_true hex]
        walk_at "z"
        exact jn _ _ ⟨rfl, f2, hq2⟩
      · rw [decide_eq_false hex]
        walk_at "z"
        refine Z.ixL (j := 0) (v := .str r.1) (lstL hq2) rfl ?_
        refine aS (by omega) ?_
        walk_at "z"
        have hoe := open_err hg (by omega) hm hrm hex
        rw [ho] at hoe
        have hos : (o ++ r.1).cps.size ≤ 2000 := by
          show (o ++ r.1).length ≤ 2000
          rw [app_len]; omega
        refine ⟨o ++ r.1, rfl, Nat.le_trans hos (by decide), fun G3 x3 n3 j3 g3 => ?_⟩
        have hq3 := j3.get nin0 hq2
        have f3 := f2.kp0 j3
        rw [errOf_some hos hoe] at g3
        walk_at "z"
        refine Z.lenS (Nat.le_trans hol (by decide)) ?_
        walk_at "z"
        refine Z.ixL (j := 1) (v := .int (r.2.1 : Int)) (lstL hq3) rfl ?_
        walk_at "z"
        refine Z.ixL (j := 2) (v := .str r.2.2) (lstL hq3) rfl ?_
        walk_at "z"
        refine Z.lstK (fun x4 G4 n4 j4 g4 => ?_)
        walk_at "z"
        refine ⟨_, _, rfl, .plain (j4.get nin0 g3) (by rw [g4, Int.natCast_add]; rfl) (by simp) (fun x hx => by
          simp only [List.mem_cons, List.not_mem_nil, or_false] at hx
          rcases hx with rfl | rfl | rfl <;> rfl), ?_⟩
        walk_at "z"
        exact jn _ _ ⟨rfl, f3.kp0 j4, j4.get nin0 hq3⟩

set_option maxHeartbeats 4000000 in
theorem all_mk {l : PySem.W.OpenLaw} {w : World} {K : PySem.W.Frag} {h : Heap} {mg : Str → Option Value} {fa : Addr} (X : K.In h) (G : h.Ns mainGlobals mg) (hfa : mg "law" = some (.ref fa))
    {CSamphireError : Addr}
    {CTextError fTextError cTextError ccTextError : Addr}
    {CTooLarge fTooLarge cTooLarge ccTooLarge : Addr}
    {CConditionReader : Addr}
    {od1 an1 : Option Addr} {sl1 : Array (Option Value)} {oc1 kV1 dc1 pm1 cd1 ct1 : Value} {f1 : Addr}
    {od2 an2 : Option Addr} {sl2 : Array (Option Value)} {oc2 kV2 dc2 pm2 cd2 ct2 : Value} {f2 : Addr}
    {od3 an3 : Option Addr} {sl3 : Array (Option Value)} {oc3 kV3 dc3 pm3 cd3 ct3 : Value} {f3 : Addr}
    {od4 an4 : Option Addr} {sl4 : Array (Option Value)} {oc4 kV4 dc4 pm4 cd4 ct4 : Value} {f4 : Addr}
    {od5 an5 : Option Addr} {sl5 : Array (Option Value)} {oc5 kV5 dc5 pm5 cd5 ct5 : Value} {f5 : Addr}
    {od6 an6 : Option Addr} {sl6 : Array (Option Value)} {oc6 kV6 dc6 pm6 cd6 ct6 : Value} {f6 : Addr}
    {od7 an7 : Option Addr} {sl7 : Array (Option Value)} {oc7 kV7 dc7 pm7 cd7 ct7 : Value} {f7 : Addr}
    {od8 an8 : Option Addr} {sl8 : Array (Option Value)} {oc8 kV8 dc8 pm8 cd8 ct8 : Value} {f8 : Addr}
    {od9 an9 : Option Addr} {sl9 : Array (Option Value)} {oc9 kV9 dc9 pm9 cd9 ct9 : Value} {f9 : Addr}
    {od10 an10 : Option Addr} {sl10 : Array (Option Value)} {oc10 kV10 dc10 pm10 cd10 ct10 : Value} {f10 : Addr}
    {od11 an11 : Option Addr} {sl11 : Array (Option Value)} {oc11 kV11 dc11 pm11 cd11 ct11 : Value} {f11 : Addr}
    {od12 an12 : Option Addr} {sl12 : Array (Option Value)} {oc12 kV12 dc12 pm12 cd12 ct12 : Value} {f12 : Addr}
    {od13 an13 : Option Addr} {sl13 : Array (Option Value)} {oc13 kV13 dc13 pm13 cd13 ct13 : Value} {f13 : Addr}
    {od14 an14 : Option Addr} {sl14 : Array (Option Value)} {oc14 kV14 dc14 pm14 cd14 ct14 : Value} {f14 : Addr}
    {od15 an15 : Option Addr} {sl15 : Array (Option Value)} {oc15 kV15 dc15 pm15 cd15 ct15 : Value} {f15 : Addr}
    {od16 an16 : Option Addr} {sl16 : Array (Option Value)} {oc16 kV16 dc16 pm16 cd16 ct16 : Value} {f16 : Addr}
    {od17 an17 : Option Addr} {sl17 : Array (Option Value)} {oc17 kV17 dc17 pm17 cd17 ct17 : Value} {f17 : Addr}
    {od18 an18 : Option Addr} {sl18 : Array (Option Value)} {oc18 kV18 dc18 pm18 cd18 ct18 : Value} {f18 : Addr}
    {od19 an19 : Option Addr} {sl19 : Array (Option Value)} {oc19 kV19 dc19 pm19 cd19 ct19 : Value} {f19 : Addr}
    {od20 an20 : Option Addr} {sl20 : Array (Option Value)} {oc20 kV20 dc20 pm20 cd20 ct20 : Value} {f20 : Addr}
    {od21 an21 : Option Addr} {sl21 : Array (Option Value)} {oc21 kV21 dc21 pm21 cd21 ct21 : Value} {f21 : Addr}
    {od22 an22 : Option Addr} {sl22 : Array (Option Value)} {oc22 kV22 dc22 pm22 cd22 ct22 : Value} {f22 : Addr}
    {od23 an23 : Option Addr} {sl23 : Array (Option Value)} {oc23 kV23 dc23 pm23 cd23 ct23 : Value} {f23 : Addr}
    {od24 an24 : Option Addr} {sl24 : Array (Option Value)} {oc24 kV24 dc24 pm24 cd24 ct24 : Value} {f24 : Addr}
    {od25 an25 : Option Addr} {sl25 : Array (Option Value)} {oc25 kV25 dc25 pm25 cd25 ct25 : Value} {f25 : Addr}
    {od26 an26 : Option Addr} {sl26 : Array (Option Value)} {oc26 kV26 dc26 pm26 cd26 ct26 : Value} {f26 : Addr}
    {od27 an27 : Option Addr} {sl27 : Array (Option Value)} {oc27 kV27 dc27 pm27 cd27 ct27 : Value} {f27 : Addr}
    {od28 an28 : Option Addr} {sl28 : Array (Option Value)} {oc28 kV28 dc28 pm28 cd28 ct28 : Value} {f28 : Addr}
    {od29 an29 : Option Addr} {sl29 : Array (Option Value)} {oc29 kV29 dc29 pm29 cd29 ct29 : Value} {f29 : Addr}
    {od30 an30 : Option Addr} {sl30 : Array (Option Value)} {oc30 kV30 dc30 pm30 cd30 ct30 : Value} {f30 : Addr}
    {nmTextError qTextError : Str} {NTextError : Addr} {bsTextError : List Value} {snTextError : List Str} {subTextError : List Value} {abTextError : Bool} {colTextError : Option Bool} {ddTextError : Option Addr} {m0TextError m1TextError m2TextError m3TextError m5TextError : Option Value} {occTextError : Value} {cddTextError : Option Addr} {cvsTextError : List Value} {cslTextError : Array (Option Value)} {cclTextError : Value} {ccdTextError : Option Addr} {ccsTextError : Array (Option Value)} {ocTextError : Value} {odTextError : Option Addr} {oslTextError : Array (Option Value)} {docTextError pmTextError ctvTextError : Value}
    {nmTooLarge qTooLarge : Str} {NTooLarge : Addr} {bsTooLarge : List Value} {snTooLarge : List Str} {subTooLarge : List Value} {abTooLarge : Bool} {colTooLarge : Option Bool} {ddTooLarge : Option Addr} {m0TooLarge m1TooLarge m2TooLarge m3TooLarge m5TooLarge : Option Value} {occTooLarge : Value} {cddTooLarge : Option Addr} {cvsTooLarge : List Value} {cslTooLarge : Array (Option Value)} {cclTooLarge : Value} {ccdTooLarge : Option Addr} {ccsTooLarge : Array (Option Value)} {ocTooLarge : Value} {odTooLarge : Option Addr} {oslTooLarge : Array (Option Value)} {docTooLarge pmTooLarge ctvTooLarge : Value}
    {t_DIGITS : Tok}
    {t_WORD_SIGNS : Tok}
    {t_MOST_IN_NAME : Tok}
    {t_MOST_OPEN : Tok}
    {t_MOST_NUMBER : Tok}
    {t_MOST_CHARACTERS : Tok}
    {k_COMPARING : Addr} {od_COMPARING : Option Addr} {nn_COMPARING : Nat} {sl_COMPARING : Array (Option Value)} {t0_COMPARING t1_COMPARING t2_COMPARING t3_COMPARING t4_COMPARING : Tok}
    {k_ATOM_WORDS : Addr} {od_ATOM_WORDS : Option Addr} {nn_ATOM_WORDS : Nat} {sl_ATOM_WORDS : Array (Option Value)} {t0_ATOM_WORDS t1_ATOM_WORDS t2_ATOM_WORDS t3_ATOM_WORDS t4_ATOM_WORDS : Tok}
    (a1 : PySem.W.nsIn K mainGlobals "made_of" = some (some (.ref f1)))
    (l1 : K.lookup f1 = some ⟨oc1, od1, .func (PySem.W.fnOf "made_of" "made_of" (defArgs s_made_of) (defBody s_made_of) (defScope s_made_of) .none kV1 dc1 pm1 an1 cd1 ct1), sl1⟩)
    (c1 : PySem.W.codeIn K cd1 "made_of" = true)
    (k1 : PySem.W.keepIn K (.ref f1) = true)
    (a2 : PySem.W.nsIn K mainGlobals "writes_integer" = some (some (.ref f2)))
    (l2 : K.lookup f2 = some ⟨oc2, od2, .func (PySem.W.fnOf "writes_integer" "writes_integer" (defArgs s_writes_integer) (defBody s_writes_integer) (defScope s_writes_integer) .none kV2 dc2 pm2 an2 cd2 ct2), sl2⟩)
    (c2 : PySem.W.codeIn K cd2 "writes_integer" = true)
    (k2 : PySem.W.keepIn K (.ref f2) = true)
    (a3 : PySem.W.nsIn K mainGlobals "integer_within" = some (some (.ref f3)))
    (l3 : K.lookup f3 = some ⟨oc3, od3, .func (PySem.W.fnOf "integer_within" "integer_within" (defArgs s_integer_within) (defBody s_integer_within) (defScope s_integer_within) .none kV3 dc3 pm3 an3 cd3 ct3), sl3⟩)
    (c3 : PySem.W.codeIn K cd3 "integer_within" = true)
    (k3 : PySem.W.keepIn K (.ref f3) = true)
    (a4 : PySem.W.nsIn K mainGlobals "is_name" = some (some (.ref f4)))
    (l4 : K.lookup f4 = some ⟨oc4, od4, .func (PySem.W.fnOf "is_name" "is_name" (defArgs s_is_name) (defBody s_is_name) (defScope s_is_name) .none kV4 dc4 pm4 an4 cd4 ct4), sl4⟩)
    (c4 : PySem.W.codeIn K cd4 "is_name" = true)
    (k4 : PySem.W.keepIn K (.ref f4) = true)
    (a5 : PySem.W.nsIn K mainGlobals "token_end" = some (some (.ref f5)))
    (l5 : K.lookup f5 = some ⟨oc5, od5, .func (PySem.W.fnOf "token_end" "token_end" (defArgs s_token_end) (defBody s_token_end) (defScope s_token_end) .none kV5 dc5 pm5 an5 cd5 ct5), sl5⟩)
    (c5 : PySem.W.codeIn K cd5 "token_end" = true)
    (k5 : PySem.W.keepIn K (.ref f5) = true)
    (a6 : PySem.W.nsIn K mainGlobals "tokens_of" = some (some (.ref f6)))
    (l6 : K.lookup f6 = some ⟨oc6, od6, .func (PySem.W.fnOf "tokens_of" "tokens_of" (defArgs s_tokens_of) (defBody s_tokens_of) (defScope s_tokens_of) .none kV6 dc6 pm6 an6 cd6 ct6), sl6⟩)
    (c6 : PySem.W.codeIn K cd6 "tokens_of" = true)
    (k6 : PySem.W.keepIn K (.ref f6) = true)
    (a7 : PySem.W.findIn K (.ref CConditionReader) "__init__" = some (some (.ref f7)))
    (i7 : PySem.W.isFn K (.ref f7) = true)
    (l7 : K.lookup f7 = some ⟨oc7, od7, .func (PySem.W.fnOf "__init__" "ConditionReader.__init__" (defArgs s_ConditionReader_init) (defBody s_ConditionReader_init) (defScope s_ConditionReader_init) .none kV7 dc7 pm7 an7 cd7 ct7), sl7⟩)
    (c7 : PySem.W.codeIn K cd7 "ConditionReader.__init__" = true)
    (k7 : PySem.W.keepIn K (.ref f7) = true)
    (a8 : PySem.W.findIn K (.ref CConditionReader) "whole" = some (some (.ref f8)))
    (i8 : PySem.W.isFn K (.ref f8) = true)
    (l8 : K.lookup f8 = some ⟨oc8, od8, .func (PySem.W.fnOf "whole" "ConditionReader.whole" (defArgs s_ConditionReader_whole) (defBody s_ConditionReader_whole) (defScope s_ConditionReader_whole) .none kV8 dc8 pm8 an8 cd8 ct8), sl8⟩)
    (c8 : PySem.W.codeIn K cd8 "ConditionReader.whole" = true)
    (k8 : PySem.W.keepIn K (.ref f8) = true)
    (a9 : PySem.W.findIn K (.ref CConditionReader) "_here" = some (some (.ref f9)))
    (i9 : PySem.W.isFn K (.ref f9) = true)
    (l9 : K.lookup f9 = some ⟨oc9, od9, .func (PySem.W.fnOf "_here" "ConditionReader._here" (defArgs s_ConditionReader__here) (defBody s_ConditionReader__here) (defScope s_ConditionReader__here) .none kV9 dc9 pm9 an9 cd9 ct9), sl9⟩)
    (c9 : PySem.W.codeIn K cd9 "ConditionReader._here" = true)
    (k9 : PySem.W.keepIn K (.ref f9) = true)
    (a10 : PySem.W.findIn K (.ref CConditionReader) "_refuse" = some (some (.ref f10)))
    (i10 : PySem.W.isFn K (.ref f10) = true)
    (l10 : K.lookup f10 = some ⟨oc10, od10, .func (PySem.W.fnOf "_refuse" "ConditionReader._refuse" (defArgs s_ConditionReader__refuse) (defBody s_ConditionReader__refuse) (defScope s_ConditionReader__refuse) .none kV10 dc10 pm10 an10 cd10 ct10), sl10⟩)
    (c10 : PySem.W.codeIn K cd10 "ConditionReader._refuse" = true)
    (k10 : PySem.W.keepIn K (.ref f10) = true)
    (a11 : PySem.W.findIn K (.ref CConditionReader) "_take" = some (some (.ref f11)))
    (i11 : PySem.W.isFn K (.ref f11) = true)
    (l11 : K.lookup f11 = some ⟨oc11, od11, .func (PySem.W.fnOf "_take" "ConditionReader._take" (defArgs s_ConditionReader__take) (defBody s_ConditionReader__take) (defScope s_ConditionReader__take) .none kV11 dc11 pm11 an11 cd11 ct11), sl11⟩)
    (c11 : PySem.W.codeIn K cd11 "ConditionReader._take" = true)
    (k11 : PySem.W.keepIn K (.ref f11) = true)
    (a12 : PySem.W.findIn K (.ref CConditionReader) "_go_in" = some (some (.ref f12)))
    (i12 : PySem.W.isFn K (.ref f12) = true)
    (l12 : K.lookup f12 = some ⟨oc12, od12, .func (PySem.W.fnOf "_go_in" "ConditionReader._go_in" (defArgs s_ConditionReader__go_in) (defBody s_ConditionReader__go_in) (defScope s_ConditionReader__go_in) .none kV12 dc12 pm12 an12 cd12 ct12), sl12⟩)
    (c12 : PySem.W.codeIn K cd12 "ConditionReader._go_in" = true)
    (k12 : PySem.W.keepIn K (.ref f12) = true)
    (a13 : PySem.W.findIn K (.ref CConditionReader) "_either" = some (some (.ref f13)))
    (i13 : PySem.W.isFn K (.ref f13) = true)
    (l13 : K.lookup f13 = some ⟨oc13, od13, .func (PySem.W.fnOf "_either" "ConditionReader._either" (defArgs s_ConditionReader__either) (defBody s_ConditionReader__either) (defScope s_ConditionReader__either) .none kV13 dc13 pm13 an13 cd13 ct13), sl13⟩)
    (c13 : PySem.W.codeIn K cd13 "ConditionReader._either" = true)
    (k13 : PySem.W.keepIn K (.ref f13) = true)
    (a14 : PySem.W.findIn K (.ref CConditionReader) "_both" = some (some (.ref f14)))
    (i14 : PySem.W.isFn K (.ref f14) = true)
    (l14 : K.lookup f14 = some ⟨oc14, od14, .func (PySem.W.fnOf "_both" "ConditionReader._both" (defArgs s_ConditionReader__both) (defBody s_ConditionReader__both) (defScope s_ConditionReader__both) .none kV14 dc14 pm14 an14 cd14 ct14), sl14⟩)
    (c14 : PySem.W.codeIn K cd14 "ConditionReader._both" = true)
    (k14 : PySem.W.keepIn K (.ref f14) = true)
    (a15 : PySem.W.findIn K (.ref CConditionReader) "_turned" = some (some (.ref f15)))
    (i15 : PySem.W.isFn K (.ref f15) = true)
    (l15 : K.lookup f15 = some ⟨oc15, od15, .func (PySem.W.fnOf "_turned" "ConditionReader._turned" (defArgs s_ConditionReader__turned) (defBody s_ConditionReader__turned) (defScope s_ConditionReader__turned) .none kV15 dc15 pm15 an15 cd15 ct15), sl15⟩)
    (c15 : PySem.W.codeIn K cd15 "ConditionReader._turned" = true)
    (k15 : PySem.W.keepIn K (.ref f15) = true)
    (a16 : PySem.W.findIn K (.ref CConditionReader) "_atom" = some (some (.ref f16)))
    (i16 : PySem.W.isFn K (.ref f16) = true)
    (l16 : K.lookup f16 = some ⟨oc16, od16, .func (PySem.W.fnOf "_atom" "ConditionReader._atom" (defArgs s_ConditionReader__atom) (defBody s_ConditionReader__atom) (defScope s_ConditionReader__atom) .none kV16 dc16 pm16 an16 cd16 ct16), sl16⟩)
    (c16 : PySem.W.codeIn K cd16 "ConditionReader._atom" = true)
    (k16 : PySem.W.keepIn K (.ref f16) = true)
    (a17 : PySem.W.findIn K (.ref CConditionReader) "_bracket" = some (some (.ref f17)))
    (i17 : PySem.W.isFn K (.ref f17) = true)
    (l17 : K.lookup f17 = some ⟨oc17, od17, .func (PySem.W.fnOf "_bracket" "ConditionReader._bracket" (defArgs s_ConditionReader__bracket) (defBody s_ConditionReader__bracket) (defScope s_ConditionReader__bracket) .none kV17 dc17 pm17 an17 cd17 ct17), sl17⟩)
    (c17 : PySem.W.codeIn K cd17 "ConditionReader._bracket" = true)
    (k17 : PySem.W.keepIn K (.ref f17) = true)
    (a18 : PySem.W.findIn K (.ref CConditionReader) "_number" = some (some (.ref f18)))
    (i18 : PySem.W.isFn K (.ref f18) = true)
    (l18 : K.lookup f18 = some ⟨oc18, od18, .func (PySem.W.fnOf "_number" "ConditionReader._number" (defArgs s_ConditionReader__number) (defBody s_ConditionReader__number) (defScope s_ConditionReader__number) .none kV18 dc18 pm18 an18 cd18 ct18), sl18⟩)
    (c18 : PySem.W.codeIn K cd18 "ConditionReader._number" = true)
    (k18 : PySem.W.keepIn K (.ref f18) = true)
    (a19 : PySem.W.nsIn K mainGlobals "parse_condition" = some (some (.ref f19)))
    (l19 : K.lookup f19 = some ⟨oc19, od19, .func (PySem.W.fnOf "parse_condition" "parse_condition" (defArgs s_parse_condition) (defBody s_parse_condition) (defScope s_parse_condition) .none kV19 dc19 pm19 an19 cd19 ct19), sl19⟩)
    (c19 : PySem.W.codeIn K cd19 "parse_condition" = true)
    (k19 : PySem.W.keepIn K (.ref f19) = true)
    (a20 : PySem.W.nsIn K mainGlobals "_law_draws" = some (some (.ref f20)))
    (l20 : K.lookup f20 = some ⟨oc20, od20, .func (PySem.W.fnOf "_law_draws" "_law_draws" (defArgs s__law_draws) (defBody s__law_draws) (defScope s__law_draws) .none kV20 dc20 pm20 an20 cd20 ct20), sl20⟩)
    (c20 : PySem.W.codeIn K cd20 "_law_draws" = true)
    (k20 : PySem.W.keepIn K (.ref f20) = true)
    (a21 : PySem.W.nsIn K mainGlobals "_law_take" = some (some (.ref f21)))
    (l21 : K.lookup f21 = some ⟨oc21, od21, .func (PySem.W.fnOf "_law_take" "_law_take" (defArgs s__law_take) (defBody s__law_take) (defScope s__law_take) .none kV21 dc21 pm21 an21 cd21 ct21), sl21⟩)
    (c21 : PySem.W.codeIn K cd21 "_law_take" = true)
    (k21 : PySem.W.keepIn K (.ref f21) = true)
    (a22 : PySem.W.nsIn K mainGlobals "_law_same" = some (some (.ref f22)))
    (l22 : K.lookup f22 = some ⟨oc22, od22, .func (PySem.W.fnOf "_law_same" "_law_same" (defArgs s__law_same) (defBody s__law_same) (defScope s__law_same) .none kV22 dc22 pm22 an22 cd22 ct22), sl22⟩)
    (c22 : PySem.W.codeIn K cd22 "_law_same" = true)
    (k22 : PySem.W.keepIn K (.ref f22) = true)
    (a23 : PySem.W.nsIn K mainGlobals "_law_name" = some (some (.ref f23)))
    (l23 : K.lookup f23 = some ⟨oc23, od23, .func (PySem.W.fnOf "_law_name" "_law_name" (defArgs s__law_name) (defBody s__law_name) (defScope s__law_name) .none kV23 dc23 pm23 an23 cd23 ct23), sl23⟩)
    (c23 : PySem.W.codeIn K cd23 "_law_name" = true)
    (k23 : PySem.W.keepIn K (.ref f23) = true)
    (a24 : PySem.W.nsIn K mainGlobals "_law_number" = some (some (.ref f24)))
    (l24 : K.lookup f24 = some ⟨oc24, od24, .func (PySem.W.fnOf "_law_number" "_law_number" (defArgs s__law_number) (defBody s__law_number) (defScope s__law_number) .none kV24 dc24 pm24 an24 cd24 ct24), sl24⟩)
    (c24 : PySem.W.codeIn K cd24 "_law_number" = true)
    (k24 : PySem.W.keepIn K (.ref f24) = true)
    (a25 : PySem.W.nsIn K mainGlobals "_law_condition" = some (some (.ref f25)))
    (l25 : K.lookup f25 = some ⟨oc25, od25, .func (PySem.W.fnOf "_law_condition" "_law_condition" (defArgs s__law_condition) (defBody s__law_condition) (defScope s__law_condition) .none kV25 dc25 pm25 an25 cd25 ct25), sl25⟩)
    (c25 : PySem.W.codeIn K cd25 "_law_condition" = true)
    (k25 : PySem.W.keepIn K (.ref f25) = true)
    (a26 : PySem.W.nsIn K mainGlobals "_law_part" = some (some (.ref f26)))
    (l26 : K.lookup f26 = some ⟨oc26, od26, .func (PySem.W.fnOf "_law_part" "_law_part" (defArgs s__law_part) (defBody s__law_part) (defScope s__law_part) .none kV26 dc26 pm26 an26 cd26 ct26), sl26⟩)
    (c26 : PySem.W.codeIn K cd26 "_law_part" = true)
    (k26 : PySem.W.keepIn K (.ref f26) = true)
    (a27 : PySem.W.nsIn K mainGlobals "_law_written" = some (some (.ref f27)))
    (l27 : K.lookup f27 = some ⟨oc27, od27, .func (PySem.W.fnOf "_law_written" "_law_written" (defArgs s__law_written) (defBody s__law_written) (defScope s__law_written) .none kV27 dc27 pm27 an27 cd27 ct27), sl27⟩)
    (c27 : PySem.W.codeIn K cd27 "_law_written" = true)
    (k27 : PySem.W.keepIn K (.ref f27) = true)
    (a28 : PySem.W.nsIn K mainGlobals "_law_error" = some (some (.ref f28)))
    (l28 : K.lookup f28 = some ⟨oc28, od28, .func (PySem.W.fnOf "_law_error" "_law_error" (defArgs s__law_error) (defBody s__law_error) (defScope s__law_error) .none kV28 dc28 pm28 an28 cd28 ct28), sl28⟩)
    (c28 : PySem.W.codeIn K cd28 "_law_error" = true)
    (k28 : PySem.W.keepIn K (.ref f28) = true)
    (a29 : PySem.W.nsIn K mainGlobals "_law_parts" = some (some (.ref f29)))
    (l29 : K.lookup f29 = some ⟨oc29, od29, .func (PySem.W.fnOf "_law_parts" "_law_parts" (defArgs s__law_parts) (defBody s__law_parts) (defScope s__law_parts) .none kV29 dc29 pm29 an29 cd29 ct29), sl29⟩)
    (c29 : PySem.W.codeIn K cd29 "_law_parts" = true)
    (k29 : PySem.W.keepIn K (.ref f29) = true)
    (a30 : PySem.W.nsIn K mainGlobals "law" = some (some (.ref f30)))
    (l30 : K.lookup f30 = some ⟨oc30, od30, .func (PySem.W.fnOf "law" "law" (defArgs s_law) (defBody s_law) (defScope s_law) .none kV30 dc30 pm30 an30 cd30 ct30), sl30⟩)
    (c30 : PySem.W.codeIn K cd30 "law" = true)
    (k30 : PySem.W.keepIn K (.ref f30) = true)
    (aCSamphireError : PySem.W.nsIn K mainGlobals "SamphireError" = some (some (.ref CSamphireError)))
    (aCTextError : PySem.W.nsIn K mainGlobals "TextError" = some (some (.ref CTextError)))
    (iCTextError : PySem.W.findIn K (.ref CTextError) "__init__" = some (some (.ref fTextError)))
    (tITextError : PySem.W.typeIn K (.ref fTextError) = some (.type "function"))
    (lkTextError : K.lookup fTextError = some ⟨ocTextError, odTextError, .func ((NF_TextError ccTextError cTextError).fd docTextError pmTextError ctvTextError), oslTextError⟩)
    (hcTextError : PySem.W.codeIn K (.ref cTextError) "TextError.__init__" = true)
    (xLTextError : K.lookup CTextError = some (excClassObj nmTextError qTextError CTextError NTextError bsTextError [.ref CSamphireError, .type "ValueError", .type "Exception", .type "BaseException", .type "object"] true snTextError subTextError abTextError colTextError ddTextError m0TextError m1TextError m2TextError m3TextError m5TextError "ValueError.__new__"))
    (saTextError : PySem.W.findIn K (.ref CTextError) "__setattr__" = some (some (.builtin "object.__setattr__")))
    (sBTextError : PySem.W.subIn K (.ref CTextError) (.type "BaseException") = some true)
    (tCTextError : PySem.W.typeIn K (.ref CTextError) = some (.type "type"))
    (kCTextError : PySem.W.keepIn K (.ref CTextError) = true)
    (coTextError : K.lookup cTextError = some ⟨occTextError, cddTextError, .fields cvsTextError.toArray, cslTextError⟩)
    (flTextError : Sup.flIs cvsTextError l.prog.main.file = true)
    (ceTextError : K.lookup ccTextError = some ⟨cclTextError, ccdTextError, .cell (some (.ref CTextError)), ccsTextError⟩)
    (mrTextError : PySem.W.mroIn K CTextError (.ref CTextError) = some true)
    (sVTextError : PySem.W.subIn K (.ref CTextError) (.type "ValueError") = some true)
    (anTextError : PySem.W.nsIn K PySem.cStatics "thirdparty.any" = some none)
    (suTextError : PySem.W.ks_superIn K CTextError CTextError "__init__" = some (some (.builtin "ValueError.__init__")))
    (tpTextError : (l.prog.main.scope.names.lookup ("super" : Str)).isSome = false)
    (hgTextError : PySem.W.findIn K (.ref CTextError) "__getattribute__" = some (some (.builtin "BaseException.__getattribute__")))
    (hkTextError : PySem.W.findIn K (.ref CTextError) "__getattr__" = some none)
    (hdTextError : PySem.W.hasDictIn K CTextError = true)
    (haTextError : PySem.W.findIn K (.ref CTextError) "__class__" = some (some (.builtin "object.__class__")))
    (hnTextError : PySem.W.specialIn K (.builtin "object.__class__") "__get__" = some (some (.builtin "getset_descriptor.__get__")))
    (htTextError : PySem.W.takesIn K (.builtin "object.__class__") = some true)
    (hmTextError : PySem.W.mroIn K CTextError (.type "object") = some true)
    (icTextError : PySem.W.isClsIn K CTextError = true)
    (sCTextError : PySem.W.subIn K (.ref CTextError) (.ref CTextError) = some true)
    (nf_line_TextError : PySem.W.findIn K (.ref CTextError) "line" = some none)
    (nf_column_TextError : PySem.W.findIn K (.ref CTextError) "column" = some none)
    (nf_reason_TextError : PySem.W.findIn K (.ref CTextError) "reason" = some none)
    (aCTooLarge : PySem.W.nsIn K mainGlobals "TooLarge" = some (some (.ref CTooLarge)))
    (iCTooLarge : PySem.W.findIn K (.ref CTooLarge) "__init__" = some (some (.ref fTooLarge)))
    (tITooLarge : PySem.W.typeIn K (.ref fTooLarge) = some (.type "function"))
    (lkTooLarge : K.lookup fTooLarge = some ⟨ocTooLarge, odTooLarge, .func ((NF_TooLarge ccTooLarge cTooLarge).fd docTooLarge pmTooLarge ctvTooLarge), oslTooLarge⟩)
    (hcTooLarge : PySem.W.codeIn K (.ref cTooLarge) "TooLarge.__init__" = true)
    (xLTooLarge : K.lookup CTooLarge = some (excClassObj nmTooLarge qTooLarge CTooLarge NTooLarge bsTooLarge [.ref CSamphireError, .type "ValueError", .type "Exception", .type "BaseException", .type "object"] true snTooLarge subTooLarge abTooLarge colTooLarge ddTooLarge m0TooLarge m1TooLarge m2TooLarge m3TooLarge m5TooLarge "ValueError.__new__"))
    (saTooLarge : PySem.W.findIn K (.ref CTooLarge) "__setattr__" = some (some (.builtin "object.__setattr__")))
    (sBTooLarge : PySem.W.subIn K (.ref CTooLarge) (.type "BaseException") = some true)
    (tCTooLarge : PySem.W.typeIn K (.ref CTooLarge) = some (.type "type"))
    (kCTooLarge : PySem.W.keepIn K (.ref CTooLarge) = true)
    (coTooLarge : K.lookup cTooLarge = some ⟨occTooLarge, cddTooLarge, .fields cvsTooLarge.toArray, cslTooLarge⟩)
    (flTooLarge : Sup.flIs cvsTooLarge l.prog.main.file = true)
    (ceTooLarge : K.lookup ccTooLarge = some ⟨cclTooLarge, ccdTooLarge, .cell (some (.ref CTooLarge)), ccsTooLarge⟩)
    (mrTooLarge : PySem.W.mroIn K CTooLarge (.ref CTooLarge) = some true)
    (sVTooLarge : PySem.W.subIn K (.ref CTooLarge) (.type "ValueError") = some true)
    (anTooLarge : PySem.W.nsIn K PySem.cStatics "thirdparty.any" = some none)
    (suTooLarge : PySem.W.ks_superIn K CTooLarge CTooLarge "__init__" = some (some (.builtin "ValueError.__init__")))
    (tpTooLarge : (l.prog.main.scope.names.lookup ("super" : Str)).isSome = false)
    (hgTooLarge : PySem.W.findIn K (.ref CTooLarge) "__getattribute__" = some (some (.builtin "BaseException.__getattribute__")))
    (hkTooLarge : PySem.W.findIn K (.ref CTooLarge) "__getattr__" = some none)
    (hdTooLarge : PySem.W.hasDictIn K CTooLarge = true)
    (haTooLarge : PySem.W.findIn K (.ref CTooLarge) "__class__" = some (some (.builtin "object.__class__")))
    (hnTooLarge : PySem.W.specialIn K (.builtin "object.__class__") "__get__" = some (some (.builtin "getset_descriptor.__get__")))
    (htTooLarge : PySem.W.takesIn K (.builtin "object.__class__") = some true)
    (hmTooLarge : PySem.W.mroIn K CTooLarge (.type "object") = some true)
    (icTooLarge : PySem.W.isClsIn K CTooLarge = true)
    (sCTooLarge : PySem.W.subIn K (.ref CTooLarge) (.ref CTooLarge) = some true)
    (nf_limit_TooLarge : PySem.W.findIn K (.ref CTooLarge) "limit" = some none)
    (aCConditionReader : PySem.W.nsIn K mainGlobals "ConditionReader" = some (some (.ref CConditionReader)))
    (pgConditionReader : PySem.W.plainGet K CConditionReader Str.empty = true) (hdConditionReader : PySem.W.hasDictIn K CConditionReader = true) (poConditionReader : PySem.W.plainOver K CConditionReader = true) (saConditionReader : PySem.W.findIn K (.ref CConditionReader) "__setattr__" = some (some (.builtin "object.__setattr__"))) (mkConditionReader : PySem.W.makesIn K CConditionReader = true) (kcConditionReader : PySem.W.keepIn K (.ref CConditionReader) = true)
    (nConditionReader__tokens : PySem.W.findIn K (.ref CConditionReader) "_tokens" = some none)
    (nConditionReader__behind : PySem.W.findIn K (.ref CConditionReader) "_behind" = some none)
    (nConditionReader__at : PySem.W.findIn K (.ref CConditionReader) "_at" = some none)
    (nConditionReader__depth : PySem.W.findIn K (.ref CConditionReader) "_depth" = some none)
    (kitexmTooLargeTextError : PySem.W.exmOne K (.ref CTooLarge) (.ref CTextError) = some false)
    (z_abs : PySem.W.nsIn K mainGlobals "abs" = some none)
    (z_bool : PySem.W.nsIn K mainGlobals "bool" = some none)
    (z_int : PySem.W.nsIn K mainGlobals "int" = some none)
    (z_isinstance : PySem.W.nsIn K mainGlobals "isinstance" = some none)
    (z_len : PySem.W.nsIn K mainGlobals "len" = some none)
    (z_list : PySem.W.nsIn K mainGlobals "list" = some none)
    (z_max : PySem.W.nsIn K mainGlobals "max" = some none)
    (z_range : PySem.W.nsIn K mainGlobals "range" = some none)
    (z_reversed : PySem.W.nsIn K mainGlobals "reversed" = some none)
    (z_str : PySem.W.nsIn K mainGlobals "str" = some none)
    (z_super : PySem.W.nsIn K mainGlobals "super" = some none)
    (z_tuple : PySem.W.nsIn K mainGlobals "tuple" = some none)
    (v_DIGITS : PySem.W.nsIn K mainGlobals "DIGITS" = some (some (.str "0123456789" t_DIGITS)))
    (v_WORD_SIGNS : PySem.W.nsIn K mainGlobals "WORD_SIGNS" = some (some (.str "abcdefghijklmnopqrstuvwxyz0123456789" t_WORD_SIGNS)))
    (v_MOST_IN_NAME : PySem.W.nsIn K mainGlobals "MOST_IN_NAME" = some (some (.int (12) t_MOST_IN_NAME)))
    (v_MOST_OPEN : PySem.W.nsIn K mainGlobals "MOST_OPEN" = some (some (.int (20) t_MOST_OPEN)))
    (v_MOST_NUMBER : PySem.W.nsIn K mainGlobals "MOST_NUMBER" = some (some (.int (1000000) t_MOST_NUMBER)))
    (v_MOST_CHARACTERS : PySem.W.nsIn K mainGlobals "MOST_CHARACTERS" = some (some (.int (2000) t_MOST_CHARACTERS)))
    (v_COMPARING : PySem.W.nsIn K mainGlobals "COMPARING" = some (some (.ref k_COMPARING)))
    (l_COMPARING : K.lookup k_COMPARING = some ⟨.type "tuple", od_COMPARING, .seq #[.str "<" t0_COMPARING, .str "<=" t1_COMPARING, .str "=" t2_COMPARING, .str ">=" t3_COMPARING, .str ">" t4_COMPARING] nn_COMPARING, sl_COMPARING⟩)
    (v_ATOM_WORDS : PySem.W.nsIn K mainGlobals "ATOM_WORDS" = some (some (.ref k_ATOM_WORDS)))
    (l_ATOM_WORDS : K.lookup k_ATOM_WORDS = some ⟨.type "tuple", od_ATOM_WORDS, .seq #[.str "all" t0_ATOM_WORDS, .str "weight" t1_ATOM_WORDS, .str "amount" t2_ATOM_WORDS, .str "group" t3_ATOM_WORDS, .str "key" t4_ATOM_WORDS] nn_ATOM_WORDS, sl_ATOM_WORDS⟩) :
    ∃ fd : FuncData, (∀ (s : Shared) (v : Value), BindsTo s fd ⟨[v], []⟩ [("script", v)]) ∧ ∀ base : Heap, K.In base → base.Ns mainGlobals mg → FnOk l.prog w K mg base CX0 141 fa fd ["script"] (spLaw K) := by
  have e : f30 = fa := by
    have e := hfa.symm.trans (PySem.W.mg_of X G a30)
    cases e
    rfl
  subst e
  let t : T l.prog K mg := {
    a_made_of := f1, fd_made_of := _, F_made_of := fun_mk (st := s_made_of) l1 c1 k1, b_made_of := (fun_mk (st := s_made_of) l1 c1 k1).binds (ps := ["text", "signs"]) (fun _ _ _ _ _ _ us hl => match us, hl with | [_, _], _ => rfl),
    g_made_of := PySem.W.mg_of X G a1,
    a_writes_integer := f2, fd_writes_integer := _, F_writes_integer := fun_mk (st := s_writes_integer) l2 c2 k2, b_writes_integer := (fun_mk (st := s_writes_integer) l2 c2 k2).binds (ps := ["word"]) (fun _ _ _ _ _ _ us hl => match us, hl with | [_], _ => rfl),
    g_writes_integer := PySem.W.mg_of X G a2,
    a_integer_within := f3, fd_integer_within := _, F_integer_within := fun_mk (st := s_integer_within) l3 c3 k3, b_integer_within := (fun_mk (st := s_integer_within) l3 c3 k3).binds (ps := ["word", "low", "high"]) (fun _ _ _ _ _ _ us hl => match us, hl with | [_, _, _], _ => rfl),
    g_integer_within := PySem.W.mg_of X G a3,
    a_is_name := f4, fd_is_name := _, F_is_name := fun_mk (st := s_is_name) l4 c4 k4, b_is_name := (fun_mk (st := s_is_name) l4 c4 k4).binds (ps := ["text"]) (fun _ _ _ _ _ _ us hl => match us, hl with | [_], _ => rfl),
    g_is_name := PySem.W.mg_of X G a4,
    a_token_end := f5, fd_token_end := _, F_token_end := fun_mk (st := s_token_end) l5 c5 k5, b_token_end := (fun_mk (st := s_token_end) l5 c5 k5).binds (ps := ["text", "start"]) (fun _ _ _ _ _ _ us hl => match us, hl with | [_, _], _ => rfl),
    g_token_end := PySem.W.mg_of X G a5,
    a_tokens_of := f6, fd_tokens_of := _, F_tokens_of := fun_mk (st := s_tokens_of) l6 c6 k6, b_tokens_of := (fun_mk (st := s_tokens_of) l6 c6 k6).binds (ps := ["text"]) (fun _ _ _ _ _ _ us hl => match us, hl with | [_], _ => rfl),
    g_tokens_of := PySem.W.mg_of X G a6,
    a_ConditionReader_init := f7, fd_ConditionReader_init := _, F_ConditionReader_init := fun_mk (st := s_ConditionReader_init) l7 c7 k7, b_ConditionReader_init := (fun_mk (st := s_ConditionReader_init) l7 c7 k7).binds (ps := ["self", "text"]) (fun _ _ _ _ _ _ us hl => match us, hl with | [_, _], _ => rfl),
    a_ConditionReader_whole := f8, fd_ConditionReader_whole := _, F_ConditionReader_whole := fun_mk (st := s_ConditionReader_whole) l8 c8 k8, b_ConditionReader_whole := (fun_mk (st := s_ConditionReader_whole) l8 c8 k8).binds (ps := ["self"]) (fun _ _ _ _ _ _ us hl => match us, hl with | [_], _ => rfl),
    a_ConditionReader__here := f9, fd_ConditionReader__here := _, F_ConditionReader__here := fun_mk (st := s_ConditionReader__here) l9 c9 k9, b_ConditionReader__here := (fun_mk (st := s_ConditionReader__here) l9 c9 k9).binds (ps := ["self"]) (fun _ _ _ _ _ _ us hl => match us, hl with | [_], _ => rfl),
    a_ConditionReader__refuse := f10, fd_ConditionReader__refuse := _, F_ConditionReader__refuse := fun_mk (st := s_ConditionReader__refuse) l10 c10 k10, b_ConditionReader__refuse := (fun_mk (st := s_ConditionReader__refuse) l10 c10 k10).binds (ps := ["self", "reason"]) (fun _ _ _ _ _ _ us hl => match us, hl with | [_, _], _ => rfl),
    a_ConditionReader__take := f11, fd_ConditionReader__take := _, F_ConditionReader__take := fun_mk (st := s_ConditionReader__take) l11 c11 k11, b_ConditionReader__take := (fun_mk (st := s_ConditionReader__take) l11 c11 k11).binds (ps := ["self", "can_stand"]) (fun _ _ _ _ _ _ us hl => match us, hl with | [_, _], _ => rfl),
    a_ConditionReader__go_in := f12, fd_ConditionReader__go_in := _, F_ConditionReader__go_in := fun_mk (st := s_ConditionReader__go_in) l12 c12 k12, b_ConditionReader__go_in := (fun_mk (st := s_ConditionReader__go_in) l12 c12 k12).binds (ps := ["self"]) (fun _ _ _ _ _ _ us hl => match us, hl with | [_], _ => rfl),
    a_ConditionReader__either := f13, fd_ConditionReader__either := _, F_ConditionReader__either := fun_mk (st := s_ConditionReader__either) l13 c13 k13, b_ConditionReader__either := (fun_mk (st := s_ConditionReader__either) l13 c13 k13).binds (ps := ["self"]) (fun _ _ _ _ _ _ us hl => match us, hl with | [_], _ => rfl),
    a_ConditionReader__both := f14, fd_ConditionReader__both := _, F_ConditionReader__both := fun_mk (st := s_ConditionReader__both) l14 c14 k14, b_ConditionReader__both := (fun_mk (st := s_ConditionReader__both) l14 c14 k14).binds (ps := ["self"]) (fun _ _ _ _ _ _ us hl => match us, hl with | [_], _ => rfl),
    a_ConditionReader__turned := f15, fd_ConditionReader__turned := _, F_ConditionReader__turned := fun_mk (st := s_ConditionReader__turned) l15 c15 k15, b_ConditionReader__turned := (fun_mk (st := s_ConditionReader__turned) l15 c15 k15).binds (ps := ["self"]) (fun _ _ _ _ _ _ us hl => match us, hl with | [_], _ => rfl),
    a_ConditionReader__atom := f16, fd_ConditionReader__atom := _, F_ConditionReader__atom := fun_mk (st := s_ConditionReader__atom) l16 c16 k16, b_ConditionReader__atom := (fun_mk (st := s_ConditionReader__atom) l16 c16 k16).binds (ps := ["self"]) (fun _ _ _ _ _ _ us hl => match us, hl with | [_], _ => rfl),
    a_ConditionReader__bracket := f17, fd_ConditionReader__bracket := _, F_ConditionReader__bracket := fun_mk (st := s_ConditionReader__bracket) l17 c17 k17, b_ConditionReader__bracket := (fun_mk (st := s_ConditionReader__bracket) l17 c17 k17).binds (ps := ["self"]) (fun _ _ _ _ _ _ us hl => match us, hl with | [_], _ => rfl),
    a_ConditionReader__number := f18, fd_ConditionReader__number := _, F_ConditionReader__number := fun_mk (st := s_ConditionReader__number) l18 c18 k18, b_ConditionReader__number := (fun_mk (st := s_ConditionReader__number) l18 c18 k18).binds (ps := ["self"]) (fun _ _ _ _ _ _ us hl => match us, hl with | [_], _ => rfl),
    a_parse_condition := f19, fd_parse_condition := _, F_parse_condition := fun_mk (st := s_parse_condition) l19 c19 k19, b_parse_condition := (fun_mk (st := s_parse_condition) l19 c19 k19).binds (ps := ["text"]) (fun _ _ _ _ _ _ us hl => match us, hl with | [_], _ => rfl),
    g_parse_condition := PySem.W.mg_of X G a19,
    a__law_draws := f20, fd__law_draws := _, F__law_draws := fun_mk (st := s__law_draws) l20 c20 k20, b__law_draws := (fun_mk (st := s__law_draws) l20 c20 k20).binds (ps := ["script"]) (fun _ _ _ _ _ _ us hl => match us, hl with | [_], _ => rfl),
    g__law_draws := PySem.W.mg_of X G a20,
    a__law_take := f21, fd__law_take := _, F__law_take := fun_mk (st := s__law_take) l21 c21 k21, b__law_take := (fun_mk (st := s__law_take) l21 c21 k21).binds (ps := ["draws", "bound"]) (fun _ _ _ _ _ _ us hl => match us, hl with | [_, _], _ => rfl),
    g__law_take := PySem.W.mg_of X G a21,
    a__law_same := f22, fd__law_same := _, F__law_same := fun_mk (st := s__law_same) l22 c22 k22, b__law_same := (fun_mk (st := s__law_same) l22 c22 k22).binds (ps := ["actual", "due"]) (fun _ _ _ _ _ _ us hl => match us, hl with | [_, _], _ => rfl),
    g__law_same := PySem.W.mg_of X G a22,
    a__law_name := f23, fd__law_name := _, F__law_name := fun_mk (st := s__law_name) l23 c23 k23, b__law_name := (fun_mk (st := s__law_name) l23 c23 k23).binds (ps := ["draws"]) (fun _ _ _ _ _ _ us hl => match us, hl with | [_], _ => rfl),
    g__law_name := PySem.W.mg_of X G a23,
    a__law_number := f24, fd__law_number := _, F__law_number := fun_mk (st := s__law_number) l24 c24 k24, b__law_number := (fun_mk (st := s__law_number) l24 c24 k24).binds (ps := ["draws"]) (fun _ _ _ _ _ _ us hl => match us, hl with | [_], _ => rfl),
    g__law_number := PySem.W.mg_of X G a24,
    a__law_condition := f25, fd__law_condition := _, F__law_condition := fun_mk (st := s__law_condition) l25 c25 k25, b__law_condition := (fun_mk (st := s__law_condition) l25 c25 k25).binds (ps := ["draws", "depth"]) (fun _ _ _ _ _ _ us hl => match us, hl with | [_, _], _ => rfl),
    g__law_condition := PySem.W.mg_of X G a25,
    a__law_part := f26, fd__law_part := _, F__law_part := fun_mk (st := s__law_part) l26 c26 k26, b__law_part := (fun_mk (st := s__law_part) l26 c26 k26).binds (ps := ["condition", "words"]) (fun _ _ _ _ _ _ us hl => match us, hl with | [_, _], _ => rfl),
    g__law_part := PySem.W.mg_of X G a26,
    a__law_written := f27, fd__law_written := _, F__law_written := fun_mk (st := s__law_written) l27 c27 k27, b__law_written := (fun_mk (st := s__law_written) l27 c27 k27).binds (ps := ["condition"]) (fun _ _ _ _ _ _ us hl => match us, hl with | [_], _ => rfl),
    g__law_written := PySem.W.mg_of X G a27,
    a__law_error := f28, fd__law_error := _, F__law_error := fun_mk (st := s__law_error) l28 c28 k28, b__law_error := (fun_mk (st := s__law_error) l28 c28 k28).binds (ps := ["text"]) (fun _ _ _ _ _ _ us hl => match us, hl with | [_], _ => rfl),
    g__law_error := PySem.W.mg_of X G a28,
    a__law_parts := f29, fd__law_parts := _, F__law_parts := fun_mk (st := s__law_parts) l29 c29 k29, b__law_parts := (fun_mk (st := s__law_parts) l29 c29 k29).binds (ps := []) (fun _ _ _ _ _ _ us hl => match us, hl with | [], _ => rfl),
    g__law_parts := PySem.W.mg_of X G a29,
    a_law := f30, fd_law := _, F_law := fun_mk (st := s_law) l30 c30 k30, b_law := (fun_mk (st := s_law) l30 c30 k30).binds (ps := ["script"]) (fun _ _ _ _ _ _ us hl => match us, hl with | [_], _ => rfl),
    g_law := PySem.W.mg_of X G a30,
    C_SamphireError := CSamphireError, mg_SamphireError := PySem.W.mg_of X G aCSamphireError,
    C_TextError := CTextError, a_TextError_init := fTextError, c_TextError := cTextError, cc_TextError := ccTextError, doc_TextError := docTextError, pm_TextError := pmTextError, ctv_TextError := ctvTextError, oc_TextError := ocTextError, od_TextError := odTextError, osl_TextError := oslTextError, lk_TextError := lkTextError, hc_TextError := hcTextError,
    x_TextError := Sup.excT_mk xLTextError rfl saTextError sBTextError tCTextError kCTextError coTextError flTextError ceTextError mrTextError sVTextError (PySem.W.mg_none_of X G z_super) anTextError suTextError tpTextError (PySem.W.mg_of X G aCTextError) iCTextError tITextError ⟨hgTextError, hkTextError, sBTextError, hdTextError, haTextError, hnTextError, htTextError, hmTextError⟩ icTextError sCTextError,
    bx_TextError := .all (fun us hl => match us, hl with | [_, _, _, _], _ => rfl),
    nf_TextError_line := nf_line_TextError,
    nf_TextError_column := nf_column_TextError,
    nf_TextError_reason := nf_reason_TextError,
    C_TooLarge := CTooLarge, a_TooLarge_init := fTooLarge, c_TooLarge := cTooLarge, cc_TooLarge := ccTooLarge, doc_TooLarge := docTooLarge, pm_TooLarge := pmTooLarge, ctv_TooLarge := ctvTooLarge, oc_TooLarge := ocTooLarge, od_TooLarge := odTooLarge, osl_TooLarge := oslTooLarge, lk_TooLarge := lkTooLarge, hc_TooLarge := hcTooLarge,
    x_TooLarge := Sup.excT_mk xLTooLarge rfl saTooLarge sBTooLarge tCTooLarge kCTooLarge coTooLarge flTooLarge ceTooLarge mrTooLarge sVTooLarge (PySem.W.mg_none_of X G z_super) anTooLarge suTooLarge tpTooLarge (PySem.W.mg_of X G aCTooLarge) iCTooLarge tITooLarge ⟨hgTooLarge, hkTooLarge, sBTooLarge, hdTooLarge, haTooLarge, hnTooLarge, htTooLarge, hmTooLarge⟩ icTooLarge sCTooLarge,
    bx_TooLarge := .all (fun us hl => match us, hl with | [_, _], _ => rfl),
    nf_TooLarge_limit := nf_limit_TooLarge,
    C_ConditionReader := CConditionReader, cl_ConditionReader := ⟨pgConditionReader, hdConditionReader, poConditionReader, saConditionReader⟩, mg_ConditionReader := PySem.W.mg_of X G aCConditionReader,
    mk_ConditionReader := ⟨mkConditionReader, a7, i7, kcConditionReader⟩,
    na_ConditionReader__tokens := nConditionReader__tokens,
    na_ConditionReader__behind := nConditionReader__behind,
    na_ConditionReader__at := nConditionReader__at,
    na_ConditionReader__depth := nConditionReader__depth,
    me_ConditionReader_whole := ⟨a8, i8, k8⟩,
    me_ConditionReader__here := ⟨a9, i9, k9⟩,
    me_ConditionReader__refuse := ⟨a10, i10, k10⟩,
    me_ConditionReader__take := ⟨a11, i11, k11⟩,
    me_ConditionReader__go_in := ⟨a12, i12, k12⟩,
    me_ConditionReader__either := ⟨a13, i13, k13⟩,
    me_ConditionReader__both := ⟨a14, i14, k14⟩,
    me_ConditionReader__turned := ⟨a15, i15, k15⟩,
    me_ConditionReader__atom := ⟨a16, i16, k16⟩,
    me_ConditionReader__bracket := ⟨a17, i17, k17⟩,
    me_ConditionReader__number := ⟨a18, i18, k18⟩,
    exm_TooLarge_TextError := kitexmTooLargeTextError,
    z_abs := PySem.W.mg_none_of X G z_abs,
    z_bool := PySem.W.mg_none_of X G z_bool,
    z_int := PySem.W.mg_none_of X G z_int,
    z_isinstance := PySem.W.mg_none_of X G z_isinstance,
    z_len := PySem.W.mg_none_of X G z_len,
    z_list := PySem.W.mg_none_of X G z_list,
    z_max := PySem.W.mg_none_of X G z_max,
    z_range := PySem.W.mg_none_of X G z_range,
    z_reversed := PySem.W.mg_none_of X G z_reversed,
    z_str := PySem.W.mg_none_of X G z_str,
    z_super := PySem.W.mg_none_of X G z_super,
    z_tuple := PySem.W.mg_none_of X G z_tuple,
    v_DIGITS := _, g_DIGITS := PySem.W.mg_of X G v_DIGITS, r_DIGITS := ⟨_, rfl⟩,
    v_WORD_SIGNS := _, g_WORD_SIGNS := PySem.W.mg_of X G v_WORD_SIGNS, r_WORD_SIGNS := ⟨_, rfl⟩,
    v_MOST_IN_NAME := _, g_MOST_IN_NAME := PySem.W.mg_of X G v_MOST_IN_NAME, r_MOST_IN_NAME := ⟨_, rfl⟩,
    v_MOST_OPEN := _, g_MOST_OPEN := PySem.W.mg_of X G v_MOST_OPEN, r_MOST_OPEN := ⟨_, rfl⟩,
    v_MOST_NUMBER := _, g_MOST_NUMBER := PySem.W.mg_of X G v_MOST_NUMBER, r_MOST_NUMBER := ⟨_, rfl⟩,
    v_MOST_CHARACTERS := _, g_MOST_CHARACTERS := PySem.W.mg_of X G v_MOST_CHARACTERS, r_MOST_CHARACTERS := ⟨_, rfl⟩,
    k_COMPARING := k_COMPARING, g_COMPARING := PySem.W.mg_of X G v_COMPARING, q_COMPARING := fun H => .inr ⟨_, _, _, l_COMPARING, rfl, rfl, (show 5 ≤ sizeLine by decide), (.cons ⟨_, rfl⟩ (.cons ⟨_, rfl⟩ (.cons ⟨_, rfl⟩ (.cons ⟨_, rfl⟩ (.cons ⟨_, rfl⟩ .nil)))))⟩,
    k_ATOM_WORDS := k_ATOM_WORDS, g_ATOM_WORDS := PySem.W.mg_of X G v_ATOM_WORDS, q_ATOM_WORDS := fun H => .inr ⟨_, _, _, l_ATOM_WORDS, rfl, rfl, (show 5 ≤ sizeLine by decide), (.cons ⟨_, rfl⟩ (.cons ⟨_, rfl⟩ (.cons ⟨_, rfl⟩ (.cons ⟨_, rfl⟩ (.cons ⟨_, rfl⟩ .nil)))))⟩ }
  exact ⟨t.fd_law, fun s v => .of_eq rfl, fun base _ _ => ok_law t⟩

end K04
open PySem PySem.W PyProof.Rows in
set_option maxRecDepth 100000 in
set_option maxHeartbeats 0 in
theorem PySem.Challenge.cw_samphire_k04_first_error_of_a_condition_holds : PySem.Challenge.rw_samphire_k04_first_error_of_a_condition.Holds := by
  w_on; o_law; k_head; (case hw => w_witness2)
  k_fill
  refine L2.walk_ofB (l := PySem.Challenge.rw_samphire_k04_first_error_of_a_condition) (n := 63) (k := 141) (x := "script") (CX := fun w => L2.CX0) (sp := fun w => K04.spLaw _) rfl (by decide) rfl ⟨rfl, by decide, by decide⟩ (fun w h Y => PySem.W.kIn_of Y) ?F (fun _ H a ns hl hb _ hS => ⟨a, ns, rfl, hS, hl, hb, fun _ => rfl⟩) (fun _ _ _ _ _ h => h)
  case F =>
    intro w mg fa h KX G hmg
    refine' K04.all_mk KX G hmg ?a1 ?l1 ?c1 ?k1 ?a2 ?l2 ?c2 ?k2 ?a3 ?l3 ?c3 ?k3 ?a4 ?l4 ?c4 ?k4 ?a5 ?l5 ?c5 ?k5 ?a6 ?l6 ?c6 ?k6 ?a7 ?i7 ?l7 ?c7 ?k7 ?a8 ?i8 ?l8 ?c8 ?k8 ?a9 ?i9 ?l9 ?c9 ?k9 ?a10 ?i10 ?l10 ?c10 ?k10 ?a11 ?i11 ?l11 ?c11 ?k11 ?a12 ?i12 ?l12 ?c12 ?k12 ?a13 ?i13 ?l13 ?c13 ?k13 ?a14 ?i14 ?l14 ?c14 ?k14 ?a15 ?i15 ?l15 ?c15 ?k15 ?a16 ?i16 ?l16 ?c16 ?k16 ?a17 ?i17 ?l17 ?c17 ?k17 ?a18 ?i18 ?l18 ?c18 ?k18 ?a19 ?l19 ?c19 ?k19 ?a20 ?l20 ?c20 ?k20 ?a21 ?l21 ?c21 ?k21 ?a22 ?l22 ?c22 ?k22 ?a23 ?l23 ?c23 ?k23 ?a24 ?l24 ?c24 ?k24 ?a25 ?l25 ?c25 ?k25 ?a26 ?l26 ?c26 ?k26 ?a27 ?l27 ?c27 ?k27 ?a28 ?l28 ?c28 ?k28 ?a29 ?l29 ?c29 ?k29 ?a30 ?l30 ?c30 ?k30 ?aCSamphireError ?aCTextError ?iCTextError ?tITextError ?lkTextError ?hcTextError ?xLTextError ?saTextError ?sBTextError ?tCTextError ?kCTextError ?coTextError ?flTextError ?ceTextError ?mrTextError ?sVTextError ?anTextError ?suTextError ?tpTextError ?hgTextError ?hkTextError ?hdTextError ?haTextError ?hnTextError ?htTextError ?hmTextError ?icTextError ?sCTextError ?nf_line_TextError ?nf_column_TextError ?nf_reason_TextError ?aCTooLarge ?iCTooLarge ?tITooLarge ?lkTooLarge ?hcTooLarge ?xLTooLarge ?saTooLarge ?sBTooLarge ?tCTooLarge ?kCTooLarge ?coTooLarge ?flTooLarge ?ceTooLarge ?mrTooLarge ?sVTooLarge ?anTooLarge ?suTooLarge ?tpTooLarge ?hgTooLarge ?hkTooLarge ?hdTooLarge ?haTooLarge ?hnTooLarge ?htTooLarge ?hmTooLarge ?icTooLarge ?sCTooLarge ?nf_limit_TooLarge ?aCConditionReader ?pgConditionReader ?hdConditionReader ?poConditionReader ?saConditionReader ?mkConditionReader ?kcConditionReader ?nConditionReader__tokens ?nConditionReader__behind ?nConditionReader__at ?nConditionReader__depth ?kitexmTooLargeTextError ?z_abs ?z_bool ?z_int ?z_isinstance ?z_len ?z_list ?z_max ?z_range ?z_reversed ?z_str ?z_super ?z_tuple ?v_DIGITS ?v_WORD_SIGNS ?v_MOST_IN_NAME ?v_MOST_OPEN ?v_MOST_NUMBER ?v_MOST_CHARACTERS ?v_COMPARING ?l_COMPARING ?v_ATOM_WORDS ?l_ATOM_WORDS
    (case aCSamphireError => k_is)
    (case aCTextError => k_is)
    (case aCTooLarge => k_is)
    (case aCConditionReader => k_is)
    (case a1 => k_is)
    (case l1 => k_is)
    (case c1 => k_is)
    (case k1 => k_is)
    (case a2 => k_is)
    (case l2 => k_is)
    (case c2 => k_is)
    (case k2 => k_is)
    (case a3 => k_is)
    (case l3 => k_is)
    (case c3 => k_is)
    (case k3 => k_is)
    (case a4 => k_is)
    (case l4 => k_is)
    (case c4 => k_is)
    (case k4 => k_is)
    (case a5 => k_is)
    (case l5 => k_is)
    (case c5 => k_is)
    (case k5 => k_is)
    (case a6 => k_is)
    (case l6 => k_is)
    (case c6 => k_is)
    (case k6 => k_is)
    (case a7 => k_is)
    (case i7 => k_is)
    (case l7 => k_is)
    (case c7 => k_is)
    (case k7 => k_is)
    (case a8 => k_is)
    (case i8 => k_is)
    (case l8 => k_is)
    (case c8 => k_is)
    (case k8 => k_is)
    (case a9 => k_is)
    (case i9 => k_is)
    (case l9 => k_is)
    (case c9 => k_is)
    (case k9 => k_is)
    (case a10 => k_is)
    (case i10 => k_is)
    (case l10 => k_is)
    (case c10 => k_is)
    (case k10 => k_is)
    (case a11 => k_is)
    (case i11 => k_is)
    (case l11 => k_is)
    (case c11 => k_is)
    (case k11 => k_is)
    (case a12 => k_is)
    (case i12 => k_is)
    (case l12 => k_is)
    (case c12 => k_is)
    (case k12 => k_is)
    (case a13 => k_is)
    (case i13 => k_is)
    (case l13 => k_is)
    (case c13 => k_is)
    (case k13 => k_is)
    (case a14 => k_is)
    (case i14 => k_is)
    (case l14 => k_is)
    (case c14 => k_is)
    (case k14 => k_is)
    (case a15 => k_is)
    (case i15 => k_is)
    (case l15 => k_is)
    (case c15 => k_is)
    (case k15 => k_is)
    (case a16 => k_is)
    (case i16 => k_is)
    (case l16 => k_is)
    (case c16 => k_is)
    (case k16 => k_is)
    (case a17 => k_is)
    (case i17 => k_is)
    (case l17 => k_is)
    (case c17 => k_is)
    (case k17 => k_is)
    (case a18 => k_is)
    (case i18 => k_is)
    (case l18 => k_is)
    (case c18 => k_is)
    (case k18 => k_is)
    (case a19 => k_is)
    (case l19 => k_is)
    (case c19 => k_is)
    (case k19 => k_is)
    (case a20 => k_is)
    (case l20 => k_is)
    (case c20 => k_is)
    (case k20 => k_is)
    (case a21 => k_is)
    (case l21 => k_is)
    (case c21 => k_is)
    (case k21 => k_is)
    (case a22 => k_is)
    (case l22 => k_is)
    (case c22 => k_is)
    (case k22 => k_is)
    (case a23 => k_is)
    (case l23 => k_is)
    (case c23 => k_is)
    (case k23 => k_is)
    (case a24 => k_is)
    (case l24 => k_is)
    (case c24 => k_is)
    (case k24 => k_is)
    (case a25 => k_is)
    (case l25 => k_is)
    (case c25 => k_is)
    (case k25 => k_is)
    (case a26 => k_is)
    (case l26 => k_is)
    (case c26 => k_is)
    (case k26 => k_is)
    (case a27 => k_is)
    (case l27 => k_is)
    (case c27 => k_is)
    (case k27 => k_is)
    (case a28 => k_is)
    (case l28 => k_is)
    (case c28 => k_is)
    (case k28 => k_is)
    (case a29 => k_is)
    (case l29 => k_is)
    (case c29 => k_is)
    (case k29 => k_is)
    (case a30 => k_is)
    (case l30 => k_is)
    (case c30 => k_is)
    (case k30 => k_is)
    (case iCTextError => k_is)
    (case tITextError => k_is)
    (case lkTextError => k_is)
    (case hcTextError => k_is)
    (case xLTextError => k_is)
    (case saTextError => k_is)
    (case sBTextError => k_is)
    (case tCTextError => k_is)
    (case kCTextError => k_is)
    (case coTextError => k_is)
    (case flTextError => first | rfl | decide +kernel)
    (case ceTextError => k_is)
    (case mrTextError => first | rfl | k_is)
    (case sVTextError => k_is)
    (case anTextError => k_is)
    (case suTextError => ks_is)
    (case tpTextError => first | rfl | decide +kernel)
    (case hgTextError => k_is)
    (case hkTextError => k_is)
    (case hdTextError => k_is)
    (case haTextError => k_is)
    (case hnTextError => k_is)
    (case htTextError => k_is)
    (case hmTextError => k_is)
    (case icTextError => k_is)
    (case sCTextError => first | rfl | k_is)
    (case nf_line_TextError => k_is)
    (case nf_column_TextError => k_is)
    (case nf_reason_TextError => k_is)
    (case iCTooLarge => k_is)
    (case tITooLarge => k_is)
    (case lkTooLarge => k_is)
    (case hcTooLarge => k_is)
    (case xLTooLarge => k_is)
    (case saTooLarge => k_is)
    (case sBTooLarge => k_is)
    (case tCTooLarge => k_is)
    (case kCTooLarge => k_is)
    (case coTooLarge => k_is)
    (case flTooLarge => first | rfl | decide +kernel)
    (case ceTooLarge => k_is)
    (case mrTooLarge => first | rfl | k_is)
    (case sVTooLarge => k_is)
    (case anTooLarge => k_is)
    (case suTooLarge => ks_is)
    (case tpTooLarge => first | rfl | decide +kernel)
    (case hgTooLarge => k_is)
    (case hkTooLarge => k_is)
    (case hdTooLarge => k_is)
    (case haTooLarge => k_is)
    (case hnTooLarge => k_is)
    (case htTooLarge => k_is)
    (case hmTooLarge => k_is)
    (case icTooLarge => k_is)
    (case sCTooLarge => first | rfl | k_is)
    (case nf_limit_TooLarge => k_is)
    (case pgConditionReader => k_is)
    (case hdConditionReader => k_is)
    (case poConditionReader => k_is)
    (case saConditionReader => k_is)
    (case mkConditionReader => k_is)
    (case kcConditionReader => k_is)
    (case nConditionReader__tokens => k_is)
    (case nConditionReader__behind => k_is)
    (case nConditionReader__at => k_is)
    (case nConditionReader__depth => k_is)
    (case kitexmTooLargeTextError => first | rfl | k_is | decide +kernel)
    (case z_abs => k_is)
    (case z_bool => k_is)
    (case z_int => k_is)
    (case z_isinstance => k_is)
    (case z_len => k_is)
    (case z_list => k_is)
    (case z_max => k_is)
    (case z_range => k_is)
    (case z_reversed => k_is)
    (case z_str => k_is)
    (case z_super => k_is)
    (case z_tuple => k_is)
    (case v_DIGITS => k_is)
    (case v_WORD_SIGNS => k_is)
    (case v_MOST_IN_NAME => k_is)
    (case v_MOST_OPEN => k_is)
    (case v_MOST_NUMBER => k_is)
    (case v_MOST_CHARACTERS => k_is)
    (case v_COMPARING => k_is)
    (case l_COMPARING => k_is)
    (case v_ATOM_WORDS => k_is)
    (case l_ATOM_WORDS => k_is)
