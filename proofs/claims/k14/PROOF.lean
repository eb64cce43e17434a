import PyProof.Rows.All
import Wide.All
import OpenK.AllK
import Wide.FinOn
import HandS.ForMost
import HandS.ForExc
import HandS.EndBits
import HandS.Wide
import HandS.IsInst
import HandS.ExcInit
import HandS.Nested
import KE.KExcSuper
import HandS.ExcIs
import HandS.ExcField
import HandS.Gcd
import HandS.Rev
import HandS.Walk
import HandS.Style
import HandS.FStr
import HandS.TryOnly
import KE.GoesEnumKw
import HandS.Text
import HandS.SortInts
import HandS.More
import HandS.Deep
import HandS.StrMore
import HandS.TryMany
import KE.SortData
import KE.SortKeyHeap
import HandS.RevRange
import HandS.Lambda
import HandS.EndTab
import PyProof.Rows.TupSub
import HandS.SortKw
import KE.KSortKey
import PySem.Challenge.RW_samphire_k14_most_runs
set_option Elab.async false
set_option linter.all false
set_option maxRecDepth 100000

set_option exponentiation.threshold 100000
/-! ### an own exception whose __init__ begins with super().__init__(..) -/
namespace Sup
open PySem PySem.Spec PyProof.Rows L2 NdefX
/-- what the written part says of such a class (at C), of its __init__ (at f; its code at c, its cell of the class at cc) -/
structure SupC (P : Program) (K : PySem.W.Frag) (mg : Str → Option Value) (C f c cc : Addr) : Prop where
  T : OexC K C
  cd : ∃ cd, PySem.W.clsIn K C = some cd
  code : ∃ occ cdd vs sl file tf, K.lookup c = some ⟨occ, cdd, .fields vs, sl⟩ ∧ vs[2]? = some (.str file tf) ∧ ((P.main.file : Str) == file) = true
  cell : ∃ cl cld sl, K.lookup cc = some ⟨cl, cld, .cell (some (.ref C)), sl⟩
  sub : PySem.W.mroIn K C (.ref C) = some true
  subV : PySem.W.subIn K (.ref C) (.type "ValueError") = some true
  zs : mg "super" = none
  any : PySem.W.nsIn K PySem.cStatics "thirdparty.any" = some none
  sup : PySem.W.ks_superIn K C C "__init__" = some (some (.builtin "ValueError.__init__"))
  top : (P.main.scope.names.lookup ("super" : Str)).isSome = false
section
variable {CX : CXT} {P : Program} {w : World} {K : PySem.W.Frag} {mg : Str → Option Value} {base : Heap} {N ps : List Str} {F : NF} {f C cc : Addr} {k : Nat} {sp : Sp}
/-- the body's first statement -/
abbrev supSt (arg : Expr) (p0 p1 p2 p3 p4 : Pos) : Stmt := .Expr (.Call (.Attribute (.Call (.Name "super" p0) [] [] p1) "__init__" p2) [arg] [] p3) p4
theorem callW {M : Model} {A : Around} {E : Value → Shared → Prop} {s : Shared} {i : String} {u x : Addr} {pos : Pos} {env : Env} {e : Expr} {Q : Value → Shared → Prop} (he : starEach [e] env = (false, eval e env) :: starEach [] env)
    (h : wpAny M A (spliced (backTo pos (starEach [e] env))) (fun vs s₁ => PySem.W.KxsAt i u x s₁.heap ∧ wpAny M A (call (.ref u) vs) Q E s₁) E s) : wpAny M A (callWith pos (.ref u) [] (backTo pos (starEach [e] env)) []) Q E s := by
  rw [he] at h ⊢
  refine PySem.W.kxs_callWith (i := i) (x := x) rfl ?_
  exact PySem.Calls.evalArgs_plain h
theorem fn_super {oc : Value} {od : Option Addr} {osl : Array (Option Value)} {doc pm ctv : Value} {arg : Expr} {rest : List Stmt} {p0 p1 p2 p3 p4 : Pos} {p : Str} {ps' : List Str}
    (T : SupC P K mg C f F.c cc) (lk : K.lookup f = some ⟨oc, od, .func (F.fd doc pm ctv), osl⟩) (hcl : F.cl = [(("__class__" : Str), cc)]) (hcd : PySem.W.codeIn K (.ref F.c) F.qual = true) (S : NScope N ps ["__class__"] F.scope) (hps : ps = p :: ps')
    (hpar : ∃ ar, (F.params.posonlyargs ++ F.params.args).head? = some ar ∧ ar.arg = p) (hsu : F.scope.names.lookup ("super" : Str) = some .globalImplicit) (hbd : F.body = supSt arg p0 p1 p2 p3 p4 :: rest)
    (hsw : ∀ L : Addr, swapsWith (.Call (.Attribute (.Call (.Name "super" p0) [] [] p1) "__init__" p2) [arg] [] p3) none p4.line (envF F f L) = pure false)
    (hev : ∀ L : Addr, ∃ pl, eval (.Call (.Attribute (.Call (.Name "super" p0) [] [] p1) "__init__" p2) [arg] [] p3) (envF F f L) = (do
        let ov ← attributeBase (.Call (.Name "super" p0) [] [] p1) "__init__" (envF F f L) (eval (.Call (.Name "super" p0) [] [] p1) (envF F f L))
        standAt p2.atName
        let (f', first) ← holding [ov] (getMethod ov "__init__" pl)
        callWith p3 f' first (backTo p3 (starEach [arg] (envF F f L))) []))
    (hst : ∀ L : Addr, starEach [arg] (envF F f L) = (false, eval arg (envF F f L)) :: starEach [] (envF F f L))
    (len : ∀ vs H Q E, sp vs H Q E → vs.length = ps.length)
    (hbody : ∀ (A : Around) (outer : List Env) (s : Shared) (H : Hp) (vs : List V) (Q : VK) (E : XK), Room k (A.deeper (envF F f s.heap.objs.size)) → sp vs H Q E →
      ∃ a vs' ta t, vs = .ref a :: vs' ∧ H a = some (exo a C none) ∧ PA (ncx CX P w K mg base N F f A outer s H E) [arg] ta ∧ PSs (ncx CX P w K mg base N F f A outer s H E) rest t ∧
        ta (startF N vs [none]) H (fun ws H1 => ws.length ≤ 1000 ∧ H1 a = some (exo a C none) ∧ t { nx := fun _ H' => Q .non H', rt := Q } (startF N vs [none]) H1)) :
    FnOk P w K mg base CX (k + 1) f (F.fd doc pm ctv) ps sp := by
  refine ⟨len, fun A outer s H args us vs Q E hr e0 hb r hsp => ?_⟩
  have KX : K.In s.heap := e0.mod.kin.keeps fun b o e => (e0.bs b o e).1
  have hl := len _ _ _ _ hsp
  have lim : s.heap.NoLimit := e0.mod.nolimit.keeps fun b o e => (e0.bs b o e).1
  refine codeAny_call_function hr.depth (KX _ _ lk) rfl S.co S.gen rfl (PySem.W.codeRec_of KX hcd) (hb _ _ _ _ ?_)
  refine wpAny_newFunctionEnv S.nocell (fun ⟨n, _⟩ hy => S.par n (List.of_mem_zip hy).1) (fun h₁ hns hsb => ⟨lim.fresh _ hsb, ?_⟩) S.kind
  show codeAny _ _ (.func F.body (envF F f s.heap.objs.size)) _ _
  refine PySem.ks_codeAny_funcAt ?_
  have kp : ∀ b o, s.heap.get? b = some o → h₁.get? b = some o := fun b o e => hsb.extBut b o (Nat.ne_of_lt (Heap.lt_size e)) (Heap.get?_push_of_some _ e)
  obtain ⟨a, vs', ta, t, hvs, ha, hta, ht, hq⟩ := hbody A outer s H vs Q E (hr.deeper _) hsp
  obtain ⟨cl, cld, csl, hcell⟩ := T.cell
  have hbc : base.get? cc = some ⟨cl, cld, .cell (some (.ref C)), csl⟩ := e0.mod.kin _ _ hcell
  have hlook : ∀ {y : Str} {c : Addr}, F.cl.lookup y = some c → y = "__class__" ∧ c = cc := fun {y c} e => by
    rw [hcl] at e
    by_cases hy : y = "__class__"
    · subst hy
      rw [show List.lookup ("__class__" : Str) [(("__class__" : Str), cc)] = some cc by simp [List.lookup]] at e
      exact ⟨rfl, (Option.some.inj e).symm⟩
    · have hb : (y == ("__class__" : Str)) = false := by simpa using hy
      rw [show List.lookup y [(("__class__" : Str), cc)] = none by simp [List.lookup, hb]] at e
      cases e
  have hlk : F.cl.lookup ("__class__" : Str) = some cc := by rw [hcl]; simp [List.lookup]
  have CA : CellsAt F.cl ["__class__"] [none] s.heap H := {
    len := rfl
    all := fun y c e => by
      obtain ⟨_, rfl⟩ := hlook e
      exact ⟨(e0.bs _ _ hbc).2, _, ⟨_, (e0.bs _ _ hbc).1, rfl⟩⟩
    inj := fun x y c e1 e2 => (hlook e1).1.trans (hlook e2).1.symm
    has := fun i y e => by
      match i, e with
      | 0, e =>
        have ey : ("__class__" : Str) = y := Option.some.inj e
        subst ey
        exact ⟨cc, hlk, fun v hv => by simp at hv⟩ }
  have I : Inv (ncx CX P w K mg base N F f A outer s H E) [] (startF N vs [none]) H { s with heap := h₁, toks := s.toks + (ps.zip us).length } := inv_startN S hr.hd e0 hl r CA hns kp
  have kI : K.In h₁ := KX.keeps kp
  have hN0 : N[0]? = some p := by
    have q := S.pre
    rw [hps] at q
    have z : (N.take ((p :: ps').length + 1))[0]? = some p := by
      have z := congrArg (fun l : List Str => l[0]?) q
      exact z
    rw [List.getElem?_take_of_lt (by simp)] at z
    exact z
  have hs0 : (startF N vs [none])[0]? = some (some (.ref a)) := by rw [hvs]; rfl
  have hploc : F.scope.names.lookup p = some .local := S.par p (by rw [hps]; exact List.mem_cons_self)
  obtain ⟨m, hnm, hlm⟩ := id I.loc
  obtain ⟨u0, ru0, hu0⟩ := hlm 0 p (.ref a) hN0 hs0 (.inl hploc)
  have eu0 : u0 = Value.ref a := ru0
  subst eu0
  have hself : m p = some (.ref a) := by
    rcases hu0 with ⟨_, z⟩ | ⟨z, _⟩
    · exact z
    · have z' : F.scope.names.lookup p = some .cell ∨ F.scope.names.lookup p = some .free := z
      rw [hploc] at z'
      rcases z' with z' | z' <;> cases z'
  obtain ⟨occ, cdd, cvs, csl2, file, tf, hcode, hvs2, hfile⟩ := T.code
  obtain ⟨cdD, hcdD⟩ := T.cd
  have hD : ∃ oD, h₁.get? C = some oD ∧ oD.data = .cls cdD := by
    have hD := hcdD
    unfold PySem.W.clsIn at hD
    split at hD
    · rename_i c d cd' sl ho
      cases hD
      exact ⟨_, kI _ _ ho, rfl⟩
    · cases hD
  obtain ⟨oD, hD1, hD2⟩ := hD
  obtain ⟨nm, q, N', bs, bm, sn, sub, ab, col, dd, k0, k1, k2, k3, k5, hC, hbm⟩ := T.T.cls
  obtain ⟨ar, har1, har2⟩ := hpar
  have hkc : F.scope.names.lookup ("__class__" : Str) = some .free := S.frk _ (by simp)
  obtain ⟨mb, hb1, hb2⟩ := I.mod.blt
  rw [hbd]
  obtain ⟨pl, he⟩ := hev s.heap.objs.size
  refine PySem.ks_wpAt_execs_cons (PySem.ks_wpAt_Expr_any (PySem.ks_wpAt_MethodCall (pl := pl) (PySem.ks_wpAt_super_base (fd := F.fd doc pm ctv) hsu hkc (by decide) rfl (kI _ _ lk) rfl har1 rfl (kI _ _ hcode) rfl hvs2 hfile T.top ?_) he) I.quiet (hsw _))
  -- the names
  refine PySem.W.ks_loadName_global S.kind hsu (Calls.loadGlobal_builtin (by exact I.mod.glob.keeps I.bk) T.zs (by exact hb1.keeps I.bk) ((hb2 _ (by decide)).trans (by decide +kernel)) ⟨rfl, ?_⟩)
  refine wpAny_loadName_free S.kind hkc hlk ⟨_, kI _ _ hcell, rfl⟩ ?_
  refine wpAny_loadName_local S.kind (by rw [har2]; exact hploc) hnm (by rw [har2]; exact hself) ?_
  refine PySem.ks_wpAny_isType_cls hD1 hD2 ⟨rfl, ?_⟩
  obtain ⟨t1, hox⟩ := exo_at I.hok ha
  refine PySem.ks_wpAny_call_super hD1 hD2 hox rfl (fun c e => by cases e) (PySem.W.looks_mroIn kI T.sub) (fun h' hso k' => ?_)
  have I2 : Inv (ncx CX P w K mg base N F f A outer s H E) [] (startF N vs [none]) H { s with heap := h', toks := s.toks + (ps.zip us).length } := I.kept (t' := s.toks + (ps.zip us).length) k'
  have kI2 : K.In h' := kI.keeps k'
  have hox2 : h'.get? a = some ({ cls := .ref C, dict := none, data := .fields #[.ref t1, .none, .none, .none, .bool false, .none] } : Obj) := k' _ _ hox
  have IA : PySem.W.InstAt h' a ({ cls := .ref C, dict := none, data := .fields #[.ref t1, .none, .none, .none, .bool false, .none] } : Obj) C none := ⟨hox2, rfl, rfl, trivial⟩
  have hal : PySem.W.alongIn K "__init__" ((cdD.mro.dropWhile (· != .ref C)).drop 1) = some (some (.builtin "ValueError.__init__")) := by
    have z := T.sup
    unfold PySem.W.ks_superIn at z
    rw [hcdD] at z
    exact z
  refine PySem.W.kxs_getMethod PySem.W.kxs_ValueError hso (PySem.W.looks_opaque kI2 T.any) (l₀ := cdD.mro) (fun A Q E s k q => wpAny_bind ((PySem.W.looks_clsIn kI2 hcdD) A _ E s k (wpAny_pure q))) rfl kI2 hal (IA.type.andThen (PySem.W.looks_subIn kI2 T.subV)) (PySem.W.ks_ne kI2 IA hcdD) (by decide) ?_
  -- the bound __init__ at u
  have ku : ∀ b o, h'.get? b = some o → (h'.push (PySem.W.kxs_mw "ValueError.__init__" a)).get? b = some o := fun b o e => Heap.get?_push_of_some _ e
  have I3 : Inv (ncx CX P w K mg base N F f A outer s H E) [] (startF N vs [none]) H { s with heap := h'.push (PySem.W.kxs_mw "ValueError.__init__" a), toks := s.toks + (ps.zip us).length + 1 } := I2.kept (t' := s.toks + (ps.zip us).length + 1) ku
  have hu : (h'.push (PySem.W.kxs_mw "ValueError.__init__" a)).get? h'.objs.size = some (PySem.W.kxs_mw "ValueError.__init__" a) := Heap.get?_push_at rfl rfl
  have I4 : Inv (ncx CX P w K mg base N F f A outer s H E) [(h'.objs.size, PySem.W.kxs_mw "ValueError.__init__" a)] (startF N vs [none]) H { s with heap := h'.push (PySem.W.kxs_mw "ValueError.__init__" a), toks := s.toks + (ps.zip us).length + 1 } := I3.pins_of fun p hp => by
    have hp1 := List.mem_singleton.mp hp
    subst hp1
    exact ⟨hu, I2.hok.fresh (Nat.le_refl _), fun z => absurd (z ▸ I2.lt) (Nat.lt_irrefl _), I2.nofs (Nat.le_refl _), fun v z => by cases z⟩
  refine callW (i := "ValueError.__init__") (x := a) (hst _) ?_
  refine thn (hta.run p3 _ _ _ H _ I4 hq) fun ws' s5 ⟨ws, H5, I5, r5, hlen, ha5, ht5⟩ => ?_
  have hu5 : s5.heap.get? h'.objs.size = some (PySem.W.kxs_mw "ValueError.__init__" a) := (I5.pin _ (List.mem_append_right _ (List.mem_singleton.mpr rfl))).1
  refine ⟨hu5, ?_⟩
  obtain ⟨t5, hox5⟩ := exo_at I5.hok ha5
  have hws : ws'.length ≤ sizeLine := by
    rw [← Paired.length r5, sizeLine_eq]
    omega
  have I6 : Inv (ncx CX P w K mg base N F f A outer s H E) [] (startF N vs [none]) H5 s5 := I5.pins_of fun p hp => absurd hp (by simp)
  obtain ⟨h5, g5, d5, k5', os5⟩ := s5
  have hC5 := I5.kIn _ _ hC
  show wpAny _ _ (call (.ref h'.objs.size) ws') _ _ _
  refine wpAny_call (codeAny_of_tree ?_)
  show wpAny _ _ (callAny (.ref h'.objs.size) ⟨ws', []⟩) _ _ _
  simp only [callAny]
  refine wpAny_bind (wpAny_load hu5 ?_)
  simp only [PySem.W.kxs_mw, show (Value.type "method-wrapper" == Value.type "method" || Value.type "method-wrapper" == Value.type "builtin_function_or_method" || Value.type "method-wrapper" == Value.type "method-wrapper") = true by decide, if_true]
  refine PySem.W.KFB.if_so (by decide) ?_
  refine wpAny_bind (PySem.W.check_bound_init PySem.F.excBase_ValueError.toExcCallFacts hC5 hox5 rfl ?_)
  refine wpAny_bind (wpAny_pure (wpAny_pure ?_))
  refine ⟨plainId_quiet PySem.F.excBase_ValueError.init.plain _, codeAny_builtin PySem.F.excBase_ValueError.initEntry ?_⟩
  refine PySem.W.exc_init_tree (cls := .ref C) (t0 := t5) (dv := none) (c2 := .none) (c3 := .none) (b4 := .bool false) hox5 hws (fun h6 k6 e6 _ => ?_)
  have J := I6.write (t' := k5') (x := a) (e := a) (o := exo a C none) (by rw [ha5]; exact True.intro) (.inl rfl) k6 ⟨_, e6⟩ (exo_ok e6)
  have eu : upd H5 a (exo a C none) = H5 := by
    funext b
    by_cases hb : b = a
    · rw [hb, upd_same, ha5]
    · rw [upd_ne hb]
  rw [eu] at J
  refine PySem.wpAt_of_wpAny (wpAny_mono (ht.run [] _ (startF N vs [none]) H5 _ J ht5) (fun fl s' hs => ?_) fun e s' hs => hs)
  have fin : ∀ {σ' : L2.St} {H' : Hp} {v : V} {u : Value}, Inv (ncx CX P w K mg base N F f A outer s H E) [] σ' H' s' → L2.RelV v u → Q v H' → CE outer P w H s Q u s' :=
    fun {σ' H' v u} J rv q => ⟨v, H', J.os, J.bare, J.base, J.hok, rv, q⟩
  cases fl with
  | ret u =>
    obtain ⟨v, σ', H', J, rv, q⟩ := hs
    exact fin J rv q
  | next =>
    obtain ⟨σ', H', J, q⟩ := hs
    exact fin (v := V.non) (u := Value.none) J rfl q
  | brk =>
    obtain ⟨_, _, _, q⟩ := hs
    exact False.elim q
  | cont =>
    obtain ⟨_, _, _, q⟩ := hs
    exact False.elim q
end
/-! ### an exception without fields, made -/
section
variable {X : Cx}
theorem mk_endN {pins : List (Addr × Obj)} {σ : L2.St} {H1 H2 : Hp} {Q : XK} {hp hp2 h2 : Heap} {g1 g2 : Array GenState} {d1 d2 : Drawn} {t1 t2 : Nat} {os1 os2 : OsState} {a C : Addr} (T : Raises X (.ref C)) (I1 : Inv X pins σ H1 ⟨hp, g1, d1, t1, os1⟩)
    (ha : hp.objs.size ≤ a) (k : ∀ b o, hp.get? b = some o → hp2.get? b = some o) (un : Un (frs X.stack) [] (upd H1 a (exo a C none)) H2 hp2 h2) (hok : HOk X.prog X.w H2 h2) (ho : os2 = os1) (hb : AllBare g2)
    (ea : H2 a = some (exo a C none)) (q : Q (.ref C) none (del H2 a)) : MkP X pins σ Q (.ref a) ⟨h2, g2, d2, t2, os2⟩ := by
  obtain ⟨t0, hoe⟩ := exo_at hok ea
  have hn : H1 a = none := I1.hok.fresh ha
  obtain ⟨G, g1', g2'⟩ := restrict h2 fun b => decide (b ≠ a)
  have gk : ∀ b, b ≠ a → G.get? b = h2.get? b := fun b hb => g1' b (decide_eq_true hb)
  have ge : G.get? a = none := g2' a (by simp)
  have nha : ∀ {b : Addr} {o : Obj}, hp.get? b = some o → b ≠ a := fun {b o} z => Nat.ne_of_lt (Nat.lt_of_lt_of_le (Heap.lt_size z) ha)
  have up : ∀ {b : Addr}, b ≠ a → H1 b = none → upd H1 a (exo a C none) b = none := fun {b} hb n => by rw [upd_ne hb]; exact n
  have U : Un (frs X.stack) [] H1 (del H2 a) hp G := {
    keep := fun b o z n hf hx => by
      rw [gk b (nha z)]
      exact un.keep b o (k b o z) (up (nha z) n) hf hx
    slot := fun b o z n hf hx => by
      rw [gk b (nha z)]
      exact un.slot b o (k b o z) (up (nha z) n) hf hx
    free := fun b o z n hx => by
      rw [del_ne (nha z)]
      exact un.free b o (k b o z) (up (nha z) n) hx
    there := fun b o z hx => by
      rw [gk b (nha z)]
      exact un.there b o (k b o z) hx
    tups := fun b xs z => by
      rw [del_ne (ne_of_none z hn)]
      exact un.tups b xs (by rw [upd_ne (ne_of_none z hn)]; exact z)
    frzs := fun b o v z => by
      rw [del_ne (ne_of_none z hn)]
      exact un.frzs b o v (by rw [upd_ne (ne_of_none z hn)]; exact z)
    tbls := fun b ps z => by
      rw [del_ne (ne_of_none z hn)]
      exact un.tbls b ps (by rw [upd_ne (ne_of_none z hn)]; exact z) }
  have hok3 : HOk X.prog X.w (del H2 a) G := fun b o z => by
    have hba : b ≠ a := fun e => by
      rw [e, del_same] at z
      cases z
    rw [del_ne hba] at z
    have noa : ∀ {c : Addr}, H2 c = some (.own b) → c ≠ a := fun {c} hc => at_ne ea hc exo_own
    exact (hok b o z).stay (fun c v hc y => by
        have hca : c ≠ a := by
          rcases hc with hc | hc
          · rw [hc]
            exact hba
          · exact noa hc
        rw [gk c hca]
        exact y)
      (fun c hc => by rw [del_ne (noa hc)]; exact hc) (fun c xs hc => by rw [del_ne (at_ne ea hc exo_tup)]; exact hc)
  have J : Inv X pins σ (del H2 a) ⟨G, g2, d2, t2, os2⟩ := I1.call' (ch := []) ho U hok3 hb (fun b z => absurd z (by simp))
  refine ⟨a, _, _, ⟨G, g2, d2, t2, os2⟩, _, .ref C, none, rfl, J, fun b o z => ?_, ge, hoe, ⟨rfl, rfl⟩, rfl, rfl, del_same, rfl, hb, T, q⟩
  by_cases hba : b = a
  · rw [hba, ge] at z
    cases z
  · exact (gk b hba).symm.trans z
/-- C(), C's own __init__ keeping sp and making no field -/
def tMkN (C : Addr) (sp : Sp) : L2.St → Hp → XK → Prop := fun _ H Q => ∀ a, H a = none → sp [.ref a] (upd H a (exo a C none)) (fun v H2 => v = .non ∧ H2 a = some (exo a C none) ∧ Q (.ref C) none (del H2 a)) (fun _ _ _ => False)
theorem pmk_oexN {CX : CXT} {x : Str} {C fI : Addr} {k : Nat} {fd : FuncData} {ps : List Str} {sp : Sp} {p pos : Pos} (T : OexC X.K C) (iC : PySem.W.findIn X.K (.ref C) "__init__" = some (some (.ref fI))) (tI : PySem.W.typeIn X.K (.ref fI) = some (.type "function"))
    (F1 : FnOk X.prog X.w X.K X.mg X.base CX k fI fd ps sp) (hr : Room (k + 1) X.A) (hb : Binds X.K fd ps []) (hx : Passes CX X (fun _ _ _ => False)) (hg : Gl X x) (hm : X.mg x = some (.ref C))
    (hdb : (x == ("__debug__" : Str)) = false := by decide) : PMk X (.Call (.Name x p) [] [] pos) (tMkN C sp) := by
  intro pins s σ H1 Q I1 q1
  obtain ⟨nm, q, N, bs, bm, sn, sub, ab, col, dd, k0, k1, k2, k3, k5, hC, hbm⟩ := T.cls
  refine wpAny_Call_Name_kw (ld_glob I1 hg hm ?_ hdb)
  refine PySem.W.callWith_K0 I1.kIn T.kC ?_
  show wpAny _ _ (call (.ref C) []) _ _ _
  obtain ⟨hp, g, dr, tk, os⟩ := s
  have hsz : hp.objs.size ≤ hp.objs.size + 1 := Nat.le_succ _
  have hn : H1 (hp.objs.size + 1) = none := I1.hok.fresh hsz
  have hq := q1 (hp.objs.size + 1) hn
  have kk : ∀ b o, hp.get? b = some o → ((hp.push (PySem.W.kdv_tup [])).push (PySem.HandSPX.excO C hp.objs.size)).get? b = some o := fun b o e => Heap.get?_push_of_some _ (Heap.get?_push_of_some _ e)
  have hget : ((hp.push (PySem.W.kdv_tup [])).push (PySem.HandSPX.excO C hp.objs.size)).get? (hp.objs.size + 1) = some (PySem.HandSPX.excO C hp.objs.size) := by heap_get
  have I2 : Inv X pins σ (upd H1 (hp.objs.size + 1) (exo (hp.objs.size + 1) C none)) ⟨(hp.push (PySem.W.kdv_tup [])).push (PySem.HandSPX.excO C hp.objs.size), g, dr, tk, os⟩ :=
    I1.laid (t' := tk) (a := hp.objs.size + 1) (o := exo (hp.objs.size + 1) C none) (h' := (hp.push (PySem.W.kdv_tup [])).push (PySem.HandSPX.excO C hp.objs.size)) kk hsz (exo_ok hget)
  have r2 : Vals [V.ref (hp.objs.size + 1)] [Value.ref (hp.objs.size + 1)] := .cons rfl .nil
  have hl : ([Value.ref (hp.objs.size + 1)] ++ []).length = ps.length := by
    have e := r2.length
    rw [F1.len _ _ _ _ hq] at e
    exact e.symm
  refine wpAny_call (PySem.HandSPX.call_own PySem.F.excBase_ValueError (fun Y => PySem.HandSPX.refsVE_contains Y bm hbm) (I1.kIn _ _ hC) (PySem.W.looks_findIn I1.kIn iC) (fun self => PySem.W.bind_fn I1.kIn self tI) (Nat.zero_le _)
    (codeAny_mono (F1.run _ X.stack _ _ ⟨[Value.ref (hp.objs.size + 1)], []⟩ [Value.ref (hp.objs.size + 1)] _ _ (fun _ _ _ => False) (hr.make C [] []) (I2.env0.make C [] []) (hb _ [Value.ref (hp.objs.size + 1)] I2.kIn hl) r2 hq) fun r s' hq' => ?_))
  cases r with
  | error er => exact hx pins σ _ _ er s' I2 hq'
  | ok fl =>
    cases fl with
    | ret u =>
      obtain ⟨v, H2, os2, bare2, un2, hok2, rv, ev, ea, q2⟩ := hq'
      subst ev
      obtain ⟨h2, g2, d2, t2, os'⟩ := s'
      exact ⟨rv, mk_endN (raises_own T.exC T.tyC) I1 hsz kk un2 hok2 os2 bare2 ea q2⟩
    | next => exact False.elim hq'
    | brk => exact False.elim hq'
    | cont => exact False.elim hq'
end
/-! ### a call of a local name that holds a def, which may raise -/
section
variable {X : Cx} {CX : CXT} {k i : Nat} {f : Addr} {fd : FuncData} {ps : List Str} {sp : Sp} {E : L2.St → XK} {x : Str} {p pos : Pos} {e : Expr} {es : List Expr} {t : TA}
def tCallLS (i : Nat) (f : Addr) (sp : Sp) (E : L2.St → XK) (t : TA) : TE := fun σ H Q => σ[i]? = some (some (.ref f)) ∧ t σ H fun vs H1 => sp vs H1 Q (E σ)
theorem pe_callLS (F : FnOk X.prog X.w X.K X.mg X.base CX k f fd ps sp) (hr : Room k X.A) (hN : X.N[i]? = some x) (hv : Vis X.env.scope x) (hk : PySem.W.keepIn X.K (.ref f) = true) (hb : Binds X.K fd ps []) (hx : ∀ σ, PassesAt CX X σ (E σ)) (ha : PA X (e :: es) t)
    (hdb : (x == ("__debug__" : Str)) = false := by decide) (hcd : (x == ("__classdict__" : Str)) = false := by decide)
    (he : starEach (e :: es) X.env = (false, eval e X.env) :: starEach es X.env := by rfl) (hpl : (backTo pos (starEach es X.env)).any (·.1) = false := by rfl) : PE X (.Call (.Name x p) (e :: es) [] pos) (tCallLS i f sp E t) := by
  refine ⟨fun pins s σ H Q I h => ?_⟩
  obtain ⟨hs, ht⟩ := h
  refine wpAny_Call_Name_kw (thn ((pe_var (pos := p) hN hv hdb hcd).run pins s σ H (fun v H1 => v = .ref f ∧ H1 = H) I ⟨.ref f, hs, rfl, rfl⟩) fun u s1 ⟨v, H1, I1, r1, q1⟩ => ?_)
  obtain ⟨rfl, rfl⟩ := q1
  cases r1
  refine PySem.W.callWith_K (h₀ := X.base) I.ok.mod.kin hk (thn (ha.run pos pins s1 σ _ _ I1 ht) fun us s2 ⟨vs, H2, I2, r, q⟩ => ⟨I2.kIn, ?_⟩) he hpl
  exact run_fnS F hr hb (hx σ) I2 r q
end
/-! ### isinstance of a caught error of an own class without fields -/
def rIsX (K : PySem.W.Frag) (a : Addr) (cls : Value) (d : Option Addr) : List V → Hp → VK → Prop := fun xs H Q => ∃ (D : Addr) (c : V) (cv : Value) (b : Bool), cls = .ref D ∧ d = none ∧ ExcC K D ∧ xs = [.ref a, c] ∧ (∀ u, L2.RelV c u → u = cv) ∧ PySem.W.kitOne K (.ref D) cv = some b ∧ Q (.bl b) H
theorem call_isX {X : Cx} {a : Addr} {oe : Obj} {cls : Value} {d : Option Addr} {pn : List (Addr × Obj)} (hz : Zc cls d oe) (hf : ∃ vs, oe.data = .fields vs) : CallR (X.suite a ((a, oe) :: pn)) (.builtin "isinstance") (rIsX X.K a cls d) := by
  intro pins s σ H xs us Q I r h
  obtain ⟨D, c, cv, b, rfl, rfl, C, rfl, hc, e, q⟩ := h
  exact call_isE C hz hf pins s σ H [.ref a, c] us Q I r ⟨c, cv, b, rfl, hc, e, q⟩
/-! ### what a law's text says of an own exception -/
/-- ExcT C f c cc: the class at C over SamphireError .. over ValueError, with its own __init__ at f -/
structure ExcT (P : Program) (K : PySem.W.Frag) (mg : Str → Option Value) (name : Str) (C f c cc : Addr) : Prop where
  S : SupC P K mg C f c cc
  g : mg name = some (.ref C)
  iC : PySem.W.findIn K (.ref C) "__init__" = some (some (.ref f))
  tI : PySem.W.typeIn K (.ref f) = some (.type "function")
  is : ExcC K C
  te : PySem.W.exmOne K (.ref C) (.ref C) = some true
theorem ExcT.xf {P : Program} {K : PySem.W.Frag} {mg : Str → Option Value} {name : Str} {C f c cc : Addr} (T : ExcT P K mg name C f c cc) : XfC K C := ⟨T.is.hg, T.is.hk, T.is.hs, T.is.hd⟩
/-- the file that a code object tells -/
def flIs (cvs : List Value) (f : Str) : Bool := match cvs with | _ :: _ :: .str file _ :: _ => f == file | _ => false
/-- what k_is finds, put together -/
theorem excT_mk {P : Program} {K : PySem.W.Frag} {mg : Str → Option Value} {name : Str} {C f c cc : Addr} {nm q : Str} {N : Addr} {bs bm : List Value} {sn : List Str} {sub : List Value} {ab : Bool} {col : Option Bool} {dd : Option Addr} {m0 m1 m2 m3 m5 : Option Value}
    {occ : Value} {cdd : Option Addr} {cvs : List Value} {csl : Array (Option Value)} {ccl : Value} {ccd : Option Addr} {ccs : Array (Option Value)}
    (xL : K.lookup C = some (excClassObj nm q C N bs bm true sn sub ab col dd m0 m1 m2 m3 m5 "ValueError.__new__")) (rv : PySem.HandSPX.refsVE bm = true)
    (sa : PySem.W.findIn K (.ref C) "__setattr__" = some (some (.builtin "object.__setattr__"))) (sB : PySem.W.subIn K (.ref C) (.type "BaseException") = some true) (tC : PySem.W.typeIn K (.ref C) = some (.type "type")) (kC : PySem.W.keepIn K (.ref C) = true)
    (code : K.lookup c = some ⟨occ, cdd, .fields cvs.toArray, csl⟩) (hfile : flIs cvs P.main.file = true)
    (cell : K.lookup cc = some ⟨ccl, ccd, .cell (some (.ref C)), ccs⟩) (mro : PySem.W.mroIn K C (.ref C) = some true) (sV : PySem.W.subIn K (.ref C) (.type "ValueError") = some true) (zs : mg "super" = none)
    (any : PySem.W.nsIn K PySem.cStatics "thirdparty.any" = some none) (sup : PySem.W.ks_superIn K C C "__init__" = some (some (.builtin "ValueError.__init__"))) (top : (P.main.scope.names.lookup ("super" : Str)).isSome = false)
    (g : mg name = some (.ref C)) (iC : PySem.W.findIn K (.ref C) "__init__" = some (some (.ref f))) (tI : PySem.W.typeIn K (.ref f) = some (.type "function")) (is : ExcC K C) (isc : PySem.W.isClsIn K C = true) (sC : PySem.W.subIn K (.ref C) (.ref C) = some true) : ExcT P K mg name C f c cc where
  S := {
    T := ⟨⟨nm, q, N, bs, bm, sn, sub, ab, col, dd, m0, m1, m2, m3, m5, xL, rv⟩, sa, sB, tC, kC⟩
    cd := ⟨_, by unfold PySem.W.clsIn; rw [xL] <;> rfl⟩
    code := by
      match cvs, code, hfile with
      | a :: b :: .str file tf :: r, code, hfile => exact ⟨_, _, _, _, file, tf, code, rfl, hfile⟩
    cell := ⟨_, _, _, cell⟩
    sub := mro
    subV := sV
    zs := zs
    any := any
    sup := sup
    top := top }
  g := g
  iC := iC
  tI := tI
  is := is
  te := PySem.W.exm_ref sB is.hd tC sC
end Sup

/-! ### list(reversed(a list)) -/
namespace RL
open PySem PySem.Spec PyProof.Rows RT L2
section
variable {prog : Program} {w : World} {A : Around} {E : Value → Shared → Prop} {s : Shared}
theorem extend_rev {R : Result → Shared → Prop} {S it l : Addr} {items : Array Value} {res : Value} {c₀ : Nat} (hh : A.handled = none) (hit : s.heap.IsRevIter it l ((items.size : Int) - 1)) (hl : s.heap.IsList l items) (hne : l ≠ it) (hSi : S ≠ it) (hSl : S ≠ l) (hn : items.size ≤ sizeLine)
    (hS : s.heap.get? S = some { cls := .type "list", data := .seq #[] c₀ })
    (hR : ∀ s' acc' c', Moved (S :: [it]) (fun a b => b = a) s s' → s'.heap.get? S = some { cls := .type "list", dict := none, data := .seq acc' c', slots := #[] } → ItemsOf (fun i v => items[items.size - 1 - i]? = some v) acc' items.size → R (.ok (.ret res)) s') :
    wpAny (model prog w) A.in1 (Builtin.List.listExtendWith (.ref S) (.ref it) res)
      (fun fin s' => match fin with | .done f => R (.ok f) s' | .again c' => c'.quiet = true ∧ codeAny (model prog w) A c' R s') (fun e s' => R (.error e) s') s := by
  have W := (Walks.listRev (prog := prog) (w := w) (A := A.in1) hh it l hne items).toS
  have hSf : S ∉ [it, l] := by simp only [List.mem_cons, List.not_mem_nil, or_false, not_or]; exact ⟨hSi, hSl⟩
  have hT : s.TypeIs (.ref it) "list_reverseiterator" := Heap.IsRevIter.typeIs hit
  have h1 : Builtin.List.listSameRef (.ref S) (.ref it) = false := by simp [Builtin.List.listSameRef, hSi]
  unfold Builtin.List.listExtendWith
  refine wpAny_bind (wpAny_typeOf hT ?_)
  rw [if_neg (by rw [h1]; decide)]
  refine wpAny_bind (wpAny_pyIter_revIter hit ?_)
  refine wpAny_bind (wpAny_holding ?_)
  unfold Builtin.List.listLengthHint
  refine wpAny_bind (wpAny_specialOf hT nolen_lri ?_)
  show wpAny _ A.in1 (specialOf (Value.ref it) (Str.ofString "__length_hint__") >>= _) _ _ _
  refine wpAny_bind (wpAny_specialOf hT hint_lri ?_)
  generalize hid : ("list_reverseiterator.__length_hint__" : String) = id0
  wp_delta
  rw [show splitId id0 = some ("list_reverseiterator", "__length_hint__") from by subst hid; decide +kernel]
  subst hid
  refine wpAny_bind (wpAny_isInstance (b := true) hT (by rw [isSubtype_type]; kernel_rfl) ?_)
  refine wpAny_pure ?_
  rw [if_neg (by decide)]
  have e0 : ((items.size : Nat) : Int) - 1 - ((0 : Nat) : Int) = (items.size : Int) - 1 := by omega
  refine wpAny_pure ⟨plainId_quiet F.plain_extend_loop _, codeAny_extend_loopS W hn _ hSf _ items.size 0 _ _ _ rfl (Nat.zero_le _) ⟨Nat.zero_le _, by rw [e0]; exact hit, hl⟩ hS (ItemsOf.nil _) fun s' acc' c' hm hS' hacc => ?_⟩
  exact hR s' acc' c' hm hS' hacc
theorem init_rev {R : Result → Shared → Prop} {S it l : Addr} {items : Array Value} (hh : A.handled = none) (hit : s.heap.IsRevIter it l ((items.size : Int) - 1)) (hl : s.heap.IsList l items) (hne : l ≠ it) (hSi : S ≠ it) (hSl : S ≠ l) (hn : items.size ≤ sizeLine)
    (hS : s.heap.get? S = some { cls := .type "list", data := .seq #[] })
    (hR : ∀ (h' : Heap) (tk : Nat) (acc : Array Value) (c' : Nat), (∀ b o, b ≠ S → b ≠ it → s.heap.get? b = some o → h'.get? b = some o) → h'.get? S = some { cls := .type "list", dict := none, data := .seq acc c', slots := #[] } → ItemsOf (fun i v => items[items.size - 1 - i]? = some v) acc items.size → R (.ok (.ret .none)) { s with heap := h', toks := tk }) :
    wpAny (model prog w) A.in1 (Builtin.«list.__init__» ⟨[.ref S, .ref it], []⟩)
      (fun fin s' => match fin with | .done f => R (.ok f) s' | .again c' => c'.quiet = true ∧ codeAny (model prog w) A c' R s') (fun e s' => R (.error e) s') s := by
  show wpAny _ A.in1 (do let old ← Builtin.List.listItems (.ref S); Builtin.List.listUpdate (.ref S) (fun _ => #[]); letGo old.toList.reverse; Builtin.List.listExtendWith (.ref S) (.ref it) .none) _ _ s
  refine wpAny_bind ?_
  unfold Builtin.List.listItems
  refine wpAny_bind (wpAny_seqItems hS rfl (wpAny_pure ?_))
  show wpAny _ A.in1 (updateSeq S (fun _ => #[]) >>= fun _ => letGo (#[] : Array Value).toList.reverse >>= fun _ => Builtin.List.listExtendWith (.ref S) (.ref it) .none) _ _ s
  refine wpAny_bind (wpAny_updateSeq hS rfl ?_)
  have hS₂ := Heap.get?_update_self (Obj.mapSeq (fun _ => (#[] : Array Value))) hS rfl
  have oth : ∀ b o, b ≠ S → s.heap.get? b = some o → (s.heap.update S (Obj.mapSeq (fun _ => (#[] : Array Value)))).get? b = some o :=
    fun b o hb e => (Heap.get?_update_other _ _ (Ne.symm hb)).trans e
  refine wpAny_bind (wpAny_letGo ?_)
  refine extend_rev (s := { s with heap := s.heap.update S (Obj.mapSeq (fun _ => (#[] : Array Value))) }) hh (hit.at fun o e => oth it o hSi.symm e) (by obtain ⟨o, ho, x⟩ := hl; exact ⟨o, oth l o hSl.symm ho, x⟩) hne hSi hSl hn hS₂ fun s' acc' c' hm hS' hacc => ?_
  rw [Moved.eq_with hm]
  exact hR s'.heap s'.toks acc' c' (fun b o hb hb2 e => hm.heap b o (by simp [hb, hb2]) (oth b o hb e)) hS' hacc
theorem call_list_rev {it l : Addr} {items : Array Value} {Q : Value → Shared → Prop} (hh : A.handled = none) (hit : s.heap.IsRevIter it l ((items.size : Int) - 1)) (hl : s.heap.IsList l items) (hne : l ≠ it) (hn : items.size ≤ sizeLine)
    (hQ : ∀ (h' : Heap) (tk : Nat) (acc : Array Value) (c' : Nat), (∀ b o, b ≠ it → s.heap.get? b = some o → h'.get? b = some o) → h'.get? s.heap.objs.size = some { cls := .type "list", dict := none, data := .seq acc c', slots := #[] } → ItemsOf (fun i v => items[items.size - 1 - i]? = some v) acc items.size → Q (.ref s.heap.objs.size) { s with heap := h', toks := tk }) :
    wpAny (model prog w) A (call (.type "list") [.ref it]) Q E s := by
  refine callType_codes (Q₁ := fun obj s₁ => obj = .ref s.heap.objs.size ∧ s₁ = { s with heap := s.heap.push { cls := .type "list", data := .seq #[] } }) F.called_list (F.typeCall_list_1 _) F.entry_list_init
    (code_list_new _ ⟨rfl, rfl⟩) fun obj s₁ h₁ => ?_
  obtain ⟨rfl, rfl⟩ := h₁
  have hS : (s.heap.push { cls := .type "list", data := .seq #[] }).get? s.heap.objs.size = some { cls := .type "list", data := .seq #[] } := Heap.get?_push_size _ rfl
  obtain ⟨oi, hoi, _⟩ := id hit
  obtain ⟨ol, hol, _⟩ := id hl
  refine ⟨⟨_, hS, rfl⟩, F.args_list_init_2 _ _, init_rev (A := A.in1) (s := { s with heap := s.heap.push { cls := .type "list", data := .seq #[] } }) hh (hit.at fun o e => Heap.get?_push_of_some _ e) (hl.push _) hne (Nat.ne_of_gt (Heap.lt_size hoi)) (Nat.ne_of_gt (Heap.lt_size hol)) hn hS fun h' tk acc c' hk hS' hacc => ?_⟩
  exact ⟨rfl, hQ h' tk acc c' (fun b o hb e => hk b o (Nat.ne_of_lt (Heap.lt_size e)) hb (Heap.get?_push_of_some _ e)) hS' hacc⟩
end
section
variable {X : Cx}
/-- list(reversed(xs)): a new list -/
def tListRev (K : PySem.W.Frag) (te : TE) : TE := fun σ H Q => te σ H fun x H1 => ∃ a xs, x = .ref a ∧ SqL K H1 a xs ∧ ∀ p, H1 p = none → Q (.ref p) (upd H1 p (.lst xs.reverse))
theorem pe_listRev {e : Expr} {te : TE} {p p2 pos pos2 : Pos} (hc : X.calm = true) (hg : Gl X "list") (hm : X.mg "list" = none) (hg2 : Gl X "reversed") (hm2 : X.mg "reversed" = none) (he : PE X e te)
    (hs : starEach [e] X.env = (false, eval e X.env) :: starEach [] X.env := by rfl)
    (hs2 : starEach [.Call (.Name "reversed" p2) [e] [] pos2] X.env = (false, eval (.Call (.Name "reversed" p2) [e] [] pos2) X.env) :: starEach [] X.env := by rfl) :
    PE X (.Call (.Name "list" p) [.Call (.Name "reversed" p2) [e] [] pos2] [] pos) (tListRev X.K te) := by
  refine ⟨fun pins s σ H Q I h => ?_⟩
  refine Call_ (ld_blt I hg hm boot_list (PyProof.Rows.callWith_type1 (args_cons (Call_ (ld_blt I hg2 hm2 PyProof.Rows.boot_reversed (PyProof.Rows.callWith_type1 (args_cons (thn (he.run pins s σ H _ I h) fun u s1 ⟨v, H1, I1, r1, q1⟩ => args_nil ?_) hs) hs rfl))) hs2) hs2 rfl))
  obtain ⟨a, xs, ev, hq, q⟩ := q1
  subst ev
  obtain rfl : u = Value.ref a := r1
  obtain ⟨its, rv, p', hz⟩ := I1.list hq
  refine call_reversed_list p'.isList (args_nil ?_)
  have k0 : ∀ b o, s1.heap.get? b = some o → (s1.heap.push (revObj a ((its.toArray.size : Int) - 1))).get? b = some o := fun b o e => Heap.get?_push_of_some _ e
  have hl := p'.isList
  obtain ⟨ol, hol, _⟩ := id hl
  have hne : a ≠ s1.heap.objs.size := Nat.ne_of_lt (Heap.lt_size hol)
  have hn : its.toArray.size ≤ sizeLine := by rw [List.size_toArray, ← rv.length]; exact hz
  refine call_list_rev (s := { s1 with heap := s1.heap.push (revObj a ((its.toArray.size : Int) - 1)) }) (I1.ok.hd hc) ⟨_, Heap.get?_push_size _ rfl, rfl, rfl⟩ (hl.push _) hne hn fun h' tk acc c' hk hS' hi => ?_
  have hle : s1.heap.objs.size ≤ (s1.heap.push (revObj a ((its.toArray.size : Int) - 1))).objs.size := by simp [Heap.push]
  have ea : acc.toList.toArray = acc := by simp
  exact ⟨.ref (s1.heap.push (revObj a ((its.toArray.size : Int) - 1))).objs.size, upd H1 (s1.heap.push (revObj a ((its.toArray.size : Int) - 1))).objs.size (.lst xs.reverse), I1.laid (t' := tk) (fun c o e => hk c o (Nat.ne_of_lt (Heap.lt_size e)) (k0 c o e)) hle (show ObjOk X.prog X.w _ _ _ (.lst xs.reverse) from ⟨by rw [List.length_reverse]; exact hz, acc.toList, c', vals_rev rv hi, by rw [ea]; exact hS'⟩), rfl, q _ (I1.hok.fresh hle)⟩
end
end RL
/-! ### xs.extend(a tuple) -/
namespace RL
open PySem PySem.Spec PyProof.Rows RT L2
theorem meets_extend_tup (l : Addr) (items : Array Value) (n : Nat) (b : Addr) (items2 : Array Value) (n2 : Nat) (o : Obj) (hc : o.cls = .type "tuple") (hd : o.data = .seq items2 n2) (hs1 : items.size + items2.size ≤ sizeLine) :
    Meets (Builtin.«list.extend» ⟨[.ref l, .ref b], []⟩) (fun _ R s => s.heap.get? l = some { cls := .type "list", dict := none, data := .seq items n, slots := #[] } ∧ s.heap.get? b = some o ∧ R (.ok (.ret Value.none)) { s with heap := s.heap.update l (Obj.mapSeq fun x => x ++ items2), toks := s.toks }) :=
  .of_wp fun prog w A R s h => by
    obtain ⟨hl, hb, h⟩ := h
    show wpAny _ _ (Builtin.List.listExtendWith (.ref l) (.ref b) .none) _ _ _
    unfold Builtin.List.listExtendWith
    refine wpAny_bind (wpAny_typeOf ⟨o, hb, hc⟩ ?_)
    have h1 : (Builtin.List.listSameRef (.ref l) (.ref b) || Value.type "tuple" == Value.type "list" || Value.type "tuple" == Value.type "tuple") = true := by simp
    simp only [h1, if_true]
    refine wpAny_bind ?_
    unfold Builtin.List.listItems
    refine wpAny_bind (wpAny_seqItems hb hd (wpAny_pure ?_))
    refine wpAny_bind ?_
    refine wpAny_bind (wpAny_seqItems hl rfl (wpAny_pure ?_))
    have hlong : ¬ (!items.isEmpty && Builtin.List.listTooLong (items.size + items2.size)) = true := by
      rw [notLongL hs1, Bool.and_false]
      exact Bool.false_ne_true
    rw [if_neg hlong]
    show wpAny _ _ (updateSeq l (· ++ items2) >>= fun _ => ret .none) _ _ s
    refine wpAny_bind (wpAny_updateSeq hl rfl (hz := by omega) (_hz' := by rw [Array.size_append]; omega) ?_)
    exact wpAny_pure ⟨_, rfl, h⟩
section
variable {X : Cx}
def rExtT : V → List V → Hp → VK → Prop := fun x vs H Q => ∃ l b xs zs, x = .ref l ∧ vs = [.ref b] ∧ H l = some (.lst xs) ∧ H b = some (.tup zs) ∧ xs.length + zs.length ≤ sizeLine ∧ Q .non (upd H l (.lst (xs ++ zs)))
theorem mt_extendT : MtM X "list.extend" rExtT := by
  intro pins s σ H x vs v us Q I rx rv h
  obtain ⟨l, b, xs, zs, rfl, rfl, hH, hB, hz, q⟩ := h
  cases rx
  obtain ⟨u, rfl, ru⟩ := rv.one
  cases ru
  obtain ⟨z, its, n, r, hl, e⟩ := I.lstM hH
  obtain ⟨its2, r2, ⟨o, ho, hc, n2, hd⟩, hz2⟩ := I.tuple (SqT.of hB)
  have hl2 := r2.length
  refine call_meets PySem.F.slot_list_extend ⟨_, e, rfl⟩ PySem.F.entry_list_extend (PySem.F.args_list_extend_2 _ _)
    (meets_extend_tup l its.toArray n b its2.toArray n2 o hc hd (by rw [List.size_toArray, List.size_toArray]; omega)) ⟨e, ho, ?_⟩
  refine ⟨.non, _, I.lset (its' := its ++ its2) hH e (by simp) (r.append r2) ?_, rfl, q⟩
  rw [List.length_append]
  omega
end
end RL
/-! ### enumerate(a list, start=k) -/
namespace RL
open PySem PySem.Spec PyProof.Rows L2
section
variable {M : Model} {A : Around} {E : Value → Shared → Prop} {s : Shared} {env : Env}
theorem callWith_type_kwB {pos : Pos} {T : String} {first : List Value} {args : List (Bool × Sem Value)} {keywords : List (Option Str × Sem Value)} {Q : Value → Shared → Prop}
    (hplain : args.any (·.1) = false) (hkw : keywords.any (·.1.isNone) = false)
    (h : wpAny M A (evalArgs (.type T) true args keywords) (fun a s₁ => wpAny M A (call (.type T) (first ++ a.pos) a.kw) Q E s₁) E s) :
    wpAny M A (callWith pos (.type T) first args keywords) Q E s := by
  unfold callWith
  refine wpAny_bind (wpAny_holding (wpAny_mono h (fun a s₁ h₁ => wpAny_bind (wpAny_standAt ?_)) fun _ _ x => x))
  simp only [hplain, hkw, Bool.or_false]
  refine wpAny_bind (wpAny_pure ?_)
  exact wpAny_bind (wpAny_mono h₁ (fun r s₂ hr => wpAny_bind (wpAny_holding (wpAny_point (wpAny_pure hr)))) fun _ _ x => x)
theorem callWith_type_kw {pos : Pos} {T : String} {e : Expr} {rest : List Expr} {kws : List Keyword} {Q : Value → Shared → Prop}
    (h : wpAny M A (spliced (backTo pos (starEach (e :: rest) env))) (fun vs s₁ => wpAny M A (evalAll ((backToKw pos (keywordEach kws env)).map (·.2)))
      (fun kvs s₂ => wpAny M A (call (.type T) vs (((backToKw pos (keywordEach kws env)).filterMap (·.1)).zip kvs)) Q E s₂) E s₁) E s)
    (he : backTo pos (starEach (e :: rest) env) = (false, eval e env) :: backTo pos (starEach rest env))
    (hplain : (backTo pos (starEach (e :: rest) env)).any (·.1) = false)
    (hall : (backToKw pos (keywordEach kws env)).all (·.1.isSome) = true)
    (hkw : (backToKw pos (keywordEach kws env)).any (·.1.isNone) = false) :
    wpAny M A (callWith pos (.type T) [] (backTo pos (starEach (e :: rest) env)) (backToKw pos (keywordEach kws env))) Q E s := by
  refine callWith_type_kwB hplain hkw ?_
  rw [he] at h ⊢
  exact evalArgs_kwB hall h
end
/-- the list at a as it stands at each turn, each item in a new pair, counted from k -/
def IteS (K : PySem.W.Frag) (a : Addr) (k : Int) : It :=
  ⟨fun i H => ∃ (xs : List V) (x : V), SqL K H a xs ∧ xs[i]? = some x, fun i H v H' => ∃ T x, v = .ref T ∧ H T = none ∧ H' = upd H T (.tup [.int (k + (i : Nat)), x]) ∧ ∀ xs, SqL K H a xs → xs[i]? = some x, fun i H => ∃ xs : List V, SqL K H a xs ∧ xs.length = i⟩
theorem turn_enumS {P : Program} {w : World} {K : PySem.W.Frag} {elts : List Expr} {kk : Nat} {tpos : Pos} (a e it : Addr) (k : Int) :
    Turn P w K (.Tuple elts kk tpos) (IteS K a k) [e, it] e (fun i h => (∃ old, IsEnum h e it (k + ((i : Nat) : Int)) old) ∧ h.IsListIter it a i ∧ e ≠ it ∧ e ≠ a ∧ a ≠ it) where
  mem := by simp
  obj := fun i h st b hb => by
    obtain ⟨⟨old, he⟩, ⟨o, ho, hc, hd⟩, _⟩ := st
    have e' : b = e ∨ b = it := by simpa using hb
    rcases e' with z | z
    · rw [z]; exact ⟨_, he, fun v q => nomatch q⟩
    · rw [z]; exact ⟨o, ho, fun v q => by rw [hd] at q; cases q⟩
  keep := fun i h h' st k => let ⟨⟨old, he⟩, hi, hne⟩ := st; ⟨⟨old, k e (by simp) _ he⟩, hi.at fun o q => k it (by simp) o q, hne⟩
  item := by
    intro X hP hw hK hc i pins s σ H E I hf st hg
    subst hP hw hK
    obtain ⟨⟨old, he⟩, hit, hne, hea, hai⟩ := st
    obtain ⟨xs, x, hq, hx⟩ := hg
    obtain ⟨its, rv, p, hz⟩ := I.list hq
    obtain ⟨u, hu, ru⟩ := rv.get hx
    have hel : e < s.heap.objs.size := Heap.lt_size he
    have hil : it < s.heap.objs.size := by obtain ⟨_, q, _⟩ := hit; exact Heap.lt_size q
    have D := Draws.list (prog := X.prog) (w := X.w) (A := X.A.in1) (I.ok.hd hc) it a hai its.toArray
    have hlt : i < its.toArray.size := by
      have := (List.getElem?_eq_some_iff.mp hu).1
      simpa using this
    refine wpAny_pyNext_enum_itemC D he ⟨hit, p.isList⟩ hlt hne (by simp [hne, hea]) fun u' h' tk hu' ho hst' hT hsz hk => ?_
    have euu : u' = u := by
      have z : its.toArray[i]? = some u := by simpa using hu
      rw [z] at hu'
      exact (Option.some.inj hu').symm
    subst euu
    refine ⟨_, rfl, wpAny_letOwnedTupleGo_enum (s := { s with heap := h', toks := tk + 1 }) ho fun h'' he' sb => ?_⟩
    have hT2 : h''.get? s.heap.objs.size = some { cls := .type "tuple", data := .seq #[.int (k + (i : Nat)) tk, u'] } := (sb.2 _ (Nat.ne_of_gt hel)).trans hT
    have new : ObjOk X.prog X.w (upd H s.heap.objs.size (.tup [.int (k + (i : Nat)), x])) h'' s.heap.objs.size (.tup [.int (k + (i : Nat)), x]) :=
      ⟨by show 2 ≤ sizeLine; decide, [.int (k + (i : Nat)) tk, u'], .cons ⟨_, rfl⟩ (.cons ru .nil), ⟨_, hT2, rfl, _, rfl⟩⟩
    have I1 : Inv X pins σ (upd H s.heap.objs.size (.tup [.int (k + (i : Nat)), x])) { s with heap := h'', toks := tk + 1 } :=
      I.turnedNew (ch := [e, it]) (fun b ob hb q => (sb.2 b (fun z => hb (by simp [z]))).trans (hk b ob (fun z => hb (by simp [z])) (fun z => hb (by simp [z])) q)) hf (Nat.le_refl _) new
    refine ⟨.ref s.heap.objs.size, _, I1, rfl, ⟨_, x, rfl, I.hok.fresh (Nat.le_refl _), rfl, fun ys hy => by rw [I.list_inj hy hq]; exact hx⟩, ⟨⟨u', ?_⟩, hst'.1.at fun o q => (sb.2 it (Ne.symm hne)).trans q, hne, hea, hai⟩, fun b hb => ?_⟩
    · have e1 : k + ((i + 1 : Nat) : Int) = k + (i : Int) + 1 := by omega
      rw [e1]; exact he'
    · have hb' : b < s.heap.objs.size := by
        have e' : b = e ∨ b = it := by simpa using hb
        rcases e' with z | z
        · rw [z]; exact hel
        · rw [z]; exact hil
      rw [upd_ne (Nat.ne_of_lt hb')]
      exact (hf b hb).1
  done := by
    intro X hP hw hK hc i pins s σ H E I hf st hg
    subst hP hw hK
    obtain ⟨⟨old, he⟩, hit, hne, hea, hai⟩ := st
    obtain ⟨xs, hq, hx⟩ := hg
    obtain ⟨its, rv, p, hz⟩ := I.list hq
    obtain ⟨f0, f1, f2, f3, f4, f5⟩ := hf it (by simp)
    have hl := rv.length
    have D := Draws.list (prog := X.prog) (w := X.w) (A := X.A.in1) (I.ok.hd hc) it a hai its.toArray
    have en : i = its.toArray.size := by rw [List.size_toArray]; omega
    subst en
    exact wpAny_pyNext_enum_endD D he ⟨hit, p.isList⟩ fun h' eb => ⟨rfl, I.turned (t' := s.toks) (fun b o hb q => eb b o hb q) f0 f1 f3 f4 f5⟩
  self := fun A i s Q E st h => let ⟨⟨_, he⟩, _⟩ := st; wpAny_pyIter_enum he h
def iEnumS (K : PySem.W.Frag) (ta : TA) (tk : TA) : TI := fun σ H R => ta σ H fun vs H1 => tk σ H1 fun zs H2 => ∃ a xs k, vs = [.ref a] ∧ zs = [.int k] ∧ -(2 ^ 63) ≤ k ∧ k < 2 ^ 63 ∧ SqL K H2 a xs ∧ R (IteS K a k) H2
theorem pi_enumS {X : Cx} {e e2 : Expr} {ta tk : TA} {p pos tpos kp : Pos} {elts : List Expr} {kk : Nat} (hg : Gl X "enumerate") (hm : X.mg "enumerate" = none) (ha : PA X [e] ta) (hkw : PK X [⟨some ("start" : Str), e2, kp⟩] tk)
    (he : backTo pos (starEach [e] X.env) = (false, eval e X.env) :: backTo pos (starEach [] X.env) := by rfl) (hpl : (backTo pos (starEach [e] X.env)).any (·.1) = false := by rfl)
    (hall : (backToKw pos (keywordEach [⟨some ("start" : Str), e2, kp⟩] X.env)).all (·.1.isSome) = true := by rfl) (hnone : (backToKw pos (keywordEach [⟨some ("start" : Str), e2, kp⟩] X.env)).any (·.1.isNone) = false := by rfl)
    (hks : (backToKw pos (keywordEach [⟨some ("start" : Str), e2, kp⟩] X.env)).filterMap (·.1) = [("start" : Str)] := by rfl) :
    PI X (.Tuple elts kk tpos) (.Call (.Name "enumerate" p) [e] [⟨some ("start" : Str), e2, kp⟩] pos) (iEnumS X.K ta tk) := by
  refine ⟨fun pins s σ H R I h => ?_⟩
  refine wpAny_Call_Name_kw (ld_blt I hg hm boot_enumerate (callWith_type_kw (thn (ha.run pos pins s σ H _ I h) fun us s0 ⟨vs, H0, I0, r0, q0⟩ => thn (hkw.run pos pins s0 σ H0 _ I0 q0) fun ws s1 ⟨zs, H1, I1, r2, q1⟩ => ?_) he hpl hall hnone))
  rw [hks]
  obtain ⟨a, xs, k, ex, ez, hk0, hk1, hq, q⟩ := q1
  subst ex ez
  cases r0 with
  | cons r rr =>
    cases rr
    cases r
    cases r2 with
    | cons r3 rr3 =>
      cases rr3
      obtain ⟨t, rfl⟩ := r3
      obtain ⟨its, rv, p', hz⟩ := I1.list hq
      have hal : a < s1.heap.objs.size := by obtain ⟨_, z, _⟩ := p'.isList; exact Heap.lt_size z
      refine enum_begins_start (begins_list a its.toArray) p'.isList hk0 hk1 fun h' he' hit hsz hk => wpAny_pyIter_enum he' ?_
      have I2 : Inv X pins σ H1 { s1 with heap := h' } := I1.kept (t' := s1.toks) hk
      refine ⟨s1.heap.objs.size + 1, [s1.heap.objs.size + 1, s1.heap.objs.size], _, _, H1, rfl, I2, turn_enumS a (s1.heap.objs.size + 1) s1.heap.objs.size k, ⟨⟨.none, ?_⟩, ⟨_, hit, rfl, ?_⟩, Nat.succ_ne_self _, Nat.ne_of_gt (Nat.lt_succ_of_lt hal), Nat.ne_of_lt hal⟩, fun b hb => ?_, q⟩
      · rw [show k + ((0 : Nat) : Int) = k by omega]
        exact he'
      · rfl
      · have e' : b = s1.heap.objs.size + 1 ∨ b = s1.heap.objs.size := by simpa using hb
        have hle : s1.heap.objs.size ≤ b := by
          rcases e' with z | z
          · rw [z]; exact Nat.le_add_right _ _
          · rw [z]; exact Nat.le_refl _
        exact I1.fpOk hle (I1.hok.fresh hle)
end RL
/-! ### a text times an int -/
namespace RL
open PySem PySem.Spec PyProof.Rows L2
def repS (z : Str) (k : Nat) : Str := ⟨(List.replicate k z.cps).foldl (· ++ ·) #[]⟩
theorem foldl_size : ∀ (l : List (Array Nat)) (a : Array Nat), (l.foldl (· ++ ·) a).toList = a.toList ++ (l.map Array.toList).flatten
  | [], a => by simp
  | x :: r, a => by
    rw [List.foldl_cons, foldl_size r (a ++ x), Array.toList_append, List.map_cons, List.flatten_cons, List.append_assoc]
theorem repS_tl (z : Str) (k : Nat) : TL.tl (repS z k) = (List.replicate k z.cps.toList).flatten := by
  show ((List.replicate k z.cps).foldl (· ++ ·) #[]).toList = _
  rw [foldl_size, List.map_replicate]
  rfl
theorem repS_len (z : Str) (k : Nat) : (repS z k).length = k * z.length := by
  show (repS z k).cps.size = _
  rw [← Array.length_toList]
  have h := repS_tl z k
  unfold TL.tl at h
  rw [h]
  simp [List.length_flatten]
  rfl
def rMulS : R2 := fun x y H Q => ∃ (z : Str) (k : Nat), x = .str z ∧ y = .int (k : Int) ∧ 2 ≤ k ∧ k ≤ 100000 ∧ 1 ≤ z.length ∧ z.length ≤ 100 ∧ Q (.str (repS z k)) H
theorem op_mulS {X : Cx} : OpR X (binaryOp .Mult) rMulS := by
  intro pins s σ H x y v u Q I rx ry h
  obtain ⟨z, k, rfl, rfl, hk, hk2, hz, hz2, q⟩ := h
  obtain ⟨t, rfl⟩ := rx
  obtain ⟨t', rfl⟩ := ry
  have hle : z.length * k ≤ 10000000 := by
    have h1 : z.length * k ≤ 100 * k := Nat.mul_le_mul_right k hz2
    omega
  have hno : ((((k : Nat) : Int) == 1) || z.length == 0) = false := by
    have h1 : (((k : Nat) : Int) == 1) = false := by
      apply beq_false_of_ne
      omega
    have h2 : (z.length == 0) = false := by
      apply beq_false_of_ne
      omega
    rw [h1, h2]; rfl
  refine PySem.P.mul_str ?_ ?_ ?_ ?_
  · have h1 : ¬ (k : Int) < -(2 ^ 63 : Int) := by omega
    have h2 : ¬ (k : Int) ≥ 2 ^ 63 := by omega
    rw [decide_eq_false h1, decide_eq_false h2]; rfl
  · intro _ _
    have h3 : (1000 : Int) ≤ (2 ^ 63 - 1) / (k : Int) := by
      rw [Int.le_ediv_iff_mul_le (by omega)]
      omega
    omega
  · intro _ _
    rw [Int.toNat_natCast]
    have hs : 10000000 ≤ sizeLine := by decide
    unfold Builtin.Str.tooLong
    exact decide_eq_false (by omega)
  · rw [if_neg (by omega), if_neg (by rw [hno]; decide)]
    rw [Int.toNat_natCast]
    have hl := repS_len z k
    have hs : 10000000 ≤ sizeLine := by decide
    have hc : k * z.length = z.length * k := Nat.mul_comm _ _
    refine ⟨?_, ⟨.str (repS z k), H, I.tok _, ⟨_, rfl⟩, q⟩⟩
    show (repS z k).length ≤ sizeLine
    omega
end RL

/-! ### Z: single steps of readings, for walking by with_reducible refine -/
namespace Z
open PySem L2
/-- all but what stands at M is as it was -/
def Kp (M : List Addr) (H H' : Hp) : Prop := ∀ b o, b ∉ M → H b = some o → H' b = some o
theorem Kp.refl {M : List Addr} (H : Hp) : Kp M H H := fun _ _ _ h => h
theorem Kp.trans {M : List Addr} {H H1 H2 : Hp} (a : Kp M H H1) (b : Kp M H1 H2) : Kp M H H2 := fun c o n h => b c o n (a c o n h)
theorem Kp.new {M : List Addr} {H : Hp} {p : Addr} {o : HO} (h : H p = none) : Kp M H (upd H p o) := fun b u _ e => by
  rw [upd_ne (ne_of_none e h)]
  exact e
theorem Kp.put {M : List Addr} {H : Hp} {p : Addr} {o : HO} (h : p ∈ M) : Kp M H (upd H p o) := fun b u n e => by
  rw [upd_ne (fun q => n (by rw [q]; exact h))]
  exact e
theorem Kp.sub {M M' : List Addr} {H H' : Hp} (a : Kp M H H') (h : ∀ x, x ∈ M → x ∈ M') : Kp M' H H' := fun b o n e => a b o (fun z => n (h b z)) e
theorem Kp.same {H H' : Hp} (a : Kp [] H H') : Same H H' := fun b o e => a b o (by simp) e
theorem Kp.of_same {M : List Addr} {H H' : Hp} (a : Same H H') : Kp M H H' := fun b o _ e => a b o e
theorem Kp.none {M : List Addr} {H H' : Hp} (a : Kp M H H') {p : Addr} (n : p ∉ M) (h : H' p = Option.none) : H p = Option.none := by
  cases q : H p with
  | none => rfl
  | some o =>
    rw [a p o n q] at h
    cases h
/-- what was not there may be forgotten from M -/
theorem Kp.drop {M : List Addr} {H H' : Hp} {p : Addr} (a : Kp (p :: M) H H') (h : H p = Option.none) : Kp M H H' := fun b o n e => a b o (by
  intro z
  rcases List.mem_cons.mp z with z | z
  · rw [z, h] at e
    cases e
  · exact n z) e
theorem Kp.get {M : List Addr} {H H' : Hp} (a : Kp M H H') {b : Addr} {o : HO} (n : b ∉ M) (e : H b = some o) : H' b = some o := a b o n e
theorem Kp.seq {M : List Addr} {K : PySem.W.Frag} {H H' : Hp} (e : Kp M H H') {a : Addr} {xs : List V} (n : a ∉ M) (h : SqL K H a xs) : SqL K H' a xs := by
  rcases h with (h | ⟨o, h⟩) | h
  · exact .inl (.inl (e _ _ n h))
  · exact .inl (.inr ⟨o, e _ _ n h⟩)
  · exact .inr h
theorem Kp.tup {M : List Addr} {K : PySem.W.Frag} {H H' : Hp} (e : Kp M H H') {a : Addr} {xs : List V} (n : a ∉ M) (h : SqT K H a xs) : SqT K H' a xs := by
  rcases h with (h | ⟨o, h⟩) | h
  · exact .inl (.inl (e _ _ n h))
  · exact .inl (.inr ⟨o, e _ _ n h⟩)
  · exact .inr h
/-- what H0 does not know may change -/
theorem Kp.mut {M : List Addr} {H0 H H' : Hp} {l : Addr} {o : HO} (a : Kp M H0 H) (h : H0 l = Option.none) (e : H' = upd H l o) : Kp M H0 H' := fun b u n z => by
  rw [e, upd_ne (ne_of_none z h)]
  exact a b u n z
theorem Kp.then1 {M : List Addr} {H0 H H' : Hp} {l : Addr} (a : Kp M H0 H) (b : Kp [l] H H') (h : H0 l = Option.none) : Kp M H0 H' := fun c o n e => b c o (by
  intro z
  rw [List.mem_singleton.mp z, h] at e
  cases e) (a c o n e)
/-- a new instance and its dict -/
theorem Kp.made {M : List Addr} {H : Hp} {x dx : Addr} {o u : HO} (nx : H x = Option.none) (nd : H dx = Option.none) : Kp M H (upd (upd H dx u) x o) := fun c o n e => by
  rw [upd_ne (ne_of_none e nx), upd_ne (ne_of_none e nd)]
  exact e
theorem none2 {H : Hp} {x dx l : Addr} {o u : HO} (h : upd (upd H dx u) x o l = Option.none) : H l = Option.none := by
  unfold upd at h
  split at h
  · cases h
  · split at h
    · cases h
    · exact h
theorem nin1 {a b : Addr} (h : b ≠ a) : b ∉ [a] := by simpa using h
theorem nin0 {b : Addr} : b ∉ ([] : List Addr) := by simp
theorem lstL {K : PySem.W.Frag} {H : Hp} {a : Addr} {xs : List V} (h : H a = some (.lst xs)) : SqL K H a xs := .inl (.inl h)
theorem tupT {K : PySem.W.Frag} {H : Hp} {a : Addr} {xs : List V} (h : H a = some (.tup xs)) : SqT K H a xs := .inl (.inl h)

theorem cxK {CX : CXT} {P : Program} {w : World} {K : PySem.W.Frag} {mg : Str → Option Value} {base : Heap} {N : List Str} {qual : Str} {scope : Scope} {f : Addr} {cd : Value} {A : Around} {outer : List Env} {s : Shared} {H : Hp} {E : XK} : (cxOf CX P w K mg base N qual scope f cd A outer s H E).K = K := rfl
/-! named readings of rules -/
def rLenN (K : PySem.W.Frag) : List V → Hp → VK → Prop := fun xs H Q => ∃ p ys, xs = [.ref p] ∧ (SqL K H p ys ∨ SqT K H p ys) ∧ Q (.int ys.length) H
theorem c_len {X : Cx} : CallR X (.builtin "len") (rLenN X.K) := call_len_seq
def rListN (K : PySem.W.Frag) : List V → Hp → VK → Prop := fun xs H Q => ∃ p ys, xs = [.ref p] ∧ (SqL K H p ys ∨ SqT K H p ys) ∧ ∀ l, H l = none → Q (.ref l) (upd H l (.lst ys))
theorem c_list {X : Cx} : CallR X (.type "list") (rListN X.K) := call_list_of
def rTupN (K : PySem.W.Frag) : List V → Hp → VK → Prop := fun xs H Q => ∃ p ys, xs = [.ref p] ∧ ((SqL K H p ys ∧ ∀ l, H l = none → Q (.ref l) (upd H l (.tup ys))) ∨ (SqT K H p ys ∧ Q (.ref p) H))
theorem c_tuple {X : Cx} : CallR X (.type "tuple") (rTupN X.K) := call_tuple_of
def rInt1 : List V → Hp → VK → Prop := fun xs H Q => (∃ i, xs = [.int i] ∧ Q (.int i) H) ∨ ∃ k, xs = [.bl k] ∧ Q (.int (if k then 1 else 0)) H
theorem c_int {X : Cx} : CallR X (.type "int") rInt1 := call_int1
def rAbs : List V → Hp → VK → Prop := fun xs H Q => ∃ i, xs = [.int i] ∧ Q (.int (if i < 0 then -i else i)) H
theorem c_abs {X : Cx} : CallR X (.builtin "abs") rAbs := call_abs
def rIsN : R2 := fun x y H Q => y = .non ∧ Q (.bl (decide (x = .non))) H
theorem o_isN {X : Cx} : OpR X (compareOp .Is) rIsN := op_isN
def rNotN : R2 := fun x y H Q => y = .non ∧ Q (.bl (!decide (x = .non))) H
theorem o_notN {X : Cx} : OpR X (compareOp .IsNot) rNotN := op_notN
def rAddS : R2 := fun x y H Q => ∃ i j, x = .str i ∧ y = .str j ∧ i.length + j.length ≤ sizeLine ∧ Q (.str (i ++ j)) H
theorem o_addS {X : Cx} : OpR X (binaryOp .Add) rAddS := op_add_str
def rInSg : R2 := fun x y H Q => ∃ (c : Nat) (z : Str), x = .str ⟨#[c]⟩ ∧ y = .str z ∧ Q (.bl (decide (c ∈ z.cps.toList))) H
theorem o_inSg {X : Cx} : OpR X (compareOp .In) rInSg := op_in_sign
def rNinSg : R2 := fun x y H Q => ∃ (c : Nat) (z : Str), x = .str ⟨#[c]⟩ ∧ y = .str z ∧ Q (.bl (!decide (c ∈ z.cps.toList))) H
theorem o_ninSg {X : Cx} : OpR X (compareOp .NotIn) rNinSg := op_notIn_sign
/-- // by a divisor of any sign -/
def CDivA (_ j : Int) : Prop := j ≠ 0 ∧ j.natAbs.log2 < 9000
theorem op_fdivA {X : Cx} : OpR X (binaryOp .FloorDiv) (rI CDivA fun i j => .int (i.fdiv j)) := opI fun i j _ _ _ _ _ hc q => PyProof.Rows.floordiv_int hc.1 q (.inl (PyProof.noPylong_of_log2 hc.2))
theorem divA {i j : Int} {b : Nat} (h : j ≠ 0) (hb : j.natAbs < 2 ^ b) (h0 : 0 < b) (h9 : b ≤ 9000) : CDivA i j := ⟨h, Nat.lt_of_lt_of_le (PySem.Flt.log2_lt_of h0 hb) h9⟩
def rLenS : List V → Hp → VK → Prop := fun xs H Q => ∃ x : Str, xs = [.str x] ∧ x.cps.size ≤ 10000000 ∧ Q (.int (x.cps.size : Nat)) H
theorem c_lens {X : Cx} : CallR X (.builtin "len") rLenS := fun pins s σ H xs us Q I r h => call_len pins s σ H xs us Q I r (by obtain ⟨x, rfl, hz, q⟩ := h; exact ⟨.str x, _, rfl, ⟨Nat.le_trans hz (by decide), rfl⟩, q⟩)
def rPopQ : V → List V → Hp → VK → Prop := rPop
section
variable {σ : St} {H : Hp} {Q : VK} {v x y : V} {ta tb tc te : TE} {tA : TT} {D : Ends} {t u ts : TS} {r : R2} {K : PySem.W.Frag} {i : Nat} {A B : Prop}
/-! values -/
theorem var (h : σ[i]? = some (some v)) (q : Q v H) : tVar i σ H Q := ⟨v, h, q⟩
theorem cst (q : Q v H) : tC v σ H Q := q
theorem op (h : ta σ H fun x H1 => tb σ H1 fun y H2 => r x y H2 Q) : tOp r ta tb σ H Q := h
theorem un {r : V → Hp → VK → Prop} (h : ta σ H fun x H1 => r x H1 Q) : tUn r ta σ H Q := h
theorem i0 {g : Int → Int → V} {a b : Int} (q : Q (g a b) H) : rI0 g (.int a) (.int b) H Q := ⟨a, b, rfl, rfl, q⟩
theorem iC {C : Int → Int → Prop} {g : Int → Int → V} {a b : Int} (c : C a b) (q : Q (g a b) H) : rI C g (.int a) (.int b) H Q := ⟨a, b, rfl, rfl, c, q⟩
theorem iU {g : Int → V} {a : Int} (q : Q (g a) H) : rU g (.int a) H Q := ⟨a, rfl, q⟩
theorem eqII {a b : Int} (q : Q (.bl (decide (a = b))) H) : rEq (.int a) (.int b) H Q := ⟨rfl, by
  have e : decide (V.int a = V.int b) = decide (a = b) := by simp
  rw [e]; exact q⟩
theorem neII {a b : Int} (q : Q (.bl (!decide (a = b))) H) : rNe (.int a) (.int b) H Q := ⟨rfl, by
  have e : decide (V.int a = V.int b) = decide (a = b) := by simp
  rw [e]; exact q⟩
theorem eqSS {a b : Str} (q : Q (.bl (decide (a = b))) H) : rEq (.str a) (.str b) H Q := ⟨rfl, by
  have e : decide (V.str a = V.str b) = decide (a = b) := by simp
  rw [e]; exact q⟩
theorem neSS {a b : Str} (q : Q (.bl (!decide (a = b))) H) : rNe (.str a) (.str b) H Q := ⟨rfl, by
  have e : decide (V.str a = V.str b) = decide (a = b) := by simp
  rw [e]; exact q⟩
theorem eqBB {a b : Bool} (q : Q (.bl (decide (a = b))) H) : rEq (.bl a) (.bl b) H Q := ⟨rfl, by
  have e : decide (V.bl a = V.bl b) = decide (a = b) := by simp
  rw [e]; exact q⟩
theorem neBB {a b : Bool} (q : Q (.bl (!decide (a = b))) H) : rNe (.bl a) (.bl b) H Q := ⟨rfl, by
  have e : decide (V.bl a = V.bl b) = decide (a = b) := by simp
  rw [e]; exact q⟩
theorem bl {b : Bool} {q : Bool → Hp → Prop} (h : q b H) : ∃ k, V.bl b = .bl k ∧ q k H := ⟨b, rfl, h⟩
theorem bl' {b : Bool} {q : Bool → Prop} (h : q b) : ∃ k, V.bl b = .bl k ∧ q k := ⟨b, rfl, h⟩
theorem test {Q : Bool → Hp → Prop} (h : te σ H fun x H' => ∃ k, x = .bl k ∧ Q k H') : tTest te σ H Q := h
theorem tbb {Q : Bool → Hp → Prop} (h : te σ H fun x H' => ∃ k, x = .bl k ∧ Q k H') : tB te σ H Q := h
theorem tand {a b : TT} {Q : Bool → Hp → Prop} (h : a σ H fun c H1 => if c = true then b σ H1 Q else Q false H1) : tAnd a b σ H Q := h
theorem tor {a b : TT} {Q : Bool → Hp → Prop} (h : a σ H fun c H1 => if c = true then Q true H1 else b σ H1 Q) : tOr a b σ H Q := h
theorem tnot {a : TT} {Q : Bool → Hp → Prop} (h : a σ H fun c H1 => Q (!c) H1) : tNot a σ H Q := h
theorem tyes {Q : Bool → Hp → Prop} (h : Q true H) : tYes σ H Q := h
theorem andV (h : ta σ H fun x H1 => ∃ c, x = .bl c ∧ if c = true then tb σ H1 Q else Q (.bl false) H1) : tAndV ta tb σ H Q := h
theorem orV (h : ta σ H fun x H1 => ∃ c, x = .bl c ∧ if c = true then Q (.bl true) H1 else tb σ H1 Q) : tOrV ta tb σ H Q := h
theorem notV (h : ta σ H fun x H1 => ∃ c, x = .bl c ∧ Q (.bl (!c)) H1) : tNotV ta σ H Q := h
theorem ifE (h : tA σ H fun c H1 => if c = true then ta σ H1 Q else tb σ H1 Q) : L2.tIf tA ta tb σ H Q := h
theorem chain {r r' : R2} (h : ta σ H fun x H1 => tb σ H1 fun y H2 => r x y H2 fun z H3 => ∃ k, z = .bl k ∧ (if k = true then tc σ H3 fun w' H4 => r' y w' H4 Q else Q (.bl false) H3)) : tChain r r' ta tb tc σ H Q := h
/-! branches -/
theorem ite {p : Prop} [Decidable p] (h1 : p → A) (h2 : ¬p → B) : if decide p = true then A else B := by
  by_cases h : p
  · rw [decide_eq_true h, if_pos rfl]; exact h1 h
  · rw [decide_eq_false h, if_neg Bool.false_ne_true]; exact h2 h
theorem iteN {p : Prop} [Decidable p] (h1 : ¬p → A) (h2 : p → B) : if (!decide p) = true then A else B := by
  by_cases h : p
  · rw [decide_eq_true h]; exact h2 h
  · rw [decide_eq_false h]; exact h1 h
theorem iteB {b : Bool} (h1 : b = true → A) (h2 : b = false → B) : if b = true then A else B := by
  cases b with
  | true => exact h1 rfl
  | false => exact h2 rfl
theorem yes {p : Prop} [Decidable p] (h : p) (q : A) : if decide p = true then A else B := by rw [decide_eq_true h, if_pos rfl]; exact q
theorem no {p : Prop} [Decidable p] (h : ¬p) (q : B) : if decide p = true then A else B := by rw [decide_eq_false h, if_neg Bool.false_ne_true]; exact q
theorem yesN {p : Prop} [Decidable p] (h : ¬p) (q : A) : if (!decide p) = true then A else B := by rw [decide_eq_false h]; exact q
theorem noN {p : Prop} [Decidable p] (h : p) (q : B) : if (!decide p) = true then A else B := by rw [decide_eq_true h]; exact q
theorem yesB (q : A) : if true = true then A else B := q
theorem noNB (q : B) : if (!true) = true then A else B := q
theorem yesNB (q : A) : if (!false) = true then A else B := q
theorem noB (q : B) : if false = true then A else B := q
/-! calls -/
theorem nil {Q : List V → Hp → Prop} (q : Q [] H) : tNil σ H Q := q
theorem cons {Q : List V → Hp → Prop} {tr : TA} (h : ta σ H fun x H1 => tr σ H1 fun xs H2 => Q (x :: xs) H2) : tCons ta tr σ H Q := h
theorem cb {r : List V → Hp → VK → Prop} {a : TA} (h : a σ H fun vs H1 => r vs H1 Q) : tCB r a σ H Q := h
theorem call {sp : Sp} {dvs : List V} {E : XK} {a : TA} (h : a σ H fun vs H1 => sp (vs ++ dvs) H1 Q E) : tCall sp dvs E a σ H Q := h
theorem meth {C : Addr} {m : Str} {sp : Sp} {dvs : List V} {E : XK} {a : TA} (h : ta σ H fun x H1 => ∃ p dx fs, x = .ref p ∧ H1 p = some (.ins C dx fs) ∧ fs.lookup m = none ∧ a σ H1 fun vs H2 => sp (x :: (vs ++ dvs)) H2 Q E) : tMeth C m sp dvs E ta a σ H Q := h
theorem fld {f : Str} (h : ta σ H fun x H1 => ∃ a C dx fs v, x = .ref a ∧ H1 a = some (.ins C dx fs) ∧ Cls K C ∧ NoAttr K C f ∧ fs.lookup f = some v ∧ Q v H1) : tFld K ta f σ H Q := h
theorem int1 {a : Int} (q : Q (.int a) H) : rInt1 [.int a] H Q := .inl ⟨a, rfl, q⟩
theorem intb {b : Bool} (q : Q (.int (if b then 1 else 0)) H) : rInt1 [.bl b] H Q := .inr ⟨b, rfl, q⟩
theorem abs1 {a : Int} (q : Q (.int (if a < 0 then -a else a)) H) : rAbs [.int a] H Q := ⟨a, rfl, q⟩
theorem isN (q : Q (.bl (decide (x = .non))) H) : rIsN x .non H Q := ⟨rfl, q⟩
theorem notN (q : Q (.bl (!decide (x = .non))) H) : rNotN x .non H Q := ⟨rfl, q⟩
theorem addS {a b : Str} (h : a.length + b.length ≤ sizeLine) (q : Q (.str (a ++ b)) H) : rAddS (.str a) (.str b) H Q := ⟨a, b, rfl, rfl, h, q⟩
theorem inSg {c : Nat} {z : Str} (q : Q (.bl (decide (c ∈ z.cps.toList))) H) : rInSg (.str ⟨#[c]⟩) (.str z) H Q := ⟨c, z, rfl, rfl, q⟩
theorem ninSg {c : Nat} {z : Str} (q : Q (.bl (!decide (c ∈ z.cps.toList))) H) : rNinSg (.str ⟨#[c]⟩) (.str z) H Q := ⟨c, z, rfl, rfl, q⟩
/-- a new object -/
theorem new {o : HO} (h : ∀ p, H p = none → Q (.ref p) (upd H p o)) : ∀ p, H p = none → Q (.ref p) (upd H p o) := h
def TupN (Q : VK) (xs : List V) (H1 : Hp) : Prop := xs.length ≤ sizeLine ∧ ∀ p, H1 p = none → Q (.ref p) (upd H1 p (.tup xs))
def LstN (Q : VK) (xs : List V) (H1 : Hp) : Prop := xs.length ≤ sizeLine ∧ ∀ p, H1 p = none → Q (.ref p) (upd H1 p (.lst xs))
theorem tup {a : TA} (h : a σ H (TupN Q)) : tTup a σ H Q := h
theorem lst {a : TA} (h : a σ H (LstN Q)) : tLst a σ H Q := h
/-- a new object, the heap behind it a letter -/
theorem mk {o : HO} {H0 : Hp} {R : Addr → Hp → Prop} (h : ∀ p H1, H0 p = none → Kp [] H0 H1 → H1 p = some o → R p H1) : ∀ p, H0 p = none → R p (upd H0 p o) := fun p n => h p _ n (Kp.new n) upd_same
theorem tupK {xs : List V} (q : ∀ p H1, H p = none → Kp [] H H1 → H1 p = some (.tup xs) → Q (.ref p) H1) (h : xs.length ≤ 100000 := by simp) : TupN Q xs H := ⟨Nat.le_trans h (by decide), mk q⟩
theorem lstK {xs : List V} (q : ∀ p H1, H p = none → Kp [] H H1 → H1 p = some (.lst xs) → Q (.ref p) H1) (h : xs.length ≤ 100000 := by simp) : LstN Q xs H := ⟨Nat.le_trans h (by decide), mk q⟩
theorem sz {n m : Nat} (h : n ≤ m) (hm : m ≤ 10000000 := by decide) : n ≤ sizeLine := Nat.le_trans h (Nat.le_trans hm (by decide))
theorem szl {n m : Nat} (h : n ≤ m) (hm : m ≤ 10000000 := by decide) : n < sizeLine := Nat.lt_of_le_of_lt (Nat.le_trans h hm) (by decide)
/-! subscripts -/
theorem ixL {p : Addr} {xs : List V} {j : Int} (h : SqL K H p xs) (e : atI xs j = some v) (q : Q v H) : rIxL K (.ref p) (.int j) H Q := ⟨p, xs, j, v, rfl, rfl, h, e, q⟩
theorem ixT {p : Addr} {xs : List V} {j : Int} (h : SqT K H p xs) (e : atI xs j = some v) (q : Q v H) : rIxT K (.ref p) (.int j) H Q := ⟨p, xs, j, v, rfl, rfl, h, e, q⟩
theorem setL {p : Addr} {xs : List V} {k : Int} {j : Nat} {v : V} {q : Hp → Prop} (h : H p = some (.lst xs)) (e : ixN xs.length k = some j) (hq : q (upd H p (.lst (xs.set j v)))) : rSetL (.ref p) (.int k) v H q := ⟨p, xs, k, j, rfl, rfl, h, e, hq⟩
theorem gsub {to ti : TE} {t : TSet} {Q : St → Hp → Prop} (h : to σ H fun o H1 => ti σ H1 fun i H2 => t o i v H2 fun H3 => Q σ H3) : gSub to ti t v σ H Q := h
/-! statements -/
/-- a statement whose ways join ahead of the rest -/
def tSeqJ (t u : TS) : TS := tSeq t u
theorem pss_consJ {X : Cx} {st : Stmt} {rest : List Stmt} {t u : TS} (h1 : PS X st t) (h2 : PSs X rest u) : PSs X (st :: rest) (tSeqJ t u) := pss_cons h1 h2
theorem seqJ (J : St → Hp → Prop) (h2 : ∀ σ H, J σ H → u D σ H) (h1 : ∀ N : St → Hp → Prop, (∀ σ H, J σ H → N σ H) → t { D with nx := N } σ H) : tSeqJ t u D σ H := h1 (u D) h2
theorem seqJ' (h : tSeq t u D σ H) : tSeqJ t u D σ H := h
theorem seq (h : t { D with nx := u D } σ H) : tSeq t u D σ H := h
theorem asg {g : TG} (h : te σ H fun x H1 => g x σ H1 D.nx) : tAsg te g D σ H := h
theorem gname {Q : St → Hp → Prop} {σ' : St} (e : σ.set i (some v) = σ') (h : Q σ' H) : gName i v σ H Q := by
  subst e; exact h
def ParK (i j : Nat) (D : Ends) (σ : St) (vs : List V) (H1 : Hp) : Prop := ∃ v w, vs = [v, w] ∧ D.nx ((σ.set i (some v)).set j (some w)) H1
theorem par {i j : Nat} {a : TA} (h : a σ H (ParK i j D σ)) : tPar i j a D σ H := h
theorem par2 {i j : Nat} {v w : V} {σ' : St} (e : (σ.set i (some v)).set j (some w) = σ') (h : D.nx σ' H) : ParK i j D σ [v, w] H := ⟨v, w, rfl, by rw [e]; exact h⟩
theorem aug {ti : TIp} {x : V} (e : σ[i]? = some (some x)) (h : te σ H fun y H1 => ti x y H1 fun z H2 => D.nx (σ.set i (some z)) H2) : tAug i te ti D σ H := ⟨x, e, h⟩
theorem ipI' {f : Int → Int → Int} {a b : Int} (q : Q (.int (f a b)) H) : ipI f (.int a) (.int b) H Q := ⟨a, b, rfl, rfl, q⟩
theorem ifs {c : TT} (h : c σ H fun b H1 => if b = true then t D σ H1 else u D σ H1) : tIfS c t u D σ H := h
theorem ret (h : te σ H D.rt) : tRet te D σ H := h
theorem retN (h : D.rt .non H) : tRetN D σ H := h
theorem next (h : D.nx σ H) : tNext D σ H := h
theorem brk (h : D.bk σ H) : tBreak D σ H := h
theorem drop (h : te σ H fun _ H1 => D.nx σ H1) : tDrop te D σ H := h
theorem bm {T : String} {r : V → List V → Hp → VK → Prop} {to : TE} {a : TA} (h : to σ H fun x H1 => tyV K T x H1 ∧ a σ H1 fun xs H2 => r x xs H2 Q) : tBM K T r to a σ H Q := h
theorem bm0 {T : String} {r : V → List V → Hp → VK → Prop} {to : TE} (h : to σ H fun x H1 => tyV K T x H1 ∧ r x [] H1 Q) : tBM0 K T r to σ H Q := h
theorem app {l : Addr} {xs : List V} {y : V} (h : H l = some (.lst xs)) (z : xs.length < sizeLine) (q : Q .non (upd H l (.lst (xs ++ [y])))) : rAppend (.ref l) [y] H Q := ⟨l, xs, y, rfl, rfl, h, z, q⟩
theorem tyL {p : Addr} {xs : List V} (h : H p = some (.lst xs)) : tyV K "list" (.ref p) H := .inl ⟨rfl, _, SqL.of h⟩
theorem sfld {tv : TE} {f : Str} (h : tv σ H fun y H1 => ta σ H1 fun x H2 => ∃ a C dx fs, x = .ref a ∧ H2 a = some (.ins C dx fs) ∧ Cls K C ∧ NoAttr K C f ∧ fs.length < 1000 ∧ D.nx σ (upd H2 a (.ins C dx (putF f y fs)))) : sFld K ta tv f D σ H := h
theorem sfldaug {tv : TE} {rd : V → V → Hp → VK → Prop} {f : Str} (h : ta σ H fun x H1 => ∃ a C dx fs v, x = .ref a ∧ H1 a = some (.ins C dx fs) ∧ Cls K C ∧ NoAttr K C f ∧ fs.lookup f = some v ∧ tv σ H1 fun y H2 => rd v y H2 fun z H3 => ∃ dx' fs', H3 a = some (.ins C dx' fs') ∧ fs'.length < 1000 ∧ D.nx σ (upd H3 a (.ins C dx' (putF f z fs')))) : sFldAug K ta tv rd f D σ H := h
theorem radd {a b : Int} (q : Q (.int (a + b)) H) : rAdd (.int a) (.int b) H Q := ⟨a, b, rfl, rfl, q⟩
theorem make {C : Addr} {sp : Sp} {dvs : List V} {E : XK} {a : TA} (h : a σ H fun vs H1 => ∀ x dx, H1 x = none → H1 dx = none → dx ≠ x → sp (.ref x :: (vs ++ dvs)) (upd (upd H1 dx (.own x)) x (.ins C dx [])) (fun v H2 => v = .non ∧ Q (.ref x) H2) E) : tMake C sp dvs E a σ H Q := h
/-- while -/
def WhB (W : Nat → St → Hp → Prop) (m : Nat) (tb : TS) (D : Ends) (σ : St) (H1 : Hp) : Prop := ∃ N : St → Hp → Prop, (∀ σ' H', N σ' H' → ∃ m', m' < m ∧ W m' σ' H') ∧ tb { D with nx := N, ct := N, bk := D.nx } σ H1
theorem whb {W : Nat → St → Hp → Prop} {m : Nat} {tb : TS} (h : tb { D with nx := fun σ' H' => ∃ m', m' < m ∧ W m' σ' H', ct := fun σ' H' => ∃ m', m' < m ∧ W m' σ' H', bk := D.nx } σ H) : WhB W m tb D σ H := ⟨_, fun _ _ z => z, h⟩
theorem wh {c : TT} {tb : TS} (W : Nat → St → Hp → Prop) (m : Nat) (h0 : W m σ H) (hs : ∀ m σ H, W m σ H → c σ H fun b H1 => if b = true then WhB W m tb D σ H1 else D.nx σ H1) : tWhile c tb D σ H := ⟨W, ⟨m, h0⟩, hs⟩
/-- calls by values -/
theorem sumL {a : Addr} {ns : List Int} (h : SqL K H a (ns.map V.int)) (q : Q (.int ns.sum) H) : rSum K [.ref a] H Q := ⟨a, ns, rfl, h, q⟩
theorem gcd {a b : Int} (q : Q (.int ((Nat.gcd a.natAbs b.natAbs : Nat) : Int)) H) : rGcd [.int a, .int b] H Q := ⟨a, b, rfl, q⟩
theorem mkN {C : Addr} {sp : Sp} {Q : XK} (h : ∀ a, H a = none → sp [.ref a] (upd H a (exo a C none)) (fun v H2 => v = .non ∧ H2 a = some (exo a C none) ∧ Q (.ref C) none (del H2 a)) (fun _ _ _ => False)) : Sup.tMkN C sp σ H Q := h
theorem gtup {n : Nat} {t : TGs} {a : Addr} {xs : List V} {Q : St → Hp → Prop} (h : SqT K H a xs) (e : xs.length = n) (q : t xs σ H Q) : gTup K n t (.ref a) σ H Q := ⟨a, xs, rfl, h, e, q⟩
theorem gcons {t : TG} {u : TGs} {v : V} {r : List V} {Q : St → Hp → Prop} (q : t v σ H fun σ' H' => u r σ' H' Q) : gCons t u (v :: r) σ H Q := ⟨v, r, rfl, q⟩
theorem gnil {Q : St → Hp → Prop} (q : Q σ H) : gNil [] σ H Q := ⟨rfl, q⟩
theorem lenL {a : Addr} {xs : List V} (h : SqL K H a xs) (q : Q (.int xs.length) H) : rLenN K [.ref a] H Q := ⟨a, xs, rfl, .inl h, q⟩
theorem lenT {a : Addr} {xs : List V} (h : SqT K H a xs) (q : Q (.int xs.length) H) : rLenN K [.ref a] H Q := ⟨a, xs, rfl, .inr h, q⟩
theorem listL {a : Addr} {xs : List V} (h : SqL K H a xs) (q : ∀ p H1, H p = none → Kp [] H H1 → H1 p = some (.lst xs) → Q (.ref p) H1) : rListN K [.ref a] H Q := ⟨a, xs, rfl, .inl h, mk q⟩
theorem isi {A B : String} {x : V} {b : Bool} (ht : TyX K H x (.type A)) (hk : kitB A B = some b) (q : Q (.bl b) H) : rIsi K [x, .ty B] H Q := ⟨x, _, _, _, b, rfl, .ty _, ht, kit_ty hk, q⟩
theorem isiI {B : String} {a : Int} {b : Bool} (hk : kitB "int" B = some b) (q : Q (.bl b) H) : rIsi K [.int a, .ty B] H Q := isi (.base (.int _)) hk q
theorem atM {ns : List Int} {j : Nat} {x : Int} (h : ns[j]? = some x) : atI (ns.map V.int) (j : Int) = some (.int x) := atI_nat (by rw [List.getElem?_map, h]; rfl)
theorem ixN_nat {n j : Nat} (hj : j < n) : ixN n (j : Int) = some j := by
  unfold ixN
  rw [if_pos (by omega), if_pos (by omega)]
  simp
/-- a comprehension, a loop over range(n), over a list -/
def ForK (g : TG) (tb : TS) (D : Ends) (σ : St) (J : It) (H1 : Hp) : Prop := ∃ W : Nat → Nat → St → Hp → Prop, (∃ m, W 0 m σ H1) ∧ ∀ i m σ H, W i m σ H →
  (J.stop i H ∧ D.nx σ H) ∨ (J.go i H ∧ ∃ N : St → Hp → Prop, (∀ σ' H', N σ' H' → ∃ m', m' < m ∧ W (i + 1) m' σ' H') ∧ ∀ x H', J.yld i H x H' → g x σ H' fun σ2 H2 => tb { D with nx := N, ct := N, bk := D.nx } σ2 H2)
def LcK (g : TG) (tt : TT) (te : TE) (vs : List Nat) (σ : St) (Q : VK) (J : It) (H1 : Hp) : Prop := ∀ D, H1 D = none → ∃ W : Nat → Nat → Hp → Prop, (∃ m, W 0 m (upd H1 D (.lst []))) ∧ ∀ i m H, W i m H →
      (J.stop i H ∧ Q (.ref D) H) ∨ (J.go i H ∧ ∃ Nx : Hp → Prop, (∀ H', Nx H' → ∃ m', m' < m ∧ W (i + 1) m' H') ∧ ∀ x H', J.yld i H x H' → g x (wipe σ vs) H' fun σ2 H2 => wipe σ2 vs = wipe σ vs ∧ tt σ2 H2 fun b H3 => if b = true then te σ2 H3 fun y H4 => ∃ acc, H4 D = some (.lst acc) ∧ acc.length < sizeLine ∧ Nx (upd H4 D (.lst (acc ++ [y]))) else Nx H3)
def Rng1K (R : It → Hp → Prop) (vs : List V) (H1 : Hp) : Prop := ∃ j : Int, vs = [.int j] ∧ -(2 ^ 62) ≤ j ∧ j < 2 ^ 62 ∧ R (Itr 0 j.toNat) H1
def ListK (K : PySem.W.Frag) (R : It → Hp → Prop) (x : V) (H1 : Hp) : Prop := ∃ a, x = .ref a ∧ (∃ xs, SqL K H1 a xs) ∧ R (Itl K a) H1
theorem lc {wi : TI} {g : TG} {tt : TT} {vs : List Nat} (h : wi σ H (LcK g tt te vs σ Q)) : tLc wi g tt te vs σ H Q := h
theorem rng1 {a : TA} {R : It → Hp → Prop} (h : a σ H (Rng1K R)) : iRng1 a σ H R := h
theorem ilist {R : It → Hp → Prop} (h : ta σ H (ListK K R)) : iList K ta σ H R := h
theorem for_ {wi : TI} {g : TG} {tb : TS} (h : wi σ H (ForK g tb D σ)) : tFor wi g tb D σ H := h
/-- what one turn of a comprehension asks -/
def LcT (g : TG) (tt : TT) (te : TE) (vs : List Nat) (σ : St) (D : Addr) (P : Hp → Prop) (x : V) (H1 : Hp) : Prop := g x (wipe σ vs) H1 fun σ2 H2 => wipe σ2 vs = wipe σ vs ∧ tt σ2 H2 fun b H3 => if b = true then te σ2 H3 fun y H4 => ∃ acc, H4 D = some (.lst acc) ∧ acc.length < sizeLine ∧ P (upd H4 D (.lst (acc ++ [y]))) else P H3
theorem lcr {g : TG} {tt : TT} {vs : List Nat} {e : Int} (n : Nat) (he : e = (n : Int)) (hb : n < 4611686018427387904) (Pv : Addr → Nat → Hp → Prop) (h0 : ∀ D H1, H D = none → Kp [] H H1 → H1 D = some (.lst []) → Pv D 0 H1)
    (hs : ∀ D i H1, H D = none → i < n → Pv D i H1 → g (.int (i : Int)) (wipe σ vs) H1 fun σ2 H2 => wipe σ2 vs = wipe σ vs ∧ tt σ2 H2 fun b H3 => if b = true then te σ2 H3 fun y H4 => ∃ acc, H4 D = some (.lst acc) ∧ acc.length < sizeLine ∧ Pv D (i + 1) (upd H4 D (.lst (acc ++ [y]))) else Pv D (i + 1) H3)
    (hd : ∀ D H1, H D = none → Pv D n H1 → Q (.ref D) H1) : Rng1K (LcK g tt te vs σ Q) [.int e] H := by
  subst he
  refine ⟨(n : Int), rfl, by omega, by omega, fun D hD => ?_⟩
  rw [show ((n : Int)).toNat = n by simp]
  refine lc_range (lo := 0) (n := n) (Pv D) (h0 D _ hD (Kp.new hD) upd_same) (fun i H1 hi p => ?_) fun H1 p => hd D H1 hD p
  rw [show (0 : Int) + (i : Int) = (i : Int) by omega]
  exact hs D i H1 hD hi p
theorem lcl {g : TG} {tt : TT} {vs : List Nat} {a : Addr} (xs : List V) (hS : SqL K H a xs) (Pv : Addr → Nat → Hp → Prop) (h0 : ∀ D H1, H D = none → Kp [] H H1 → H1 D = some (.lst []) → Pv D 0 H1)
    (hl : ∀ D i H1, H D = none → i ≤ xs.length → Pv D i H1 → SqL K H1 a xs)
    (hs : ∀ D i x H1, H D = none → xs[i]? = some x → Pv D i H1 → g x (wipe σ vs) H1 fun σ2 H2 => wipe σ2 vs = wipe σ vs ∧ tt σ2 H2 fun b H3 => if b = true then te σ2 H3 fun y H4 => ∃ acc, H4 D = some (.lst acc) ∧ acc.length < sizeLine ∧ Pv D (i + 1) (upd H4 D (.lst (acc ++ [y]))) else Pv D (i + 1) H3)
    (hd : ∀ D H1, H D = none → Pv D xs.length H1 → Q (.ref D) H1) : ListK K (LcK g tt te vs σ Q) (.ref a) H :=
  ⟨a, rfl, ⟨xs, hS⟩, fun D hD => lc_list (K := K) (a := a) (xs := xs) (Pv D) (h0 D _ hD (Kp.new hD) upd_same) (fun i H1 hi p => hl D i H1 hD hi p) (fun i x H1 hx p => hs D i x H1 hD hx p) fun H1 p => hd D H1 hD p⟩
/-- over a tuple -/
def TupK (K : PySem.W.Frag) (R : It → Hp → Prop) (x : V) (H1 : Hp) : Prop := ∃ a, x = .ref a ∧ (∃ xs, SqT K H1 a xs) ∧ R (Itt K a) H1
theorem itup {R : It → Hp → Prop} (h : ta σ H (TupK K R)) : iTup K ta σ H R := h
theorem lct {g : TG} {tt : TT} {vs : List Nat} {a : Addr} (xs : List V) (hS : SqT K H a xs) (Pv : Addr → Nat → Hp → Prop) (h0 : ∀ D H1, H D = none → Kp [] H H1 → H1 D = some (.lst []) → Pv D 0 H1)
    (hl : ∀ D i H1, H D = none → i ≤ xs.length → Pv D i H1 → SqT K H1 a xs)
    (hs : ∀ D i x H1, H D = none → xs[i]? = some x → Pv D i H1 → g x (wipe σ vs) H1 fun σ2 H2 => wipe σ2 vs = wipe σ vs ∧ tt σ2 H2 fun b H3 => if b = true then te σ2 H3 fun y H4 => ∃ acc, H4 D = some (.lst acc) ∧ acc.length < sizeLine ∧ Pv D (i + 1) (upd H4 D (.lst (acc ++ [y]))) else Pv D (i + 1) H3)
    (hd : ∀ D H1, H D = none → Pv D xs.length H1 → Q (.ref D) H1) : TupK K (LcK g tt te vs σ Q) (.ref a) H :=
  ⟨a, rfl, ⟨xs, hS⟩, fun D hD => lc_tup (K := K) (a := a) (xs := xs) (Pv D) (h0 D _ hD (Kp.new hD) upd_same) (fun i H1 hi p => hl D i H1 hD hi p) (fun i x H1 hx p => hs D i x H1 hD hx p) fun H1 p => hd D H1 hD p⟩
theorem allL {a : Addr} {bs : List Bool} (h : SqL K H a (bs.map V.bl)) (q : Q (.bl (bs.all id)) H) : rAll K [.ref a] H Q := ⟨a, bs, rfl, h, q⟩
theorem anyL {a : Addr} {bs : List Bool} (h : SqL K H a (bs.map V.bl)) (q : Q (.bl (bs.any id)) H) : rAny K [.ref a] H Q := ⟨a, bs, rfl, h, q⟩
theorem forr {g : TG} {tb : TS} {e : Int} (n : Nat) (he : e = (n : Int)) (hb : n < 4611686018427387904) (Pv : Nat → St → Hp → Prop) (h0 : Pv 0 σ H)
    (hs : ∀ i σ H, i < n → Pv i σ H → g (.int (i : Int)) σ H fun σ2 H2 => tb { D with nx := Pv (i + 1), ct := Pv (i + 1), bk := D.nx } σ2 H2) (hd : ∀ σ H, Pv n σ H → D.nx σ H) : Rng1K (ForK g tb D σ) [.int e] H := by
  subst he
  refine ⟨(n : Int), rfl, by omega, by omega, ?_⟩
  rw [show ((n : Int)).toNat = n by simp]
  refine for_range (lo := 0) (n := n) Pv h0 (fun i σ H1 hi p => ?_) hd
  rw [show (0 : Int) + (i : Int) = (i : Int) by omega]
  exact hs i σ H1 hi p
theorem forl {g : TG} {tb : TS} {a : Addr} (xs : List V) (hS : SqL K H a xs) (Pv : Nat → St → Hp → Prop) (h0 : Pv 0 σ H) (hl : ∀ i σ H, i ≤ xs.length → Pv i σ H → SqL K H a xs)
    (hs : ∀ i x σ H, xs[i]? = some x → Pv i σ H → g x σ H fun σ2 H2 => tb { D with nx := Pv (i + 1), ct := Pv (i + 1), bk := D.nx } σ2 H2) (hd : ∀ σ H, Pv xs.length σ H → D.nx σ H) : ListK K (ForK g tb D σ) (.ref a) H :=
  ⟨a, rfl, ⟨xs, hS⟩, for_list (K := K) (a := a) (xs := xs) Pv h0 hl hs hd⟩
/-! texts -/
def StrK (R : It → Hp → Prop) (v : V) (H1 : Hp) : Prop := ∃ x, v = .str x ∧ R (Its x) H1
theorem istr {R : It → Hp → Prop} (h : ta σ H (StrK R)) : iStr ta σ H R := h
theorem fors {g : TG} {tb : TS} {x : Str} (Pv : Nat → St → Hp → Prop) (h0 : Pv 0 σ H)
    (hs : ∀ i c σ H, x.cps[i]? = some c → Pv i σ H → g (.str ⟨#[c]⟩) σ H fun σ2 H2 => tb { D with nx := Pv (i + 1), ct := Pv (i + 1), bk := D.nx } σ2 H2) (hd : ∀ σ H, Pv x.cps.size σ H → D.nx σ H) : StrK (ForK g tb D σ) (.str x) H :=
  ⟨x, rfl, for_it walk_str Pv h0 (fun _ _ _ _ _ => trivial) (fun i v σ H H' hi p y => by obtain ⟨rfl, c, hc, rfl⟩ := y; exact hs i c σ _ hc p) hd⟩
theorem lcs {g : TG} {tt : TT} {vs : List Nat} {x : Str} (Pv : Addr → Nat → Hp → Prop) (h0 : ∀ D H1, H D = none → Kp [] H H1 → H1 D = some (.lst []) → Pv D 0 H1)
    (hs : ∀ D i c H1, H D = none → x.cps[i]? = some c → Pv D i H1 → g (.str ⟨#[c]⟩) (wipe σ vs) H1 fun σ2 H2 => wipe σ2 vs = wipe σ vs ∧ tt σ2 H2 fun b H3 => if b = true then te σ2 H3 fun y H4 => ∃ acc, H4 D = some (.lst acc) ∧ acc.length < sizeLine ∧ Pv D (i + 1) (upd H4 D (.lst (acc ++ [y]))) else Pv D (i + 1) H3)
    (hd : ∀ D H1, H D = none → Pv D x.cps.size H1 → Q (.ref D) H1) : StrK (LcK g tt te vs σ Q) (.str x) H :=
  ⟨x, rfl, fun D hD => lc_it walk_str (Pv D) (h0 D _ hD (Kp.new hD) upd_same) (fun _ _ _ _ => trivial) (fun i v H H' hi p y => by obtain ⟨rfl, c, hc, rfl⟩ := y; exact hs D i c _ hD hc p) fun H1 p => hd D H1 hD p⟩
theorem lenS {x : Str} (hz : x.cps.size ≤ 10000000) (q : Q (.int (x.cps.size : Nat)) H) : rLenS [.str x] H Q := ⟨x, rfl, hz, q⟩
/-! enumerate -/
def EnumK (K : PySem.W.Frag) (R : It → Hp → Prop) (vs : List V) (H1 : Hp) : Prop := ∃ a xs, vs = [.ref a] ∧ SqL K H1 a xs ∧ R (Ite K a) H1
theorem ienum {a : TA} {R : It → Hp → Prop} (h : a σ H (EnumK K R)) : iEnum K a σ H R := h
theorem fore {g : TG} {tb : TS} {a : Addr} (xs : List V) (hS : SqL K H a xs) (Pv : Nat → St → Hp → Prop) (h0 : Pv 0 σ H) (hl : ∀ i σ H, i ≤ xs.length → Pv i σ H → SqL K H a xs)
    (hs : ∀ i x σ H H' T, xs[i]? = some x → Pv i σ H → H T = none → Kp [] H H' → H' T = some (.tup [.int (i : Nat), x]) → g (.ref T) σ H' fun σ2 H2 => tb { D with nx := Pv (i + 1), ct := Pv (i + 1), bk := D.nx } σ2 H2) (hd : ∀ σ H, Pv xs.length σ H → D.nx σ H) : EnumK K (ForK g tb D σ) [.ref a] H :=
  ⟨a, xs, rfl, hS, for_it (walk_enum (K := K) (a := a) (xs := xs)) Pv h0 hl (fun i v σ H H' hi p y => by
    obtain ⟨T, x, z, rfl, h1, rfl, h2, h3⟩ := y
    cases h2
    exact hs i z σ H _ T h3 p h1 (Kp.new h1) upd_same) hd⟩
/-! dicts -/
theorem dnew (h : ∀ p H1, H p = none → Kp [] H H1 → H1 p = some (.dK []) → Q (.ref p) H1) : tDNewK σ H Q := mk h
theorem din {ty td : TE} (h : ty σ H fun y H1 => td σ H1 fun x H2 => ∃ a o, x = .ref a ∧ DGet H2 a y o ∧ Q (.bl o.isSome) H2) : tDIn ty td σ H Q := h
theorem dput {td ty tv : TE} (h : tv σ H fun v H1 => td σ H1 fun x H2 => ty σ H2 fun y H3 => ∃ a H4, x = .ref a ∧ DPut H3 a y v H4 ∧ D.nx σ H4) : sDPut td ty tv D σ H := h
theorem dget2 {td ty tx : TE} (h : td σ H fun x H1 => ∃ a, x = .ref a ∧ IsD H1 a ∧ ty σ H1 fun y H2 => tx σ H2 fun z H3 => ∃ o, DGet H3 a y o ∧ Q (o.getD z) H3) : tDGet2 td ty tx σ H Q := h
theorem dget {td ty : TE} (h : td σ H fun x H1 => ty σ H1 fun y H2 => ∃ a v, x = .ref a ∧ DGet H2 a y (some v) ∧ Q v H2) : tDGet td ty σ H Q := h
/-! lists and tuples -/
theorem ixA {p : Addr} {xs : List V} {j : Int} (h : SqL K H p xs ∨ SqT K H p xs) (e : atI xs j = some v) (q : Q v H) : rIx K (.ref p) (.int j) H Q := h.elim (fun h => .inl (ixL h e q)) (fun h => .inr (.inl (ixT h e q)))
theorem lenA {a : Addr} {xs : List V} (h : SqL K H a xs ∨ SqT K H a xs) (q : Q (.int xs.length) H) : rLenN K [.ref a] H Q := ⟨a, xs, rfl, h, q⟩
theorem sl {r : V → Option Int → Option Int → Hp → VK → Prop} {tl th : TO} (h : ta σ H fun x H1 => tl σ H1 fun l H2 => th σ H2 fun u H3 => r x l u H3 Q) : tSl r ta tl th σ H Q := h
theorem slno {Q : Option Int → Hp → Prop} (h : Q none H) : tNoPart σ H Q := h
theorem slpart {Q : Option Int → Hp → Prop} (h : ta σ H fun x H1 => ∃ i, x = .int i ∧ Q (some i) H1) : tPart ta σ H Q := h
theorem bint {i : Int} {q : Int → Prop} (h : q i) : ∃ k, V.int i = .int k ∧ q k := ⟨i, rfl, h⟩
theorem slL {p : Addr} {xs : List V} {lo hi : Option Int} (h : SqL K H p xs) (q : ∀ d H1, H d = none → Kp [] H H1 → H1 d = some (.lst (cutV xs lo hi)) → Q (.ref d) H1) : rSlL K (.ref p) lo hi H Q := ⟨p, xs, rfl, h, mk q⟩
theorem cut_take {xs : List V} {k : Nat} (h : k ≤ xs.length) : cutV xs none (some (k : Int)) = xs.take k := by
  unfold cutV
  rw [HT.sIx_none, HT.sIx_nat, List.drop_zero, Nat.sub_zero, Nat.min_eq_left h]
theorem cut_drop {xs : List V} {k : Nat} (h : k ≤ xs.length) : cutV xs (some (k : Int)) none = xs.drop k := by
  unfold cutV
  rw [HT.sIx_none, HT.sIx_nat, Nat.min_eq_left h]
  exact List.take_of_length_le (by rw [List.length_drop] <;> omega)
theorem inq {neg : Bool} {p : Addr} {xs : List V} (h : SqL K H p xs ∨ SqT K H p xs) (fx : flatV x = true) (fs : xs.all flatV = true) (q : Q (.bl (if neg then !inV x xs else inV x xs)) H) : rIn K neg x (.ref p) H Q := ⟨p, xs, rfl, h, fx, fs, q⟩
theorem inV_strs {a : Str} {l : List Str} : inV (.str a) (l.map V.str) = decide (a ∈ l) := by
  unfold inV
  induction l with
  | nil => simp
  | cons b r ih =>
    rw [List.map_cons, List.any_cons, ih]
    show ((b == a) || _) = _
    by_cases e : b = a
    · subst e; simp
    · have e' : ¬ a = b := fun z => e z.symm
      simp [e, e']
theorem strs_flat {l : List Str} : (l.map V.str).all flatV = true := by simp [flatV]
theorem pop {l : Addr} {xs : List V} {y : V} (h : H l = some (.lst xs)) (e : xs[xs.length - 1]? = some y) (q : Q y (upd H l (.lst xs.dropLast))) : rPop (.ref l) [] H Q := ⟨l, xs, y, rfl, rfl, h, e, q⟩
def LRK (K : PySem.W.Frag) (Q : VK) (x : V) (H1 : Hp) : Prop := ∃ a xs, x = .ref a ∧ SqL K H1 a xs ∧ ∀ p, H1 p = none → Q (.ref p) (upd H1 p (.lst xs.reverse))
theorem listrev (h : ta σ H (LRK K Q)) : RL.tListRev K ta σ H Q := h
theorem lrk {a : Addr} {xs : List V} (hS : SqL K H a xs) (q : ∀ p H1, H p = none → Kp [] H H1 → H1 p = some (.lst xs.reverse) → Q (.ref p) H1) : LRK K Q (.ref a) H := ⟨a, xs, rfl, hS, mk q⟩
theorem popS {l : Addr} {xs : List V} {y : V} (h : H l = some (.lst (xs ++ [y]))) (q : Q y (upd H l (.lst xs))) : rPop (.ref l) [] H Q := ⟨l, _, y, rfl, rfl, h, by simp, by rw [List.dropLast_concat]; exact q⟩
theorem extT {l b : Addr} {xs zs : List V} (h : H l = some (.lst xs)) (h2 : H b = some (.tup zs)) (hz : xs.length + zs.length ≤ 10000000) (q : Q .non (upd H l (.lst (xs ++ zs)))) : RL.rExtT (.ref l) [.ref b] H Q := ⟨l, b, xs, zs, rfl, rfl, h, h2, Nat.le_trans hz (by decide), q⟩
theorem slT {p : Addr} {xs : List V} {k : Nat} (h : SqT K H p xs) (h0 : 0 < k) (h1 : k ≤ xs.length) (q : ∀ d H1, H d = none → Kp [] H H1 → H1 d = some (.tup (xs.drop k)) → Q (.ref d) H1) : rSlT K (.ref p) (some (k : Int)) none H Q := ⟨p, xs, rfl, h, fun z => by
  rw [HT.sIx_nat, Nat.min_eq_left h1] at z
  omega, mk (by rw [cut_drop h1]; exact q)⟩
theorem revl (h : ta σ H (LRK K Q)) : tRevL K ta σ H Q := h
theorem idx {a : Addr} {ys : List V} {y : V} (j : Nat) {z : V} (hS : SqL K H a ys) (fy : flatV y = true) (fs : ys.all flatV = true) (hz : ys[j]? = some z) (hy : eqV z y = true) (hn : ∀ (m : Nat) (z' : V), m < j → ys[m]? = some z' → eqV z' y = false) (q : Q (.int (j : Nat)) H) : rIndex K (.ref a) [y] H Q := ⟨a, ys, y, j, z, rfl, rfl, hS, fy, fs, hz, hy, hn, q⟩
theorem truL {p : Addr} {xs : List V} {q : Bool → Prop} (h : H p = some (.lst xs)) (hq : q (!xs.isEmpty)) : ∃ k, TruV K (.ref p) H k ∧ q k := ⟨_, .inl ⟨xs, lstL h, rfl⟩, hq⟩
theorem glst {n : Nat} {t : TGs} {a : Addr} {xs : List V} {Q : St → Hp → Prop} (h : SqL K H a xs) (e : xs.length = n) (q : t xs σ H Q) : gLst K n t (.ref a) σ H Q := ⟨a, xs, rfl, h, e, q⟩
def rSplitQ : V → List V → Hp → VK → Prop := fun x xs H Q => ∃ a b, x = .str a ∧ xs = [.str b] ∧ (b.length == 0) = false ∧ a.length + 2 ≤ sizeLine ∧ rNewStrs (Txt.split a b) H Q
theorem m_split {X : Cx} : MtR X "str.split" rSplitQ := mt_split
theorem split {a b : Str} (hb : (b.length == 0) = false) (hz : a.length ≤ 10000000) (q : ∀ p H1, H p = none → Kp [] H H1 → H1 p = some (.lst ((Txt.split a b).map V.str)) → Q (.ref p) H1) : rSplitQ (.str a) [.str b] H Q := ⟨a, b, rfl, rfl, hb, Nat.le_trans (Nat.add_le_add_right hz 2) (by decide), mk q⟩
def EnSK (K : PySem.W.Frag) (R : It → Hp → Prop) (vs zs : List V) (H2 : Hp) : Prop := ∃ a xs k, vs = [.ref a] ∧ zs = [.int k] ∧ -(2 ^ 63) ≤ k ∧ k < 2 ^ 63 ∧ SqL K H2 a xs ∧ R (RL.IteS K a k) H2
theorem ienumS {a b : TA} {R : It → Hp → Prop} (h : a σ H fun vs H1 => b σ H1 fun zs H2 => EnSK K R vs zs H2) : RL.iEnumS K a b σ H R := h
theorem walk_enumS {a : Addr} {xs : List V} {k : Int} : Walk (RL.IteS K a k) xs.length (fun H => SqL K H a xs) (YPair (fun i => some (.int (k + (i : Nat)))) (fun i => xs[i]?)) := by
  refine ⟨fun i _ hi q => ⟨xs, xs[i], q, by simp [hi]⟩, fun _ q => ⟨xs, q, rfl⟩, fun i H v H' _ q y => ?_⟩
  obtain ⟨T, x, h1, h2, h3, h4⟩ := y
  exact ⟨T, .int (k + (i : Nat)), x, h1, h2, h3, rfl, h4 xs q⟩
theorem fores {g : TG} {tb : TS} {a : Addr} {k : Int} (xs : List V) (hk0 : -(2 ^ 63) ≤ k) (hk1 : k < 2 ^ 63) (hS : SqL K H a xs) (Pv : Nat → St → Hp → Prop) (h0 : Pv 0 σ H) (hl : ∀ i σ H, i ≤ xs.length → Pv i σ H → SqL K H a xs)
    (hs : ∀ i x σ H H' T, xs[i]? = some x → Pv i σ H → H T = none → Kp [] H H' → H' T = some (.tup [.int (k + (i : Nat)), x]) → g (.ref T) σ H' fun σ2 H2 => tb { D with nx := Pv (i + 1), ct := Pv (i + 1), bk := D.nx } σ2 H2) (hd : ∀ σ H, Pv xs.length σ H → D.nx σ H) : EnSK K (ForK g tb D σ) [.ref a] [.int k] H :=
  ⟨a, xs, k, rfl, rfl, hk0, hk1, hS, for_it (walk_enumS (K := K) (a := a) (xs := xs) (k := k)) Pv h0 hl (fun i v σ H H' hi p y => by
    obtain ⟨T, x, z, rfl, h1, rfl, h2, h3⟩ := y
    cases h2
    exact hs i z σ H _ T h3 p h1 (Kp.new h1) upd_same) hd⟩
/-- an f-string of two parts or more -/
def tJoin (ts : List TE) : TE := fun σ H Q => tJs ts Str.empty σ H fun out H1 => Q (.str out) H1
theorem pe_joinedN {X : Cx} {v1 v2 : Expr} {rest : List Expr} {ts : List TE} {pos : Pos} (h : PJ X (v1 :: v2 :: rest) ts) : PE X (.JoinedStr (v1 :: v2 :: rest) pos) (tJoin ts) := pe_joined h
def rJoinQ (K : PySem.W.Frag) : V → List V → Hp → VK → Prop := fun x xs H Q => ∃ a p, ∃ ys : List Str, x = .str a ∧ xs = [.ref p] ∧ (SqL K H p (ys.map V.str) ∨ SqT K H p (ys.map V.str)) ∧ (ys.map (·.length)).sum + ys.length * a.length ≤ 16777216 ∧ Q (.str (Txt.join a ys)) H
theorem m_join {X : Cx} : MtR X "str.join" (rJoinQ X.K) := mt_join
theorem join {a : Str} {p : Addr} {ys : List Str} (h : SqL K H p (ys.map V.str)) (hz : (ys.map (·.length)).sum + ys.length * a.length ≤ 16777216) (q : Q (.str (Txt.join a ys)) H) : rJoinQ K (.str a) [.ref p] H Q := ⟨a, p, ys, rfl, rfl, .inl h, hz, q⟩
theorem lens_le {n : Nat} : ∀ {ys : List Str}, (∀ y ∈ ys, y.length ≤ n) → (ys.map (·.length)).sum ≤ n * ys.length
  | [], _ => by simp
  | y :: r, h => by
    have h1 := h y (by simp)
    have h2 := lens_le (n := n) (ys := r) fun z hz => h z (by simp [hz])
    rw [List.map_cons, List.sum_cons, List.length_cons, Nat.mul_add]
    omega
theorem mulS {x : Str} {k : Nat} (h1 : 2 ≤ k) (h2 : k ≤ 100000) (h3 : 1 ≤ x.length) (h4 : x.length ≤ 100) (q : Q (.str (RL.repS x k)) H) : RL.rMulS (.str x) (.int (k : Int)) H Q := ⟨x, k, rfl, rfl, h1, h2, h3, h4, q⟩
theorem cat {l b : Addr} {xs zs : List V} (h : H l = some (.lst xs)) (h2 : H b = some (.lst zs)) (hz : xs.length + zs.length ≤ 100000) (q : ∀ p H1, H p = none → Kp [] H H1 → H1 p = some (.lst (xs ++ zs)) → Q (.ref p) H1) : rCat (.ref l) (.ref b) H Q := ⟨l, b, xs, zs, rfl, rfl, h, h2, Nat.le_trans hz (by decide), mk q⟩
end
end Z

/-! ### zip of two lists of one length -/
namespace Z
open PySem L2
section
variable {σ : St} {H : Hp} {Q : VK} {te : TE} {D : Ends} {K : PySem.W.Frag}
def ZipK (K : PySem.W.Frag) (R : It → Hp → Prop) (vs : List V) (H1 : Hp) : Prop := ∃ a b xs ys, vs = [.ref a, .ref b] ∧ SqL K H1 a xs ∧ SqL K H1 b ys ∧ R (Itz K a b) H1
theorem izip {a : TA} {R : It → Hp → Prop} (h : a σ H (ZipK K R)) : iZip K a σ H R := h
theorem forz {g : TG} {tb : TS} {a b : Addr} (xs ys : List V) (hn : xs.length = ys.length) (hS : SqL K H a xs) (hS2 : SqL K H b ys) (Pv : Nat → St → Hp → Prop) (h0 : Pv 0 σ H) (hl : ∀ i σ H, i ≤ xs.length → Pv i σ H → SqL K H a xs ∧ SqL K H b ys)
    (hs : ∀ i x y σ H H' T, xs[i]? = some x → ys[i]? = some y → Pv i σ H → H T = none → Kp [] H H' → H' T = some (.tup [x, y]) → g (.ref T) σ H' fun σ2 H2 => tb { D with nx := Pv (i + 1), ct := Pv (i + 1), bk := D.nx } σ2 H2) (hd : ∀ σ H, Pv xs.length σ H → D.nx σ H) : ZipK K (ForK g tb D σ) [.ref a, .ref b] H :=
  ⟨a, b, xs, ys, rfl, hS, hS2, for_it (walk_zip (K := K) (a := a) (b := b) (xs := xs) (ys := ys) (n := xs.length) (by omega)) Pv h0 hl (fun i v σ H H' hi p y => by
    obtain ⟨T, x, z, rfl, h1, rfl, h2, h3⟩ := y
    exact hs i x z σ H _ T h2 h3 p h1 (Kp.new h1) upd_same) hd⟩
theorem lcz {g : TG} {tt : TT} {vs : List Nat} {a b : Addr} (xs ys : List V) (hn : xs.length = ys.length) (hS : SqL K H a xs) (hS2 : SqL K H b ys) (Pv : Addr → Nat → Hp → Prop) (h0 : ∀ D H1, H D = none → Kp [] H H1 → H1 D = some (.lst []) → Pv D 0 H1)
    (hl : ∀ D i H1, H D = none → Pv D i H1 → SqL K H1 a xs ∧ SqL K H1 b ys)
    (hs : ∀ D i x y H1 H1' T, H D = none → xs[i]? = some x → ys[i]? = some y → Pv D i H1 → H1 T = none → Kp [] H1 H1' → H1' T = some (.tup [x, y]) → g (.ref T) (wipe σ vs) H1' fun σ2 H2 => wipe σ2 vs = wipe σ vs ∧ tt σ2 H2 fun b H3 => if b = true then te σ2 H3 fun y H4 => ∃ acc, H4 D = some (.lst acc) ∧ acc.length < sizeLine ∧ Pv D (i + 1) (upd H4 D (.lst (acc ++ [y]))) else Pv D (i + 1) H3)
    (hd : ∀ D H1, H D = none → Pv D xs.length H1 → Q (.ref D) H1) : ZipK K (LcK g tt te vs σ Q) [.ref a, .ref b] H :=
  ⟨a, b, xs, ys, rfl, hS, hS2, fun D hD => lc_it (walk_zip (K := K) (a := a) (b := b) (xs := xs) (ys := ys) (n := xs.length) (by omega)) (Pv D) (h0 D _ hD (Kp.new hD) upd_same) (fun _ _ _ p => hl D _ _ hD p) (fun i v H H' hi p y => by
    obtain ⟨T, x, z, rfl, h1, rfl, h2, h3⟩ := y
    exact hs D i x z H _ T hD h2 h3 p h1 (Kp.new h1) upd_same) fun H1 p => hd D H1 hD p⟩
end
end Z

namespace Z
open PySem L2
/-- what is never reached -/
def tDead : TS := fun _ _ _ => False
theorem ps_dead {X : Cx} {s : Stmt} : PS X s tDead := ⟨fun _ _ _ _ _ _ h => h.elim⟩
theorem u65 {k : Nat} {A : Around} (hr : Room k A) : A.units + 65 < cLine := by have := hr.un; omega
end Z

namespace Z
open PySem L2
/-! range(lo, e) -/
def Rng2K (R : It → Hp → Prop) (vs : List V) (H1 : Hp) : Prop := ∃ i j : Int, vs = [.int i, .int j] ∧ (-(2 ^ 62) ≤ i ∧ i < 2 ^ 62 ∧ -(2 ^ 62) ≤ j ∧ j < 2 ^ 62) ∧ R (Itr i (j - i).toNat) H1
theorem irng2 {a : TA} {σ : L2.St} {H : Hp} {R : It → Hp → Prop} (h : a σ H (Rng2K R)) : iRng2 a σ H R := h
theorem forr2 {σ : L2.St} {H : Hp} {D : Ends} {g : TG} {tb : TS} {lo e : Int} (n : Nat) (he : (e - lo).toNat = n) (hb : -1000000 ≤ lo ∧ lo ≤ 1000000 ∧ -1000000 ≤ e ∧ e ≤ 1000000) (Pv : Nat → L2.St → Hp → Prop) (h0 : Pv 0 σ H)
    (hs : ∀ i σ H, i < n → Pv i σ H → g (.int (lo + (i : Int))) σ H fun σ2 H2 => tb { D with nx := Pv (i + 1), ct := Pv (i + 1), bk := D.nx } σ2 H2) (hd : ∀ σ H, Pv n σ H → D.nx σ H) : Rng2K (ForK g tb D σ) [.int lo, .int e] H := by
  refine ⟨lo, e, rfl, ⟨by omega, by omega, by omega, by omega⟩, ?_⟩
  rw [he]
  exact for_range (lo := lo) (n := n) Pv h0 (fun i σ H1 hi p => hs i σ H1 hi p) hd
end Z

namespace Z
open PySem L2
/-! reversed(range(n)) -/
def RevRK (R : It → Hp → Prop) (a b : Int) (H1 : Hp) : Prop := -(2 ^ 62) ≤ a ∧ a < 2 ^ 62 ∧ -(2 ^ 62) ≤ b ∧ b < 2 ^ 62 ∧ R (Itc (a + (((b - a).toNat : Nat) : Int) - 1) (-1) (b - a).toNat) H1
theorem irevr {tr : L2.St → Hp → (Int → Int → Hp → Prop) → Prop} {σ : L2.St} {H : Hp} {R : It → Hp → Prop} (h : tr σ H (RevRK R)) : iRevR tr σ H R := h
def Rg1K (R : Int → Int → Hp → Prop) (x : V) (H1 : Hp) : Prop := ∃ n : Int, x = .int n ∧ R 0 n H1
theorem rg1 {ta : TE} {σ : L2.St} {H : Hp} {R : Int → Int → Hp → Prop} (h : ta σ H (Rg1K R)) : tRg1 ta σ H R := h
theorem forrv {σ : L2.St} {H : Hp} {D : Ends} {g : TG} {tb : TS} {e : Int} (n : Nat) (he : e = (n : Int)) (hb : n < 4611686018427387904) (Pv : Nat → L2.St → Hp → Prop) (h0 : Pv 0 σ H)
    (hs : ∀ i σ H, i < n → Pv i σ H → g (.int ((n - 1 - i : Nat) : Int)) σ H fun σ2 H2 => tb { D with nx := Pv (i + 1), ct := Pv (i + 1), bk := D.nx } σ2 H2) (hd : ∀ σ H, Pv n σ H → D.nx σ H) : Rg1K (RevRK (ForK g tb D σ)) (.int e) H := by
  subst he
  refine ⟨(n : Int), rfl, by omega, by omega, by omega, by omega, ?_⟩
  rw [show ((n : Int) - 0).toNat = n by omega]
  refine for_rangeC Pv h0 (fun i σ H1 hi p => ?_) hd
  rw [show (0 + (n : Int) - 1 + (i : Int) * -1) = ((n - 1 - i : Nat) : Int) by omega]
  exact hs i σ H1 hi p
end Z

/-! ### sorted(xs, key=lambda x: x[0]) -/
namespace LamK
open PySem PySem.Spec PyProof.Rows L2 LamX PySem.W
/-- a lambda's names: its parameter alone, and globals -/
structure KeyS (scope : Scope) (x : Str) : Prop where
  kind : scope.kind = .function
  co : scope.isCoroutine = false
  gen : scope.isGenerator = false
  own : ∀ y ∈ scope.names, y.2 ≠ .cell ∧ y.2 ≠ .free
  loc : scope.names.lookup x = some .local
def keySB (scope : Scope) (x : Str) : Bool := decide (scope.kind = .function) && !scope.isCoroutine && !scope.isGenerator && (scope.names.all fun y => !decide (y.2 = .cell) && !decide (y.2 = .free)) && decide (scope.names.lookup x = some .local)
theorem keyS_by {scope : Scope} {x : Str} (h : keySB scope x = true) : KeyS scope x := by
  unfold keySB at h
  simp only [Bool.and_eq_true, Bool.not_eq_true', decide_eq_true_eq, decide_eq_false_iff_not, List.all_eq_true] at h
  obtain ⟨⟨⟨⟨h1, h2⟩, h3⟩, h4⟩, h5⟩ := h
  exact ⟨h1, h2, h3, h4, h5⟩
section
variable {prog : Program} {w : World} {A : Around} {s : Shared}
theorem key_call {f c' t : Addr} {name qual : Str} {params : Arguments} {scope : Scope} {cl : List (Str × Addr)} {pm ctv : Value} {x : Str} {j : Nat} {p1 p2 p3 : Pos} {its : Array Value} {u : Value} {k : PyData}
    (ho : s.heap.get? f = some (PySem.W.kla_obj name qual params (.Subscript (.Name x p1) (.Constant (.int 0) j p2) p3) scope cl pm c' ctv)) (hcd : s.heap.CodeRec (.ref c') qual) (hroom : A.depth < recursionLimit) (hl : s.heap.NoLimit)
    (hbind : bindArgs (PySem.W.kla_fn name qual params (.Subscript (.Name x p1) (.Constant (.int 0) j p2) p3) scope cl pm (.ref c') ctv) ⟨[.ref t], []⟩ = pure [(x, .ref t)])
    (S : KeyS scope x) (ht : IsTup s.heap t its) (hu : its[0]? = some u) (hk : Reads s.heap u k []) (hd : (x == ("__debug__" : Str)) = false) :
    wpAny (model prog w) A (call (.ref f) [.ref t]) (PySem.W.KeyPure k s) (fun _ _ => False) s := by
  refine wpAny_call (codeAny_mono (R := fun r s' => ∃ v, r = .ok (.ret v) ∧ PySem.W.KeyPure k s v s') ?_ fun r s' hq => ?_)
  · refine PySem.W.kla_callFunE hroom ho rfl S.co S.gen rfl hcd ?_
    rw [hbind]
    refine wpAny_pure (wpAny_newFunctionEnv (fun y hy => (S.own y hy).1) (fun y hy => ?_) (fun h₁ hns hsb => ⟨hl.fresh _ hsb, ?_⟩) S.kind)
    · rw [List.mem_singleton.mp hy]
      exact S.loc
    · have kp : ∀ b o, s.heap.get? b = some o → h₁.get? b = some o := fun b o e => hsb.extBut b o (Nat.ne_of_lt (Heap.lt_size e)) (Heap.get?_push_of_some _ e)
      have ht1 : IsTup h₁ t its := ht.keeps kp
      refine PySem.W.kla_codeExpr ?_
      refine Subscript_ ?_
      refine wpAny_Name (wpAny_loadName_local (v := .ref t) S.kind S.loc hns (by simp) ?_) hd
      refine wpAny_Constant_int ?_
      refine subscriptTail_builtinR (x := u) ht1.typeIs slot_tuple_getitem.lookup (getItem_tuple (j := 0) ht1 (by decide) (by decide) (seqIndex_of (by decide) (by have := (Array.getElem?_eq_some_iff.mp hu).1; omega)) hu ⟨rfl, ?_⟩)
      refine ⟨u, rfl, h₁, _, rfl, kp, PyProof.Rows.Reads.keeps kp hk⟩
  · obtain ⟨v, rfl, h⟩ := hq
    exact h
end
mutual
/-- data without lists and dicts -/
def noLst : PyData → Bool
  | .list _ => false
  | .dict _ => false
  | .tuple xs => noLstAll xs
  | .none => true
  | .bool _ => true
  | .int _ => true
  | .str _ => true
def noLstAll : List PyData → Bool
  | [] => true
  | d :: ds => noLst d && noLstAll ds
end
mutual
theorem reads_flat {h : Heap} : ∀ (d : PyData) {v : Value} {as : List Addr}, noLst d = true → Reads h v d as → as = []
  | .none, _, _, _, .none => rfl
  | .bool _, _, _, _, .bool _ => rfl
  | .int _, _, _, _, .int _ _ => rfl
  | .str _, _, _, _, .str _ _ => rfl
  | .list _, _, _, z, _ => by simp [noLst] at z
  | .dict _, _, _, z, _ => by simp [noLst] at z
  | .tuple xs, _, _, z, .tuple _ _ _ r => reads_flatAll xs (by simpa [noLst] using z) r
theorem reads_flatAll {h : Heap} : ∀ (ds : List PyData) {vs : List Value} {as : List Addr}, noLstAll ds = true → ReadsAll h vs ds as → as = []
  | [], _, _, _, .nil => rfl
  | d :: ds, _, _, z, .cons r rs => by
    have z' : noLst d = true ∧ noLstAll ds = true := by simpa [noLstAll] using z
    rw [reads_flat d z'.1 r, reads_flatAll ds z'.2 rs]
    rfl
end
/-- the rows at ts are tuples, the first items the keys ds -/
def KeyRows (K : PySem.W.Frag) (H : Hp) (bs : List (Addr × PyData)) : Prop := ∀ b ∈ bs, noLst b.2 = true ∧ b.2.depth ≤ 60 ∧ ∃ xs y, SqT K H b.1 xs ∧ xs[0]? = some y ∧ Dp K H y b.2
def KeyOk (ds : List PyData) : Prop := PySem.W.AllAlike ds ∧ PySem.W.Sortable ds
def tSortLam (K : PySem.W.Frag) (T : List (Addr × Str)) (t : TA) : TE := fun σ H Q => t σ H fun vs H1 => Tabs T H1 ∧ ∃ (a : Addr) (bs : List (Addr × PyData)), vs = [.ref a] ∧ SqL K H1 a (bs.map fun b => V.ref b.1) ∧ KeyRows K H1 bs ∧ KeyOk (bs.map Prod.snd) ∧
  ∀ H2 l, ExtN H1 H2 → Tabs T H2 → H2 l = none → Q (.ref l) (upd H2 l (.lst ((bs.mergeSort (PySem.W.dataLe false Prod.snd)).map fun b => V.ref b.1)))
theorem ext_rd {H H' : Hp} (e : ExtN H H') {a : Addr} {u : HO} (n : ∀ ps, u ≠ .tbl ps) (h : Rd H a u) : Rd H' a u := by
  rcases h with h | ⟨o, h⟩
  · exact .inl (e _ _ h n)
  · exact .inr ⟨o, e _ _ h fun ps z => by cases z⟩
theorem ext_seq {K : PySem.W.Frag} {H H' : Hp} (e : ExtN H H') {a : Addr} {xs : List V} (h : SqL K H a xs) : SqL K H' a xs := h.elim (fun h => .inl (ext_rd e (fun ps z => by cases z) h)) .inr
theorem ext_tup {K : PySem.W.Frag} {H H' : Hp} (e : ExtN H H') {a : Addr} {xs : List V} (h : SqT K H a xs) : SqT K H' a xs := h.elim (fun h => .inl (ext_rd e (fun ps z => by cases z) h)) .inr
mutual
theorem ext_dp {K : PySem.W.Frag} {H H' : Hp} (e : ExtN H H') : ∀ (d : PyData) {v : V}, Dp K H v d → Dp K H' v d
  | .none, _, .non => .non
  | .bool _, _, .bl b => .bl b
  | .int _, _, .int i => .int i
  | .str _, _, .str x => .str x
  | .list ds, _, .lst h r => .lst (ext_seq e h) (ext_dpAll e ds r)
  | .tuple ds, _, .tup h r => .tup (ext_tup e h) (ext_dpAll e ds r)
theorem ext_dpAll {K : PySem.W.Frag} {H H' : Hp} (e : ExtN H H') : ∀ (ds : List PyData) {vs : List V}, DpAll K H vs ds → DpAll K H' vs ds
  | [], _, .nil => .nil
  | d :: ds, _, .cons h r => .cons (ext_dp e d h) (ext_dpAll e ds r)
end
theorem ext_rows {K : PySem.W.Frag} {H H' : Hp} (e : ExtN H H') {bs : List (Addr × PyData)} (h : KeyRows K H bs) : KeyRows K H' bs := fun b hb => by
  obtain ⟨h1, h2, xs, y, h3, h4, h5⟩ := h b hb
  exact ⟨h1, h2, xs, y, ext_tup e h3, h4, ext_dp e _ h5⟩
theorem vals_refs : ∀ {bs : List (Addr × PyData)} {us : List Value}, Vals (bs.map fun b => V.ref b.1) us → us = bs.map fun b => Value.ref b.1
  | [], _, .nil => rfl
  | b :: bs, _, .cons r rs => by
    obtain rfl : _ = Value.ref b.1 := r
    rw [vals_refs rs]
    rfl
theorem refs_vals : ∀ bs : List (Addr × PyData), Vals (bs.map fun b => V.ref b.1) (bs.map fun b => Value.ref b.1)
  | [] => .nil
  | _ :: bs => .cons rfl (refs_vals bs)
def KeyAt (h : Heap) (v : Value) (b : Addr × PyData) : Prop := v = .ref b.1 ∧ ∃ its u, IsTup h b.1 its ∧ its[0]? = some u ∧ Reads h u b.2 []
theorem each_at {h : Heap} : ∀ {bs : List (Addr × PyData)}, (∀ b ∈ bs, KeyAt h (.ref b.1) b) → PySem.W.EachIs (KeyAt h) (bs.map fun b => Value.ref b.1) bs
  | [], _ => .nil
  | b :: bs, z => .cons (z b (by simp)) (each_at (bs := bs) fun x hx => z x (by simp [hx]))
theorem each_refs {h : Heap} : ∀ {us : List Value} {bs : List (Addr × PyData)}, PySem.W.EachIs (KeyAt h) us bs → us = bs.map fun b => Value.ref b.1
  | _, _, .nil => rfl
  | _, _, .cons r rs => by rw [r.1, each_refs rs]; rfl
theorem pe_sortLam {X : Cx} {T : List (Addr × Str)} {c P : Addr} {e : Expr} {t : TA} {x : Str} {j k : Nat} {params : Arguments} {scope : Scope} {lpos p1 p2 p3 kpos p pos : Pos} (hg : Gl X "sorted") (hm : X.mg "sorted" = none) (ha : PA X [e] t)
    (TB : TabB X.base X.mg c P) (hcode : X.env.code = .ref c) (hmT : (P, X.env.qual ++ "<lambda>") ∈ T) (hu : ∀ q ∈ T, q.1 = P → q.2 = X.env.qual ++ "<lambda>") (hr : Room k X.A) (S : KeyS scope x) (hdef : defaultsOf params X.env = ([], []))
    (hbind : ∀ (q : Str) (cl : List (Str × Addr)) (pm cv ctv v : Value), bindArgs (PySem.W.kla_fn "<lambda>" q params (.Subscript (.Name x p1) (.Constant (.int 0) j p2) p3) scope cl pm cv ctv) ⟨[v], []⟩ = pure [(x, v)])
    (hd : (x == ("__debug__" : Str)) = false := by decide) (hst : starEach [e] X.env = (false, eval e X.env) :: starEach [] X.env := by rfl) :
    PE X (.Call (.Name "sorted" p) [e] [⟨some "key", .Lambda params (.Subscript (.Name x p1) (.Constant (.int 0) j p2) p3) scope lpos, kpos⟩] pos) (tSortLam X.K T t) := by
  refine ⟨fun pins s σ H Q I h => ?_⟩
  refine wpAny_Call_Name_kw (ld_blt I hg hm PyProof.Rows.boot_sorted ?_ (by decide) (by decide))
  refine PyProof.Rows.callWith_kw ?_ (by rw [hst]; rfl) (by rw [hst]; rfl) (by rfl) (by rfl)
  refine thn (ha.run pos pins s σ H _ I h) fun us s1 ⟨vs, H1, I1, r1, q1⟩ => ?_
  obtain ⟨hT, a, bs, rfl, hS, hK, hO, q⟩ := q1
  obtain rfl := Vals.ref1 r1
  show wpAny _ _ (evalAll ((do let v ← eval (.Lambda params (.Subscript (.Name x p1) (.Constant (.int 0) j p2) p3) scope lpos) X.env; standAt pos; pure v) :: [])) _ _ s1
  refine wpAny_evalAll_cons (wpAny_bind (lam_make2 I1 TB hcode hmT hu hT hdef (fun y hy z => absurd z (S.own y hy).2) fun f c' pm ctv H2 s2 I2 eN T2 hf hfn hfr hco => ?_))
  refine wpAny_bind (wpAny_standAt (wpAny_pure ?_))
  refine wpAny_evalAll_nil ?_
  obtain ⟨⟨oc, us, t, hoc, hdc, hvc⟩, _, _⟩ := I2.hok c' _ hco
  have kS := ext_seq eN hS
  have kR := ext_rows eN hK
  obtain ⟨its, rv, hl, hz⟩ := I2.list kS
  obtain rfl := vals_refs rv
  rw [List.length_map] at hz
  have room := hr.dp
  have roomU := hr.un
  have dpt : X.A.in1.in1.depth = X.A.depth := rfl
  have lim := I2.nolimit
  refine PySem.W.sorted_key_data (b := false) (R := KeyAt s2.heap) (bs := bs) (f := .ref f) (fun b : Addr × PyData => b.2) hl.isList (each_at fun b hb => ⟨rfl, ?_⟩) hO.1 hO.2 hz (fun b hb => ?_) (ksk_s1 _ _) (fun _ => ksk_l1 _ _) (fun _ => ksk_t1 _ _) (fun v b ⟨ev, its, u, ht, hu, hk⟩ hb h tk kp => ?_) fun out cc h' tk kp fresh hD hlen eo => ?_
  · obtain ⟨h1, h2, xs, y, h3, h4, h5⟩ := kR b hb
    obtain ⟨its, rv, pt, _⟩ := I2.tuple h3
    obtain ⟨u, hu, ru⟩ := rv.get h4
    obtain ⟨as, rd⟩ := Dp.reads I2 _ _ _ h5 ru
    rw [reads_flat _ h1 rd] at rd
    exact ⟨_, u, pt, by simpa using hu, rd⟩
  · have := (kR b hb).2.1
    omega
  · subst ev
    refine key_call (s := { s2 with heap := h, toks := tk }) (kp _ _ hf) ⟨c', oc, us, t, rfl, kp _ _ hoc, hdc, hvc⟩ (by rw [dpt]; omega) (lim.keeps kp) (hbind _ _ _ _ _ _) S (ht.keeps kp) hu (PyProof.Rows.Reads.keeps kp hk) hd
  · obtain rfl := each_refs eo
    refine ⟨.ref (s2.heap.objs.size + 1), _, I2.laid (t' := tk) kp (Nat.le_succ _) (o := .lst ((bs.mergeSort (PySem.W.dataLe false Prod.snd)).map fun b => V.ref b.1)) ⟨?_, _, cc, refs_vals _, hD⟩, rfl, q _ _ eN T2 (I2.hok.fresh (Nat.le_succ _))⟩
    rw [List.length_map, List.length_mergeSort]
    exact hz
end LamK
namespace LamK
open PySem PySem.Spec PyProof.Rows L2 LamX
/-- a def that makes lambdas: its code object stands at c -/
def CodeFn (K : PySem.W.Frag) (f : Addr) (fd : FuncData) (st : Stmt) (x : Str) (c : Addr) : Prop :=
  ∃ (oc : Value) (od : Option Addr) (kV doc pm : Value) (an : Option Addr) (ct : Value) (osl : Array (Option Value)),
    fd = PySem.W.fnOf x x (defArgs st) (defBody st) (defScope st) .none kV doc pm an (.ref c) ct ∧ K.lookup f = some ⟨oc, od, .func fd, osl⟩ ∧ PySem.W.codeIn K (.ref c) x = true
/-- at l nothing is tracked, but for a table -/
def Nw (H : Hp) (l : Addr) : Prop := ∀ o, H l = some o → ∃ ps, o = .tbl ps
theorem Nw.of {H : Hp} {l : Addr} (h : H l = none) : Nw H l := fun o e => by rw [h] at e; cases e
theorem Nw.back {H H1 : Hp} {l : Addr} (h : Nw H1 l) (e : ExtN H H1) : Nw H l := fun o ho => by
  by_cases z : ∀ ps, o ≠ .tbl ps
  · obtain ⟨ps, q⟩ := h o (e l o ho z)
    exact absurd q (z ps)
  · simp only [Classical.not_forall, Classical.not_not, ne_eq] at z
    exact z
theorem Nw.ne {H : Hp} {l b : Addr} {o : HO} (h : Nw H l) (e : H b = some o) (n : ∀ ps, o ≠ .tbl ps) : b ≠ l := fun z => by
  rw [z] at e
  obtain ⟨ps, q⟩ := h o e
  exact n ps q
/-- what srt asks where the rows are read -/
def SrtK (K : PySem.W.Frag) (T : List (Addr × Str)) (Q : VK) : List V → Hp → Prop := fun vs H1 => Tabs T H1 ∧ ∃ (a : Addr) (bs : List (Addr × PyData)), vs = [.ref a] ∧ SqL K H1 a (bs.map fun b => V.ref b.1) ∧ KeyRows K H1 bs ∧ KeyOk (bs.map Prod.snd) ∧
  ∀ H2 l, ExtN H1 H2 → Tabs T H2 → H2 l = none → Q (.ref l) (upd H2 l (.lst ((bs.mergeSort (PySem.W.dataLe false Prod.snd)).map fun b => V.ref b.1)))
theorem srt {K : PySem.W.Frag} {T : List (Addr × Str)} {t : TA} {σ : L2.St} {H : Hp} {Q : VK} (h : t σ H (SrtK K T Q)) : tSortLam K T t σ H Q := h
theorem tabs_none {T : List (Addr × Str)} {H : Hp} {l : Addr} {o : HO} (t : Tabs T H) (h : H l = none) : Tabs T (upd H l o) := t.ext fun b u e => by rw [upd_ne (fun z => by rw [z, h] at e; cases e)]; exact e
theorem srtK {K : PySem.W.Frag} {T : List (Addr × Str)} {H : Hp} {Q : VK} {a : Addr} {bs : List (Addr × PyData)} (hT : Tabs T H) (hS : SqL K H a (bs.map fun b => V.ref b.1)) (hK : KeyRows K H bs) (hO : KeyOk (bs.map Prod.snd))
    (q : ∀ H3 l, ExtN H H3 → Tabs T H3 → Nw H l → H3 l = some (.lst ((bs.mergeSort (PySem.W.dataLe false Prod.snd)).map fun b => V.ref b.1)) → Q (.ref l) H3) : SrtK K T Q [.ref a] H :=
  ⟨hT, a, bs, rfl, hS, hK, hO, fun H2 l e t n => q _ l (fun b o h z => by
      have h2 := e b o h z
      rw [upd_ne (fun z => by rw [z, n] at h2; cases h2)]
      exact h2) (tabs_none t n) (Nw.back (Nw.of n) e) upd_same⟩
theorem ext_kp {H H' : Hp} (k : Z.Kp [] H H') : ExtN H H' := fun b o h _ => k b o (by simp) h
theorem ext_put {H H1 H2 : Hp} {l : Addr} (e : ExtN H H1) (k : Z.Kp [l] H1 H2) (n : Nw H l) : ExtN H H2 := fun b o h z => k b o (by
  intro y
  exact n.ne h z (List.mem_singleton.mp y)) (e b o h z)
theorem tabs_kp {T : List (Addr × Str)} {H H' : Hp} (t : Tabs T H) (k : Z.Kp [] H H') : Tabs T H' := t.ext fun b o h => k b o (by simp) h
/-- a list at l is written: tables stay -/
theorem tabs_put {T : List (Addr × Str)} {H H' : Hp} {l : Addr} {xs : List V} (t : Tabs T H) (k : Z.Kp [l] H H') (h : H l = some (.lst xs)) : Tabs T H' := fun p hp => by
  obtain ⟨ps, h1, h2, h3⟩ := t p hp
  have at' : ∀ {b : Addr} {o : HO}, H b = some o → o ≠ .lst xs → H' b = some o := fun {b o} e n => k b o (by
    intro y
    rw [List.mem_singleton.mp y, h] at e
    exact n (Option.some.inj e).symm) e
  exact ⟨ps, at' h1 (by simp), h2, fun pos cv hc => let ⟨c, e1, e2⟩ := h3 pos cv hc; ⟨c, e1, at' e2 (by unfold CodeO; simp)⟩⟩
theorem ext_get {H H' : Hp} (e : ExtN H H') {b : Addr} {o : HO} (h : H b = some o) (n : ∀ ps, o ≠ .tbl ps := by intro ps; simp) : H' b = some o := e b o h n
/-- o.m() within a try -/
def tMethX (C : Addr) (m : Str) (sp : Sp) (E : L2.St → XK) (ta : TE) : TE := fun σ H Q => ta σ H fun x H1 => ∃ a dx fs, x = .ref a ∧ H1 a = some (.ins C dx fs) ∧ fs.lookup m = none ∧ sp [x] H1 Q (E σ)
theorem pe_meth0X {X : Cx} {CX : CXT} {k : Nat} {f C : Addr} {fd : FuncData} {ps : List Str} {sp : Sp} {E : L2.St → XK} {m : Str} {pos apos : Pos} {o : Expr} {ta : TE} {pl : Sem Bool} (he : PE X o ta) (c : Cls X.K C) (hm : Meth X.K C m f) (F : FnOk X.prog X.w X.K X.mg X.base CX k f fd ps sp) (hr : Room k X.A) (hb : Binds X.K fd ps []) (hx : ∀ σ, PassesAt CX X σ (E σ))
    (ht : eval (.Call (.Attribute o m apos) [] [] pos) X.env = (do
      let ov ← eval o X.env
      standAt apos.atName
      let (f, first) ← holding [ov] (getMethod ov m pl)
      callWith pos f first (backTo pos (starEach [] X.env)) (backToKw pos (keywordEach [] X.env))) := by rfl) : PE X (.Call (.Attribute o m apos) [] [] pos) (tMethX C m sp E ta) := by
  refine ⟨fun pins s σ H Q I h => PySem.W.methodCall_KW (pl := pl) (thn (he.run pins s σ H _ I h) fun u s1 ⟨x, H1, I1, rx, a, dx, fs, ex, ea, l, q⟩ => ?_) ht⟩
  subst ex
  obtain rfl : u = Value.ref a := rx
  exact getmeth_ok I1 ea c hm l (PySem.W.callWith_K0 (first := [.ref a]) I1.kIn hm.kp (run_fnS (us := [.ref a]) (vs := [.ref a]) F hr hb (hx σ) I1 (.cons rfl .nil) q))
theorem methX {C : Addr} {m : Str} {sp : Sp} {E : L2.St → XK} {ta : TE} {σ : L2.St} {H : Hp} {Q : VK} (h : ta σ H fun x H1 => ∃ a dx fs, x = .ref a ∧ H1 a = some (.ins C dx fs) ∧ fs.lookup m = none ∧ sp [x] H1 Q (E σ)) : tMethX C m sp E ta σ H Q := h
end LamK


namespace K14
open PySem L2 Z
def topS (i : Nat) : Stmt := PySem.Challenge.pw_samphire_k14_most_runs.main.body.getD i (.Pass ⟨0, 0, 0, 0⟩)
abbrev s_lowest : Stmt := topS 10
abbrev N_lowest : List Str := ["p", "q", "common"]
theorem sc_lowest : FnScope N_lowest ["p", "q"] (defScope s_lowest) := ⟨rfl, rfl, rfl, by decide +kernel, rfl, by decide +kernel, by decide +kernel⟩
abbrev s_plus : Stmt := topS 11
abbrev N_plus : List Str := ["a", "b"]
theorem sc_plus : FnScope N_plus ["a", "b"] (defScope s_plus) := ⟨rfl, rfl, rfl, by decide +kernel, rfl, by decide +kernel, by decide +kernel⟩
abbrev s_times : Stmt := topS 12
abbrev N_times : List Str := ["a", "b"]
theorem sc_times : FnScope N_times ["a", "b"] (defScope s_times) := ⟨rfl, rfl, rfl, by decide +kernel, rfl, by decide +kernel, by decide +kernel⟩
abbrev s_less : Stmt := topS 13
abbrev N_less : List Str := ["a", "b"]
theorem sc_less : FnScope N_less ["a", "b"] (defScope s_less) := ⟨rfl, rfl, rfl, by decide +kernel, rfl, by decide +kernel, by decide +kernel⟩
abbrev s_sum_of : Stmt := topS 14
abbrev N_sum_of : List Str := ["fractions", "total", "fraction"]
theorem sc_sum_of : FnScope N_sum_of ["fractions"] (defScope s_sum_of) := ⟨rfl, rfl, rfl, by decide +kernel, rfl, by decide +kernel, by decide +kernel⟩
abbrev s_check_chances : Stmt := topS 16
abbrev N_check_chances : List Str := ["chances", "chance"]
theorem sc_check_chances : FnScope N_check_chances ["chances"] (defScope s_check_chances) := ⟨rfl, rfl, rfl, by decide +kernel, rfl, by decide +kernel, by decide +kernel⟩
abbrev s_law_from : Stmt := topS 17
abbrev N_law_from : List Str := ["rows", "found", "outcome", "chance"]
theorem sc_law_from : FnScope N_law_from ["rows"] (defScope s_law_from) := ⟨rfl, rfl, rfl, by decide +kernel, rfl, by decide +kernel, by decide +kernel⟩
abbrev s_next_number : Stmt := topS 20
abbrev N_next_number : List Str := ["weights", "start", "number"]
theorem sc_next_number : FnScope N_next_number ["weights", "start"] (defScope s_next_number) := ⟨rfl, rfl, rfl, by decide +kernel, rfl, by decide +kernel, by decide +kernel⟩
abbrev s_chance_behind : Stmt := topS 21
abbrev N_chance_behind : List Str := ["path", "weights", "total", "number", "before"]
theorem sc_chance_behind : FnScope N_chance_behind ["path"] (defScope s_chance_behind) := ⟨rfl, rfl, rfl, by decide +kernel, rfl, by decide +kernel, by decide +kernel⟩
abbrev s_following : Stmt := topS 22
abbrev N_following : List Str := ["path", "place", "weights", "total", "number", "before", "further"]
theorem sc_following : FnScope N_following ["path"] (defScope s_following) := ⟨rfl, rfl, rfl, by decide +kernel, rfl, by decide +kernel, by decide +kernel⟩
abbrev s_Explorer_init : Stmt := inClass (topS 23) 0
abbrev N_Explorer_init : List Str := ["self"]
theorem sc_Explorer_init : FnScope N_Explorer_init ["self"] (defScope s_Explorer_init) := ⟨rfl, rfl, rfl, by decide +kernel, rfl, by decide +kernel, by decide +kernel⟩
abbrev s_Explorer_begin : Stmt := inClass (topS 23) 1
abbrev N_Explorer_begin : List Str := ["self", "path"]
theorem sc_Explorer_begin : FnScope N_Explorer_begin ["self"] (defScope s_Explorer_begin) := ⟨rfl, rfl, rfl, by decide +kernel, rfl, by decide +kernel, by decide +kernel⟩
abbrev s_Explorer_pick : Stmt := inClass (topS 23) 2
abbrev N_Explorer_pick : List Str := ["self", "weights", "number"]
theorem sc_Explorer_pick : FnScope N_Explorer_pick ["self", "weights"] (defScope s_Explorer_pick) := ⟨rfl, rfl, rfl, by decide +kernel, rfl, by decide +kernel, by decide +kernel⟩
abbrev s_Explorer_end : Stmt := inClass (topS 23) 3
abbrev N_Explorer_end : List Str := ["self", "outcome"]
theorem sc_Explorer_end : FnScope N_Explorer_end ["self", "outcome"] (defScope s_Explorer_end) := ⟨rfl, rfl, rfl, by decide +kernel, rfl, by decide +kernel, by decide +kernel⟩
abbrev s_Explorer_runs : Stmt := inClass (topS 23) 4
abbrev N_Explorer_runs : List Str := ["self"]
theorem sc_Explorer_runs : FnScope N_Explorer_runs ["self"] (defScope s_Explorer_runs) := ⟨rfl, rfl, rfl, by decide +kernel, rfl, by decide +kernel, by decide +kernel⟩
abbrev s_Explorer_gathered : Stmt := inClass (topS 23) 5
abbrev N_Explorer_gathered : List Str := ["self"]
theorem sc_Explorer_gathered : FnScope N_Explorer_gathered ["self"] (defScope s_Explorer_gathered) := ⟨rfl, rfl, rfl, by decide +kernel, rfl, by decide +kernel, by decide +kernel⟩
abbrev s__law_deck : Stmt := topS 25
abbrev N__law_deck : List Str := ["script"]
theorem sc__law_deck : FnScope N__law_deck ["script"] (defScope s__law_deck) := ⟨rfl, rfl, rfl, by decide +kernel, rfl, by decide +kernel, by decide +kernel⟩
abbrev s__law_draw : Stmt := topS 26
abbrev N__law_draw : List Str := ["deck", "most", "value", "cell"]
theorem sc__law_draw : FnScope N__law_draw ["deck", "most"] (defScope s__law_draw) := ⟨rfl, rfl, rfl, by decide +kernel, rfl, by decide +kernel, by decide +kernel⟩
abbrev s__law_low : Stmt := topS 27
abbrev N__law_low : List Str := ["p", "q", "first", "second", "turn"]
theorem sc__law_low : FnScope N__law_low ["p", "q"] (defScope s__law_low) := ⟨rfl, rfl, rfl, by decide +kernel, rfl, by decide +kernel, by decide +kernel⟩
abbrev s__law_limit : Stmt := topS 31
abbrev N__law_limit : List Str := ["explorer", "e"]
theorem sc__law_limit : FnScope N__law_limit ["explorer"] (defScope s__law_limit) := ⟨rfl, rfl, rfl, by decide +kernel, rfl, by decide +kernel, by decide +kernel⟩
abbrev s_law : Stmt := topS 32
abbrev N_law : List Str := ["script", "deck", "side", "weights", "explorer", "turn", "first", "number"]
theorem sc_law : FnScope N_law ["script"] (defScope s_law) := ⟨rfl, rfl, rfl, by decide +kernel, rfl, by decide +kernel, by decide +kernel⟩
abbrev s_TooLarge_init : Stmt := inClass (topS 3) 0
abbrev N_TooLarge_init : List Str := ["self", "limit", "__class__"]
theorem sc_TooLarge_init : NdefX.NScope N_TooLarge_init ["self", "limit"] ["__class__"] (defScope s_TooLarge_init) := NdefX.nscope_by (by decide +kernel)
abbrev NF_TooLarge (cc c : Addr) : NdefX.NF := ⟨"__init__", "TooLarge.__init__", defArgs s_TooLarge_init, defBody s_TooLarge_init, defScope s_TooLarge_init, [(("__class__" : Str), cc)], c⟩
abbrev s_ZeroDenominator_init : Stmt := inClass (topS 4) 0
abbrev N_ZeroDenominator_init : List Str := ["self", "__class__"]
theorem sc_ZeroDenominator_init : NdefX.NScope N_ZeroDenominator_init ["self"] ["__class__"] (defScope s_ZeroDenominator_init) := NdefX.nscope_by (by decide +kernel)
abbrev NF_ZeroDenominator (cc c : Addr) : NdefX.NF := ⟨"__init__", "ZeroDenominator.__init__", defArgs s_ZeroDenominator_init, defBody s_ZeroDenominator_init, defScope s_ZeroDenominator_init, [(("__class__" : Str), cc)], c⟩
abbrev s_InvalidLaw_init : Stmt := inClass (topS 5) 0
abbrev N_InvalidLaw_init : List Str := ["self", "__class__"]
theorem sc_InvalidLaw_init : NdefX.NScope N_InvalidLaw_init ["self"] ["__class__"] (defScope s_InvalidLaw_init) := NdefX.nscope_by (by decide +kernel)
abbrev NF_InvalidLaw (cc c : Addr) : NdefX.NF := ⟨"__init__", "InvalidLaw.__init__", defArgs s_InvalidLaw_init, defBody s_InvalidLaw_init, defScope s_InvalidLaw_init, [(("__class__" : Str), cc)], c⟩
abbrev s_NotEnded_init : Stmt := inClass (topS 6) 0
abbrev N_NotEnded_init : List Str := ["self", "__class__"]
theorem sc_NotEnded_init : NdefX.NScope N_NotEnded_init ["self"] ["__class__"] (defScope s_NotEnded_init) := NdefX.nscope_by (by decide +kernel)
abbrev NF_NotEnded (cc c : Addr) : NdefX.NF := ⟨"__init__", "NotEnded.__init__", defArgs s_NotEnded_init, defBody s_NotEnded_init, defScope s_NotEnded_init, [(("__class__" : Str), cc)], c⟩
structure T (P : Program) (K : PySem.W.Frag) (mg : Str → Option Value) (base : Heap) where
  a_lowest : Addr
  fd_lowest : FuncData
  F_lowest : Fun K "lowest" "lowest" s_lowest a_lowest fd_lowest
  b_lowest : Binds K fd_lowest ["p", "q"] []
  g_lowest : mg "lowest" = some (.ref a_lowest)
  a_plus : Addr
  fd_plus : FuncData
  F_plus : Fun K "plus" "plus" s_plus a_plus fd_plus
  b_plus : Binds K fd_plus ["a", "b"] []
  g_plus : mg "plus" = some (.ref a_plus)
  a_times : Addr
  fd_times : FuncData
  F_times : Fun K "times" "times" s_times a_times fd_times
  b_times : Binds K fd_times ["a", "b"] []
  g_times : mg "times" = some (.ref a_times)
  a_less : Addr
  fd_less : FuncData
  F_less : Fun K "less" "less" s_less a_less fd_less
  b_less : Binds K fd_less ["a", "b"] []
  g_less : mg "less" = some (.ref a_less)
  a_sum_of : Addr
  fd_sum_of : FuncData
  F_sum_of : Fun K "sum_of" "sum_of" s_sum_of a_sum_of fd_sum_of
  b_sum_of : Binds K fd_sum_of ["fractions"] []
  g_sum_of : mg "sum_of" = some (.ref a_sum_of)
  a_check_chances : Addr
  fd_check_chances : FuncData
  F_check_chances : Fun K "check_chances" "check_chances" s_check_chances a_check_chances fd_check_chances
  b_check_chances : Binds K fd_check_chances ["chances"] []
  g_check_chances : mg "check_chances" = some (.ref a_check_chances)
  a_law_from : Addr
  fd_law_from : FuncData
  F_law_from : Fun K "law_from" "law_from" s_law_from a_law_from fd_law_from
  b_law_from : Binds K fd_law_from ["rows"] []
  g_law_from : mg "law_from" = some (.ref a_law_from)
  a_next_number : Addr
  fd_next_number : FuncData
  F_next_number : Fun K "next_number" "next_number" s_next_number a_next_number fd_next_number
  b_next_number : Binds K fd_next_number ["weights", "start"] []
  g_next_number : mg "next_number" = some (.ref a_next_number)
  a_chance_behind : Addr
  fd_chance_behind : FuncData
  F_chance_behind : Fun K "chance_behind" "chance_behind" s_chance_behind a_chance_behind fd_chance_behind
  b_chance_behind : Binds K fd_chance_behind ["path"] []
  g_chance_behind : mg "chance_behind" = some (.ref a_chance_behind)
  a_following : Addr
  fd_following : FuncData
  F_following : Fun K "following" "following" s_following a_following fd_following
  b_following : Binds K fd_following ["path"] []
  g_following : mg "following" = some (.ref a_following)
  a_Explorer_init : Addr
  fd_Explorer_init : FuncData
  F_Explorer_init : Fun K "__init__" "Explorer.__init__" s_Explorer_init a_Explorer_init fd_Explorer_init
  b_Explorer_init : Binds K fd_Explorer_init ["self"] []
  a_Explorer_begin : Addr
  fd_Explorer_begin : FuncData
  F_Explorer_begin : Fun K "begin" "Explorer.begin" s_Explorer_begin a_Explorer_begin fd_Explorer_begin
  b_Explorer_begin : Binds K fd_Explorer_begin ["self"] []
  a_Explorer_pick : Addr
  fd_Explorer_pick : FuncData
  F_Explorer_pick : Fun K "pick" "Explorer.pick" s_Explorer_pick a_Explorer_pick fd_Explorer_pick
  b_Explorer_pick : Binds K fd_Explorer_pick ["self", "weights"] []
  a_Explorer_end : Addr
  fd_Explorer_end : FuncData
  F_Explorer_end : Fun K "end" "Explorer.end" s_Explorer_end a_Explorer_end fd_Explorer_end
  b_Explorer_end : Binds K fd_Explorer_end ["self", "outcome"] []
  a_Explorer_runs : Addr
  fd_Explorer_runs : FuncData
  F_Explorer_runs : Fun K "runs" "Explorer.runs" s_Explorer_runs a_Explorer_runs fd_Explorer_runs
  b_Explorer_runs : Binds K fd_Explorer_runs ["self"] []
  a_Explorer_gathered : Addr
  fd_Explorer_gathered : FuncData
  F_Explorer_gathered : Fun K "gathered" "Explorer.gathered" s_Explorer_gathered a_Explorer_gathered fd_Explorer_gathered
  b_Explorer_gathered : Binds K fd_Explorer_gathered ["self"] []
  a__law_deck : Addr
  fd__law_deck : FuncData
  F__law_deck : Fun K "_law_deck" "_law_deck" s__law_deck a__law_deck fd__law_deck
  b__law_deck : Binds K fd__law_deck ["script"] []
  g__law_deck : mg "_law_deck" = some (.ref a__law_deck)
  a__law_draw : Addr
  fd__law_draw : FuncData
  F__law_draw : Fun K "_law_draw" "_law_draw" s__law_draw a__law_draw fd__law_draw
  b__law_draw : Binds K fd__law_draw ["deck", "most"] []
  g__law_draw : mg "_law_draw" = some (.ref a__law_draw)
  a__law_low : Addr
  fd__law_low : FuncData
  F__law_low : Fun K "_law_low" "_law_low" s__law_low a__law_low fd__law_low
  b__law_low : Binds K fd__law_low ["p", "q"] []
  g__law_low : mg "_law_low" = some (.ref a__law_low)
  a__law_limit : Addr
  fd__law_limit : FuncData
  F__law_limit : Fun K "_law_limit" "_law_limit" s__law_limit a__law_limit fd__law_limit
  b__law_limit : Binds K fd__law_limit ["explorer"] []
  g__law_limit : mg "_law_limit" = some (.ref a__law_limit)
  a_law : Addr
  fd_law : FuncData
  F_law : Fun K "law" "law" s_law a_law fd_law
  b_law : Binds K fd_law ["script"] []
  g_law : mg "law" = some (.ref a_law)
  C_Explorer : Addr
  cl_Explorer : Cls K C_Explorer
  mg_Explorer : mg "Explorer" = some (.ref C_Explorer)
  mk_Explorer : Mk K C_Explorer a_Explorer_init
  na_Explorer__path : NoAttr K C_Explorer "_path"
  na_Explorer__made : NoAttr K C_Explorer "_made"
  na_Explorer__running : NoAttr K C_Explorer "_running"
  na_Explorer__finished : NoAttr K C_Explorer "_finished"
  na_Explorer__rows : NoAttr K C_Explorer "_rows"
  me_Explorer_begin : Meth K C_Explorer "begin" a_Explorer_begin
  me_Explorer_pick : Meth K C_Explorer "pick" a_Explorer_pick
  me_Explorer_end : Meth K C_Explorer "end" a_Explorer_end
  me_Explorer_runs : Meth K C_Explorer "runs" a_Explorer_runs
  me_Explorer_gathered : Meth K C_Explorer "gathered" a_Explorer_gathered
  C_SamphireError : Addr
  mg_SamphireError : mg "SamphireError" = some (.ref C_SamphireError)
  C_TooLarge : Addr
  a_TooLarge_init : Addr
  c_TooLarge : Addr
  cc_TooLarge : Addr
  x_TooLarge : Sup.ExcT P K mg "TooLarge" C_TooLarge a_TooLarge_init c_TooLarge cc_TooLarge
  doc_TooLarge : Value
  pm_TooLarge : Value
  ctv_TooLarge : Value
  oc_TooLarge : Value
  od_TooLarge : Option Addr
  osl_TooLarge : Array (Option Value)
  lk_TooLarge : K.lookup a_TooLarge_init = some ⟨oc_TooLarge, od_TooLarge, .func ((NF_TooLarge cc_TooLarge c_TooLarge).fd doc_TooLarge pm_TooLarge ctv_TooLarge), osl_TooLarge⟩
  hc_TooLarge : PySem.W.codeIn K (.ref c_TooLarge) "TooLarge.__init__" = true
  bx_TooLarge : Binds K ((NF_TooLarge cc_TooLarge c_TooLarge).fd doc_TooLarge pm_TooLarge ctv_TooLarge) ["self", "limit"] []
  nf_TooLarge_limit : PySem.W.findIn K (.ref C_TooLarge) "limit" = some none
  C_ZeroDenominator : Addr
  a_ZeroDenominator_init : Addr
  c_ZeroDenominator : Addr
  cc_ZeroDenominator : Addr
  x_ZeroDenominator : Sup.ExcT P K mg "ZeroDenominator" C_ZeroDenominator a_ZeroDenominator_init c_ZeroDenominator cc_ZeroDenominator
  doc_ZeroDenominator : Value
  pm_ZeroDenominator : Value
  ctv_ZeroDenominator : Value
  oc_ZeroDenominator : Value
  od_ZeroDenominator : Option Addr
  osl_ZeroDenominator : Array (Option Value)
  lk_ZeroDenominator : K.lookup a_ZeroDenominator_init = some ⟨oc_ZeroDenominator, od_ZeroDenominator, .func ((NF_ZeroDenominator cc_ZeroDenominator c_ZeroDenominator).fd doc_ZeroDenominator pm_ZeroDenominator ctv_ZeroDenominator), osl_ZeroDenominator⟩
  hc_ZeroDenominator : PySem.W.codeIn K (.ref c_ZeroDenominator) "ZeroDenominator.__init__" = true
  bx_ZeroDenominator : Binds K ((NF_ZeroDenominator cc_ZeroDenominator c_ZeroDenominator).fd doc_ZeroDenominator pm_ZeroDenominator ctv_ZeroDenominator) ["self"] []
  C_InvalidLaw : Addr
  a_InvalidLaw_init : Addr
  c_InvalidLaw : Addr
  cc_InvalidLaw : Addr
  x_InvalidLaw : Sup.ExcT P K mg "InvalidLaw" C_InvalidLaw a_InvalidLaw_init c_InvalidLaw cc_InvalidLaw
  doc_InvalidLaw : Value
  pm_InvalidLaw : Value
  ctv_InvalidLaw : Value
  oc_InvalidLaw : Value
  od_InvalidLaw : Option Addr
  osl_InvalidLaw : Array (Option Value)
  lk_InvalidLaw : K.lookup a_InvalidLaw_init = some ⟨oc_InvalidLaw, od_InvalidLaw, .func ((NF_InvalidLaw cc_InvalidLaw c_InvalidLaw).fd doc_InvalidLaw pm_InvalidLaw ctv_InvalidLaw), osl_InvalidLaw⟩
  hc_InvalidLaw : PySem.W.codeIn K (.ref c_InvalidLaw) "InvalidLaw.__init__" = true
  bx_InvalidLaw : Binds K ((NF_InvalidLaw cc_InvalidLaw c_InvalidLaw).fd doc_InvalidLaw pm_InvalidLaw ctv_InvalidLaw) ["self"] []
  C_NotEnded : Addr
  a_NotEnded_init : Addr
  c_NotEnded : Addr
  cc_NotEnded : Addr
  x_NotEnded : Sup.ExcT P K mg "NotEnded" C_NotEnded a_NotEnded_init c_NotEnded cc_NotEnded
  doc_NotEnded : Value
  pm_NotEnded : Value
  ctv_NotEnded : Value
  oc_NotEnded : Value
  od_NotEnded : Option Addr
  osl_NotEnded : Array (Option Value)
  lk_NotEnded : K.lookup a_NotEnded_init = some ⟨oc_NotEnded, od_NotEnded, .func ((NF_NotEnded cc_NotEnded c_NotEnded).fd doc_NotEnded pm_NotEnded ctv_NotEnded), osl_NotEnded⟩
  hc_NotEnded : PySem.W.codeIn K (.ref c_NotEnded) "NotEnded.__init__" = true
  bx_NotEnded : Binds K ((NF_NotEnded cc_NotEnded c_NotEnded).fd doc_NotEnded pm_NotEnded ctv_NotEnded) ["self"] []
  z_abs : mg "abs" = none
  z_int : mg "int" = none
  z_len : mg "len" = none
  z_list : mg "list" = none
  z_min : mg "min" = none
  z_range : mg "range" = none
  z_reversed : mg "reversed" = none
  z_sorted : mg "sorted" = none
  z_sum : mg "sum" = none
  z_super : mg "super" = none
  v_MOST_RUNS : Value
  g_MOST_RUNS : mg "MOST_RUNS" = some v_MOST_RUNS
  r_MOST_RUNS : RelV (.int (20000)) v_MOST_RUNS
  k_ZERO : Addr
  g_ZERO : mg "ZERO" = some (.ref k_ZERO)
  q_ZERO : ∀ H, SqT K H k_ZERO [.int (0), .int (1)]
  k_ONE : Addr
  g_ONE : mg "ONE" = some (.ref k_ONE)
  q_ONE : ∀ H, SqT K H k_ONE [.int (1), .int (1)]
  g_gcd : mg "gcd" = some (.builtin "math.gcd")
  c_law_from : Addr
  P_law_from : Addr
  TB_law_from : LamX.TabB base mg c_law_from P_law_from
  L_law_from : LamK.CodeFn K a_law_from fd_law_from s_law_from "law_from" c_law_from
/-! ### the walk by single steps -/
local macro_rules | `(tactic| walk_at "z1") => `(tactic| first
  | with_reducible refine Z.seq ?_
  | with_reducible refine Z.asg ?_
  | ((with_reducible refine' Z.gname ?zv ?_); (case zv => first | (dsimp only [List.set]; done) | (dsimp only [List.set]; exact rfl)))
  | ((with_reducible refine' Z.var ?zv ?_); (case zv => exact rfl))
  | with_reducible refine Z.cst ?_
  | with_reducible refine Z.op ?_
  | with_reducible refine Z.un ?_
  | with_reducible refine Z.i0 ?_
  | with_reducible refine Z.iU ?_
  | with_reducible refine Z.eqII ?_
  | with_reducible refine Z.neII ?_
  | with_reducible refine Z.eqSS ?_
  | with_reducible refine Z.neSS ?_
  | with_reducible refine Z.eqBB ?_
  | with_reducible refine Z.neBB ?_
  | with_reducible refine Z.bl' ?_
  | with_reducible refine Z.test ?_
  | with_reducible refine Z.tbb ?_
  | with_reducible refine Z.tand ?_
  | with_reducible refine Z.tor ?_
  | with_reducible refine Z.tnot ?_
  | with_reducible refine Z.tyes ?_
  | with_reducible refine Z.andV ?_
  | with_reducible refine Z.orV ?_
  | with_reducible refine Z.notV ?_
  | with_reducible refine Z.ifE ?_
  | with_reducible refine Z.chain ?_
  | with_reducible refine Z.yesB ?_
  | with_reducible refine Z.noB ?_
  | with_reducible refine Z.noNB ?_
  | with_reducible refine Z.yesNB ?_
  | with_reducible refine Z.nil ?_
  | with_reducible refine Z.cons ?_
  | with_reducible refine Z.cb ?_
  | with_reducible refine Z.call ?_
  | with_reducible refine Z.meth ?_
  | with_reducible refine Z.fld ?_
  | with_reducible refine Z.int1 ?_
  | with_reducible refine Z.intb ?_
  | with_reducible refine Z.abs1 ?_
  | with_reducible refine Z.gcons ?_
  | with_reducible refine Z.gnil ?_
  | with_reducible refine Z.gcd ?_
  | ((with_reducible refine' Z.par2 ?zv ?_); (case zv => first | (dsimp only [List.set]; done) | (dsimp only [List.set]; exact rfl)))
  | with_reducible refine Z.isN ?_
  | with_reducible refine Z.notN ?_
  | with_reducible refine Z.inSg ?_
  | with_reducible refine Z.ninSg ?_
  | with_reducible refine Z.tup ?_
  | with_reducible refine Z.lst ?_
  | with_reducible refine Z.gsub ?_
  | with_reducible refine Z.par ?_
  | ((with_reducible refine' Z.aug ?zv ?_); (case zv => exact rfl))
  | with_reducible refine Z.ipI' ?_
  | with_reducible refine Z.ifs ?_
  | with_reducible refine Z.ret ?_
  | with_reducible refine Z.retN ?_
  | with_reducible refine Z.next ?_
  | with_reducible refine Z.brk ?_
  | with_reducible refine Z.drop ?_
  | with_reducible refine Z.bm ?_
  | with_reducible refine Z.bm0 ?_
  | with_reducible refine Z.sfld ?_
  | with_reducible refine Z.sfldaug ?_
  | with_reducible refine Z.radd ?_
  | with_reducible refine Z.make ?_
  | with_reducible refine Z.lc ?_
  | with_reducible refine Z.rng1 ?_
  | with_reducible refine Z.ilist ?_
  | with_reducible refine Z.itup ?_
  | with_reducible refine Z.for_ ?_
  | with_reducible refine Z.istr ?_
  | with_reducible refine Z.ienum ?_
  | with_reducible refine Z.izip ?_
  | with_reducible refine Z.irng2 ?_
  | with_reducible refine LamK.srt ?_
  | with_reducible refine Z.irevr ?_
  | with_reducible refine Z.rg1 ?_
  | with_reducible refine LamK.methX ?_
  | with_reducible refine Z.augs ?_
  | with_reducible refine Z.ienumS ?_
  | with_reducible refine Z.din ?_
  | with_reducible refine Z.dput ?_
  | with_reducible refine Z.dget ?_
  | with_reducible refine Z.dget2 ?_
  | with_reducible refine Z.sl ?_
  | with_reducible refine Z.slno ?_
  | with_reducible refine Z.slpart ?_
  | with_reducible refine Z.bint ?_
  | with_reducible refine Z.listrev ?_
  | with_reducible refine Z.revl ?_
  | dsimp only)
local macro_rules | `(tactic| walk_at "z0") => `(tactic| ((try simp only [Z.cxK]); (try dsimp only [L2.start, List.map, List.length, Nat.reduceAdd, Nat.reduceSub, List.replicate, List.cons_append, List.nil_append])))
local macro_rules | `(tactic| walk_at "z") => `(tactic| (repeat (walk_at "z1")))

/-! ### the deck of a law: _law_deck, _law_draw -/
def DeckOk (H : Hp) (a p : Addr) : Prop := ∃ (ns : List Int) (i : Nat) (r s : Int), H a = some (.lst [.ref p, .int (i : Int), .int r, .int s]) ∧ H p = some (.lst (ns.map V.int)) ∧ p ≠ a
theorem DeckOk.ne {H : Hp} {a p l : Addr} (d : DeckOk H a p) (h : H l = none) : a ≠ l ∧ p ≠ l := by
  obtain ⟨ns, i, r, s, ha, hp, _⟩ := d
  exact ⟨ne_of_none ha h, ne_of_none hp h⟩
theorem DeckOk.kp {M : List Addr} {H H' : Hp} {a p : Addr} (d : DeckOk H a p) (k : Kp M H H') (n1 : a ∉ M) (n2 : p ∉ M) : DeckOk H' a p := by
  obtain ⟨ns, i, r, s, ha, hp, hne⟩ := d
  exact ⟨ns, i, r, s, k _ _ n1 ha, k _ _ n2 hp, hne⟩
theorem DeckOk.kp0 {H H' : Hp} {a p : Addr} (d : DeckOk H a p) (k : Kp [] H H') : DeckOk H' a p := d.kp k nin0 nin0
theorem DeckOk.upd {H : Hp} {a p l : Addr} {o : HO} (d : DeckOk H a p) (n1 : a ≠ l) (n2 : p ≠ l) : DeckOk (upd H l o) a p := by
  obtain ⟨ns, i, r, s, ha, hp, hne⟩ := d
  exact ⟨ns, i, r, s, (upd_ne n1).trans ha, (upd_ne n2).trans hp, hne⟩
def spDeck (K : PySem.W.Frag) : Sp := fun vs H Q _ => ∃ (c : Addr) (ns : List Int), vs = [.ref c] ∧ SqL K H c (ns.map V.int) ∧ ∀ a p H', H a = none → H p = none → Kp [] H H' → DeckOk H' a p → Q (.ref a) H'
theorem ok__law_deck {P : Program} {w : World} {K : PySem.W.Frag} {mg : Str → Option Value} {base : Heap} (T : T P K mg base) : FnOk P w K mg base CX0 1 T.a__law_deck T.fd__law_deck ["script"] (spDeck K) := by
  refine T.F__law_deck.ok sc__law_deck (fun vs H Q E h => ?_) (fun cdv A outer s H vs Q E hr h => ?_)
  · obtain ⟨c, ns, rfl, _⟩ := h
    rfl
  · obtain ⟨c, ns, rfl, hS, q⟩ := h
    refine ⟨_, (pss_one (ps_ret (pe_lst (pa_cons (pe_callTy c_list (by rfl) T.z_list (by decide +kernel) (pa_cons (pv 0) pa_nil)) (pa_cons pe_int (pa_cons pe_int (pa_cons pe_int pa_nil))))))), ?_⟩
    walk_at "z0"
    walk_at "z"
    refine Z.listL hS fun p H1 np k1 e1 => ?_
    walk_at "z"
    refine Z.lstK (fun a H2 na k2 e2 => ?_)
    refine q a p H2 (k1.none nin0 na) np (k1.trans k2) ⟨ns, 0, 0, 7, e2, k2.get nin0 e1, ?_⟩
    exact ne_of_none e1 na
def spDraw (K : PySem.W.Frag) : Sp := fun vs H Q _ => ∃ (a p : Addr) (m : Int), vs = [.ref a, .int m] ∧ DeckOk H a p ∧ 1 ≤ m ∧ m < 18446744073709551616 ∧ ∀ H' v, 0 ≤ v → v < m → Kp [a] H H' → DeckOk H' a p → Q (.int v) H'
theorem at4 {p : Addr} {i r s : Int} (v : V) (j : Nat) (h : [V.ref p, .int i, .int r, .int s][j]? = some v) : atI [V.ref p, .int i, .int r, .int s] (j : Int) = some v := atI_nat h
theorem pow18 : (10 : Int) ^ (18 : Int).toNat = 1000000000000000000 := by decide
theorem ok__law_draw {P : Program} {w : World} {K : PySem.W.Frag} {mg : Str → Option Value} {base : Heap} (T : T P K mg base) : FnOk P w K mg base CX0 1 T.a__law_draw T.fd__law_draw ["deck", "most"] (spDraw K) := by
  refine T.F__law_draw.ok sc__law_draw (fun vs H Q E h => ?_) (fun cdv A outer s H vs Q E hr h => ?_)
  · obtain ⟨a, p, m, rfl, _⟩ := h
    rfl
  · obtain ⟨a, p, m, rfl, ⟨ns, i, r, s, ha, hp, hne⟩, hm1, hm2, q⟩ := h
    have hdiv : CDivW r m := wide_div (b := 64) (by omega) (by omega) (by decide) (by decide)
    refine ⟨_, (pss_cons (ps_if (pt_cmpR op_ge (pe_ix ix_list (pv 0) pe_int (fun _ _ => rfl)) (pv 1) (nomark _)) (pss_cons (ps_set (i := 2) sc__law_draw.nd rfl (by first | exact Or.inl rfl | exact Or.inr rfl) (pe_op op_mod (pe_callTy c_int (by rfl) T.z_int (by decide +kernel) (pa_cons (pe_ix ix_list (pv 0) pe_int (fun _ _ => rfl)) pa_nil)) (pv 1)))
      (pss_cons (ps_asg (pe_op op_fdivW (pe_ix ix_list (pv 0) pe_int (fun _ _ => rfl)) (pv 1)) (pg_sub (pv 0) pe_int set_list))
      (pss_one (ps_ret (pv 2))))) pss_nil)
      (pss_cons (ps_set (i := 3) sc__law_draw.nd rfl (by first | exact Or.inl rfl | exact Or.inr rfl) pe_int)
      (Z.pss_consJ (ps_if (pt_cmpR op_lt (pe_ix ix_list (pv 0) pe_int (fun _ _ => rfl)) (pe_callB c_len (by rfl) T.z_len (by decide +kernel) (pa_cons (pe_ix ix_list (pv 0) pe_int (fun _ _ => rfl)) pa_nil)) (nomark _)) (pss_one (ps_set (i := 3) sc__law_draw.nd rfl (by first | exact Or.inl rfl | exact Or.inr rfl) (pe_ix ix_list (pe_ix ix_list (pv 0) pe_int (fun _ _ => rfl)) (pe_ix ix_list (pv 0) pe_int (fun _ _ => rfl)) (fun _ _ => rfl)))) pss_nil)
      (pss_cons (ps_asg (pe_op op_add (pe_ix ix_list (pv 0) pe_int (fun _ _ => rfl)) pe_int) (pg_sub (pv 0) pe_int set_list))
      (pss_cons (ps_asg pe_int (pg_sub (pv 0) pe_int set_list))
      (pss_cons (ps_if (pt_cmpR op_ge (pv 3) (pe_op op_pow pe_int pe_int) (nomark _)) (pss_cons (ps_asg (pe_op op_fdivW (pv 3) (pv 1)) (pg_sub (pv 0) pe_int set_list))
      (pss_one (ps_ret (pe_op op_mod (pe_callTy c_int (by rfl) T.z_int (by decide +kernel) (pa_cons (pv 3) pa_nil)) (pv 1))))) pss_nil)
      (pss_cons (ps_asg (pe_op op_mod (pe_callTy c_int (by rfl) T.z_int (by decide +kernel) (pa_cons (pe_op op_add (pe_op op_add (pe_op op_mul (pe_ix ix_list (pv 0) pe_int (fun _ _ => rfl)) pe_int) (pe_op op_mul (pv 3) pe_int)) (pe_op op_mul (pe_ix ix_list (pv 0) pe_int (fun _ _ => rfl)) pe_int)) pa_nil)) pe_int) (pg_sub (pv 0) pe_int set_list))
      (pss_cons (ps_asg (pe_op op_mod (pe_callTy c_int (by rfl) T.z_int (by decide +kernel) (pa_cons (pe_op op_add (pe_op op_mul (pe_ix ix_list (pv 0) pe_int (fun _ _ => rfl)) pe_int) pe_int) pa_nil)) pe_int) (pg_sub (pv 0) pe_int set_list))
      (pss_one (ps_ret (pe_op op_mod (pe_callTy c_int (by rfl) T.z_int (by decide +kernel) (pa_cons (pe_op op_fdivW (pe_ix ix_list (pv 0) pe_int (fun _ _ => rfl)) pe_int) pa_nil)) (pv 1)))))))))))), ?_⟩
    walk_at "z0"
    walk_at "z"
    refine Z.ixL (lstL ha) (at4 _ 2 rfl) ?_
    walk_at "z"
    refine Z.ite (fun h1 => ?_) (fun h1 => ?_)
    · walk_at "z"
      refine Z.ixL (lstL ha) (at4 _ 2 rfl) ?_
      walk_at "z"
      refine Z.iC (by omega) ?_
      walk_at "z"
      refine Z.ixL (lstL ha) (at4 _ 2 rfl) ?_
      walk_at "z"
      refine Z.iC hdiv ?_
      walk_at "z"
      refine Z.setL ha (ixN_nat (j := 2) (by simp)) ?_
      walk_at "z"
      exact q _ _ (Int.emod_nonneg _ (by omega)) (Int.emod_lt_of_pos _ (by omega)) (Kp.put (by simp)) ⟨ns, i, r / m, s, upd_same, (upd_ne hne).trans hp, hne⟩
    · walk_at "z"
      refine Z.seqJ (fun σ' H' => ∃ c : Int, σ' = [some (.ref a), some (.int m), none, some (.int c)] ∧ H' = H) ?_ ?_
      · rintro σ' H' ⟨c, rfl, rfl⟩
        walk_at "z"
        refine Z.ixL (lstL ha) (at4 _ 1 rfl) ?_
        walk_at "z"
        refine Z.setL ha (ixN_nat (j := 1) (by simp)) ?_
        have ha1 : (upd H' a (.lst [.ref p, .int ((i + 1 : Nat) : Int), .int r, .int s])) a = some (.lst [.ref p, .int ((i + 1 : Nat) : Int), .int r, .int s]) := upd_same
        have hp1 : (upd H' a (.lst [.ref p, .int ((i + 1 : Nat) : Int), .int r, .int s])) p = some (.lst (ns.map V.int)) := (upd_ne hne).trans hp
        have k1 : Kp [a] H' (upd H' a (.lst [.ref p, .int ((i + 1 : Nat) : Int), .int r, .int s])) := Kp.put (by simp)
        dsimp only [List.set]
        rw [show ((i : Int) + 1) = ((i + 1 : Nat) : Int) by omega]
        revert ha1 hp1 k1
        generalize upd H' a (.lst [.ref p, .int ((i + 1 : Nat) : Int), .int r, .int s]) = H1
        intro ha1 hp1 k1
        walk_at "z"
        refine Z.setL ha1 (ixN_nat (j := 2) (by simp)) ?_
        dsimp only [List.set]
        have ha2 : (upd H1 a (.lst [.ref p, .int ((i + 1 : Nat) : Int), .int 0, .int s])) a = some (.lst [.ref p, .int ((i + 1 : Nat) : Int), .int 0, .int s]) := upd_same
        have hp2 : (upd H1 a (.lst [.ref p, .int ((i + 1 : Nat) : Int), .int 0, .int s])) p = some (.lst (ns.map V.int)) := (upd_ne hne).trans hp1
        have k2 : Kp [a] H' (upd H1 a (.lst [.ref p, .int ((i + 1 : Nat) : Int), .int 0, .int s])) := k1.trans (Kp.put (by simp))
        revert ha2 hp2 k2
        generalize upd H1 a (.lst [.ref p, .int ((i + 1 : Nat) : Int), .int 0, .int s]) = H2
        intro ha2 hp2 k2
        walk_at "z"
        refine Z.iC ⟨by decide, by decide, by decide⟩ ?_
        walk_at "z"
        refine Z.ite (fun h2 => ?_) (fun h2 => ?_)
        · walk_at "z"
          refine Z.iC hdiv ?_
          walk_at "z"
          refine Z.setL ha2 (ixN_nat (j := 2) (by simp)) ?_
          walk_at "z"
          refine Z.iC (by omega) ?_
          exact q _ _ (Int.emod_nonneg _ (by omega)) (Int.emod_lt_of_pos _ (by omega)) (k2.trans (Kp.put (by simp))) ⟨ns, i + 1, c / m, s, upd_same, (upd_ne hne).trans hp2, hne⟩
        · walk_at "z"
          refine Z.ixL (lstL ha2) (at4 _ 3 rfl) ?_
          walk_at "z"
          refine Z.iC (.inr (by decide)) ?_
          walk_at "z"
          refine Z.iC (.inr (by decide)) ?_
          walk_at "z"
          refine Z.ixL (lstL ha2) (at4 _ 1 rfl) ?_
          walk_at "z"
          refine Z.iC (.inr (by decide)) ?_
          walk_at "z"
          refine Z.iC (by decide) ?_
          walk_at "z"
          refine Z.setL ha2 (ixN_nat (j := 3) (by simp)) ?_
          dsimp only [List.set]
          generalize (s * 48271 + c * 69621 + ((i + 1 : Nat) : Int) * 911) % 2147483647 = s1
          have ha3 : (upd H2 a (.lst [.ref p, .int ((i + 1 : Nat) : Int), .int 0, .int s1])) a = some (.lst [.ref p, .int ((i + 1 : Nat) : Int), .int 0, .int s1]) := upd_same
          have hp3 : (upd H2 a (.lst [.ref p, .int ((i + 1 : Nat) : Int), .int 0, .int s1])) p = some (.lst (ns.map V.int)) := (upd_ne hne).trans hp2
          have k3 : Kp [a] H' (upd H2 a (.lst [.ref p, .int ((i + 1 : Nat) : Int), .int 0, .int s1])) := k2.trans (Kp.put (by simp))
          revert ha3 hp3 k3
          generalize upd H2 a (.lst [.ref p, .int ((i + 1 : Nat) : Int), .int 0, .int s1]) = H3
          intro ha3 hp3 k3
          walk_at "z"
          refine Z.ixL (lstL ha3) (at4 _ 3 rfl) ?_
          walk_at "z"
          refine Z.iC (.inr (by decide)) ?_
          walk_at "z"
          refine Z.iC (by decide) ?_
          walk_at "z"
          refine Z.setL ha3 (ixN_nat (j := 3) (by simp)) ?_
          dsimp only [List.set]
          generalize (s1 * 48271 + 12345) % 2147483647 = s2
          walk_at "z"
          refine Z.ixL (lstL upd_same) (at4 _ 3 rfl) ?_
          walk_at "z"
          refine Z.iC (wide_div (b := 64) (by decide) (by decide) (by decide) (by decide)) ?_
          walk_at "z"
          refine Z.iC (by omega) ?_
          exact q _ _ (Int.emod_nonneg _ (by omega)) (Int.emod_lt_of_pos _ (by omega)) (k3.trans (Kp.put (by simp))) ⟨ns, i + 1, 0, s2, upd_same, (upd_ne hne).trans hp3, hne⟩
      · intro N jn
        walk_at "z"
        refine Z.ixL (lstL ha) (at4 _ 1 rfl) ?_
        walk_at "z"
        refine Z.ixL (lstL ha) (at4 _ 0 rfl) ?_
        walk_at "z"
        refine Z.lenL (lstL hp) ?_
        walk_at "z"
        refine Z.ite (fun h2 => ?_) (fun h2 => ?_)
        · walk_at "z"
          refine Z.ixL (lstL ha) (at4 _ 0 rfl) ?_
          walk_at "z"
          refine Z.ixL (lstL ha) (at4 _ 1 rfl) ?_
          walk_at "z"
          have hi : i < ns.length := by
            rw [List.length_map] at h2
            omega
          refine Z.ixL (lstL hp) (atM (List.getElem?_eq_getElem hi)) ?_
          walk_at "z"
          exact jn _ _ ⟨_, rfl, rfl⟩
        · walk_at "z"
          exact jn _ _ ⟨_, rfl, rfl⟩

/-! ### sums of lists of ints -/
theorem sum_nonneg : ∀ {l : List Int}, (∀ n ∈ l, 0 ≤ n) → 0 ≤ l.sum
  | [], _ => by simp
  | a :: r, h => by
    have h1 := h a (by simp)
    have h2 := sum_nonneg (l := r) fun n hn => h n (by simp [hn])
    rw [List.sum_cons]
    omega
theorem sum_le {c : Int} : ∀ {l : List Int}, (∀ n ∈ l, n ≤ c) → l.sum ≤ c * l.length
  | [], _ => by simp
  | a :: r, h => by
    have h1 := h a (by simp)
    have h2 := sum_le (c := c) (l := r) fun n hn => h n (by simp [hn])
    rw [List.sum_cons, List.length_cons, show c * ((r.length + 1 : Nat) : Int) = c * r.length + c by rw [Int.natCast_add, Int.mul_add]; simp]
    omega
theorem sum_ge_mem : ∀ {l : List Int}, (∀ n ∈ l, 0 ≤ n) → ∀ x ∈ l, x ≤ l.sum
  | [], _, x, hx => by simp at hx
  | a :: r, h, x, hx => by
    have h1 := h a (by simp)
    have h3 := sum_nonneg (l := r) fun n hn => h n (by simp [hn])
    rw [List.sum_cons]
    rcases List.mem_cons.mp hx with e | e
    · omega
    · have h2 := sum_ge_mem (l := r) (fun n hn => h n (by simp [hn])) x e
      omega
theorem take_nonneg {l : List Int} (h : ∀ n ∈ l, 0 ≤ n) (i : Nat) : 0 ≤ (l.take i).sum := sum_nonneg fun n hn => h n (List.mem_of_mem_take hn)
/-! ### lists of ints as data -/
theorem layInts : ∀ ws : List Int, PyData.canLayAll0 (ws.map PyData.int) = true
  | [] => by simp [PyData.canLayAll0]
  | w :: r => by simp [PyData.canLayAll0, PyData.canLay0, layInts r]
theorem depthInts : ∀ ws : List Int, PyData.depthAll (ws.map PyData.int) = 0
  | [] => by simp [PyData.depthAll]
  | w :: r => by simp [PyData.depthAll, PyData.depth, depthInts r]
theorem shInts (ws : List Int) : SeqAt.shaped (.list (ws.map PyData.int)) = true := by
  simp [SeqAt.shaped, PyData.canLay0, PyData.depth, layInts, depthInts]
theorem dpInts {K : PySem.W.Frag} {H : Hp} : ∀ ws : List Int, DpAll K H (ws.map V.int) (ws.map PyData.int)
  | [] => .nil
  | w :: r => .cons (.int w) (dpInts r)
theorem dpI {K : PySem.W.Frag} {H : Hp} {a : Addr} {ws : List Int} (h : SqL K H a (ws.map V.int)) : Dp K H (.ref a) (.list (ws.map PyData.int)) := .lst h (dpInts ws)
theorem eqvI (ws : List Int) : PyData.eqv (.list (ws.map PyData.int)) (.list (ws.map PyData.int)) = true := SeqAt.eqv_refl _ (by simp [PyData.canLay0, layInts])
theorem neLL {K : PySem.W.Frag} {H : Hp} {Q : VK} {a b : Addr} {ws : List Int} (h1 : SqL K H a (ws.map V.int)) (h2 : SqL K H b (ws.map V.int)) (q : Q (.bl false) H) : rNeD K (.ref a) (.ref b) H Q :=
  ⟨_, _, dpI h1, dpI h2, shInts _, shInts _, by rw [eqvI]; exact q⟩
theorem eqLL {K : PySem.W.Frag} {H : Hp} {Q : VK} {a b : Addr} {ws : List Int} (h1 : SqL K H a (ws.map V.int)) (h2 : SqL K H b (ws.map V.int)) (q : Q (.bl true) H) : rEqD K (.ref a) (.ref b) H Q :=
  ⟨_, _, dpI h1, dpI h2, shInts _, shInts _, by rw [eqvI]; exact q⟩

/-! ### Euclid and lowest terms -/
def eStep (p : Nat × Nat) : Nat × Nat := if p.2 = 0 then p else (p.2, p.1 % p.2)
def euc : Nat → Nat × Nat → Nat × Nat
  | 0, p => p
  | i + 1, p => euc i (eStep p)
theorem euc_succ : ∀ (i : Nat) (p : Nat × Nat), euc (i + 1) p = eStep (euc i p)
  | 0, p => rfl
  | i + 1, p => euc_succ i (eStep p)
theorem eStep_gcd (p : Nat × Nat) : Nat.gcd (eStep p).1 (eStep p).2 = Nat.gcd p.1 p.2 := by
  unfold eStep
  split
  · rfl
  · show Nat.gcd p.2 (p.1 % p.2) = Nat.gcd p.1 p.2
    rw [Nat.gcd_comm p.1 p.2, Nat.gcd_rec p.2 p.1, Nat.gcd_comm]
theorem euc_gcd : ∀ (i : Nat) (p : Nat × Nat), Nat.gcd (euc i p).1 (euc i p).2 = Nat.gcd p.1 p.2
  | 0, p => rfl
  | i + 1, p => (euc_gcd i (eStep p)).trans (eStep_gcd p)
theorem eStep_zero {p : Nat × Nat} (h : p.2 = 0) : eStep p = p := if_pos h
theorem euc_zero : ∀ (i : Nat) {p : Nat × Nat}, p.2 = 0 → euc i p = p
  | 0, _, _ => rfl
  | i + 1, p, h => by
    show euc i (eStep p) = p
    rw [eStep_zero h]
    exact euc_zero i h
theorem eStep2 (p : Nat × Nat) : 2 * (eStep (eStep p)).2 ≤ p.2 := by
  obtain ⟨a, b⟩ := p
  by_cases hb : b = 0
  · rw [eStep_zero (p := (a, b)) hb, eStep_zero (p := (a, b)) hb]
    show 2 * b ≤ b
    omega
  · have e1 : eStep (a, b) = (b, a % b) := if_neg hb
    rw [e1]
    have hc : a % b < b := Nat.mod_lt _ (by omega)
    by_cases h0 : a % b = 0
    · rw [eStep_zero (p := (b, a % b)) h0]
      show 2 * (a % b) ≤ b
      omega
    · have e2 : eStep (b, a % b) = (a % b, b % (a % b)) := if_neg h0
      rw [e2]
      show 2 * (b % (a % b)) ≤ b
      have h1 : b % (a % b) < a % b := Nat.mod_lt _ (by omega)
      have h2 := Nat.div_add_mod b (a % b)
      have h3 : 1 ≤ b / (a % b) := Nat.div_pos (by omega) (by omega)
      have h4 : (a % b) * 1 ≤ (a % b) * (b / (a % b)) := Nat.mul_le_mul_left _ h3
      omega
theorem euc_end : ∀ (n : Nat) (p : Nat × Nat), p.2 < 2 ^ n → (euc (2 * n) p).2 = 0
  | 0, p, h => by
    have h' : p.2 < 1 := h
    show p.2 = 0
    omega
  | n + 1, p, h => by
    show (euc (2 * n) (eStep (eStep p))).2 = 0
    refine euc_end n _ ?_
    have := eStep2 p
    rw [Nat.pow_succ] at h
    omega
theorem euc_add : ∀ (i j : Nat) (p : Nat × Nat), euc (i + j) p = euc j (euc i p)
  | 0, j, p => by rw [Nat.zero_add]; rfl
  | i + 1, j, p => by
    rw [show i + 1 + j = (i + j) + 1 by omega]
    exact euc_add i j (eStep p)
theorem euc_5000 {p : Nat × Nat} (h : p.2 < 2 ^ 2400) : (euc 5000 p).2 = 0 := by
  rw [show (5000 : Nat) = 2 * 2400 + 200 from rfl, euc_add, euc_zero 200 (euc_end 2400 p h)]
  exact euc_end 2400 p h
def gN (p q : Int) : Nat := Nat.gcd p.natAbs q.natAbs
def gI (p q : Int) : Int := if q < 0 then -(gN p q : Int) else (gN p q : Int)
def lo (p q : Int) : Int × Int := (p.fdiv (gI p q), q.fdiv (gI p q))
theorem gN_pos {p q : Int} (h : q ≠ 0) : 0 < gN p q := Nat.gcd_pos_of_pos_right _ (by omega)
theorem gI_ne {p q : Int} (h : q ≠ 0) : gI p q ≠ 0 := by
  have := gN_pos (p := p) h
  unfold gI
  split <;> omega
theorem gN_le {p q : Int} (h : q ≠ 0) : gN p q ≤ q.natAbs := Nat.le_of_dvd (by omega) (Nat.gcd_dvd_right _ _)
theorem gI_abs (p q : Int) : (gI p q).natAbs = gN p q := by
  unfold gI
  split <;> omega
theorem dvdI {g : Nat} {p : Int} (h : g ∣ p.natAbs) : ∃ a : Int, p = (g : Int) * a ∧ p.natAbs = g * a.natAbs := by
  obtain ⟨c, hc⟩ := Int.ofNat_dvd_left.mpr h
  refine ⟨c, hc, ?_⟩
  rw [hc, Int.natAbs_mul]
  simp
/-- lowest terms: exactly divided, a denominator of at least 1, no common part -/
theorem lo_spec {p q : Int} (h : q ≠ 0) : ∃ a b : Int, lo p q = (a, b) ∧ 1 ≤ b ∧ Nat.gcd a.natAbs b.natAbs = 1 ∧ p = gI p q * a ∧ q = gI p q * b := by
  obtain ⟨a, ha, ha2⟩ := dvdI (Nat.gcd_dvd_left p.natAbs q.natAbs)
  obtain ⟨b, hb, hb2⟩ := dvdI (Nat.gcd_dvd_right p.natAbs q.natAbs)
  have hg := gN_pos (p := p) h
  have hcop : Nat.gcd a.natAbs b.natAbs = 1 := by
    have e := Nat.gcd_mul_left (gN p q) a.natAbs b.natAbs
    have e2 : gN p q * a.natAbs = p.natAbs := ha2.symm
    have e3 : gN p q * b.natAbs = q.natAbs := hb2.symm
    rw [e2, e3] at e
    have e4 : gN p q * 1 = gN p q * Nat.gcd a.natAbs b.natAbs := by rw [Nat.mul_one]; exact e
    exact (Nat.eq_of_mul_eq_mul_left hg e4).symm
  have ha' : p = (gN p q : Int) * a := ha
  have hb' : q = (gN p q : Int) * b := hb
  have gpos : (0 : Int) < (gN p q : Int) := by omega
  have hb0 : b ≠ 0 := fun z => by
    rw [z, Int.mul_zero] at hb'
    exact h hb'
  by_cases hq : q < 0
  · have eg : gI p q = -(gN p q : Int) := if_pos hq
    have hbn : b < 0 := by
      rcases Int.lt_or_le b 0 with z | z
      · exact z
      · have := Int.mul_nonneg (Int.le_of_lt gpos) z
        omega
    have ep : p = gI p q * -a := by rw [eg, Int.neg_mul_neg]; exact ha'
    have eq : q = gI p q * -b := by rw [eg, Int.neg_mul_neg]; exact hb'
    refine ⟨-a, -b, ?_, by omega, by rw [Int.natAbs_neg, Int.natAbs_neg]; exact hcop, ep, eq⟩
    have g0 := gI_ne (p := p) h
    unfold lo
    have f1 : p.fdiv (gI p q) = -a := by
      have := Int.mul_fdiv_cancel_left (-a) g0
      rw [← ep] at this
      exact this
    have f2 : q.fdiv (gI p q) = -b := by
      have := Int.mul_fdiv_cancel_left (-b) g0
      rw [← eq] at this
      exact this
    rw [f1, f2]
  · have eg : gI p q = (gN p q : Int) := if_neg hq
    have hbp : 0 < b := by
      rcases Int.lt_or_le 0 b with z | z
      · exact z
      · have := Int.mul_nonpos_of_nonneg_of_nonpos (Int.le_of_lt gpos) z
        omega
    have ep : p = gI p q * a := by rw [eg]; exact ha'
    have eq : q = gI p q * b := by rw [eg]; exact hb'
    refine ⟨a, b, ?_, by omega, hcop, ep, eq⟩
    have g0 := gI_ne (p := p) h
    unfold lo
    have f1 : p.fdiv (gI p q) = a := by
      have := Int.mul_fdiv_cancel_left a g0
      rw [← ep] at this
      exact this
    have f2 : q.fdiv (gI p q) = b := by
      have := Int.mul_fdiv_cancel_left b g0
      rw [← eq] at this
      exact this
    rw [f1, f2]
theorem lo_pos {p q : Int} (h : q ≠ 0) : 1 ≤ (lo p q).2 := by
  obtain ⟨a, b, e, h1, _⟩ := lo_spec (p := p) h
  rw [e]; exact h1
theorem lo_cop {p q : Int} (h : q ≠ 0) : Nat.gcd (lo p q).1.natAbs (lo p q).2.natAbs = 1 := by
  obtain ⟨a, b, e, _, h1, _⟩ := lo_spec (p := p) h
  rw [e]; exact h1
theorem abs_le_mul {g a : Int} (h : g ≠ 0) : a.natAbs ≤ (g * a).natAbs := by
  rw [Int.natAbs_mul]
  exact Nat.le_mul_of_pos_left _ (by omega)
theorem lo_abs1 {p q : Int} (h : q ≠ 0) : (lo p q).1.natAbs ≤ p.natAbs := by
  obtain ⟨a, b, e, _, _, h1, _⟩ := lo_spec (p := p) h
  rw [e]
  have := abs_le_mul (a := a) (gI_ne (p := p) h)
  rw [← h1] at this
  exact this
theorem lo_abs2 {p q : Int} (h : q ≠ 0) : (lo p q).2.natAbs ≤ q.natAbs := by
  obtain ⟨a, b, e, _, _, _, h1⟩ := lo_spec (p := p) h
  rw [e]
  have := abs_le_mul (a := b) (gI_ne (p := p) h)
  rw [← h1] at this
  exact this

/-! ### fractions: tuples of two ints -/
section frac
variable {K : PySem.W.Frag}
abbrev Fr := Int × Int
def frV (f : Fr) : List V := [.int f.1, .int f.2]
/-- at x there is no tuple -/
def NoTup (H : Hp) (x : Addr) : Prop := ∀ xs, ¬ Rd H x (.tup xs)
theorem NoTup.of {H : Hp} {x : Addr} {o : HO} (h : H x = some o) (n : ∀ xs, o ≠ .tup xs ∧ ∀ u, o ≠ .frz u (.tup xs)) : NoTup H x := fun xs r => by
  rcases r with r | ⟨u, r⟩
  · rw [h] at r; exact (n xs).1 (Option.some.inj r)
  · rw [h] at r; exact (n xs).2 u (Option.some.inj r)
theorem NoTup.lst {H : Hp} {x : Addr} {xs : List V} (h : H x = some (.lst xs)) : NoTup H x := NoTup.of h fun ys => ⟨by simp, by simp⟩
theorem NoTup.new {H : Hp} {x : Addr} (h : H x = none) : NoTup H x := fun xs r => by
  rcases r with r | ⟨u, r⟩ <;> rw [h] at r <;> cases r
theorem kpTup {K : PySem.W.Frag} {M : List Addr} {H H' : Hp} {a : Addr} {xs : List V} (h : SqT K H a xs) (k : Kp M H H') (n : ∀ x ∈ M, NoTup H x) : SqT K H' a xs := by
  rcases h with h | h
  · have na : a ∉ M := fun z => n a z xs h
    exact k.tup na (.inl h)
  · exact .inr h
/-- a fraction at a, a new one or one of the top -/
def FrAt (K : PySem.W.Frag) (H : Hp) (a : Addr) (f : Fr) : Prop := SqT K H a (frV f)
theorem FrAt.kp {M : List Addr} {H H' : Hp} {a : Addr} {f : Fr} (h : FrAt K H a f) (k : Kp M H H') (n : ∀ x ∈ M, NoTup H x) : FrAt K H' a f := kpTup h k n
theorem FrAt.kp0 {H H' : Hp} {a : Addr} {f : Fr} (h : FrAt K H a f) (k : Kp [] H H') : FrAt K H' a f := k.tup nin0 h
theorem FrAt.kpl {H H' : Hp} {a l : Addr} {f : Fr} {xs : List V} (h : FrAt K H a f) (k : Kp [l] H H') (e : H l = some (.lst xs)) : FrAt K H' a f := kpTup h k fun x hx => by
  rw [List.mem_singleton.mp hx]
  exact NoTup.lst e
theorem fr0 (f : Fr) : atI (frV f) 0 = some (.int f.1) := rfl
theorem fr1 (f : Fr) : atI (frV f) 1 = some (.int f.2) := rfl
/-- small enough for the machine's ints -/
def FrB (n : Nat) (f : Fr) : Prop := f.1.natAbs < 2 ^ n ∧ f.2.natAbs < 2 ^ n
theorem FrB.mono {n m : Nat} {f : Fr} (h : FrB n f) (l : n ≤ m) : FrB m f := ⟨Nat.lt_of_lt_of_le h.1 (Nat.pow_le_pow_right (by decide) l), Nat.lt_of_lt_of_le h.2 (Nat.pow_le_pow_right (by decide) l)⟩
theorem lo_B {n : Nat} {p q : Int} (h : q ≠ 0) (h1 : p.natAbs < 2 ^ n) (h2 : q.natAbs < 2 ^ n) : FrB n (lo p q) := ⟨Nat.lt_of_le_of_lt (lo_abs1 h) h1, Nat.lt_of_le_of_lt (lo_abs2 h) h2⟩
theorem add_B {n : Nat} {a b : Int} (h1 : a.natAbs < 2 ^ n) (h2 : b.natAbs < 2 ^ n) : (a + b).natAbs < 2 ^ (n + 1) := by
  rw [Nat.pow_succ]
  omega
theorem sub_B {n : Nat} {a b : Int} (h1 : a.natAbs < 2 ^ n) (h2 : b.natAbs < 2 ^ n) : (a - b).natAbs < 2 ^ (n + 1) := by
  rw [Nat.pow_succ]
  omega
theorem mul_B {n m : Nat} {a b : Int} (h1 : a.natAbs < 2 ^ n) (h2 : b.natAbs < 2 ^ m) : (a * b).natAbs < 2 ^ (n + m) := wide_lt h1 h2
theorem up_B {n m : Nat} {a : Int} (h : a.natAbs < 2 ^ n) (l : n ≤ m) : a.natAbs < 2 ^ m := Nat.lt_of_lt_of_le h (Nat.pow_le_pow_right (by decide) l)
theorem mul_ok {n : Nat} {a b : Int} (h1 : a.natAbs < 2 ^ n) (h2 : b.natAbs < 2 ^ n) (h0 : 0 < n := by omega) (h : n ≤ 400000 := by omega) : CMulW a b := wide_mul h1 h2 h0 h0 (by omega)
def fplus (f g : Fr) : Fr := lo (f.1 * g.2 + g.1 * f.2) (f.2 * g.2)
def fminus (f g : Fr) : Fr := lo (f.1 * g.2 - g.1 * f.2) (f.2 * g.2)
def ftimes (f g : Fr) : Fr := lo (f.1 * g.1) (f.2 * g.2)
def fover (f g : Fr) : Fr := lo (f.1 * g.2) (f.2 * g.1)
def fless (f g : Fr) : Bool := decide (f.1 * g.2 < g.1 * f.2)
theorem fplus_B {n m : Nat} {f g : Fr} (hf : FrB n f) (hg : FrB m g) (h1 : f.2 ≠ 0) (h2 : g.2 ≠ 0) : FrB (n + m + 1) (fplus f g) :=
  lo_B (Int.mul_ne_zero h1 h2) (add_B (mul_B hf.1 hg.2) (by rw [Nat.add_comm n m]; exact mul_B hg.1 hf.2)) (up_B (mul_B hf.2 hg.2) (by omega))
theorem fminus_B {n m : Nat} {f g : Fr} (hf : FrB n f) (hg : FrB m g) (h1 : f.2 ≠ 0) (h2 : g.2 ≠ 0) : FrB (n + m + 1) (fminus f g) :=
  lo_B (Int.mul_ne_zero h1 h2) (sub_B (mul_B hf.1 hg.2) (by rw [Nat.add_comm n m]; exact mul_B hg.1 hf.2)) (up_B (mul_B hf.2 hg.2) (by omega))
theorem ftimes_B {n m : Nat} {f g : Fr} (hf : FrB n f) (hg : FrB m g) (h1 : f.2 ≠ 0) (h2 : g.2 ≠ 0) : FrB (n + m) (ftimes f g) := lo_B (Int.mul_ne_zero h1 h2) (mul_B hf.1 hg.1) (mul_B hf.2 hg.2)
theorem fplus_pos {f g : Fr} (h1 : f.2 ≠ 0) (h2 : g.2 ≠ 0) : 1 ≤ (fplus f g).2 := lo_pos (Int.mul_ne_zero h1 h2)
/-! ### samphire.errors, samphire.ratios -/
def spZD (C : Addr) : Sp := fun vs H Q _ => ∃ a : Addr, vs = [.ref a] ∧ H a = some (exo a C none) ∧ Q .non H
theorem ok_ZeroDenominator_init {P : Program} {w : World} {K : PySem.W.Frag} {mg : Str → Option Value} {base : Heap} (T : T P K mg base) : FnOk P w K mg base CX0 1 T.a_ZeroDenominator_init ((NF_ZeroDenominator T.cc_ZeroDenominator T.c_ZeroDenominator).fd T.doc_ZeroDenominator T.pm_ZeroDenominator T.ctv_ZeroDenominator) ["self"] (spZD T.C_ZeroDenominator) := by
  refine Sup.fn_super (F := NF_ZeroDenominator T.cc_ZeroDenominator T.c_ZeroDenominator) (p := "self") (ps' := []) T.x_ZeroDenominator.S T.lk_ZeroDenominator rfl T.hc_ZeroDenominator sc_ZeroDenominator_init rfl ⟨_, rfl, rfl⟩ rfl rfl (fun _ => rfl) (fun _ => ⟨_, rfl⟩) (fun _ => rfl) (fun vs H Q E h => ?_) (fun A outer s H vs Q E hr h => ?_)
  · obtain ⟨a, rfl, _⟩ := h
    rfl
  · obtain ⟨a, rfl, ha, q⟩ := h
    exact ⟨a, [], _, _, rfl, ha, pa_cons pe_str pa_nil, pss_nil, by decide, ha, q⟩
def spLowest (K : PySem.W.Frag) (C : Addr) : Sp := fun vs H Q E => ∃ p q : Int, vs = [.int p, .int q] ∧ q.natAbs < 2 ^ 8000 ∧ (q = 0 → E (.ref C) none H) ∧ (q ≠ 0 → ∀ H' b, H b = none → Kp [] H H' → FrAt K H' b (lo p q) → Q (.ref b) H')
theorem del_upd {H : Hp} {a : Addr} {o : HO} (h : H a = none) : del (upd H a o) a = H := by
  funext b
  by_cases hb : b = a
  · rw [hb, del_same, h]
  · rw [del_ne hb, upd_ne hb]
theorem ok_lowest {P : Program} {w : World} {K : PySem.W.Frag} {mg : Str → Option Value} {base : Heap} (T : T P K mg base) : FnOk P w K mg base (L2.CX P w) 3 T.a_lowest T.fd_lowest ["p", "q"] (spLowest K T.C_ZeroDenominator) := by
  refine T.F_lowest.okX sc_lowest (fun vs H Q E h => ?_) (fun cdv A outer s H vs Q E hr h => ?_)
  · obtain ⟨p, q, rfl, _⟩ := h
    rfl
  · obtain ⟨p, q, rfl, hb, h0, h1⟩ := h
    refine ⟨_, (pss_cons (ps_if (pt_cmpR op_eq (pv 1) pe_int (nomark _)) (pss_one (ps_raise rfl (takes_of rfl rfl rfl rfl) (Sup.pmk_oexN T.x_ZeroDenominator.S.T T.x_ZeroDenominator.iC T.x_ZeroDenominator.tI (ok_ZeroDenominator_init T) (hr.mono (by decide)) (T.bx_ZeroDenominator) pass0 (by rfl) T.x_ZeroDenominator.g))) pss_nil)
      (pss_cons (ps_set (i := 2) sc_lowest.nd rfl (by first | exact Or.inl rfl | exact Or.inr rfl) (pe_callBfun cr_gcd (by rfl) T.g_gcd (pa_cons (pv 0) (pa_cons (pv 1) pa_nil))))
      (Z.pss_consJ (ps_if (pt_cmpR op_lt (pv 1) pe_int (nomark _)) (pss_one (ps_set (i := 2) sc_lowest.nd rfl (by first | exact Or.inl rfl | exact Or.inr rfl) (pe_un un_neg (pv 2)))) pss_nil)
      (pss_one (ps_ret (pe_tup (pa_cons (pe_op Z.op_fdivA (pv 0) (pv 2)) (pa_cons (pe_op Z.op_fdivA (pv 1) (pv 2)) pa_nil)))))))), ?_⟩
    walk_at "z0"
    walk_at "z"
    refine Z.ite (fun hq => ?_) (fun hq => ?_)
    · refine Z.mkN fun a na => ⟨a, rfl, upd_same, rfl, upd_same, ?_⟩
      rw [del_upd na]
      exact h0 hq
    · walk_at "z"
      have hg := gI_ne (p := p) hq
      have hdv : Z.CDivA p (gI p q) := Z.divA (b := 8000) hg (by rw [gI_abs]; exact Nat.lt_of_le_of_lt (gN_le hq) hb) (by decide) (by decide)
      have hdv2 : Z.CDivA q (gI p q) := hdv
      refine Z.seqJ (fun σ' H' => σ' = [some (.int p), some (.int q), some (.int (gI p q))] ∧ H' = H) ?_ ?_
      · rintro σ' H' ⟨rfl, rfl⟩
        walk_at "z"
        refine Z.iC hdv ?_
        walk_at "z"
        refine Z.iC hdv2 ?_
        refine Z.tupK (fun b H1 nb k1 e1 => ?_)
        exact h1 hq _ _ nb k1 (tupT e1)
      · intro N jn
        walk_at "z"
        refine Z.ite (fun h2 => ?_) (fun h2 => ?_)
        · walk_at "z"
          refine jn _ _ ⟨?_, rfl⟩
          unfold gI
          rw [if_pos h2]; rfl
        · walk_at "z"
          refine jn _ _ ⟨?_, rfl⟩
          unfold gI
          rw [if_neg h2]; rfl
/-- two fractions in, a fraction out -/
def spF2 (K : PySem.W.Frag) (o : Fr → Fr → Fr) : Sp := fun vs H Q _ => ∃ (a b : Addr) (f g : Fr), vs = [.ref a, .ref b] ∧ FrAt K H a f ∧ FrAt K H b g ∧ f.2 ≠ 0 ∧ g.2 ≠ 0 ∧ FrB 3900 f ∧ FrB 3900 g ∧ ∀ H' c, H c = none → Kp [] H H' → FrAt K H' c (o f g) → Q (.ref c) H'
theorem ok_plus {P : Program} {w : World} {K : PySem.W.Frag} {mg : Str → Option Value} {base : Heap} (T : T P K mg base) : FnOk P w K mg base CX0 4 T.a_plus T.fd_plus ["a", "b"] (spF2 K fplus) := by
  refine T.F_plus.ok sc_plus (fun vs H Q E h => ?_) (fun cdv A outer s H vs Q E hr h => ?_)
  · obtain ⟨a, b, f, g, rfl, _⟩ := h
    rfl
  · obtain ⟨a, b, f, g, rfl, ha, hb, hf, hg, Bf, Bg, q⟩ := h
    refine ⟨_, (pss_one (ps_ret (pe_call (ok_lowest T) (hr.mono (by decide)) (by rfl) T.g_lowest T.F_lowest.kp T.b_lowest .nil passL (pa_cons (pe_op op_add (pe_op op_mulW (pe_ix ix_tup (pv 0) pe_int (fun _ _ => rfl)) (pe_ix ix_tup (pv 1) pe_int (fun _ _ => rfl))) (pe_op op_mulW (pe_ix ix_tup (pv 1) pe_int (fun _ _ => rfl)) (pe_ix ix_tup (pv 0) pe_int (fun _ _ => rfl)))) (pa_cons (pe_op op_mulW (pe_ix ix_tup (pv 0) pe_int (fun _ _ => rfl)) (pe_ix ix_tup (pv 1) pe_int (fun _ _ => rfl))) pa_nil))))), ?_⟩
    walk_at "z0"
    walk_at "z"
    refine Z.ixT ha (fr0 f) ?_
    walk_at "z"
    refine Z.ixT hb (fr1 g) ?_
    walk_at "z"
    refine Z.iC (mul_ok Bf.1 Bg.2) ?_
    walk_at "z"
    refine Z.ixT hb (fr0 g) ?_
    walk_at "z"
    refine Z.ixT ha (fr1 f) ?_
    walk_at "z"
    refine Z.iC (mul_ok Bg.1 Bf.2) ?_
    walk_at "z"
    refine Z.ixT ha (fr1 f) ?_
    walk_at "z"
    refine Z.ixT hb (fr1 g) ?_
    walk_at "z"
    refine Z.iC (mul_ok Bf.2 Bg.2) ?_
    walk_at "z"
    exact ⟨_, _, rfl, up_B (mul_B Bf.2 Bg.2) (by decide), fun z => absurd z (Int.mul_ne_zero hf hg), fun _ H' c nc k e => q _ _ nc k e⟩
theorem ok_times {P : Program} {w : World} {K : PySem.W.Frag} {mg : Str → Option Value} {base : Heap} (T : T P K mg base) : FnOk P w K mg base CX0 4 T.a_times T.fd_times ["a", "b"] (spF2 K ftimes) := by
  refine T.F_times.ok sc_times (fun vs H Q E h => ?_) (fun cdv A outer s H vs Q E hr h => ?_)
  · obtain ⟨a, b, f, g, rfl, _⟩ := h
    rfl
  · obtain ⟨a, b, f, g, rfl, ha, hb, hf, hg, Bf, Bg, q⟩ := h
    refine ⟨_, (pss_one (ps_ret (pe_call (ok_lowest T) (hr.mono (by decide)) (by rfl) T.g_lowest T.F_lowest.kp T.b_lowest .nil passL (pa_cons (pe_op op_mulW (pe_ix ix_tup (pv 0) pe_int (fun _ _ => rfl)) (pe_ix ix_tup (pv 1) pe_int (fun _ _ => rfl))) (pa_cons (pe_op op_mulW (pe_ix ix_tup (pv 0) pe_int (fun _ _ => rfl)) (pe_ix ix_tup (pv 1) pe_int (fun _ _ => rfl))) pa_nil))))), ?_⟩
    walk_at "z0"
    walk_at "z"
    refine Z.ixT ha (fr0 f) ?_
    walk_at "z"
    refine Z.ixT hb (fr0 g) ?_
    walk_at "z"
    refine Z.iC (mul_ok Bf.1 Bg.1) ?_
    walk_at "z"
    refine Z.ixT ha (fr1 f) ?_
    walk_at "z"
    refine Z.ixT hb (fr1 g) ?_
    walk_at "z"
    refine Z.iC (mul_ok Bf.2 Bg.2) ?_
    walk_at "z"
    exact ⟨_, _, rfl, up_B (mul_B Bf.2 Bg.2) (by decide), fun z => absurd z (Int.mul_ne_zero hf hg), fun _ H' c nc k e => q _ _ nc k e⟩
def spLess (K : PySem.W.Frag) : Sp := fun vs H Q _ => ∃ (a b : Addr) (f g : Fr), vs = [.ref a, .ref b] ∧ FrAt K H a f ∧ FrAt K H b g ∧ FrB 3900 f ∧ FrB 3900 g ∧ Q (.bl (fless f g)) H
theorem ok_less {P : Program} {w : World} {K : PySem.W.Frag} {mg : Str → Option Value} {base : Heap} (T : T P K mg base) : FnOk P w K mg base CX0 1 T.a_less T.fd_less ["a", "b"] (spLess K) := by
  refine T.F_less.ok sc_less (fun vs H Q E h => ?_) (fun cdv A outer s H vs Q E hr h => ?_)
  · obtain ⟨a, b, f, g, rfl, _⟩ := h
    rfl
  · obtain ⟨a, b, f, g, rfl, ha, hb, Bf, Bg, q⟩ := h
    refine ⟨_, (pss_one (ps_ret (pe_cmpR op_lt (pe_op op_mulW (pe_ix ix_tup (pv 0) pe_int (fun _ _ => rfl)) (pe_ix ix_tup (pv 1) pe_int (fun _ _ => rfl))) (pe_op op_mulW (pe_ix ix_tup (pv 1) pe_int (fun _ _ => rfl)) (pe_ix ix_tup (pv 0) pe_int (fun _ _ => rfl))) (nomark _)))), ?_⟩
    walk_at "z0"
    walk_at "z"
    refine Z.ixT ha (fr0 f) ?_
    walk_at "z"
    refine Z.ixT hb (fr1 g) ?_
    walk_at "z"
    refine Z.iC (mul_ok Bf.1 Bg.2) ?_
    walk_at "z"
    refine Z.ixT hb (fr0 g) ?_
    walk_at "z"
    refine Z.ixT ha (fr1 f) ?_
    walk_at "z"
    refine Z.iC (mul_ok Bg.1 Bf.2) ?_
    walk_at "z"
    exact q
/-- lists of fractions -/
def FrsAt (K : PySem.W.Frag) (H : Hp) (as : List Addr) (fs : List Fr) : Prop := Paired (fun a f => FrAt K H a f) as fs
theorem FrsAt.kp {M : List Addr} {H H' : Hp} {as : List Addr} {fs : List Fr} (h : FrsAt K H as fs) (k : Kp M H H') (n : ∀ x ∈ M, NoTup H x) : FrsAt K H' as fs := by
  induction h with
  | nil => exact .nil
  | cons r t ih => exact .cons (FrAt.kp r k n) ih
theorem FrsAt.kp0 {H H' : Hp} {as : List Addr} {fs : List Fr} (h : FrsAt K H as fs) (k : Kp [] H H') : FrsAt K H' as fs := h.kp k fun _ h => by cases h
theorem FrsAt.kpl {H H' : Hp} {as : List Addr} {fs : List Fr} {l : Addr} {xs : List V} (h : FrsAt K H as fs) (k : Kp [l] H H') (e : H l = some (.lst xs)) : FrsAt K H' as fs := h.kp k fun x hx => by
  rw [List.mem_singleton.mp hx]
  exact NoTup.lst e
theorem FrsAt.get {H : Hp} : ∀ {as : List Addr} {fs : List Fr} {i : Nat} {v : V}, FrsAt K H as fs → (as.map V.ref)[i]? = some v → ∃ a f, v = .ref a ∧ fs[i]? = some f ∧ FrAt K H a f
  | _, _, i, v, .nil, h => by simp at h
  | _, _, 0, v, .cons r t, h => by
    simp at h
    exact ⟨_, _, h.symm, rfl, r⟩
  | _, _, i + 1, v, .cons r t, h => by
    obtain ⟨a, f, e1, e2, e3⟩ := FrsAt.get (i := i) t (by simpa using h)
    exact ⟨a, f, e1, by simpa using e2, e3⟩
theorem FrsAt.len {H : Hp} {as : List Addr} {fs : List Fr} (h : FrsAt K H as fs) : as.length = fs.length := Paired.length h
theorem FrsAt.snoc {H : Hp} {as : List Addr} {fs : List Fr} {a : Addr} {f : Fr} (h : FrsAt K H as fs) (r : FrAt K H a f) : FrsAt K H (as ++ [a]) (fs ++ [f]) := by
  induction h with
  | nil => exact .cons r .nil
  | cons r t ih => exact .cons r ih
theorem FrsAt.app {H : Hp} {as bs : List Addr} {fs gs : List Fr} (h : FrsAt K H as fs) (r : FrsAt K H bs gs) : FrsAt K H (as ++ bs) (fs ++ gs) := by
  induction h with
  | nil => exact r
  | cons r t ih => exact .cons r ih
theorem FrsAt.take {H : Hp} : ∀ {as : List Addr} {fs : List Fr} (i : Nat), FrsAt K H as fs → FrsAt K H (as.take i) (fs.take i)
  | _, _, 0, _ => by rw [List.take_zero, List.take_zero]; exact .nil
  | _, _, i + 1, .nil => by rw [List.take_nil, List.take_nil]; exact .nil
  | _, _, i + 1, .cons r t => .cons r (FrsAt.take i t)
theorem FrsAt.drop {H : Hp} : ∀ {as : List Addr} {fs : List Fr} (i : Nat), FrsAt K H as fs → FrsAt K H (as.drop i) (fs.drop i)
  | _, _, 0, h => h
  | _, _, i + 1, .nil => by rw [List.drop_nil, List.drop_nil]; exact .nil
  | _, _, i + 1, .cons r t => FrsAt.drop i t
/-- data -/
def frD (f : Fr) : PyData := .tuple [.int f.1, .int f.2]
theorem dpF {H : Hp} {a : Addr} {f : Fr} (h : FrAt K H a f) : Dp K H (.ref a) (frD f) := .tup h (.cons (.int _) (.cons (.int _) .nil))
theorem frD_sh (f : Fr) : SeqAt.shaped (frD f) = true := by
  simp [frD, SeqAt.shaped, PyData.canLay0, PyData.canLayAll0, PyData.depth, PyData.depthAll]
theorem frD_eq (f : Fr) : PyData.eqv (frD f) (frD f) = true := SeqAt.eqv_refl _ (by simp [frD, PyData.canLay0, PyData.canLayAll0])
theorem neFF {K : PySem.W.Frag} {H : Hp} {Q : VK} {a b : Addr} {f : Fr} (h1 : FrAt K H a f) (h2 : FrAt K H b f) (q : Q (.bl false) H) : rNeD K (.ref a) (.ref b) H Q :=
  ⟨_, _, dpF h1, dpF h2, frD_sh _, frD_sh _, by rw [frD_eq]; exact q⟩
theorem dpFs {K : PySem.W.Frag} {H : Hp} : ∀ {as : List Addr} {fs : List Fr}, FrsAt K H as fs → DpAll K H (as.map V.ref) (fs.map frD)
  | _, _, .nil => .nil
  | _, _, .cons r t => .cons (dpF r) (dpFs t)
theorem layFs : ∀ fs : List Fr, PyData.canLayAll0 (fs.map frD) = true
  | [] => by simp [PyData.canLayAll0]
  | f :: r => by simp [PyData.canLayAll0, frD, PyData.canLay0, layFs r]
theorem depthFs : ∀ fs : List Fr, PyData.depthAll (fs.map frD) ≤ 1
  | [] => by simp [PyData.depthAll]
  | f :: r => by
    have := depthFs r
    simp [PyData.depthAll, frD, PyData.depth]
    exact Nat.max_le.mpr ⟨by omega, this⟩
theorem shFs (fs : List Fr) : SeqAt.shaped (.list (fs.map frD)) = true := by
  have := depthFs fs
  simp only [SeqAt.shaped, PyData.canLay0, PyData.depth, layFs, Bool.true_and]
  exact decide_eq_true (by omega)
theorem neFL {K : PySem.W.Frag} {H : Hp} {Q : VK} {a b : Addr} {as : List Addr} {fs : List Fr} (h1 : H a = some (.lst (as.map V.ref))) (h2 : H b = some (.lst (as.map V.ref))) (h : FrsAt K H as fs) (q : Q (.bl false) H) : rNeD K (.ref a) (.ref b) H Q :=
  ⟨_, _, .lst (lstL h1) (dpFs h), .lst (lstL h2) (dpFs h), shFs _, shFs _, by rw [SeqAt.eqv_refl (.list (fs.map frD)) (by simp [PyData.canLay0, layFs])]; exact q⟩
end frac
/-- sums, from the left -/
def fsum (t : Fr) (fs : List Fr) : Fr := fs.foldl fplus t
theorem fsum_B : ∀ {fs : List Fr} {t : Fr} {n m : Nat}, FrB n t → t.2 ≠ 0 → (∀ f ∈ fs, FrB m f ∧ f.2 ≠ 0) → FrB (n + fs.length * (m + 1)) (fsum t fs) ∧ (fsum t fs).2 ≠ 0
  | [], t, n, m, h, h0, _ => by
    refine ⟨?_, h0⟩
    show FrB (n + 0 * (m + 1)) t
    rw [Nat.zero_mul]
    exact h
  | f :: r, t, n, m, h, h0, hf => by
    have h1 := hf f (by simp)
    have hp := fplus_pos h0 h1.2
    have ih := fsum_B (fs := r) (t := fplus t f) (n := n + m + 1) (m := m) (fplus_B h h1.1 h0 h1.2) (by omega) fun g hg => hf g (by simp [hg])
    refine ⟨?_, ih.2⟩
    have e : n + (f :: r).length * (m + 1) = n + m + 1 + r.length * (m + 1) := by
      rw [List.length_cons, Nat.add_mul]
      omega
    rw [e]
    exact ih.1
theorem fsum_take {t : Fr} {fs : List Fr} {i : Nat} {f : Fr} (h : fs[i]? = some f) : fsum t (fs.take (i + 1)) = fplus (fsum t (fs.take i)) f := by
  unfold fsum
  rw [List.take_add_one, h, List.foldl_append]
  rfl
def spSumOf (K : PySem.W.Frag) (m k : Nat) : Sp := fun vs H Q _ => ∃ (a : Addr) (as : List Addr) (fs : List Fr), vs = [.ref a] ∧ SqL K H a (as.map V.ref) ∧ FrsAt K H as fs ∧ (∀ f ∈ fs, FrB m f ∧ f.2 ≠ 0) ∧ fs.length ≤ k ∧ ∀ H' c, Kp [] H H' → FrAt K H' c (fsum (0, 1) fs) → Q (.ref c) H'
theorem ok_sum_of_any {P : Program} {w : World} {K : PySem.W.Frag} {mg : Str → Option Value} {base : Heap} (T : T P K mg base) (m k : Nat) (hm : m ≤ 3900) (hk : 1 + k * (m + 1) ≤ 3900) : FnOk P w K mg base CX0 5 T.a_sum_of T.fd_sum_of ["fractions"] (spSumOf K m k) := by
  refine T.F_sum_of.ok sc_sum_of (fun vs H Q E h => ?_) (fun cdv A outer s H vs Q E hr h => ?_)
  · obtain ⟨a, as, fs, rfl, _⟩ := h
    rfl
  · obtain ⟨a, as, fs, rfl, hS, hF, hB, hl, q⟩ := h
    refine ⟨_, (pss_cons (ps_set (i := 1) sc_sum_of.nd rfl (by first | exact Or.inl rfl | exact Or.inr rfl) (pe_glob (v := .ref T.k_ZERO) (by rfl) T.g_ZERO rfl))
      (pss_cons (ps_for PassesOwn.never rfl (pi_list (pv 0)) (pg_name (i := 2) sc_sum_of.nd rfl (by first | exact Or.inl rfl | exact Or.inr rfl)) (pss_one (ps_set (i := 1) sc_sum_of.nd rfl (by first | exact Or.inl rfl | exact Or.inr rfl) (pe_call (ok_plus T) (hr.mono (by decide)) (by rfl) T.g_plus T.F_plus.kp T.b_plus .nil pass0 (pa_cons (pv 1) (pa_cons (pv 2) pa_nil))))))
      (pss_one (ps_ret (pv 1))))), ?_⟩
    walk_at "z0"
    walk_at "z"
    refine Z.forl (as.map V.ref) hS (fun i σ' H' => ∃ c y, σ' = [some (.ref a), some (.ref c), y] ∧ Kp [] H H' ∧ FrAt K H' c (fsum (0, 1) (fs.take i))) ?_ ?_ ?_ ?_
    · exact ⟨T.k_ZERO, none, rfl, Kp.refl _, T.q_ZERO H⟩
    · rintro i σ' H' _ ⟨c, y, rfl, k2, _⟩
      exact k2.seq nin0 hS
    · rintro i v σ' H' hv ⟨c, y, rfl, k2, e2⟩
      obtain ⟨x, f, rfl, hf, hx⟩ := (hF.kp0 k2).get hv
      have hfB := hB f (List.mem_of_getElem? hf)
      have hB1 := fsum_B (fs := fs.take i) (t := (0, 1)) (n := 1) (m := m) ⟨by decide, by decide⟩ (by decide) fun g hg => hB g (List.mem_of_mem_take hg)
      have hle : 1 + (fs.take i).length * (m + 1) ≤ 3900 := Nat.le_trans (Nat.add_le_add_left (Nat.mul_le_mul_right _ (Nat.le_trans (by rw [List.length_take]; exact Nat.min_le_right _ _) hl)) 1) hk
      walk_at "z"
      refine ⟨c, x, _, f, rfl, e2, hx, hB1.2, hfB.2, hB1.1.mono hle, hfB.1.mono hm, fun H3 d nd k3 e3 => ?_⟩
      walk_at "z"
      exact ⟨d, _, rfl, k2.trans k3, by rw [fsum_take hf]; exact e3⟩
    · rintro σ' H' ⟨c, y, rfl, k2, e2⟩
      walk_at "z"
      rw [List.length_map, hF.len, List.take_length] at e2
      exact q _ _ k2 e2

/-! ### fractions as rational numbers -/
def rv (f : Int × Int) : Rat := (f.1 : Rat) / (f.2 : Rat)
theorem ratNe {q : Int} (h : q ≠ 0) : (q : Rat) ≠ 0 := fun z => h (by exact_mod_cast z)
theorem ratPos {q : Int} (h : 0 < q) : (0 : Rat) < (q : Rat) := by exact_mod_cast h
theorem div_eqR {a b c : Rat} (h : b ≠ 0) : a / b = c ↔ a = c * b := by
  constructor
  · rintro rfl
    rw [Rat.div_mul_cancel h]
  · rintro rfl
    rw [Rat.mul_div_cancel h]
theorem rv_lo {p q : Int} (h : q ≠ 0) : rv (lo p q) = (p : Rat) / (q : Rat) := by
  obtain ⟨a, b, e, h1, h2, h3, h4⟩ := lo_spec (p := p) h
  rw [e]
  have hb : (b : Rat) ≠ 0 := ratNe (by omega)
  have hg : (gI p q : Rat) ≠ 0 := ratNe (gI_ne h)
  have hq : (q : Rat) = (gI p q : Rat) * (b : Rat) := by exact_mod_cast h4
  have hp : (p : Rat) = (gI p q : Rat) * (a : Rat) := by exact_mod_cast h3
  show (a : Rat) / (b : Rat) = (p : Rat) / (q : Rat)
  rw [hp, hq]
  grind

/-- a fraction in lowest terms -/
def Low (f : Int × Int) : Prop := 1 ≤ f.2 ∧ Nat.gcd f.1.natAbs f.2.natAbs = 1
theorem lo_low {p q : Int} (h : q ≠ 0) : Low (lo p q) := ⟨lo_pos h, lo_cop h⟩
theorem Low.ne {f : Int × Int} (h : Low f) : f.2 ≠ 0 := by have := h.1; omega
theorem Low.pos {f : Int × Int} (h : Low f) : (0 : Rat) < (f.2 : Rat) := ratPos (by have := h.1; omega)
theorem rv_eqI {f g : Int × Int} (h1 : f.2 ≠ 0) (h2 : g.2 ≠ 0) : rv f = rv g ↔ f.1 * g.2 = g.1 * f.2 := by
  have a1 := ratNe h1
  have a2 := ratNe h2
  unfold rv
  constructor
  · intro h
    have h3 : (f.1 : Rat) * (g.2 : Rat) = (g.1 : Rat) * (f.2 : Rat) := by grind
    exact_mod_cast h3
  · intro h
    have h3 : (f.1 : Rat) * (g.2 : Rat) = (g.1 : Rat) * (f.2 : Rat) := by exact_mod_cast h
    grind
theorem low_eq {f g : Int × Int} (h1 : Low f) (h2 : Low g) (h : rv f = rv g) : f = g := by
  have h3 := (rv_eqI h1.ne h2.ne).mp h
  obtain ⟨a, b⟩ := f
  obtain ⟨c, d⟩ := g
  obtain ⟨hb, h1⟩ := h1
  obtain ⟨hd, h2⟩ := h2
  dsimp only at *
  have e1 : a.natAbs * d.natAbs = c.natAbs * b.natAbs := by rw [← Int.natAbs_mul, ← Int.natAbs_mul, h3]
  have d1 : b.natAbs ∣ d.natAbs := by
    have : b.natAbs ∣ a.natAbs * d.natAbs := ⟨c.natAbs, by rw [e1, Nat.mul_comm]⟩
    exact Nat.Coprime.dvd_of_dvd_mul_left (Nat.Coprime.symm h1) this
  have d2 : d.natAbs ∣ b.natAbs := by
    have : d.natAbs ∣ c.natAbs * b.natAbs := ⟨a.natAbs, by rw [← e1, Nat.mul_comm]⟩
    exact Nat.Coprime.dvd_of_dvd_mul_left (Nat.Coprime.symm h2) this
  have e2 := Nat.dvd_antisymm d1 d2
  have e3 : b = d := by omega
  subst e3
  have e4 : a = c := Int.eq_of_mul_eq_mul_right (by omega) h3
  rw [e4]
theorem rv_lt {f g : Int × Int} (h1 : 1 ≤ f.2) (h2 : 1 ≤ g.2) : f.1 * g.2 < g.1 * f.2 ↔ rv f < rv g := by
  have a1 : (0 : Rat) < (f.2 : Rat) := ratPos (by omega)
  have a2 : (0 : Rat) < (g.2 : Rat) := ratPos (by omega)
  have e1 : (f.1 : Rat) = rv f * (f.2 : Rat) := by unfold rv; rw [Rat.div_mul_cancel (ratNe (by omega))]
  have e2 : (g.1 : Rat) = rv g * (g.2 : Rat) := by unfold rv; rw [Rat.div_mul_cancel (ratNe (by omega))]
  have hp : (0 : Rat) < (f.2 : Rat) * (g.2 : Rat) := Rat.mul_pos a1 a2
  have k : f.1 * g.2 < g.1 * f.2 ↔ (f.1 : Rat) * (g.2 : Rat) < (g.1 : Rat) * (f.2 : Rat) := by
    constructor
    · intro h; exact_mod_cast h
    · intro h; exact_mod_cast h
  rw [k, e1, e2]
  have e3 : rv f * (f.2 : Rat) * (g.2 : Rat) = rv f * ((f.2 : Rat) * (g.2 : Rat)) := by grind
  have e4 : rv g * (g.2 : Rat) * (f.2 : Rat) = rv g * ((f.2 : Rat) * (g.2 : Rat)) := by grind
  rw [e3, e4]
  constructor
  · intro h
    by_cases z : rv f < rv g
    · exact z
    · by_cases z2 : rv f = rv g
      · rw [z2] at h; exact absurd h (Rat.lt_irrefl)
      · have z3 : rv g < rv f := by grind
        have := Rat.mul_lt_mul_of_pos_right z3 hp
        grind
  · intro h
    exact Rat.mul_lt_mul_of_pos_right h hp
theorem rv_pos {f : Int × Int} (h1 : 1 ≤ f.2) : 0 < f.1 ↔ 0 < rv f := by
  have := rv_lt (f := (0, 1)) (g := f) (by decide) h1
  have e : rv (0, 1) = 0 := by unfold rv; grind
  rw [e] at this
  rw [← this]
  show _ ↔ 0 * f.2 < f.1 * 1
  rw [Int.zero_mul, Int.mul_one]
theorem rv_int (n : Int) : rv (n, 1) = (n : Rat) := by unfold rv; grind

/-! ### thresholds -/
/-- the sum of the lesser ones of t and the weights -/
def cap (t : Rat) : List Rat → Rat
  | [] => 0
  | w :: r => (if w < t then w else t) + cap t r
structure Thr (ws : List Rat) (k : Nat) (t : Rat) : Prop where
  small : ws.length ≤ k → t = 0
  big : k < ws.length → 0 < t ∧ cap t ws = (k : Rat) * t
theorem cap_app (t : Rat) : ∀ a b : List Rat, cap t (a ++ b) = cap t a + cap t b
  | [], b => by show cap t b = 0 + cap t b; grind
  | w :: r, b => by
    show (if w < t then w else t) + cap t (r ++ b) = (if w < t then w else t) + cap t r + cap t b
    rw [cap_app t r b]
    grind
theorem cap_all {t : Rat} : ∀ {ws : List Rat}, (∀ w ∈ ws, t ≤ w) → cap t ws = (ws.length : Rat) * t
  | [], _ => by show (0 : Rat) = ((0 : Nat) : Rat) * t; grind
  | w :: r, h => by
    have h1 := h w (by simp)
    show (if w < t then w else t) + cap t r = _
    rw [cap_all (ws := r) fun z hz => h z (by simp [hz]), if_neg (by grind), List.length_cons]
    have e : ((r.length + 1 : Nat) : Rat) = (r.length : Rat) + 1 := by exact_mod_cast rfl
    rw [e]
    grind
theorem cap_ge {t : Rat} (ht : 0 ≤ t) : ∀ {ws : List Rat}, (∀ w ∈ ws, 0 < w) → 0 ≤ cap t ws
  | [], _ => by show (0 : Rat) ≤ 0; grind
  | w :: r, h => by
    have h1 := h w (by simp)
    have h2 := cap_ge ht (ws := r) fun z hz => h z (by simp [hz])
    show 0 ≤ (if w < t then w else t) + cap t r
    split <;> grind
theorem cap_one {s t w : Rat} (hs : 0 < s) (h : s < t) (hw : 0 < w) : (if w < t then w else t) * s ≤ (if w < s then w else s) * t ∧ (w < t → (if w < t then w else t) * s < (if w < s then w else s) * t) := by
  have ht : 0 < t := by grind
  by_cases h1 : w < s
  · have h2 : w < t := by grind
    rw [if_pos h1, if_pos h2]
    have := Rat.mul_lt_mul_of_pos_left h hw
    exact ⟨by grind, fun _ => this⟩
  · rw [if_neg h1]
    by_cases h2 : w < t
    · rw [if_pos h2]
      have := Rat.mul_lt_mul_of_pos_right h2 hs
      have e : s * t = t * s := Rat.mul_comm s t
      rw [e]
      exact ⟨by grind, fun _ => this⟩
    · rw [if_neg h2]
      exact ⟨by grind, fun z => absurd z h2⟩
theorem cap_cmp {s t : Rat} (hs : 0 < s) (h : s < t) : ∀ {ws : List Rat}, (∀ w ∈ ws, 0 < w) → cap t ws * s ≤ cap s ws * t ∧ (cap t ws * s = cap s ws * t → ∀ w ∈ ws, t ≤ w)
  | [], _ => ⟨by show (0 : Rat) * s ≤ 0 * t; grind, fun _ w hw => by cases hw⟩
  | w :: r, hp => by
    have h1 := cap_one hs h (hp w (by simp))
    have h2 := cap_cmp hs h (ws := r) fun z hz => hp z (by simp [hz])
    have e1 : cap t (w :: r) = (if w < t then w else t) + cap t r := rfl
    have e2 : cap s (w :: r) = (if w < s then w else s) + cap s r := rfl
    rw [e1, e2, Rat.add_mul, Rat.add_mul]
    generalize (if w < t then w else t) * s = a at *
    generalize (if w < s then w else s) * t = b at *
    generalize cap t r * s = c at *
    generalize cap s r * t = d at *
    refine ⟨by grind, fun e z hz => ?_⟩
    rcases List.mem_cons.mp hz with rfl | hz
    · by_cases hw : z < t
      · have := h1.2 hw
        grind
      · grind
    · exact h2.2 (by grind) z hz
theorem natR_lt {a b : Nat} (h : a < b) : (a : Rat) < (b : Rat) := by exact_mod_cast h
/-- above the threshold there is room -/
theorem thr_le {ws : List Rat} {k : Nat} {t s : Rat} (hp : ∀ w ∈ ws, 0 < w) (h : Thr ws k t) (hk : k < ws.length) (hs : 0 < s) (hc : cap s ws ≤ (k : Rat) * s) : t ≤ s := by
  by_cases z : t ≤ s
  · exact z
  · have hst : s < t := by grind
    obtain ⟨ht, e⟩ := h.big hk
    have h1 := cap_cmp hs hst hp
    have h2 : cap s ws * t ≤ (k : Rat) * s * t := Rat.mul_le_mul_of_nonneg_right hc (by grind)
    rw [e] at h1
    have h3 : (k : Rat) * t * s = (k : Rat) * s * t := by grind
    have h4 := h1.2 (by grind)
    have h5 := cap_all h4
    rw [e] at h5
    have h6 := Rat.mul_lt_mul_of_pos_right (natR_lt hk) ht
    grind
theorem thr_ge {ws : List Rat} {k : Nat} {t s : Rat} (hp : ∀ w ∈ ws, 0 < w) (h : Thr ws k t) (hk : k < ws.length) (hs : 0 < s) (hc : (k : Rat) * s ≤ cap s ws) : s ≤ t := by
  by_cases z : s ≤ t
  · exact z
  · have hst : t < s := by grind
    obtain ⟨ht, e⟩ := h.big hk
    have h1 := cap_cmp ht hst hp
    have h2 : (k : Rat) * s * t ≤ cap s ws * t := Rat.mul_le_mul_of_nonneg_right hc (by grind)
    rw [e] at h1
    have h3 : (k : Rat) * t * s = (k : Rat) * s * t := by grind
    have h4 := h1.2 (by grind)
    have h7 : ∀ w ∈ ws, t ≤ w := fun w hw => by have := h4 w hw; grind
    have h5 := cap_all h7
    rw [e] at h5
    have h6 := Rat.mul_lt_mul_of_pos_right (natR_lt hk) ht
    grind
theorem thr_uniq {ws : List Rat} {k : Nat} {t s : Rat} (hp : ∀ w ∈ ws, 0 < w) (h : Thr ws k t) (h2 : Thr ws k s) : t = s := by
  by_cases hk : k < ws.length
  · obtain ⟨hs, e⟩ := h2.big hk
    have a := thr_le hp h hk hs (by grind)
    have b := thr_ge hp h hk hs (by grind)
    grind
  · rw [h.small (by omega), h2.small (by omega)]
theorem thr_nonneg {ws : List Rat} {k : Nat} {t : Rat} (h : Thr ws k t) : 0 ≤ t := by
  by_cases hk : k < ws.length
  · have := (h.big hk).1; grind
  · rw [h.small (by omega)]; grind
theorem cap_perm {t : Rat} {a b : List Rat} (h : a.Perm b) : cap t a = cap t b := by
  induction h with
  | nil => rfl
  | cons x _ ih => show _ + cap t _ = _ + cap t _; rw [ih]
  | swap x y l => show _ + (_ + cap t l) = _ + (_ + cap t l); grind
  | trans _ _ h1 h2 => exact h1.trans h2
theorem Thr.perm {a b : List Rat} {k : Nat} {t : Rat} (h : Thr a k t) (p : a.Perm b) : Thr b k t := ⟨fun hl => h.small (by rw [p.length_eq]; exact hl), fun hl => by rw [← cap_perm p]; exact h.big (by rw [p.length_eq]; exact hl)⟩

/-! ### calculations with fractions, as rational numbers -/
theorem rv_fplus {f g : Fr} (h1 : f.2 ≠ 0) (h2 : g.2 ≠ 0) : rv (fplus f g) = rv f + rv g := by
  unfold fplus
  rw [rv_lo (Int.mul_ne_zero h1 h2)]
  have a1 := ratNe h1
  have a2 := ratNe h2
  have e1 : ((f.1 * g.2 + g.1 * f.2 : Int) : Rat) = (f.1 : Rat) * (g.2 : Rat) + (g.1 : Rat) * (f.2 : Rat) := by exact_mod_cast rfl
  have e2 : ((f.2 * g.2 : Int) : Rat) = (f.2 : Rat) * (g.2 : Rat) := by exact_mod_cast rfl
  rw [e1, e2]
  unfold rv
  grind
theorem rv_fminus {f g : Fr} (h1 : f.2 ≠ 0) (h2 : g.2 ≠ 0) : rv (fminus f g) = rv f - rv g := by
  unfold fminus
  rw [rv_lo (Int.mul_ne_zero h1 h2)]
  have a1 := ratNe h1
  have a2 := ratNe h2
  have e1 : ((f.1 * g.2 - g.1 * f.2 : Int) : Rat) = (f.1 : Rat) * (g.2 : Rat) - (g.1 : Rat) * (f.2 : Rat) := by exact_mod_cast rfl
  have e2 : ((f.2 * g.2 : Int) : Rat) = (f.2 : Rat) * (g.2 : Rat) := by exact_mod_cast rfl
  rw [e1, e2]
  unfold rv
  grind
theorem rv_ftimes {f g : Fr} (h1 : f.2 ≠ 0) (h2 : g.2 ≠ 0) : rv (ftimes f g) = rv f * rv g := by
  unfold ftimes
  rw [rv_lo (Int.mul_ne_zero h1 h2)]
  have a1 := ratNe h1
  have a2 := ratNe h2
  have e1 : ((f.1 * g.1 : Int) : Rat) = (f.1 : Rat) * (g.1 : Rat) := by exact_mod_cast rfl
  have e2 : ((f.2 * g.2 : Int) : Rat) = (f.2 : Rat) * (g.2 : Rat) := by exact_mod_cast rfl
  rw [e1, e2]
  unfold rv
  grind
theorem fless_iff {f g : Fr} (h1 : 1 ≤ f.2) (h2 : 1 ≤ g.2) : fless f g = decide (rv f < rv g) := by
  unfold fless
  rw [decide_eq_decide]
  exact rv_lt h1 h2
theorem fplus_low {f g : Fr} (h1 : f.2 ≠ 0) (h2 : g.2 ≠ 0) : Low (fplus f g) := lo_low (Int.mul_ne_zero h1 h2)
theorem rv_fsum : ∀ {fs : List Fr} {t : Fr}, Low t → (∀ f ∈ fs, f.2 ≠ 0) → rv (fsum t fs) = rv t + (fs.map rv).sum ∧ Low (fsum t fs)
  | [], t, h, _ => ⟨by show rv t = rv t + 0; grind, h⟩
  | f :: r, t, h, hf => by
    have h1 := hf f (by simp)
    have ih := rv_fsum (fs := r) (t := fplus t f) (fplus_low h.ne h1) fun g hg => hf g (by simp [hg])
    refine ⟨?_, ih.2⟩
    show rv (fsum (fplus t f) r) = _
    rw [ih.1, rv_fplus h.ne h1, List.map_cons, List.sum_cons]
    grind
theorem eqv_fr (f g : Fr) : PyData.eqv (frD f) (frD g) = decide (f = g) := by
  obtain ⟨a, b⟩ := f
  obtain ⟨c, d⟩ := g
  simp [frD, PyData.eqv, PyData.eqvAll, Prod.ext_iff]
  rfl
theorem eqF {K : PySem.W.Frag} {H : Hp} {Q : VK} {a b : Addr} {f g : Fr} (h1 : FrAt K H a f) (h2 : FrAt K H b g) (q : Q (.bl (decide (f = g))) H) : rEqD K (.ref a) (.ref b) H Q :=
  ⟨_, _, dpF h1, dpF h2, frD_sh _, frD_sh _, by rw [eqv_fr]; exact q⟩
theorem neF {K : PySem.W.Frag} {H : Hp} {Q : VK} {a b : Addr} {f g : Fr} (h1 : FrAt K H a f) (h2 : FrAt K H b g) (q : Q (.bl (!decide (f = g))) H) : rNeD K (.ref a) (.ref b) H Q :=
  ⟨_, _, dpF h1, dpF h2, frD_sh _, frD_sh _, by rw [eqv_fr]; exact q⟩

/-! ### samphire.laws: check_chances, law_from -/
section lawfrom
variable {K : PySem.W.Frag}
open LamX LamK
/-- the partial sums are small -/
def SumOk (fs : List Fr) : Prop := (∀ f ∈ fs, FrB 3900 f ∧ f.2 ≠ 0) ∧ ∀ i, FrB 3900 (fsum (0, 1) (fs.take i)) ∧ (fsum (0, 1) (fs.take i)).2 ≠ 0
def spSumG (K : PySem.W.Frag) : Sp := fun vs H Q _ => ∃ (a : Addr) (as : List Addr) (fs : List Fr), vs = [.ref a] ∧ SqL K H a (as.map V.ref) ∧ FrsAt K H as fs ∧ SumOk fs ∧ ∀ H' c, Kp [] H H' → FrAt K H' c (fsum (0, 1) fs) → Q (.ref c) H'
theorem ok_sum_of {P : Program} {w : World} {K : PySem.W.Frag} {mg : Str → Option Value} {base : Heap} (T : T P K mg base) : FnOk P w K mg base CX0 5 T.a_sum_of T.fd_sum_of ["fractions"] (spSumG K) := by
  refine T.F_sum_of.ok sc_sum_of (fun vs H Q E h => ?_) (fun cdv A outer s H vs Q E hr h => ?_)
  · obtain ⟨a, as, fs, rfl, _⟩ := h
    rfl
  · obtain ⟨a, as, fs, rfl, hS, hF, hB, q⟩ := h
    refine ⟨_, (pss_cons (ps_set (i := 1) sc_sum_of.nd rfl (by first | exact Or.inl rfl | exact Or.inr rfl) (pe_glob (v := .ref T.k_ZERO) (by rfl) T.g_ZERO rfl))
      (pss_cons (ps_for PassesOwn.never rfl (pi_list (pv 0)) (pg_name (i := 2) sc_sum_of.nd rfl (by first | exact Or.inl rfl | exact Or.inr rfl)) (pss_one (ps_set (i := 1) sc_sum_of.nd rfl (by first | exact Or.inl rfl | exact Or.inr rfl) (pe_call (ok_plus T) (hr.mono (by decide)) (by rfl) T.g_plus T.F_plus.kp T.b_plus .nil pass0 (pa_cons (pv 1) (pa_cons (pv 2) pa_nil))))))
      (pss_one (ps_ret (pv 1))))), ?_⟩
    walk_at "z0"
    walk_at "z"
    refine Z.forl (as.map V.ref) hS (fun i σ' H' => ∃ c y, σ' = [some (.ref a), some (.ref c), y] ∧ Kp [] H H' ∧ FrAt K H' c (fsum (0, 1) (fs.take i))) ?_ ?_ ?_ ?_
    · exact ⟨T.k_ZERO, none, rfl, Kp.refl _, T.q_ZERO H⟩
    · rintro i σ' H' _ ⟨c, y, rfl, k2, _⟩
      exact k2.seq nin0 hS
    · rintro i v σ' H' hv ⟨c, y, rfl, k2, e2⟩
      obtain ⟨x, f, rfl, hf, hx⟩ := (hF.kp0 k2).get hv
      have hfB := hB.1 f (List.mem_of_getElem? hf)
      have hB1 := hB.2 i
      walk_at "z"
      refine ⟨c, x, _, f, rfl, e2, hx, hB1.2, hfB.2, hB1.1, hfB.1, fun H3 d nd k3 e3 => ?_⟩
      walk_at "z"
      exact ⟨d, _, rfl, k2.trans k3, by rw [fsum_take hf]; exact e3⟩
    · rintro σ' H' ⟨c, y, rfl, k2, e2⟩
      walk_at "z"
      rw [List.length_map, hF.len, List.take_length] at e2
      exact q _ _ k2 e2
def chOkB (fs : List Fr) : Bool := (fs.all fun f => !fless f (0, 1)) && decide (fsum (0, 1) fs = (1, 1))
theorem ok_InvalidLaw_init {P : Program} {w : World} {K : PySem.W.Frag} {mg : Str → Option Value} {base : Heap} (T : T P K mg base) : FnOk P w K mg base CX0 1 T.a_InvalidLaw_init ((NF_InvalidLaw T.cc_InvalidLaw T.c_InvalidLaw).fd T.doc_InvalidLaw T.pm_InvalidLaw T.ctv_InvalidLaw) ["self"] (spZD T.C_InvalidLaw) := by
  refine Sup.fn_super (F := NF_InvalidLaw T.cc_InvalidLaw T.c_InvalidLaw) (p := "self") (ps' := []) T.x_InvalidLaw.S T.lk_InvalidLaw rfl T.hc_InvalidLaw sc_InvalidLaw_init rfl ⟨_, rfl, rfl⟩ rfl rfl (fun _ => rfl) (fun _ => ⟨_, rfl⟩) (fun _ => rfl) (fun vs H Q E h => ?_) (fun A outer s H vs Q E hr h => ?_)
  · obtain ⟨a, rfl, _⟩ := h
    rfl
  · obtain ⟨a, rfl, ha, q⟩ := h
    exact ⟨a, [], _, _, rfl, ha, pa_cons pe_str pa_nil, pss_nil, by decide, ha, q⟩
def spCheck (K : PySem.W.Frag) (C : Addr) : Sp := fun vs H Q E => ∃ (a : Addr) (as : List Addr) (fs : List Fr), vs = [.ref a] ∧ SqL K H a (as.map V.ref) ∧ FrsAt K H as fs ∧ SumOk fs ∧ (chOkB fs = true → ∀ H', Kp [] H H' → Q .non H') ∧ (chOkB fs = false → ∀ H', Kp [] H H' → E (.ref C) none H')
theorem ok_check_chances {P : Program} {w : World} {K : PySem.W.Frag} {mg : Str → Option Value} {base : Heap} (T : T P K mg base) : FnOk P w K mg base (L2.CX P w) 6 T.a_check_chances T.fd_check_chances ["chances"] (spCheck K T.C_InvalidLaw) := by
  refine T.F_check_chances.okX sc_check_chances (fun vs H Q E h => ?_) (fun cdv A outer s H vs Q E hr h => ?_)
  · obtain ⟨a, as, fs, rfl, _⟩ := h
    rfl
  · obtain ⟨a, as, fs, rfl, hS, hF, hB, q, qE⟩ := h
    refine ⟨_, (pss_cons (ps_for (passes_of rfl) rfl (pi_list (pv 0)) (pg_name (i := 1) sc_check_chances.nd rfl (by first | exact Or.inl rfl | exact Or.inr rfl)) (pss_one (ps_if (pt_val (pe_call (ok_less T) (hr.mono (by decide)) (by rfl) T.g_less T.F_less.kp T.b_less .nil pass0 (pa_cons (pv 1) (pa_cons (pe_glob (v := .ref T.k_ZERO) (by rfl) T.g_ZERO rfl) pa_nil)))) (pss_one (ps_raise rfl (takes_of rfl rfl rfl rfl) (Sup.pmk_oexN T.x_InvalidLaw.S.T T.x_InvalidLaw.iC T.x_InvalidLaw.tI (ok_InvalidLaw_init T) (hr.mono (by decide)) (T.bx_InvalidLaw) pass0 (by rfl) T.x_InvalidLaw.g))) pss_nil)))
      (pss_one (ps_if (pt_cmpR (op_neD hr.units) (pe_call (ok_sum_of T) (hr.mono (by decide)) (by rfl) T.g_sum_of T.F_sum_of.kp T.b_sum_of .nil pass0 (pa_cons (pv 0) pa_nil)) (pe_glob (v := .ref T.k_ONE) (by rfl) T.g_ONE rfl) (nomark _)) (pss_one (ps_raise rfl (takes_of rfl rfl rfl rfl) (Sup.pmk_oexN T.x_InvalidLaw.S.T T.x_InvalidLaw.iC T.x_InvalidLaw.tI (ok_InvalidLaw_init T) (hr.mono (by decide)) (T.bx_InvalidLaw) pass0 (by rfl) T.x_InvalidLaw.g))) pss_nil))), ?_⟩
    walk_at "z0"
    walk_at "z"
    refine Z.forl (as.map V.ref) hS (fun i σ' H' => ∃ y, σ' = [some (.ref a), y] ∧ H' = H ∧ ∀ f ∈ fs.take i, fless f (0, 1) = false) ?_ ?_ ?_ ?_
    · exact ⟨_, rfl, rfl, by simp⟩
    · rintro i σ' H' _ ⟨y, rfl, rfl, _⟩
      exact hS
    · rintro i v σ' H' hv ⟨y, rfl, rfl, hl⟩
      obtain ⟨x, f, rfl, hf, hx⟩ := hF.get hv
      have hfB := hB.1 f (List.mem_of_getElem? hf)
      walk_at "z"
      refine ⟨x, T.k_ZERO, f, (0, 1), rfl, hx, T.q_ZERO _, hfB.1, ⟨by decide, by decide⟩, ?_⟩
      cases hfl : fless f (0, 1) with
      | true =>
        walk_at "z"
        refine Z.mkN fun a na => ⟨a, rfl, upd_same, rfl, upd_same, ?_⟩
        rw [del_upd na]
        refine qE ?_ _ (Kp.refl _)
        unfold chOkB
        rw [show (fs.all fun f => !fless f (0, 1)) = false from by
          refine Bool.eq_false_iff.mpr fun z => ?_
          have := List.all_eq_true.mp z f (List.mem_of_getElem? hf)
          rw [hfl] at this
          cases this]
        rfl
      | false =>
        walk_at "z"
        refine ⟨_, rfl, rfl, fun g hg => ?_⟩
        rw [List.take_add_one, hf] at hg
        rcases List.mem_append.mp hg with hg | hg
        · exact hl g hg
        · obtain rfl : g = f := by simpa using hg
          exact hfl
    · rintro σ' H' ⟨y, rfl, rfl, hl⟩
      rw [List.length_map, hF.len, List.take_length] at hl
      have hall : (fs.all fun f => !fless f (0, 1)) = true := List.all_eq_true.mpr fun f hf => by rw [hl f hf]; rfl
      walk_at "z"
      refine ⟨a, as, fs, rfl, hS, hF, hB, fun H2 c k2 e2 => ?_⟩
      walk_at "z"
      refine neF (g := (1, 1)) e2 (T.q_ONE _) ?_
      unfold chOkB at q qE
      rw [hall, Bool.true_and] at q qE
      walk_at "z"
      refine Z.iteN (fun h1 => ?_) (fun h1 => ?_)
      · walk_at "z"
        refine Z.mkN fun a na => ⟨a, rfl, upd_same, rfl, upd_same, ?_⟩
        rw [del_upd na]
        exact qE (decide_eq_false h1) _ k2
      · walk_at "z"
        exact q (decide_eq_true h1) _ k2
end lawfrom

section lawfrom2
variable {K : PySem.W.Frag}
open LamX LamK
/-- a row of a law: the tuple at a, the outcome v, d as data, the chance at c -/
structure LRow where
  a : Addr
  v : V
  d : PyData
  c : Addr
  f : Fr
def LRow.dat (r : LRow) : PyData × Fr := (r.d, r.f)
def LRow.r (r : LRow) : V := .ref r.a
structure DOk (d : PyData) : Prop where
  flat : noLst d = true
  deep : d.depth ≤ 60
  sh : SeqAt.shaped d = true
structure LRowAt (K : PySem.W.Frag) (H : Hp) (r : LRow) : Prop where
  tup : SqT K H r.a [r.v, .ref r.c]
  dp : Dp K H r.v r.d
  fr : FrAt K H r.c r.f
  ok : DOk r.d
mutual
theorem dp_kp {M : List Addr} {H H' : Hp} (k : Kp M H H') (n : ∀ x ∈ M, NoTup H x) : ∀ (d : PyData) {v : V}, noLst d = true → Dp K H v d → Dp K H' v d
  | .none, _, _, .non => .non
  | .bool _, _, _, .bl b => .bl b
  | .int _, _, _, .int i => .int i
  | .str _, _, _, .str x => .str x
  | .list _, _, z, _ => by simp [noLst] at z
  | .dict _, _, z, _ => by simp [noLst] at z
  | .tuple ds, _, z, .tup h r => .tup (kpTup h k n) (dp_kpAll k n ds (by simpa [noLst] using z) r)
theorem dp_kpAll {M : List Addr} {H H' : Hp} (k : Kp M H H') (n : ∀ x ∈ M, NoTup H x) : ∀ (ds : List PyData) {vs : List V}, noLstAll ds = true → DpAll K H vs ds → DpAll K H' vs ds
  | [], _, _, .nil => .nil
  | d :: ds, _, z, .cons h r => by
    have z' : noLst d = true ∧ noLstAll ds = true := by simpa [noLstAll] using z
    exact .cons (dp_kp k n d z'.1 h) (dp_kpAll k n ds z'.2 r)
end
theorem LRowAt.ext {H H' : Hp} {r : LRow} (h : LRowAt K H r) (e : ExtN H H') : LRowAt K H' r := ⟨ext_tup e h.tup, ext_dp e _ h.dp, ext_tup e h.fr, h.ok⟩
theorem LRowAt.kpM {M : List Addr} {H H' : Hp} {r : LRow} (h : LRowAt K H r) (k : Kp M H H') (n : ∀ x ∈ M, NoTup H x) : LRowAt K H' r := ⟨kpTup h.tup k n, dp_kp k n _ h.ok.flat h.dp, FrAt.kp h.fr k n, h.ok⟩
theorem LRowAt.kp0 {H H' : Hp} {r : LRow} (h : LRowAt K H r) (k : Kp [] H H') : LRowAt K H' r := h.kpM k (by simp)
theorem LRowAt.kpl {H H' : Hp} {r : LRow} {l : Addr} {xs : List V} (h : LRowAt K H r) (k : Kp [l] H H') (e : H l = some (.lst xs)) : LRowAt K H' r := h.kpM k fun x hx => by
  rw [List.mem_singleton.mp hx]
  exact NoTup.lst e
/-- rows gathered: equal neighbours are added -/
def stp (acc : List (PyData × Fr)) (x : PyData × Fr) : List (PyData × Fr) := match acc.getLast? with
  | some y => if PyData.eqv y.1 x.1 = true then acc.dropLast ++ [(x.1, fplus y.2 x.2)] else acc ++ [x]
  | none => [x]
theorem stp_nil (x : PyData × Fr) : stp [] x = [x] := rfl
theorem stp_last (o : List (PyData × Fr)) (y x : PyData × Fr) : stp (o ++ [y]) x = if PyData.eqv y.1 x.1 = true then o ++ [(x.1, fplus y.2 x.2)] else o ++ [y] ++ [x] := by
  unfold stp
  rw [List.getLast?_concat, List.dropLast_concat]
def srtd (rs : List LRow) : List LRow := rs.mergeSort (PySem.W.dataLe false LRow.d)
def lawOf (rs : List LRow) : List (PyData × Fr) := (((srtd rs).map LRow.dat).foldl stp []).filter fun x => !decide (x.2 = (0, 1))
/-- all that is added on the way is small -/
def StpOk (rs : List LRow) : Prop := ∀ i, ∀ y ∈ (((srtd rs).map LRow.dat).take i).foldl stp [], FrB 3900 y.2 ∧ y.2.2 ≠ 0
theorem srtd_refs (rs : List LRow) : ((rs.map fun r => (r.a, r.d)).mergeSort (PySem.W.dataLe false Prod.snd)).map (fun b => V.ref b.1) = (srtd rs).map LRow.r := by
  unfold srtd
  have e := List.map_mergeSort (r := PySem.W.dataLe false LRow.d) (s := PySem.W.dataLe false Prod.snd) (f := fun r : LRow => (r.a, r.d)) (l := rs) (fun _ _ _ _ => rfl)
  rw [← e, List.map_map]
  rfl
theorem mem_srtd {rs : List LRow} {r : LRow} : r ∈ srtd rs ↔ r ∈ rs := (List.mergeSort_perm rs _).mem_iff
structure LawIn (K : PySem.W.Frag) (H : Hp) (rs : List LRow) : Prop where
  at_ : ∀ r ∈ rs, LRowAt K H r
  key : KeyOk (rs.map LRow.d)
  sum : SumOk (rs.map LRow.f)
  stp : StpOk rs
  len : rs.length ≤ 100000
abbrev LQ : Str := "law_from.<locals>.<lambda>"
def spLawFrom (K : PySem.W.Frag) (C P : Addr) : Sp := fun vs H Q E => ∃ (a : Addr) (rs : List LRow), vs = [.ref a] ∧ Tabs [(P, LQ)] H ∧ SqL K H a (rs.map LRow.r) ∧ LawIn K H rs ∧ (chOkB (rs.map LRow.f) = false → ∀ H', Kp [] H H' → E (.ref C) none H') ∧
  (chOkB (rs.map LRow.f) = true → ∀ (H' : Hp) (b : Addr) (out : List LRow), Nw H b → ExtN H H' → Tabs [(P, LQ)] H' → H' b = some (.lst (out.map LRow.r)) → (∀ r ∈ out, LRowAt K H' r) → out.map LRow.dat = lawOf rs → Q (.ref b) H')
theorem frs_of {H : Hp} : ∀ {rs : List LRow}, (∀ r ∈ rs, LRowAt K H r) → FrsAt K H (rs.map LRow.c) (rs.map LRow.f)
  | [], _ => .nil
  | r :: rs, h => .cons (h r (by simp)).fr (frs_of fun x hx => h x (by simp [hx]))
theorem keyrows_of {H : Hp} {rs : List LRow} (h : ∀ r ∈ rs, LRowAt K H r) : KeyRows K H (rs.map fun r => (r.a, r.d)) := fun b hb => by
  obtain ⟨r, hr, rfl⟩ := List.mem_map.mp hb
  have hA := h r hr
  exact ⟨hA.ok.flat, hA.ok.deep, _, _, hA.tup, rfl, hA.dp⟩
theorem seq_kpl {H H' : Hp} {a l : Addr} {xs ys : List V} (h : SqL K H a xs) (k : Kp [l] H H') (n : a ≠ l) : SqL K H' a xs := k.seq (nin1 n) h
/-- found, as it stands -/
structure Fnd (K : PySem.W.Frag) (H : Hp) (F : Addr) (D : List (PyData × Fr)) (out : List LRow) : Prop where
  here : H F = some (.lst (out.map LRow.r))
  rows : ∀ r ∈ out, LRowAt K H r
  dat : out.map LRow.dat = D
theorem Fnd.ext {H H' : Hp} {F : Addr} {D : List (PyData × Fr)} {out : List LRow} (f : Fnd K H F D out) (e : ExtN H H') : Fnd K H' F D out := ⟨ext_get e f.here, fun r hr => (f.rows r hr).ext e, f.dat⟩
theorem Fnd.kp0 {H H' : Hp} {F : Addr} {D : List (PyData × Fr)} {out : List LRow} (f : Fnd K H F D out) (k : Kp [] H H') : Fnd K H' F D out := f.ext (ext_kp k)
theorem Fnd.put {H H' : Hp} {F : Addr} {D D' : List (PyData × Fr)} {out out' : List LRow} (f : Fnd K H F D out) (k : Kp [F] H H') (e : H' F = some (.lst (out'.map LRow.r))) (h : ∀ r ∈ out', LRowAt K H r) (d : out'.map LRow.dat = D') : Fnd K H' F D' out' := ⟨e, fun r hr => (h r hr).kpl k f.here, d⟩
theorem ixN_last {n : Nat} : ixN (n + 1) (-1) = some n := by
  unfold ixN
  rw [if_neg (by decide), if_pos (by omega)]
  congr 1
  omega
theorem rmap_snoc (o : List LRow) (y : LRow) : (o ++ [y]).map LRow.r = o.map LRow.r ++ [.ref y.a] := by rw [List.map_append]; rfl
theorem dat_len {out : List LRow} {D : List (PyData × Fr)} (h : out.map LRow.dat = D) : out.length = D.length := by rw [← h, List.length_map]
theorem stp_len {acc : List (PyData × Fr)} {x : PyData × Fr} : (stp acc x).length ≤ acc.length + 1 := by
  unfold stp
  cases h : acc.getLast? with
  | none =>
    rw [List.getLast?_eq_none_iff.mp h]
    simp
  | some y =>
    dsimp only
    split <;> simp
theorem fold_len : ∀ {xs acc : List (PyData × Fr)}, (xs.foldl stp acc).length ≤ acc.length + xs.length
  | [], acc => by simp
  | x :: xs, acc => by
    have h1 := stp_len (acc := acc) (x := x)
    have h2 := fold_len (xs := xs) (acc := stp acc x)
    rw [List.foldl_cons, List.length_cons]
    omega
theorem fold_snoc {xs : List (PyData × Fr)} {i : Nat} {x : PyData × Fr} (h : xs[i]? = some x) : (xs.take (i + 1)).foldl stp [] = stp ((xs.take i).foldl stp []) x := by
  rw [List.take_add_one, h, List.foldl_append]
  rfl
theorem ok_law_from {P : Program} {w : World} {K : PySem.W.Frag} {mg : Str → Option Value} {base : Heap} (T : T P K mg base) : FnOk P w K mg base (L2.CX P w) 7 T.a_law_from T.fd_law_from ["rows"] (spLawFrom K T.C_InvalidLaw T.P_law_from) := by
  obtain ⟨oc, od, kV, doc, pm, an, ct, osl, efd, lk, hcd⟩ := T.L_law_from
  have lk' := lk
  rw [efd] at lk' ⊢
  refine fn_of lk' hcd sc_law_from (fun vs H Q E h => ?_) (fun A outer s H vs Q E hr h => ?_)
  · obtain ⟨a, rs, rfl, _⟩ := h
    rfl
  · obtain ⟨a, rs, rfl, hT, hS, hL, qE, q⟩ := h
    refine ⟨_, (pss_cons (ps_expr (pe_call (ok_check_chances T) (hr.mono (by decide)) (by rfl) T.g_check_chances T.F_check_chances.kp T.b_check_chances .nil (passes_call (takes_of rfl rfl rfl rfl) (fun _ _ _ _ h => h)) (pa_cons (pe_lc (own := [("outcome", 2), ("chance", 3)]) (g := gTup K 2 (gCons (gName 2) (gCons (gName 3) gNil))) rfl sc_law_from.nd (pi_list (pv 0)) (blkOk_by (own := [("outcome", 2), ("chance", 3)]) (N := N_law_from) (sc := defScope s_law_from) (by decide +kernel)) (fun _ _ _ _ _ => (pg_tup rfl (pgs_cons (pg_name (i := 2) sc_law_from.nd rfl (by first | exact Or.inl rfl | exact Or.inr rfl)) (pgs_cons (pg_name (i := 3) sc_law_from.nd rfl (by first | exact Or.inl rfl | exact Or.inr rfl)) pgs_nil)))) (fun _ _ _ _ _ => pts_nil) (fun _ _ _ _ _ => (pv 3))) pa_nil)))
      (pss_cons (ps_set (i := 1) sc_law_from.nd rfl (by first | exact Or.inl rfl | exact Or.inr rfl) (pe_lst pa_nil))
      (pss_cons (ps_for (passes_of rfl) rfl (pi_list (LamK.pe_sortLam (T := [(T.P_law_from, "law_from.<locals>.<lambda>")]) (by rfl) T.z_sorted (pa_cons (pv 0) pa_nil) T.TB_law_from (by rfl) (by simp; rfl) (by intro q hq _; rw [List.mem_singleton.mp hq]; rfl) hr (LamK.keyS_by (by decide +kernel)) (by rfl) (fun _ _ _ _ _ _ => by rfl))) (pg_tup rfl (pgs_cons (pg_name (i := 2) sc_law_from.nd rfl (by first | exact Or.inl rfl | exact Or.inr rfl)) (pgs_cons (pg_name (i := 3) sc_law_from.nd rfl (by first | exact Or.inl rfl | exact Or.inr rfl)) pgs_nil))) (pss_one (ps_if (PW.pt (pw_and (pt_truth (pv 1) (by intro _; rfl)) (pw_and1 (pt_cmpR (op_eqD hr.units) (pe_ix ix_tup (pe_ix ix_list (pv 1) (pe_un un_neg pe_int) (fun _ _ => rfl)) pe_int (fun _ _ => rfl)) (pv 2) (nomark _))))) (pss_one (ps_asg (pe_tup (pa_cons (pv 2) (pa_cons (pe_call (ok_plus T) (hr.mono (by decide)) (by rfl) T.g_plus T.F_plus.kp T.b_plus .nil pass0 (pa_cons (pe_ix ix_tup (pe_ix ix_list (pv 1) (pe_un un_neg pe_int) (fun _ _ => rfl)) pe_int (fun _ _ => rfl)) (pa_cons (pv 3) pa_nil))) pa_nil))) (pg_sub (pv 1) (pe_un un_neg pe_int) set_list))) (pss_one (ps_expr (pe_bm PySem.F.plainAttrs_list PySem.F.slot_list_append PySem.F.type_list_append mt_append (pv 1) (pa_cons (pe_tup (pa_cons (pv 2) (pa_cons (pv 3) pa_nil))) pa_nil)))))))
      (pss_one (ps_ret (pe_lc (own := [("outcome", 2), ("chance", 3)]) (g := gTup K 2 (gCons (gName 2) (gCons (gName 3) gNil))) rfl sc_law_from.nd (pi_list (pv 1)) (blkOk_by (own := [("outcome", 2), ("chance", 3)]) (N := N_law_from) (sc := defScope s_law_from) (by decide +kernel)) (fun _ _ _ _ _ => (pg_tup rfl (pgs_cons (pg_name (i := 2) sc_law_from.nd rfl (by first | exact Or.inl rfl | exact Or.inr rfl)) (pgs_cons (pg_name (i := 3) sc_law_from.nd rfl (by first | exact Or.inl rfl | exact Or.inr rfl)) pgs_nil)))) (fun _ _ _ _ _ => (pts_one (pt_cmpR (op_neD hr.units : OpR _ _ (rNeD K)) (pv 3) (pe_glob (v := .ref T.k_ZERO) (by rfl) T.g_ZERO rfl) (nomark _)))) (fun _ _ _ _ _ => (pe_tup (pa_cons (pv 2) (pa_cons (pv 3) pa_nil)))))))))), ?_⟩
    walk_at "z0"
    walk_at "z"
    refine Z.lcl (rs.map LRow.r) hS (fun D i H1 => Kp [] H H1 ∧ H1 D = some (.lst ((rs.take i).map fun r => V.ref r.c))) ?_ ?_ ?_ ?_
    · intro D H1 nD k1 e1
      exact ⟨k1, e1⟩
    · rintro D i H1 nD hi ⟨k1, e1⟩
      exact k1.seq nin0 hS
    · rintro D i x H1 nD hx ⟨k1, e1⟩
      rw [List.getElem?_map] at hx
      obtain ⟨r, hr2, rfl⟩ := Option.map_eq_some_iff.mp hx
      have hA := (hL.at_ r (List.mem_of_getElem? hr2)).kp0 k1
      have hlen := hL.len
      dsimp only [wipe, List.set]
      refine Z.gtup hA.tup rfl ?_
      walk_at "z"
      refine ⟨rfl, ?_⟩
      walk_at "z"
      refine ⟨_, e1, Z.szl (m := 100000) (by rw [List.length_map, List.length_take]; omega), k1.mut nD rfl, ?_⟩
      rw [upd_same, List.take_add_one, hr2, List.map_append]
      rfl
    · rintro D H1 nD ⟨k1, e1⟩
      rw [List.length_map, List.take_length] at e1
      have hF1 := (frs_of hL.at_).kp0 k1
      refine ⟨D, rs.map LRow.c, rs.map LRow.f, rfl, lstL (by rw [e1, List.map_map]; rfl), hF1, hL.sum, fun ok H2 k2 => ?_, fun bad H2 k2 => qE bad _ (k1.trans k2)⟩
      have q := q ok
      walk_at "z"
      refine Z.lstK (fun F H3 nF k3 e3 => ?_)
      walk_at "z"
      have k03 := (k1.trans k2).trans k3
      have nF0 : H F = none := (k1.trans k2).none nin0 nF
      have hA3 : ∀ r ∈ rs, LRowAt K H3 r := fun r hr => (hL.at_ r hr).kp0 k03
      refine srtK (bs := rs.map fun r => (r.a, r.d)) (tabs_kp hT k03) (by rw [List.map_map]; exact k03.seq nin0 hS) (keyrows_of hA3) (by rw [List.map_map]; exact hL.key) fun H4 l e4 T4 nl el => ?_
      rw [srtd_refs] at el
      have hA4 : ∀ r ∈ srtd rs, LRowAt K H4 r := fun r hr => (hA3 r (mem_srtd.mp hr)).ext e4
      have hlF : F ≠ l := nl.ne e3 (by simp)
      have hlen : (srtd rs).length = rs.length := (List.mergeSort_perm rs _).length_eq
      have e04 : ExtN H H4 := (ext_kp k03).trans e4
      have hnF : Nw H F := Nw.of nF0
      have hsl : SqL K H4 l ((srtd rs).map LRow.r) := lstL el
      have hlenR := hL.len
      refine Z.forl ((srtd rs).map LRow.r) hsl (fun i σ' H' => ∃ y2 y3 out, σ' = [some (.ref a), some (.ref F), y2, y3] ∧ ExtN H H' ∧ Tabs [(T.P_law_from, LQ)] H' ∧ H' l = some (.lst ((srtd rs).map LRow.r)) ∧ (∀ r ∈ srtd rs, LRowAt K H' r) ∧ Fnd K H' F ((((srtd rs).map LRow.dat).take i).foldl stp []) out) ?_ ?_ ?_ ?_
      · exact ⟨_, _, [], rfl, e04, T4, el, hA4, ext_get e4 e3, by simp, rfl⟩
      · rintro i σ' H' hi ⟨y2, y3, out, rfl, e5, T5, l5, A5, F5⟩
        exact lstL l5
      · rintro i v σ' H' hv ⟨y2, y3, out, rfl, e5, T5, l5, A5, F5⟩
        rw [List.getElem?_map] at hv
        obtain ⟨r, hr2, rfl⟩ := Option.map_eq_some_iff.mp hv
        have hrm := List.mem_of_getElem? hr2
        have hA := A5 r hrm
        have hi : i < (srtd rs).length := (List.getElem?_eq_some_iff.mp hr2).1
        have hxd : ((srtd rs).map LRow.dat)[i]? = some r.dat := by rw [List.getElem?_map, hr2]; rfl
        have hfs := fold_snoc hxd
        have hol : out.length ≤ i := by
          have h1 := dat_len F5.dat
          have h2 := fold_len (xs := ((srtd rs).map LRow.dat).take i) (acc := [])
          rw [List.length_take] at h2
          simp only [List.length_nil] at h2
          omega
        have hfB := hL.sum.1 r.f (List.mem_map_of_mem (mem_srtd.mp hrm))
        have hpost : ∀ {H6 : Hp} (out' : List LRow), ExtN H H6 → Tabs [(T.P_law_from, LQ)] H6 → H6 l = some (.lst ((srtd rs).map LRow.r)) → (∀ r ∈ srtd rs, LRowAt K H6 r) → ∀ {out6 : List LRow} {D6 : List (PyData × Fr)}, Fnd K H6 F D6 out6 → (∀ r ∈ out', LRowAt K H6 r) → out'.map LRow.dat = stp ((((srtd rs).map LRow.dat).take i).foldl stp []) r.dat →
            ∃ y2 y3 out, [some (V.ref a), some (.ref F), some r.v, some (.ref r.c)] = [some (.ref a), some (.ref F), y2, y3] ∧ ExtN H (upd H6 F (.lst (out'.map LRow.r))) ∧ Tabs [(T.P_law_from, LQ)] (upd H6 F (.lst (out'.map LRow.r))) ∧ (upd H6 F (.lst (out'.map LRow.r))) l = some (.lst ((srtd rs).map LRow.r)) ∧ (∀ r ∈ srtd rs, LRowAt K (upd H6 F (.lst (out'.map LRow.r))) r) ∧ Fnd K (upd H6 F (.lst (out'.map LRow.r))) F ((((srtd rs).map LRow.dat).take (i + 1)).foldl stp []) out := fun {H6} out' e6 T6 l6 A6 {out6 D6} F6 ho hd => by
          have kF : Kp [F] H6 (upd H6 F (.lst (out'.map LRow.r))) := Kp.put (by simp)
          exact ⟨_, _, out', rfl, ext_put e6 kF hnF, tabs_put T6 kF F6.here, (upd_ne hlF.symm).trans l6, fun r hr => (A6 r hr).kpl kF F6.here, F6.put kF upd_same ho (by rw [hd, hfs])⟩
        refine Z.gtup hA.tup rfl ?_
        walk_at "z"
        refine Z.truL F5.here ?_
        rcases List.eq_nil_or_concat out with rfl | ⟨o, y, hoy⟩
        · rw [show (!(List.map LRow.r []).isEmpty) = false from rfl]
          walk_at "z"
          refine ⟨Z.tyL F5.here, ?_⟩
          walk_at "z"
          refine Z.tupK (fun t H6 nt k6 e6 => ?_)
          have F6 := F5.kp0 k6
          walk_at "z"
          refine Z.app F6.here (Z.szl (m := 100000) (by simp)) ?_
          walk_at "z"
          refine hpost [⟨t, r.v, r.d, r.c, r.f⟩] (e5.trans (ext_kp k6)) (tabs_kp T5 k6) (k6.get nin0 l5) (fun r hr => (A5 r hr).kp0 k6) F6 (fun x hx => ?_) ?_
          · rw [List.mem_singleton.mp hx]
            have hA6 := hA.kp0 k6
            exact ⟨tupT e6, hA6.dp, hA6.fr, hA6.ok⟩
          · rw [← F5.dat]
            rfl
        · rw [List.concat_eq_append] at hoy
          subst hoy
          have hD := F5.dat
          rw [List.map_append, List.map_cons, List.map_nil] at hD
          have hy := F5.rows y (by simp)
          have hyB := hL.stp i (y.d, y.f) (by rw [← hD]; simp [LRow.dat])
          have F5h := F5.here
          rw [rmap_snoc] at F5h ⊢
          rw [show (!(List.map LRow.r o ++ [V.ref y.a]).isEmpty) = true by simp]
          walk_at "z"
          refine Z.ixL (lstL F5h) (atI_last _ _) ?_
          walk_at "z"
          refine Z.ixT hy.tup (v := y.v) rfl ?_
          walk_at "z"
          refine ⟨y.d, r.d, hy.dp, hA.dp, hy.ok.sh, hA.ok.sh, ?_⟩
          cases hev : PyData.eqv y.d r.d with
          | true =>
            walk_at "z"
            refine Z.ixL (lstL F5h) (atI_last _ _) ?_
            walk_at "z"
            refine Z.ixT hy.tup (v := .ref y.c) rfl ?_
            walk_at "z"
            refine ⟨y.c, r.c, y.f, r.f, rfl, hy.fr, hA.fr, hyB.2, hfB.2, hyB.1, hfB.1, fun H6 s ns k6 e6 => ?_⟩
            walk_at "z"
            refine Z.tupK (fun t H7 nt k7 e7 => ?_)
            have k57 := k6.trans k7
            have F7 := F5.kp0 k57
            have F7h := F7.here
            rw [rmap_snoc] at F7h
            walk_at "z"
            refine Z.setL F7h (by rw [List.length_append]; exact ixN_last) ?_
            rw [show (List.map LRow.r o ++ [V.ref y.a]).set (List.map LRow.r o).length (.ref t) = (o ++ [(⟨t, r.v, r.d, s, fplus y.f r.f⟩ : LRow)]).map LRow.r by rw [rmap_snoc, List.set_append_right _ _ (Nat.le_refl _), Nat.sub_self]; rfl]
            refine hpost (o ++ [⟨t, r.v, r.d, s, fplus y.f r.f⟩]) (e5.trans (ext_kp k57)) (tabs_kp T5 k57) (k57.get nin0 l5) (fun r hr => (A5 r hr).kp0 k57) F7 (fun x hx => ?_) ?_
            · rcases List.mem_append.mp hx with hx | hx
              · exact F7.rows x (by simp [hx])
              · rw [List.mem_singleton.mp hx]
                have hA7 := hA.kp0 k57
                exact ⟨tupT e7, hA7.dp, e6.kp0 k7, hA7.ok⟩
            · rw [← hD, stp_last, if_pos (show PyData.eqv y.dat.1 r.dat.1 = true from hev), List.map_append]
              rfl
          | false =>
            walk_at "z"
            refine ⟨Z.tyL F5h, ?_⟩
            walk_at "z"
            refine Z.tupK (fun t H6 nt k6 e6 => ?_)
            have F6 := F5.kp0 k6
            walk_at "z"
            refine Z.app F6.here (Z.szl (m := 100000) (by rw [List.length_map]; omega)) ?_
            walk_at "z"
            rw [show (o ++ [y]).map LRow.r ++ [V.ref t] = (o ++ [y] ++ [(⟨t, r.v, r.d, r.c, r.f⟩ : LRow)]).map LRow.r by rw [List.map_append (l₁ := o ++ [y])]; rfl]
            refine hpost (o ++ [y] ++ [⟨t, r.v, r.d, r.c, r.f⟩]) (e5.trans (ext_kp k6)) (tabs_kp T5 k6) (k6.get nin0 l5) (fun r hr => (A5 r hr).kp0 k6) F6 (fun x hx => ?_) ?_
            · rcases List.mem_append.mp hx with hx | hx
              · exact F6.rows x hx
              · rw [List.mem_singleton.mp hx]
                have hA6 := hA.kp0 k6
                exact ⟨tupT e6, hA6.dp, hA6.fr, hA6.ok⟩
            · rw [← hD, stp_last, if_neg (show ¬ PyData.eqv y.dat.1 r.dat.1 = true by show ¬ PyData.eqv y.d r.d = true; rw [hev]; exact Bool.false_ne_true), List.map_append (l₁ := o ++ [y]), List.map_append]
              rfl
      · rintro σ' H' ⟨y2, y3, out, rfl, e5, T5, l5, A5, F5⟩
        rw [List.length_map, ← List.length_map (f := LRow.dat), List.take_length] at F5
        have hol : out.length ≤ rs.length := by
          have h1 := dat_len F5.dat
          have h2 := fold_len (xs := (srtd rs).map LRow.dat) (acc := [])
          rw [List.length_map] at h2
          simp only [List.length_nil] at h2
          omega
        walk_at "z"
        refine Z.lcl (out.map LRow.r) (lstL F5.here) (fun D2 i H6 => ∃ res : List LRow, Kp [] H' H6 ∧ H6 D2 = some (.lst (res.map LRow.r)) ∧ (∀ r ∈ res, LRowAt K H6 r) ∧ res.map LRow.dat = ((out.take i).map LRow.dat).filter fun x => !decide (x.2 = (0, 1))) ?_ ?_ ?_ ?_
        · intro D2 H6 nD2 k6 e6
          exact ⟨[], k6, e6, by simp, by simp⟩
        · rintro D2 i H6 nD2 hi ⟨res, k6, e6, A6, hd6⟩
          exact lstL (k6.get nin0 F5.here)
        · rintro D2 i x H6 nD2 hx ⟨res, k6, e6, A6, hd6⟩
          rw [List.getElem?_map] at hx
          obtain ⟨r, hr2, rfl⟩ := Option.map_eq_some_iff.mp hx
          have hA := (F5.rows r (List.mem_of_getElem? hr2)).kp0 k6
          have hrl : res.length ≤ i := by
            have h1 := dat_len hd6
            have h2 := List.length_filter_le (fun x : PyData × Fr => !decide (x.2 = (0, 1))) ((out.take i).map LRow.dat)
            rw [List.length_map, List.length_take] at h2
            omega
          have hi : i < out.length := (List.getElem?_eq_some_iff.mp hr2).1
          dsimp only [wipe, List.set]
          refine Z.gtup hA.tup rfl ?_
          walk_at "z"
          refine ⟨rfl, ?_⟩
          walk_at "z"
          refine neF (g := (0, 1)) hA.fr (T.q_ZERO _) ?_
          walk_at "z"
          refine Z.iteN (fun h1 => ?_) (fun h1 => ?_)
          · walk_at "z"
            refine Z.tupK (fun t H7 nt k7 e7 => ?_)
            have e7D := k7.get nin0 e6
            refine ⟨_, e7D, Z.szl (m := 100000) (by rw [List.length_map]; omega), res ++ [⟨t, r.v, r.d, r.c, r.f⟩], (k6.trans k7).mut nD2 rfl, by rw [upd_same, rmap_snoc], fun x hx => ?_, ?_⟩
            · have kD : Kp [D2] H7 (upd H7 D2 (.lst (res.map LRow.r ++ [.ref t]))) := Kp.put (by simp)
              rcases List.mem_append.mp hx with hx | hx
              · exact ((A6 x hx).kp0 k7).kpl kD e7D
              · rw [List.mem_singleton.mp hx]
                have hA7 := hA.kp0 k7
                exact LRowAt.kpl (r := ⟨t, r.v, r.d, r.c, r.f⟩) ⟨tupT e7, hA7.dp, hA7.fr, hA7.ok⟩ kD e7D
            · rw [List.map_append, hd6, List.take_add_one, hr2, List.map_append, List.filter_append]
              congr 1
              show [r.dat] = [r.dat].filter _
              rw [List.filter_cons_of_pos (by simp [LRow.dat, h1]), List.filter_nil]
          · walk_at "z"
            refine ⟨res, k6, e6, A6, ?_⟩
            rw [hd6, List.take_add_one, hr2, List.map_append, List.filter_append]
            show _ = _ ++ [r.dat].filter _
            rw [List.filter_cons_of_neg (by simp [LRow.dat, h1]), List.filter_nil, List.append_nil]
        · rintro D2 H6 nD2 ⟨res, k6, e6, A6, hd6⟩
          rw [List.length_map, List.take_length, F5.dat] at hd6
          walk_at "z"
          exact q H6 D2 res (Nw.back (Nw.of nD2) e5) (e5.trans (ext_kp k6)) (tabs_kp T5 k6) e6 A6 hd6
end lawfrom2

/-! ### errors of samphire.errors with fields -/
open PySem in
theorem app_len (a b : Str) : (a ++ b).length = a.length + b.length := by
  show (a.cps ++ b.cps).size = _
  rw [Array.size_append]; rfl
/-- what an own __init__ with fields does: ok says what it is called with, fl which fields it keeps -/
def spErr (C : Addr) (ok : List V → Prop) (fl : List V → List (Str × V)) : Sp := fun vs H Q _ => ∃ (a : Addr) (ws : List V), vs = .ref a :: ws ∧ ok ws ∧ H a = some (exo a C none) ∧
  ∀ d H', H d = none → d ≠ a → H' a = some (exo a C (some d)) → H' d = some (exd d (fl ws)) → (∀ b, b ≠ a → b ≠ d → H' b = H b) → Q .non H'
theorem err_heap {H H' : Hp} {a d : Addr} {o : HO} (ha : H a = none) (h : ∀ b, b ≠ a → b ≠ d → H' b = H b) : upd (del H' a) d o = upd H d o := by
  funext b
  by_cases hd : b = d
  · rw [hd, upd_same, upd_same]
  · rw [upd_ne hd, upd_ne hd]
    by_cases hb : b = a
    · rw [hb, del_same, ha]
    · rw [del_ne hb, h b hb hd]
/-- raise C(..) -/
theorem mkErr {C : Addr} {ok : List V → Prop} {fl : List V → List (Str × V)} {ta : TA} {σ : L2.St} {H : Hp} {Q : XK} (h : ta σ H fun vs H1 => vs.length ≤ 1000 ∧ ok vs ∧ ∀ d, H1 d = none → Q (.ref C) (some d) (upd H1 d (.xd (fl vs)))) (mono : ∀ {R S : List V → Hp → Prop}, (∀ v u, R v u → S v u) → ta σ H R → ta σ H S) : tMkO C (spErr C ok fl) [] ta σ H Q := by
  refine mono ?_ h
  rintro vs H1 ⟨hz, hok, q⟩
  refine ⟨hz, fun a ha => ⟨a, vs, by rw [List.append_nil], hok, upd_same, fun d H' hd hda h1 h2 h3 => ⟨rfl, d, fl vs, h1, h2, ?_, ?_⟩⟩⟩
  · rwa [upd_ne hda] at hd
  · rw [err_heap ha fun b hb hd => by rw [h3 b hb hd, upd_ne hb]]
    refine q d ?_
    rwa [upd_ne hda] at hd
def okWord (ws : List V) : Prop := ∃ s : Str, ws = [.str s] ∧ s.length ≤ 1000
def flOne (f : Str) : List V → List (Str × V)
  | [v] => [(f, v)]
  | _ => []
theorem ok_TooLarge_init {P : Program} {w : World} {K : PySem.W.Frag} {mg : Str → Option Value} {base : Heap} (T : T P K mg base) : FnOk P w K mg base CX0 1 T.a_TooLarge_init ((NF_TooLarge T.cc_TooLarge T.c_TooLarge).fd T.doc_TooLarge T.pm_TooLarge T.ctv_TooLarge) ["self", "limit"] (spErr T.C_TooLarge okWord (flOne "limit")) := by
  refine Sup.fn_super (F := NF_TooLarge T.cc_TooLarge T.c_TooLarge) (p := "self") (ps' := ["limit"]) T.x_TooLarge.S T.lk_TooLarge rfl T.hc_TooLarge sc_TooLarge_init rfl ⟨_, rfl, rfl⟩ rfl rfl (fun _ => rfl) (fun _ => ⟨_, rfl⟩) (fun _ => rfl) (fun vs H Q E h => ?_) (fun A outer s H vs Q E hr h => ?_)
  · obtain ⟨a, ws, rfl, ⟨s, rfl, _⟩, _⟩ := h
    rfl
  · obtain ⟨a, ws, rfl, ⟨s, rfl, hz⟩, ha, q⟩ := h
    refine ⟨a, [.str s], _, _, rfl, ha, pa_cons (pe_joined (.cons pe_str (.cons (pe_fmt (pv 1)) .nil))) pa_nil, pss_one (ps_ost (pv 0) (pv 1)), ?_⟩
    refine ⟨_, rfl, ?_, V.str s, rfl, .inl ⟨s, rfl, Nat.le_trans hz (by decide), s, rfl, ?_, ?_⟩⟩
    · decide +kernel
    · rw [app_len]
      refine Nat.le_trans (Nat.add_le_add (Nat.le_of_eq (show _ = 11 by decide +kernel)) hz) (by decide)
    refine ⟨by show 1 ≤ 1000; decide, ha, V.str s, rfl, V.ref a, rfl, a, T.C_TooLarge, rfl, T.x_TooLarge.S.T, T.nf_TooLarge_limit, .inl ⟨ha, fun d hd hda => ?_⟩⟩
    exact q d _ hd hda upd_same (by rw [upd_ne hda]; exact upd_same) (fun b hb hb2 => by rw [upd_ne hb, upd_ne hb2])

/-! ### samphire.explore -/
theorem ok_NotEnded_init {P : Program} {w : World} {K : PySem.W.Frag} {mg : Str → Option Value} {base : Heap} (T : T P K mg base) : FnOk P w K mg base CX0 1 T.a_NotEnded_init ((NF_NotEnded T.cc_NotEnded T.c_NotEnded).fd T.doc_NotEnded T.pm_NotEnded T.ctv_NotEnded) ["self"] (spZD T.C_NotEnded) := by
  refine Sup.fn_super (F := NF_NotEnded T.cc_NotEnded T.c_NotEnded) (p := "self") (ps' := []) T.x_NotEnded.S T.lk_NotEnded rfl T.hc_NotEnded sc_NotEnded_init rfl ⟨_, rfl, rfl⟩ rfl rfl (fun _ => rfl) (fun _ => ⟨_, rfl⟩) (fun _ => rfl) (fun vs H Q E h => ?_) (fun A outer s H vs Q E hr h => ?_)
  · obtain ⟨a, rfl, _⟩ := h
    rfl
  · obtain ⟨a, rfl, ha, q⟩ := h
    exact ⟨a, [], _, _, rfl, ha, pa_cons pe_str pa_nil, pss_nil, by decide, ha, q⟩
section explore
variable {K : PySem.W.Frag}
open LamX LamK
def onesI (n : Nat) : List Int := List.replicate n 1
def onesV (n : Nat) : List V := (onesI n).map V.int
theorem onesV_len (n : Nat) : (onesV n).length = n := by unfold onesV onesI; rw [List.length_map, List.length_replicate]
theorem onesV_at {n i : Nat} (h : i < n) : (onesV n)[i]? = some (.int 1) := by
  unfold onesV onesI
  rw [List.map_replicate, List.getElem?_replicate, if_pos h]
theorem onesI_sum (n : Nat) : (onesI n).sum = (n : Int) := by
  induction n with
  | zero => rfl
  | succ n ih =>
    unfold onesI at ih ⊢
    rw [List.replicate_succ, List.sum_cons, ih]
    omega
def nxtV (n s : Nat) : V := if s < n then .int (s : Int) else .non
def spNext (K : PySem.W.Frag) : Sp := fun vs H Q _ => ∃ (a : Addr) (n s : Nat), vs = [.ref a, .int (s : Int)] ∧ SqL K H a (onesV n) ∧ n ≤ 1000 ∧ s ≤ 1000 ∧ Q (nxtV n s) H
theorem ok_next_number {P : Program} {w : World} {K : PySem.W.Frag} {mg : Str → Option Value} {base : Heap} (T : T P K mg base) : FnOk P w K mg base CX0 1 T.a_next_number T.fd_next_number ["weights", "start"] (spNext K) := by
  refine T.F_next_number.ok sc_next_number (fun vs H Q E h => ?_) (fun cdv A outer s H vs Q E hr h => ?_)
  · obtain ⟨a, n, s, rfl, _⟩ := h
    rfl
  · obtain ⟨a, n, z, rfl, hS, hn, hz, q⟩ := h
    refine ⟨_, (pss_cons (ps_for PassesOwn.never rfl (pi_range2 (by rfl) T.z_range (pa_cons (pv 1) (pa_cons (pe_callB c_len (by rfl) T.z_len (by decide +kernel) (pa_cons (pv 0) pa_nil)) pa_nil))) (pg_name (i := 2) sc_next_number.nd rfl (by first | exact Or.inl rfl | exact Or.inr rfl)) (pss_one (ps_if (pt_cmpR op_gt (pe_ix ix_list (pv 0) (pv 2) (fun _ _ => rfl)) pe_int (nomark _)) (pss_one (ps_ret (pv 2))) pss_nil)))
      (pss_one (ps_ret pe_non))), ?_⟩
    walk_at "z0"
    walk_at "z"
    refine Z.lenL hS ?_
    rw [onesV_len]
    walk_at "z"
    refine Z.forr2 (n - z) (by omega) (by omega) (fun i σ' H' => H' = H ∧ i = 0 ∧ σ' = [some (.ref a), some (.int (z : Int)), none]) ?_ ?_ ?_
    · exact ⟨rfl, rfl, rfl⟩
    · rintro i σ' H' hi ⟨rfl, rfl, rfl⟩
      have hzn : z < n := by omega
      walk_at "z"
      rw [show (z : Int) + ((0 : Nat) : Int) = (z : Int) by omega]
      refine Z.ixL hS (atI_nat (onesV_at hzn)) ?_
      walk_at "z"
      refine Z.yes (by decide) ?_
      walk_at "z"
      unfold nxtV at q
      rw [if_pos hzn] at q
      exact q
    · rintro σ' H' ⟨rfl, h0, rfl⟩
      walk_at "z"
      unfold nxtV at q
      rw [if_neg (by omega)] at q
      exact q
/-- a place of a path: the tuple at t, the copied weights at w, the number k, the chance before at b -/
structure PI where
  t : Addr
  w : Addr
  k : Nat
  b : Addr
  f : Fr
def PI.r (x : PI) : V := .ref x.t
def PI.dat (x : PI) : Nat × Fr := (x.k, x.f)
structure PIAt (K : PySem.W.Frag) (n : Nat) (H : Hp) (x : PI) : Prop where
  tup : SqT K H x.t [.ref x.w, .int (n : Int), .int (x.k : Int), .ref x.b]
  ws : H x.w = some (.lst (onesV n))
  fr : FrAt K H x.b x.f
  lt : x.k < n
  small : FrB 1000 x.f ∧ x.f.2 ≠ 0
theorem PIAt.kpM {M : List Addr} {n : Nat} {H H' : Hp} {x : PI} (h : PIAt K n H x) (k : Kp M H H') (nt : ∀ y ∈ M, NoTup H y) (nw : ∀ y ∈ M, H y ≠ some (.lst (onesV n))) : PIAt K n H' x :=
  ⟨kpTup h.tup k nt, k.get (fun z => nw _ z h.ws) h.ws, FrAt.kp h.fr k nt, h.lt, h.small⟩
theorem PIAt.kp0 {n : Nat} {H H' : Hp} {x : PI} (h : PIAt K n H x) (k : Kp [] H H') : PIAt K n H' x := h.kpM k (by simp) (by simp)
theorem PIAt.ext {n : Nat} {H H' : Hp} {x : PI} (h : PIAt K n H x) (e : ExtN H H') : PIAt K n H' x := ⟨ext_tup e h.tup, ext_get e h.ws, ext_tup e h.fr, h.lt, h.small⟩
def stepF (n : Nat) (f : Fr) : Fr := ftimes f (lo 1 (n : Int))
def chB (n : Nat) (ps : List PI) : Fr := match ps.getLast? with
  | some x => stepF n x.f
  | none => (1, 1)
theorem chB_last {n : Nat} {o : List PI} {x : PI} : chB n (o ++ [x]) = stepF n x.f := by unfold chB; rw [List.getLast?_concat]
def spBehind (K : PySem.W.Frag) : Sp := fun vs H Q _ => ∃ (p : Addr) (n : Nat) (ps : List PI), vs = [.ref p] ∧ 1 ≤ n ∧ n ≤ 1000 ∧ H p = some (.lst (ps.map PI.r)) ∧ (∀ x ∈ ps, PIAt K n H x) ∧ ∀ H' c, Kp [] H H' → FrAt K H' c (chB n ps) → Q (.ref c) H'
theorem ok_chance_behind {P : Program} {w : World} {K : PySem.W.Frag} {mg : Str → Option Value} {base : Heap} (T : T P K mg base) : FnOk P w K mg base CX0 5 T.a_chance_behind T.fd_chance_behind ["path"] (spBehind K) := by
  refine T.F_chance_behind.ok sc_chance_behind (fun vs H Q E h => ?_) (fun cdv A outer s H vs Q E hr h => ?_)
  · obtain ⟨p, n, ps, rfl, _⟩ := h
    rfl
  · obtain ⟨p, n, ps, rfl, hn1, hn2, hp, hA, q⟩ := h
    refine ⟨_, (pss_cons (ps_if (pt_not (pt_truth (pv 0) (by intro _; rfl))) (pss_one (ps_ret (pe_glob (v := .ref T.k_ONE) (by rfl) T.g_ONE rfl))) pss_nil)
      (pss_cons (ps_asg (pe_ix ix_list (pv 0) (pe_un un_neg pe_int) (fun _ _ => rfl)) (pg_tup rfl (pgs_cons (pg_name (i := 1) sc_chance_behind.nd rfl (by first | exact Or.inl rfl | exact Or.inr rfl)) (pgs_cons (pg_name (i := 2) sc_chance_behind.nd rfl (by first | exact Or.inl rfl | exact Or.inr rfl)) (pgs_cons (pg_name (i := 3) sc_chance_behind.nd rfl (by first | exact Or.inl rfl | exact Or.inr rfl)) (pgs_cons (pg_name (i := 4) sc_chance_behind.nd rfl (by first | exact Or.inl rfl | exact Or.inr rfl)) pgs_nil))))))
      (pss_one (ps_ret (pe_call (ok_times T) (hr.mono (by decide)) (by rfl) T.g_times T.F_times.kp T.b_times .nil pass0 (pa_cons (pv 4) (pa_cons (pe_call (ok_lowest T) (hr.mono (by decide)) (by rfl) T.g_lowest T.F_lowest.kp T.b_lowest .nil passL (pa_cons (pe_ix ix_list (pv 1) (pv 3) (fun _ _ => rfl)) (pa_cons (pv 2) pa_nil))) pa_nil))))))), ?_⟩
    walk_at "z0"
    walk_at "z"
    refine Z.truL hp ?_
    rcases List.eq_nil_or_concat ps with rfl | ⟨o, x, hox⟩
    · rw [show (!(List.map PI.r []).isEmpty) = false from rfl]
      walk_at "z"
      exact q _ _ (Kp.refl _) (T.q_ONE _)
    · rw [List.concat_eq_append] at hox
      subst hox
      rw [show (!(List.map PI.r (o ++ [x])).isEmpty) = true by simp]
      rw [List.map_append] at hp
      have hx := hA x (by simp)
      walk_at "z"
      refine Z.ixL (lstL hp) (atI_last _ _) ?_
      refine Z.gtup hx.tup rfl ?_
      walk_at "z"
      refine Z.ixL (lstL hx.ws) (atI_nat (onesV_at hx.lt)) ?_
      walk_at "z"
      have hn0 : (n : Int) ≠ 0 := by omega
      have hnb : ((n : Int)).natAbs < 2 ^ 1000 := Nat.lt_of_le_of_lt (by omega : _ ≤ 1000) (by decide)
      refine ⟨_, _, rfl, up_B hnb (by decide), fun z => absurd z hn0, fun _ H2 c nc k2 e2 => ?_⟩
      walk_at "z"
      refine ⟨x.b, c, x.f, lo 1 (n : Int), rfl, hx.fr.kp0 k2, e2, hx.small.2, by have := lo_pos (p := 1) hn0; omega, hx.small.1.mono (by decide), (lo_B hn0 (by decide : (1 : Int).natAbs < 2 ^ 1000) hnb).mono (by decide), fun H3 d nd k3 e3 => ?_⟩
      walk_at "z"
      refine q H3 d (k2.trans k3) ?_
      rw [chB_last]
      exact e3
end explore

section explore2
variable {K : PySem.W.Frag}
open LamX LamK
def folD (n : Nat) (x y : Nat × Fr) : Option (List (Nat × Fr)) := if y.1 + 1 < n then some [x, (y.1 + 1, y.2)] else if x.1 + 1 < n then some [(x.1 + 1, x.2)] else none
def spFol (K : PySem.W.Frag) : Sp := fun vs H Q _ => ∃ (p : Addr) (n : Nat) (x y : PI), vs = [.ref p] ∧ 1 ≤ n ∧ n ≤ 1000 ∧ H p = some (.lst [x.r, y.r]) ∧ PIAt K n H x ∧ PIAt K n H y ∧ (folD n x.dat y.dat = none → Q .non H) ∧
  ∀ (H' : Hp) (p' : Addr) (ps : List PI), H p' = none → Kp [] H H' → H' p' = some (.lst (ps.map PI.r)) → (∀ z ∈ ps, PIAt K n H' z) → folD n x.dat y.dat = some (ps.map PI.dat) → Q (.ref p') H'
theorem PIAt.up {n : Nat} {H : Hp} {x : PI} {t : Addr} (h : PIAt K n H x) (l : x.k + 1 < n) (e : H t = some (.tup [.ref x.w, .int (n : Int), .int ((x.k + 1 : Nat) : Int), .ref x.b])) : PIAt K n H ⟨t, x.w, x.k + 1, x.b, x.f⟩ := ⟨tupT e, h.ws, h.fr, l, h.small⟩
theorem ok_following {P : Program} {w : World} {K : PySem.W.Frag} {mg : Str → Option Value} {base : Heap} (T : T P K mg base) : FnOk P w K mg base CX0 2 T.a_following T.fd_following ["path"] (spFol K) := by
  refine T.F_following.ok sc_following (fun vs H Q E h => ?_) (fun cdv A outer s H vs Q E hr h => ?_)
  · obtain ⟨p, n, x, y, rfl, _⟩ := h
    rfl
  · obtain ⟨p, n, x, y, rfl, hn1, hn2, hp, hx, hy, q0, q⟩ := h
    refine ⟨_, (pss_cons (ps_for PassesOwn.never rfl (pi_revR (by rfl) T.z_reversed (prg_1 (by rfl) T.z_range (pe_callB c_len (by rfl) T.z_len (by decide +kernel) (pa_cons (pv 0) pa_nil)))) (pg_name (i := 1) sc_following.nd rfl (by first | exact Or.inl rfl | exact Or.inr rfl)) (pss_cons (ps_asg (pe_ix ix_list (pv 0) (pv 1) (fun _ _ => rfl)) (pg_tup rfl (pgs_cons (pg_name (i := 2) sc_following.nd rfl (by first | exact Or.inl rfl | exact Or.inr rfl)) (pgs_cons (pg_name (i := 3) sc_following.nd rfl (by first | exact Or.inl rfl | exact Or.inr rfl)) (pgs_cons (pg_name (i := 4) sc_following.nd rfl (by first | exact Or.inl rfl | exact Or.inr rfl)) (pgs_cons (pg_name (i := 5) sc_following.nd rfl (by first | exact Or.inl rfl | exact Or.inr rfl)) pgs_nil))))))
      (pss_cons (ps_set (i := 6) sc_following.nd rfl (by first | exact Or.inl rfl | exact Or.inr rfl) (pe_call (ok_next_number T) (hr.mono (by decide)) (by rfl) T.g_next_number T.F_next_number.kp T.b_next_number .nil pass0 (pa_cons (pv 2) (pa_cons (pe_op op_add (pv 4) pe_int) pa_nil))))
      (pss_one (ps_if (pt_cmpR o_notN (pv 6) pe_non (nomark _)) (pss_one (ps_ret (pe_op op_cat (pe_slice sl_list (pv 0) po_none (po_some (pv 1))) (pe_lst (pa_cons (pe_tup (pa_cons (pv 2) (pa_cons (pv 3) (pa_cons (pv 6) (pa_cons (pv 5) pa_nil))))) pa_nil))))) pss_nil)))))
      (pss_one (ps_ret pe_non))), ?_⟩
    walk_at "z0"
    walk_at "z"
    refine Z.lenL (lstL hp) ?_
    refine Z.forrv 2 rfl (by decide) (fun i σ' H' => H' = H ∧ (1 ≤ i → ¬ y.k + 1 < n) ∧ (2 ≤ i → ¬ x.k + 1 < n) ∧ ∃ y1 y2 y3 y4 y5 y6, σ' = [some (.ref p), y1, y2, y3, y4, y5, y6]) ?_ ?_ ?_
    · exact ⟨rfl, by omega, by omega, _, _, _, _, _, _, rfl⟩
    · rintro i σ' H' hi ⟨rfl, h1, h2, y1, y2, y3, y4, y5, y6, rfl⟩
      obtain ⟨z, pre, j, hj, hpl, hz, hat, hpre, hA, hfol, hno⟩ : ∃ (z : PI) (pre : List PI) (j : Nat), 2 - 1 - i = j ∧ pre.length ≤ 1 ∧ PIAt K n H' z ∧ ([x.r, y.r] : List V)[j]? = some (.ref z.t) ∧ cutV ([x.r, y.r] : List V) none (some (j : Int)) = pre.map PI.r ∧ (∀ u ∈ pre, PIAt K n H' u) ∧ (z.k + 1 < n → folD n x.dat y.dat = some (pre.map PI.dat ++ [(z.k + 1, z.f)])) ∧ (¬ z.k + 1 < n → (1 ≤ i + 1 → ¬ y.k + 1 < n) ∧ (2 ≤ i + 1 → ¬ x.k + 1 < n)) := by
        rcases (show i = 0 ∨ i = 1 by omega) with rfl | rfl
        · refine ⟨y, [x], 1, rfl, by simp, hy, rfl, cut_take (by simp), by simpa using hx, fun hl => ?_, fun hl => ⟨fun _ => hl, by omega⟩⟩
          unfold folD
          rw [if_pos (show y.dat.1 + 1 < n from hl)]
          rfl
        · refine ⟨x, [], 0, rfl, by simp, hx, rfl, cut_take (by simp), by simp, fun hl => ?_, fun hl => ⟨fun _ => h1 (by omega), fun _ => hl⟩⟩
          unfold folD
          rw [if_neg (show ¬ y.dat.1 + 1 < n from h1 (by omega)), if_pos (show x.dat.1 + 1 < n from hl)]
          rfl
      rw [hj]
      walk_at "z"
      refine Z.ixL (lstL hp) (atI_nat hat) ?_
      refine Z.gtup hz.tup rfl ?_
      walk_at "z"
      have hzl := hz.lt
      refine ⟨z.w, n, z.k + 1, rfl, lstL hz.ws, hn2, by omega, ?_⟩
      unfold nxtV
      by_cases hl : z.k + 1 < n
      · rw [if_pos hl]
        walk_at "z"
        refine Z.yesN (by simp) ?_
        walk_at "z"
        refine Z.slL (lstL hp) (fun d H1 nd k1 e1 => ?_)
        rw [hpre] at e1
        walk_at "z"
        refine Z.tupK (fun t H2 nt k2 e2 => ?_)
        walk_at "z"
        refine Z.lstK (fun c H3 nc k3 e3 => ?_)
        refine Z.cat ((k2.trans k3).get nin0 e1) e3 (by rw [List.length_map]; show pre.length + 1 ≤ 100000; omega) (fun g H4 ng k4 e4 => ?_)
        walk_at "z"
        have k14 := k1.trans (k2.trans (k3.trans k4))
        have ng0 : H' g = none := (k1.trans (k2.trans k3)).none nin0 ng
        refine q H4 g (pre ++ [⟨t, z.w, z.k + 1, z.b, z.f⟩]) ng0 k14 (by rw [e4, List.map_append]; rfl) (fun u hu => ?_) ?_
        · rcases List.mem_append.mp hu with hu | hu
          · exact (hA u hu).kp0 k14
          · rw [List.mem_singleton.mp hu]
            exact (hz.kp0 k14).up hl ((k3.trans k4).get nin0 e2)
        · rw [hfol hl, List.map_append]
          rfl
      · rw [if_neg hl]
        walk_at "z"
        refine Z.noN rfl ?_
        walk_at "z"
        exact ⟨rfl, (hno hl).1, (hno hl).2, _, _, _, _, _, _, rfl⟩
    · rintro σ' H' ⟨rfl, h1, h2, y1, y2, y3, y4, y5, y6, rfl⟩
      walk_at "z"
      refine q0 ?_
      unfold folD
      rw [if_neg (show ¬ y.dat.1 + 1 < n from h1 (by omega)), if_neg (show ¬ x.dat.1 + 1 < n from h2 (by omega))]
/-- the fields of an explorer -/
def ef (p : Addr) (m : Nat) (run fin : Bool) (w : Addr) : List (Str × V) := [("_path", .ref p), ("_made", .int (m : Int)), ("_running", .bl run), ("_finished", .bl fin), ("_rows", .ref w)]
section
variable {p p' w w' : Addr} {m m' : Nat} {run fin b : Bool}
theorem ef_p : (ef p m run fin w).lookup ("_path" : Str) = some (.ref p) := by rfl
theorem ef_m : (ef p m run fin w).lookup ("_made" : Str) = some (.int (m : Int)) := by rfl
theorem ef_r : (ef p m run fin w).lookup ("_running" : Str) = some (.bl run) := by rfl
theorem ef_f : (ef p m run fin w).lookup ("_finished" : Str) = some (.bl fin) := by rfl
theorem ef_w : (ef p m run fin w).lookup ("_rows" : Str) = some (.ref w) := by rfl
theorem ef_pp : putF "_path" (.ref p') (ef p m run fin w) = ef p' m run fin w := by kernel_rfl
theorem ef_pm : putF "_made" (.int (m' : Int)) (ef p m run fin w) = ef p m' run fin w := by kernel_rfl
theorem ef_pr : putF "_running" (.bl b) (ef p m run fin w) = ef p m b fin w := by kernel_rfl
theorem ef_pf : putF "_finished" (.bl b) (ef p m run fin w) = ef p m run b w := by kernel_rfl
theorem ef_mk : putF "_rows" (.ref w) (putF "_finished" (.bl false) (putF "_running" (.bl false) (putF "_made" (.int 0) (putF "_path" (.ref p) [])))) = ef p 0 false false w := by kernel_rfl
end
/-- an explorer -/
structure Ex (K : PySem.W.Frag) (C : Addr) (n : Nat) (H : Hp) (e p w : Addr) (ps : List PI) (rs : List LRow) (m : Nat) (run fin : Bool) : Prop where
  ob : ∃ dx, H e = some (.ins C dx (ef p m run fin w))
  path : H p = some (.lst (ps.map PI.r))
  items : ∀ x ∈ ps, PIAt K n H x
  rows : H w = some (.lst (rs.map LRow.r))
  rat : ∀ r ∈ rs, LRowAt K H r
  pw : p ≠ w
theorem Ex.kp0 {C : Addr} {n : Nat} {H H' : Hp} {e p w : Addr} {ps : List PI} {rs : List LRow} {m : Nat} {run fin : Bool} (h : Ex K C n H e p w ps rs m run fin) (k : Kp [] H H') : Ex K C n H' e p w ps rs m run fin :=
  ⟨let ⟨dx, o⟩ := h.ob; ⟨dx, k.get nin0 o⟩, k.get nin0 h.path, fun x hx => (h.items x hx).kp0 k, k.get nin0 h.rows, fun r hr => (h.rat r hr).kp0 k, h.pw⟩
theorem onesV_ne {n : Nat} (hn : 1 ≤ n) (rs : List V) (h : ∀ v ∈ rs, ∃ a, v = .ref a) : rs ≠ onesV n := fun z => by
  have h1 := onesV_at (n := n) (i := 0) (by omega)
  rw [← z] at h1
  obtain ⟨a, ha⟩ := h _ (List.mem_of_getElem? h1)
  cases ha
theorem Ex.nt {C : Addr} {n : Nat} {H : Hp} {e p w : Addr} {ps : List PI} {rs : List LRow} {m : Nat} {run fin : Bool} (h : Ex K C n H e p w ps rs m run fin) : ∀ y ∈ [e, p, w], NoTup H y := fun y hy => by
  obtain ⟨dx, o⟩ := h.ob
  rcases List.mem_cons.mp hy with rfl | hy
  · exact NoTup.of o fun xs => ⟨by simp, by simp⟩
  rcases List.mem_cons.mp hy with rfl | hy
  · exact NoTup.lst h.path
  · rw [List.mem_singleton.mp hy]
    exact NoTup.lst h.rows
theorem Ex.nw {C : Addr} {n : Nat} {H : Hp} {e p w : Addr} {ps : List PI} {rs : List LRow} {m : Nat} {run fin : Bool} (h : Ex K C n H e p w ps rs m run fin) (hn : 1 ≤ n) : ∀ y ∈ [e, p, w], H y ≠ some (.lst (onesV n)) := fun y hy => by
  obtain ⟨dx, o⟩ := h.ob
  rcases List.mem_cons.mp hy with rfl | hy
  · rw [o]; simp
  rcases List.mem_cons.mp hy with rfl | hy
  · rw [h.path]
    intro z
    refine onesV_ne hn _ (fun v hv => ?_) (HO.lst.inj (Option.some.inj z))
    obtain ⟨x, _, rfl⟩ := List.mem_map.mp hv
    exact ⟨_, rfl⟩
  · rw [List.mem_singleton.mp hy, h.rows]
    intro z
    refine onesV_ne hn _ (fun v hv => ?_) (HO.lst.inj (Option.some.inj z))
    obtain ⟨x, _, rfl⟩ := List.mem_map.mp hv
    exact ⟨_, rfl⟩
theorem Ex.ep {C : Addr} {n : Nat} {H : Hp} {e p w : Addr} {ps : List PI} {rs : List LRow} {m : Nat} {run fin : Bool} (h : Ex K C n H e p w ps rs m run fin) : p ≠ e := let ⟨_, o⟩ := h.ob; ne_of h.path o (by intro z; cases z)
theorem Ex.ew {C : Addr} {n : Nat} {H : Hp} {e p w : Addr} {ps : List PI} {rs : List LRow} {m : Nat} {run fin : Bool} (h : Ex K C n H e p w ps rs m run fin) : w ≠ e := let ⟨_, o⟩ := h.ob; ne_of h.rows o (by intro z; cases z)
/-- written at e, p or w: the items and the rows' contents stay -/
theorem Ex.items' {C : Addr} {n : Nat} {H H' : Hp} {e p w : Addr} {ps : List PI} {rs : List LRow} {m : Nat} {run fin : Bool} (h : Ex K C n H e p w ps rs m run fin) (hn : 1 ≤ n) (k : Kp [e, p, w] H H') {x : PI} (hx : PIAt K n H x) : PIAt K n H' x := hx.kpM k h.nt (h.nw hn)
theorem Ex.rat' {C : Addr} {n : Nat} {H H' : Hp} {e p w : Addr} {ps : List PI} {rs : List LRow} {m : Nat} {run fin : Bool} (h : Ex K C n H e p w ps rs m run fin) (k : Kp [e, p, w] H H') {r : LRow} (hx : LRowAt K H r) : LRowAt K H' r := hx.kpM k h.nt
def spExInit (K : PySem.W.Frag) (C : Addr) : Sp := fun vs H Q _ => ∃ (e dx : Addr), vs = [.ref e] ∧ H e = some (.ins C dx []) ∧ ∀ H' p w, H p = none → H w = none → p ≠ w → Kp [e] H H' → (∀ n, Ex K C n H' e p w [] [] 0 false false) → Q .non H'
theorem ok_Explorer_init {P : Program} {w : World} {K : PySem.W.Frag} {mg : Str → Option Value} {base : Heap} (T : T P K mg base) : FnOk P w K mg base CX0 1 T.a_Explorer_init T.fd_Explorer_init ["self"] (spExInit K T.C_Explorer) := by
  refine T.F_Explorer_init.ok sc_Explorer_init (fun vs H Q E h => ?_) (fun cdv A outer s H vs Q E hr h => ?_)
  · obtain ⟨e, dx, rfl, _⟩ := h
    rfl
  · obtain ⟨e, dx, rfl, he, q⟩ := h
    refine ⟨_, (pss_cons (ps_fld (pv 0) (pe_lst pa_nil) rfl)
      (pss_cons (ps_fld (pv 0) pe_int rfl)
      (pss_cons (ps_fld (pv 0) pe_bl rfl)
      (pss_cons (ps_fld (pv 0) pe_bl rfl)
      (pss_one (ps_fld (pv 0) (pe_lst pa_nil) rfl)))))), ?_⟩
    walk_at "z0"
    walk_at "z"
    refine Z.lstK (fun p H1 np k1 e1 => ?_)
    have he1 := k1.get nin0 he
    have npe : p ≠ e := ne_of e1 he1 (by intro z; cases z)
    walk_at "z"
    refine ⟨e, _, dx, [], rfl, he1, T.cl_Explorer, T.na_Explorer__path, by decide, ?_⟩
    walk_at "z"
    refine ⟨e, _, dx, _, rfl, upd_same, T.cl_Explorer, T.na_Explorer__made, by show 1 < 1000; decide, ?_⟩
    walk_at "z"
    rw [upd_upd]
    refine ⟨e, _, dx, _, rfl, upd_same, T.cl_Explorer, T.na_Explorer__running, by show 2 < 1000; decide, ?_⟩
    walk_at "z"
    rw [upd_upd]
    refine ⟨e, _, dx, _, rfl, upd_same, T.cl_Explorer, T.na_Explorer__finished, by show 3 < 1000; decide, ?_⟩
    walk_at "z"
    rw [upd_upd]
    refine Z.lstK (fun w H2 nw k2 e2 => ?_)
    walk_at "z"
    refine ⟨e, _, dx, _, rfl, k2.get nin0 upd_same, T.cl_Explorer, T.na_Explorer__rows, by show 4 < 1000; decide, ?_⟩
    walk_at "z"
    rw [ef_mk]
    have hwe : w ≠ e := by
      rintro rfl
      rw [upd_same] at nw
      cases nw
    have nw1 : H1 w = none := by rwa [upd_ne hwe] at nw
    have npw : p ≠ w := ne_of_none e1 nw1
    refine q _ p w np (k1.none nin0 nw1) npw ((((k1.sub (by simp)).trans (Kp.put (by simp))).trans (k2.sub (by simp))).trans (Kp.put (by simp))) fun n => ⟨⟨dx, upd_same⟩, ?_, by simp, ?_, by simp, npw⟩
    · rw [upd_ne npe]
      exact k2.get nin0 ((upd_ne npe).trans e1)
    · rw [upd_ne hwe]
      exact e2
end explore2

section explore3
variable {K : PySem.W.Frag}
open LamX LamK
theorem ef_pm0 {p w : Addr} {m : Nat} {run fin : Bool} : putF "_made" (.int 0) (ef p m run fin w) = ef p 0 run fin w := by kernel_rfl
def beginD (n : Nat) (ps : List PI) (rs : List LRow) : Option (List (Nat × Fr)) := match rs with
  | [] => some []
  | _ :: _ => match ps with
    | [x, y] => folD n x.dat y.dat
    | _ => none
/-- the state behind: written at e alone -/
theorem Ex.setE {C : Addr} {n : Nat} {H H' : Hp} {e p w : Addr} {ps : List PI} {rs : List LRow} {m m' : Nat} {run fin run' fin' : Bool} (h : Ex K C n H e p w ps rs m run fin) (hn : 1 ≤ n) (k : Kp [e] H H') (o : ∃ dx, H' e = some (.ins C dx (ef p m' run' fin' w))) : Ex K C n H' e p w ps rs m' run' fin' :=
  have k3 : Kp [e, p, w] H H' := k.sub (by simp)
  ⟨o, k.get (nin1 h.ep) h.path, fun x hx => h.items' hn k3 (h.items x hx), k.get (nin1 h.ew) h.rows, fun r hr => h.rat' k3 (h.rat r hr), h.pw⟩
theorem Ex.setP {C : Addr} {n : Nat} {H H' : Hp} {e p w p' : Addr} {ps ps' : List PI} {rs : List LRow} {m m' : Nat} {run fin run' fin' : Bool} (h : Ex K C n H e p w ps rs m run fin) (hn : 1 ≤ n) (k : Kp [e] H H') (o : ∃ dx, H' e = some (.ins C dx (ef p' m' run' fin' w))) (hp : H p' = some (.lst (ps'.map PI.r))) (ne : p' ≠ e) (nw : p' ≠ w) (hA : ∀ x ∈ ps', PIAt K n H x) : Ex K C n H' e p' w ps' rs m' run' fin' :=
  have k3 : Kp [e, p, w] H H' := k.sub (by simp)
  ⟨o, k.get (nin1 ne) hp, fun x hx => h.items' hn k3 (hA x hx), k.get (nin1 h.ew) h.rows, fun r hr => h.rat' k3 (h.rat r hr), nw⟩
def spBegin (K : PySem.W.Frag) (C CT : Addr) : Sp := fun vs H Q E => ∃ (e p w : Addr) (n : Nat) (ps : List PI) (rs : List LRow) (m : Nat) (fin : Bool), vs = [.ref e] ∧ 1 ≤ n ∧ n ≤ 1000 ∧ Ex K C n H e p w ps rs m false fin ∧ (rs = [] ∨ ∃ x y, ps = [x, y]) ∧
  (beginD n ps rs = none → ∀ H', Kp [e] H H' → Ex K C n H' e p w ps rs m false true → Q (.bl false) H') ∧
  (∀ D, beginD n ps rs = some D → rs.length = 20000 → ∀ (H' : Hp) (d : Addr), Kp [] H H' → H' d = none → E (.ref CT) (some d) (upd H' d (.xd (flOne "limit" [.str "runs"])))) ∧
  (∀ D, beginD n ps rs = some D → rs.length ≠ 20000 → ∀ (H' : Hp) (p' : Addr) (ps' : List PI), Kp [e] H H' → Ex K C n H' e p' w ps' rs 0 true fin → H p' = none → ps'.map PI.dat = D → Q (.bl true) H')
theorem ok_Explorer_begin {P : Program} {w : World} {K : PySem.W.Frag} {mg : Str → Option Value} {base : Heap} (T : T P K mg base) : FnOk P w K mg base (L2.CX P w) 3 T.a_Explorer_begin T.fd_Explorer_begin ["self"] (spBegin K T.C_Explorer T.C_TooLarge) := by
  refine T.F_Explorer_begin.okX sc_Explorer_begin (fun vs H Q E h => ?_) (fun cdv A outer s H vs Q E hr h => ?_)
  · obtain ⟨e, p, w, n, ps, rs, m, fin, rfl, _⟩ := h
    rfl
  · obtain ⟨e, p, w, n, ps, rs, m, fin, rfl, hn1, hn2, hX, hps, q0, qE, q1⟩ := h
    obtain ⟨dx, he⟩ := hX.ob
    refine ⟨_, (pss_cons (ps_if (pt_val (pe_fld (pv 0) rfl)) (pss_one (ps_raise rfl (takes_of rfl rfl rfl rfl) (Sup.pmk_oexN T.x_NotEnded.S.T T.x_NotEnded.iC T.x_NotEnded.tI (ok_NotEnded_init T) (hr.mono (by decide)) (T.bx_NotEnded) pass0 (by rfl) T.x_NotEnded.g))) pss_nil)
      (pss_cons (ps_set (i := 1) sc_Explorer_begin.nd rfl (by first | exact Or.inl rfl | exact Or.inr rfl) (pe_lst pa_nil))
      (Z.pss_consJ (ps_if (pt_truth (pe_fld (pv 0) rfl) (by intro _; rfl)) (pss_one (ps_set (i := 1) sc_Explorer_begin.nd rfl (by first | exact Or.inl rfl | exact Or.inr rfl) (pe_call (ok_following T) (hr.mono (by decide)) (by rfl) T.g_following T.F_following.kp T.b_following .nil pass0 (pa_cons (pe_fld (pv 0) rfl) pa_nil)))) pss_nil)
      (pss_cons (ps_if (pt_cmpR o_isN (pv 1) pe_non (nomark _)) (pss_cons (ps_fld (pv 0) pe_bl rfl)
      (pss_one (ps_ret pe_bl))) pss_nil)
      (pss_cons (ps_if (pt_cmpR op_eq (pe_callB c_len (by rfl) T.z_len (by decide +kernel) (pa_cons (pe_fld (pv 0) rfl) pa_nil)) (pe_glob (by rfl) T.g_MOST_RUNS T.r_MOST_RUNS) (nomark _)) (pss_one (ps_raise rfl (takes_of rfl rfl rfl rfl) (pmk_oex T.x_TooLarge.S.T T.x_TooLarge.iC T.x_TooLarge.tI (ok_TooLarge_init T) (hr.mono (by decide)) (T.bx_TooLarge) .nil pass0 (by rfl) T.x_TooLarge.g (pa_cons pe_str pa_nil)))) pss_nil)
      (pss_cons (ps_fld (pv 0) (pv 1) rfl)
      (pss_cons (ps_fld (pv 0) pe_int rfl)
      (pss_cons (ps_fld (pv 0) pe_bl rfl)
      (pss_one (ps_ret pe_bl)))))))))), ?_⟩
    walk_at "z0"
    walk_at "z"
    refine ⟨e, _, dx, _, _, rfl, he, T.cl_Explorer, T.na_Explorer__running, ef_r, ?_⟩
    walk_at "z"
    refine Z.lstK (fun p0 H1 np0 k1 e1 => ?_)
    have hX1 := hX.kp0 k1
    obtain ⟨dx1, he1⟩ := hX1.ob
    walk_at "z"
    refine Z.seqJ (fun σ' H' => ∃ pv, σ' = [some (.ref e), some pv] ∧ Kp [] H H' ∧ ((pv = .non ∧ beginD n ps rs = none) ∨ ∃ (p' : Addr) (ps' : List PI), pv = .ref p' ∧ H p' = none ∧ H' p' = some (.lst (ps'.map PI.r)) ∧ (∀ z ∈ ps', PIAt K n H' z) ∧ beginD n ps rs = some (ps'.map PI.dat))) ?_ ?_
    · rintro σ' H2 ⟨pv, rfl, k2, hpv⟩
      have hX2 := hX.kp0 k2
      obtain ⟨dx2, he2⟩ := hX2.ob
      walk_at "z"
      rcases hpv with ⟨rfl, hno⟩ | ⟨p', ps', rfl, np', ep', hA', hD⟩
      · refine Z.yes rfl ?_
        walk_at "z"
        refine ⟨e, _, dx2, _, rfl, he2, T.cl_Explorer, T.na_Explorer__finished, by show 5 < 1000; decide, ?_⟩
        walk_at "z"
        rw [ef_pf]
        have k3 : Kp [e] H2 (upd H2 e (.ins T.C_Explorer dx2 (ef p m false true w))) := Kp.put (by simp)
        exact q0 hno _ ((k2.sub (by simp)).trans k3) (hX2.setE hn1 k3 ⟨_, upd_same⟩)
      · refine Z.no (by simp) ?_
        walk_at "z"
        refine ⟨e, _, dx2, _, _, rfl, he2, T.cl_Explorer, T.na_Explorer__rows, ef_w, ?_⟩
        walk_at "z"
        refine Z.lenL (lstL hX2.rows) ?_
        walk_at "z"
        rw [List.length_map]
        refine Z.ite (fun h1 => ?_) (fun h1 => ?_)
        · walk_at "z"
          refine mkErr ?_ (fun hRS h => ?_)
          · exact ⟨by simp, ⟨"runs", rfl, by decide +kernel⟩, fun d hd => qE _ hD (by omega) H2 d k2 hd⟩
          · exact hRS _ _ h
        · walk_at "z"
          refine ⟨e, _, dx2, _, rfl, he2, T.cl_Explorer, T.na_Explorer__path, by show 5 < 1000; decide, ?_⟩
          walk_at "z"
          rw [ef_pp]
          refine ⟨e, _, dx2, _, rfl, upd_same, T.cl_Explorer, T.na_Explorer__made, by show 5 < 1000; decide, ?_⟩
          walk_at "z"
          rw [upd_upd, ef_pm0]
          refine ⟨e, _, dx2, _, rfl, upd_same, T.cl_Explorer, T.na_Explorer__running, by show 5 < 1000; decide, ?_⟩
          walk_at "z"
          rw [upd_upd, ef_pr]
          have k3 : Kp [e] H2 (upd H2 e (.ins T.C_Explorer dx2 (ef p' 0 true fin w))) := Kp.put (by simp)
          exact q1 _ hD (by omega) _ p' ps' ((k2.sub (by simp)).trans k3) (hX2.setP hn1 k3 ⟨_, upd_same⟩ ep' (fun z => by rw [z, he] at np'; cases np') (fun z => by rw [z, hX.rows] at np'; cases np') hA') np' rfl
    · intro N jn
      walk_at "z"
      refine ⟨e, _, dx1, _, _, rfl, he1, T.cl_Explorer, T.na_Explorer__rows, ef_w, ?_⟩
      walk_at "z"
      refine Z.truL hX1.rows ?_
      cases hrs : rs with
      | nil =>
        rw [show (!(List.map LRow.r []).isEmpty) = false from rfl]
        walk_at "z"
        exact jn _ _ ⟨_, rfl, k1, .inr ⟨p0, [], rfl, np0, e1, by simp, by rw [hrs]; rfl⟩⟩
      | cons r rr =>
        rw [show (!(List.map LRow.r (r :: rr)).isEmpty) = true from rfl]
        walk_at "z"
        refine ⟨e, _, dx1, _, _, rfl, he1, T.cl_Explorer, T.na_Explorer__path, ef_p, ?_⟩
        walk_at "z"
        obtain ⟨x, y, rfl⟩ := hps.resolve_left (by rw [hrs]; simp)
        have hbd : beginD n [x, y] rs = folD n x.dat y.dat := by rw [hrs]; rfl
        refine ⟨p, n, x, y, rfl, hn1, hn2, hX1.path, hX1.items x (by simp), hX1.items y (by simp), fun hno => ?_, fun H2 p' ps' np' k2 ep' hA' hD => ?_⟩
        · walk_at "z"
          exact jn _ _ ⟨_, rfl, k1, .inl ⟨rfl, by rw [hbd]; exact hno⟩⟩
        · walk_at "z"
          exact jn _ _ ⟨_, rfl, k1.trans k2, .inr ⟨p', ps', rfl, k1.none nin0 np', ep', hA', by rw [hbd]; exact hD⟩⟩
end explore3

section explore4
variable {K : PySem.W.Frag}
open LamX LamK
theorem ef_mup {p w : Addr} {m : Nat} {run fin : Bool} : putF "_made" (.int ((m : Int) + 1)) (ef p m run fin w) = ef p (m + 1) run fin w := by kernel_rfl
def spPick (K : PySem.W.Frag) (C : Addr) : Sp := fun vs H Q _ => ∃ (e p w b : Addr) (n : Nat) (ps : List PI) (rs : List LRow) (m : Nat) (run fin : Bool), vs = [.ref e, .ref b] ∧ 1 ≤ n ∧ n ≤ 1000 ∧ Ex K C n H e p w ps rs m run fin ∧ H b = some (.lst (onesV n)) ∧ ps.length ≤ 10 ∧ m ≤ ps.length ∧ FrB 1000 (chB n ps) ∧ (chB n ps).2 ≠ 0 ∧
  ∀ (H' : Hp) (ps' : List PI) (x : PI), Kp [e, p] H H' → Ex K C n H' e p w ps' rs (m + 1) run fin → ps'[m]? = some x → ((m < ps.length ∧ ps' = ps) ∨ (m = ps.length ∧ ps' = ps ++ [x] ∧ x.dat = (0, chB n ps))) → Q (.int (x.k : Int)) H'
theorem ok_Explorer_pick {P : Program} {w : World} {K : PySem.W.Frag} {mg : Str → Option Value} {base : Heap} (T : T P K mg base) : FnOk P w K mg base CX0 6 T.a_Explorer_pick T.fd_Explorer_pick ["self", "weights"] (spPick K T.C_Explorer) := by
  refine T.F_Explorer_pick.ok sc_Explorer_pick (fun vs H Q E h => ?_) (fun cdv A outer s H vs Q E hr h => ?_)
  · obtain ⟨e, p, w, b, n, ps, rs, m, run, fin, rfl, _⟩ := h
    rfl
  · obtain ⟨e, p, w, b, n, ps, rs, m, run, fin, rfl, hn1, hn2, hX, hb, hpl, hm, hB, hB0, q⟩ := h
    obtain ⟨dx, he⟩ := hX.ob
    refine ⟨_, (Z.pss_consJ (ps_if (pt_cmpR op_eq (pe_fld (pv 0) rfl) (pe_callB c_len (by rfl) T.z_len (by decide +kernel) (pa_cons (pe_fld (pv 0) rfl) pa_nil)) (nomark _)) (pss_one (ps_expr (pe_bm PySem.F.plainAttrs_list PySem.F.slot_list_append PySem.F.type_list_append mt_append (pe_fld (pv 0) rfl) (pa_cons (pe_tup (pa_cons (pe_callTy c_list (by rfl) T.z_list (by decide +kernel) (pa_cons (pv 1) pa_nil)) (pa_cons (pe_callB (cr_sum rfl) (by rfl) T.z_sum (by decide +kernel) (pa_cons (pv 1) pa_nil)) (pa_cons (pe_call (ok_next_number T) (hr.mono (by decide)) (by rfl) T.g_next_number T.F_next_number.kp T.b_next_number .nil pass0 (pa_cons (pv 1) (pa_cons pe_int pa_nil))) (pa_cons (pe_call (ok_chance_behind T) (hr.mono (by decide)) (by rfl) T.g_chance_behind T.F_chance_behind.kp T.b_chance_behind .nil pass0 (pa_cons (pe_fld (pv 0) rfl) pa_nil)) pa_nil))))) pa_nil)))) pss_nil)
      (pss_cons (ps_set (i := 2) sc_Explorer_pick.nd rfl (by first | exact Or.inl rfl | exact Or.inr rfl) (pe_ix ix_tup (pe_ix ix_list (pe_fld (pv 0) rfl) (pe_fld (pv 0) rfl) (fun _ _ => rfl)) pe_int (fun _ _ => rfl)))
      (pss_cons (ps_fldaug (pv 0) pe_int in_add)
      (pss_one (ps_ret (pv 2)))))), ?_⟩
    walk_at "z0"
    walk_at "z"
    refine Z.seqJ (fun σ' H' => ∃ (ps' : List PI) (x : PI), σ' = [some (.ref e), some (.ref b), none] ∧ Kp [e, p] H H' ∧ Ex K T.C_Explorer n H' e p w ps' rs m run fin ∧ ps'[m]? = some x ∧ ((m < ps.length ∧ ps' = ps) ∨ (m = ps.length ∧ ps' = ps ++ [x] ∧ x.dat = (0, chB n ps)))) ?_ ?_
    · rintro σ' H2 ⟨ps', x, rfl, k2, hX2, hx, hor⟩
      obtain ⟨dx2, he2⟩ := hX2.ob
      walk_at "z"
      refine ⟨e, _, dx2, _, _, rfl, he2, T.cl_Explorer, T.na_Explorer__path, ef_p, ?_⟩
      walk_at "z"
      refine ⟨e, _, dx2, _, _, rfl, he2, T.cl_Explorer, T.na_Explorer__made, ef_m, ?_⟩
      walk_at "z"
      refine Z.ixL (v := .ref x.t) (lstL hX2.path) (atI_nat (by rw [List.getElem?_map, hx]; rfl)) ?_
      walk_at "z"
      have hxA := hX2.items x (List.mem_of_getElem? hx)
      refine Z.ixT hxA.tup (v := .int (x.k : Int)) rfl ?_
      walk_at "z"
      refine ⟨e, _, dx2, _, _, rfl, he2, T.cl_Explorer, T.na_Explorer__made, ef_m, ?_⟩
      walk_at "z"
      refine ⟨dx2, _, he2, by show 5 < 1000; decide, ?_⟩
      walk_at "z"
      rw [ef_mup]
      have k3 : Kp [e] H2 (upd H2 e (.ins T.C_Explorer dx2 (ef p (m + 1) run fin w))) := Kp.put (by simp)
      exact q _ ps' x (k2.trans (k3.sub (by simp))) (hX2.setE hn1 k3 ⟨_, upd_same⟩) hx hor
    · intro N jn
      walk_at "z"
      refine ⟨e, _, dx, _, _, rfl, he, T.cl_Explorer, T.na_Explorer__made, ef_m, ?_⟩
      walk_at "z"
      refine ⟨e, _, dx, _, _, rfl, he, T.cl_Explorer, T.na_Explorer__path, ef_p, ?_⟩
      walk_at "z"
      refine Z.lenL (lstL hX.path) ?_
      walk_at "z"
      rw [List.length_map]
      refine Z.ite (fun h1 => ?_) (fun h1 => ?_)
      · walk_at "z"
        refine ⟨e, _, dx, _, _, rfl, he, T.cl_Explorer, T.na_Explorer__path, ef_p, ?_⟩
        walk_at "z"
        refine ⟨Z.tyL hX.path, ?_⟩
        walk_at "z"
        refine Z.listL (lstL hb) (fun c H1 nc k1 e1 => ?_)
        have hb1 := k1.get nin0 hb
        walk_at "z"
        refine Z.sumL (ns := onesI n) (lstL hb1) ?_
        rw [onesI_sum]
        walk_at "z"
        refine ⟨b, n, 0, rfl, lstL hb1, hn2, by decide, ?_⟩
        rw [show nxtV n 0 = .int ((0 : Nat) : Int) from if_pos (by omega)]
        walk_at "z"
        have hX1 := hX.kp0 k1
        obtain ⟨dx1, he1⟩ := hX1.ob
        refine ⟨e, _, dx1, _, _, rfl, he1, T.cl_Explorer, T.na_Explorer__path, ef_p, ?_⟩
        walk_at "z"
        refine ⟨p, n, ps, rfl, hn1, hn2, hX1.path, hX1.items, fun H2 f k2 ec => ?_⟩
        walk_at "z"
        refine Z.tupK (fun t H3 nt k3 e3 => ?_)
        have hX3 := (hX1.kp0 k2).kp0 k3
        walk_at "z"
        refine Z.app hX3.path (Z.szl (m := 100000) (by rw [List.length_map]; omega)) ?_
        walk_at "z"
        have k03 := k1.trans (k2.trans k3)
        have x0 : PIAt K n H3 ⟨t, c, 0, f, chB n ps⟩ := ⟨tupT e3, (k2.trans k3).get nin0 e1, ec.kp0 k3, by show 0 < n; omega, hB, hB0⟩
        have k4 : Kp [p] H3 (upd H3 p (.lst (ps.map PI.r ++ [.ref t]))) := Kp.put (by simp)
        have k4' : Kp [e, p, w] H3 (upd H3 p (.lst (ps.map PI.r ++ [.ref t]))) := k4.sub (by simp)
        obtain ⟨dx3, he3⟩ := hX3.ob
        refine jn _ _ ⟨ps ++ [⟨t, c, 0, f, chB n ps⟩], ⟨t, c, 0, f, chB n ps⟩, rfl, (k03.sub (by simp)).trans (k4.sub (by simp)), ⟨⟨dx3, k4.get (nin1 hX3.ep.symm) he3⟩, by rw [upd_same, List.map_append]; rfl, fun z hz => ?_, k4.get (nin1 hX3.pw.symm) hX3.rows, fun r hr => hX3.rat' k4' (hX3.rat r hr), hX3.pw⟩, ?_, .inr ⟨by omega, rfl, rfl⟩⟩
        · rcases List.mem_append.mp hz with hz | hz
          · exact hX3.items' hn1 k4' (hX3.items z hz)
          · rw [List.mem_singleton.mp hz]
            exact hX3.items' hn1 k4' x0
        · rw [show m = ps.length by omega, List.getElem?_append_right (Nat.le_refl _), Nat.sub_self]
          rfl
      · walk_at "z"
        have hlt : m < ps.length := by omega
        exact jn _ _ ⟨ps, ps[m], rfl, Kp.refl _, hX, List.getElem?_eq_getElem hlt, .inl ⟨hlt, rfl⟩⟩
def spEnd (K : PySem.W.Frag) (C : Addr) : Sp := fun vs H Q _ => ∃ (e p w : Addr) (n : Nat) (ps : List PI) (rs : List LRow) (m : Nat) (run fin : Bool) (i : Int), vs = [.ref e, .int i] ∧ 1 ≤ n ∧ n ≤ 1000 ∧ Ex K C n H e p w ps rs m run fin ∧ rs.length < 50000 ∧
  ∀ (H' : Hp) (r : LRow), Kp [e, w] H H' → Ex K C n H' e p w ps (rs ++ [r]) m false fin → r.dat = (.int i, chB n ps) → Q .non H'
theorem ok_Explorer_end {P : Program} {w : World} {K : PySem.W.Frag} {mg : Str → Option Value} {base : Heap} (T : T P K mg base) : FnOk P w K mg base CX0 6 T.a_Explorer_end T.fd_Explorer_end ["self", "outcome"] (spEnd K T.C_Explorer) := by
  refine T.F_Explorer_end.ok sc_Explorer_end (fun vs H Q E h => ?_) (fun cdv A outer s H vs Q E hr h => ?_)
  · obtain ⟨e, p, w, n, ps, rs, m, run, fin, i, rfl, _⟩ := h
    rfl
  · obtain ⟨e, p, w, n, ps, rs, m, run, fin, i, rfl, hn1, hn2, hX, hl, q⟩ := h
    obtain ⟨dx, he⟩ := hX.ob
    refine ⟨_, (pss_cons (ps_expr (pe_bm PySem.F.plainAttrs_list PySem.F.slot_list_append PySem.F.type_list_append mt_append (pe_fld (pv 0) rfl) (pa_cons (pe_tup (pa_cons (pv 1) (pa_cons (pe_call (ok_chance_behind T) (hr.mono (by decide)) (by rfl) T.g_chance_behind T.F_chance_behind.kp T.b_chance_behind .nil pass0 (pa_cons (pe_fld (pv 0) rfl) pa_nil)) pa_nil))) pa_nil)))
      (pss_one (ps_fld (pv 0) pe_bl rfl))), ?_⟩
    walk_at "z0"
    walk_at "z"
    refine ⟨e, _, dx, _, _, rfl, he, T.cl_Explorer, T.na_Explorer__rows, ef_w, ?_⟩
    walk_at "z"
    refine ⟨Z.tyL hX.rows, ?_⟩
    walk_at "z"
    refine ⟨e, _, dx, _, _, rfl, he, T.cl_Explorer, T.na_Explorer__path, ef_p, ?_⟩
    walk_at "z"
    refine ⟨p, n, ps, rfl, hn1, hn2, hX.path, hX.items, fun H1 f k1 ec => ?_⟩
    walk_at "z"
    refine Z.tupK (fun t H2 nt k2 e2 => ?_)
    have hX2 := (hX.kp0 k1).kp0 k2
    walk_at "z"
    refine Z.app hX2.rows (Z.szl (m := 100000) (by rw [List.length_map]; omega)) ?_
    have k3 : Kp [w] H2 (upd H2 w (.lst (rs.map LRow.r ++ [.ref t]))) := Kp.put (by simp)
    have k3' : Kp [e, p, w] H2 (upd H2 w (.lst (rs.map LRow.r ++ [.ref t]))) := k3.sub (by simp)
    obtain ⟨dx2, he2⟩ := hX2.ob
    have hr0 : LRowAt K H2 ⟨t, .int i, .int i, f, chB n ps⟩ := ⟨tupT e2, .int i, ec.kp0 k2, ⟨rfl, by simp [PyData.depth], by simp [SeqAt.shaped, PyData.canLay0, PyData.depth]⟩⟩
    have hX3 : Ex K T.C_Explorer n (upd H2 w (.lst (rs.map LRow.r ++ [.ref t]))) e p w ps (rs ++ [⟨t, .int i, .int i, f, chB n ps⟩]) m run fin := ⟨⟨dx2, k3.get (nin1 hX2.ew.symm) he2⟩, k3.get (nin1 hX2.pw) hX2.path, fun z hz => hX2.items' hn1 k3' (hX2.items z hz), by rw [upd_same, List.map_append]; rfl, fun r hr => by
      rcases List.mem_append.mp hr with hr | hr
      · exact hX2.rat' k3' (hX2.rat r hr)
      · rw [List.mem_singleton.mp hr]
        exact hX2.rat' k3' hr0, hX2.pw⟩
    generalize upd H2 w (.lst (rs.map LRow.r ++ [.ref t])) = H3 at k3 hX3 ⊢
    obtain ⟨dx3, he3⟩ := hX3.ob
    walk_at "z"
    refine ⟨e, _, dx3, _, rfl, he3, T.cl_Explorer, T.na_Explorer__running, by show 5 < 1000; decide, ?_⟩
    walk_at "z"
    rw [ef_pr]
    have k4 : Kp [e] H3 (upd H3 e (.ins T.C_Explorer dx3 (ef p m false fin w))) := Kp.put (by simp)
    exact q _ _ ((((k1.trans k2).sub (by simp)).trans (k3.sub (by simp))).trans (k4.sub (by simp))) (hX3.setE hn1 k4 ⟨_, upd_same⟩) rfl
def spRuns (K : PySem.W.Frag) (C : Addr) : Sp := fun vs H Q _ => ∃ (e p w : Addr) (n : Nat) (ps : List PI) (rs : List LRow) (m : Nat) (run fin : Bool), vs = [.ref e] ∧ Ex K C n H e p w ps rs m run fin ∧ Q (.int (rs.length : Int)) H
theorem ok_Explorer_runs {P : Program} {w : World} {K : PySem.W.Frag} {mg : Str → Option Value} {base : Heap} (T : T P K mg base) : FnOk P w K mg base CX0 1 T.a_Explorer_runs T.fd_Explorer_runs ["self"] (spRuns K T.C_Explorer) := by
  refine T.F_Explorer_runs.ok sc_Explorer_runs (fun vs H Q E h => ?_) (fun cdv A outer s H vs Q E hr h => ?_)
  · obtain ⟨e, p, w, n, ps, rs, m, run, fin, rfl, _⟩ := h
    rfl
  · obtain ⟨e, p, w, n, ps, rs, m, run, fin, rfl, hX, q⟩ := h
    obtain ⟨dx, he⟩ := hX.ob
    refine ⟨_, (pss_one (ps_ret (pe_callB c_len (by rfl) T.z_len (by decide +kernel) (pa_cons (pe_fld (pv 0) rfl) pa_nil)))), ?_⟩
    walk_at "z0"
    walk_at "z"
    refine ⟨e, _, dx, _, _, rfl, he, T.cl_Explorer, T.na_Explorer__rows, ef_w, ?_⟩
    walk_at "z"
    refine Z.lenL (lstL hX.rows) ?_
    rw [List.length_map]
    exact q
def spGath (K : PySem.W.Frag) (C P : Addr) : Sp := fun vs H Q _ => ∃ (e p w : Addr) (n : Nat) (ps : List PI) (rs : List LRow) (m : Nat) (run : Bool), vs = [.ref e] ∧ Ex K C n H e p w ps rs m run true ∧ Tabs [(P, LQ)] H ∧ LawIn K H rs ∧ chOkB (rs.map LRow.f) = true ∧
  ∀ (H' : Hp) (b : Addr) (out : List LRow), ExtN H H' → H' b = some (.lst (out.map LRow.r)) → (∀ r ∈ out, LRowAt K H' r) → out.map LRow.dat = lawOf rs → Q (.ref b) H'
theorem ok_Explorer_gathered {P : Program} {w : World} {K : PySem.W.Frag} {mg : Str → Option Value} {base : Heap} (T : T P K mg base) : FnOk P w K mg base (L2.CX P w) 8 T.a_Explorer_gathered T.fd_Explorer_gathered ["self"] (spGath K T.C_Explorer T.P_law_from) := by
  refine T.F_Explorer_gathered.okX sc_Explorer_gathered (fun vs H Q E h => ?_) (fun cdv A outer s H vs Q E hr h => ?_)
  · obtain ⟨e, p, w, n, ps, rs, m, run, rfl, _⟩ := h
    rfl
  · obtain ⟨e, p, w, n, ps, rs, m, run, rfl, hX, hT, hL, hch, q⟩ := h
    obtain ⟨dx, he⟩ := hX.ob
    refine ⟨_, (pss_cons (ps_if (pt_not (pt_val (pe_fld (pv 0) rfl))) (pss_one (ps_raise rfl (takes_of rfl rfl rfl rfl) (Sup.pmk_oexN T.x_NotEnded.S.T T.x_NotEnded.iC T.x_NotEnded.tI (ok_NotEnded_init T) (hr.mono (by decide)) (T.bx_NotEnded) pass0 (by rfl) T.x_NotEnded.g))) pss_nil)
      (pss_one (ps_ret (pe_call (ok_law_from T) (hr.mono (by decide)) (by rfl) T.g_law_from T.F_law_from.kp T.b_law_from .nil (passes_call (takes_of rfl rfl rfl rfl) (fun _ _ _ _ h => h)) (pa_cons (pe_fld (pv 0) rfl) pa_nil))))), ?_⟩
    walk_at "z0"
    walk_at "z"
    refine ⟨e, _, dx, _, _, rfl, he, T.cl_Explorer, T.na_Explorer__finished, ef_f, ?_⟩
    walk_at "z"
    refine ⟨e, _, dx, _, _, rfl, he, T.cl_Explorer, T.na_Explorer__rows, ef_w, ?_⟩
    walk_at "z"
    refine ⟨w, rs, rfl, hT, lstL hX.rows, hL, fun z => ?_, fun _ H' b out nb e1 T1 h1 h2 h3 => ?_⟩
    · rw [hch] at z
      cases z
    · walk_at "z"
      exact q H' b out e1 h1 h2 h3
end explore4

section math14
def f1 (n : Nat) : Fr := stepF n (1, 1)
def gN2 (n : Nat) : Fr := stepF n (f1 n)
def pathD (n t : Nat) : List (Nat × Fr) := if t = 0 then [] else [((t - 1) / n, (1, 1)), ((t - 1) % n, f1 n)]
def nextD (n t : Nat) : List (Nat × Fr) := if t = 0 then [] else if t % n = 0 then [(t / n, (1, 1))] else [(t / n, (1, 1)), (t % n, f1 n)]
def midD (n t : Nat) : List (Nat × Fr) := if t % n = 0 then [(t / n, (1, 1))] else [(t / n, (1, 1)), (t % n, f1 n)]
def rowsD (n t : Nat) : List (PyData × Fr) := (List.range t).map fun i : Nat => (PyData.int (i : Int), gN2 n)
theorem divmod_succ {n s : Nat} (hn : 1 ≤ n) : (s % n + 1 < n → (s + 1) / n = s / n ∧ (s + 1) % n = s % n + 1) ∧ (¬ s % n + 1 < n → (s + 1) / n = s / n + 1 ∧ (s + 1) % n = 0) := by
  have h0 := Nat.div_add_mod s n
  have h1 := Nat.mod_lt s (show 0 < n by omega)
  constructor
  · intro h
    exact (Nat.div_mod_unique (by omega)).mpr ⟨by omega, h⟩
  · intro h
    refine (Nat.div_mod_unique (by omega)).mpr ⟨?_, by omega⟩
    rw [Nat.mul_add, Nat.mul_one]
    omega
theorem fol_next {n t : Nat} (hn : 1 ≤ n) (ht : 1 ≤ t) (h : t < n * n) : folD n ((t - 1) / n, (1, 1)) ((t - 1) % n, f1 n) = some (nextD n t) := by
  obtain ⟨s, rfl⟩ : ∃ s, t = s + 1 := ⟨t - 1, by omega⟩
  rw [Nat.add_sub_cancel]
  obtain ⟨ha, hb⟩ := divmod_succ (n := n) (s := s) hn
  unfold folD nextD
  dsimp only
  rw [if_neg (show ¬ s + 1 = 0 by omega)]
  by_cases hc : s % n + 1 < n
  · obtain ⟨e1, e2⟩ := ha hc
    rw [if_pos hc, e1, e2, if_neg (show ¬ s % n + 1 = 0 by omega)]
  · obtain ⟨e1, e2⟩ := hb hc
    have hlt : (s + 1) / n < n := Nat.div_lt_of_lt_mul h
    rw [if_neg hc, e2, if_pos rfl, if_pos (show s / n + 1 < n by omega), e1]
theorem fol_none {n : Nat} (hn : 1 ≤ n) : folD n ((n * n - 1) / n, (1, 1)) ((n * n - 1) % n, f1 n) = none := by
  have hnn : 1 ≤ n * n := Nat.mul_pos hn hn
  obtain ⟨ha, hb⟩ := divmod_succ (n := n) (s := n * n - 1) hn
  rw [show n * n - 1 + 1 = n * n by omega] at ha hb
  rw [Nat.mul_div_cancel _ (by omega), Nat.mul_mod_left] at ha hb
  have hc : ¬ (n * n - 1) % n + 1 < n := fun z => by
    have := (ha z).2
    omega
  have e1 := (hb hc).1
  unfold folD
  rw [if_neg hc, if_neg (by dsimp only; omega)]
theorem at_div {n t : Nat} : (t / n) * n + t % n = t := by
  rw [Nat.mul_comm]
  exact Nat.div_add_mod t n
/-- the chance of a path -/
def chD (n : Nat) (D : List (Nat × Fr)) : Fr := match D.getLast? with
  | some x => stepF n x.2
  | none => (1, 1)
theorem chB_D {n : Nat} {ps : List PI} : chB n ps = chD n (ps.map PI.dat) := by
  unfold chB chD
  rw [List.getLast?_map]
  cases ps.getLast? with
  | none => rfl
  | some x => rfl
theorem step_ok {n b : Nat} {f : Fr} (hn : 1 ≤ n) (hn2 : n ≤ 1000) (h : FrB b f ∧ f.2 ≠ 0) : FrB (b + 10) (stepF n f) ∧ (stepF n f).2 ≠ 0 := by
  have hn0 : (n : Int) ≠ 0 := by omega
  have h2 : FrB 10 (lo 1 (n : Int)) := lo_B hn0 (by decide) (by omega)
  have h3 := lo_pos (p := 1) hn0
  unfold stepF
  refine ⟨ftimes_B h.1 h2 h.2 (by omega), ?_⟩
  unfold ftimes
  have := lo_pos (p := f.1 * (lo 1 (n : Int)).1) (q := f.2 * (lo 1 (n : Int)).2) (Int.mul_ne_zero h.2 (by omega))
  omega
theorem one_ok : FrB 10 (1, 1) ∧ ((1, 1) : Fr).2 ≠ 0 := ⟨⟨by decide, by decide⟩, by decide⟩
theorem f1_ok {n : Nat} (hn : 1 ≤ n) (hn2 : n ≤ 1000) : FrB 20 (f1 n) ∧ (f1 n).2 ≠ 0 := step_ok hn hn2 one_ok
theorem g_ok {n : Nat} (hn : 1 ≤ n) (hn2 : n ≤ 1000) : FrB 30 (gN2 n) ∧ (gN2 n).2 ≠ 0 := step_ok hn hn2 (f1_ok hn hn2)
theorem rv_one : rv (1, 1) = 1 := by unfold rv; grind
theorem rv_step {n : Nat} {f : Fr} (hn : 1 ≤ n) (h : f.2 ≠ 0) : rv (stepF n f) = rv f / (n : Rat) := by
  have hn0 : (n : Int) ≠ 0 := by omega
  have h3 := lo_pos (p := 1) hn0
  have hr : ((n : Int) : Rat) ≠ 0 := ratNe hn0
  unfold stepF
  rw [rv_ftimes h (by omega), rv_lo hn0]
  have e : ((n : Int) : Rat) = (n : Rat) := by exact_mod_cast rfl
  have e1 : ((1 : Int) : Rat) = 1 := by exact_mod_cast rfl
  rw [e] at hr ⊢
  rw [e1]
  grind
theorem step_low {n : Nat} {f : Fr} (hn : 1 ≤ n) (h : f.2 ≠ 0) : Low (stepF n f) := by
  have hn0 : (n : Int) ≠ 0 := by omega
  have h3 := lo_pos (p := 1) hn0
  unfold stepF ftimes
  exact lo_low (Int.mul_ne_zero h (by omega))
/-- the chance of each run -/
theorem g_is {n : Nat} (hn : 1 ≤ n) (hn2 : n ≤ 1000) : gN2 n = lo 1 ((n : Int) * (n : Int)) := by
  have hn0 : (n : Int) ≠ 0 := by omega
  have h2 := f1_ok hn hn2
  refine low_eq (step_low hn h2.2) (lo_low (Int.mul_ne_zero hn0 hn0)) ?_
  unfold gN2
  rw [rv_step hn h2.2]
  unfold f1
  rw [rv_step hn (by decide), rv_one, rv_lo (Int.mul_ne_zero hn0 hn0)]
  have hr : (n : Rat) ≠ 0 := by
    have := ratNe hn0
    have e : ((n : Int) : Rat) = (n : Rat) := by exact_mod_cast rfl
    rwa [e] at this
  have e2 : (((n : Int) * (n : Int) : Int) : Rat) = (n : Rat) * (n : Rat) := by exact_mod_cast rfl
  have e1 : ((1 : Int) : Rat) = 1 := by exact_mod_cast rfl
  rw [e2, e1]
  grind
/-- as many parts of a whole -/
theorem part_sum {N : Nat} (hN : 1 ≤ N) : ∀ i : Nat, fsum (0, 1) (List.replicate i (lo 1 (N : Int))) = lo (i : Int) (N : Int) := fun i => by
  have hN0 : (N : Int) ≠ 0 := by omega
  have h3 := lo_pos (p := 1) hN0
  have hz : Low ((0, 1) : Fr) := ⟨by decide, by decide⟩
  have hs := rv_fsum (fs := List.replicate i (lo 1 (N : Int))) hz fun f hf => by
    rw [List.eq_of_mem_replicate hf]
    omega
  refine low_eq hs.2 (lo_low hN0) ?_
  rw [hs.1, rv_lo hN0, List.map_replicate]
  have hsum : ∀ (k : Nat) (r : Rat), (List.replicate k r).sum = (k : Rat) * r := fun k r => by
    induction k with
    | zero => show (0 : Rat) = ((0 : Nat) : Rat) * r; grind
    | succ k ih =>
      rw [List.replicate_succ, List.sum_cons, ih]
      have e : ((k + 1 : Nat) : Rat) = (k : Rat) + 1 := by exact_mod_cast rfl
      rw [e]
      grind
  rw [hsum, rv_lo hN0]
  have e0 : rv (0, 1) = 0 := by unfold rv; grind
  have hr := ratNe hN0
  have e1 : ((1 : Int) : Rat) = 1 := by exact_mod_cast rfl
  have ei : ((i : Int) : Rat) = (i : Rat) := by exact_mod_cast rfl
  rw [e0, e1, ei]
  grind
theorem sum_ok {N : Nat} (hN : 1 ≤ N) (hN2 : N ≤ 1000) : SumOk (List.replicate N (lo 1 (N : Int))) := by
  have hN0 : (N : Int) ≠ 0 := by omega
  have hb : ∀ i : Nat, i ≤ N → FrB 3900 (lo (i : Int) (N : Int)) ∧ (lo (i : Int) (N : Int)).2 ≠ 0 := fun i hi => by
    have h3 := lo_pos (p := (i : Int)) hN0
    exact ⟨(lo_B (n := 10) hN0 (by omega) (by omega)).mono (by decide), by omega⟩
  refine ⟨fun f hf => ?_, fun i => ?_⟩
  · rw [List.eq_of_mem_replicate hf]
    exact hb 1 hN
  · rw [List.take_replicate, part_sum hN]
    exact hb _ (by omega)
theorem ch_ok {N : Nat} (hN : 1 ≤ N) (hN2 : N ≤ 1000) : chOkB (List.replicate N (lo 1 (N : Int))) = true := by
  have hN0 : (N : Int) ≠ 0 := by omega
  unfold chOkB
  rw [part_sum hN]
  have e1 : lo (N : Int) (N : Int) = (1, 1) := by
    refine low_eq (lo_low hN0) ⟨by decide, by decide⟩ ?_
    rw [rv_lo hN0, rv_one]
    have hr := ratNe hN0
    grind
  rw [e1, decide_eq_true rfl, Bool.and_true]
  refine List.all_eq_true.mpr fun f hf => ?_
  rw [List.eq_of_mem_replicate hf]
  have hl := fless_iff (f := lo 1 (N : Int)) (g := (0, 1)) (lo_pos hN0) (by decide)
  rw [hl]
  have e0 : rv (0, 1) = 0 := by unfold rv; grind
  have hp : (0 : Rat) < ((N : Int) : Rat) := ratPos (by omega)
  have hq : ¬ rv (lo 1 (N : Int)) < rv (0, 1) := by
    rw [e0, rv_lo hN0]
    have e1 : ((1 : Int) : Rat) = 1 := by exact_mod_cast rfl
    rw [e1]
    intro z
    have := Rat.mul_lt_mul_of_pos_right z hp
    rw [Rat.div_mul_cancel (ratNe hN0), Rat.zero_mul] at this
    exact absurd this (by decide)
  rw [decide_eq_false hq]
  rfl
end math14

section data14
variable {K : PySem.W.Frag}
open LamX LamK
/-! rows as data -/
def rowP (x : PyData × Fr) : PyData := .tuple [x.1, frD x.2]
theorem dpRow {H : Hp} {r : LRow} (h : LRowAt K H r) : Dp K H r.r (rowP r.dat) := .tup h.tup (.cons h.dp (.cons (dpF h.fr) .nil))
theorem dpRows {H : Hp} : ∀ {rs : List LRow}, (∀ r ∈ rs, LRowAt K H r) → DpAll K H (rs.map LRow.r) ((rs.map LRow.dat).map rowP)
  | [], _ => .nil
  | r :: rs, h => .cons (dpRow (h r (by simp))) (dpRows fun x hx => h x (by simp [hx]))
theorem rowsD_succ (n t : Nat) : rowsD n (t + 1) = rowsD n t ++ [(.int (t : Int), gN2 n)] := by
  unfold rowsD
  rw [List.range_succ, List.map_append]
  rfl
theorem rowsD_len (n t : Nat) : (rowsD n t).length = t := by unfold rowsD; rw [List.length_map, List.length_range]
theorem eqv_int (i j : Int) : PyData.eqv (.int i) (.int j) = decide (i = j) := by
  simp [PyData.eqv]
  try rfl
theorem rowsD_fold (n : Nat) : ∀ t, (rowsD n t).foldl stp [] = rowsD n t
  | 0 => rfl
  | t + 1 => by
    rw [rowsD_succ, List.foldl_append, rowsD_fold n t]
    show stp (rowsD n t) _ = _
    cases t with
    | zero => rfl
    | succ s =>
      rw [rowsD_succ, stp_last, if_neg]
      rw [eqv_int, decide_eq_false (by omega)]
      exact Bool.false_ne_true
theorem rowsD_take {n t i : Nat} : (rowsD n t).take i = rowsD n (min i t) := by
  unfold rowsD
  rw [← List.map_take, List.take_range]
theorem rows_d {n t : Nat} {rs : List LRow} (h : rs.map LRow.dat = rowsD n t) : rs.map LRow.d = (List.range t).map fun i : Nat => PyData.int (i : Int) := by
  have e : rs.map LRow.d = (rs.map LRow.dat).map Prod.fst := by rw [List.map_map]; rfl
  rw [e, h]
  unfold rowsD
  rw [List.map_map]
  rfl
theorem rows_f {n t : Nat} {rs : List LRow} (h : rs.map LRow.dat = rowsD n t) : rs.map LRow.f = List.replicate t (gN2 n) := by
  have e : rs.map LRow.f = (rs.map LRow.dat).map Prod.snd := by rw [List.map_map]; rfl
  rw [e, h]
  unfold rowsD
  rw [List.map_map]
  refine List.ext_getElem (by simp) fun i h1 h2 => by simp
theorem le_ints {a b : LRow} {i j : Int} (ha : a.d = .int i) (hb : b.d = .int j) (h : i ≤ j) : PySem.W.dataLe false LRow.d a b = true := by
  show (!PyProof.Rows.lexLt PyProof.Rows.itemOrd (PySem.W.keyToks b.d) (PySem.W.keyToks a.d)) = true
  rw [ha, hb]
  simp [PySem.W.keyToks, PyProof.Rows.lexLt, PyProof.Rows.itemLt]
  omega
theorem rows_srtd {n t : Nat} {rs : List LRow} (h : rs.map LRow.dat = rowsD n t) : srtd rs = rs := by
  unfold srtd
  refine List.mergeSort_of_pairwise (List.pairwise_iff_getElem.mpr fun i j hi hj hij => ?_)
  have hd := rows_d h
  have at' : ∀ (k : Nat) (hk : k < rs.length), (rs[k]).d = .int (k : Int) := fun k hk => by
    have h1 : (rs.map LRow.d)[k]? = some (rs[k]).d := by rw [List.getElem?_map, List.getElem?_eq_getElem hk]; rfl
    rw [hd, List.getElem?_map] at h1
    have hkt : k < t := by
      have := congrArg List.length h
      rw [List.length_map, rowsD_len] at this
      omega
    rw [List.getElem?_range hkt] at h1
    exact (Option.some.inj h1).symm
  exact le_ints (at' i hi) (at' j hj) (by omega)
theorem g_ne {n : Nat} (hn : 1 ≤ n) (hn2 : n ≤ 1000) : gN2 n ≠ (0, 1) := fun z => by
  have hn0 : (n : Int) ≠ 0 := by omega
  have h2 := f1_ok hn hn2
  have h1 := rv_step (n := n) hn h2.2
  have h0 := rv_step (n := n) (f := (1, 1)) hn (by decide)
  have e : rv (gN2 n) = rv (0, 1) := by rw [z]
  have e0 : rv (0, 1) = 0 := by unfold rv; grind
  have hr : (n : Rat) ≠ 0 := by
    have := ratNe hn0
    have e : ((n : Int) : Rat) = (n : Rat) := by exact_mod_cast rfl
    rwa [e] at this
  have hg : rv (gN2 n) = rv (f1 n) / (n : Rat) := h1
  have hf : rv (f1 n) = rv (1, 1) / (n : Rat) := h0
  rw [e0, hg, hf, rv_one] at e
  grind
theorem rows_law {n t : Nat} {rs : List LRow} (hn : 1 ≤ n) (hn2 : n ≤ 1000) (h : rs.map LRow.dat = rowsD n t) : lawOf rs = rowsD n t := by
  unfold lawOf
  rw [rows_srtd h, h, rowsD_fold]
  refine List.filter_eq_self.mpr fun x hx => ?_
  unfold rowsD at hx
  obtain ⟨i, _, rfl⟩ := List.mem_map.mp hx
  rw [decide_eq_false (g_ne hn hn2)]
  rfl
theorem law_in {n : Nat} {rs : List LRow} {H : Hp} (hn : 1 ≤ n) (hn2 : n ≤ 31) (h : rs.map LRow.dat = rowsD n (n * n)) (hA : ∀ r ∈ rs, LRowAt K H r) : LawIn K H rs ∧ chOkB (rs.map LRow.f) = true := by
  have hN : 1 ≤ n * n := Nat.mul_pos hn hn
  have hN2 : n * n ≤ 31 * 31 := Nat.mul_le_mul hn2 hn2
  have hg : gN2 n = lo 1 ((n * n : Nat) : Int) := by rw [g_is hn (by omega)]; congr 1
  have hf := rows_f h
  rw [hg] at hf
  have hlen : rs.length = n * n := by
    have := congrArg List.length h
    rwa [List.length_map, rowsD_len] at this
  refine ⟨⟨hA, ?_, by rw [hf]; exact sum_ok hN (by omega), fun i y hy => ?_, by omega⟩, by rw [hf]; exact ch_ok hN (by omega)⟩
  · rw [rows_d h]
    refine ⟨fun d hd d' hd' => ?_, .inr fun d hd => ?_⟩
    · obtain ⟨i, _, rfl⟩ := List.mem_map.mp hd
      obtain ⟨j, _, rfl⟩ := List.mem_map.mp hd'
      rfl
    · obtain ⟨i, _, rfl⟩ := List.mem_map.mp hd
      exact ⟨by simp, by simp⟩
  · rw [rows_srtd h, h, rowsD_take, rowsD_fold] at hy
    unfold rowsD at hy
    obtain ⟨j, _, rfl⟩ := List.mem_map.mp hy
    have := g_ok hn (by omega : n ≤ 1000)
    exact ⟨this.1.mono (by decide), this.2⟩
theorem layRows (n : Nat) : ∀ l : List Nat, PyData.canLayAll0 ((l.map fun i : Nat => (PyData.int (i : Int), gN2 n)).map rowP) = true
  | [] => by simp [PyData.canLayAll0]
  | i :: r => by
    have := layRows n r
    simp only [List.map_cons]
    simp [PyData.canLayAll0, rowP, PyData.canLay0, frD]
    simpa using this
theorem depthRows (n : Nat) : ∀ l : List Nat, PyData.depthAll ((l.map fun i : Nat => (PyData.int (i : Int), gN2 n)).map rowP) ≤ 2
  | [] => by simp [PyData.depthAll]
  | i :: r => by
    have := depthRows n r
    simp only [List.map_cons]
    simp [PyData.depthAll, rowP, PyData.depth, frD]
    refine Nat.max_le.mpr ⟨by omega, by simpa using this⟩
theorem eqRows {H : Hp} {Q : VK} {a b : Addr} {rs qs : List LRow} {n t : Nat} (h1 : H a = some (.lst (rs.map LRow.r))) (h2 : H b = some (.lst (qs.map LRow.r))) (hr : ∀ r ∈ rs, LRowAt K H r) (hq : ∀ r ∈ qs, LRowAt K H r) (er : rs.map LRow.dat = rowsD n t) (eq : qs.map LRow.dat = rowsD n t) (q : Q (.bl true) H) : rEqD K (.ref a) (.ref b) H Q := by
  have d1 := dpRows hr
  have d2 := dpRows hq
  rw [er] at d1
  rw [eq] at d2
  have sh : SeqAt.shaped (.list ((rowsD n t).map rowP)) = true := by
    have h3 := depthRows n (List.range t)
    have h4 := layRows n (List.range t)
    unfold rowsD
    simp only [SeqAt.shaped, PyData.canLay0, PyData.depth, h4, Bool.true_and]
    exact decide_eq_true (by omega)
  exact ⟨_, _, .lst (lstL h1) d1, .lst (lstL h2) d2, sh, sh, by
    rw [SeqAt.eqv_refl (.list ((rowsD n t).map rowP)) (by simp only [PyData.canLay0]; exact layRows n (List.range t))]
    exact q⟩
end data14

def spLow (K : PySem.W.Frag) : Sp := fun vs H Q _ => ∃ p q : Int, vs = [.int p, .int q] ∧ q ≠ 0 ∧ q.natAbs < 2 ^ 2400 ∧ ∀ H' b, H b = none → Kp [] H H' → FrAt K H' b (lo p q) → Q (.ref b) H'
theorem abs_if (i : Int) : (if i < 0 then -i else i) = (i.natAbs : Int) := by
  split <;> omega
theorem ok__law_low {P : Program} {w : World} {K : PySem.W.Frag} {mg : Str → Option Value} {base : Heap} (T : T P K mg base) : FnOk P w K mg base CX0 1 T.a__law_low T.fd__law_low ["p", "q"] (spLow K) := by
  refine T.F__law_low.ok sc__law_low (fun vs H Q E h => ?_) (fun cdv A outer s H vs Q E hr h => ?_)
  · obtain ⟨p, q, rfl, _⟩ := h
    rfl
  · obtain ⟨p, q, rfl, hq, hb, q1⟩ := h
    have hg := gI_ne (p := p) hq
    have hdv : Z.CDivA p (gI p q) := Z.divA (b := 2400) hg (by rw [gI_abs]; exact Nat.lt_of_le_of_lt (gN_le hq) hb) (by decide) (by decide)
    have hdv2 : Z.CDivA q (gI p q) := hdv
    refine ⟨_, (pss_cons (ps_set (i := 2) sc__law_low.nd rfl (by first | exact Or.inl rfl | exact Or.inr rfl) (pe_callB c_abs (by rfl) T.z_abs (by decide +kernel) (pa_cons (pv 0) pa_nil)))
      (pss_cons (ps_set (i := 3) sc__law_low.nd rfl (by first | exact Or.inl rfl | exact Or.inr rfl) (pe_callB c_abs (by rfl) T.z_abs (by decide +kernel) (pa_cons (pv 1) pa_nil)))
      (Z.pss_consJ (ps_for PassesOwn.never rfl (pi_range1 (by rfl) T.z_range (pa_cons pe_int pa_nil)) (pg_name (i := 4) sc__law_low.nd rfl (by first | exact Or.inl rfl | exact Or.inr rfl)) (pss_cons (ps_if (pt_cmpR op_eq (pv 3) pe_int (nomark _)) (pss_one ps_break) pss_nil)
      (pss_one (ps_par (i := 2) (j := 3) rfl sc__law_low.nd rfl rfl (by decide) rfl rfl (pa_cons (pv 3) (pa_cons (pe_op op_mod (pe_callTy c_int (by rfl) T.z_int (by decide +kernel) (pa_cons (pv 2) pa_nil)) (pv 3)) pa_nil)) (by rfl)))))
      (Z.pss_consJ (ps_if (pt_cmpR op_lt (pv 1) pe_int (nomark _)) (pss_one (ps_set (i := 2) sc__law_low.nd rfl (by first | exact Or.inl rfl | exact Or.inr rfl) (pe_op op_sub pe_int (pv 2)))) pss_nil)
      (pss_one (ps_ret (pe_tup (pa_cons (pe_op Z.op_fdivA (pv 0) (pv 2)) (pa_cons (pe_op Z.op_fdivA (pv 1) (pv 2)) pa_nil))))))))), ?_⟩
    walk_at "z0"
    walk_at "z"
    rw [abs_if, abs_if]
    refine Z.seqJ (fun σ' H' => ∃ y z : Option V, σ' = [some (.int p), some (.int q), some (.int (gN p q : Int)), y, z] ∧ H' = H) ?_ ?_
    · rintro σ' H' ⟨y, z, rfl, rfl⟩
      refine Z.seqJ (fun σ' H'' => ∃ y z : Option V, σ' = [some (.int p), some (.int q), some (.int (gI p q)), y, z] ∧ H'' = H') ?_ ?_
      · rintro σ' H'' ⟨y, z, rfl, rfl⟩
        walk_at "z"
        refine Z.iC hdv ?_
        walk_at "z"
        refine Z.iC hdv2 ?_
        refine Z.tupK (fun b H1 nb k1 e1 => ?_)
        exact q1 _ _ nb k1 (tupT e1)
      · intro N jn
        walk_at "z"
        refine Z.ite (fun h2 => ?_) (fun h2 => ?_)
        · walk_at "z"
          refine jn _ _ ⟨y, z, ?_, rfl⟩
          unfold gI
          rw [if_pos h2, Int.zero_sub]
        · walk_at "z"
          refine jn _ _ ⟨y, z, ?_, rfl⟩
          unfold gI
          rw [if_neg h2]
    · intro N jn
      walk_at "z"
      refine Z.forr 5000 ?_ (by decide) (fun i σ' H' => ∃ z : Option V, σ' = [some (.int p), some (.int q), some (.int ((euc i (p.natAbs, q.natAbs)).1 : Int)), some (.int ((euc i (p.natAbs, q.natAbs)).2 : Int)), z] ∧ H' = H) ?_ ?_ ?_
      · rfl
      · exact ⟨_, rfl, rfl⟩
      · rintro i σ' H' hi ⟨z, rfl, rfl⟩
        walk_at "z"
        refine Z.ite (fun h2 => ?_) (fun h2 => ?_)
        · walk_at "z"
          have h0 : (euc i (p.natAbs, q.natAbs)).2 = 0 := by omega
          have eg := euc_gcd i (p.natAbs, q.natAbs)
          rw [h0, Nat.gcd_zero_right] at eg
          rw [eg]
          exact jn _ _ ⟨_, _, rfl, rfl⟩
        · walk_at "z"
          refine Z.iC (by omega) ?_
          walk_at "z"
          have es : euc (i + 1) (p.natAbs, q.natAbs) = ((euc i (p.natAbs, q.natAbs)).2, (euc i (p.natAbs, q.natAbs)).1 % (euc i (p.natAbs, q.natAbs)).2) := by
            rw [euc_succ]
            exact if_neg (by omega)
          refine ⟨some (.int (i : Int)), ?_, rfl⟩
          rw [es]
          rfl
      · rintro σ' H' ⟨z, rfl, rfl⟩
        have h0 := euc_5000 (p := (p.natAbs, q.natAbs)) hb
        have eg := euc_gcd 5000 (p.natAbs, q.natAbs)
        rw [h0, Nat.gcd_zero_right] at eg
        walk_at "z"
        rw [eg]
        exact jn _ _ ⟨_, _, rfl, rfl⟩

section law14
variable {K : PySem.W.Frag}
open LamX hiding takes0
open LamK
def spLimit (K : PySem.W.Frag) (C : Addr) : Sp := fun vs H Q _ => ∃ (e p w : Addr) (n : Nat) (ps : List PI) (rs : List LRow) (m : Nat) (fin : Bool) (D : List (Nat × Fr)), vs = [.ref e] ∧ 1 ≤ n ∧ n ≤ 1000 ∧ Ex K C n H e p w ps rs m false fin ∧ (rs = [] ∨ ∃ x y, ps = [x, y]) ∧ beginD n ps rs = some D ∧ rs.length = 20000 ∧ ∀ H', Q (.str "runs") H'
theorem ok__law_limit {P : Program} {w : World} {K : PySem.W.Frag} {mg : Str → Option Value} {base : Heap} (T : T P K mg base) : FnOk P w K mg base CX0 4 T.a__law_limit T.fd__law_limit ["explorer"] (spLimit K T.C_Explorer) := by
  refine T.F__law_limit.ok sc__law_limit (fun vs H Q E h => ?_) (fun cdv A outer s H vs Q E hr h => ?_)
  · obtain ⟨e, p, w, n, ps, rs, m, fin, D, rfl, _⟩ := h
    rfl
  · obtain ⟨e, p, w, n, ps, rs, m, fin, D, rfl, hn1, hn2, hX, hps, hD, hl, q⟩ := h
    obtain ⟨dx, he⟩ := hX.ob
    refine ⟨_, (pss_cons (ps_try_as (i := 1) rfl rfl sc__law_limit.nd rfl rfl ⟨by rfl, by decide, .inl T.x_TooLarge.g⟩ takes0 (fun W pn xe tk po => (pss_one (ps_expr (LamK.pe_meth0X (pv 0) T.cl_Explorer T.me_Explorer_begin (ok_Explorer_begin T) (hr.mono (by decide)) T.b_Explorer_begin (fun σ => passAt tk σ))))) (fun a oe cls d pn hz hf => (pss_one (ps_ret (pe_xf T.x_TooLarge.xf T.nf_TooLarge_limit hz hf (pv 1))))))
      (pss_one (ps_ret pe_non))), ?_⟩
    walk_at "z0"
    walk_at "z"
    refine ⟨e, dx, _, rfl, he, by rfl, ?_⟩
    refine ⟨e, p, w, n, ps, rs, m, fin, rfl, hn1, hn2, hX, hps, fun hno => ?_, fun D' hD' _ H1 d k1 nd => ⟨true, T.x_TooLarge.te, fun _ x nx => ?_, fun z => nomatch z⟩, fun D' hD' hne => absurd hl hne⟩
    · rw [hD] at hno
      cases hno
    · walk_at "z"
      refine ⟨_, rfl, rfl, rfl, d, _, _, rfl, upd_same, rfl, ?_⟩
      walk_at "z"
      exact q _
theorem tabs_M {T : List (Addr × Str)} {M : List Addr} {H H' : Hp} (t : Tabs T H) (k : Kp M H H') (hM : ∀ y ∈ M, ∃ o, H y = some o ∧ (∀ ps, o ≠ .tbl ps) ∧ ∀ f, o ≠ .ext f) : Tabs T H' := fun p hp => by
  obtain ⟨ps, h1, h2, h3⟩ := t p hp
  refine ⟨ps, k.get (fun z => ?_) h1, h2, fun pos cv hc => ?_⟩
  · obtain ⟨o, e, n1, _⟩ := hM _ z
    rw [h1] at e
    exact n1 ps (Option.some.inj e).symm
  · obtain ⟨c, e1, e2⟩ := h3 pos cv hc
    refine ⟨c, e1, k.get (fun z => ?_) e2⟩
    obtain ⟨o, e, _, n2⟩ := hM _ z
    rw [e2] at e
    exact n2 _ (Option.some.inj e).symm
theorem Ex.noTab {C : Addr} {n : Nat} {H : Hp} {e p w : Addr} {ps : List PI} {rs : List LRow} {m : Nat} {run fin : Bool} (h : Ex K C n H e p w ps rs m run fin) : ∀ y ∈ [e, p, w], ∃ o, H y = some o ∧ (∀ ps, o ≠ .tbl ps) ∧ ∀ f, o ≠ .ext f := fun y hy => by
  obtain ⟨dx, o⟩ := h.ob
  rcases List.mem_cons.mp hy with rfl | hy
  · exact ⟨_, o, by simp, by simp⟩
  rcases List.mem_cons.mp hy with rfl | hy
  · exact ⟨_, h.path, by simp, by simp⟩
  · rw [List.mem_singleton.mp hy]
    exact ⟨_, h.rows, by simp, by simp⟩
theorem chD_ok {n : Nat} (hn : 1 ≤ n) (hn2 : n ≤ 1000) : (FrB 1000 (chD n []) ∧ (chD n []).2 ≠ 0) ∧ ∀ k, (FrB 1000 (chD n [(k, (1, 1))]) ∧ (chD n [(k, (1, 1))]).2 ≠ 0) ∧ ∀ j, FrB 1000 (chD n [(k, (1, 1)), (j, f1 n)]) ∧ (chD n [(k, (1, 1)), (j, f1 n)]).2 ≠ 0 := by
  have h0 := one_ok
  have h1 := f1_ok hn hn2
  have h2 := g_ok hn hn2
  exact ⟨⟨h0.1.mono (by decide), h0.2⟩, fun k => ⟨⟨h1.1.mono (by decide), h1.2⟩, fun j => ⟨h2.1.mono (by decide), h2.2⟩⟩⟩
theorem chD_next {n t : Nat} (hn : 1 ≤ n) (hn2 : n ≤ 1000) : FrB 1000 (chD n (nextD n t)) ∧ (chD n (nextD n t)).2 ≠ 0 := by
  have h := chD_ok hn hn2
  unfold nextD
  split
  · exact h.1
  · split
    · exact (h.2 _).1
    · exact (h.2 _).2 _
theorem chD_mid {n t : Nat} (hn : 1 ≤ n) (hn2 : n ≤ 1000) : FrB 1000 (chD n (midD n t)) ∧ (chD n (midD n t)).2 ≠ 0 := by
  have h := chD_ok hn hn2
  unfold midD
  split
  · exact (h.2 _).1
  · exact (h.2 _).2 _
theorem dat_nil {ps : List PI} (h : ps.map PI.dat = []) : ps = [] := List.map_eq_nil_iff.mp h
theorem dat_one {ps : List PI} {a : Nat × Fr} (h : ps.map PI.dat = [a]) : ∃ x, ps = [x] ∧ x.dat = a := by
  obtain ⟨x, r, rfl, h1, h2⟩ := List.map_eq_cons_iff.mp h
  obtain rfl := dat_nil h2
  exact ⟨x, rfl, h1⟩
theorem dat_two {ps : List PI} {a b : Nat × Fr} (h : ps.map PI.dat = [a, b]) : ∃ x y, ps = [x, y] ∧ x.dat = a ∧ y.dat = b := by
  obtain ⟨x, r, rfl, h1, h2⟩ := List.map_eq_cons_iff.mp h
  obtain ⟨y, rfl, h3⟩ := dat_one h2
  exact ⟨x, y, rfl, h1, h3⟩
/-- the first pick of a run -/
theorem pick_one {n t : Nat} (hn : 1 ≤ n) {ps ps' : List PI} {x : PI} (h : ps.map PI.dat = nextD n t) (hx : ps'[0]? = some x) (ho : (0 < ps.length ∧ ps' = ps) ∨ (0 = ps.length ∧ ps' = ps ++ [x] ∧ x.dat = (0, chB n ps))) : x.k = t / n ∧ ps'.map PI.dat = midD n t ∧ 1 ≤ ps'.length ∧ ps'.length ≤ 2 := by
  unfold nextD at h
  unfold midD
  split at h
  · rename_i h0
    obtain rfl := dat_nil h
    rcases ho with ⟨h1, _⟩ | ⟨_, rfl, hd⟩
    · simp at h1
    · have hk : x.k = 0 := congrArg Prod.fst hd
      rw [h0, Nat.zero_div, Nat.zero_mod, if_pos rfl]
      exact ⟨hk, by show [x.dat] = _; rw [hd]; rfl, by simp, by simp⟩
  · split at h
    · rename_i h0 h1
      obtain ⟨y, rfl, hy⟩ := dat_one h
      rcases ho with ⟨_, rfl⟩ | ⟨h2, _⟩
      · obtain rfl : y = x := by simpa using hx
        rw [if_pos h1]
        exact ⟨congrArg Prod.fst hy, h, by simp, by simp⟩
      · simp at h2
    · rename_i h0 h1
      obtain ⟨y, z, rfl, hy, hz⟩ := dat_two h
      rcases ho with ⟨_, rfl⟩ | ⟨h2, _⟩
      · obtain rfl : y = x := by simpa using hx
        rw [if_neg h1]
        exact ⟨congrArg Prod.fst hy, h, by simp, by simp⟩
      · simp at h2
/-- the second pick -/
theorem pick_two {n t : Nat} (hn : 1 ≤ n) {ps ps' : List PI} {x : PI} (h : ps.map PI.dat = midD n t) (hx : ps'[1]? = some x) (ho : (1 < ps.length ∧ ps' = ps) ∨ (1 = ps.length ∧ ps' = ps ++ [x] ∧ x.dat = (0, chB n ps))) : x.k = t % n ∧ ps'.map PI.dat = pathD n (t + 1) := by
  unfold midD at h
  unfold pathD
  rw [if_neg (by omega), Nat.add_sub_cancel]
  split at h
  · rename_i h0
    obtain ⟨y, rfl, hy⟩ := dat_one h
    rcases ho with ⟨h1, _⟩ | ⟨_, rfl, hd⟩
    · simp at h1
    · have hk : x.k = 0 := congrArg Prod.fst hd
      have hc : chB n [y] = f1 n := by
        rw [chB_D, h]
        rfl
      rw [hc] at hd
      rw [h0]
      exact ⟨hk, by show [y.dat, x.dat] = _; rw [hy, hd]⟩
  · rename_i h0
    obtain ⟨y, z, rfl, hy, hz⟩ := dat_two h
    rcases ho with ⟨_, rfl⟩ | ⟨h2, _⟩
    · obtain rfl : z = x := by simpa using hx
      exact ⟨congrArg Prod.fst hz, h⟩
    · simp at h2
/-- how the next run begins -/
theorem begin_next {n t : Nat} (hn : 1 ≤ n) (ht : t < n * n) {ps : List PI} {rs : List LRow} (hp : ps.map PI.dat = pathD n t) (hr : rs.map LRow.dat = rowsD n t) : (rs = [] ∨ ∃ x y, ps = [x, y]) ∧ beginD n ps rs = some (nextD n t) := by
  have hl : rs.length = t := by
    have := congrArg List.length hr
    rwa [List.length_map, rowsD_len] at this
  cases rs with
  | nil =>
    refine ⟨.inl rfl, ?_⟩
    unfold nextD
    rw [if_pos (by simpa using hl.symm)]
    rfl
  | cons r rr =>
    have ht1 : 1 ≤ t := by rw [← hl]; simp
    unfold pathD at hp
    rw [if_neg (by omega)] at hp
    obtain ⟨x, y, rfl, hx, hy⟩ := dat_two hp
    refine ⟨.inr ⟨x, y, rfl⟩, ?_⟩
    show folD n x.dat y.dat = _
    rw [hx, hy]
    exact fol_next hn ht1 ht
theorem begin_none {n : Nat} (hn : 1 ≤ n) {ps : List PI} {rs : List LRow} (hp : ps.map PI.dat = pathD n (n * n)) (hr : rs.map LRow.dat = rowsD n (n * n)) : (rs = [] ∨ ∃ x y, ps = [x, y]) ∧ beginD n ps rs = none := by
  have hN : 1 ≤ n * n := Nat.mul_pos hn hn
  have hl : rs.length = n * n := by
    have := congrArg List.length hr
    rwa [List.length_map, rowsD_len] at this
  cases rs with
  | nil => simp at hl; omega
  | cons r rr =>
    unfold pathD at hp
    rw [if_neg (by omega)] at hp
    obtain ⟨x, y, rfl, hx, hy⟩ := dat_two hp
    refine ⟨.inr ⟨x, y, rfl⟩, ?_⟩
    show folD n x.dat y.dat = _
    rw [hx, hy]
    exact fol_none hn
end law14

section law14b
variable {K : PySem.W.Frag}
open LamX hiding takes0
open LamK
theorem Ex.keepW {C : Addr} {n : Nat} {H H' : Hp} {e p w b : Addr} {ps : List PI} {rs : List LRow} {m : Nat} {run fin : Bool} {M : List Addr} (h : Ex K C n H e p w ps rs m run fin) (hn : 1 ≤ n) (k : Kp M H H') (hM : ∀ y ∈ M, y ∈ [e, p, w]) (hb : H b = some (.lst (onesV n))) : H' b = some (.lst (onesV n)) := k.get (fun z => h.nw hn b (hM b z) hb) hb
theorem Ex.keepT {T : List (Addr × Str)} {C : Addr} {n : Nat} {H H' : Hp} {e p w : Addr} {ps : List PI} {rs : List LRow} {m : Nat} {run fin : Bool} {M : List Addr} (h : Ex K C n H e p w ps rs m run fin) (k : Kp M H H') (hM : ∀ y ∈ M, y ∈ [e, p, w]) (t : Tabs T H) : Tabs T H' := tabs_M t k fun y hy => h.noTab y (hM y hy)
theorem next_len {n t : Nat} : (nextD n t).length ≤ 2 := by
  unfold nextD
  split
  · simp
  · split <;> simp
theorem ones_rep (n : Nat) : (List.replicate (n : Int).toNat [V.int 1]).flatten = onesV n := by
  unfold onesV onesI
  rw [Int.toNat_natCast, List.map_replicate]
  induction n with
  | zero => rfl
  | succ n ih => rw [List.replicate_succ, List.replicate_succ, List.flatten_cons, ih]; rfl
def spLaw (K : PySem.W.Frag) (P : Addr) : Sp := fun vs H Q _ => ∃ (a : Addr) (ns : List Int), vs = [.ref a] ∧ SqL K H a (ns.map V.int) ∧ ns.length ≤ 63 ∧ (∀ z ∈ ns, Builtin.Int.intBits z ≤ 1048576) ∧ Tabs [(P, LQ)] H ∧ ∀ H', Q (.bl true) H'
theorem spLaw_in {K : PySem.W.Frag} {P : Addr} (H : Hp) (a : Addr) (ns : List Int) (h1 : ns.length ≤ 63) (h2 : ∀ z ∈ ns, Builtin.Int.intBits z ≤ 1048576) (hP : H P = some (.tbl #[])) (hS : SqL K H a (ns.map V.int)) : spLaw K P [.ref a] H (fun v _ => v = .bl true) fun _ _ _ => False :=
  ⟨a, ns, rfl, hS, h1, h2, fun p hp => by rw [List.mem_singleton.mp hp]; exact TabS.nil hP, fun _ => rfl⟩
theorem deck_tabs {T : List (Addr × Str)} {H H' : Hp} {a p : Addr} (t : Tabs T H) (d : DeckOk H a p) (k : Kp [a] H H') : Tabs T H' := let ⟨_, _, _, _, ha, _⟩ := d; tabs_put t k ha
theorem ok_law {P : Program} {w : World} {K : PySem.W.Frag} {mg : Str → Option Value} {base : Heap} (T : T P K mg base) : FnOk P w K mg base CX0 9 T.a_law T.fd_law ["script"] (spLaw K T.P_law_from) := by
  refine T.F_law.ok sc_law (fun vs H Q E h => ?_) (fun cdv A outer s H vs Q E hr h => ?_)
  · obtain ⟨c, ns, rfl, _⟩ := h
    rfl
  · obtain ⟨c, ns, rfl, hS, hl, hbit, hT, q⟩ := h
    refine ⟨_, (pss_cons (ps_set (i := 1) sc_law.nd rfl (by first | exact Or.inl rfl | exact Or.inr rfl) (pe_call (ok__law_deck T) (hr.mono (by decide)) (by rfl) T.g__law_deck T.F__law_deck.kp T.b__law_deck .nil pass0 (pa_cons (pv 0) pa_nil)))
      (pss_cons (ps_set (i := 2) sc_law.nd rfl (by first | exact Or.inl rfl | exact Or.inr rfl) (pe_op op_add pe_int (pe_call (ok__law_draw T) (hr.mono (by decide)) (by rfl) T.g__law_draw T.F__law_draw.kp T.b__law_draw .nil pass0 (pa_cons (pv 1) (pa_cons pe_int pa_nil)))))
      (Z.pss_consJ (ps_if (pt_cmpR op_eq (pe_call (ok__law_draw T) (hr.mono (by decide)) (by rfl) T.g__law_draw T.F__law_draw.kp T.b__law_draw .nil pass0 (pa_cons (pv 1) (pa_cons pe_int pa_nil))) pe_int (nomark _)) (pss_one (ps_set (i := 2) sc_law.nd rfl (by first | exact Or.inl rfl | exact Or.inr rfl) pe_int)) pss_nil)
      (pss_cons (ps_set (i := 3) sc_law.nd rfl (by first | exact Or.inl rfl | exact Or.inr rfl) (pe_op op_rep (pe_lst (pa_cons pe_int pa_nil)) (pv 2)))
      (pss_cons (ps_set (i := 4) sc_law.nd rfl (by first | exact Or.inl rfl | exact Or.inr rfl) (pe_make0 T.mk_Explorer (ok_Explorer_init T) (hr.mono (by decide)) (by rfl) T.mg_Explorer T.b_Explorer_init .nil pass0))
      (pss_cons (ps_for PassesOwn.never rfl (pi_range1 (by rfl) T.z_range (pa_cons (pe_callB (call_min2 rfl) (by rfl) T.z_min (by decide +kernel) (pa_cons (pe_op op_mulW (pv 2) (pv 2)) (pa_cons pe_int pa_nil))) pa_nil)) (pg_name (i := 5) sc_law.nd rfl (by first | exact Or.inl rfl | exact Or.inr rfl)) (pss_cons (ps_if (pt_not (pt_val (pe_meth0 (pv 4) T.cl_Explorer T.me_Explorer_begin (ok_Explorer_begin T) (hr.mono (by decide)) T.b_Explorer_begin .nil passL))) (pss_one (ps_ret pe_bl)) pss_nil)
      (pss_cons (ps_set (i := 6) sc_law.nd rfl (by first | exact Or.inl rfl | exact Or.inr rfl) (pe_meth (pv 4) T.cl_Explorer T.me_Explorer_pick (ok_Explorer_pick T) (hr.mono (by decide)) T.b_Explorer_pick .nil pass0 (pa_cons (pv 3) pa_nil)))
      (pss_one (ps_expr (pe_meth (pv 4) T.cl_Explorer T.me_Explorer_end (ok_Explorer_end T) (hr.mono (by decide)) T.b_Explorer_end .nil pass0 (pa_cons (pe_op op_add (pe_op op_mulW (pv 6) (pv 2)) (pe_meth (pv 4) T.cl_Explorer T.me_Explorer_pick (ok_Explorer_pick T) (hr.mono (by decide)) T.b_Explorer_pick .nil pass0 (pa_cons (pv 3) pa_nil))) pa_nil)))))))
      (pss_cons (ps_if (pt_cmpR op_eq (pv 2) pe_int (nomark _)) (pss_one (ps_ret (pe_and (pe_cmpR op_eq (pe_meth0 (pv 4) T.cl_Explorer T.me_Explorer_runs (ok_Explorer_runs T) (hr.mono (by decide)) T.b_Explorer_runs .nil pass0) pe_int (nomark _)) (pe_one (pe_cmpR op_eq (pe_call (ok__law_limit T) (hr.mono (by decide)) (by rfl) T.g__law_limit T.F__law_limit.kp T.b__law_limit .nil pass0 (pa_cons (pv 4) pa_nil)) pe_str (nomark _)))))) pss_nil)
      (pss_cons (ps_if (pt_val (pe_meth0 (pv 4) T.cl_Explorer T.me_Explorer_begin (ok_Explorer_begin T) (hr.mono (by decide)) T.b_Explorer_begin .nil passL)) (pss_one (ps_ret pe_bl)) pss_nil)
      (pss_one (ps_ret (pe_cmpR (op_eqD hr.units) (pe_meth0 (pv 4) T.cl_Explorer T.me_Explorer_gathered (ok_Explorer_gathered T) (hr.mono (by decide)) T.b_Explorer_gathered .nil passL) (pe_lc (own := [("number", 7)]) (g := gName 7) rfl sc_law.nd (pi_range1 (by rfl) T.z_range (pa_cons (pe_op op_mulW (pv 2) (pv 2)) pa_nil)) (blkOk_by (own := [("number", 7)]) (N := N_law) (sc := defScope s_law) (by decide +kernel)) (fun _ _ _ _ _ => (pg_name (i := 7) sc_law.nd rfl (by first | exact Or.inl rfl | exact Or.inr rfl))) (fun _ _ _ _ _ => pts_nil) (fun _ _ _ _ _ => (pe_tup (pa_cons (pv 7) (pa_cons (pe_call (ok__law_low T) (hr.mono (by decide)) (by rfl) T.g__law_low T.F__law_low.kp T.b__law_low .nil pass0 (pa_cons pe_int (pa_cons (pe_op op_mulW (pv 2) (pv 2)) pa_nil))) pa_nil))))) (nomark _)))))))))))), ?_⟩
    walk_at "z0"
    walk_at "z"
    refine ⟨c, ns, rfl, hS, fun a p H1 na np k1 d1 => ?_⟩
    have T1 := tabs_kp hT k1
    walk_at "z"
    refine ⟨a, p, 12, rfl, d1, by decide, by decide, fun H2 v h0 h12 k2 d2 => ?_⟩
    have T2 := deck_tabs T1 d1 k2
    walk_at "z"
    refine Z.seqJ (fun σ' H' => ∃ n : Nat, 1 ≤ n ∧ (n ≤ 12 ∨ n = 142) ∧ σ' = [some (.ref c), some (.ref a), some (.int (n : Int)), none, none, none, none, none] ∧ Tabs [(T.P_law_from, LQ)] H') ?_ ?_
    · rintro σ' H3 ⟨n, hn1, hn, rfl, T3⟩
      have hn2 : n ≤ 1000 := by omega
      walk_at "z"
      refine Z.lstK (fun o H4 no k4 e4 => ?_)
      walk_at "z"
      refine ⟨o, _, [.int 1], rfl, rfl, e4, by omega, by omega, by rw [Int.toNat_natCast]; exact Nat.le_trans (show 1 * n ≤ 100000 by omega) (by decide), fun b nb => ?_⟩
      rw [ones_rep]
      have k5 : Kp [] H4 (upd H4 b (.lst (onesV n))) := Kp.new nb
      have e5 : upd H4 b (.lst (onesV n)) b = some (.lst (onesV n)) := upd_same
      have T5 := tabs_kp (tabs_kp T3 k4) k5
      generalize upd H4 b (.lst (onesV n)) = H5 at k5 e5 T5 ⊢
      walk_at "z"
      refine fun e dx ne nd hde => ⟨e, dx, rfl, upd_same, fun H7 pp ww np7 nw7 hpw k7 hX7 => ⟨rfl, ?_⟩⟩
      have k57 : Kp [] H5 H7 := (Kp.made (M := []) ne nd).then1 k7 ne
      have T7 := tabs_kp T5 k57
      have e7 := k57.get nin0 e5
      walk_at "z"
      have hnb : ((n : Int)).natAbs < 2 ^ 10 := by omega
      have hmul : CMulW (n : Int) (n : Int) := mul_ok hnb hnb
      refine Z.iC hmul ?_
      walk_at "z"
      refine ⟨_, _, rfl, ?_⟩
      have hnn : ((n : Int) * (n : Int)) = ((n * n : Nat) : Int) := by rw [Int.natCast_mul]
      rw [hnn]
      have hsq : n * n ≤ 20164 := by
        rcases hn with h | rfl
        · have := Nat.mul_le_mul h h
          omega
        · decide
      obtain ⟨M, hM, hM1, hM2⟩ : ∃ M : Nat, (if (20000 : Int) < ((n * n : Nat) : Int) then (20000 : Int) else ((n * n : Nat) : Int)) = (M : Int) ∧ M ≤ n * n ∧ M = min (n * n) 20000 := by
        refine ⟨min (n * n) 20000, ?_, Nat.min_le_left _ _, rfl⟩
        split <;> omega
      refine Z.forr M hM (by omega) (fun t σ' H' => ∃ (pp ww : Addr) (ps : List PI) (rs : List LRow) (m : Nat) (y5 y6 : Option V), σ' = [some (.ref c), some (.ref a), some (.int (n : Int)), some (.ref b), some (.ref e), y5, y6, none] ∧ Tabs [(T.P_law_from, LQ)] H' ∧ H' b = some (.lst (onesV n)) ∧ Ex K T.C_Explorer n H' e pp ww ps rs m false false ∧ rs.map LRow.dat = rowsD n t ∧ ps.map PI.dat = pathD n t) ?_ ?_ ?_
      · exact ⟨pp, ww, [], [], 0, _, _, rfl, T7, e7, hX7 n, rfl, rfl⟩
      · rintro t σ' H8 ht ⟨p8, w8, ps8, rs8, m8, y5, y6, rfl, T8, b8, hX8, hr8, hp8⟩
        have htn : t < n * n := by omega
        have hlen8 : rs8.length = t := by
          have := congrArg List.length hr8
          rwa [List.length_map, rowsD_len] at this
        obtain ⟨hps, hbd⟩ := begin_next hn1 htn hp8 hr8
        obtain ⟨dx8, he8⟩ := hX8.ob
        walk_at "z"
        refine ⟨e, dx8, _, rfl, he8, by rfl, ?_⟩
        walk_at "z"
        refine ⟨e, p8, w8, n, ps8, rs8, m8, false, rfl, hn1, hn2, hX8, hps, fun hno => ?_, fun D hD hlen => ?_, fun D hD hlen H9 p9 ps9 k9 hX9 np9 hd9 => ?_⟩
        · rw [hbd] at hno
          cases hno
        · omega
        · rw [hbd] at hD
          obtain rfl := Option.some.inj hD
          have T9 := hX8.keepT k9 (by simp) T8
          have b9 := hX8.keepW hn1 k9 (by simp) b8
          have hl9 : ps9.length ≤ 2 := by
            have h1 := next_len (n := n) (t := t)
            rw [← hd9, List.length_map] at h1
            exact h1
          have hc9 : FrB 1000 (chB n ps9) ∧ (chB n ps9).2 ≠ 0 := by
            rw [chB_D, hd9]
            exact chD_next hn1 hn2
          obtain ⟨dx9, he9⟩ := hX9.ob
          walk_at "z"
          refine ⟨e, dx9, _, rfl, he9, by rfl, ?_⟩
          walk_at "z"
          refine ⟨e, p9, w8, b, n, ps9, rs8, 0, true, false, rfl, hn1, hn2, hX9, b9, by omega, by omega, hc9.1, hc9.2, fun H10 ps10 x10 k10 hX10 hx10 ho10 => ?_⟩
          have T10 := hX9.keepT k10 (by simp) T9
          have b10 := hX9.keepW hn1 k10 (by simp) b9
          obtain ⟨hk10, hd10, hl10, hl10'⟩ := pick_one hn1 hd9 hx10 ho10
          have hc10 : FrB 1000 (chB n ps10) ∧ (chB n ps10).2 ≠ 0 := by
            rw [chB_D, hd10]
            exact chD_mid hn1 hn2
          obtain ⟨dx10, he10⟩ := hX10.ob
          walk_at "z"
          refine ⟨e, dx10, _, rfl, he10, by rfl, ?_⟩
          walk_at "z"
          have hkb : ((x10.k : Int)).natAbs < 2 ^ 10 := by
            have := (hX10.items x10 (List.mem_of_getElem? hx10)).lt
            omega
          refine Z.iC (mul_ok hkb hnb) ?_
          walk_at "z"
          refine ⟨e, dx10, _, rfl, he10, by rfl, ?_⟩
          walk_at "z"
          refine ⟨e, p9, w8, b, n, ps10, rs8, 1, true, false, rfl, hn1, hn2, hX10, b10, by omega, by omega, hc10.1, hc10.2, fun H11 ps11 x11 k11 hX11 hx11 ho11 => ?_⟩
          have T11 := hX10.keepT k11 (by simp) T10
          have b11 := hX10.keepW hn1 k11 (by simp) b10
          obtain ⟨hk11, hd11⟩ := pick_two hn1 hd10 hx11 ho11
          walk_at "z"
          refine ⟨e, p9, w8, n, ps11, rs8, 2, true, false, _, rfl, hn1, hn2, hX11, by omega, fun H12 r k12 hX12 hd12 => ?_⟩
          have T12 := hX11.keepT k12 (by simp) T11
          have b12 := hX11.keepW hn1 k12 (by simp) b11
          walk_at "z"
          refine ⟨p9, w8, ps11, rs8 ++ [r], 2, _, _, rfl, T12, b12, hX12, ?_, hd11⟩
          rw [List.map_append, hr8, rowsD_succ, List.map_cons, List.map_nil, hd12, chB_D, hd11]
          have ed := at_div (n := n) (t := t)
          rw [hk10, hk11]
          rw [show (((t / n : Nat) : Int) * (n : Int) + ((t % n : Nat) : Int)) = (t : Int) by rw [← Int.natCast_mul, ← Int.natCast_add, ed]]
          unfold pathD
          rw [if_neg (by omega), Nat.add_sub_cancel]
          rfl
      · rintro σ' H8 ⟨p8, w8, ps8, rs8, m8, y5, y6, rfl, T8, b8, hX8, hr8, hp8⟩
        walk_at "z"
        have hlen8 : rs8.length = M := by
          have := congrArg List.length hr8
          rwa [List.length_map, rowsD_len] at this
        obtain ⟨dx8, he8⟩ := hX8.ob
        refine Z.ite (fun h142 => ?_) (fun h142 => ?_)
        · obtain rfl : n = 142 := by omega
          have hMe : M = 20000 := by rw [hM2]; decide
          subst hMe
          obtain ⟨hps, hbd⟩ := begin_next hn1 (by decide) hp8 hr8
          walk_at "z"
          refine ⟨e, dx8, _, rfl, he8, by rfl, ?_⟩
          walk_at "z"
          refine ⟨e, p8, w8, 142, ps8, rs8, m8, false, false, rfl, hX8, ?_⟩
          rw [hlen8]
          walk_at "z"
          refine Z.yes (p := ((20000 : Nat) : Int) = 20000) (by decide) ?_
          walk_at "z"
          refine ⟨e, p8, w8, 142, ps8, rs8, m8, false, _, rfl, hn1, hn2, hX8, hps, hbd, hlen8, fun H9 => ?_⟩
          walk_at "z"
          rw [decide_eq_true (rfl : ("runs" : Str) = "runs")]
          exact q _
        · have hn12 : n ≤ 12 := by omega
          have hMe : M = n * n := by
            have := Nat.mul_le_mul hn12 hn12
            omega
          subst hMe
          obtain ⟨hps, hbd⟩ := begin_none hn1 hp8 hr8
          walk_at "z"
          refine ⟨e, dx8, _, rfl, he8, by rfl, ?_⟩
          walk_at "z"
          refine ⟨e, p8, w8, n, ps8, rs8, m8, false, rfl, hn1, hn2, hX8, hps, fun _ H9 k9 hX9 => ?_, fun D hD => ?_, fun D hD => ?_⟩
          · have T9 := hX8.keepT k9 (by simp) T8
            obtain ⟨dx9, he9⟩ := hX9.ob
            obtain ⟨hL, hch⟩ := law_in hn1 (by omega) hr8 hX9.rat
            walk_at "z"
            refine ⟨e, dx9, _, rfl, he9, by rfl, ?_⟩
            walk_at "z"
            refine ⟨e, p8, w8, n, ps8, rs8, m8, false, rfl, hX9, T9, hL, hch, fun H10 g out e10 hg hout hdat => ?_⟩
            rw [rows_law hn1 hn2 hr8] at hdat
            walk_at "z"
            refine Z.iC hmul ?_
            rw [hnn]
            refine Z.lcr (n * n) rfl (by omega) (fun D i H' => ∃ res : List LRow, Kp [] H10 H' ∧ H' D = some (.lst (res.map LRow.r)) ∧ (∀ r ∈ res, LRowAt K H' r) ∧ res.map LRow.dat = rowsD n i) ?_ ?_ ?_
            · intro D H11 nD k11 e11
              exact ⟨[], k11, e11, by simp, rfl⟩
            · rintro D i H11 nD hi ⟨res, k11, e11, A11, d11⟩
              have hrl : res.length = i := by
                have := congrArg List.length d11
                rwa [List.length_map, rowsD_len] at this
              dsimp only [wipe, List.set]
              walk_at "z"
              refine ⟨rfl, ?_⟩
              walk_at "z"
              refine Z.iC hmul ?_
              walk_at "z"
              refine ⟨1, _, rfl, by omega, ?_, fun H12 f nf k12 e12 => ?_⟩
              · exact up_B (mul_B hnb hnb) (by decide)
              · rw [← g_is hn1 hn2] at e12
                walk_at "z"
                refine Z.tupK (fun t H13 nt k13 e13 => ?_)
                have e13D := (k12.trans k13).get nin0 e11
                have kD : Kp [D] H13 (upd H13 D (.lst (res.map LRow.r ++ [.ref t]))) := Kp.put (by simp)
                refine ⟨_, e13D, Z.szl (m := 100000) (by rw [List.length_map]; omega), res ++ [⟨t, .int (i : Int), .int (i : Int), f, gN2 n⟩], (k11.trans (k12.trans k13)).mut nD rfl, by rw [upd_same, rmap_snoc], fun x hx => ?_, ?_⟩
                · rcases List.mem_append.mp hx with hx | hx
                  · exact ((A11 x hx).kp0 (k12.trans k13)).kpl kD e13D
                  · rw [List.mem_singleton.mp hx]
                    exact LRowAt.kpl (r := ⟨t, .int (i : Int), .int (i : Int), f, gN2 n⟩) ⟨tupT e13, .int _, e12.kp0 k13, ⟨rfl, by simp [PyData.depth], by simp [SeqAt.shaped, PyData.canLay0, PyData.depth]⟩⟩ kD e13D
                · rw [List.map_append, d11, rowsD_succ]
                  rfl
            · rintro D H11 nD ⟨res, k11, e11, A11, d11⟩
              walk_at "z"
              refine eqRows (k11.get nin0 hg) e11 (fun r hr => (hout r hr).kp0 k11) A11 hdat d11 ?_
              exact q _
          · rw [hbd] at hD
            cases hD
          · rw [hbd] at hD
            cases hD
    · intro N jn
      walk_at "z"
      refine ⟨a, p, 40, rfl, d2, by decide, by decide, fun H3 v3 h30 h31 k3 d3 => ?_⟩
      have T3 := deck_tabs T2 d2 k3
      walk_at "z"
      refine Z.ite (fun h1 => ?_) (fun h1 => ?_)
      · walk_at "z"
        exact jn _ _ ⟨142, by decide, .inr rfl, rfl, T3⟩
      · walk_at "z"
        obtain ⟨m, rfl⟩ : ∃ m : Nat, v = (m : Int) := ⟨v.toNat, by omega⟩
        exact jn _ _ ⟨1 + m, by omega, .inl (by omega), rfl, T3⟩
end law14b

set_option maxHeartbeats 4000000 in
theorem all_mk {l : PySem.W.OpenLaw} {w : World} {K : PySem.W.Frag} {h : Heap} {mg : Str → Option Value} {fa : Addr} {ts : List Addr} (X : K.In h) (G : h.Ns mainGlobals mg) (hts : ∀ P ∈ ts, h.get? P = some (PySem.W.tabObj #[])) (hfa : mg "law" = some (.ref fa))
    {CSamphireError : Addr}
    {CTooLarge fTooLarge cTooLarge ccTooLarge : Addr}
    {CZeroDenominator fZeroDenominator cZeroDenominator ccZeroDenominator : Addr}
    {CInvalidLaw fInvalidLaw cInvalidLaw ccInvalidLaw : Addr}
    {CNotEnded fNotEnded cNotEnded ccNotEnded : Addr}
    {CExplorer : Addr}
    {od1 an1 : Option Addr} {sl1 : Array (Option Value)} {oc1 kV1 dc1 pm1 cd1 ct1 : Value} {f1 : Addr}
    {od2 an2 : Option Addr} {sl2 : Array (Option Value)} {oc2 kV2 dc2 pm2 cd2 ct2 : Value} {f2 : Addr}
    {od3 an3 : Option Addr} {sl3 : Array (Option Value)} {oc3 kV3 dc3 pm3 cd3 ct3 : Value} {f3 : Addr}
    {od4 an4 : Option Addr} {sl4 : Array (Option Value)} {oc4 kV4 dc4 pm4 cd4 ct4 : Value} {f4 : Addr}
    {od5 an5 : Option Addr} {sl5 : Array (Option Value)} {oc5 kV5 dc5 pm5 cd5 ct5 : Value} {f5 : Addr}
    {od6 an6 : Option Addr} {sl6 : Array (Option Value)} {oc6 kV6 dc6 pm6 cd6 ct6 : Value} {f6 : Addr}
    {od7 an7 : Option Addr} {sl7 : Array (Option Value)} {oc7 kV7 dc7 pm7 ct7 : Value} {f7 : Addr}
    {tc7 tP7 : Addr} {toc7 : Value} {tod7 : Option Addr} {tcv7 : List Value} {tsl7 : Array (Option Value)}
    {od8 an8 : Option Addr} {sl8 : Array (Option Value)} {oc8 kV8 dc8 pm8 cd8 ct8 : Value} {f8 : Addr}
    {od9 an9 : Option Addr} {sl9 : Array (Option Value)} {oc9 kV9 dc9 pm9 cd9 ct9 : Value} {f9 : Addr}
    {od10 an10 : Option Addr} {sl10 : Array (Option Value)} {oc10 kV10 dc10 pm10 cd10 ct10 : Value} {f10 : Addr}
    {od11 an11 : Option Addr} {sl11 : Array (Option Value)} {oc11 kV11 dc11 pm11 cd11 ct11 : Value} {f11 : Addr}
    {od12 an12 : Option Addr} {sl12 : Array (Option Value)} {oc12 kV12 dc12 pm12 cd12 ct12 : Value} {f12 : Addr}
    {od13 an13 : Option Addr} {sl13 : Array (Option Value)} {oc13 kV13 dc13 pm13 cd13 ct13 : Value} {f13 : Addr}
    {od14 an14 : Option Addr} {sl14 : Array (Option Value)} {oc14 kV14 dc14 pm14 cd14 ct14 : Value} {f14 : Addr}
    {od15 an15 : Option Addr} {sl15 : Array (Option Value)} {oc15 kV15 dc15 pm15 cd15 ct15 : Value} {f15 : Addr}
    {od16 an16 : Option Addr} {sl16 : Array (Option Value)} {oc16 kV16 dc16 pm16 cd16 ct16 : Value} {f16 : Addr}
    {od17 an17 : Option Addr} {sl17 : Array (Option Value)} {oc17 kV17 dc17 pm17 cd17 ct17 : Value} {f17 : Addr}
    {od18 an18 : Option Addr} {sl18 : Array (Option Value)} {oc18 kV18 dc18 pm18 cd18 ct18 : Value} {f18 : Addr}
    {od19 an19 : Option Addr} {sl19 : Array (Option Value)} {oc19 kV19 dc19 pm19 cd19 ct19 : Value} {f19 : Addr}
    {od20 an20 : Option Addr} {sl20 : Array (Option Value)} {oc20 kV20 dc20 pm20 cd20 ct20 : Value} {f20 : Addr}
    {od21 an21 : Option Addr} {sl21 : Array (Option Value)} {oc21 kV21 dc21 pm21 cd21 ct21 : Value} {f21 : Addr}
    {nmTooLarge qTooLarge : Str} {NTooLarge : Addr} {bsTooLarge : List Value} {snTooLarge : List Str} {subTooLarge : List Value} {abTooLarge : Bool} {colTooLarge : Option Bool} {ddTooLarge : Option Addr} {m0TooLarge m1TooLarge m2TooLarge m3TooLarge m5TooLarge : Option Value} {occTooLarge : Value} {cddTooLarge : Option Addr} {cvsTooLarge : List Value} {cslTooLarge : Array (Option Value)} {cclTooLarge : Value} {ccdTooLarge : Option Addr} {ccsTooLarge : Array (Option Value)} {ocTooLarge : Value} {odTooLarge : Option Addr} {oslTooLarge : Array (Option Value)} {docTooLarge pmTooLarge ctvTooLarge : Value}
    {nmZeroDenominator qZeroDenominator : Str} {NZeroDenominator : Addr} {bsZeroDenominator : List Value} {snZeroDenominator : List Str} {subZeroDenominator : List Value} {abZeroDenominator : Bool} {colZeroDenominator : Option Bool} {ddZeroDenominator : Option Addr} {m0ZeroDenominator m1ZeroDenominator m2ZeroDenominator m3ZeroDenominator m5ZeroDenominator : Option Value} {occZeroDenominator : Value} {cddZeroDenominator : Option Addr} {cvsZeroDenominator : List Value} {cslZeroDenominator : Array (Option Value)} {cclZeroDenominator : Value} {ccdZeroDenominator : Option Addr} {ccsZeroDenominator : Array (Option Value)} {ocZeroDenominator : Value} {odZeroDenominator : Option Addr} {oslZeroDenominator : Array (Option Value)} {docZeroDenominator pmZeroDenominator ctvZeroDenominator : Value}
    {nmInvalidLaw qInvalidLaw : Str} {NInvalidLaw : Addr} {bsInvalidLaw : List Value} {snInvalidLaw : List Str} {subInvalidLaw : List Value} {abInvalidLaw : Bool} {colInvalidLaw : Option Bool} {ddInvalidLaw : Option Addr} {m0InvalidLaw m1InvalidLaw m2InvalidLaw m3InvalidLaw m5InvalidLaw : Option Value} {occInvalidLaw : Value} {cddInvalidLaw : Option Addr} {cvsInvalidLaw : List Value} {cslInvalidLaw : Array (Option Value)} {cclInvalidLaw : Value} {ccdInvalidLaw : Option Addr} {ccsInvalidLaw : Array (Option Value)} {ocInvalidLaw : Value} {odInvalidLaw : Option Addr} {oslInvalidLaw : Array (Option Value)} {docInvalidLaw pmInvalidLaw ctvInvalidLaw : Value}
    {nmNotEnded qNotEnded : Str} {NNotEnded : Addr} {bsNotEnded : List Value} {snNotEnded : List Str} {subNotEnded : List Value} {abNotEnded : Bool} {colNotEnded : Option Bool} {ddNotEnded : Option Addr} {m0NotEnded m1NotEnded m2NotEnded m3NotEnded m5NotEnded : Option Value} {occNotEnded : Value} {cddNotEnded : Option Addr} {cvsNotEnded : List Value} {cslNotEnded : Array (Option Value)} {cclNotEnded : Value} {ccdNotEnded : Option Addr} {ccsNotEnded : Array (Option Value)} {ocNotEnded : Value} {odNotEnded : Option Addr} {oslNotEnded : Array (Option Value)} {docNotEnded pmNotEnded ctvNotEnded : Value}
    {t_MOST_RUNS : Tok}
    {k_ZERO : Addr} {od_ZERO : Option Addr} {nn_ZERO : Nat} {sl_ZERO : Array (Option Value)} {t0_ZERO t1_ZERO : Tok}
    {k_ONE : Addr} {od_ONE : Option Addr} {nn_ONE : Nat} {sl_ONE : Array (Option Value)} {t0_ONE t1_ONE : Tok}
    (a1 : PySem.W.nsIn K mainGlobals "lowest" = some (some (.ref f1)))
    (l1 : K.lookup f1 = some ⟨oc1, od1, .func (PySem.W.fnOf "lowest" "lowest" (defArgs s_lowest) (defBody s_lowest) (defScope s_lowest) .none kV1 dc1 pm1 an1 cd1 ct1), sl1⟩)
    (c1 : PySem.W.codeIn K cd1 "lowest" = true)
    (k1 : PySem.W.keepIn K (.ref f1) = true)
    (a2 : PySem.W.nsIn K mainGlobals "plus" = some (some (.ref f2)))
    (l2 : K.lookup f2 = some ⟨oc2, od2, .func (PySem.W.fnOf "plus" "plus" (defArgs s_plus) (defBody s_plus) (defScope s_plus) .none kV2 dc2 pm2 an2 cd2 ct2), sl2⟩)
    (c2 : PySem.W.codeIn K cd2 "plus" = true)
    (k2 : PySem.W.keepIn K (.ref f2) = true)
    (a3 : PySem.W.nsIn K mainGlobals "times" = some (some (.ref f3)))
    (l3 : K.lookup f3 = some ⟨oc3, od3, .func (PySem.W.fnOf "times" "times" (defArgs s_times) (defBody s_times) (defScope s_times) .none kV3 dc3 pm3 an3 cd3 ct3), sl3⟩)
    (c3 : PySem.W.codeIn K cd3 "times" = true)
    (k3 : PySem.W.keepIn K (.ref f3) = true)
    (a4 : PySem.W.nsIn K mainGlobals "less" = some (some (.ref f4)))
    (l4 : K.lookup f4 = some ⟨oc4, od4, .func (PySem.W.fnOf "less" "less" (defArgs s_less) (defBody s_less) (defScope s_less) .none kV4 dc4 pm4 an4 cd4 ct4), sl4⟩)
    (c4 : PySem.W.codeIn K cd4 "less" = true)
    (k4 : PySem.W.keepIn K (.ref f4) = true)
    (a5 : PySem.W.nsIn K mainGlobals "sum_of" = some (some (.ref f5)))
    (l5 : K.lookup f5 = some ⟨oc5, od5, .func (PySem.W.fnOf "sum_of" "sum_of" (defArgs s_sum_of) (defBody s_sum_of) (defScope s_sum_of) .none kV5 dc5 pm5 an5 cd5 ct5), sl5⟩)
    (c5 : PySem.W.codeIn K cd5 "sum_of" = true)
    (k5 : PySem.W.keepIn K (.ref f5) = true)
    (a6 : PySem.W.nsIn K mainGlobals "check_chances" = some (some (.ref f6)))
    (l6 : K.lookup f6 = some ⟨oc6, od6, .func (PySem.W.fnOf "check_chances" "check_chances" (defArgs s_check_chances) (defBody s_check_chances) (defScope s_check_chances) .none kV6 dc6 pm6 an6 cd6 ct6), sl6⟩)
    (c6 : PySem.W.codeIn K cd6 "check_chances" = true)
    (k6 : PySem.W.keepIn K (.ref f6) = true)
    (a7 : PySem.W.nsIn K mainGlobals "law_from" = some (some (.ref f7)))
    (l7 : K.lookup f7 = some ⟨oc7, od7, .func (PySem.W.fnOf "law_from" "law_from" (defArgs s_law_from) (defBody s_law_from) (defScope s_law_from) .none kV7 dc7 pm7 an7 (.ref tc7) ct7), sl7⟩)
    (c7 : PySem.W.codeIn K (.ref tc7) "law_from" = true)
    (k7 : PySem.W.keepIn K (.ref f7) = true)
    (tl7 : K.lookup tc7 = some ⟨toc7, tod7, .fields tcv7.toArray, tsl7⟩)
    (tp7 : tcv7[11]? = some (.ref tP7))
    (th7 : PySem.W.codeHdIn K tc7 tP7 = true) (tn7 : K.lookup tP7 = none)
    (tm7 : tP7 ∈ ts)
    (a8 : PySem.W.nsIn K mainGlobals "next_number" = some (some (.ref f8)))
    (l8 : K.lookup f8 = some ⟨oc8, od8, .func (PySem.W.fnOf "next_number" "next_number" (defArgs s_next_number) (defBody s_next_number) (defScope s_next_number) .none kV8 dc8 pm8 an8 cd8 ct8), sl8⟩)
    (c8 : PySem.W.codeIn K cd8 "next_number" = true)
    (k8 : PySem.W.keepIn K (.ref f8) = true)
    (a9 : PySem.W.nsIn K mainGlobals "chance_behind" = some (some (.ref f9)))
    (l9 : K.lookup f9 = some ⟨oc9, od9, .func (PySem.W.fnOf "chance_behind" "chance_behind" (defArgs s_chance_behind) (defBody s_chance_behind) (defScope s_chance_behind) .none kV9 dc9 pm9 an9 cd9 ct9), sl9⟩)
    (c9 : PySem.W.codeIn K cd9 "chance_behind" = true)
    (k9 : PySem.W.keepIn K (.ref f9) = true)
    (a10 : PySem.W.nsIn K mainGlobals "following" = some (some (.ref f10)))
    (l10 : K.lookup f10 = some ⟨oc10, od10, .func (PySem.W.fnOf "following" "following" (defArgs s_following) (defBody s_following) (defScope s_following) .none kV10 dc10 pm10 an10 cd10 ct10), sl10⟩)
    (c10 : PySem.W.codeIn K cd10 "following" = true)
    (k10 : PySem.W.keepIn K (.ref f10) = true)
    (a11 : PySem.W.findIn K (.ref CExplorer) "__init__" = some (some (.ref f11)))
    (i11 : PySem.W.isFn K (.ref f11) = true)
    (l11 : K.lookup f11 = some ⟨oc11, od11, .func (PySem.W.fnOf "__init__" "Explorer.__init__" (defArgs s_Explorer_init) (defBody s_Explorer_init) (defScope s_Explorer_init) .none kV11 dc11 pm11 an11 cd11 ct11), sl11⟩)
    (c11 : PySem.W.codeIn K cd11 "Explorer.__init__" = true)
    (k11 : PySem.W.keepIn K (.ref f11) = true)
    (a12 : PySem.W.findIn K (.ref CExplorer) "begin" = some (some (.ref f12)))
    (i12 : PySem.W.isFn K (.ref f12) = true)
    (l12 : K.lookup f12 = some ⟨oc12, od12, .func (PySem.W.fnOf "begin" "Explorer.begin" (defArgs s_Explorer_begin) (defBody s_Explorer_begin) (defScope s_Explorer_begin) .none kV12 dc12 pm12 an12 cd12 ct12), sl12⟩)
    (c12 : PySem.W.codeIn K cd12 "Explorer.begin" = true)
    (k12 : PySem.W.keepIn K (.ref f12) = true)
    (a13 : PySem.W.findIn K (.ref CExplorer) "pick" = some (some (.ref f13)))
    (i13 : PySem.W.isFn K (.ref f13) = true)
    (l13 : K.lookup f13 = some ⟨oc13, od13, .func (PySem.W.fnOf "pick" "Explorer.pick" (defArgs s_Explorer_pick) (defBody s_Explorer_pick) (defScope s_Explorer_pick) .none kV13 dc13 pm13 an13 cd13 ct13), sl13⟩)
    (c13 : PySem.W.codeIn K cd13 "Explorer.pick" = true)
    (k13 : PySem.W.keepIn K (.ref f13) = true)
    (a14 : PySem.W.findIn K (.ref CExplorer) "end" = some (some (.ref f14)))
    (i14 : PySem.W.isFn K (.ref f14) = true)
    (l14 : K.lookup f14 = some ⟨oc14, od14, .func (PySem.W.fnOf "end" "Explorer.end" (defArgs s_Explorer_end) (defBody s_Explorer_end) (defScope s_Explorer_end) .none kV14 dc14 pm14 an14 cd14 ct14), sl14⟩)
    (c14 : PySem.W.codeIn K cd14 "Explorer.end" = true)
    (k14 : PySem.W.keepIn K (.ref f14) = true)
    (a15 : PySem.W.findIn K (.ref CExplorer) "runs" = some (some (.ref f15)))
    (i15 : PySem.W.isFn K (.ref f15) = true)
    (l15 : K.lookup f15 = some ⟨oc15, od15, .func (PySem.W.fnOf "runs" "Explorer.runs" (defArgs s_Explorer_runs) (defBody s_Explorer_runs) (defScope s_Explorer_runs) .none kV15 dc15 pm15 an15 cd15 ct15), sl15⟩)
    (c15 : PySem.W.codeIn K cd15 "Explorer.runs" = true)
    (k15 : PySem.W.keepIn K (.ref f15) = true)
    (a16 : PySem.W.findIn K (.ref CExplorer) "gathered" = some (some (.ref f16)))
    (i16 : PySem.W.isFn K (.ref f16) = true)
    (l16 : K.lookup f16 = some ⟨oc16, od16, .func (PySem.W.fnOf "gathered" "Explorer.gathered" (defArgs s_Explorer_gathered) (defBody s_Explorer_gathered) (defScope s_Explorer_gathered) .none kV16 dc16 pm16 an16 cd16 ct16), sl16⟩)
    (c16 : PySem.W.codeIn K cd16 "Explorer.gathered" = true)
    (k16 : PySem.W.keepIn K (.ref f16) = true)
    (a17 : PySem.W.nsIn K mainGlobals "_law_deck" = some (some (.ref f17)))
    (l17 : K.lookup f17 = some ⟨oc17, od17, .func (PySem.W.fnOf "_law_deck" "_law_deck" (defArgs s__law_deck) (defBody s__law_deck) (defScope s__law_deck) .none kV17 dc17 pm17 an17 cd17 ct17), sl17⟩)
    (c17 : PySem.W.codeIn K cd17 "_law_deck" = true)
    (k17 : PySem.W.keepIn K (.ref f17) = true)
    (a18 : PySem.W.nsIn K mainGlobals "_law_draw" = some (some (.ref f18)))
    (l18 : K.lookup f18 = some ⟨oc18, od18, .func (PySem.W.fnOf "_law_draw" "_law_draw" (defArgs s__law_draw) (defBody s__law_draw) (defScope s__law_draw) .none kV18 dc18 pm18 an18 cd18 ct18), sl18⟩)
    (c18 : PySem.W.codeIn K cd18 "_law_draw" = true)
    (k18 : PySem.W.keepIn K (.ref f18) = true)
    (a19 : PySem.W.nsIn K mainGlobals "_law_low" = some (some (.ref f19)))
    (l19 : K.lookup f19 = some ⟨oc19, od19, .func (PySem.W.fnOf "_law_low" "_law_low" (defArgs s__law_low) (defBody s__law_low) (defScope s__law_low) .none kV19 dc19 pm19 an19 cd19 ct19), sl19⟩)
    (c19 : PySem.W.codeIn K cd19 "_law_low" = true)
    (k19 : PySem.W.keepIn K (.ref f19) = true)
    (a20 : PySem.W.nsIn K mainGlobals "_law_limit" = some (some (.ref f20)))
    (l20 : K.lookup f20 = some ⟨oc20, od20, .func (PySem.W.fnOf "_law_limit" "_law_limit" (defArgs s__law_limit) (defBody s__law_limit) (defScope s__law_limit) .none kV20 dc20 pm20 an20 cd20 ct20), sl20⟩)
    (c20 : PySem.W.codeIn K cd20 "_law_limit" = true)
    (k20 : PySem.W.keepIn K (.ref f20) = true)
    (a21 : PySem.W.nsIn K mainGlobals "law" = some (some (.ref f21)))
    (l21 : K.lookup f21 = some ⟨oc21, od21, .func (PySem.W.fnOf "law" "law" (defArgs s_law) (defBody s_law) (defScope s_law) .none kV21 dc21 pm21 an21 cd21 ct21), sl21⟩)
    (c21 : PySem.W.codeIn K cd21 "law" = true)
    (k21 : PySem.W.keepIn K (.ref f21) = true)
    (aCSamphireError : PySem.W.nsIn K mainGlobals "SamphireError" = some (some (.ref CSamphireError)))
    (aCTooLarge : PySem.W.nsIn K mainGlobals "TooLarge" = some (some (.ref CTooLarge)))
    (iCTooLarge : PySem.W.findIn K (.ref CTooLarge) "__init__" = some (some (.ref fTooLarge)))
    (tITooLarge : PySem.W.typeIn K (.ref fTooLarge) = some (.type "function"))
    (lkTooLarge : K.lookup fTooLarge = some ⟨ocTooLarge, odTooLarge, .func ((NF_TooLarge ccTooLarge cTooLarge).fd docTooLarge pmTooLarge ctvTooLarge), oslTooLarge⟩)
    (hcTooLarge : PySem.W.codeIn K (.ref cTooLarge) "TooLarge.__init__" = true)
    (xLTooLarge : K.lookup CTooLarge = some (excClassObj nmTooLarge qTooLarge CTooLarge NTooLarge bsTooLarge [.ref CSamphireError, .type "ValueError", .type "Exception", .type "BaseException", .type "object"] true snTooLarge subTooLarge abTooLarge colTooLarge ddTooLarge m0TooLarge m1TooLarge m2TooLarge m3TooLarge m5TooLarge "ValueError.__new__"))
    (saTooLarge : PySem.W.findIn K (.ref CTooLarge) "__setattr__" = some (some (.builtin "object.__setattr__")))
    (sBTooLarge : PySem.W.subIn K (.ref CTooLarge) (.type "BaseException") = some true)
    (tCTooLarge : PySem.W.typeIn K (.ref CTooLarge) = some (.type "type"))
    (kCTooLarge : PySem.W.keepIn K (.ref CTooLarge) = true)
    (coTooLarge : K.lookup cTooLarge = some ⟨occTooLarge, cddTooLarge, .fields cvsTooLarge.toArray, cslTooLarge⟩)
    (flTooLarge : Sup.flIs cvsTooLarge l.prog.main.file = true)
    (ceTooLarge : K.lookup ccTooLarge = some ⟨cclTooLarge, ccdTooLarge, .cell (some (.ref CTooLarge)), ccsTooLarge⟩)
    (mrTooLarge : PySem.W.mroIn K CTooLarge (.ref CTooLarge) = some true)
    (sVTooLarge : PySem.W.subIn K (.ref CTooLarge) (.type "ValueError") = some true)
    (anTooLarge : PySem.W.nsIn K PySem.cStatics "thirdparty.any" = some none)
    (suTooLarge : PySem.W.ks_superIn K CTooLarge CTooLarge "__init__" = some (some (.builtin "ValueError.__init__")))
    (tpTooLarge : (l.prog.main.scope.names.lookup ("super" : Str)).isSome = false)
    (hgTooLarge : PySem.W.findIn K (.ref CTooLarge) "__getattribute__" = some (some (.builtin "BaseException.__getattribute__")))
    (hkTooLarge : PySem.W.findIn K (.ref CTooLarge) "__getattr__" = some none)
    (hdTooLarge : PySem.W.hasDictIn K CTooLarge = true)
    (haTooLarge : PySem.W.findIn K (.ref CTooLarge) "__class__" = some (some (.builtin "object.__class__")))
    (hnTooLarge : PySem.W.specialIn K (.builtin "object.__class__") "__get__" = some (some (.builtin "getset_descriptor.__get__")))
    (htTooLarge : PySem.W.takesIn K (.builtin "object.__class__") = some true)
    (hmTooLarge : PySem.W.mroIn K CTooLarge (.type "object") = some true)
    (icTooLarge : PySem.W.isClsIn K CTooLarge = true)
    (sCTooLarge : PySem.W.subIn K (.ref CTooLarge) (.ref CTooLarge) = some true)
    (nf_limit_TooLarge : PySem.W.findIn K (.ref CTooLarge) "limit" = some none)
    (aCZeroDenominator : PySem.W.nsIn K mainGlobals "ZeroDenominator" = some (some (.ref CZeroDenominator)))
    (iCZeroDenominator : PySem.W.findIn K (.ref CZeroDenominator) "__init__" = some (some (.ref fZeroDenominator)))
    (tIZeroDenominator : PySem.W.typeIn K (.ref fZeroDenominator) = some (.type "function"))
    (lkZeroDenominator : K.lookup fZeroDenominator = some ⟨ocZeroDenominator, odZeroDenominator, .func ((NF_ZeroDenominator ccZeroDenominator cZeroDenominator).fd docZeroDenominator pmZeroDenominator ctvZeroDenominator), oslZeroDenominator⟩)
    (hcZeroDenominator : PySem.W.codeIn K (.ref cZeroDenominator) "ZeroDenominator.__init__" = true)
    (xLZeroDenominator : K.lookup CZeroDenominator = some (excClassObj nmZeroDenominator qZeroDenominator CZeroDenominator NZeroDenominator bsZeroDenominator [.ref CSamphireError, .type "ValueError", .type "Exception", .type "BaseException", .type "object"] true snZeroDenominator subZeroDenominator abZeroDenominator colZeroDenominator ddZeroDenominator m0ZeroDenominator m1ZeroDenominator m2ZeroDenominator m3ZeroDenominator m5ZeroDenominator "ValueError.__new__"))
    (saZeroDenominator : PySem.W.findIn K (.ref CZeroDenominator) "__setattr__" = some (some (.builtin "object.__setattr__")))
    (sBZeroDenominator : PySem.W.subIn K (.ref CZeroDenominator) (.type "BaseException") = some true)
    (tCZeroDenominator : PySem.W.typeIn K (.ref CZeroDenominator) = some (.type "type"))
    (kCZeroDenominator : PySem.W.keepIn K (.ref CZeroDenominator) = true)
    (coZeroDenominator : K.lookup cZeroDenominator = some ⟨occZeroDenominator, cddZeroDenominator, .fields cvsZeroDenominator.toArray, cslZeroDenominator⟩)
    (flZeroDenominator : Sup.flIs cvsZeroDenominator l.prog.main.file = true)
    (ceZeroDenominator : K.lookup ccZeroDenominator = some ⟨cclZeroDenominator, ccdZeroDenominator, .cell (some (.ref CZeroDenominator)), ccsZeroDenominator⟩)
    (mrZeroDenominator : PySem.W.mroIn K CZeroDenominator (.ref CZeroDenominator) = some true)
    (sVZeroDenominator : PySem.W.subIn K (.ref CZeroDenominator) (.type "ValueError") = some true)
    (anZeroDenominator : PySem.W.nsIn K PySem.cStatics "thirdparty.any" = some none)
    (suZeroDenominator : PySem.W.ks_superIn K CZeroDenominator CZeroDenominator "__init__" = some (some (.builtin "ValueError.__init__")))
    (tpZeroDenominator : (l.prog.main.scope.names.lookup ("super" : Str)).isSome = false)
    (hgZeroDenominator : PySem.W.findIn K (.ref CZeroDenominator) "__getattribute__" = some (some (.builtin "BaseException.__getattribute__")))
    (hkZeroDenominator : PySem.W.findIn K (.ref CZeroDenominator) "__getattr__" = some none)
    (hdZeroDenominator : PySem.W.hasDictIn K CZeroDenominator = true)
    (haZeroDenominator : PySem.W.findIn K (.ref CZeroDenominator) "__class__" = some (some (.builtin "object.__class__")))
    (hnZeroDenominator : PySem.W.specialIn K (.builtin "object.__class__") "__get__" = some (some (.builtin "getset_descriptor.__get__")))
    (htZeroDenominator : PySem.W.takesIn K (.builtin "object.__class__") = some true)
    (hmZeroDenominator : PySem.W.mroIn K CZeroDenominator (.type "object") = some true)
    (icZeroDenominator : PySem.W.isClsIn K CZeroDenominator = true)
    (sCZeroDenominator : PySem.W.subIn K (.ref CZeroDenominator) (.ref CZeroDenominator) = some true)
    (aCInvalidLaw : PySem.W.nsIn K mainGlobals "InvalidLaw" = some (some (.ref CInvalidLaw)))
    (iCInvalidLaw : PySem.W.findIn K (.ref CInvalidLaw) "__init__" = some (some (.ref fInvalidLaw)))
    (tIInvalidLaw : PySem.W.typeIn K (.ref fInvalidLaw) = some (.type "function"))
    (lkInvalidLaw : K.lookup fInvalidLaw = some ⟨ocInvalidLaw, odInvalidLaw, .func ((NF_InvalidLaw ccInvalidLaw cInvalidLaw).fd docInvalidLaw pmInvalidLaw ctvInvalidLaw), oslInvalidLaw⟩)
    (hcInvalidLaw : PySem.W.codeIn K (.ref cInvalidLaw) "InvalidLaw.__init__" = true)
    (xLInvalidLaw : K.lookup CInvalidLaw = some (excClassObj nmInvalidLaw qInvalidLaw CInvalidLaw NInvalidLaw bsInvalidLaw [.ref CSamphireError, .type "ValueError", .type "Exception", .type "BaseException", .type "object"] true snInvalidLaw subInvalidLaw abInvalidLaw colInvalidLaw ddInvalidLaw m0InvalidLaw m1InvalidLaw m2InvalidLaw m3InvalidLaw m5InvalidLaw "ValueError.__new__"))
    (saInvalidLaw : PySem.W.findIn K (.ref CInvalidLaw) "__setattr__" = some (some (.builtin "object.__setattr__")))
    (sBInvalidLaw : PySem.W.subIn K (.ref CInvalidLaw) (.type "BaseException") = some true)
    (tCInvalidLaw : PySem.W.typeIn K (.ref CInvalidLaw) = some (.type "type"))
    (kCInvalidLaw : PySem.W.keepIn K (.ref CInvalidLaw) = true)
    (coInvalidLaw : K.lookup cInvalidLaw = some ⟨occInvalidLaw, cddInvalidLaw, .fields cvsInvalidLaw.toArray, cslInvalidLaw⟩)
    (flInvalidLaw : Sup.flIs cvsInvalidLaw l.prog.main.file = true)
    (ceInvalidLaw : K.lookup ccInvalidLaw = some ⟨cclInvalidLaw, ccdInvalidLaw, .cell (some (.ref CInvalidLaw)), ccsInvalidLaw⟩)
    (mrInvalidLaw : PySem.W.mroIn K CInvalidLaw (.ref CInvalidLaw) = some true)
    (sVInvalidLaw : PySem.W.subIn K (.ref CInvalidLaw) (.type "ValueError") = some true)
    (anInvalidLaw : PySem.W.nsIn K PySem.cStatics "thirdparty.any" = some none)
    (suInvalidLaw : PySem.W.ks_superIn K CInvalidLaw CInvalidLaw "__init__" = some (some (.builtin "ValueError.__init__")))
    (tpInvalidLaw : (l.prog.main.scope.names.lookup ("super" : Str)).isSome = false)
    (hgInvalidLaw : PySem.W.findIn K (.ref CInvalidLaw) "__getattribute__" = some (some (.builtin "BaseException.__getattribute__")))
    (hkInvalidLaw : PySem.W.findIn K (.ref CInvalidLaw) "__getattr__" = some none)
    (hdInvalidLaw : PySem.W.hasDictIn K CInvalidLaw = true)
    (haInvalidLaw : PySem.W.findIn K (.ref CInvalidLaw) "__class__" = some (some (.builtin "object.__class__")))
    (hnInvalidLaw : PySem.W.specialIn K (.builtin "object.__class__") "__get__" = some (some (.builtin "getset_descriptor.__get__")))
    (htInvalidLaw : PySem.W.takesIn K (.builtin "object.__class__") = some true)
    (hmInvalidLaw : PySem.W.mroIn K CInvalidLaw (.type "object") = some true)
    (icInvalidLaw : PySem.W.isClsIn K CInvalidLaw = true)
    (sCInvalidLaw : PySem.W.subIn K (.ref CInvalidLaw) (.ref CInvalidLaw) = some true)
    (aCNotEnded : PySem.W.nsIn K mainGlobals "NotEnded" = some (some (.ref CNotEnded)))
    (iCNotEnded : PySem.W.findIn K (.ref CNotEnded) "__init__" = some (some (.ref fNotEnded)))
    (tINotEnded : PySem.W.typeIn K (.ref fNotEnded) = some (.type "function"))
    (lkNotEnded : K.lookup fNotEnded = some ⟨ocNotEnded, odNotEnded, .func ((NF_NotEnded ccNotEnded cNotEnded).fd docNotEnded pmNotEnded ctvNotEnded), oslNotEnded⟩)
    (hcNotEnded : PySem.W.codeIn K (.ref cNotEnded) "NotEnded.__init__" = true)
    (xLNotEnded : K.lookup CNotEnded = some (excClassObj nmNotEnded qNotEnded CNotEnded NNotEnded bsNotEnded [.ref CSamphireError, .type "ValueError", .type "Exception", .type "BaseException", .type "object"] true snNotEnded subNotEnded abNotEnded colNotEnded ddNotEnded m0NotEnded m1NotEnded m2NotEnded m3NotEnded m5NotEnded "ValueError.__new__"))
    (saNotEnded : PySem.W.findIn K (.ref CNotEnded) "__setattr__" = some (some (.builtin "object.__setattr__")))
    (sBNotEnded : PySem.W.subIn K (.ref CNotEnded) (.type "BaseException") = some true)
    (tCNotEnded : PySem.W.typeIn K (.ref CNotEnded) = some (.type "type"))
    (kCNotEnded : PySem.W.keepIn K (.ref CNotEnded) = true)
    (coNotEnded : K.lookup cNotEnded = some ⟨occNotEnded, cddNotEnded, .fields cvsNotEnded.toArray, cslNotEnded⟩)
    (flNotEnded : Sup.flIs cvsNotEnded l.prog.main.file = true)
    (ceNotEnded : K.lookup ccNotEnded = some ⟨cclNotEnded, ccdNotEnded, .cell (some (.ref CNotEnded)), ccsNotEnded⟩)
    (mrNotEnded : PySem.W.mroIn K CNotEnded (.ref CNotEnded) = some true)
    (sVNotEnded : PySem.W.subIn K (.ref CNotEnded) (.type "ValueError") = some true)
    (anNotEnded : PySem.W.nsIn K PySem.cStatics "thirdparty.any" = some none)
    (suNotEnded : PySem.W.ks_superIn K CNotEnded CNotEnded "__init__" = some (some (.builtin "ValueError.__init__")))
    (tpNotEnded : (l.prog.main.scope.names.lookup ("super" : Str)).isSome = false)
    (hgNotEnded : PySem.W.findIn K (.ref CNotEnded) "__getattribute__" = some (some (.builtin "BaseException.__getattribute__")))
    (hkNotEnded : PySem.W.findIn K (.ref CNotEnded) "__getattr__" = some none)
    (hdNotEnded : PySem.W.hasDictIn K CNotEnded = true)
    (haNotEnded : PySem.W.findIn K (.ref CNotEnded) "__class__" = some (some (.builtin "object.__class__")))
    (hnNotEnded : PySem.W.specialIn K (.builtin "object.__class__") "__get__" = some (some (.builtin "getset_descriptor.__get__")))
    (htNotEnded : PySem.W.takesIn K (.builtin "object.__class__") = some true)
    (hmNotEnded : PySem.W.mroIn K CNotEnded (.type "object") = some true)
    (icNotEnded : PySem.W.isClsIn K CNotEnded = true)
    (sCNotEnded : PySem.W.subIn K (.ref CNotEnded) (.ref CNotEnded) = some true)
    (aCExplorer : PySem.W.nsIn K mainGlobals "Explorer" = some (some (.ref CExplorer)))
    (pgExplorer : PySem.W.plainGet K CExplorer Str.empty = true) (hdExplorer : PySem.W.hasDictIn K CExplorer = true) (poExplorer : PySem.W.plainOver K CExplorer = true) (saExplorer : PySem.W.findIn K (.ref CExplorer) "__setattr__" = some (some (.builtin "object.__setattr__"))) (mkExplorer : PySem.W.makesIn K CExplorer = true) (kcExplorer : PySem.W.keepIn K (.ref CExplorer) = true)
    (nExplorer__path : PySem.W.findIn K (.ref CExplorer) "_path" = some none)
    (nExplorer__made : PySem.W.findIn K (.ref CExplorer) "_made" = some none)
    (nExplorer__running : PySem.W.findIn K (.ref CExplorer) "_running" = some none)
    (nExplorer__finished : PySem.W.findIn K (.ref CExplorer) "_finished" = some none)
    (nExplorer__rows : PySem.W.findIn K (.ref CExplorer) "_rows" = some none)
    (z_abs : PySem.W.nsIn K mainGlobals "abs" = some none)
    (z_int : PySem.W.nsIn K mainGlobals "int" = some none)
    (z_len : PySem.W.nsIn K mainGlobals "len" = some none)
    (z_list : PySem.W.nsIn K mainGlobals "list" = some none)
    (z_min : PySem.W.nsIn K mainGlobals "min" = some none)
    (z_range : PySem.W.nsIn K mainGlobals "range" = some none)
    (z_reversed : PySem.W.nsIn K mainGlobals "reversed" = some none)
    (z_sorted : PySem.W.nsIn K mainGlobals "sorted" = some none)
    (z_sum : PySem.W.nsIn K mainGlobals "sum" = some none)
    (z_super : PySem.W.nsIn K mainGlobals "super" = some none)
    (v_MOST_RUNS : PySem.W.nsIn K mainGlobals "MOST_RUNS" = some (some (.int (20000) t_MOST_RUNS)))
    (v_ZERO : PySem.W.nsIn K mainGlobals "ZERO" = some (some (.ref k_ZERO)))
    (l_ZERO : K.lookup k_ZERO = some ⟨.type "tuple", od_ZERO, .seq #[.int (0) t0_ZERO, .int (1) t1_ZERO] nn_ZERO, sl_ZERO⟩)
    (v_ONE : PySem.W.nsIn K mainGlobals "ONE" = some (some (.ref k_ONE)))
    (l_ONE : K.lookup k_ONE = some ⟨.type "tuple", od_ONE, .seq #[.int (1) t0_ONE, .int (1) t1_ONE] nn_ONE, sl_ONE⟩)
    (g_gcd : PySem.W.nsIn K mainGlobals "gcd" = some (some (.builtin "math.gcd"))) :
    LamX.LawAtS l w K (CX0) 9 63 "script" mg fa h := by
  have e : f21 = fa := by
    have e := hfa.symm.trans (PySem.W.mg_of X G a21)
    cases e
    rfl
  subst e
  have mk : ∀ base : Heap, (∀ p ∈ [(tc7, tP7)], LamX.TabB base mg p.1 p.2) → ∃ t : T l.prog K mg base, t.a_law = f21 ∧ t.fd_law = PySem.W.fnOf "law" "law" (defArgs s_law) (defBody s_law) (defScope s_law) .none kV21 dc21 pm21 an21 cd21 ct21 ∧ t.P_law_from = tP7 := fun base hTB => ⟨{
    a_lowest := f1, fd_lowest := _, F_lowest := fun_mk (st := s_lowest) l1 c1 k1, b_lowest := (fun_mk (st := s_lowest) l1 c1 k1).binds (ps := ["p", "q"]) (fun _ _ _ _ _ _ us hl => match us, hl with | [_, _], _ => rfl),
    g_lowest := PySem.W.mg_of X G a1,
    a_plus := f2, fd_plus := _, F_plus := fun_mk (st := s_plus) l2 c2 k2, b_plus := (fun_mk (st := s_plus) l2 c2 k2).binds (ps := ["a", "b"]) (fun _ _ _ _ _ _ us hl => match us, hl with | [_, _], _ => rfl),
    g_plus := PySem.W.mg_of X G a2,
    a_times := f3, fd_times := _, F_times := fun_mk (st := s_times) l3 c3 k3, b_times := (fun_mk (st := s_times) l3 c3 k3).binds (ps := ["a", "b"]) (fun _ _ _ _ _ _ us hl => match us, hl with | [_, _], _ => rfl),
    g_times := PySem.W.mg_of X G a3,
    a_less := f4, fd_less := _, F_less := fun_mk (st := s_less) l4 c4 k4, b_less := (fun_mk (st := s_less) l4 c4 k4).binds (ps := ["a", "b"]) (fun _ _ _ _ _ _ us hl => match us, hl with | [_, _], _ => rfl),
    g_less := PySem.W.mg_of X G a4,
    a_sum_of := f5, fd_sum_of := _, F_sum_of := fun_mk (st := s_sum_of) l5 c5 k5, b_sum_of := (fun_mk (st := s_sum_of) l5 c5 k5).binds (ps := ["fractions"]) (fun _ _ _ _ _ _ us hl => match us, hl with | [_], _ => rfl),
    g_sum_of := PySem.W.mg_of X G a5,
    a_check_chances := f6, fd_check_chances := _, F_check_chances := fun_mk (st := s_check_chances) l6 c6 k6, b_check_chances := (fun_mk (st := s_check_chances) l6 c6 k6).binds (ps := ["chances"]) (fun _ _ _ _ _ _ us hl => match us, hl with | [_], _ => rfl),
    g_check_chances := PySem.W.mg_of X G a6,
    c_law_from := tc7, P_law_from := tP7, TB_law_from := hTB (tc7, tP7) (by simp), L_law_from := ⟨_, _, _, _, _, _, _, _, rfl, l7, c7⟩,
    a_law_from := f7, fd_law_from := _, F_law_from := fun_mk (st := s_law_from) l7 c7 k7, b_law_from := (fun_mk (st := s_law_from) l7 c7 k7).binds (ps := ["rows"]) (fun _ _ _ _ _ _ us hl => match us, hl with | [_], _ => rfl),
    g_law_from := PySem.W.mg_of X G a7,
    a_next_number := f8, fd_next_number := _, F_next_number := fun_mk (st := s_next_number) l8 c8 k8, b_next_number := (fun_mk (st := s_next_number) l8 c8 k8).binds (ps := ["weights", "start"]) (fun _ _ _ _ _ _ us hl => match us, hl with | [_, _], _ => rfl),
    g_next_number := PySem.W.mg_of X G a8,
    a_chance_behind := f9, fd_chance_behind := _, F_chance_behind := fun_mk (st := s_chance_behind) l9 c9 k9, b_chance_behind := (fun_mk (st := s_chance_behind) l9 c9 k9).binds (ps := ["path"]) (fun _ _ _ _ _ _ us hl => match us, hl with | [_], _ => rfl),
    g_chance_behind := PySem.W.mg_of X G a9,
    a_following := f10, fd_following := _, F_following := fun_mk (st := s_following) l10 c10 k10, b_following := (fun_mk (st := s_following) l10 c10 k10).binds (ps := ["path"]) (fun _ _ _ _ _ _ us hl => match us, hl with | [_], _ => rfl),
    g_following := PySem.W.mg_of X G a10,
    a_Explorer_init := f11, fd_Explorer_init := _, F_Explorer_init := fun_mk (st := s_Explorer_init) l11 c11 k11, b_Explorer_init := (fun_mk (st := s_Explorer_init) l11 c11 k11).binds (ps := ["self"]) (fun _ _ _ _ _ _ us hl => match us, hl with | [_], _ => rfl),
    a_Explorer_begin := f12, fd_Explorer_begin := _, F_Explorer_begin := fun_mk (st := s_Explorer_begin) l12 c12 k12, b_Explorer_begin := (fun_mk (st := s_Explorer_begin) l12 c12 k12).binds (ps := ["self"]) (fun _ _ _ _ _ _ us hl => match us, hl with | [_], _ => rfl),
    a_Explorer_pick := f13, fd_Explorer_pick := _, F_Explorer_pick := fun_mk (st := s_Explorer_pick) l13 c13 k13, b_Explorer_pick := (fun_mk (st := s_Explorer_pick) l13 c13 k13).binds (ps := ["self", "weights"]) (fun _ _ _ _ _ _ us hl => match us, hl with | [_, _], _ => rfl),
    a_Explorer_end := f14, fd_Explorer_end := _, F_Explorer_end := fun_mk (st := s_Explorer_end) l14 c14 k14, b_Explorer_end := (fun_mk (st := s_Explorer_end) l14 c14 k14).binds (ps := ["self", "outcome"]) (fun _ _ _ _ _ _ us hl => match us, hl with | [_, _], _ => rfl),
    a_Explorer_runs := f15, fd_Explorer_runs := _, F_Explorer_runs := fun_mk (st := s_Explorer_runs) l15 c15 k15, b_Explorer_runs := (fun_mk (st := s_Explorer_runs) l15 c15 k15).binds (ps := ["self"]) (fun _ _ _ _ _ _ us hl => match us, hl with | [_], _ => rfl),
    a_Explorer_gathered := f16, fd_Explorer_gathered := _, F_Explorer_gathered := fun_mk (st := s_Explorer_gathered) l16 c16 k16, b_Explorer_gathered := (fun_mk (st := s_Explorer_gathered) l16 c16 k16).binds (ps := ["self"]) (fun _ _ _ _ _ _ us hl => match us, hl with | [_], _ => rfl),
    a__law_deck := f17, fd__law_deck := _, F__law_deck := fun_mk (st := s__law_deck) l17 c17 k17, b__law_deck := (fun_mk (st := s__law_deck) l17 c17 k17).binds (ps := ["script"]) (fun _ _ _ _ _ _ us hl => match us, hl with | [_], _ => rfl),
    g__law_deck := PySem.W.mg_of X G a17,
    a__law_draw := f18, fd__law_draw := _, F__law_draw := fun_mk (st := s__law_draw) l18 c18 k18, b__law_draw := (fun_mk (st := s__law_draw) l18 c18 k18).binds (ps := ["deck", "most"]) (fun _ _ _ _ _ _ us hl => match us, hl with | [_, _], _ => rfl),
    g__law_draw := PySem.W.mg_of X G a18,
    a__law_low := f19, fd__law_low := _, F__law_low := fun_mk (st := s__law_low) l19 c19 k19, b__law_low := (fun_mk (st := s__law_low) l19 c19 k19).binds (ps := ["p", "q"]) (fun _ _ _ _ _ _ us hl => match us, hl with | [_, _], _ => rfl),
    g__law_low := PySem.W.mg_of X G a19,
    a__law_limit := f20, fd__law_limit := _, F__law_limit := fun_mk (st := s__law_limit) l20 c20 k20, b__law_limit := (fun_mk (st := s__law_limit) l20 c20 k20).binds (ps := ["explorer"]) (fun _ _ _ _ _ _ us hl => match us, hl with | [_], _ => rfl),
    g__law_limit := PySem.W.mg_of X G a20,
    a_law := f21, fd_law := _, F_law := fun_mk (st := s_law) l21 c21 k21, b_law := (fun_mk (st := s_law) l21 c21 k21).binds (ps := ["script"]) (fun _ _ _ _ _ _ us hl => match us, hl with | [_], _ => rfl),
    g_law := PySem.W.mg_of X G a21,
    C_SamphireError := CSamphireError, mg_SamphireError := PySem.W.mg_of X G aCSamphireError,
    C_TooLarge := CTooLarge, a_TooLarge_init := fTooLarge, c_TooLarge := cTooLarge, cc_TooLarge := ccTooLarge, doc_TooLarge := docTooLarge, pm_TooLarge := pmTooLarge, ctv_TooLarge := ctvTooLarge, oc_TooLarge := ocTooLarge, od_TooLarge := odTooLarge, osl_TooLarge := oslTooLarge, lk_TooLarge := lkTooLarge, hc_TooLarge := hcTooLarge,
    x_TooLarge := Sup.excT_mk xLTooLarge rfl saTooLarge sBTooLarge tCTooLarge kCTooLarge coTooLarge flTooLarge ceTooLarge mrTooLarge sVTooLarge (PySem.W.mg_none_of X G z_super) anTooLarge suTooLarge tpTooLarge (PySem.W.mg_of X G aCTooLarge) iCTooLarge tITooLarge ⟨hgTooLarge, hkTooLarge, sBTooLarge, hdTooLarge, haTooLarge, hnTooLarge, htTooLarge, hmTooLarge⟩ icTooLarge sCTooLarge,
    bx_TooLarge := .all (fun us hl => match us, hl with | [_, _], _ => rfl),
    nf_TooLarge_limit := nf_limit_TooLarge,
    C_ZeroDenominator := CZeroDenominator, a_ZeroDenominator_init := fZeroDenominator, c_ZeroDenominator := cZeroDenominator, cc_ZeroDenominator := ccZeroDenominator, doc_ZeroDenominator := docZeroDenominator, pm_ZeroDenominator := pmZeroDenominator, ctv_ZeroDenominator := ctvZeroDenominator, oc_ZeroDenominator := ocZeroDenominator, od_ZeroDenominator := odZeroDenominator, osl_ZeroDenominator := oslZeroDenominator, lk_ZeroDenominator := lkZeroDenominator, hc_ZeroDenominator := hcZeroDenominator,
    x_ZeroDenominator := Sup.excT_mk xLZeroDenominator rfl saZeroDenominator sBZeroDenominator tCZeroDenominator kCZeroDenominator coZeroDenominator flZeroDenominator ceZeroDenominator mrZeroDenominator sVZeroDenominator (PySem.W.mg_none_of X G z_super) anZeroDenominator suZeroDenominator tpZeroDenominator (PySem.W.mg_of X G aCZeroDenominator) iCZeroDenominator tIZeroDenominator ⟨hgZeroDenominator, hkZeroDenominator, sBZeroDenominator, hdZeroDenominator, haZeroDenominator, hnZeroDenominator, htZeroDenominator, hmZeroDenominator⟩ icZeroDenominator sCZeroDenominator,
    bx_ZeroDenominator := .all (fun us hl => match us, hl with | [_], _ => rfl),
    C_InvalidLaw := CInvalidLaw, a_InvalidLaw_init := fInvalidLaw, c_InvalidLaw := cInvalidLaw, cc_InvalidLaw := ccInvalidLaw, doc_InvalidLaw := docInvalidLaw, pm_InvalidLaw := pmInvalidLaw, ctv_InvalidLaw := ctvInvalidLaw, oc_InvalidLaw := ocInvalidLaw, od_InvalidLaw := odInvalidLaw, osl_InvalidLaw := oslInvalidLaw, lk_InvalidLaw := lkInvalidLaw, hc_InvalidLaw := hcInvalidLaw,
    x_InvalidLaw := Sup.excT_mk xLInvalidLaw rfl saInvalidLaw sBInvalidLaw tCInvalidLaw kCInvalidLaw coInvalidLaw flInvalidLaw ceInvalidLaw mrInvalidLaw sVInvalidLaw (PySem.W.mg_none_of X G z_super) anInvalidLaw suInvalidLaw tpInvalidLaw (PySem.W.mg_of X G aCInvalidLaw) iCInvalidLaw tIInvalidLaw ⟨hgInvalidLaw, hkInvalidLaw, sBInvalidLaw, hdInvalidLaw, haInvalidLaw, hnInvalidLaw, htInvalidLaw, hmInvalidLaw⟩ icInvalidLaw sCInvalidLaw,
    bx_InvalidLaw := .all (fun us hl => match us, hl with | [_], _ => rfl),
    C_NotEnded := CNotEnded, a_NotEnded_init := fNotEnded, c_NotEnded := cNotEnded, cc_NotEnded := ccNotEnded, doc_NotEnded := docNotEnded, pm_NotEnded := pmNotEnded, ctv_NotEnded := ctvNotEnded, oc_NotEnded := ocNotEnded, od_NotEnded := odNotEnded, osl_NotEnded := oslNotEnded, lk_NotEnded := lkNotEnded, hc_NotEnded := hcNotEnded,
    x_NotEnded := Sup.excT_mk xLNotEnded rfl saNotEnded sBNotEnded tCNotEnded kCNotEnded coNotEnded flNotEnded ceNotEnded mrNotEnded sVNotEnded (PySem.W.mg_none_of X G z_super) anNotEnded suNotEnded tpNotEnded (PySem.W.mg_of X G aCNotEnded) iCNotEnded tINotEnded ⟨hgNotEnded, hkNotEnded, sBNotEnded, hdNotEnded, haNotEnded, hnNotEnded, htNotEnded, hmNotEnded⟩ icNotEnded sCNotEnded,
    bx_NotEnded := .all (fun us hl => match us, hl with | [_], _ => rfl),
    C_Explorer := CExplorer, cl_Explorer := ⟨pgExplorer, hdExplorer, poExplorer, saExplorer⟩, mg_Explorer := PySem.W.mg_of X G aCExplorer,
    mk_Explorer := ⟨mkExplorer, a11, i11, kcExplorer⟩,
    na_Explorer__path := nExplorer__path,
    na_Explorer__made := nExplorer__made,
    na_Explorer__running := nExplorer__running,
    na_Explorer__finished := nExplorer__finished,
    na_Explorer__rows := nExplorer__rows,
    me_Explorer_begin := ⟨a12, i12, k12⟩,
    me_Explorer_pick := ⟨a13, i13, k13⟩,
    me_Explorer_end := ⟨a14, i14, k14⟩,
    me_Explorer_runs := ⟨a15, i15, k15⟩,
    me_Explorer_gathered := ⟨a16, i16, k16⟩,
    z_abs := PySem.W.mg_none_of X G z_abs,
    z_int := PySem.W.mg_none_of X G z_int,
    z_len := PySem.W.mg_none_of X G z_len,
    z_list := PySem.W.mg_none_of X G z_list,
    z_min := PySem.W.mg_none_of X G z_min,
    z_range := PySem.W.mg_none_of X G z_range,
    z_reversed := PySem.W.mg_none_of X G z_reversed,
    z_sorted := PySem.W.mg_none_of X G z_sorted,
    z_sum := PySem.W.mg_none_of X G z_sum,
    z_super := PySem.W.mg_none_of X G z_super,
    v_MOST_RUNS := _, g_MOST_RUNS := PySem.W.mg_of X G v_MOST_RUNS, r_MOST_RUNS := ⟨_, rfl⟩,
    k_ZERO := k_ZERO, g_ZERO := PySem.W.mg_of X G v_ZERO, q_ZERO := fun H => .inr ⟨_, _, _, l_ZERO, rfl, rfl, (show 2 ≤ sizeLine by decide), (.cons ⟨_, rfl⟩ (.cons ⟨_, rfl⟩ .nil))⟩,
    k_ONE := k_ONE, g_ONE := PySem.W.mg_of X G v_ONE, q_ONE := fun H => .inr ⟨_, _, _, l_ONE, rfl, rfl, (show 2 ≤ sizeLine by decide), (.cons ⟨_, rfl⟩ (.cons ⟨_, rfl⟩ .nil))⟩,
    g_gcd := PySem.W.mg_of X G g_gcd }, rfl, rfl, rfl⟩
  refine ⟨PySem.W.fnOf "law" "law" (defArgs s_law) (defBody s_law) (defScope s_law) .none kV21 dc21 pm21 an21 cd21 ct21, [(tc7, tP7)], spLaw K tP7, List.forall_mem_cons.mpr ⟨hts _ tm7, fun _ h => nomatch h⟩, List.forall_mem_cons.mpr ⟨tn7, fun _ h => nomatch h⟩, List.forall_mem_cons.mpr ⟨PySem.W.codeHd_of_K X th7, fun _ h => nomatch h⟩, fun s v => .of_eq rfl, fun H a ns h1 h2 hT hS => spLaw_in H a ns h1 h2 (hT (tc7, tP7) (by simp)) hS, fun base KX G' hTB => ?_⟩
  obtain ⟨t, e1, e2, e3⟩ := mk base hTB
  have z := ok_law (w := w) t
  rw [e1, e2, e3] at z
  exact z

end K14
open PySem PySem.W PyProof.Rows in
set_option maxRecDepth 100000 in
set_option maxHeartbeats 0 in
theorem PySem.Challenge.cw_samphire_k14_most_runs_holds : PySem.Challenge.rw_samphire_k14_most_runs.Holds := by
  w_on; o_law; k_head; (case hw => w_witness2)
  k_fill
  refine LamX.walk_ofTs (l := PySem.Challenge.rw_samphire_k14_most_runs) (n := 63) (k := 9) (x := "script") (CX := fun w => L2.CX0) rfl (by decide) rfl ⟨rfl, by decide, by decide⟩ (fun w h Y => PySem.W.km_in_of Y) ?F (fun _ _ _ _ _ h => h)
  case F =>
    intro w mg fa h Y KX G hmg
    have hts := PySem.W.km_tabs_of Y
    refine' K14.all_mk KX G hts hmg ?a1 ?l1 ?c1 ?k1 ?a2 ?l2 ?c2 ?k2 ?a3 ?l3 ?c3 ?k3 ?a4 ?l4 ?c4 ?k4 ?a5 ?l5 ?c5 ?k5 ?a6 ?l6 ?c6 ?k6 ?a7 ?l7 ?c7 ?k7 ?tl7 ?tp7 ?th7 ?tn7 ?tm7 ?a8 ?l8 ?c8 ?k8 ?a9 ?l9 ?c9 ?k9 ?a10 ?l10 ?c10 ?k10 ?a11 ?i11 ?l11 ?c11 ?k11 ?a12 ?i12 ?l12 ?c12 ?k12 ?a13 ?i13 ?l13 ?c13 ?k13 ?a14 ?i14 ?l14 ?c14 ?k14 ?a15 ?i15 ?l15 ?c15 ?k15 ?a16 ?i16 ?l16 ?c16 ?k16 ?a17 ?l17 ?c17 ?k17 ?a18 ?l18 ?c18 ?k18 ?a19 ?l19 ?c19 ?k19 ?a20 ?l20 ?c20 ?k20 ?a21 ?l21 ?c21 ?k21 ?aCSamphireError ?aCTooLarge ?iCTooLarge ?tITooLarge ?lkTooLarge ?hcTooLarge ?xLTooLarge ?saTooLarge ?sBTooLarge ?tCTooLarge ?kCTooLarge ?coTooLarge ?flTooLarge ?ceTooLarge ?mrTooLarge ?sVTooLarge ?anTooLarge ?suTooLarge ?tpTooLarge ?hgTooLarge ?hkTooLarge ?hdTooLarge ?haTooLarge ?hnTooLarge ?htTooLarge ?hmTooLarge ?icTooLarge ?sCTooLarge ?nf_limit_TooLarge ?aCZeroDenominator ?iCZeroDenominator ?tIZeroDenominator ?lkZeroDenominator ?hcZeroDenominator ?xLZeroDenominator ?saZeroDenominator ?sBZeroDenominator ?tCZeroDenominator ?kCZeroDenominator ?coZeroDenominator ?flZeroDenominator ?ceZeroDenominator ?mrZeroDenominator ?sVZeroDenominator ?anZeroDenominator ?suZeroDenominator ?tpZeroDenominator ?hgZeroDenominator ?hkZeroDenominator ?hdZeroDenominator ?haZeroDenominator ?hnZeroDenominator ?htZeroDenominator ?hmZeroDenominator ?icZeroDenominator ?sCZeroDenominator ?aCInvalidLaw ?iCInvalidLaw ?tIInvalidLaw ?lkInvalidLaw ?hcInvalidLaw ?xLInvalidLaw ?saInvalidLaw ?sBInvalidLaw ?tCInvalidLaw ?kCInvalidLaw ?coInvalidLaw ?flInvalidLaw ?ceInvalidLaw ?mrInvalidLaw ?sVInvalidLaw ?anInvalidLaw ?suInvalidLaw ?tpInvalidLaw ?hgInvalidLaw ?hkInvalidLaw ?hdInvalidLaw ?haInvalidLaw ?hnInvalidLaw ?htInvalidLaw ?hmInvalidLaw ?icInvalidLaw ?sCInvalidLaw ?aCNotEnded ?iCNotEnded ?tINotEnded ?lkNotEnded ?hcNotEnded ?xLNotEnded ?saNotEnded ?sBNotEnded ?tCNotEnded ?kCNotEnded ?coNotEnded ?flNotEnded ?ceNotEnded ?mrNotEnded ?sVNotEnded ?anNotEnded ?suNotEnded ?tpNotEnded ?hgNotEnded ?hkNotEnded ?hdNotEnded ?haNotEnded ?hnNotEnded ?htNotEnded ?hmNotEnded ?icNotEnded ?sCNotEnded ?aCExplorer ?pgExplorer ?hdExplorer ?poExplorer ?saExplorer ?mkExplorer ?kcExplorer ?nExplorer__path ?nExplorer__made ?nExplorer__running ?nExplorer__finished ?nExplorer__rows ?z_abs ?z_int ?z_len ?z_list ?z_min ?z_range ?z_reversed ?z_sorted ?z_sum ?z_super ?v_MOST_RUNS ?v_ZERO ?l_ZERO ?v_ONE ?l_ONE ?g_gcd
    (case aCSamphireError => k_is)
    (case aCTooLarge => k_is)
    (case aCZeroDenominator => k_is)
    (case aCInvalidLaw => k_is)
    (case aCNotEnded => k_is)
    (case aCExplorer => k_is)
    (case a1 => k_is)
    (case l1 => k_is)
    (case c1 => k_is)
    (case k1 => k_is)
    (case a2 => k_is)
    (case l2 => k_is)
    (case c2 => k_is)
    (case k2 => k_is)
    (case a3 => k_is)
    (case l3 => k_is)
    (case c3 => k_is)
    (case k3 => k_is)
    (case a4 => k_is)
    (case l4 => k_is)
    (case c4 => k_is)
    (case k4 => k_is)
    (case a5 => k_is)
    (case l5 => k_is)
    (case c5 => k_is)
    (case k5 => k_is)
    (case a6 => k_is)
    (case l6 => k_is)
    (case c6 => k_is)
    (case k6 => k_is)
    (case a7 => k_is)
    (case l7 => k_is)
    (case c7 => k_is)
    (case k7 => k_is)
    (case tl7 => k_is)
    (case tp7 => first | rfl | kernel_rfl)
    (case th7 => first | kernel_rfl | decide +kernel)
    (case tn7 => first | rfl | kernel_rfl)
    (case tm7 => simp)
    (case a8 => k_is)
    (case l8 => k_is)
    (case c8 => k_is)
    (case k8 => k_is)
    (case a9 => k_is)
    (case l9 => k_is)
    (case c9 => k_is)
    (case k9 => k_is)
    (case a10 => k_is)
    (case l10 => k_is)
    (case c10 => k_is)
    (case k10 => k_is)
    (case a11 => k_is)
    (case i11 => k_is)
    (case l11 => k_is)
    (case c11 => k_is)
    (case k11 => k_is)
    (case a12 => k_is)
    (case i12 => k_is)
    (case l12 => k_is)
    (case c12 => k_is)
    (case k12 => k_is)
    (case a13 => k_is)
    (case i13 => k_is)
    (case l13 => k_is)
    (case c13 => k_is)
    (case k13 => k_is)
    (case a14 => k_is)
    (case i14 => k_is)
    (case l14 => k_is)
    (case c14 => k_is)
    (case k14 => k_is)
    (case a15 => k_is)
    (case i15 => k_is)
    (case l15 => k_is)
    (case c15 => k_is)
    (case k15 => k_is)
    (case a16 => k_is)
    (case i16 => k_is)
    (case l16 => k_is)
    (case c16 => k_is)
    (case k16 => k_is)
    (case a17 => k_is)
    (case l17 => k_is)
    (case c17 => k_is)
    (case k17 => k_is)
    (case a18 => k_is)
    (case l18 => k_is)
    (case c18 => k_is)
    (case k18 => k_is)
    (case a19 => k_is)
    (case l19 => k_is)
    (case c19 => k_is)
    (case k19 => k_is)
    (case a20 => k_is)
    (case l20 => k_is)
    (case c20 => k_is)
    (case k20 => k_is)
    (case a21 => k_is)
    (case l21 => k_is)
    (case c21 => k_is)
    (case k21 => k_is)
    (case iCTooLarge => k_is)
    (case tITooLarge => k_is)
    (case lkTooLarge => k_is)
    (case hcTooLarge => k_is)
    (case xLTooLarge => k_is)
    (case saTooLarge => k_is)
    (case sBTooLarge => k_is)
    (case tCTooLarge => k_is)
    (case kCTooLarge => k_is)
    (case coTooLarge => k_is)
    (case flTooLarge => first | rfl | decide +kernel)
    (case ceTooLarge => k_is)
    (case mrTooLarge => first | rfl | k_is)
    (case sVTooLarge => k_is)
    (case anTooLarge => k_is)
    (case suTooLarge => ks_is)
    (case tpTooLarge => first | rfl | decide +kernel)
    (case hgTooLarge => k_is)
    (case hkTooLarge => k_is)
    (case hdTooLarge => k_is)
    (case haTooLarge => k_is)
    (case hnTooLarge => k_is)
    (case htTooLarge => k_is)
    (case hmTooLarge => k_is)
    (case icTooLarge => k_is)
    (case sCTooLarge => first | rfl | k_is)
    (case nf_limit_TooLarge => k_is)
    (case iCZeroDenominator => k_is)
    (case tIZeroDenominator => k_is)
    (case lkZeroDenominator => k_is)
    (case hcZeroDenominator => k_is)
    (case xLZeroDenominator => k_is)
    (case saZeroDenominator => k_is)
    (case sBZeroDenominator => k_is)
    (case tCZeroDenominator => k_is)
    (case kCZeroDenominator => k_is)
    (case coZeroDenominator => k_is)
    (case flZeroDenominator => first | rfl | decide +kernel)
    (case ceZeroDenominator => k_is)
    (case mrZeroDenominator => first | rfl | k_is)
    (case sVZeroDenominator => k_is)
    (case anZeroDenominator => k_is)
    (case suZeroDenominator => ks_is)
    (case tpZeroDenominator => first | rfl | decide +kernel)
    (case hgZeroDenominator => k_is)
    (case hkZeroDenominator => k_is)
    (case hdZeroDenominator => k_is)
    (case haZeroDenominator => k_is)
    (case hnZeroDenominator => k_is)
    (case htZeroDenominator => k_is)
    (case hmZeroDenominator => k_is)
    (case icZeroDenominator => k_is)
    (case sCZeroDenominator => first | rfl | k_is)
    (case iCInvalidLaw => k_is)
    (case tIInvalidLaw => k_is)
    (case lkInvalidLaw => k_is)
    (case hcInvalidLaw => k_is)
    (case xLInvalidLaw => k_is)
    (case saInvalidLaw => k_is)
    (case sBInvalidLaw => k_is)
    (case tCInvalidLaw => k_is)
    (case kCInvalidLaw => k_is)
    (case coInvalidLaw => k_is)
    (case flInvalidLaw => first | rfl | decide +kernel)
    (case ceInvalidLaw => k_is)
    (case mrInvalidLaw => first | rfl | k_is)
    (case sVInvalidLaw => k_is)
    (case anInvalidLaw => k_is)
    (case suInvalidLaw => ks_is)
    (case tpInvalidLaw => first | rfl | decide +kernel)
    (case hgInvalidLaw => k_is)
    (case hkInvalidLaw => k_is)
    (case hdInvalidLaw => k_is)
    (case haInvalidLaw => k_is)
    (case hnInvalidLaw => k_is)
    (case htInvalidLaw => k_is)
    (case hmInvalidLaw => k_is)
    (case icInvalidLaw => k_is)
    (case sCInvalidLaw => first | rfl | k_is)
    (case iCNotEnded => k_is)
    (case tINotEnded => k_is)
    (case lkNotEnded => k_is)
    (case hcNotEnded => k_is)
    (case xLNotEnded => k_is)
    (case saNotEnded => k_is)
    (case sBNotEnded => k_is)
    (case tCNotEnded => k_is)
    (case kCNotEnded => k_is)
    (case coNotEnded => k_is)
    (case flNotEnded => first | rfl | decide +kernel)
    (case ceNotEnded => k_is)
    (case mrNotEnded => first | rfl | k_is)
    (case sVNotEnded => k_is)
    (case anNotEnded => k_is)
    (case suNotEnded => ks_is)
    (case tpNotEnded => first | rfl | decide +kernel)
    (case hgNotEnded => k_is)
    (case hkNotEnded => k_is)
    (case hdNotEnded => k_is)
    (case haNotEnded => k_is)
    (case hnNotEnded => k_is)
    (case htNotEnded => k_is)
    (case hmNotEnded => k_is)
    (case icNotEnded => k_is)
    (case sCNotEnded => first | rfl | k_is)
    (case pgExplorer => k_is)
    (case hdExplorer => k_is)
    (case poExplorer => k_is)
    (case saExplorer => k_is)
    (case mkExplorer => k_is)
    (case kcExplorer => k_is)
    (case nExplorer__path => k_is)
    (case nExplorer__made => k_is)
    (case nExplorer__running => k_is)
    (case nExplorer__finished => k_is)
    (case nExplorer__rows => k_is)
    (case z_abs => k_is)
    (case z_int => k_is)
    (case z_len => k_is)
    (case z_list => k_is)
    (case z_min => k_is)
    (case z_range => k_is)
    (case z_reversed => k_is)
    (case z_sorted => k_is)
    (case z_sum => k_is)
    (case z_super => k_is)
    (case v_MOST_RUNS => k_is)
    (case v_ZERO => k_is)
    (case l_ZERO => k_is)
    (case v_ONE => k_is)
    (case l_ONE => k_is)
    (case g_gcd => k_is)
