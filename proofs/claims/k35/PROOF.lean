import PyProof.Rows.All
import Wide.All
import OpenK.AllK
import Wide.FinOn
import HandS.ForMost
import HandS.ForExc
import HandS.EndBits
import HandS.Wide
import HandS.IsInst
import HandS.ExcInit
import HandS.Nested
import KE.KExcSuper
import HandS.ExcIs
import HandS.ExcField
import HandS.ClsMeth
import HandS.WordsExc
import HandS.Gcd
import HandS.Rev
import HandS.Walk
import HandS.Style
import HandS.FStr
import HandS.TryOnly
import KE.GoesEnumKw
import HandS.Text
import HandS.SortInts
import HandS.More
import HandS.Deep
import HandS.StrMore
import HandS.TryMany
import KE.SortData
import KE.SortKeyHeap
import HandS.RevRange
import HandS.Lambda
import HandS.EndTab
import PyProof.Rows.TupSub
import HandS.SortKw
import KE.KDictKeyed
import KE.KSortKey
import HandS.DictComp
import PySem.Challenge.RW_samphire_k35_whole_unordered_estimates
set_option Elab.async false
set_option linter.all false
set_option maxRecDepth 100000

set_option exponentiation.threshold 100000
/-! ### an own exception whose __init__ begins with super().__init__(..) -/
namespace Sup
open PySem PySem.Spec PyProof.Rows L2 NdefX
/-- what the written part says of such a class (at C), of its __init__ (at f; its code at c, its cell of the class at cc) -/
structure SupC (P : Program) (K : PySem.W.Frag) (mg : Str → Option Value) (C f c cc : Addr) : Prop where
  T : OexC K C
  cd : ∃ cd, PySem.W.clsIn K C = some cd
  code : ∃ occ cdd vs sl file tf, K.lookup c = some ⟨occ, cdd, .fields vs, sl⟩ ∧ vs[2]? = some (.str file tf) ∧ ((P.main.file : Str) == file) = true
  cell : ∃ cl cld sl, K.lookup cc = some ⟨cl, cld, .cell (some (.ref C)), sl⟩
  sub : PySem.W.mroIn K C (.ref C) = some true
  subV : PySem.W.subIn K (.ref C) (.type "ValueError") = some true
  zs : mg "super" = none
  any : PySem.W.nsIn K PySem.cStatics "thirdparty.any" = some none
  sup : PySem.W.ks_superIn K C C "__init__" = some (some (.builtin "ValueError.__init__"))
  top : (P.main.scope.names.lookup ("super" : Str)).isSome = false
section
variable {CX : CXT} {P : Program} {w : World} {K : PySem.W.Frag} {mg : Str → Option Value} {base : Heap} {N ps : List Str} {F : NF} {f C cc : Addr} {k : Nat} {sp : Sp}
/-- the body's first statement -/
abbrev supSt (arg : Expr) (p0 p1 p2 p3 p4 : Pos) : Stmt := .Expr (.Call (.Attribute (.Call (.Name "super" p0) [] [] p1) "__init__" p2) [arg] [] p3) p4
theorem callW {M : Model} {A : Around} {E : Value → Shared → Prop} {s : Shared} {i : String} {u x : Addr} {pos : Pos} {env : Env} {e : Expr} {Q : Value → Shared → Prop} (he : starEach [e] env = (false, eval e env) :: starEach [] env)
    (h : wpAny M A (spliced (backTo pos (starEach [e] env))) (fun vs s₁ => PySem.W.KxsAt i u x s₁.heap ∧ wpAny M A (call (.ref u) vs) Q E s₁) E s) : wpAny M A (callWith pos (.ref u) [] (backTo pos (starEach [e] env)) []) Q E s := by
  rw [he] at h ⊢
  refine PySem.W.kxs_callWith (i := i) (x := x) rfl ?_
  exact PySem.Calls.evalArgs_plain h
theorem fn_super {oc : Value} {od : Option Addr} {osl : Array (Option Value)} {doc pm ctv : Value} {arg : Expr} {rest : List Stmt} {p0 p1 p2 p3 p4 : Pos} {p : Str} {ps' : List Str}
    (T : SupC P K mg C f F.c cc) (lk : K.lookup f = some ⟨oc, od, .func (F.fd doc pm ctv), osl⟩) (hcl : F.cl = [(("__class__" : Str), cc)]) (hcd : PySem.W.codeIn K (.ref F.c) F.qual = true) (S : NScope N ps ["__class__"] F.scope) (hps : ps = p :: ps')
    (hpar : ∃ ar, (F.params.posonlyargs ++ F.params.args).head? = some ar ∧ ar.arg = p) (hsu : F.scope.names.lookup ("super" : Str) = some .globalImplicit) (hbd : F.body = supSt arg p0 p1 p2 p3 p4 :: rest)
    (hsw : ∀ L : Addr, swapsWith (.Call (.Attribute (.Call (.Name "super" p0) [] [] p1) "__init__" p2) [arg] [] p3) none p4.line (envF F f L) = pure false)
    (hev : ∀ L : Addr, ∃ pl, eval (.Call (.Attribute (.Call (.Name "super" p0) [] [] p1) "__init__" p2) [arg] [] p3) (envF F f L) = (do
        let ov ← attributeBase (.Call (.Name "super" p0) [] [] p1) "__init__" (envF F f L) (eval (.Call (.Name "super" p0) [] [] p1) (envF F f L))
        standAt p2.atName
        let (f', first) ← holding [ov] (getMethod ov "__init__" pl)
        callWith p3 f' first (backTo p3 (starEach [arg] (envF F f L))) []))
    (hst : ∀ L : Addr, starEach [arg] (envF F f L) = (false, eval arg (envF F f L)) :: starEach [] (envF F f L))
    (len : ∀ vs H Q E, sp vs H Q E → vs.length = ps.length)
    (hbody : ∀ (A : Around) (outer : List Env) (s : Shared) (H : Hp) (vs : List V) (Q : VK) (E : XK), Room k (A.deeper (envF F f s.heap.objs.size)) → sp vs H Q E →
      ∃ a vs' ta t, vs = .ref a :: vs' ∧ H a = some (exo a C none) ∧ PA (ncx CX P w K mg base N F f A outer s H E) [arg] ta ∧ PSs (ncx CX P w K mg base N F f A outer s H E) rest t ∧
        ta (startF N vs [none]) H (fun ws H1 => ws.length ≤ 1000 ∧ H1 a = some (exo a C none) ∧ t { nx := fun _ H' => Q .non H', rt := Q } (startF N vs [none]) H1)) :
    FnOk P w K mg base CX (k + 1) f (F.fd doc pm ctv) ps sp := by
  refine ⟨len, fun A outer s H args us vs Q E hr e0 hb r hsp => ?_⟩
  have KX : K.In s.heap := e0.mod.kin.keeps fun b o e => (e0.bs b o e).1
  have hl := len _ _ _ _ hsp
  have lim : s.heap.NoLimit := e0.mod.nolimit.keeps fun b o e => (e0.bs b o e).1
  refine codeAny_call_function hr.depth (KX _ _ lk) rfl S.co S.gen rfl (PySem.W.codeRec_of KX hcd) (hb _ _ _ _ ?_)
  refine wpAny_newFunctionEnv S.nocell (fun ⟨n, _⟩ hy => S.par n (List.of_mem_zip hy).1) (fun h₁ hns hsb => ⟨lim.fresh _ hsb, ?_⟩) S.kind
  show codeAny _ _ (.func F.body (envF F f s.heap.objs.size)) _ _
  refine PySem.ks_codeAny_funcAt ?_
  have kp : ∀ b o, s.heap.get? b = some o → h₁.get? b = some o := fun b o e => hsb.extBut b o (Nat.ne_of_lt (Heap.lt_size e)) (Heap.get?_push_of_some _ e)
  obtain ⟨a, vs', ta, t, hvs, ha, hta, ht, hq⟩ := hbody A outer s H vs Q E (hr.deeper _) hsp
  obtain ⟨cl, cld, csl, hcell⟩ := T.cell
  have hbc : base.get? cc = some ⟨cl, cld, .cell (some (.ref C)), csl⟩ := e0.mod.kin _ _ hcell
  have hlook : ∀ {y : Str} {c : Addr}, F.cl.lookup y = some c → y = "__class__" ∧ c = cc := fun {y c} e => by
    rw [hcl] at e
    by_cases hy : y = "__class__"
    · subst hy
      rw [show List.lookup ("__class__" : Str) [(("__class__" : Str), cc)] = some cc by simp [List.lookup]] at e
      exact ⟨rfl, (Option.some.inj e).symm⟩
    · have hb : (y == ("__class__" : Str)) = false := by simpa using hy
      rw [show List.lookup y [(("__class__" : Str), cc)] = none by simp [List.lookup, hb]] at e
      cases e
  have hlk : F.cl.lookup ("__class__" : Str) = some cc := by rw [hcl]; simp [List.lookup]
  have CA : CellsAt F.cl ["__class__"] [none] s.heap H := {
    len := rfl
    all := fun y c e => by
      obtain ⟨_, rfl⟩ := hlook e
      exact ⟨(e0.bs _ _ hbc).2, _, ⟨_, (e0.bs _ _ hbc).1, rfl⟩⟩
    inj := fun x y c e1 e2 => (hlook e1).1.trans (hlook e2).1.symm
    has := fun i y e => by
      match i, e with
      | 0, e =>
        have ey : ("__class__" : Str) = y := Option.some.inj e
        subst ey
        exact ⟨cc, hlk, fun v hv => by simp at hv⟩ }
  have I : Inv (ncx CX P w K mg base N F f A outer s H E) [] (startF N vs [none]) H { s with heap := h₁, toks := s.toks + (ps.zip us).length } := inv_startN S hr.hd e0 hl r CA hns kp
  have kI : K.In h₁ := KX.keeps kp
  have hN0 : N[0]? = some p := by
    have q := S.pre
    rw [hps] at q
    have z : (N.take ((p :: ps').length + 1))[0]? = some p := by
      have z := congrArg (fun l : List Str => l[0]?) q
      exact z
    rw [List.getElem?_take_of_lt (by simp)] at z
    exact z
  have hs0 : (startF N vs [none])[0]? = some (some (.ref a)) := by rw [hvs]; rfl
  have hploc : F.scope.names.lookup p = some .local := S.par p (by rw [hps]; exact List.mem_cons_self)
  obtain ⟨m, hnm, hlm⟩ := id I.loc
  obtain ⟨u0, ru0, hu0⟩ := hlm 0 p (.ref a) hN0 hs0 (.inl hploc)
  have eu0 : u0 = Value.ref a := ru0
  subst eu0
  have hself : m p = some (.ref a) := by
    rcases hu0 with ⟨_, z⟩ | ⟨z, _⟩
    · exact z
    · have z' : F.scope.names.lookup p = some .cell ∨ F.scope.names.lookup p = some .free := z
      rw [hploc] at z'
      rcases z' with z' | z' <;> cases z'
  obtain ⟨occ, cdd, cvs, csl2, file, tf, hcode, hvs2, hfile⟩ := T.code
  obtain ⟨cdD, hcdD⟩ := T.cd
  have hD : ∃ oD, h₁.get? C = some oD ∧ oD.data = .cls cdD := by
    have hD := hcdD
    unfold PySem.W.clsIn at hD
    split at hD
    · rename_i c d cd' sl ho
      cases hD
      exact ⟨_, kI _ _ ho, rfl⟩
    · cases hD
  obtain ⟨oD, hD1, hD2⟩ := hD
  obtain ⟨nm, q, N', bs, bm, sn, sub, ab, col, dd, k0, k1, k2, k3, k5, hC, hbm⟩ := T.T.cls
  obtain ⟨ar, har1, har2⟩ := hpar
  have hkc : F.scope.names.lookup ("__class__" : Str) = some .free := S.frk _ (by simp)
  obtain ⟨mb, hb1, hb2⟩ := I.mod.blt
  rw [hbd]
  obtain ⟨pl, he⟩ := hev s.heap.objs.size
  refine PySem.ks_wpAt_execs_cons (PySem.ks_wpAt_Expr_any (PySem.ks_wpAt_MethodCall (pl := pl) (PySem.ks_wpAt_super_base (fd := F.fd doc pm ctv) hsu hkc (by decide) rfl (kI _ _ lk) rfl har1 rfl (kI _ _ hcode) rfl hvs2 hfile T.top ?_) he) I.quiet (hsw _))
  -- the names
  refine PySem.W.ks_loadName_global S.kind hsu (Calls.loadGlobal_builtin (by exact I.mod.glob.keeps I.bk) T.zs (by exact hb1.keeps I.bk) ((hb2 _ (by decide)).trans (by decide +kernel)) ⟨rfl, ?_⟩)
  refine wpAny_loadName_free S.kind hkc hlk ⟨_, kI _ _ hcell, rfl⟩ ?_
  refine wpAny_loadName_local S.kind (by rw [har2]; exact hploc) hnm (by rw [har2]; exact hself) ?_
  refine PySem.ks_wpAny_isType_cls hD1 hD2 ⟨rfl, ?_⟩
  obtain ⟨t1, hox⟩ := exo_at I.hok ha
  refine PySem.ks_wpAny_call_super hD1 hD2 hox rfl (fun c e => by cases e) (PySem.W.looks_mroIn kI T.sub) (fun h' hso k' => ?_)
  have I2 : Inv (ncx CX P w K mg base N F f A outer s H E) [] (startF N vs [none]) H { s with heap := h', toks := s.toks + (ps.zip us).length } := I.kept (t' := s.toks + (ps.zip us).length) k'
  have kI2 : K.In h' := kI.keeps k'
  have hox2 : h'.get? a = some ({ cls := .ref C, dict := none, data := .fields #[.ref t1, .none, .none, .none, .bool false, .none] } : Obj) := k' _ _ hox
  have IA : PySem.W.InstAt h' a ({ cls := .ref C, dict := none, data := .fields #[.ref t1, .none, .none, .none, .bool false, .none] } : Obj) C none := ⟨hox2, rfl, rfl, trivial⟩
  have hal : PySem.W.alongIn K "__init__" ((cdD.mro.dropWhile (· != .ref C)).drop 1) = some (some (.builtin "ValueError.__init__")) := by
    have z := T.sup
    unfold PySem.W.ks_superIn at z
    rw [hcdD] at z
    exact z
  refine PySem.W.kxs_getMethod PySem.W.kxs_ValueError hso (PySem.W.looks_opaque kI2 T.any) (l₀ := cdD.mro) (fun A Q E s k q => wpAny_bind ((PySem.W.looks_clsIn kI2 hcdD) A _ E s k (wpAny_pure q))) rfl kI2 hal (IA.type.andThen (PySem.W.looks_subIn kI2 T.subV)) (PySem.W.ks_ne kI2 IA hcdD) (by decide) ?_
  -- the bound __init__ at u
  have ku : ∀ b o, h'.get? b = some o → (h'.push (PySem.W.kxs_mw "ValueError.__init__" a)).get? b = some o := fun b o e => Heap.get?_push_of_some _ e
  have I3 : Inv (ncx CX P w K mg base N F f A outer s H E) [] (startF N vs [none]) H { s with heap := h'.push (PySem.W.kxs_mw "ValueError.__init__" a), toks := s.toks + (ps.zip us).length + 1 } := I2.kept (t' := s.toks + (ps.zip us).length + 1) ku
  have hu : (h'.push (PySem.W.kxs_mw "ValueError.__init__" a)).get? h'.objs.size = some (PySem.W.kxs_mw "ValueError.__init__" a) := Heap.get?_push_at rfl rfl
  have I4 : Inv (ncx CX P w K mg base N F f A outer s H E) [(h'.objs.size, PySem.W.kxs_mw "ValueError.__init__" a)] (startF N vs [none]) H { s with heap := h'.push (PySem.W.kxs_mw "ValueError.__init__" a), toks := s.toks + (ps.zip us).length + 1 } := I3.pins_of fun p hp => by
    have hp1 := List.mem_singleton.mp hp
    subst hp1
    exact ⟨hu, I2.hok.fresh (Nat.le_refl _), fun z => absurd (z ▸ I2.lt) (Nat.lt_irrefl _), I2.nofs (Nat.le_refl _), fun v z => by cases z⟩
  refine callW (i := "ValueError.__init__") (x := a) (hst _) ?_
  refine thn (hta.run p3 _ _ _ H _ I4 hq) fun ws' s5 ⟨ws, H5, I5, r5, hlen, ha5, ht5⟩ => ?_
  have hu5 : s5.heap.get? h'.objs.size = some (PySem.W.kxs_mw "ValueError.__init__" a) := (I5.pin _ (List.mem_append_right _ (List.mem_singleton.mpr rfl))).1
  refine ⟨hu5, ?_⟩
  obtain ⟨t5, hox5⟩ := exo_at I5.hok ha5
  have hws : ws'.length ≤ sizeLine := by
    rw [← Paired.length r5, sizeLine_eq]
    omega
  have I6 : Inv (ncx CX P w K mg base N F f A outer s H E) [] (startF N vs [none]) H5 s5 := I5.pins_of fun p hp => absurd hp (by simp)
  obtain ⟨h5, g5, d5, k5', os5⟩ := s5
  have hC5 := I5.kIn _ _ hC
  show wpAny _ _ (call (.ref h'.objs.size) ws') _ _ _
  refine wpAny_call (codeAny_of_tree ?_)
  show wpAny _ _ (callAny (.ref h'.objs.size) ⟨ws', []⟩) _ _ _
  simp only [callAny]
  refine wpAny_bind (wpAny_load hu5 ?_)
  simp only [PySem.W.kxs_mw, show (Value.type "method-wrapper" == Value.type "method" || Value.type "method-wrapper" == Value.type "builtin_function_or_method" || Value.type "method-wrapper" == Value.type "method-wrapper") = true by decide, if_true]
  refine PySem.W.KFB.if_so (by decide) ?_
  refine wpAny_bind (PySem.W.check_bound_init PySem.F.excBase_ValueError.toExcCallFacts hC5 hox5 rfl ?_)
  refine wpAny_bind (wpAny_pure (wpAny_pure ?_))
  refine ⟨plainId_quiet PySem.F.excBase_ValueError.init.plain _, codeAny_builtin PySem.F.excBase_ValueError.initEntry ?_⟩
  refine PySem.W.exc_init_tree (cls := .ref C) (t0 := t5) (dv := none) (c2 := .none) (c3 := .none) (b4 := .bool false) hox5 hws (fun h6 k6 e6 _ => ?_)
  have J := I6.write (t' := k5') (x := a) (e := a) (o := exo a C none) (by rw [ha5]; exact True.intro) (.inl rfl) k6 ⟨_, e6⟩ (exo_ok e6)
  have eu : upd H5 a (exo a C none) = H5 := by
    funext b
    by_cases hb : b = a
    · rw [hb, upd_same, ha5]
    · rw [upd_ne hb]
  rw [eu] at J
  refine PySem.wpAt_of_wpAny (wpAny_mono (ht.run [] _ (startF N vs [none]) H5 _ J ht5) (fun fl s' hs => ?_) fun e s' hs => hs)
  have fin : ∀ {σ' : L2.St} {H' : Hp} {v : V} {u : Value}, Inv (ncx CX P w K mg base N F f A outer s H E) [] σ' H' s' → L2.RelV v u → Q v H' → CE outer P w H s Q u s' :=
    fun {σ' H' v u} J rv q => ⟨v, H', J.os, J.bare, J.base, J.hok, rv, q⟩
  cases fl with
  | ret u =>
    obtain ⟨v, σ', H', J, rv, q⟩ := hs
    exact fin J rv q
  | next =>
    obtain ⟨σ', H', J, q⟩ := hs
    exact fin (v := V.non) (u := Value.none) J rfl q
  | brk =>
    obtain ⟨_, _, _, q⟩ := hs
    exact False.elim q
  | cont =>
    obtain ⟨_, _, _, q⟩ := hs
    exact False.elim q
end
/-! ### an exception without fields, made -/
section
variable {X : Cx}
theorem mk_endN {pins : List (Addr × Obj)} {σ : L2.St} {H1 H2 : Hp} {Q : XK} {hp hp2 h2 : Heap} {g1 g2 : Array GenState} {d1 d2 : Drawn} {t1 t2 : Nat} {os1 os2 : OsState} {a C : Addr} (T : Raises X (.ref C)) (I1 : Inv X pins σ H1 ⟨hp, g1, d1, t1, os1⟩)
    (ha : hp.objs.size ≤ a) (k : ∀ b o, hp.get? b = some o → hp2.get? b = some o) (un : Un (frs X.stack) [] (upd H1 a (exo a C none)) H2 hp2 h2) (hok : HOk X.prog X.w H2 h2) (ho : os2 = os1) (hb : AllBare g2)
    (ea : H2 a = some (exo a C none)) (q : Q (.ref C) none (del H2 a)) : MkP X pins σ Q (.ref a) ⟨h2, g2, d2, t2, os2⟩ := by
  obtain ⟨t0, hoe⟩ := exo_at hok ea
  have hn : H1 a = none := I1.hok.fresh ha
  obtain ⟨G, g1', g2'⟩ := restrict h2 fun b => decide (b ≠ a)
  have gk : ∀ b, b ≠ a → G.get? b = h2.get? b := fun b hb => g1' b (decide_eq_true hb)
  have ge : G.get? a = none := g2' a (by simp)
  have nha : ∀ {b : Addr} {o : Obj}, hp.get? b = some o → b ≠ a := fun {b o} z => Nat.ne_of_lt (Nat.lt_of_lt_of_le (Heap.lt_size z) ha)
  have up : ∀ {b : Addr}, b ≠ a → H1 b = none → upd H1 a (exo a C none) b = none := fun {b} hb n => by rw [upd_ne hb]; exact n
  have U : Un (frs X.stack) [] H1 (del H2 a) hp G := {
    keep := fun b o z n hf hx => by
      rw [gk b (nha z)]
      exact un.keep b o (k b o z) (up (nha z) n) hf hx
    slot := fun b o z n hf hx => by
      rw [gk b (nha z)]
      exact un.slot b o (k b o z) (up (nha z) n) hf hx
    free := fun b o z n hx => by
      rw [del_ne (nha z)]
      exact un.free b o (k b o z) (up (nha z) n) hx
    there := fun b o z hx => by
      rw [gk b (nha z)]
      exact un.there b o (k b o z) hx
    tups := fun b xs z => by
      rw [del_ne (ne_of_none z hn)]
      exact un.tups b xs (by rw [upd_ne (ne_of_none z hn)]; exact z)
    frzs := fun b o v z => by
      rw [del_ne (ne_of_none z hn)]
      exact un.frzs b o v (by rw [upd_ne (ne_of_none z hn)]; exact z)
    tbls := fun b ps z => by
      rw [del_ne (ne_of_none z hn)]
      exact un.tbls b ps (by rw [upd_ne (ne_of_none z hn)]; exact z) }
  have hok3 : HOk X.prog X.w (del H2 a) G := fun b o z => by
    have hba : b ≠ a := fun e => by
      rw [e, del_same] at z
      cases z
    rw [del_ne hba] at z
    have noa : ∀ {c : Addr}, H2 c = some (.own b) → c ≠ a := fun {c} hc => at_ne ea hc exo_own
    exact (hok b o z).stay (fun c v hc y => by
        have hca : c ≠ a := by
          rcases hc with hc | hc
          · rw [hc]
            exact hba
          · exact noa hc
        rw [gk c hca]
        exact y)
      (fun c hc => by rw [del_ne (noa hc)]; exact hc) (fun c xs hc => by rw [del_ne (at_ne ea hc exo_tup)]; exact hc)
  have J : Inv X pins σ (del H2 a) ⟨G, g2, d2, t2, os2⟩ := I1.call' (ch := []) ho U hok3 hb (fun b z => absurd z (by simp))
  refine ⟨a, _, _, ⟨G, g2, d2, t2, os2⟩, _, .ref C, none, rfl, J, fun b o z => ?_, ge, hoe, ⟨rfl, rfl⟩, rfl, rfl, del_same, rfl, hb, T, q⟩
  by_cases hba : b = a
  · rw [hba, ge] at z
    cases z
  · exact (gk b hba).symm.trans z
/-- C(), C's own __init__ keeping sp and making no field -/
def tMkN (C : Addr) (sp : Sp) : L2.St → Hp → XK → Prop := fun _ H Q => ∀ a, H a = none → sp [.ref a] (upd H a (exo a C none)) (fun v H2 => v = .non ∧ H2 a = some (exo a C none) ∧ Q (.ref C) none (del H2 a)) (fun _ _ _ => False)
theorem pmk_oexN {CX : CXT} {x : Str} {C fI : Addr} {k : Nat} {fd : FuncData} {ps : List Str} {sp : Sp} {p pos : Pos} (T : OexC X.K C) (iC : PySem.W.findIn X.K (.ref C) "__init__" = some (some (.ref fI))) (tI : PySem.W.typeIn X.K (.ref fI) = some (.type "function"))
    (F1 : FnOk X.prog X.w X.K X.mg X.base CX k fI fd ps sp) (hr : Room (k + 1) X.A) (hb : Binds X.K fd ps []) (hx : Passes CX X (fun _ _ _ => False)) (hg : Gl X x) (hm : X.mg x = some (.ref C))
    (hdb : (x == ("__debug__" : Str)) = false := by decide) : PMk X (.Call (.Name x p) [] [] pos) (tMkN C sp) := by
  intro pins s σ H1 Q I1 q1
  obtain ⟨nm, q, N, bs, bm, sn, sub, ab, col, dd, k0, k1, k2, k3, k5, hC, hbm⟩ := T.cls
  refine wpAny_Call_Name_kw (ld_glob I1 hg hm ?_ hdb)
  refine PySem.W.callWith_K0 I1.kIn T.kC ?_
  show wpAny _ _ (call (.ref C) []) _ _ _
  obtain ⟨hp, g, dr, tk, os⟩ := s
  have hsz : hp.objs.size ≤ hp.objs.size + 1 := Nat.le_succ _
  have hn : H1 (hp.objs.size + 1) = none := I1.hok.fresh hsz
  have hq := q1 (hp.objs.size + 1) hn
  have kk : ∀ b o, hp.get? b = some o → ((hp.push (PySem.W.kdv_tup [])).push (PySem.HandSPX.excO C hp.objs.size)).get? b = some o := fun b o e => Heap.get?_push_of_some _ (Heap.get?_push_of_some _ e)
  have hget : ((hp.push (PySem.W.kdv_tup [])).push (PySem.HandSPX.excO C hp.objs.size)).get? (hp.objs.size + 1) = some (PySem.HandSPX.excO C hp.objs.size) := by heap_get
  have I2 : Inv X pins σ (upd H1 (hp.objs.size + 1) (exo (hp.objs.size + 1) C none)) ⟨(hp.push (PySem.W.kdv_tup [])).push (PySem.HandSPX.excO C hp.objs.size), g, dr, tk, os⟩ :=
    I1.laid (t' := tk) (a := hp.objs.size + 1) (o := exo (hp.objs.size + 1) C none) (h' := (hp.push (PySem.W.kdv_tup [])).push (PySem.HandSPX.excO C hp.objs.size)) kk hsz (exo_ok hget)
  have r2 : Vals [V.ref (hp.objs.size + 1)] [Value.ref (hp.objs.size + 1)] := .cons rfl .nil
  have hl : ([Value.ref (hp.objs.size + 1)] ++ []).length = ps.length := by
    have e := r2.length
    rw [F1.len _ _ _ _ hq] at e
    exact e.symm
  refine wpAny_call (PySem.HandSPX.call_own PySem.F.excBase_ValueError (fun Y => PySem.HandSPX.refsVE_contains Y bm hbm) (I1.kIn _ _ hC) (PySem.W.looks_findIn I1.kIn iC) (fun self => PySem.W.bind_fn I1.kIn self tI) (Nat.zero_le _)
    (codeAny_mono (F1.run _ X.stack _ _ ⟨[Value.ref (hp.objs.size + 1)], []⟩ [Value.ref (hp.objs.size + 1)] _ _ (fun _ _ _ => False) (hr.make C [] []) (I2.env0.make C [] []) (hb _ [Value.ref (hp.objs.size + 1)] I2.kIn hl) r2 hq) fun r s' hq' => ?_))
  cases r with
  | error er => exact hx pins σ _ _ er s' I2 hq'
  | ok fl =>
    cases fl with
    | ret u =>
      obtain ⟨v, H2, os2, bare2, un2, hok2, rv, ev, ea, q2⟩ := hq'
      subst ev
      obtain ⟨h2, g2, d2, t2, os'⟩ := s'
      exact ⟨rv, mk_endN (raises_own T.exC T.tyC) I1 hsz kk un2 hok2 os2 bare2 ea q2⟩
    | next => exact False.elim hq'
    | brk => exact False.elim hq'
    | cont => exact False.elim hq'
end
/-! ### a call of a local name that holds a def, which may raise -/
section
variable {X : Cx} {CX : CXT} {k i : Nat} {f : Addr} {fd : FuncData} {ps : List Str} {sp : Sp} {E : L2.St → XK} {x : Str} {p pos : Pos} {e : Expr} {es : List Expr} {t : TA}
def tCallLS (i : Nat) (f : Addr) (sp : Sp) (E : L2.St → XK) (t : TA) : TE := fun σ H Q => σ[i]? = some (some (.ref f)) ∧ t σ H fun vs H1 => sp vs H1 Q (E σ)
theorem pe_callLS (F : FnOk X.prog X.w X.K X.mg X.base CX k f fd ps sp) (hr : Room k X.A) (hN : X.N[i]? = some x) (hv : Vis X.env.scope x) (hk : PySem.W.keepIn X.K (.ref f) = true) (hb : Binds X.K fd ps []) (hx : ∀ σ, PassesAt CX X σ (E σ)) (ha : PA X (e :: es) t)
    (hdb : (x == ("__debug__" : Str)) = false := by decide) (hcd : (x == ("__classdict__" : Str)) = false := by decide)
    (he : starEach (e :: es) X.env = (false, eval e X.env) :: starEach es X.env := by rfl) (hpl : (backTo pos (starEach es X.env)).any (·.1) = false := by rfl) : PE X (.Call (.Name x p) (e :: es) [] pos) (tCallLS i f sp E t) := by
  refine ⟨fun pins s σ H Q I h => ?_⟩
  obtain ⟨hs, ht⟩ := h
  refine wpAny_Call_Name_kw (thn ((pe_var (pos := p) hN hv hdb hcd).run pins s σ H (fun v H1 => v = .ref f ∧ H1 = H) I ⟨.ref f, hs, rfl, rfl⟩) fun u s1 ⟨v, H1, I1, r1, q1⟩ => ?_)
  obtain ⟨rfl, rfl⟩ := q1
  cases r1
  refine PySem.W.callWith_K (h₀ := X.base) I.ok.mod.kin hk (thn (ha.run pos pins s1 σ _ _ I1 ht) fun us s2 ⟨vs, H2, I2, r, q⟩ => ⟨I2.kIn, ?_⟩) he hpl
  exact run_fnS F hr hb (hx σ) I2 r q
end
/-! ### isinstance of a caught error of an own class without fields -/
def rIsX (K : PySem.W.Frag) (a : Addr) (cls : Value) (d : Option Addr) : List V → Hp → VK → Prop := fun xs H Q => ∃ (D : Addr) (c : V) (cv : Value) (b : Bool), cls = .ref D ∧ d = none ∧ ExcC K D ∧ xs = [.ref a, c] ∧ (∀ u, L2.RelV c u → u = cv) ∧ PySem.W.kitOne K (.ref D) cv = some b ∧ Q (.bl b) H
theorem call_isX {X : Cx} {a : Addr} {oe : Obj} {cls : Value} {d : Option Addr} {pn : List (Addr × Obj)} (hz : Zc cls d oe) (hf : ∃ vs, oe.data = .fields vs) : CallR (X.suite a ((a, oe) :: pn)) (.builtin "isinstance") (rIsX X.K a cls d) := by
  intro pins s σ H xs us Q I r h
  obtain ⟨D, c, cv, b, rfl, rfl, C, rfl, hc, e, q⟩ := h
  exact call_isE C hz hf pins s σ H [.ref a, c] us Q I r ⟨c, cv, b, rfl, hc, e, q⟩
/-! ### what a law's text says of an own exception -/
/-- ExcT C f c cc: the class at C over SamphireError .. over ValueError, with its own __init__ at f -/
structure ExcT (P : Program) (K : PySem.W.Frag) (mg : Str → Option Value) (name : Str) (C f c cc : Addr) : Prop where
  S : SupC P K mg C f c cc
  g : mg name = some (.ref C)
  iC : PySem.W.findIn K (.ref C) "__init__" = some (some (.ref f))
  tI : PySem.W.typeIn K (.ref f) = some (.type "function")
  is : ExcC K C
  te : PySem.W.exmOne K (.ref C) (.ref C) = some true
theorem ExcT.xf {P : Program} {K : PySem.W.Frag} {mg : Str → Option Value} {name : Str} {C f c cc : Addr} (T : ExcT P K mg name C f c cc) : XfC K C := ⟨T.is.hg, T.is.hk, T.is.hs, T.is.hd⟩
/-- the file that a code object tells -/
def flIs (cvs : List Value) (f : Str) : Bool := match cvs with | _ :: _ :: .str file _ :: _ => f == file | _ => false
/-- what k_is finds, put together -/
theorem excT_mk {P : Program} {K : PySem.W.Frag} {mg : Str → Option Value} {name : Str} {C f c cc : Addr} {nm q : Str} {N : Addr} {bs bm : List Value} {sn : List Str} {sub : List Value} {ab : Bool} {col : Option Bool} {dd : Option Addr} {m0 m1 m2 m3 m5 : Option Value}
    {occ : Value} {cdd : Option Addr} {cvs : List Value} {csl : Array (Option Value)} {ccl : Value} {ccd : Option Addr} {ccs : Array (Option Value)}
    (xL : K.lookup C = some (excClassObj nm q C N bs bm true sn sub ab col dd m0 m1 m2 m3 m5 "ValueError.__new__")) (rv : PySem.HandSPX.refsVE bm = true)
    (sa : PySem.W.findIn K (.ref C) "__setattr__" = some (some (.builtin "object.__setattr__"))) (sB : PySem.W.subIn K (.ref C) (.type "BaseException") = some true) (tC : PySem.W.typeIn K (.ref C) = some (.type "type")) (kC : PySem.W.keepIn K (.ref C) = true)
    (code : K.lookup c = some ⟨occ, cdd, .fields cvs.toArray, csl⟩) (hfile : flIs cvs P.main.file = true)
    (cell : K.lookup cc = some ⟨ccl, ccd, .cell (some (.ref C)), ccs⟩) (mro : PySem.W.mroIn K C (.ref C) = some true) (sV : PySem.W.subIn K (.ref C) (.type "ValueError") = some true) (zs : mg "super" = none)
    (any : PySem.W.nsIn K PySem.cStatics "thirdparty.any" = some none) (sup : PySem.W.ks_superIn K C C "__init__" = some (some (.builtin "ValueError.__init__"))) (top : (P.main.scope.names.lookup ("super" : Str)).isSome = false)
    (g : mg name = some (.ref C)) (iC : PySem.W.findIn K (.ref C) "__init__" = some (some (.ref f))) (tI : PySem.W.typeIn K (.ref f) = some (.type "function")) (is : ExcC K C) (isc : PySem.W.isClsIn K C = true) (sC : PySem.W.subIn K (.ref C) (.ref C) = some true) : ExcT P K mg name C f c cc where
  S := {
    T := ⟨⟨nm, q, N, bs, bm, sn, sub, ab, col, dd, m0, m1, m2, m3, m5, xL, rv⟩, sa, sB, tC, kC⟩
    cd := ⟨_, by unfold PySem.W.clsIn; rw [xL] <;> rfl⟩
    code := by
      match cvs, code, hfile with
      | a :: b :: .str file tf :: r, code, hfile => exact ⟨_, _, _, _, file, tf, code, rfl, hfile⟩
    cell := ⟨_, _, _, cell⟩
    sub := mro
    subV := sV
    zs := zs
    any := any
    sup := sup
    top := top }
  g := g
  iC := iC
  tI := tI
  is := is
  te := PySem.W.exm_ref sB is.hd tC sC
end Sup

/-! ### list(reversed(a list)) -/
namespace RL
open PySem PySem.Spec PyProof.Rows RT L2
section
variable {prog : Program} {w : World} {A : Around} {E : Value → Shared → Prop} {s : Shared}
theorem extend_rev {R : Result → Shared → Prop} {S it l : Addr} {items : Array Value} {res : Value} {c₀ : Nat} (hh : A.handled = none) (hit : s.heap.IsRevIter it l ((items.size : Int) - 1)) (hl : s.heap.IsList l items) (hne : l ≠ it) (hSi : S ≠ it) (hSl : S ≠ l) (hn : items.size ≤ sizeLine)
    (hS : s.heap.get? S = some { cls := .type "list", data := .seq #[] c₀ })
    (hR : ∀ s' acc' c', Moved (S :: [it]) (fun a b => b = a) s s' → s'.heap.get? S = some { cls := .type "list", dict := none, data := .seq acc' c', slots := #[] } → ItemsOf (fun i v => items[items.size - 1 - i]? = some v) acc' items.size → R (.ok (.ret res)) s') :
    wpAny (model prog w) A.in1 (Builtin.List.listExtendWith (.ref S) (.ref it) res)
      (fun fin s' => match fin with | .done f => R (.ok f) s' | .again c' => c'.quiet = true ∧ codeAny (model prog w) A c' R s') (fun e s' => R (.error e) s') s := by
  have W := (Walks.listRev (prog := prog) (w := w) (A := A.in1) hh it l hne items).toS
  have hSf : S ∉ [it, l] := by simp only [List.mem_cons, List.not_mem_nil, or_false, not_or]; exact ⟨hSi, hSl⟩
  have hT : s.TypeIs (.ref it) "list_reverseiterator" := Heap.IsRevIter.typeIs hit
  have h1 : Builtin.List.listSameRef (.ref S) (.ref it) = false := by simp [Builtin.List.listSameRef, hSi]
  unfold Builtin.List.listExtendWith
  refine wpAny_bind (wpAny_typeOf hT ?_)
  rw [if_neg (by rw [h1]; decide)]
  refine wpAny_bind (wpAny_pyIter_revIter hit ?_)
  refine wpAny_bind (wpAny_holding ?_)
  unfold Builtin.List.listLengthHint
  refine wpAny_bind (wpAny_specialOf hT nolen_lri ?_)
  show wpAny _ A.in1 (specialOf (Value.ref it) (Str.ofString "__length_hint__") >>= _) _ _ _
  refine wpAny_bind (wpAny_specialOf hT hint_lri ?_)
  generalize hid : ("list_reverseiterator.__length_hint__" : String) = id0
  wp_delta
  rw [show splitId id0 = some ("list_reverseiterator", "__length_hint__") from by subst hid; decide +kernel]
  subst hid
  refine wpAny_bind (wpAny_isInstance (b := true) hT (by rw [isSubtype_type]; kernel_rfl) ?_)
  refine wpAny_pure ?_
  rw [if_neg (by decide)]
  have e0 : ((items.size : Nat) : Int) - 1 - ((0 : Nat) : Int) = (items.size : Int) - 1 := by omega
  refine wpAny_pure ⟨plainId_quiet F.plain_extend_loop _, codeAny_extend_loopS W hn _ hSf _ items.size 0 _ _ _ rfl (Nat.zero_le _) ⟨Nat.zero_le _, by rw [e0]; exact hit, hl⟩ hS (ItemsOf.nil _) fun s' acc' c' hm hS' hacc => ?_⟩
  exact hR s' acc' c' hm hS' hacc
theorem init_rev {R : Result → Shared → Prop} {S it l : Addr} {items : Array Value} (hh : A.handled = none) (hit : s.heap.IsRevIter it l ((items.size : Int) - 1)) (hl : s.heap.IsList l items) (hne : l ≠ it) (hSi : S ≠ it) (hSl : S ≠ l) (hn : items.size ≤ sizeLine)
    (hS : s.heap.get? S = some { cls := .type "list", data := .seq #[] })
    (hR : ∀ (h' : Heap) (tk : Nat) (acc : Array Value) (c' : Nat), (∀ b o, b ≠ S → b ≠ it → s.heap.get? b = some o → h'.get? b = some o) → h'.get? S = some { cls := .type "list", dict := none, data := .seq acc c', slots := #[] } → ItemsOf (fun i v => items[items.size - 1 - i]? = some v) acc items.size → R (.ok (.ret .none)) { s with heap := h', toks := tk }) :
    wpAny (model prog w) A.in1 (Builtin.«list.__init__» ⟨[.ref S, .ref it], []⟩)
      (fun fin s' => match fin with | .done f => R (.ok f) s' | .again c' => c'.quiet = true ∧ codeAny (model prog w) A c' R s') (fun e s' => R (.error e) s') s := by
  show wpAny _ A.in1 (do let old ← Builtin.List.listItems (.ref S); Builtin.List.listUpdate (.ref S) (fun _ => #[]); letGo old.toList.reverse; Builtin.List.listExtendWith (.ref S) (.ref it) .none) _ _ s
  refine wpAny_bind ?_
  unfold Builtin.List.listItems
  refine wpAny_bind (wpAny_seqItems hS rfl (wpAny_pure ?_))
  show wpAny _ A.in1 (updateSeq S (fun _ => #[]) >>= fun _ => letGo (#[] : Array Value).toList.reverse >>= fun _ => Builtin.List.listExtendWith (.ref S) (.ref it) .none) _ _ s
  refine wpAny_bind (wpAny_updateSeq hS rfl ?_)
  have hS₂ := Heap.get?_update_self (Obj.mapSeq (fun _ => (#[] : Array Value))) hS rfl
  have oth : ∀ b o, b ≠ S → s.heap.get? b = some o → (s.heap.update S (Obj.mapSeq (fun _ => (#[] : Array Value)))).get? b = some o :=
    fun b o hb e => (Heap.get?_update_other _ _ (Ne.symm hb)).trans e
  refine wpAny_bind (wpAny_letGo ?_)
  refine extend_rev (s := { s with heap := s.heap.update S (Obj.mapSeq (fun _ => (#[] : Array Value))) }) hh (hit.at fun o e => oth it o hSi.symm e) (by obtain ⟨o, ho, x⟩ := hl; exact ⟨o, oth l o hSl.symm ho, x⟩) hne hSi hSl hn hS₂ fun s' acc' c' hm hS' hacc => ?_
  rw [Moved.eq_with hm]
  exact hR s'.heap s'.toks acc' c' (fun b o hb hb2 e => hm.heap b o (by simp [hb, hb2]) (oth b o hb e)) hS' hacc
theorem call_list_rev {it l : Addr} {items : Array Value} {Q : Value → Shared → Prop} (hh : A.handled = none) (hit : s.heap.IsRevIter it l ((items.size : Int) - 1)) (hl : s.heap.IsList l items) (hne : l ≠ it) (hn : items.size ≤ sizeLine)
    (hQ : ∀ (h' : Heap) (tk : Nat) (acc : Array Value) (c' : Nat), (∀ b o, b ≠ it → s.heap.get? b = some o → h'.get? b = some o) → h'.get? s.heap.objs.size = some { cls := .type "list", dict := none, data := .seq acc c', slots := #[] } → ItemsOf (fun i v => items[items.size - 1 - i]? = some v) acc items.size → Q (.ref s.heap.objs.size) { s with heap := h', toks := tk }) :
    wpAny (model prog w) A (call (.type "list") [.ref it]) Q E s := by
  refine callType_codes (Q₁ := fun obj s₁ => obj = .ref s.heap.objs.size ∧ s₁ = { s with heap := s.heap.push { cls := .type "list", data := .seq #[] } }) F.called_list (F.typeCall_list_1 _) F.entry_list_init
    (code_list_new _ ⟨rfl, rfl⟩) fun obj s₁ h₁ => ?_
  obtain ⟨rfl, rfl⟩ := h₁
  have hS : (s.heap.push { cls := .type "list", data := .seq #[] }).get? s.heap.objs.size = some { cls := .type "list", data := .seq #[] } := Heap.get?_push_size _ rfl
  obtain ⟨oi, hoi, _⟩ := id hit
  obtain ⟨ol, hol, _⟩ := id hl
  refine ⟨⟨_, hS, rfl⟩, F.args_list_init_2 _ _, init_rev (A := A.in1) (s := { s with heap := s.heap.push { cls := .type "list", data := .seq #[] } }) hh (hit.at fun o e => Heap.get?_push_of_some _ e) (hl.push _) hne (Nat.ne_of_gt (Heap.lt_size hoi)) (Nat.ne_of_gt (Heap.lt_size hol)) hn hS fun h' tk acc c' hk hS' hacc => ?_⟩
  exact ⟨rfl, hQ h' tk acc c' (fun b o hb e => hk b o (Nat.ne_of_lt (Heap.lt_size e)) hb (Heap.get?_push_of_some _ e)) hS' hacc⟩
end
section
variable {X : Cx}
/-- list(reversed(xs)): a new list -/
def tListRev (K : PySem.W.Frag) (te : TE) : TE := fun σ H Q => te σ H fun x H1 => ∃ a xs, x = .ref a ∧ SqL K H1 a xs ∧ ∀ p, H1 p = none → Q (.ref p) (upd H1 p (.lst xs.reverse))
theorem pe_listRev {e : Expr} {te : TE} {p p2 pos pos2 : Pos} (hc : X.calm = true) (hg : Gl X "list") (hm : X.mg "list" = none) (hg2 : Gl X "reversed") (hm2 : X.mg "reversed" = none) (he : PE X e te)
    (hs : starEach [e] X.env = (false, eval e X.env) :: starEach [] X.env := by rfl)
    (hs2 : starEach [.Call (.Name "reversed" p2) [e] [] pos2] X.env = (false, eval (.Call (.Name "reversed" p2) [e] [] pos2) X.env) :: starEach [] X.env := by rfl) :
    PE X (.Call (.Name "list" p) [.Call (.Name "reversed" p2) [e] [] pos2] [] pos) (tListRev X.K te) := by
  refine ⟨fun pins s σ H Q I h => ?_⟩
  refine Call_ (ld_blt I hg hm boot_list (PyProof.Rows.callWith_type1 (args_cons (Call_ (ld_blt I hg2 hm2 PyProof.Rows.boot_reversed (PyProof.Rows.callWith_type1 (args_cons (thn (he.run pins s σ H _ I h) fun u s1 ⟨v, H1, I1, r1, q1⟩ => args_nil ?_) hs) hs rfl))) hs2) hs2 rfl))
  obtain ⟨a, xs, ev, hq, q⟩ := q1
  subst ev
  obtain rfl : u = Value.ref a := r1
  obtain ⟨its, rv, p', hz⟩ := I1.list hq
  refine call_reversed_list p'.isList (args_nil ?_)
  have k0 : ∀ b o, s1.heap.get? b = some o → (s1.heap.push (revObj a ((its.toArray.size : Int) - 1))).get? b = some o := fun b o e => Heap.get?_push_of_some _ e
  have hl := p'.isList
  obtain ⟨ol, hol, _⟩ := id hl
  have hne : a ≠ s1.heap.objs.size := Nat.ne_of_lt (Heap.lt_size hol)
  have hn : its.toArray.size ≤ sizeLine := by rw [List.size_toArray, ← rv.length]; exact hz
  refine call_list_rev (s := { s1 with heap := s1.heap.push (revObj a ((its.toArray.size : Int) - 1)) }) (I1.ok.hd hc) ⟨_, Heap.get?_push_size _ rfl, rfl, rfl⟩ (hl.push _) hne hn fun h' tk acc c' hk hS' hi => ?_
  have hle : s1.heap.objs.size ≤ (s1.heap.push (revObj a ((its.toArray.size : Int) - 1))).objs.size := by simp [Heap.push]
  have ea : acc.toList.toArray = acc := by simp
  exact ⟨.ref (s1.heap.push (revObj a ((its.toArray.size : Int) - 1))).objs.size, upd H1 (s1.heap.push (revObj a ((its.toArray.size : Int) - 1))).objs.size (.lst xs.reverse), I1.laid (t' := tk) (fun c o e => hk c o (Nat.ne_of_lt (Heap.lt_size e)) (k0 c o e)) hle (show ObjOk X.prog X.w _ _ _ (.lst xs.reverse) from ⟨by rw [List.length_reverse]; exact hz, acc.toList, c', vals_rev rv hi, by rw [ea]; exact hS'⟩), rfl, q _ (I1.hok.fresh hle)⟩
end
end RL
/-! ### xs.extend(a tuple) -/
namespace RL
open PySem PySem.Spec PyProof.Rows RT L2
theorem meets_extend_tup (l : Addr) (items : Array Value) (n : Nat) (b : Addr) (items2 : Array Value) (n2 : Nat) (o : Obj) (hc : o.cls = .type "tuple") (hd : o.data = .seq items2 n2) (hs1 : items.size + items2.size ≤ sizeLine) :
    Meets (Builtin.«list.extend» ⟨[.ref l, .ref b], []⟩) (fun _ R s => s.heap.get? l = some { cls := .type "list", dict := none, data := .seq items n, slots := #[] } ∧ s.heap.get? b = some o ∧ R (.ok (.ret Value.none)) { s with heap := s.heap.update l (Obj.mapSeq fun x => x ++ items2), toks := s.toks }) :=
  .of_wp fun prog w A R s h => by
    obtain ⟨hl, hb, h⟩ := h
    show wpAny _ _ (Builtin.List.listExtendWith (.ref l) (.ref b) .none) _ _ _
    unfold Builtin.List.listExtendWith
    refine wpAny_bind (wpAny_typeOf ⟨o, hb, hc⟩ ?_)
    have h1 : (Builtin.List.listSameRef (.ref l) (.ref b) || Value.type "tuple" == Value.type "list" || Value.type "tuple" == Value.type "tuple") = true := by simp
    simp only [h1, if_true]
    refine wpAny_bind ?_
    unfold Builtin.List.listItems
    refine wpAny_bind (wpAny_seqItems hb hd (wpAny_pure ?_))
    refine wpAny_bind ?_
    refine wpAny_bind (wpAny_seqItems hl rfl (wpAny_pure ?_))
    have hlong : ¬ (!items.isEmpty && Builtin.List.listTooLong (items.size + items2.size)) = true := by
      rw [notLongL hs1, Bool.and_false]
      exact Bool.false_ne_true
    rw [if_neg hlong]
    show wpAny _ _ (updateSeq l (· ++ items2) >>= fun _ => ret .none) _ _ s
    refine wpAny_bind (wpAny_updateSeq hl rfl (hz := by omega) (_hz' := by rw [Array.size_append]; omega) ?_)
    exact wpAny_pure ⟨_, rfl, h⟩
section
variable {X : Cx}
def rExtT : V → List V → Hp → VK → Prop := fun x vs H Q => ∃ l b xs zs, x = .ref l ∧ vs = [.ref b] ∧ H l = some (.lst xs) ∧ H b = some (.tup zs) ∧ xs.length + zs.length ≤ sizeLine ∧ Q .non (upd H l (.lst (xs ++ zs)))
theorem mt_extendT : MtM X "list.extend" rExtT := by
  intro pins s σ H x vs v us Q I rx rv h
  obtain ⟨l, b, xs, zs, rfl, rfl, hH, hB, hz, q⟩ := h
  cases rx
  obtain ⟨u, rfl, ru⟩ := rv.one
  cases ru
  obtain ⟨z, its, n, r, hl, e⟩ := I.lstM hH
  obtain ⟨its2, r2, ⟨o, ho, hc, n2, hd⟩, hz2⟩ := I.tuple (SqT.of hB)
  have hl2 := r2.length
  refine call_meets PySem.F.slot_list_extend ⟨_, e, rfl⟩ PySem.F.entry_list_extend (PySem.F.args_list_extend_2 _ _)
    (meets_extend_tup l its.toArray n b its2.toArray n2 o hc hd (by rw [List.size_toArray, List.size_toArray]; omega)) ⟨e, ho, ?_⟩
  refine ⟨.non, _, I.lset (its' := its ++ its2) hH e (by simp) (r.append r2) ?_, rfl, q⟩
  rw [List.length_append]
  omega
end
end RL
/-! ### enumerate(a list, start=k) -/
namespace RL
open PySem PySem.Spec PyProof.Rows L2
section
variable {M : Model} {A : Around} {E : Value → Shared → Prop} {s : Shared} {env : Env}
theorem callWith_type_kwB {pos : Pos} {T : String} {first : List Value} {args : List (Bool × Sem Value)} {keywords : List (Option Str × Sem Value)} {Q : Value → Shared → Prop}
    (hplain : args.any (·.1) = false) (hkw : keywords.any (·.1.isNone) = false)
    (h : wpAny M A (evalArgs (.type T) true args keywords) (fun a s₁ => wpAny M A (call (.type T) (first ++ a.pos) a.kw) Q E s₁) E s) :
    wpAny M A (callWith pos (.type T) first args keywords) Q E s := by
  unfold callWith
  refine wpAny_bind (wpAny_holding (wpAny_mono h (fun a s₁ h₁ => wpAny_bind (wpAny_standAt ?_)) fun _ _ x => x))
  simp only [hplain, hkw, Bool.or_false]
  refine wpAny_bind (wpAny_pure ?_)
  exact wpAny_bind (wpAny_mono h₁ (fun r s₂ hr => wpAny_bind (wpAny_holding (wpAny_point (wpAny_pure hr)))) fun _ _ x => x)
theorem callWith_type_kw {pos : Pos} {T : String} {e : Expr} {rest : List Expr} {kws : List Keyword} {Q : Value → Shared → Prop}
    (h : wpAny M A (spliced (backTo pos (starEach (e :: rest) env))) (fun vs s₁ => wpAny M A (evalAll ((backToKw pos (keywordEach kws env)).map (·.2)))
      (fun kvs s₂ => wpAny M A (call (.type T) vs (((backToKw pos (keywordEach kws env)).filterMap (·.1)).zip kvs)) Q E s₂) E s₁) E s)
    (he : backTo pos (starEach (e :: rest) env) = (false, eval e env) :: backTo pos (starEach rest env))
    (hplain : (backTo pos (starEach (e :: rest) env)).any (·.1) = false)
    (hall : (backToKw pos (keywordEach kws env)).all (·.1.isSome) = true)
    (hkw : (backToKw pos (keywordEach kws env)).any (·.1.isNone) = false) :
    wpAny M A (callWith pos (.type T) [] (backTo pos (starEach (e :: rest) env)) (backToKw pos (keywordEach kws env))) Q E s := by
  refine callWith_type_kwB hplain hkw ?_
  rw [he] at h ⊢
  exact evalArgs_kwB hall h
end
/-- the list at a as it stands at each turn, each item in a new pair, counted from k -/
def IteS (K : PySem.W.Frag) (a : Addr) (k : Int) : It :=
  ⟨fun i H => ∃ (xs : List V) (x : V), SqL K H a xs ∧ xs[i]? = some x, fun i H v H' => ∃ T x, v = .ref T ∧ H T = none ∧ H' = upd H T (.tup [.int (k + (i : Nat)), x]) ∧ ∀ xs, SqL K H a xs → xs[i]? = some x, fun i H => ∃ xs : List V, SqL K H a xs ∧ xs.length = i⟩
theorem turn_enumS {P : Program} {w : World} {K : PySem.W.Frag} {elts : List Expr} {kk : Nat} {tpos : Pos} (a e it : Addr) (k : Int) :
    Turn P w K (.Tuple elts kk tpos) (IteS K a k) [e, it] e (fun i h => (∃ old, IsEnum h e it (k + ((i : Nat) : Int)) old) ∧ h.IsListIter it a i ∧ e ≠ it ∧ e ≠ a ∧ a ≠ it) where
  mem := by simp
  obj := fun i h st b hb => by
    obtain ⟨⟨old, he⟩, ⟨o, ho, hc, hd⟩, _⟩ := st
    have e' : b = e ∨ b = it := by simpa using hb
    rcases e' with z | z
    · rw [z]; exact ⟨_, he, fun v q => nomatch q⟩
    · rw [z]; exact ⟨o, ho, fun v q => by rw [hd] at q; cases q⟩
  keep := fun i h h' st k => let ⟨⟨old, he⟩, hi, hne⟩ := st; ⟨⟨old, k e (by simp) _ he⟩, hi.at fun o q => k it (by simp) o q, hne⟩
  item := by
    intro X hP hw hK hc i pins s σ H E I hf st hg
    subst hP hw hK
    obtain ⟨⟨old, he⟩, hit, hne, hea, hai⟩ := st
    obtain ⟨xs, x, hq, hx⟩ := hg
    obtain ⟨its, rv, p, hz⟩ := I.list hq
    obtain ⟨u, hu, ru⟩ := rv.get hx
    have hel : e < s.heap.objs.size := Heap.lt_size he
    have hil : it < s.heap.objs.size := by obtain ⟨_, q, _⟩ := hit; exact Heap.lt_size q
    have D := Draws.list (prog := X.prog) (w := X.w) (A := X.A.in1) (I.ok.hd hc) it a hai its.toArray
    have hlt : i < its.toArray.size := by
      have := (List.getElem?_eq_some_iff.mp hu).1
      simpa using this
    refine wpAny_pyNext_enum_itemC D he ⟨hit, p.isList⟩ hlt hne (by simp [hne, hea]) fun u' h' tk hu' ho hst' hT hsz hk => ?_
    have euu : u' = u := by
      have z : its.toArray[i]? = some u := by simpa using hu
      rw [z] at hu'
      exact (Option.some.inj hu').symm
    subst euu
    refine ⟨_, rfl, wpAny_letOwnedTupleGo_enum (s := { s with heap := h', toks := tk + 1 }) ho fun h'' he' sb => ?_⟩
    have hT2 : h''.get? s.heap.objs.size = some { cls := .type "tuple", data := .seq #[.int (k + (i : Nat)) tk, u'] } := (sb.2 _ (Nat.ne_of_gt hel)).trans hT
    have new : ObjOk X.prog X.w (upd H s.heap.objs.size (.tup [.int (k + (i : Nat)), x])) h'' s.heap.objs.size (.tup [.int (k + (i : Nat)), x]) :=
      ⟨by show 2 ≤ sizeLine; decide, [.int (k + (i : Nat)) tk, u'], .cons ⟨_, rfl⟩ (.cons ru .nil), ⟨_, hT2, rfl, _, rfl⟩⟩
    have I1 : Inv X pins σ (upd H s.heap.objs.size (.tup [.int (k + (i : Nat)), x])) { s with heap := h'', toks := tk + 1 } :=
      I.turnedNew (ch := [e, it]) (fun b ob hb q => (sb.2 b (fun z => hb (by simp [z]))).trans (hk b ob (fun z => hb (by simp [z])) (fun z => hb (by simp [z])) q)) hf (Nat.le_refl _) new
    refine ⟨.ref s.heap.objs.size, _, I1, rfl, ⟨_, x, rfl, I.hok.fresh (Nat.le_refl _), rfl, fun ys hy => by rw [I.list_inj hy hq]; exact hx⟩, ⟨⟨u', ?_⟩, hst'.1.at fun o q => (sb.2 it (Ne.symm hne)).trans q, hne, hea, hai⟩, fun b hb => ?_⟩
    · have e1 : k + ((i + 1 : Nat) : Int) = k + (i : Int) + 1 := by omega
      rw [e1]; exact he'
    · have hb' : b < s.heap.objs.size := by
        have e' : b = e ∨ b = it := by simpa using hb
        rcases e' with z | z
        · rw [z]; exact hel
        · rw [z]; exact hil
      rw [upd_ne (Nat.ne_of_lt hb')]
      exact (hf b hb).1
  done := by
    intro X hP hw hK hc i pins s σ H E I hf st hg
    subst hP hw hK
    obtain ⟨⟨old, he⟩, hit, hne, hea, hai⟩ := st
    obtain ⟨xs, hq, hx⟩ := hg
    obtain ⟨its, rv, p, hz⟩ := I.list hq
    obtain ⟨f0, f1, f2, f3, f4, f5⟩ := hf it (by simp)
    have hl := rv.length
    have D := Draws.list (prog := X.prog) (w := X.w) (A := X.A.in1) (I.ok.hd hc) it a hai its.toArray
    have en : i = its.toArray.size := by rw [List.size_toArray]; omega
    subst en
    exact wpAny_pyNext_enum_endD D he ⟨hit, p.isList⟩ fun h' eb => ⟨rfl, I.turned (t' := s.toks) (fun b o hb q => eb b o hb q) f0 f1 f3 f4 f5⟩
  self := fun A i s Q E st h => let ⟨⟨_, he⟩, _⟩ := st; wpAny_pyIter_enum he h
def iEnumS (K : PySem.W.Frag) (ta : TA) (tk : TA) : TI := fun σ H R => ta σ H fun vs H1 => tk σ H1 fun zs H2 => ∃ a xs k, vs = [.ref a] ∧ zs = [.int k] ∧ -(2 ^ 63) ≤ k ∧ k < 2 ^ 63 ∧ SqL K H2 a xs ∧ R (IteS K a k) H2
theorem pi_enumS {X : Cx} {e e2 : Expr} {ta tk : TA} {p pos tpos kp : Pos} {elts : List Expr} {kk : Nat} (hg : Gl X "enumerate") (hm : X.mg "enumerate" = none) (ha : PA X [e] ta) (hkw : PK X [⟨some ("start" : Str), e2, kp⟩] tk)
    (he : backTo pos (starEach [e] X.env) = (false, eval e X.env) :: backTo pos (starEach [] X.env) := by rfl) (hpl : (backTo pos (starEach [e] X.env)).any (·.1) = false := by rfl)
    (hall : (backToKw pos (keywordEach [⟨some ("start" : Str), e2, kp⟩] X.env)).all (·.1.isSome) = true := by rfl) (hnone : (backToKw pos (keywordEach [⟨some ("start" : Str), e2, kp⟩] X.env)).any (·.1.isNone) = false := by rfl)
    (hks : (backToKw pos (keywordEach [⟨some ("start" : Str), e2, kp⟩] X.env)).filterMap (·.1) = [("start" : Str)] := by rfl) :
    PI X (.Tuple elts kk tpos) (.Call (.Name "enumerate" p) [e] [⟨some ("start" : Str), e2, kp⟩] pos) (iEnumS X.K ta tk) := by
  refine ⟨fun pins s σ H R I h => ?_⟩
  refine wpAny_Call_Name_kw (ld_blt I hg hm boot_enumerate (callWith_type_kw (thn (ha.run pos pins s σ H _ I h) fun us s0 ⟨vs, H0, I0, r0, q0⟩ => thn (hkw.run pos pins s0 σ H0 _ I0 q0) fun ws s1 ⟨zs, H1, I1, r2, q1⟩ => ?_) he hpl hall hnone))
  rw [hks]
  obtain ⟨a, xs, k, ex, ez, hk0, hk1, hq, q⟩ := q1
  subst ex ez
  cases r0 with
  | cons r rr =>
    cases rr
    cases r
    cases r2 with
    | cons r3 rr3 =>
      cases rr3
      obtain ⟨t, rfl⟩ := r3
      obtain ⟨its, rv, p', hz⟩ := I1.list hq
      have hal : a < s1.heap.objs.size := by obtain ⟨_, z, _⟩ := p'.isList; exact Heap.lt_size z
      refine enum_begins_start (begins_list a its.toArray) p'.isList hk0 hk1 fun h' he' hit hsz hk => wpAny_pyIter_enum he' ?_
      have I2 : Inv X pins σ H1 { s1 with heap := h' } := I1.kept (t' := s1.toks) hk
      refine ⟨s1.heap.objs.size + 1, [s1.heap.objs.size + 1, s1.heap.objs.size], _, _, H1, rfl, I2, turn_enumS a (s1.heap.objs.size + 1) s1.heap.objs.size k, ⟨⟨.none, ?_⟩, ⟨_, hit, rfl, ?_⟩, Nat.succ_ne_self _, Nat.ne_of_gt (Nat.lt_succ_of_lt hal), Nat.ne_of_lt hal⟩, fun b hb => ?_, q⟩
      · rw [show k + ((0 : Nat) : Int) = k by omega]
        exact he'
      · rfl
      · have e' : b = s1.heap.objs.size + 1 ∨ b = s1.heap.objs.size := by simpa using hb
        have hle : s1.heap.objs.size ≤ b := by
          rcases e' with z | z
          · rw [z]; exact Nat.le_add_right _ _
          · rw [z]; exact Nat.le_refl _
        exact I1.fpOk hle (I1.hok.fresh hle)
end RL
/-! ### a text times an int -/
namespace RL
open PySem PySem.Spec PyProof.Rows L2
def repS (z : Str) (k : Nat) : Str := ⟨(List.replicate k z.cps).foldl (· ++ ·) #[]⟩
theorem foldl_size : ∀ (l : List (Array Nat)) (a : Array Nat), (l.foldl (· ++ ·) a).toList = a.toList ++ (l.map Array.toList).flatten
  | [], a => by simp
  | x :: r, a => by
    rw [List.foldl_cons, foldl_size r (a ++ x), Array.toList_append, List.map_cons, List.flatten_cons, List.append_assoc]
theorem repS_tl (z : Str) (k : Nat) : TL.tl (repS z k) = (List.replicate k z.cps.toList).flatten := by
  show ((List.replicate k z.cps).foldl (· ++ ·) #[]).toList = _
  rw [foldl_size, List.map_replicate]
  rfl
theorem repS_len (z : Str) (k : Nat) : (repS z k).length = k * z.length := by
  show (repS z k).cps.size = _
  rw [← Array.length_toList]
  have h := repS_tl z k
  unfold TL.tl at h
  rw [h]
  simp [List.length_flatten]
  rfl
def rMulS : R2 := fun x y H Q => ∃ (z : Str) (k : Nat), x = .str z ∧ y = .int (k : Int) ∧ 2 ≤ k ∧ k ≤ 100000 ∧ 1 ≤ z.length ∧ z.length ≤ 100 ∧ Q (.str (repS z k)) H
theorem op_mulS {X : Cx} : OpR X (binaryOp .Mult) rMulS := by
  intro pins s σ H x y v u Q I rx ry h
  obtain ⟨z, k, rfl, rfl, hk, hk2, hz, hz2, q⟩ := h
  obtain ⟨t, rfl⟩ := rx
  obtain ⟨t', rfl⟩ := ry
  have hle : z.length * k ≤ 10000000 := by
    have h1 : z.length * k ≤ 100 * k := Nat.mul_le_mul_right k hz2
    omega
  have hno : ((((k : Nat) : Int) == 1) || z.length == 0) = false := by
    have h1 : (((k : Nat) : Int) == 1) = false := by
      apply beq_false_of_ne
      omega
    have h2 : (z.length == 0) = false := by
      apply beq_false_of_ne
      omega
    rw [h1, h2]; rfl
  refine PySem.P.mul_str ?_ ?_ ?_ ?_
  · have h1 : ¬ (k : Int) < -(2 ^ 63 : Int) := by omega
    have h2 : ¬ (k : Int) ≥ 2 ^ 63 := by omega
    rw [decide_eq_false h1, decide_eq_false h2]; rfl
  · intro _ _
    have h3 : (1000 : Int) ≤ (2 ^ 63 - 1) / (k : Int) := by
      rw [Int.le_ediv_iff_mul_le (by omega)]
      omega
    omega
  · intro _ _
    rw [Int.toNat_natCast]
    have hs : 10000000 ≤ sizeLine := by decide
    unfold Builtin.Str.tooLong
    exact decide_eq_false (by omega)
  · rw [if_neg (by omega), if_neg (by rw [hno]; decide)]
    rw [Int.toNat_natCast]
    have hl := repS_len z k
    have hs : 10000000 ≤ sizeLine := by decide
    have hc : k * z.length = z.length * k := Nat.mul_comm _ _
    refine ⟨?_, ⟨.str (repS z k), H, I.tok _, ⟨_, rfl⟩, q⟩⟩
    show (repS z k).length ≤ sizeLine
    omega
end RL

/-! ### Z: single steps of readings, for walking by with_reducible refine -/
namespace Z
open PySem L2
/-- all but what stands at M is as it was -/
def Kp (M : List Addr) (H H' : Hp) : Prop := ∀ b o, b ∉ M → H b = some o → H' b = some o
theorem Kp.refl {M : List Addr} (H : Hp) : Kp M H H := fun _ _ _ h => h
theorem Kp.trans {M : List Addr} {H H1 H2 : Hp} (a : Kp M H H1) (b : Kp M H1 H2) : Kp M H H2 := fun c o n h => b c o n (a c o n h)
theorem Kp.new {M : List Addr} {H : Hp} {p : Addr} {o : HO} (h : H p = none) : Kp M H (upd H p o) := fun b u _ e => by
  rw [upd_ne (ne_of_none e h)]
  exact e
theorem Kp.put {M : List Addr} {H : Hp} {p : Addr} {o : HO} (h : p ∈ M) : Kp M H (upd H p o) := fun b u n e => by
  rw [upd_ne (fun q => n (by rw [q]; exact h))]
  exact e
theorem Kp.sub {M M' : List Addr} {H H' : Hp} (a : Kp M H H') (h : ∀ x, x ∈ M → x ∈ M') : Kp M' H H' := fun b o n e => a b o (fun z => n (h b z)) e
theorem Kp.same {H H' : Hp} (a : Kp [] H H') : Same H H' := fun b o e => a b o (by simp) e
theorem Kp.of_same {M : List Addr} {H H' : Hp} (a : Same H H') : Kp M H H' := fun b o _ e => a b o e
theorem Kp.none {M : List Addr} {H H' : Hp} (a : Kp M H H') {p : Addr} (n : p ∉ M) (h : H' p = Option.none) : H p = Option.none := by
  cases q : H p with
  | none => rfl
  | some o =>
    rw [a p o n q] at h
    cases h
/-- what was not there may be forgotten from M -/
theorem Kp.drop {M : List Addr} {H H' : Hp} {p : Addr} (a : Kp (p :: M) H H') (h : H p = Option.none) : Kp M H H' := fun b o n e => a b o (by
  intro z
  rcases List.mem_cons.mp z with z | z
  · rw [z, h] at e
    cases e
  · exact n z) e
theorem Kp.get {M : List Addr} {H H' : Hp} (a : Kp M H H') {b : Addr} {o : HO} (n : b ∉ M) (e : H b = some o) : H' b = some o := a b o n e
theorem Kp.seq {M : List Addr} {K : PySem.W.Frag} {H H' : Hp} (e : Kp M H H') {a : Addr} {xs : List V} (n : a ∉ M) (h : SqL K H a xs) : SqL K H' a xs := by
  rcases h with (h | ⟨o, h⟩) | h
  · exact .inl (.inl (e _ _ n h))
  · exact .inl (.inr ⟨o, e _ _ n h⟩)
  · exact .inr h
theorem Kp.tup {M : List Addr} {K : PySem.W.Frag} {H H' : Hp} (e : Kp M H H') {a : Addr} {xs : List V} (n : a ∉ M) (h : SqT K H a xs) : SqT K H' a xs := by
  rcases h with (h | ⟨o, h⟩) | h
  · exact .inl (.inl (e _ _ n h))
  · exact .inl (.inr ⟨o, e _ _ n h⟩)
  · exact .inr h
/-- what H0 does not know may change -/
theorem Kp.mut {M : List Addr} {H0 H H' : Hp} {l : Addr} {o : HO} (a : Kp M H0 H) (h : H0 l = Option.none) (e : H' = upd H l o) : Kp M H0 H' := fun b u n z => by
  rw [e, upd_ne (ne_of_none z h)]
  exact a b u n z
theorem Kp.then1 {M : List Addr} {H0 H H' : Hp} {l : Addr} (a : Kp M H0 H) (b : Kp [l] H H') (h : H0 l = Option.none) : Kp M H0 H' := fun c o n e => b c o (by
  intro z
  rw [List.mem_singleton.mp z, h] at e
  cases e) (a c o n e)
/-- a new instance and its dict -/
theorem Kp.made {M : List Addr} {H : Hp} {x dx : Addr} {o u : HO} (nx : H x = Option.none) (nd : H dx = Option.none) : Kp M H (upd (upd H dx u) x o) := fun c o n e => by
  rw [upd_ne (ne_of_none e nx), upd_ne (ne_of_none e nd)]
  exact e
theorem none2 {H : Hp} {x dx l : Addr} {o u : HO} (h : upd (upd H dx u) x o l = Option.none) : H l = Option.none := by
  unfold upd at h
  split at h
  · cases h
  · split at h
    · cases h
    · exact h
theorem nin1 {a b : Addr} (h : b ≠ a) : b ∉ [a] := by simpa using h
theorem nin0 {b : Addr} : b ∉ ([] : List Addr) := by simp
theorem lstL {K : PySem.W.Frag} {H : Hp} {a : Addr} {xs : List V} (h : H a = some (.lst xs)) : SqL K H a xs := .inl (.inl h)
theorem tupT {K : PySem.W.Frag} {H : Hp} {a : Addr} {xs : List V} (h : H a = some (.tup xs)) : SqT K H a xs := .inl (.inl h)

theorem cxK {CX : CXT} {P : Program} {w : World} {K : PySem.W.Frag} {mg : Str → Option Value} {base : Heap} {N : List Str} {qual : Str} {scope : Scope} {f : Addr} {cd : Value} {A : Around} {outer : List Env} {s : Shared} {H : Hp} {E : XK} : (cxOf CX P w K mg base N qual scope f cd A outer s H E).K = K := rfl
/-! named readings of rules -/
def rLenN (K : PySem.W.Frag) : List V → Hp → VK → Prop := fun xs H Q => ∃ p ys, xs = [.ref p] ∧ (SqL K H p ys ∨ SqT K H p ys) ∧ Q (.int ys.length) H
theorem c_len {X : Cx} : CallR X (.builtin "len") (rLenN X.K) := call_len_seq
def rListN (K : PySem.W.Frag) : List V → Hp → VK → Prop := fun xs H Q => ∃ p ys, xs = [.ref p] ∧ (SqL K H p ys ∨ SqT K H p ys) ∧ ∀ l, H l = none → Q (.ref l) (upd H l (.lst ys))
theorem c_list {X : Cx} : CallR X (.type "list") (rListN X.K) := call_list_of
def rTupN (K : PySem.W.Frag) : List V → Hp → VK → Prop := fun xs H Q => ∃ p ys, xs = [.ref p] ∧ ((SqL K H p ys ∧ ∀ l, H l = none → Q (.ref l) (upd H l (.tup ys))) ∨ (SqT K H p ys ∧ Q (.ref p) H))
theorem c_tuple {X : Cx} : CallR X (.type "tuple") (rTupN X.K) := call_tuple_of
def rInt1 : List V → Hp → VK → Prop := fun xs H Q => (∃ i, xs = [.int i] ∧ Q (.int i) H) ∨ ∃ k, xs = [.bl k] ∧ Q (.int (if k then 1 else 0)) H
theorem c_int {X : Cx} : CallR X (.type "int") rInt1 := call_int1
def rAbs : List V → Hp → VK → Prop := fun xs H Q => ∃ i, xs = [.int i] ∧ Q (.int (if i < 0 then -i else i)) H
theorem c_abs {X : Cx} : CallR X (.builtin "abs") rAbs := call_abs
def rIsN : R2 := fun x y H Q => y = .non ∧ Q (.bl (decide (x = .non))) H
theorem o_isN {X : Cx} : OpR X (compareOp .Is) rIsN := op_isN
def rNotN : R2 := fun x y H Q => y = .non ∧ Q (.bl (!decide (x = .non))) H
theorem o_notN {X : Cx} : OpR X (compareOp .IsNot) rNotN := op_notN
def rAddS : R2 := fun x y H Q => ∃ i j, x = .str i ∧ y = .str j ∧ i.length + j.length ≤ sizeLine ∧ Q (.str (i ++ j)) H
theorem o_addS {X : Cx} : OpR X (binaryOp .Add) rAddS := op_add_str
def rInSg : R2 := fun x y H Q => ∃ (c : Nat) (z : Str), x = .str ⟨#[c]⟩ ∧ y = .str z ∧ Q (.bl (decide (c ∈ z.cps.toList))) H
theorem o_inSg {X : Cx} : OpR X (compareOp .In) rInSg := op_in_sign
def rNinSg : R2 := fun x y H Q => ∃ (c : Nat) (z : Str), x = .str ⟨#[c]⟩ ∧ y = .str z ∧ Q (.bl (!decide (c ∈ z.cps.toList))) H
theorem o_ninSg {X : Cx} : OpR X (compareOp .NotIn) rNinSg := op_notIn_sign
/-- // by a divisor of any sign -/
def CDivA (_ j : Int) : Prop := j ≠ 0 ∧ j.natAbs.log2 < 9000
theorem op_fdivA {X : Cx} : OpR X (binaryOp .FloorDiv) (rI CDivA fun i j => .int (i.fdiv j)) := opI fun i j _ _ _ _ _ hc q => PyProof.Rows.floordiv_int hc.1 q (.inl (PyProof.noPylong_of_log2 hc.2))
theorem divA {i j : Int} {b : Nat} (h : j ≠ 0) (hb : j.natAbs < 2 ^ b) (h0 : 0 < b) (h9 : b ≤ 9000) : CDivA i j := ⟨h, Nat.lt_of_lt_of_le (PySem.Flt.log2_lt_of h0 hb) h9⟩
def rLenS : List V → Hp → VK → Prop := fun xs H Q => ∃ x : Str, xs = [.str x] ∧ x.cps.size ≤ 10000000 ∧ Q (.int (x.cps.size : Nat)) H
theorem c_lens {X : Cx} : CallR X (.builtin "len") rLenS := fun pins s σ H xs us Q I r h => call_len pins s σ H xs us Q I r (by obtain ⟨x, rfl, hz, q⟩ := h; exact ⟨.str x, _, rfl, ⟨Nat.le_trans hz (by decide), rfl⟩, q⟩)
def rPopQ : V → List V → Hp → VK → Prop := rPop
section
variable {σ : St} {H : Hp} {Q : VK} {v x y : V} {ta tb tc te : TE} {tA : TT} {D : Ends} {t u ts : TS} {r : R2} {K : PySem.W.Frag} {i : Nat} {A B : Prop}
/-! values -/
theorem var (h : σ[i]? = some (some v)) (q : Q v H) : tVar i σ H Q := ⟨v, h, q⟩
theorem cst (q : Q v H) : tC v σ H Q := q
theorem op (h : ta σ H fun x H1 => tb σ H1 fun y H2 => r x y H2 Q) : tOp r ta tb σ H Q := h
theorem un {r : V → Hp → VK → Prop} (h : ta σ H fun x H1 => r x H1 Q) : tUn r ta σ H Q := h
theorem i0 {g : Int → Int → V} {a b : Int} (q : Q (g a b) H) : rI0 g (.int a) (.int b) H Q := ⟨a, b, rfl, rfl, q⟩
theorem iC {C : Int → Int → Prop} {g : Int → Int → V} {a b : Int} (c : C a b) (q : Q (g a b) H) : rI C g (.int a) (.int b) H Q := ⟨a, b, rfl, rfl, c, q⟩
theorem iU {g : Int → V} {a : Int} (q : Q (g a) H) : rU g (.int a) H Q := ⟨a, rfl, q⟩
theorem eqII {a b : Int} (q : Q (.bl (decide (a = b))) H) : rEq (.int a) (.int b) H Q := ⟨rfl, by
  have e : decide (V.int a = V.int b) = decide (a = b) := by simp
  rw [e]; exact q⟩
theorem neII {a b : Int} (q : Q (.bl (!decide (a = b))) H) : rNe (.int a) (.int b) H Q := ⟨rfl, by
  have e : decide (V.int a = V.int b) = decide (a = b) := by simp
  rw [e]; exact q⟩
theorem eqSS {a b : Str} (q : Q (.bl (decide (a = b))) H) : rEq (.str a) (.str b) H Q := ⟨rfl, by
  have e : decide (V.str a = V.str b) = decide (a = b) := by simp
  rw [e]; exact q⟩
theorem neSS {a b : Str} (q : Q (.bl (!decide (a = b))) H) : rNe (.str a) (.str b) H Q := ⟨rfl, by
  have e : decide (V.str a = V.str b) = decide (a = b) := by simp
  rw [e]; exact q⟩
theorem eqBB {a b : Bool} (q : Q (.bl (decide (a = b))) H) : rEq (.bl a) (.bl b) H Q := ⟨rfl, by
  have e : decide (V.bl a = V.bl b) = decide (a = b) := by simp
  rw [e]; exact q⟩
theorem neBB {a b : Bool} (q : Q (.bl (!decide (a = b))) H) : rNe (.bl a) (.bl b) H Q := ⟨rfl, by
  have e : decide (V.bl a = V.bl b) = decide (a = b) := by simp
  rw [e]; exact q⟩
theorem bl {b : Bool} {q : Bool → Hp → Prop} (h : q b H) : ∃ k, V.bl b = .bl k ∧ q k H := ⟨b, rfl, h⟩
theorem bl' {b : Bool} {q : Bool → Prop} (h : q b) : ∃ k, V.bl b = .bl k ∧ q k := ⟨b, rfl, h⟩
theorem test {Q : Bool → Hp → Prop} (h : te σ H fun x H' => ∃ k, x = .bl k ∧ Q k H') : tTest te σ H Q := h
theorem tbb {Q : Bool → Hp → Prop} (h : te σ H fun x H' => ∃ k, x = .bl k ∧ Q k H') : tB te σ H Q := h
theorem tand {a b : TT} {Q : Bool → Hp → Prop} (h : a σ H fun c H1 => if c = true then b σ H1 Q else Q false H1) : tAnd a b σ H Q := h
theorem tor {a b : TT} {Q : Bool → Hp → Prop} (h : a σ H fun c H1 => if c = true then Q true H1 else b σ H1 Q) : tOr a b σ H Q := h
theorem tnot {a : TT} {Q : Bool → Hp → Prop} (h : a σ H fun c H1 => Q (!c) H1) : tNot a σ H Q := h
theorem tyes {Q : Bool → Hp → Prop} (h : Q true H) : tYes σ H Q := h
theorem andV (h : ta σ H fun x H1 => ∃ c, x = .bl c ∧ if c = true then tb σ H1 Q else Q (.bl false) H1) : tAndV ta tb σ H Q := h
theorem orV (h : ta σ H fun x H1 => ∃ c, x = .bl c ∧ if c = true then Q (.bl true) H1 else tb σ H1 Q) : tOrV ta tb σ H Q := h
theorem notV (h : ta σ H fun x H1 => ∃ c, x = .bl c ∧ Q (.bl (!c)) H1) : tNotV ta σ H Q := h
theorem ifE (h : tA σ H fun c H1 => if c = true then ta σ H1 Q else tb σ H1 Q) : L2.tIf tA ta tb σ H Q := h
theorem chain {r r' : R2} (h : ta σ H fun x H1 => tb σ H1 fun y H2 => r x y H2 fun z H3 => ∃ k, z = .bl k ∧ (if k = true then tc σ H3 fun w' H4 => r' y w' H4 Q else Q (.bl false) H3)) : tChain r r' ta tb tc σ H Q := h
/-! branches -/
theorem ite {p : Prop} [Decidable p] (h1 : p → A) (h2 : ¬p → B) : if decide p = true then A else B := by
  by_cases h : p
  · rw [decide_eq_true h, if_pos rfl]; exact h1 h
  · rw [decide_eq_false h, if_neg Bool.false_ne_true]; exact h2 h
theorem iteN {p : Prop} [Decidable p] (h1 : ¬p → A) (h2 : p → B) : if (!decide p) = true then A else B := by
  by_cases h : p
  · rw [decide_eq_true h]; exact h2 h
  · rw [decide_eq_false h]; exact h1 h
theorem iteB {b : Bool} (h1 : b = true → A) (h2 : b = false → B) : if b = true then A else B := by
  cases b with
  | true => exact h1 rfl
  | false => exact h2 rfl
theorem yes {p : Prop} [Decidable p] (h : p) (q : A) : if decide p = true then A else B := by rw [decide_eq_true h, if_pos rfl]; exact q
theorem no {p : Prop} [Decidable p] (h : ¬p) (q : B) : if decide p = true then A else B := by rw [decide_eq_false h, if_neg Bool.false_ne_true]; exact q
theorem yesN {p : Prop} [Decidable p] (h : ¬p) (q : A) : if (!decide p) = true then A else B := by rw [decide_eq_false h]; exact q
theorem noN {p : Prop} [Decidable p] (h : p) (q : B) : if (!decide p) = true then A else B := by rw [decide_eq_true h]; exact q
theorem yesB (q : A) : if true = true then A else B := q
theorem noNB (q : B) : if (!true) = true then A else B := q
theorem yesNB (q : A) : if (!false) = true then A else B := q
theorem noB (q : B) : if false = true then A else B := q
/-! calls -/
theorem nil {Q : List V → Hp → Prop} (q : Q [] H) : tNil σ H Q := q
theorem cons {Q : List V → Hp → Prop} {tr : TA} (h : ta σ H fun x H1 => tr σ H1 fun xs H2 => Q (x :: xs) H2) : tCons ta tr σ H Q := h
theorem cb {r : List V → Hp → VK → Prop} {a : TA} (h : a σ H fun vs H1 => r vs H1 Q) : tCB r a σ H Q := h
theorem call {sp : Sp} {dvs : List V} {E : XK} {a : TA} (h : a σ H fun vs H1 => sp (vs ++ dvs) H1 Q E) : tCall sp dvs E a σ H Q := h
theorem meth {C : Addr} {m : Str} {sp : Sp} {dvs : List V} {E : XK} {a : TA} (h : ta σ H fun x H1 => ∃ p dx fs, x = .ref p ∧ H1 p = some (.ins C dx fs) ∧ fs.lookup m = none ∧ a σ H1 fun vs H2 => sp (x :: (vs ++ dvs)) H2 Q E) : tMeth C m sp dvs E ta a σ H Q := h
theorem fld {f : Str} (h : ta σ H fun x H1 => ∃ a C dx fs v, x = .ref a ∧ H1 a = some (.ins C dx fs) ∧ Cls K C ∧ NoAttr K C f ∧ fs.lookup f = some v ∧ Q v H1) : tFld K ta f σ H Q := h
theorem int1 {a : Int} (q : Q (.int a) H) : rInt1 [.int a] H Q := .inl ⟨a, rfl, q⟩
theorem intb {b : Bool} (q : Q (.int (if b then 1 else 0)) H) : rInt1 [.bl b] H Q := .inr ⟨b, rfl, q⟩
theorem abs1 {a : Int} (q : Q (.int (if a < 0 then -a else a)) H) : rAbs [.int a] H Q := ⟨a, rfl, q⟩
theorem isN (q : Q (.bl (decide (x = .non))) H) : rIsN x .non H Q := ⟨rfl, q⟩
theorem notN (q : Q (.bl (!decide (x = .non))) H) : rNotN x .non H Q := ⟨rfl, q⟩
theorem addS {a b : Str} (h : a.length + b.length ≤ sizeLine) (q : Q (.str (a ++ b)) H) : rAddS (.str a) (.str b) H Q := ⟨a, b, rfl, rfl, h, q⟩
theorem inSg {c : Nat} {z : Str} (q : Q (.bl (decide (c ∈ z.cps.toList))) H) : rInSg (.str ⟨#[c]⟩) (.str z) H Q := ⟨c, z, rfl, rfl, q⟩
theorem ninSg {c : Nat} {z : Str} (q : Q (.bl (!decide (c ∈ z.cps.toList))) H) : rNinSg (.str ⟨#[c]⟩) (.str z) H Q := ⟨c, z, rfl, rfl, q⟩
/-- a new object -/
theorem new {o : HO} (h : ∀ p, H p = none → Q (.ref p) (upd H p o)) : ∀ p, H p = none → Q (.ref p) (upd H p o) := h
def TupN (Q : VK) (xs : List V) (H1 : Hp) : Prop := xs.length ≤ sizeLine ∧ ∀ p, H1 p = none → Q (.ref p) (upd H1 p (.tup xs))
def LstN (Q : VK) (xs : List V) (H1 : Hp) : Prop := xs.length ≤ sizeLine ∧ ∀ p, H1 p = none → Q (.ref p) (upd H1 p (.lst xs))
theorem tup {a : TA} (h : a σ H (TupN Q)) : tTup a σ H Q := h
theorem lst {a : TA} (h : a σ H (LstN Q)) : tLst a σ H Q := h
/-- a new object, the heap behind it a letter -/
theorem mk {o : HO} {H0 : Hp} {R : Addr → Hp → Prop} (h : ∀ p H1, H0 p = none → Kp [] H0 H1 → H1 p = some o → R p H1) : ∀ p, H0 p = none → R p (upd H0 p o) := fun p n => h p _ n (Kp.new n) upd_same
theorem tupK {xs : List V} (q : ∀ p H1, H p = none → Kp [] H H1 → H1 p = some (.tup xs) → Q (.ref p) H1) (h : xs.length ≤ 100000 := by simp) : TupN Q xs H := ⟨Nat.le_trans h (by decide), mk q⟩
theorem lstK {xs : List V} (q : ∀ p H1, H p = none → Kp [] H H1 → H1 p = some (.lst xs) → Q (.ref p) H1) (h : xs.length ≤ 100000 := by simp) : LstN Q xs H := ⟨Nat.le_trans h (by decide), mk q⟩
theorem sz {n m : Nat} (h : n ≤ m) (hm : m ≤ 10000000 := by decide) : n ≤ sizeLine := Nat.le_trans h (Nat.le_trans hm (by decide))
theorem szl {n m : Nat} (h : n ≤ m) (hm : m ≤ 10000000 := by decide) : n < sizeLine := Nat.lt_of_le_of_lt (Nat.le_trans h hm) (by decide)
/-! subscripts -/
theorem ixL {p : Addr} {xs : List V} {j : Int} (h : SqL K H p xs) (e : atI xs j = some v) (q : Q v H) : rIxL K (.ref p) (.int j) H Q := ⟨p, xs, j, v, rfl, rfl, h, e, q⟩
theorem ixT {p : Addr} {xs : List V} {j : Int} (h : SqT K H p xs) (e : atI xs j = some v) (q : Q v H) : rIxT K (.ref p) (.int j) H Q := ⟨p, xs, j, v, rfl, rfl, h, e, q⟩
theorem setL {p : Addr} {xs : List V} {k : Int} {j : Nat} {v : V} {q : Hp → Prop} (h : H p = some (.lst xs)) (e : ixN xs.length k = some j) (hq : q (upd H p (.lst (xs.set j v)))) : rSetL (.ref p) (.int k) v H q := ⟨p, xs, k, j, rfl, rfl, h, e, hq⟩
theorem gsub {to ti : TE} {t : TSet} {Q : St → Hp → Prop} (h : to σ H fun o H1 => ti σ H1 fun i H2 => t o i v H2 fun H3 => Q σ H3) : gSub to ti t v σ H Q := h
/-! statements -/
/-- a statement whose ways join ahead of the rest -/
def tSeqJ (t u : TS) : TS := tSeq t u
theorem pss_consJ {X : Cx} {st : Stmt} {rest : List Stmt} {t u : TS} (h1 : PS X st t) (h2 : PSs X rest u) : PSs X (st :: rest) (tSeqJ t u) := pss_cons h1 h2
theorem seqJ (J : St → Hp → Prop) (h2 : ∀ σ H, J σ H → u D σ H) (h1 : ∀ N : St → Hp → Prop, (∀ σ H, J σ H → N σ H) → t { D with nx := N } σ H) : tSeqJ t u D σ H := h1 (u D) h2
theorem seqJ' (h : tSeq t u D σ H) : tSeqJ t u D σ H := h
theorem seq (h : t { D with nx := u D } σ H) : tSeq t u D σ H := h
theorem asg {g : TG} (h : te σ H fun x H1 => g x σ H1 D.nx) : tAsg te g D σ H := h
theorem gname {Q : St → Hp → Prop} {σ' : St} (e : σ.set i (some v) = σ') (h : Q σ' H) : gName i v σ H Q := by
  subst e; exact h
def ParK (i j : Nat) (D : Ends) (σ : St) (vs : List V) (H1 : Hp) : Prop := ∃ v w, vs = [v, w] ∧ D.nx ((σ.set i (some v)).set j (some w)) H1
theorem par {i j : Nat} {a : TA} (h : a σ H (ParK i j D σ)) : tPar i j a D σ H := h
theorem par2 {i j : Nat} {v w : V} {σ' : St} (e : (σ.set i (some v)).set j (some w) = σ') (h : D.nx σ' H) : ParK i j D σ [v, w] H := ⟨v, w, rfl, by rw [e]; exact h⟩
theorem aug {ti : TIp} {x : V} (e : σ[i]? = some (some x)) (h : te σ H fun y H1 => ti x y H1 fun z H2 => D.nx (σ.set i (some z)) H2) : tAug i te ti D σ H := ⟨x, e, h⟩
theorem ipI' {f : Int → Int → Int} {a b : Int} (q : Q (.int (f a b)) H) : ipI f (.int a) (.int b) H Q := ⟨a, b, rfl, rfl, q⟩
theorem ifs {c : TT} (h : c σ H fun b H1 => if b = true then t D σ H1 else u D σ H1) : tIfS c t u D σ H := h
theorem ret (h : te σ H D.rt) : tRet te D σ H := h
theorem retN (h : D.rt .non H) : tRetN D σ H := h
theorem next (h : D.nx σ H) : tNext D σ H := h
theorem brk (h : D.bk σ H) : tBreak D σ H := h
theorem drop (h : te σ H fun _ H1 => D.nx σ H1) : tDrop te D σ H := h
theorem bm {T : String} {r : V → List V → Hp → VK → Prop} {to : TE} {a : TA} (h : to σ H fun x H1 => tyV K T x H1 ∧ a σ H1 fun xs H2 => r x xs H2 Q) : tBM K T r to a σ H Q := h
theorem bm0 {T : String} {r : V → List V → Hp → VK → Prop} {to : TE} (h : to σ H fun x H1 => tyV K T x H1 ∧ r x [] H1 Q) : tBM0 K T r to σ H Q := h
theorem app {l : Addr} {xs : List V} {y : V} (h : H l = some (.lst xs)) (z : xs.length < sizeLine) (q : Q .non (upd H l (.lst (xs ++ [y])))) : rAppend (.ref l) [y] H Q := ⟨l, xs, y, rfl, rfl, h, z, q⟩
theorem tyL {p : Addr} {xs : List V} (h : H p = some (.lst xs)) : tyV K "list" (.ref p) H := .inl ⟨rfl, _, SqL.of h⟩
theorem sfld {tv : TE} {f : Str} (h : tv σ H fun y H1 => ta σ H1 fun x H2 => ∃ a C dx fs, x = .ref a ∧ H2 a = some (.ins C dx fs) ∧ Cls K C ∧ NoAttr K C f ∧ fs.length < 1000 ∧ D.nx σ (upd H2 a (.ins C dx (putF f y fs)))) : sFld K ta tv f D σ H := h
theorem sfldaug {tv : TE} {rd : V → V → Hp → VK → Prop} {f : Str} (h : ta σ H fun x H1 => ∃ a C dx fs v, x = .ref a ∧ H1 a = some (.ins C dx fs) ∧ Cls K C ∧ NoAttr K C f ∧ fs.lookup f = some v ∧ tv σ H1 fun y H2 => rd v y H2 fun z H3 => ∃ dx' fs', H3 a = some (.ins C dx' fs') ∧ fs'.length < 1000 ∧ D.nx σ (upd H3 a (.ins C dx' (putF f z fs')))) : sFldAug K ta tv rd f D σ H := h
theorem radd {a b : Int} (q : Q (.int (a + b)) H) : rAdd (.int a) (.int b) H Q := ⟨a, b, rfl, rfl, q⟩
theorem make {C : Addr} {sp : Sp} {dvs : List V} {E : XK} {a : TA} (h : a σ H fun vs H1 => ∀ x dx, H1 x = none → H1 dx = none → dx ≠ x → sp (.ref x :: (vs ++ dvs)) (upd (upd H1 dx (.own x)) x (.ins C dx [])) (fun v H2 => v = .non ∧ Q (.ref x) H2) E) : tMake C sp dvs E a σ H Q := h
/-- while -/
def WhB (W : Nat → St → Hp → Prop) (m : Nat) (tb : TS) (D : Ends) (σ : St) (H1 : Hp) : Prop := ∃ N : St → Hp → Prop, (∀ σ' H', N σ' H' → ∃ m', m' < m ∧ W m' σ' H') ∧ tb { D with nx := N, ct := N, bk := D.nx } σ H1
theorem whb {W : Nat → St → Hp → Prop} {m : Nat} {tb : TS} (h : tb { D with nx := fun σ' H' => ∃ m', m' < m ∧ W m' σ' H', ct := fun σ' H' => ∃ m', m' < m ∧ W m' σ' H', bk := D.nx } σ H) : WhB W m tb D σ H := ⟨_, fun _ _ z => z, h⟩
theorem wh {c : TT} {tb : TS} (W : Nat → St → Hp → Prop) (m : Nat) (h0 : W m σ H) (hs : ∀ m σ H, W m σ H → c σ H fun b H1 => if b = true then WhB W m tb D σ H1 else D.nx σ H1) : tWhile c tb D σ H := ⟨W, ⟨m, h0⟩, hs⟩
/-- calls by values -/
theorem sumL {a : Addr} {ns : List Int} (h : SqL K H a (ns.map V.int)) (q : Q (.int ns.sum) H) : rSum K [.ref a] H Q := ⟨a, ns, rfl, h, q⟩
theorem gcd {a b : Int} (q : Q (.int ((Nat.gcd a.natAbs b.natAbs : Nat) : Int)) H) : rGcd [.int a, .int b] H Q := ⟨a, b, rfl, q⟩
theorem mkN {C : Addr} {sp : Sp} {Q : XK} (h : ∀ a, H a = none → sp [.ref a] (upd H a (exo a C none)) (fun v H2 => v = .non ∧ H2 a = some (exo a C none) ∧ Q (.ref C) none (del H2 a)) (fun _ _ _ => False)) : Sup.tMkN C sp σ H Q := h
theorem gtup {n : Nat} {t : TGs} {a : Addr} {xs : List V} {Q : St → Hp → Prop} (h : SqT K H a xs) (e : xs.length = n) (q : t xs σ H Q) : gTup K n t (.ref a) σ H Q := ⟨a, xs, rfl, h, e, q⟩
theorem gcons {t : TG} {u : TGs} {v : V} {r : List V} {Q : St → Hp → Prop} (q : t v σ H fun σ' H' => u r σ' H' Q) : gCons t u (v :: r) σ H Q := ⟨v, r, rfl, q⟩
theorem gnil {Q : St → Hp → Prop} (q : Q σ H) : gNil [] σ H Q := ⟨rfl, q⟩
theorem lenL {a : Addr} {xs : List V} (h : SqL K H a xs) (q : Q (.int xs.length) H) : rLenN K [.ref a] H Q := ⟨a, xs, rfl, .inl h, q⟩
theorem lenT {a : Addr} {xs : List V} (h : SqT K H a xs) (q : Q (.int xs.length) H) : rLenN K [.ref a] H Q := ⟨a, xs, rfl, .inr h, q⟩
theorem listL {a : Addr} {xs : List V} (h : SqL K H a xs) (q : ∀ p H1, H p = none → Kp [] H H1 → H1 p = some (.lst xs) → Q (.ref p) H1) : rListN K [.ref a] H Q := ⟨a, xs, rfl, .inl h, mk q⟩
theorem isi {A B : String} {x : V} {b : Bool} (ht : TyX K H x (.type A)) (hk : kitB A B = some b) (q : Q (.bl b) H) : rIsi K [x, .ty B] H Q := ⟨x, _, _, _, b, rfl, .ty _, ht, kit_ty hk, q⟩
theorem isiI {B : String} {a : Int} {b : Bool} (hk : kitB "int" B = some b) (q : Q (.bl b) H) : rIsi K [.int a, .ty B] H Q := isi (.base (.int _)) hk q
theorem atM {ns : List Int} {j : Nat} {x : Int} (h : ns[j]? = some x) : atI (ns.map V.int) (j : Int) = some (.int x) := atI_nat (by rw [List.getElem?_map, h]; rfl)
theorem ixN_nat {n j : Nat} (hj : j < n) : ixN n (j : Int) = some j := by
  unfold ixN
  rw [if_pos (by omega), if_pos (by omega)]
  simp
/-- a comprehension, a loop over range(n), over a list -/
def ForK (g : TG) (tb : TS) (D : Ends) (σ : St) (J : It) (H1 : Hp) : Prop := ∃ W : Nat → Nat → St → Hp → Prop, (∃ m, W 0 m σ H1) ∧ ∀ i m σ H, W i m σ H →
  (J.stop i H ∧ D.nx σ H) ∨ (J.go i H ∧ ∃ N : St → Hp → Prop, (∀ σ' H', N σ' H' → ∃ m', m' < m ∧ W (i + 1) m' σ' H') ∧ ∀ x H', J.yld i H x H' → g x σ H' fun σ2 H2 => tb { D with nx := N, ct := N, bk := D.nx } σ2 H2)
def LcK (g : TG) (tt : TT) (te : TE) (vs : List Nat) (σ : St) (Q : VK) (J : It) (H1 : Hp) : Prop := ∀ D, H1 D = none → ∃ W : Nat → Nat → Hp → Prop, (∃ m, W 0 m (upd H1 D (.lst []))) ∧ ∀ i m H, W i m H →
      (J.stop i H ∧ Q (.ref D) H) ∨ (J.go i H ∧ ∃ Nx : Hp → Prop, (∀ H', Nx H' → ∃ m', m' < m ∧ W (i + 1) m' H') ∧ ∀ x H', J.yld i H x H' → g x (wipe σ vs) H' fun σ2 H2 => wipe σ2 vs = wipe σ vs ∧ tt σ2 H2 fun b H3 => if b = true then te σ2 H3 fun y H4 => ∃ acc, H4 D = some (.lst acc) ∧ acc.length < sizeLine ∧ Nx (upd H4 D (.lst (acc ++ [y]))) else Nx H3)
def Rng1K (R : It → Hp → Prop) (vs : List V) (H1 : Hp) : Prop := ∃ j : Int, vs = [.int j] ∧ -(2 ^ 62) ≤ j ∧ j < 2 ^ 62 ∧ R (Itr 0 j.toNat) H1
def ListK (K : PySem.W.Frag) (R : It → Hp → Prop) (x : V) (H1 : Hp) : Prop := ∃ a, x = .ref a ∧ (∃ xs, SqL K H1 a xs) ∧ R (Itl K a) H1
theorem lc {wi : TI} {g : TG} {tt : TT} {vs : List Nat} (h : wi σ H (LcK g tt te vs σ Q)) : tLc wi g tt te vs σ H Q := h
theorem rng1 {a : TA} {R : It → Hp → Prop} (h : a σ H (Rng1K R)) : iRng1 a σ H R := h
theorem ilist {R : It → Hp → Prop} (h : ta σ H (ListK K R)) : iList K ta σ H R := h
theorem for_ {wi : TI} {g : TG} {tb : TS} (h : wi σ H (ForK g tb D σ)) : tFor wi g tb D σ H := h
/-- what one turn of a comprehension asks -/
def LcT (g : TG) (tt : TT) (te : TE) (vs : List Nat) (σ : St) (D : Addr) (P : Hp → Prop) (x : V) (H1 : Hp) : Prop := g x (wipe σ vs) H1 fun σ2 H2 => wipe σ2 vs = wipe σ vs ∧ tt σ2 H2 fun b H3 => if b = true then te σ2 H3 fun y H4 => ∃ acc, H4 D = some (.lst acc) ∧ acc.length < sizeLine ∧ P (upd H4 D (.lst (acc ++ [y]))) else P H3
theorem lcr {g : TG} {tt : TT} {vs : List Nat} {e : Int} (n : Nat) (he : e = (n : Int)) (hb : n < 4611686018427387904) (Pv : Addr → Nat → Hp → Prop) (h0 : ∀ D H1, H D = none → Kp [] H H1 → H1 D = some (.lst []) → Pv D 0 H1)
    (hs : ∀ D i H1, H D = none → i < n → Pv D i H1 → g (.int (i : Int)) (wipe σ vs) H1 fun σ2 H2 => wipe σ2 vs = wipe σ vs ∧ tt σ2 H2 fun b H3 => if b = true then te σ2 H3 fun y H4 => ∃ acc, H4 D = some (.lst acc) ∧ acc.length < sizeLine ∧ Pv D (i + 1) (upd H4 D (.lst (acc ++ [y]))) else Pv D (i + 1) H3)
    (hd : ∀ D H1, H D = none → Pv D n H1 → Q (.ref D) H1) : Rng1K (LcK g tt te vs σ Q) [.int e] H := by
  subst he
  refine ⟨(n : Int), rfl, by omega, by omega, fun D hD => ?_⟩
  rw [show ((n : Int)).toNat = n by simp]
  refine lc_range (lo := 0) (n := n) (Pv D) (h0 D _ hD (Kp.new hD) upd_same) (fun i H1 hi p => ?_) fun H1 p => hd D H1 hD p
  rw [show (0 : Int) + (i : Int) = (i : Int) by omega]
  exact hs D i H1 hD hi p
theorem lcl {g : TG} {tt : TT} {vs : List Nat} {a : Addr} (xs : List V) (hS : SqL K H a xs) (Pv : Addr → Nat → Hp → Prop) (h0 : ∀ D H1, H D = none → Kp [] H H1 → H1 D = some (.lst []) → Pv D 0 H1)
    (hl : ∀ D i H1, H D = none → i ≤ xs.length → Pv D i H1 → SqL K H1 a xs)
    (hs : ∀ D i x H1, H D = none → xs[i]? = some x → Pv D i H1 → g x (wipe σ vs) H1 fun σ2 H2 => wipe σ2 vs = wipe σ vs ∧ tt σ2 H2 fun b H3 => if b = true then te σ2 H3 fun y H4 => ∃ acc, H4 D = some (.lst acc) ∧ acc.length < sizeLine ∧ Pv D (i + 1) (upd H4 D (.lst (acc ++ [y]))) else Pv D (i + 1) H3)
    (hd : ∀ D H1, H D = none → Pv D xs.length H1 → Q (.ref D) H1) : ListK K (LcK g tt te vs σ Q) (.ref a) H :=
  ⟨a, rfl, ⟨xs, hS⟩, fun D hD => lc_list (K := K) (a := a) (xs := xs) (Pv D) (h0 D _ hD (Kp.new hD) upd_same) (fun i H1 hi p => hl D i H1 hD hi p) (fun i x H1 hx p => hs D i x H1 hD hx p) fun H1 p => hd D H1 hD p⟩
/-- over a tuple -/
def TupK (K : PySem.W.Frag) (R : It → Hp → Prop) (x : V) (H1 : Hp) : Prop := ∃ a, x = .ref a ∧ (∃ xs, SqT K H1 a xs) ∧ R (Itt K a) H1
theorem itup {R : It → Hp → Prop} (h : ta σ H (TupK K R)) : iTup K ta σ H R := h
theorem lct {g : TG} {tt : TT} {vs : List Nat} {a : Addr} (xs : List V) (hS : SqT K H a xs) (Pv : Addr → Nat → Hp → Prop) (h0 : ∀ D H1, H D = none → Kp [] H H1 → H1 D = some (.lst []) → Pv D 0 H1)
    (hl : ∀ D i H1, H D = none → i ≤ xs.length → Pv D i H1 → SqT K H1 a xs)
    (hs : ∀ D i x H1, H D = none → xs[i]? = some x → Pv D i H1 → g x (wipe σ vs) H1 fun σ2 H2 => wipe σ2 vs = wipe σ vs ∧ tt σ2 H2 fun b H3 => if b = true then te σ2 H3 fun y H4 => ∃ acc, H4 D = some (.lst acc) ∧ acc.length < sizeLine ∧ Pv D (i + 1) (upd H4 D (.lst (acc ++ [y]))) else Pv D (i + 1) H3)
    (hd : ∀ D H1, H D = none → Pv D xs.length H1 → Q (.ref D) H1) : TupK K (LcK g tt te vs σ Q) (.ref a) H :=
  ⟨a, rfl, ⟨xs, hS⟩, fun D hD => lc_tup (K := K) (a := a) (xs := xs) (Pv D) (h0 D _ hD (Kp.new hD) upd_same) (fun i H1 hi p => hl D i H1 hD hi p) (fun i x H1 hx p => hs D i x H1 hD hx p) fun H1 p => hd D H1 hD p⟩
theorem allL {a : Addr} {bs : List Bool} (h : SqL K H a (bs.map V.bl)) (q : Q (.bl (bs.all id)) H) : rAll K [.ref a] H Q := ⟨a, bs, rfl, h, q⟩
theorem anyL {a : Addr} {bs : List Bool} (h : SqL K H a (bs.map V.bl)) (q : Q (.bl (bs.any id)) H) : rAny K [.ref a] H Q := ⟨a, bs, rfl, h, q⟩
theorem forr {g : TG} {tb : TS} {e : Int} (n : Nat) (he : e = (n : Int)) (hb : n < 4611686018427387904) (Pv : Nat → St → Hp → Prop) (h0 : Pv 0 σ H)
    (hs : ∀ i σ H, i < n → Pv i σ H → g (.int (i : Int)) σ H fun σ2 H2 => tb { D with nx := Pv (i + 1), ct := Pv (i + 1), bk := D.nx } σ2 H2) (hd : ∀ σ H, Pv n σ H → D.nx σ H) : Rng1K (ForK g tb D σ) [.int e] H := by
  subst he
  refine ⟨(n : Int), rfl, by omega, by omega, ?_⟩
  rw [show ((n : Int)).toNat = n by simp]
  refine for_range (lo := 0) (n := n) Pv h0 (fun i σ H1 hi p => ?_) hd
  rw [show (0 : Int) + (i : Int) = (i : Int) by omega]
  exact hs i σ H1 hi p
theorem forl {g : TG} {tb : TS} {a : Addr} (xs : List V) (hS : SqL K H a xs) (Pv : Nat → St → Hp → Prop) (h0 : Pv 0 σ H) (hl : ∀ i σ H, i ≤ xs.length → Pv i σ H → SqL K H a xs)
    (hs : ∀ i x σ H, xs[i]? = some x → Pv i σ H → g x σ H fun σ2 H2 => tb { D with nx := Pv (i + 1), ct := Pv (i + 1), bk := D.nx } σ2 H2) (hd : ∀ σ H, Pv xs.length σ H → D.nx σ H) : ListK K (ForK g tb D σ) (.ref a) H :=
  ⟨a, rfl, ⟨xs, hS⟩, for_list (K := K) (a := a) (xs := xs) Pv h0 hl hs hd⟩
/-! texts -/
def StrK (R : It → Hp → Prop) (v : V) (H1 : Hp) : Prop := ∃ x, v = .str x ∧ R (Its x) H1
theorem istr {R : It → Hp → Prop} (h : ta σ H (StrK R)) : iStr ta σ H R := h
theorem fors {g : TG} {tb : TS} {x : Str} (Pv : Nat → St → Hp → Prop) (h0 : Pv 0 σ H)
    (hs : ∀ i c σ H, x.cps[i]? = some c → Pv i σ H → g (.str ⟨#[c]⟩) σ H fun σ2 H2 => tb { D with nx := Pv (i + 1), ct := Pv (i + 1), bk := D.nx } σ2 H2) (hd : ∀ σ H, Pv x.cps.size σ H → D.nx σ H) : StrK (ForK g tb D σ) (.str x) H :=
  ⟨x, rfl, for_it walk_str Pv h0 (fun _ _ _ _ _ => trivial) (fun i v σ H H' hi p y => by obtain ⟨rfl, c, hc, rfl⟩ := y; exact hs i c σ _ hc p) hd⟩
theorem lcs {g : TG} {tt : TT} {vs : List Nat} {x : Str} (Pv : Addr → Nat → Hp → Prop) (h0 : ∀ D H1, H D = none → Kp [] H H1 → H1 D = some (.lst []) → Pv D 0 H1)
    (hs : ∀ D i c H1, H D = none → x.cps[i]? = some c → Pv D i H1 → g (.str ⟨#[c]⟩) (wipe σ vs) H1 fun σ2 H2 => wipe σ2 vs = wipe σ vs ∧ tt σ2 H2 fun b H3 => if b = true then te σ2 H3 fun y H4 => ∃ acc, H4 D = some (.lst acc) ∧ acc.length < sizeLine ∧ Pv D (i + 1) (upd H4 D (.lst (acc ++ [y]))) else Pv D (i + 1) H3)
    (hd : ∀ D H1, H D = none → Pv D x.cps.size H1 → Q (.ref D) H1) : StrK (LcK g tt te vs σ Q) (.str x) H :=
  ⟨x, rfl, fun D hD => lc_it walk_str (Pv D) (h0 D _ hD (Kp.new hD) upd_same) (fun _ _ _ _ => trivial) (fun i v H H' hi p y => by obtain ⟨rfl, c, hc, rfl⟩ := y; exact hs D i c _ hD hc p) fun H1 p => hd D H1 hD p⟩
theorem lenS {x : Str} (hz : x.cps.size ≤ 10000000) (q : Q (.int (x.cps.size : Nat)) H) : rLenS [.str x] H Q := ⟨x, rfl, hz, q⟩
/-! enumerate -/
def EnumK (K : PySem.W.Frag) (R : It → Hp → Prop) (vs : List V) (H1 : Hp) : Prop := ∃ a xs, vs = [.ref a] ∧ SqL K H1 a xs ∧ R (Ite K a) H1
theorem ienum {a : TA} {R : It → Hp → Prop} (h : a σ H (EnumK K R)) : iEnum K a σ H R := h
theorem fore {g : TG} {tb : TS} {a : Addr} (xs : List V) (hS : SqL K H a xs) (Pv : Nat → St → Hp → Prop) (h0 : Pv 0 σ H) (hl : ∀ i σ H, i ≤ xs.length → Pv i σ H → SqL K H a xs)
    (hs : ∀ i x σ H H' T, xs[i]? = some x → Pv i σ H → H T = none → Kp [] H H' → H' T = some (.tup [.int (i : Nat), x]) → g (.ref T) σ H' fun σ2 H2 => tb { D with nx := Pv (i + 1), ct := Pv (i + 1), bk := D.nx } σ2 H2) (hd : ∀ σ H, Pv xs.length σ H → D.nx σ H) : EnumK K (ForK g tb D σ) [.ref a] H :=
  ⟨a, xs, rfl, hS, for_it (walk_enum (K := K) (a := a) (xs := xs)) Pv h0 hl (fun i v σ H H' hi p y => by
    obtain ⟨T, x, z, rfl, h1, rfl, h2, h3⟩ := y
    cases h2
    exact hs i z σ H _ T h3 p h1 (Kp.new h1) upd_same) hd⟩
/-! dicts -/
theorem dnew (h : ∀ p H1, H p = none → Kp [] H H1 → H1 p = some (.dK []) → Q (.ref p) H1) : tDNewK σ H Q := mk h
theorem din {ty td : TE} (h : ty σ H fun y H1 => td σ H1 fun x H2 => ∃ a o, x = .ref a ∧ DGet H2 a y o ∧ Q (.bl o.isSome) H2) : tDIn ty td σ H Q := h
theorem dput {td ty tv : TE} (h : tv σ H fun v H1 => td σ H1 fun x H2 => ty σ H2 fun y H3 => ∃ a H4, x = .ref a ∧ DPut H3 a y v H4 ∧ D.nx σ H4) : sDPut td ty tv D σ H := h
theorem dget2 {td ty tx : TE} (h : td σ H fun x H1 => ∃ a, x = .ref a ∧ IsD H1 a ∧ ty σ H1 fun y H2 => tx σ H2 fun z H3 => ∃ o, DGet H3 a y o ∧ Q (o.getD z) H3) : tDGet2 td ty tx σ H Q := h
theorem dget {td ty : TE} (h : td σ H fun x H1 => ty σ H1 fun y H2 => ∃ a v, x = .ref a ∧ DGet H2 a y (some v) ∧ Q v H2) : tDGet td ty σ H Q := h
/-! lists and tuples -/
theorem ixA {p : Addr} {xs : List V} {j : Int} (h : SqL K H p xs ∨ SqT K H p xs) (e : atI xs j = some v) (q : Q v H) : rIx K (.ref p) (.int j) H Q := h.elim (fun h => .inl (ixL h e q)) (fun h => .inr (.inl (ixT h e q)))
theorem lenA {a : Addr} {xs : List V} (h : SqL K H a xs ∨ SqT K H a xs) (q : Q (.int xs.length) H) : rLenN K [.ref a] H Q := ⟨a, xs, rfl, h, q⟩
theorem sl {r : V → Option Int → Option Int → Hp → VK → Prop} {tl th : TO} (h : ta σ H fun x H1 => tl σ H1 fun l H2 => th σ H2 fun u H3 => r x l u H3 Q) : tSl r ta tl th σ H Q := h
theorem slno {Q : Option Int → Hp → Prop} (h : Q none H) : tNoPart σ H Q := h
theorem slpart {Q : Option Int → Hp → Prop} (h : ta σ H fun x H1 => ∃ i, x = .int i ∧ Q (some i) H1) : tPart ta σ H Q := h
theorem bint {i : Int} {q : Int → Prop} (h : q i) : ∃ k, V.int i = .int k ∧ q k := ⟨i, rfl, h⟩
theorem slL {p : Addr} {xs : List V} {lo hi : Option Int} (h : SqL K H p xs) (q : ∀ d H1, H d = none → Kp [] H H1 → H1 d = some (.lst (cutV xs lo hi)) → Q (.ref d) H1) : rSlL K (.ref p) lo hi H Q := ⟨p, xs, rfl, h, mk q⟩
theorem cut_take {xs : List V} {k : Nat} (h : k ≤ xs.length) : cutV xs none (some (k : Int)) = xs.take k := by
  unfold cutV
  rw [HT.sIx_none, HT.sIx_nat, List.drop_zero, Nat.sub_zero, Nat.min_eq_left h]
theorem cut_drop {xs : List V} {k : Nat} (h : k ≤ xs.length) : cutV xs (some (k : Int)) none = xs.drop k := by
  unfold cutV
  rw [HT.sIx_none, HT.sIx_nat, Nat.min_eq_left h]
  exact List.take_of_length_le (by rw [List.length_drop] <;> omega)
theorem inq {neg : Bool} {p : Addr} {xs : List V} (h : SqL K H p xs ∨ SqT K H p xs) (fx : flatV x = true) (fs : xs.all flatV = true) (q : Q (.bl (if neg then !inV x xs else inV x xs)) H) : rIn K neg x (.ref p) H Q := ⟨p, xs, rfl, h, fx, fs, q⟩
theorem inV_strs {a : Str} {l : List Str} : inV (.str a) (l.map V.str) = decide (a ∈ l) := by
  unfold inV
  induction l with
  | nil => simp
  | cons b r ih =>
    rw [List.map_cons, List.any_cons, ih]
    show ((b == a) || _) = _
    by_cases e : b = a
    · subst e; simp
    · have e' : ¬ a = b := fun z => e z.symm
      simp [e, e']
theorem strs_flat {l : List Str} : (l.map V.str).all flatV = true := by simp [flatV]
theorem pop {l : Addr} {xs : List V} {y : V} (h : H l = some (.lst xs)) (e : xs[xs.length - 1]? = some y) (q : Q y (upd H l (.lst xs.dropLast))) : rPop (.ref l) [] H Q := ⟨l, xs, y, rfl, rfl, h, e, q⟩
def LRK (K : PySem.W.Frag) (Q : VK) (x : V) (H1 : Hp) : Prop := ∃ a xs, x = .ref a ∧ SqL K H1 a xs ∧ ∀ p, H1 p = none → Q (.ref p) (upd H1 p (.lst xs.reverse))
theorem listrev (h : ta σ H (LRK K Q)) : RL.tListRev K ta σ H Q := h
theorem lrk {a : Addr} {xs : List V} (hS : SqL K H a xs) (q : ∀ p H1, H p = none → Kp [] H H1 → H1 p = some (.lst xs.reverse) → Q (.ref p) H1) : LRK K Q (.ref a) H := ⟨a, xs, rfl, hS, mk q⟩
theorem popS {l : Addr} {xs : List V} {y : V} (h : H l = some (.lst (xs ++ [y]))) (q : Q y (upd H l (.lst xs))) : rPop (.ref l) [] H Q := ⟨l, _, y, rfl, rfl, h, by simp, by rw [List.dropLast_concat]; exact q⟩
theorem extT {l b : Addr} {xs zs : List V} (h : H l = some (.lst xs)) (h2 : H b = some (.tup zs)) (hz : xs.length + zs.length ≤ 10000000) (q : Q .non (upd H l (.lst (xs ++ zs)))) : RL.rExtT (.ref l) [.ref b] H Q := ⟨l, b, xs, zs, rfl, rfl, h, h2, Nat.le_trans hz (by decide), q⟩
theorem slT {p : Addr} {xs : List V} {k : Nat} (h : SqT K H p xs) (h0 : 0 < k) (h1 : k ≤ xs.length) (q : ∀ d H1, H d = none → Kp [] H H1 → H1 d = some (.tup (xs.drop k)) → Q (.ref d) H1) : rSlT K (.ref p) (some (k : Int)) none H Q := ⟨p, xs, rfl, h, fun z => by
  rw [HT.sIx_nat, Nat.min_eq_left h1] at z
  omega, mk (by rw [cut_drop h1]; exact q)⟩
theorem revl (h : ta σ H (LRK K Q)) : tRevL K ta σ H Q := h
theorem idx {a : Addr} {ys : List V} {y : V} (j : Nat) {z : V} (hS : SqL K H a ys) (fy : flatV y = true) (fs : ys.all flatV = true) (hz : ys[j]? = some z) (hy : eqV z y = true) (hn : ∀ (m : Nat) (z' : V), m < j → ys[m]? = some z' → eqV z' y = false) (q : Q (.int (j : Nat)) H) : rIndex K (.ref a) [y] H Q := ⟨a, ys, y, j, z, rfl, rfl, hS, fy, fs, hz, hy, hn, q⟩
theorem truL {p : Addr} {xs : List V} {q : Bool → Prop} (h : H p = some (.lst xs)) (hq : q (!xs.isEmpty)) : ∃ k, TruV K (.ref p) H k ∧ q k := ⟨_, .inl ⟨xs, lstL h, rfl⟩, hq⟩
theorem glst {n : Nat} {t : TGs} {a : Addr} {xs : List V} {Q : St → Hp → Prop} (h : SqL K H a xs) (e : xs.length = n) (q : t xs σ H Q) : gLst K n t (.ref a) σ H Q := ⟨a, xs, rfl, h, e, q⟩
def rSplitQ : V → List V → Hp → VK → Prop := fun x xs H Q => ∃ a b, x = .str a ∧ xs = [.str b] ∧ (b.length == 0) = false ∧ a.length + 2 ≤ sizeLine ∧ rNewStrs (Txt.split a b) H Q
theorem m_split {X : Cx} : MtR X "str.split" rSplitQ := mt_split
theorem split {a b : Str} (hb : (b.length == 0) = false) (hz : a.length ≤ 10000000) (q : ∀ p H1, H p = none → Kp [] H H1 → H1 p = some (.lst ((Txt.split a b).map V.str)) → Q (.ref p) H1) : rSplitQ (.str a) [.str b] H Q := ⟨a, b, rfl, rfl, hb, Nat.le_trans (Nat.add_le_add_right hz 2) (by decide), mk q⟩
def EnSK (K : PySem.W.Frag) (R : It → Hp → Prop) (vs zs : List V) (H2 : Hp) : Prop := ∃ a xs k, vs = [.ref a] ∧ zs = [.int k] ∧ -(2 ^ 63) ≤ k ∧ k < 2 ^ 63 ∧ SqL K H2 a xs ∧ R (RL.IteS K a k) H2
theorem ienumS {a b : TA} {R : It → Hp → Prop} (h : a σ H fun vs H1 => b σ H1 fun zs H2 => EnSK K R vs zs H2) : RL.iEnumS K a b σ H R := h
theorem walk_enumS {a : Addr} {xs : List V} {k : Int} : Walk (RL.IteS K a k) xs.length (fun H => SqL K H a xs) (YPair (fun i => some (.int (k + (i : Nat)))) (fun i => xs[i]?)) := by
  refine ⟨fun i _ hi q => ⟨xs, xs[i], q, by simp [hi]⟩, fun _ q => ⟨xs, q, rfl⟩, fun i H v H' _ q y => ?_⟩
  obtain ⟨T, x, h1, h2, h3, h4⟩ := y
  exact ⟨T, .int (k + (i : Nat)), x, h1, h2, h3, rfl, h4 xs q⟩
theorem fores {g : TG} {tb : TS} {a : Addr} {k : Int} (xs : List V) (hk0 : -(2 ^ 63) ≤ k) (hk1 : k < 2 ^ 63) (hS : SqL K H a xs) (Pv : Nat → St → Hp → Prop) (h0 : Pv 0 σ H) (hl : ∀ i σ H, i ≤ xs.length → Pv i σ H → SqL K H a xs)
    (hs : ∀ i x σ H H' T, xs[i]? = some x → Pv i σ H → H T = none → Kp [] H H' → H' T = some (.tup [.int (k + (i : Nat)), x]) → g (.ref T) σ H' fun σ2 H2 => tb { D with nx := Pv (i + 1), ct := Pv (i + 1), bk := D.nx } σ2 H2) (hd : ∀ σ H, Pv xs.length σ H → D.nx σ H) : EnSK K (ForK g tb D σ) [.ref a] [.int k] H :=
  ⟨a, xs, k, rfl, rfl, hk0, hk1, hS, for_it (walk_enumS (K := K) (a := a) (xs := xs) (k := k)) Pv h0 hl (fun i v σ H H' hi p y => by
    obtain ⟨T, x, z, rfl, h1, rfl, h2, h3⟩ := y
    cases h2
    exact hs i z σ H _ T h3 p h1 (Kp.new h1) upd_same) hd⟩
/-- an f-string of two parts or more -/
def tJoin (ts : List TE) : TE := fun σ H Q => tJs ts Str.empty σ H fun out H1 => Q (.str out) H1
theorem pe_joinedN {X : Cx} {v1 v2 : Expr} {rest : List Expr} {ts : List TE} {pos : Pos} (h : PJ X (v1 :: v2 :: rest) ts) : PE X (.JoinedStr (v1 :: v2 :: rest) pos) (tJoin ts) := pe_joined h
def rJoinQ (K : PySem.W.Frag) : V → List V → Hp → VK → Prop := fun x xs H Q => ∃ a p, ∃ ys : List Str, x = .str a ∧ xs = [.ref p] ∧ (SqL K H p (ys.map V.str) ∨ SqT K H p (ys.map V.str)) ∧ (ys.map (·.length)).sum + ys.length * a.length ≤ 16777216 ∧ Q (.str (Txt.join a ys)) H
theorem m_join {X : Cx} : MtR X "str.join" (rJoinQ X.K) := mt_join
theorem join {a : Str} {p : Addr} {ys : List Str} (h : SqL K H p (ys.map V.str)) (hz : (ys.map (·.length)).sum + ys.length * a.length ≤ 16777216) (q : Q (.str (Txt.join a ys)) H) : rJoinQ K (.str a) [.ref p] H Q := ⟨a, p, ys, rfl, rfl, .inl h, hz, q⟩
theorem lens_le {n : Nat} : ∀ {ys : List Str}, (∀ y ∈ ys, y.length ≤ n) → (ys.map (·.length)).sum ≤ n * ys.length
  | [], _ => by simp
  | y :: r, h => by
    have h1 := h y (by simp)
    have h2 := lens_le (n := n) (ys := r) fun z hz => h z (by simp [hz])
    rw [List.map_cons, List.sum_cons, List.length_cons, Nat.mul_add]
    omega
theorem mulS {x : Str} {k : Nat} (h1 : 2 ≤ k) (h2 : k ≤ 100000) (h3 : 1 ≤ x.length) (h4 : x.length ≤ 100) (q : Q (.str (RL.repS x k)) H) : RL.rMulS (.str x) (.int (k : Int)) H Q := ⟨x, k, rfl, rfl, h1, h2, h3, h4, q⟩
theorem cat {l b : Addr} {xs zs : List V} (h : H l = some (.lst xs)) (h2 : H b = some (.lst zs)) (hz : xs.length + zs.length ≤ 100000) (q : ∀ p H1, H p = none → Kp [] H H1 → H1 p = some (.lst (xs ++ zs)) → Q (.ref p) H1) : rCat (.ref l) (.ref b) H Q := ⟨l, b, xs, zs, rfl, rfl, h, h2, Nat.le_trans hz (by decide), mk q⟩
end
end Z

/-! ### ClsM: classmethods and methods within a try, a class in a local name -/
namespace ClsM
open PySem PySem.Spec PyProof.Rows L2
/-- how the text of o.m(..) is run -/
abbrev MForm (X : Cx) (o : Expr) (m : Str) (es : List Expr) (apos pos : Pos) (pl : Sem Bool) : Prop := eval (.Call (.Attribute o m apos) es [] pos) X.env = (do let ov ← eval o X.env; standAt apos.atName; let (f, first) ← holding [ov] (getMethod ov m pl); callWith pos f first (backTo pos (starEach es X.env)) (backToKw pos (keywordEach [] X.env)))
section
variable {X : Cx} {CX : CXT} {k i : Nat} {f C p g : Addr} {fd : FuncData} {ps : List Str} {sp : Sp} {E : L2.St → XK} {E1 : XK} {m x : Str} {pos apos : Pos} {o e : Expr} {es : List Expr} {ta : TE} {t : TA} {pl : Sem Bool} {mc : Value}
/-- o.m(e, ..) within a try -/
def tMethA (C : Addr) (m : Str) (sp : Sp) (E : L2.St → XK) (ta : TE) (t : TA) : TE := fun σ H Q => ta σ H fun x H1 => ∃ a dx fs, x = .ref a ∧ H1 a = some (.ins C dx fs) ∧ fs.lookup m = none ∧ t σ H1 fun vs H2 => sp (x :: vs) H2 Q (E σ)
theorem pe_methA (he : PE X o ta) (c : Cls X.K C) (hm : Meth X.K C m f) (F : FnOk X.prog X.w X.K X.mg X.base CX k f fd ps sp) (hr : Room k X.A) (hb : Binds X.K fd ps []) (hx : ∀ σ, PassesAt CX X σ (E σ)) (ha : PA X (e :: es) t) (hst : starEach (e :: es) X.env = (false, eval e X.env) :: starEach es X.env := by rfl) (hpl : (backTo pos (starEach es X.env)).any (·.1) = false := by rfl) (ht : MForm X o m (e :: es) apos pos pl := by rfl) :
    PE X (.Call (.Attribute o m apos) (e :: es) [] pos) (tMethA C m sp E ta t) := by
  refine ⟨fun pins s σ H Q I h => PySem.W.methodCall_KW (pl := pl) (thn (he.run pins s σ H _ I h) fun u s1 ⟨x, H1, I1, rx, a, dx, fs, ex, ea, l, q⟩ => ?_) ht⟩
  subst ex
  obtain rfl : u = Value.ref a := rx
  exact getmeth_ok I1 ea c hm l (PySem.W.callWith_K (first := [.ref a]) (h₀ := X.base) I.ok.mod.kin hm.kp (thn (ha.run pos pins s1 σ H1 _ I1 q) fun us s2 ⟨vs, H2, I2, r, q2⟩ => ⟨I2.kIn, run_fnS (us := .ref a :: us) (vs := .ref a :: vs) F hr hb (hx σ) I2 (.cons rfl r) q2⟩) hst hpl)
theorem methA {σ : L2.St} {H : Hp} {Q : VK} (h : ta σ H fun x H1 => ∃ a dx fs, x = .ref a ∧ H1 a = some (.ins C dx fs) ∧ fs.lookup m = none ∧ t σ H1 fun vs H2 => sp (x :: vs) H2 Q (E σ)) : tMethA C m sp E ta t σ H Q := h
/-- the call of a bound classmethod, at the slots σ -/
theorem run_cmS {q : Addr} {pins : List (Addr × Obj)} {σ : L2.St} {H : Hp} {s : Shared} {Q : VK} {us : List Value} {vs : List V} (F : FnOk X.prog X.w X.K X.mg X.base CX k g fd ps sp) (hb : Binds X.K fd ps []) (hr : Room k X.A) (hx : PassesAt CX X σ (E σ)) (I : Inv X ((q, PySem.W.methodObj (.ref g) (.ref C)) :: pins) σ H s) (r : Vals vs us) (h : sp (.ref C :: vs) H Q (E σ)) : wpAny (model X.prog X.w) X.A (call (.ref q) us) (EP X pins σ Q) X.xe s := by
  have hl : (Value.ref C :: us).length = ps.length := by rw [← F.len _ _ _ _ h]; exact congrArg Nat.succ r.length.symm
  have b := hb s (.ref C :: us) I.kIn (by rw [List.append_nil]; exact hl)
  rw [List.append_nil] at b
  have z : wpAny (model X.prog X.w) X.A (call (.ref q) us) (EP X ((q, PySem.W.methodObj (.ref g) (.ref C)) :: pins) σ Q) X.xe s := by
    refine wpAny_call (PySem.W.method_call (ClX.pin_at I) (codeAny_mono (F.run X.A X.stack s H ⟨.ref C :: us, []⟩ (.ref C :: us) (.ref C :: vs) Q (E σ) hr I.env0 b (.cons rfl r) h) fun y s' hq => ?_))
    match y, hq with
    | .error e, hq => exact hx _ H s e s' I hq
    | .ok (.ret u), hq => exact I.after hq
    | .ok .next, hq => exact False.elim hq
    | .ok .brk, hq => exact False.elim hq
    | .ok .cont, hq => exact False.elim hq
  exact thn z fun _ _ y => ClX.unpinE y
/-- C.m(e, ..), m a classmethod of the class C, within a try -/
def tCMeth (C : Addr) (sp : Sp) (E : L2.St → XK) (ta : TE) (t : TA) : TE := fun σ H Q => ta σ H fun x H1 => x = .ref C ∧ t σ H1 fun vs H2 => sp (.ref C :: vs) H2 Q (E σ)
theorem pe_cm (he : PE X o ta) (r : ClX.CRead X.K C mc) (c : ClX.CMet X.K C mc m p g) (F : FnOk X.prog X.w X.K X.mg X.base CX k g fd ps sp) (hb : Binds X.K fd ps []) (hr : Room k X.A) (hx : ∀ σ, PassesAt CX X σ (E σ)) (ha : PA X (e :: es) t) (hst : starEach (e :: es) X.env = (false, eval e X.env) :: starEach es X.env := by rfl) (hpl : (backTo pos (starEach es X.env)).any (·.1) = false := by rfl) (ht : MForm X o m (e :: es) apos pos pl := by rfl) :
    PE X (.Call (.Attribute o m apos) (e :: es) [] pos) (tCMeth C sp E ta t) := by
  refine ⟨fun pins s σ H Q I h => PySem.W.methodCall_KW (pl := pl) (thn (he.run pins s σ H _ I h) fun u s1 ⟨x, H1, I1, rx, ex, q⟩ => ?_) ht⟩
  subst ex
  obtain rfl : u = Value.ref C := rx
  refine ClX.getmethcm_ok I1 r c fun s2 I2 => ClX.callwith_cm I2 (ClX.base_none I1 (Nat.le_refl _)) c.fi (thn (ha.run pos _ s2 σ H1 _ I2 q) fun us s3 ⟨vs, H2, I3, rv, q2⟩ => ⟨⟨ClX.pin_at I3, I3.kIn⟩, ?_⟩) hst hpl
  exact run_cmS F hb hr (hx σ) I3 rv q2
theorem cm {σ : L2.St} {H : Hp} {Q : VK} (h : ta σ H fun x H1 => x = .ref C ∧ t σ H1 fun vs H2 => sp (.ref C :: vs) H2 Q (E σ)) : tCMeth C sp E ta t σ H Q := h
theorem passC {E0 : XK} (hx : Passes CX X E0) (σ : L2.St) : PassesAt CX X σ ((fun _ => E0) σ) := fun pins H s e s' I c => hx pins σ H s e s' I c
/-- n(e, ..), the local n the class C -/
def tMakeL (i : Nat) (C : Addr) (sp : Sp) (t : TA) : TE := fun σ H Q => σ[i]? = some (some (.ref C)) ∧ t σ H fun vs H1 => ∀ x dx, H1 x = none → H1 dx = none → dx ≠ x → sp (.ref x :: (vs ++ [])) (upd (upd H1 dx (.own x)) x (.ins C dx [])) (fun v H2 => v = .non ∧ Q (.ref x) H2) E0
theorem pe_makeL {pp : Pos} (M : Mk X.K C f) (F : FnOk X.prog X.w X.K X.mg X.base CX k f fd ps sp) (hr : Room (k + 1) X.A) (hN : X.N[i]? = some x) (hv : Vis X.env.scope x) (hb : Binds X.K fd ps []) (hx : Passes CX X E0) (ha : PA X (e :: es) t) (hdb : (x == ("__debug__" : Str)) = false := by decide) (hcd : (x == ("__classdict__" : Str)) = false := by decide)
    (he : starEach (e :: es) X.env = (false, eval e X.env) :: starEach es X.env := by rfl) (hpl : (backTo pos (starEach es X.env)).any (·.1) = false := by rfl) : PE X (.Call (.Name x pp) (e :: es) [] pos) (tMakeL i C sp t) := by
  refine ⟨fun pins s σ H Q I ⟨hs, ht⟩ => wpAny_Call_Name_kw (thn ((pe_var (pos := pp) hN hv hdb hcd).run pins s σ H (fun v H1 => v = .ref C ∧ H1 = H) I ⟨.ref C, hs, rfl, rfl⟩) fun u s1 ⟨v, H1, I1, r1, q1⟩ => ?_)⟩
  obtain ⟨rfl, rfl⟩ := q1
  cases r1
  exact PySem.W.callWith_K (h₀ := X.base) I.ok.mod.kin M.kp (thn (ha.run pos pins s1 σ _ _ I1 ht) fun us s2 ⟨vs, H2, I2, r, q⟩ => ⟨I2.kIn, run_make M F hr hb .nil hx I2 r q⟩) he hpl
theorem makeL {σ : L2.St} {H : Hp} {Q : VK} (hs : σ[i]? = some (some (.ref C))) (h : t σ H fun vs H1 => ∀ x dx, H1 x = none → H1 dx = none → dx ≠ x → sp (.ref x :: (vs ++ [])) (upd (upd H1 dx (.own x)) x (.ins C dx [])) (fun v H2 => v = .non ∧ Q (.ref x) H2) E0) : tMakeL i C sp t σ H Q := ⟨hs, h⟩
theorem fldK {f : Str} (K : PySem.W.Frag) (hK : X.K = K) (h : PE X e (tFld X.K ta f)) : PE X e (tFld K ta f) := hK ▸ h
theorem bmK {T : String} {r : V → List V → Hp → VK → Prop} (K : PySem.W.Frag) (hK : X.K = K) (h : PE X e (tBM X.K T r ta t)) : PE X e (tBM K T r ta t) := hK ▸ h
end
end ClsM

/-! ### Many: a try with several clauses, with or without names -/
namespace Many
open PySem PySem.Spec PyProof.Rows L2
/-- a clause: its class, the slot of its name, what its suite does -/
structure Cl where
  c : Value
  at_ : Option Nat
  ts : Addr → Value → Option Addr → TS
def gone : Option Nat → L2.St → L2.St
  | none, σ => σ
  | some i, σ => σ.set i none
def bound : Option Nat → Addr → L2.St → L2.St
  | none, _, σ => σ
  | some i, a, σ => σ.set i (some (.ref a))
def ends : Option Nat → Ends → Ends
  | none, D => D
  | some i, D => { nx := fun σ H => D.nx (σ.set i none) H, rt := D.rt, bk := fun σ H => D.bk (σ.set i none) H, ct := fun σ H => D.ct (σ.set i none) H }
/-- what the clauses wish, the first that fits -/
def wish (K : PySem.W.Frag) (out : WX) (D : Ends) : List Cl → WX
  | [] => out
  | k :: r => fun cls d σ H => ∃ b, PySem.W.exmOne K cls k.c = some b ∧ (b = true → ∀ a, H a = none → k.ts a cls d (ends k.at_ D) (bound k.at_ a σ) H) ∧ (b = false → wish K out D r cls d σ H)
theorem wish_yes {K : PySem.W.Frag} {out : WX} {D : Ends} {k : Cl} {r : List Cl} {cls : Value} {d : Option Addr} {σ : L2.St} {H : Hp} (e : PySem.W.exmOne K cls k.c = some true) (h : ∀ a, H a = none → k.ts a cls d (ends k.at_ D) (bound k.at_ a σ) H) : wish K out D (k :: r) cls d σ H := ⟨true, e, fun _ => h, fun z => by cases z⟩
theorem wish_no {K : PySem.W.Frag} {out : WX} {D : Ends} {k : Cl} {r : List Cl} {cls : Value} {d : Option Addr} {σ : L2.St} {H : Hp} (e : PySem.W.exmOne K cls k.c = some false) (h : wish K out D r cls d σ H) : wish K out D (k :: r) cls d σ H := ⟨false, e, (fun z => by cases z), fun _ => h⟩
inductive Ok (X : Cx) : List ExceptHandler → List Cl → Prop
  | nil : Ok X [] []
  | bare {x : Str} {c : Value} {ts : Addr → Value → Option Addr → TS} {b₀ : Stmt} {su : List Stmt} {p q : Pos} {hs : List ExceptHandler} {l : List Cl} (hc : Names X x c) (hb : ∀ (a : Addr) (oe : Obj) (cls : Value) (d : Option Addr) (pn : List (Addr × Obj)), Zc cls d oe → (∃ vs, oe.data = .fields vs) → PSs (X.suite a ((a, oe) :: pn)) (b₀ :: su) (ts a cls d)) (r : Ok X hs l) : Ok X (.ExceptHandler (some (.Name x p)) none (b₀ :: su) q :: hs) (⟨c, none, ts⟩ :: l)
  | named {x n : Str} {c : Value} {ts : Addr → Value → Option Addr → TS} {i : Nat} {b₀ : Stmt} {su : List Stmt} {p q : Pos} {hs : List ExceptHandler} {l : List Cl} (hN : X.N.Nodup) (hi : X.N[i]? = some n) (hl : X.env.kindOf n = some .local) (hc : Names X x c) (hb : ∀ (a : Addr) (oe : Obj) (cls : Value) (d : Option Addr) (pn : List (Addr × Obj)), Zc cls d oe → (∃ vs, oe.data = .fields vs) → PSs (X.suite a ((a, oe) :: pn)) (b₀ :: su) (ts a cls d)) (r : Ok X hs l) : Ok X (.ExceptHandler (some (.Name x p)) (some n) (b₀ :: su) q :: hs) (⟨c, some i, ts⟩ :: l)
section
variable {X : Cx} {body : List Stmt} {h₀ : ExceptHandler} {hds : List ExceptHandler} {l : List Cl} {pos : Pos} {tb : WX → TS} {out : WX}
theorem ps_try_named (hs : X.stack = X.env :: X.outer) (hf : X.env.frame = some X.env.locals) (tk : Takes X out)
    (hb : ∀ (W : WX) (pn : List (Addr × Obj)) (xe : Value → Shared → Prop), Takes (X.tr pn xe) W → PassesOwn (model X.prog X.w) X.A X.env xe → PSs (X.tr pn xe) body (tb W)) (hh : Ok X (h₀ :: hds) l) :
    PS X (.Try body (h₀ :: hds) [] [] pos) (fun D σ H => tb (wish X.K out D l) D σ H) := by
  refine ⟨fun pins s σ H D I h => ?_⟩
  have ok := I.ok; have hfr : X.A.frames = some (X.env :: X.outer) := by rw [ok.frames, hs]
  refine wpAny_Try_except ?_
  refine wpAny_mono ((hb (wish X.K out D l) (X.pn ++ pins) (fun e s₁ => wpAny (model X.prog X.w) X.A (noteFrame e X.env) (fun _ s₂ => wpAny (model X.prog X.w) X.A (setFlight e none) (fun _ s₃ => wpAny (model X.prog X.w) X.A (handleBy e X.env (h₀ :: hds)) (SP X pins D) X.xe s₃) X.xe s₂) X.xe s₁) (fun u s' xx => ?_) PassesOwn.looking).run [] s σ H D (I.toTry _) h) (fun f s1 hsp => ?_) (fun e s1 he => he)
  · obtain ⟨a, B, sI, pins', σ', H', cls, d, rfl, J', nb, up, sky, na, os, ag, w⟩ := xx
    have J : Inv X pins σ' H' sI := J'.ofTry ok; have sky' : Sky B (X.env :: X.outer) a (Zc cls d) X.env.locals s'.heap := by rw [← hs]; exact sky
    show wpAny (model X.prog X.w) X.A (noteFrame (.ref a) X.env) _ _ _
    refine Sky.land Zc.steady hfr hf sky' fun h3 fl3 up3 => ?_
    have J3 : Inv X pins σ' H' { s' with heap := h3 } := J.landed nb fl3.1 (up.trans up3) os ag; obtain ⟨oe3, vs3, he3, hz3, hd3⟩ := fl3.there
    have nfr : a ∉ frs (X.env :: X.outer) := fun hm => by
      obtain ⟨_, o', e', hnf⟩ := fl3.2.2.1.mem hm
      rw [he3] at e'; cases e'; exact hnf _ hd3
    have nL : a ≠ X.env.locals := fun z => nfr (List.mem_filterMap.mpr ⟨X.env, List.mem_cons_self, by rw [hf, z]⟩)
    have nF : a ∉ X.fs := fun hm => by
      obtain ⟨e, he, q⟩ := List.mem_filterMap.mp hm; exact nfr (List.mem_filterMap.mpr ⟨e, List.mem_cons_of_mem _ he, q⟩)
    have S3 := J3.suite he3 hd3 na nL nF
    have go : ∀ {hs' : List ExceptHandler} {l' : List Cl}, Ok X hs' l' → wish X.K out D l' cls d σ' H' → wpAny (model X.prog X.w) X.A (handleBy (.ref a) X.env hs') (SP X pins D) X.xe { s' with heap := h3 } := by
      intro hs' l' hk
      have test : ∀ {x : Str} {c : Value} {np : Pos} {Q : Value → Shared → Prop} {E : Value → Shared → Prop}, Names X x c → Q c { s' with heap := h3 } → wpAny (model X.prog X.w) (X.A.mark (some (.ref a))) (eval (.Name x np) X.env) Q E { s' with heap := h3 } := fun {x c np Q E} hc q => by
        obtain ⟨hg, hdbg, hm | ⟨hm, hv, hnn⟩⟩ := hc
        · exact ld_glob (X := X.suite a ((a, oe3) :: (X.pn ++ pins))) S3 hg hm q hdbg
        · exact ld_blt (X := X.suite a ((a, oe3) :: (X.pn ++ pins))) S3 hg hm hv q hnn hdbg
      have LT : PySem.W.Looks (model X.prog X.w) h3 (typeOf (.ref a)) cls := fun A Q E s k q => wpAny_typeOf_ref (k _ _ he3) (by rw [hz3.1]; exact q)
      induction hk with
      | nil =>
        intro w
        refine wpAny_handleBy_nil ?_
        obtain ⟨k1, k2, k3, oe, vs, T, oT, ts', he, hz, hd, h1, hr⟩ := id fl3; unfold PySem.passOn
        refine wpAny_bind (wpAny_field he hd h1 ?_); rw [if_neg (show ¬ ((Value.ref T == Value.none) = true) from by simp)]
        have fin : wpAny (model X.prog X.w) X.A (setFlight (.ref a) X.env.frame) (fun _ s4 => wpAny (model X.prog X.w) X.A (throw (.ref a) : Sem Flow) (SP X pins D) X.xe s4) X.xe { s' with heap := h3 } := by
          rw [hf]; exact HandSPX.setFlight_upZ fl3 fun h4 hh4 up4 => wpAny_throw (tk _ _ ⟨a, B, sI, pins, σ', H', cls, d, rfl, J, nb, (up.trans up3).trans up4, .inr (.inr (by rw [hs]; exact hh4)), na, os, ag, w⟩)
        first | exact wpAny_bind (wpAny_pure (wpAny_bind fin)) | exact wpAny_bind fin
      | @bare x c ts b₀ su p q hs2 l2 hc hsu r ih =>
        intro w
        obtain ⟨b, hb1, hyes, hno⟩ := w
        refine wpAny_handleBy_cons (codeAny_handlers_test ?_) (by intro q; cases q)
        refine test hc ((PySem.W.exm_one (M := model X.prog X.w) (J3.kIn) LT hb1).here ?_)
        cases b with
        | true =>
          refine codeAny_handlers_suite (HandSPX.lands_againZ fl3 fun h4 fl4 up4 => ?_)
          have J4 : Inv X pins σ' H' { s' with heap := h4 } := J.landed nb fl4.1 ((up.trans up3).trans up4) os ag; obtain ⟨oe4, vs4, he4, hz4, hd4⟩ := fl4.there
          have S4 := J4.suite he4 hd4 na nL nF; have y := hyes rfl a na
          refine wpAny_mono ((hsu a oe4 cls d (X.pn ++ pins) hz4 ⟨_, hd4⟩).run [] _ _ H' _ S4 y) (fun f s6 hsp => ?_) (fun _ _ z => False.elim z)
          cases f with
          | ret u => obtain ⟨v6, σ6, H6, S6, r6, q6⟩ := hsp; exact ⟨_, _, _, S6.unsuite ok, r6, q6⟩
          | next => obtain ⟨σ6, H6, S6, q6⟩ := hsp; exact ⟨_, _, S6.unsuite ok, q6⟩
          | brk => obtain ⟨σ6, H6, S6, q6⟩ := hsp; exact ⟨_, _, S6.unsuite ok, q6⟩
          | cont => obtain ⟨σ6, H6, S6, q6⟩ := hsp; exact ⟨_, _, S6.unsuite ok, q6⟩
        | false => exact ih (hno rfl)
      | @named x n c ts i b₀ su p q hs2 l2 hN hi hl hc hsu r ih =>
        intro w
        obtain ⟨b, hb1, hyes, hno⟩ := w
        refine wpAny_handleBy_cons (codeAny_handlers_test ?_) (by intro q; cases q)
        refine test hc ((PySem.W.exm_one (M := model X.prog X.w) (J3.kIn) LT hb1).here ?_)
        cases b with
        | true =>
          refine codeAny_handlers_suite_as (HandSPX.lands_againZ fl3 fun h4 fl4 up4 => ?_)
          have J4 : Inv X pins σ' H' { s' with heap := h4 } := J.landed nb fl4.1 ((up.trans up3).trans up4) os ag; obtain ⟨oe4, vs4, he4, hz4, hd4⟩ := fl4.there
          have S4 := J4.suite he4 hd4 na nL nF; have y := hyes rfl a na
          refine store_ok (X := X.suite a ((a, oe4) :: (X.pn ++ pins))) (v := .ref a) S4 hN hi (show Loc X.env.scope n from .inl hl) rfl (fun s5 S5 => ?_) (.inr hl)
          refine wpAny_mono ((hsu a oe4 cls d (X.pn ++ pins) hz4 ⟨_, hd4⟩).run [] s5 _ H' _ S5 y) (fun f s6 hsp => ?_) (fun _ _ z => False.elim z)
          have fin : ∀ {σ6 : L2.St} {H6 : Hp} {Q : Shared → Prop}, Inv (X.suite a ((a, oe4) :: (X.pn ++ pins))) [] σ6 H6 s6 → (∀ s7, Inv X pins (σ6.set i none) H6 s7 → Q s7) → wpAny (model X.prog X.w) X.A (do bindName X.env n .none; unbindBehindTheSuite X.env n q) (fun _ s7 => Q s7) X.xe s6 := fun {σ6 H6 Q} S6 hq => gone_ok (S6.unsuite ok) hN hi hl hq
          cases f with
          | ret u => obtain ⟨v6, σ6, H6, S6, r6, q6⟩ := hsp; exact fin S6 fun s7 J7 => ⟨_, _, _, J7, r6, q6⟩
          | next => obtain ⟨σ6, H6, S6, q6⟩ := hsp; exact fin S6 fun s7 J7 => ⟨_, _, J7, q6⟩
          | brk => obtain ⟨σ6, H6, S6, q6⟩ := hsp; exact fin S6 fun s7 J7 => ⟨_, _, J7, q6⟩
          | cont => obtain ⟨σ6, H6, S6, q6⟩ := hsp; exact fin S6 fun s7 J7 => ⟨_, _, J7, q6⟩
        | false => exact ih (hno rfl)
    exact go hh w
  · cases f with
    | ret u => obtain ⟨v, σ', H', J', r, q⟩ := hsp; exact ⟨v, σ', H', J'.ofTry ok, r, q⟩
    | next => obtain ⟨σ', H', J', q⟩ := hsp; exact wpAny_execs_nil ⟨σ', H', J'.ofTry ok, q⟩
    | brk => obtain ⟨σ', H', J', q⟩ := hsp; exact ⟨σ', H', J'.ofTry ok, q⟩
    | cont => obtain ⟨σ', H', J', q⟩ := hsp; exact ⟨σ', H', J'.ofTry ok, q⟩
end
end Many

namespace Z
open PySem L2
/-! range(lo, e) -/
def Rng2K (R : It → Hp → Prop) (vs : List V) (H1 : Hp) : Prop := ∃ i j : Int, vs = [.int i, .int j] ∧ (-(2 ^ 62) ≤ i ∧ i < 2 ^ 62 ∧ -(2 ^ 62) ≤ j ∧ j < 2 ^ 62) ∧ R (Itr i (j - i).toNat) H1
theorem irng2 {a : TA} {σ : L2.St} {H : Hp} {R : It → Hp → Prop} (h : a σ H (Rng2K R)) : iRng2 a σ H R := h
theorem forr2 {σ : L2.St} {H : Hp} {D : Ends} {g : TG} {tb : TS} {lo e : Int} (n : Nat) (he : (e - lo).toNat = n) (hb : -1000000 ≤ lo ∧ lo ≤ 1000000 ∧ -1000000 ≤ e ∧ e ≤ 1000000) (Pv : Nat → L2.St → Hp → Prop) (h0 : Pv 0 σ H)
    (hs : ∀ i σ H, i < n → Pv i σ H → g (.int (lo + (i : Int))) σ H fun σ2 H2 => tb { D with nx := Pv (i + 1), ct := Pv (i + 1), bk := D.nx } σ2 H2) (hd : ∀ σ H, Pv n σ H → D.nx σ H) : Rng2K (ForK g tb D σ) [.int lo, .int e] H := by
  refine ⟨lo, e, rfl, ⟨by omega, by omega, by omega, by omega⟩, ?_⟩
  rw [he]
  exact for_range (lo := lo) (n := n) Pv h0 (fun i σ H1 hi p => hs i σ H1 hi p) hd
end Z

/-! ### sorted of data that are alike -/
namespace RL
open PySem PySem.Spec PyProof.Rows L2 PySem.W
def DBs := List (V × PyData)
def rSortedD (K : PySem.W.Frag) : List V → Hp → VK → Prop := fun vs H Q => ∃ (a : Addr) (bs : List (V × PyData)), vs = [V.ref a] ∧ SqL K H a (bs.map Prod.fst) ∧ (∀ b ∈ bs, Dp K H b.1 b.2) ∧ AllAlike (bs.map Prod.snd) ∧ Sortable (bs.map Prod.snd) ∧ (∀ b ∈ bs, b.2.depth ≤ 60) ∧
  ∀ p, H p = none → Q (.ref p) (upd H p (.lst ((bs.mergeSort (dataLe false Prod.snd)).map Prod.fst)))
theorem each_vals : ∀ {bs : List (V × PyData)} {us : List Value}, Vals (bs.map Prod.fst) us → EachIs (fun (v : Value) (b : V × PyData) => RelV b.1 v) us bs
  | [], us, h => by cases h; exact .nil
  | b :: r, us, h => by
    cases h with
    | cons h1 h2 => exact .cons h1 (each_vals h2)
theorem vals_each : ∀ {bs : List (V × PyData)} {us : List Value}, EachIs (fun (v : Value) (b : V × PyData) => RelV b.1 v) us bs → Vals (bs.map Prod.fst) us
  | _, _, .nil => .nil
  | _, _, .cons h1 h2 => .cons h1 (vals_each h2)
theorem each_and {α β : Type} {R : α → β → Prop} {P : β → Prop} {S : α → β → Prop} (hS : ∀ a b, R a b → P b → S a b) : ∀ {as : List α} {bs : List β}, EachIs R as bs → (∀ b ∈ bs, P b) → EachIs S as bs
  | _, _, .nil, _ => .nil
  | _, _, .cons h1 h2, hp => .cons (hS _ _ h1 (hp _ (by simp))) (each_and hS h2 fun b hb => hp b (by simp [hb]))
theorem cr_sortedD {X : Cx} (hu : X.A.units + 64 < cLine) : CallR X (.builtin "sorted") (rSortedD X.K) := by
  intro pins s σ H vs us Q I r h
  obtain ⟨a, bs, rfl, hs, hD, hal, hk, hd, q⟩ := h
  obtain ⟨its, rv, hl, hz⟩ := I.list hs
  rw [Vals.ref1 r]
  have e := each_vals rv
  have er : EachIs (fun (v : Value) (b : V × PyData) => ∃ as, Reads s.heap v b.2 as) its bs := each_and (P := fun (b : V × PyData) => Dp X.K H b.1 b.2) (fun v b h1 h2 => Dp.reads I _ _ _ h2 h1) e hD
  have hL : bs.length ≤ sizeLine := by rw [List.length_map] at hz; exact hz
  refine sorted_data (enc := Prod.snd) (R := fun (v : Value) (b : V × PyData) => RelV b.1 v) hl.isList e er hal hk hL (fun b hb => by have := hd b hb; omega) fun out hlen ho => ?_
  obtain ⟨ep, he'⟩ := PyProof.Rows.sortedAll_at s.heap its out.toArray
  have hlen2 : ((bs.mergeSort (dataLe false Prod.snd)).map Prod.fst).length ≤ sizeLine := by rw [List.length_map, List.length_mergeSort]; exact hL
  exact ⟨.ref _, upd H (s.heap.objs.size + 1) (.lst ((bs.mergeSort (dataLe false Prod.snd)).map Prod.fst)), I.laid (t' := s.toks) (fun _ _ => PyProof.Rows.sortedAll_old) (Nat.le_succ _) ⟨hlen2, out, ep, vals_each ho, he'⟩, rfl, q _ (I.hok.fresh (Nat.le_succ _))⟩
end RL

namespace Z
open PySem L2
/-- what is never reached -/
def tDead : TS := fun _ _ _ => False
theorem ps_dead {X : Cx} {s : Stmt} : PS X s tDead := ⟨fun _ _ _ _ _ _ h => h.elim⟩
theorem u65 {k : Nat} {A : Around} (hr : Room k A) : A.units + 65 < cLine := by have := hr.un; omega
end Z

/-! ### itertools.permutations -/
namespace Prm
open PySem PySem.Spec PyProof.Rows
open Sem (wp)
theorem mro_prm : mroOf (.type "itertools.permutations") = pure [.type "itertools.permutations", .type "object"] := by rw [mroOf_type]; kernel_rfl
theorem lookup_prm_new : typeLookup (.type "itertools.permutations") "__new__" = pure (some (.builtin "itertools.permutations.__new__")) := by rw [typeLookup_type, builtinLookup_eq_fast]; kernel_rfl
theorem slot_prm_init : Slot "itertools.permutations" "__init__" "object.__init__" :=
  .of (owner := "object") (n := "__init__") (by rw [typeLookup_type, builtinLookup_eq_fast]; kernel_rfl) (by decide +kernel) (by decide +kernel) (by decide +kernel)
    (by first | exact .inl (by decide +kernel) | exact .inr (by decide +kernel)) (by rw [isSubtype_type]; kernel_rfl)
theorem sub_prm : isSubtype (.type "itertools.permutations") (.type "itertools.permutations") = pure true := by rw [isSubtype_type]; kernel_rfl
theorem called_prm : TypeCalled "itertools.permutations" "itertools.permutations.__new__" "object.__init__" :=
  ⟨by decide +kernel, by decide +kernel, ⟨_, _, mro_prm⟩, madeBy_type mro_prm lookup_prm_new (by decide +kernel), by decide +kernel, sub_prm, slot_prm_init⟩
theorem typeCall_prm_2 (a b : Value) : checkTypeCall "itertools.permutations" ⟨[a, b], []⟩ = pure () := by kernel_rfl
theorem newCall_prm_2 (a b : Value) : checkBuiltinCall "itertools.permutations.__new__" ⟨[.type "itertools.permutations", a, b], []⟩ = pure () := by kernel_rfl
theorem entry_prm_new : entryFor table "itertools.permutations.__new__" = some Builtin.«itertools.permutations.__new__» := entryFor_of_tree (by kernel_rfl)
theorem plain_prm_new : plainId "itertools.permutations.__new__" = true := by decide +kernel
theorem slot_prm_iter : Slot "itertools.permutations" "__iter__" "itertools.permutations.__iter__" :=
  .of (owner := "itertools.permutations") (n := "__iter__") (by rw [typeLookup_type, builtinLookup_eq_fast]; kernel_rfl) (by decide +kernel) (by decide +kernel) (by decide +kernel)
    (by first | exact .inl (by decide +kernel) | exact .inr (by decide +kernel)) sub_prm
theorem slot_prm_next : Slot "itertools.permutations" "__next__" "itertools.permutations.__next__" :=
  .of (owner := "itertools.permutations") (n := "__next__") (by rw [typeLookup_type, builtinLookup_eq_fast]; kernel_rfl) (by decide +kernel) (by decide +kernel) (by decide +kernel)
    (by first | exact .inl (by decide +kernel) | exact .inr (by decide +kernel)) sub_prm
theorem entry_prm_iter : entryFor table "itertools.permutations.__iter__" = some Builtin.«dict_keyiterator.__iter__» :=
  entryFor_alias (id' := "dict_keyiterator.__iter__") (by kernel_rfl) (by first | rfl | decide +kernel | (unfold String.splitOn; simp +decide [String.splitOnAux])) (by decide +kernel) (by kernel_rfl)
theorem entry_prm_next : entryFor table "itertools.permutations.__next__" = some Builtin.«itertools.permutations.__next__» := entryFor_of_tree (by kernel_rfl)
theorem owner_prm : Manifest.owners.lookup (String.ofList ['s', 'n', 'o', 'i', 't', 'a', 't', 'u', 'm', 'r', 'e', 'p', '.', 's', 'l', 'o', 'o', 't', 'r', 'e', 't', 'i'].reverse) = some Manifest.sig_itertools_permutations := by kernel_rfl
theorem args_prm_iter (a : Value) : argsOk "itertools.permutations.__iter__" ⟨[a], []⟩ := by
  unfold argsOk; rw [signature?_of (id := "itertools.permutations.__iter__") (n := ['_', '_', 'r', 'e', 't', 'i', '_', '_']) (o := ['s', 'n', 'o', 'i', 't', 'a', 't', 'u', 'm', 'r', 'e', 'p', '.', 's', 'l', 'o', 'o', 't', 'r', 'e', 't', 'i']) (by kernel_rfl) owner_prm]; kernel_rfl
theorem args_prm_next (a : Value) : argsOk "itertools.permutations.__next__" ⟨[a], []⟩ := by
  unfold argsOk; rw [signature?_of (id := "itertools.permutations.__next__") (n := ['_', '_', 't', 'x', 'e', 'n', '_', '_']) (o := ['s', 'n', 'o', 'i', 't', 'a', 't', 'u', 'm', 'r', 'e', 'p', '.', 's', 'l', 'o', 'o', 't', 'r', 'e', 't', 'i']) (by kernel_rfl) owner_prm]; kernel_rfl
theorem noDict_prm : typeHasDict (.type "itertools.permutations") = false := by decide +kernel
theorem noClose_prm : typeLookup (.type "itertools.permutations") "close" = pure none := by rw [typeLookup_type, builtinLookup_eq_fast]; kernel_rfl
theorem typeCall_prm_1 (a : Value) : checkTypeCall "itertools.permutations" ⟨[a], []⟩ = pure () := by kernel_rfl
theorem newCall_prm_1 (a : Value) : checkBuiltinCall "itertools.permutations.__new__" ⟨[.type "itertools.permutations", a], []⟩ = pure () := by kernel_rfl
/-- the record -/
def prmO (P : Addr) (st r : Int) (last : Value) (tl : List Value) : Obj := { cls := .type "itertools.permutations", dict := none, data := .fields ([.ref P, rawInt st, rawInt r, last] ++ tl).toArray, slots := #[] }
def rws (l : List Nat) : List Value := l.map fun (i : Nat) => rawInt i
section
variable {prog : Program} {w : World} {A : Around} {E : Value → Shared → Prop} {s : Shared}
theorem bind_prm2 (a b : Value) : Builtin.Itertools.itBindNamed "permutations" ["iterable", "r"] 1 2 [a, b] [] = pure [some a, some b] := by rfl
theorem bind_prm1 (a : Value) : Builtin.Itertools.itBindNamed "permutations" ["iterable", "r"] 1 2 [a] [] = pure [some a, none] := by rfl
theorem classRest2 (a b : Value) : Builtin.Itertools.itClassAndRest "permutations" ⟨[.type "itertools.permutations", a, b], []⟩ = pure (.type "itertools.permutations", [a, b]) := by kernel_rfl
theorem classRest1 (a : Value) : Builtin.Itertools.itClassAndRest "permutations" ⟨[.type "itertools.permutations", a], []⟩ = pure (.type "itertools.permutations", [a]) := by kernel_rfl
/-- the first numbers of the record -/
def startP (n r : Nat) : List Value := (List.range n).map (fun (i : Nat) => rawInt i) ++ (List.range r).map fun (i : Nat) => rawInt ((n : Int) - i)
theorem rec_size {a b c d : Value} {n r : Nat} (hn : n ≤ 1000) (hr : r ≤ 1000) : sizeOk (Data.fields ([a, b, c, d] ++ startP n r).toArray) := by
  show ([a, b, c, d] ++ startP n r).toArray.size ≤ sizeLine + 2
  unfold startP
  rw [List.size_toArray, List.length_append, List.length_append, List.length_map, List.length_range, List.length_map, List.length_range]
  have h2 : 4 + (1000 + 1000) ≤ sizeLine + 2 := by decide
  exact Nat.le_trans (Nat.add_le_add_left (Nat.add_le_add hn hr) 4) h2
theorem code_prm_new2 {a : Addr} {items : Array Value} {r : Nat} {t : Tok} {Q : Value → Shared → Prop} (hl : s.heap.IsList a items) (hz : items.size ≤ 1000) (hr : r ≤ 1000)
    (h : ∀ h' : Heap, (∀ b o', s.heap.get? b = some o' → h'.get? b = some o') → s.heap.objs.size ≤ h'.objs.size → Q (.ref (h'.objs.size + 1)) { s with heap := (h'.push { cls := .type "tuple", data := .seq items }).push (prmO h'.objs.size (if r > items.size then 2 else 0) r .none (startP items.size r)) }) :
    codeAny (model prog w) A (.call (.builtin "itertools.permutations.__new__") ⟨[.type "itertools.permutations", .ref a, .int r t], []⟩) (wants Q E) s := by
  refine codeAny_of_tree ?_
  show wpAny _ A.in1 (do checkBuiltinCall "itertools.permutations.__new__" ⟨[.type "itertools.permutations", .ref a, .int r t], []⟩; again (.builtin "itertools.permutations.__new__" ⟨[.type "itertools.permutations", .ref a, .int r t], []⟩)) _ _ s
  refine wpAny_bind (wpAny_of_eq (newCall_prm_2 _ _) (wpAny_pure ⟨plainId_quiet plain_prm_new _, codeAny_builtin entry_prm_new ?_⟩))
  rw [Around.under_plainId plain_prm_new _]
  unfold Builtin.«itertools.permutations.__new__»
  refine wpAny_bind (wpAny_of_eq (classRest2 _ _) ?_)
  show wpAny _ _ (Builtin.Itertools.itBindNamed "permutations" ["iterable", "r"] 1 2 [.ref a, .int r t] [] >>= _) _ _ _
  refine wpAny_bind (wpAny_of_eq (bind_prm2 _ _) ?_)
  show wpAny _ _ (collect (.ref a) >>= _) _ _ _
  have hl2 : s.heap.IsList a items.toList.toArray := by rw [show items.toList.toArray = items by simp]; exact hl
  refine wpAny_bind (collect_list hl2 ?_ (by rw [Array.length_toList]; exact Nat.le_trans hz (by decide)))
  generalize hh' : (s.heap.push (seqObj "list" #[] 0)).update s.heap.objs.size (Obj.mapSeq (· ++ items.toList.toArray)) = h'
  have hsz' : s.heap.objs.size ≤ h'.objs.size := by rw [← hh', Heap.size_update, Heap.size_push]; exact Nat.le_succ _
  have k : ∀ b o', s.heap.get? b = some o' → h'.get? b = some o' := fun b o' e => by
    rw [← hh']
    exact (Heap.get?_update_other _ _ (Nat.ne_of_gt (Heap.lt_size e))).trans (Heap.get?_push_of_some _ e)
  have hp := h h' k hsz'
  dsimp only
  refine wpAny_bind (wpAny_holding ?_)
  show wpAny _ _ (if (decide ((r : Int) < -2 ^ 63) || decide ((r : Int) ≥ 2 ^ 63)) = true then _ else pure (r : Int)) _ _ _
  rw [if_neg (by simp only [Bool.or_eq_true, decide_eq_true_eq]; omega)]
  refine wpAny_pure ?_
  rw [if_neg (show ¬ ((r : Int) < 0) by omega)]
  rw [if_neg (show ¬ (Builtin.Itertools.itTooMany (r : Int) = true) by unfold Builtin.Itertools.itTooMany; simp only [decide_eq_true_eq]; omega)]
  refine wpAny_bind ?_
  simp only [newTuple]
  refine wpAny_newObj_type ?_ (by show items.toList.toArray.size ≤ sizeLine; rw [show items.toList.toArray = items by simp]; exact Nat.le_trans hz (by decide))
  refine wpAny_bind ?_
  unfold Builtin.Itertools.itNewRecord
  rw [noDict_prm, if_pos (show (!false) = true from rfl)]
  rw [show ((r : Int).toNat) = r from Int.toNat_natCast r, show items.toList.length = items.size by simp, List.append_assoc]
  refine wpAny_newObj_type ?_ (rec_size (a := .ref h'.objs.size) (b := rawInt (if r > items.size then 2 else 0)) (c := rawInt (r : Int)) (d := .none) hz hr)
  refine wpAny_pure ?_
  rw [show items.toList.toArray = items by simp]
  unfold prmO startP at hp
  rw [show (h'.push { cls := Value.type "tuple", data := Data.seq items }).objs.size = h'.objs.size + 1 from Heap.size_push _ _]
  exact hp
theorem code_prm_new1 {a : Addr} {items : Array Value} {Q : Value → Shared → Prop} (hl : s.heap.IsList a items) (hz : items.size ≤ 1000)
    (h : ∀ h' : Heap, (∀ b o', s.heap.get? b = some o' → h'.get? b = some o') → s.heap.objs.size ≤ h'.objs.size → Q (.ref (h'.objs.size + 1)) { s with heap := (h'.push { cls := .type "tuple", data := .seq items }).push (prmO h'.objs.size (if items.size > items.size then 2 else 0) items.size .none (startP items.size items.size)) }) :
    codeAny (model prog w) A (.call (.builtin "itertools.permutations.__new__") ⟨[.type "itertools.permutations", .ref a], []⟩) (wants Q E) s := by
  refine codeAny_of_tree ?_
  show wpAny _ A.in1 (do checkBuiltinCall "itertools.permutations.__new__" ⟨[.type "itertools.permutations", .ref a], []⟩; again (.builtin "itertools.permutations.__new__" ⟨[.type "itertools.permutations", .ref a], []⟩)) _ _ s
  refine wpAny_bind (wpAny_of_eq (newCall_prm_1 _) (wpAny_pure ⟨plainId_quiet plain_prm_new _, codeAny_builtin entry_prm_new ?_⟩))
  rw [Around.under_plainId plain_prm_new _]
  unfold Builtin.«itertools.permutations.__new__»
  refine wpAny_bind (wpAny_of_eq (classRest1 _) ?_)
  show wpAny _ _ (Builtin.Itertools.itBindNamed "permutations" ["iterable", "r"] 1 2 [.ref a] [] >>= _) _ _ _
  refine wpAny_bind (wpAny_of_eq (bind_prm1 _) ?_)
  show wpAny _ _ (collect (.ref a) >>= _) _ _ _
  have hl2 : s.heap.IsList a items.toList.toArray := by rw [show items.toList.toArray = items by simp]; exact hl
  refine wpAny_bind (collect_list hl2 ?_ (by rw [Array.length_toList]; exact Nat.le_trans hz (by decide)))
  generalize hh' : (s.heap.push (seqObj "list" #[] 0)).update s.heap.objs.size (Obj.mapSeq (· ++ items.toList.toArray)) = h'
  have hsz' : s.heap.objs.size ≤ h'.objs.size := by rw [← hh', Heap.size_update, Heap.size_push]; exact Nat.le_succ _
  have k : ∀ b o', s.heap.get? b = some o' → h'.get? b = some o' := fun b o' e => by
    rw [← hh']
    exact (Heap.get?_update_other _ _ (Nat.ne_of_gt (Heap.lt_size e))).trans (Heap.get?_push_of_some _ e)
  have hp := h h' k hsz'
  dsimp only
  refine wpAny_bind ?_
  show wpAny _ _ (pure ((items.toList.length : Nat) : Int)) _ _ _
  refine wpAny_pure ?_
  rw [show items.toList.length = items.size by simp]
  have hr : items.size ≤ 1000 := hz
  rw [if_neg (show ¬ ((items.size : Int) < 0) by omega)]
  rw [if_neg (show ¬ (Builtin.Itertools.itTooMany (items.size : Int) = true) by unfold Builtin.Itertools.itTooMany; simp only [decide_eq_true_eq]; omega)]
  refine wpAny_bind ?_
  simp only [newTuple]
  refine wpAny_newObj_type ?_ (by show items.toList.toArray.size ≤ sizeLine; rw [show items.toList.toArray = items by simp]; exact Nat.le_trans hz (by decide))
  refine wpAny_bind ?_
  unfold Builtin.Itertools.itNewRecord
  rw [noDict_prm, if_pos (show (!false) = true from rfl)]
  rw [show ((items.size : Int).toNat) = items.size from Int.toNat_natCast items.size, List.append_assoc]
  refine wpAny_newObj_type ?_ (rec_size (a := .ref h'.objs.size) (b := rawInt (if items.size > items.size then 2 else 0)) (c := rawInt (items.size : Int)) (d := .none) hz hr)
  refine wpAny_pure ?_
  rw [show items.toList.toArray = items by simp]
  unfold prmO startP at hp
  rw [show (h'.push { cls := Value.type "tuple", data := Data.seq items }).objs.size = h'.objs.size + 1 from Heap.size_push _ _]
  exact hp
theorem call_prm2 {a : Addr} {items : Array Value} {r : Nat} {t : Tok} {Q : Value → Shared → Prop} (hl : s.heap.IsList a items) (hz : items.size ≤ 1000) (hr : r ≤ 1000)
    (h : ∀ h' : Heap, (∀ b o', s.heap.get? b = some o' → h'.get? b = some o') → s.heap.objs.size ≤ h'.objs.size → Q (.ref (h'.objs.size + 1)) { s with heap := (h'.push { cls := .type "tuple", data := .seq items }).push (prmO h'.objs.size (if r > items.size then 2 else 0) r .none (startP items.size r)) }) :
    wpAny (model prog w) A (call (.type "itertools.permutations") [.ref a, .int r t]) Q E s := by
  refine callType_codes (Q₁ := fun obj s₁ => s₁.TypeIs obj "itertools.permutations" ∧ Q obj s₁) called_prm (typeCall_prm_2 _ _) F.entry_object_init
    (code_prm_new2 hl hz hr fun h' k kz => ⟨⟨_, by
      rw [show h'.objs.size + 1 = (h'.push { cls := .type "tuple", data := .seq items }).objs.size from (Heap.size_push _ _).symm]
      exact Heap.get?_push_size _ rfl, rfl⟩, h h' k kz⟩) fun obj s₁ h₁ => ?_
  exact ⟨h₁.1, F.args_object_init_3 obj _ _, object_init_meets called_prm.init.lookup called_prm.made (by decide) prog w A.in1 _ s₁ ⟨h₁.1, rfl, h₁.2⟩⟩
theorem call_prm1 {a : Addr} {items : Array Value} {Q : Value → Shared → Prop} (hl : s.heap.IsList a items) (hz : items.size ≤ 1000)
    (h : ∀ h' : Heap, (∀ b o', s.heap.get? b = some o' → h'.get? b = some o') → s.heap.objs.size ≤ h'.objs.size → Q (.ref (h'.objs.size + 1)) { s with heap := (h'.push { cls := .type "tuple", data := .seq items }).push (prmO h'.objs.size (if items.size > items.size then 2 else 0) items.size .none (startP items.size items.size)) }) :
    wpAny (model prog w) A (call (.type "itertools.permutations") [.ref a]) Q E s := by
  refine callType_codes (Q₁ := fun obj s₁ => s₁.TypeIs obj "itertools.permutations" ∧ Q obj s₁) called_prm (typeCall_prm_1 _) F.entry_object_init
    (code_prm_new1 hl hz fun h' k kz => ⟨⟨_, by
      rw [show h'.objs.size + 1 = (h'.push { cls := .type "tuple", data := .seq items }).objs.size from (Heap.size_push _ _).symm]
      exact Heap.get?_push_size _ rfl, rfl⟩, h h' k kz⟩) fun obj s₁ h₁ => ?_
  exact ⟨h₁.1, F.args_object_init_2 obj _, object_init_meets called_prm.init.lookup called_prm.made (by decide) prog w A.in1 _ s₁ ⟨h₁.1, rfl, h₁.2⟩⟩
theorem iter_prm {it P : Addr} {st r : Int} {last : Value} {tl : List Value} {Q : Value → Shared → Prop} (hit : s.heap.get? it = some (prmO P st r last tl)) (h : Q (.ref it) s) : wpAny (model prog w) A (pyIter (.ref it)) Q E s := by
  have hT : s.TypeIs (.ref it) "itertools.permutations" := ⟨_, hit, rfl⟩
  refine wpAny_pyIter_slot hT slot_prm_iter (wpAny_call_entry slot_prm_iter hT entry_prm_iter ?_ (args_prm_iter _))
  show wpAny _ _ (ret (.ref it)) _ _ s
  exact wpAny_pure ⟨_, rfl, "itertools.permutations", _, hT, slot_prm_next.lookup, h⟩
/-- the next index list -/
def nextP (n : Nat) : (place : Nat) → (indices cycles : List Nat) → Option (List Nat × List Nat)
  | 0, _, _ => none
  | i + 1, indices, cycles =>
    let c := cycles.getD i 0 - 1
    if c == 0 then nextP n i (indices.take i ++ indices.drop (i + 1) ++ [indices.getD i 0]) (cycles.set i (n - i))
    else some ((indices.set i (indices.getD (n - c) 0)).set (n - c) (indices.getD i 0), cycles.set i c)
theorem nextP_eq (F : Nat → Nat → List Nat → List Nat → Option (List Nat × List Nat)) (h0 : ∀ n ix cy, F n 0 ix cy = none)
    (hS : ∀ n i ix cy, F n (i + 1) ix cy = if (cy.getD i 0 - 1 == 0) = true then F n i (ix.take i ++ ix.drop (i + 1) ++ [ix.getD i 0]) (cy.set i (n - i)) else some ((ix.set i (ix.getD (n - (cy.getD i 0 - 1)) 0)).set (n - (cy.getD i 0 - 1)) (ix.getD i 0), cy.set i (cy.getD i 0 - 1))) (n : Nat) : ∀ r ix cy, F n r ix cy = nextP n r ix cy
  | 0, ix, cy => h0 n ix cy
  | r + 1, ix, cy => by
    rw [hS, nextP_eq F h0 hS n r]
    rfl
theorem to_nextP {n r : Nat} {ix cy : List Nat} {x : Option (List Nat × List Nat)} {β : Type} {f : List Nat → List Nat → Sem β} {g : Sem β} {Q : β → Shared → Prop} (e : x = nextP n r ix cy) (h : wpAny (model prog w) A (match nextP n r ix cy with | some (a, b) => f a b | none => g) Q E s) : wpAny (model prog w) A (match x with | some (a, b) => f a b | none => g) Q E s := by
  rw [e]
  exact h
theorem numbers_prm {it P : Addr} {st r : Int} {last : Value} {ns : List Nat} {Q : List Nat → Shared → Prop} (hit : s.heap.get? it = some (prmO P st r last (rws ns))) (h : Q ns s) : wpAny (model prog w) A (PySem.Builtin.Itertools.itNumbersFrom (.ref it) 4) Q E s := by
  unfold PySem.Builtin.Itertools.itNumbersFrom
  show wpAny _ _ (load it >>= _) _ _ s
  refine wpAny_bind (wpAny_load hit ?_)
  refine wpAny_pure ?_
  refine (congrArg (fun z => Q z s) ?_).mpr h
  show List.map _ (ns.map fun (i : Nat) => rawInt i) = ns
  rw [List.map_map]
  conv => rhs; rw [← List.map_id ns]
  exact List.map_congr_left fun i _ => Int.toNat_natCast i
theorem numbers_any {it P : Addr} {st r : Int} {last : Value} {tl : List Value} {Q : List Nat → Shared → Prop} (hit : s.heap.get? it = some (prmO P st r last tl)) (h : ∀ l, Q l s) : wpAny (model prog w) A (PySem.Builtin.Itertools.itNumbersFrom (.ref it) 4) Q E s := by
  unfold PySem.Builtin.Itertools.itNumbersFrom
  show wpAny _ _ (load it >>= _) _ _ s
  refine wpAny_bind (wpAny_load hit ?_)
  exact wpAny_pure (h _)
theorem stField_prm {it P : Addr} {st r : Int} {last : Value} {tl : List Value} {Q : Int → Shared → Prop} (hit : s.heap.get? it = some (prmO P st r last tl)) (h : Q st s) : wpAny (model prog w) A (PySem.Builtin.Itertools.itIntField (.ref it) 1) Q E s := by
  unfold PySem.Builtin.Itertools.itIntField
  refine wpAny_bind (wpAny_field hit rfl (x := rawInt st) rfl ?_)
  exact wpAny_pure h
theorem rField_prm {it P : Addr} {st r : Int} {last : Value} {tl : List Value} {Q : Int → Shared → Prop} (hit : s.heap.get? it = some (prmO P st r last tl)) (h : Q r s) : wpAny (model prog w) A (PySem.Builtin.Itertools.itIntField (.ref it) 2) Q E s := by
  unfold PySem.Builtin.Itertools.itIntField
  refine wpAny_bind (wpAny_field hit rfl (x := rawInt r) rfl ?_)
  exact wpAny_pure h
theorem pool_items {P : Addr} {oP : Obj} {its : Array Value} {n : Nat} {Q : Array Value → Shared → Prop} (hP : s.heap.get? P = some oP) (hPd : oP.data = .seq its n) (h : Q its s) : wpAny (model prog w) A (PySem.Builtin.Itertools.itPoolItems (.ref P)) Q E s := by
  unfold PySem.Builtin.Itertools.itPoolItems
  refine wpAny_bind ?_
  show wpAny _ _ (load P >>= _) _ _ s
  refine wpAny_bind (wpAny_load hP ?_)
  rw [hPd]
  exact wpAny_pure (wpAny_pure h)
def picks (its : Array Value) (ix : List Nat) : List Value := ix.map fun i => its.getD i .none
theorem set_last {P : Addr} {st r : Int} {last x : Value} {tl : List Value} : Obj.mapFields (fun fs => fs.setIfInBounds 3 x) (prmO P st r last tl) = prmO P st r x tl := by
  unfold prmO Obj.mapFields
  simp
theorem set_st {P : Addr} {st st' r : Int} {last : Value} {tl : List Value} : Obj.mapFields (fun fs => fs.setIfInBounds 1 (rawInt st')) (prmO P st r last tl) = prmO P st' r last tl := by
  unfold prmO Obj.mapFields
  simp
theorem set_ix {P : Addr} {st r : Int} {last : Value} {tl : List Value} {ns : List Nat} : Obj.mapFields (fun fs => fs.extract 0 4 ++ (ns.map fun (n : Nat) => rawInt n).toArray) (prmO P st r last tl) = prmO P st r last (rws ns) := by
  unfold prmO Obj.mapFields rws
  simp
/-- one more tuple is handed out -/
theorem hand_out {it P : Addr} {st r : Int} {last : Value} {tl : List Value} {its : Array Value} {ix : List Nat} {k : Nat} {Q : Fin → Shared → Prop} (hit : s.heap.get? it = some (prmO P st r last tl)) (hr : ix.length ≤ 1000)
    (h : ∀ h' : Heap, h'.get? it = some (prmO P st r (.ref s.heap.objs.size) tl) → h'.get? s.heap.objs.size = some { cls := .type "tuple", data := .seq (picks its (ix.take k)).toArray } → (∀ b o, b ≠ it → s.heap.get? b = some o → h'.get? b = some o) → Q (.done (.ret (.ref s.heap.objs.size))) { s with heap := h' }) :
    wpAny (model prog w) A (do
      let t ← newTuple ((ix.take k).map fun i => its.getD i .none)
      let before ← field (.ref it) 3
      setField (.ref it) 3 t
      letGo [before] [t]
      ret t) Q E s := by
  refine wpAny_bind ?_
  simp only [newTuple]
  have hz : (picks its (ix.take k)).toArray.size ≤ sizeLine := by
    unfold picks
    rw [List.size_toArray, List.length_map]
    exact Nat.le_trans (Nat.le_trans (List.length_take_le' _ _) hr) (by decide)
  refine wpAny_newObj_type ?_ hz
  have hlt : it < s.heap.objs.size := Heap.lt_size hit
  have hit1 : (s.heap.push { cls := Value.type "tuple", data := Data.seq (picks its (ix.take k)).toArray }).get? it = some (prmO P st r last tl) := Heap.get?_push_of_some _ hit
  refine wpAny_bind (wpAny_field hit1 rfl (x := last) rfl ?_)
  refine wpAny_bind (wpAny_setField hit1 rfl (by simp) ?_)
  refine wpAny_bind (wpAny_letGo ?_)
  refine wpAny_pure ?_
  refine h _ ?_ ?_ fun b o hb e => ?_
  · have := Heap.get?_update_self (Obj.mapFields (fun fs => fs.setIfInBounds 3 (.ref s.heap.objs.size))) hit1 rfl
    rw [set_last] at this
    exact this
  · exact (Heap.get?_update_other _ _ (Nat.ne_of_lt hlt)).trans (Heap.get?_push_size _ rfl)
  · exact (Heap.get?_update_other _ _ hb.symm).trans (Heap.get?_push_of_some _ e)
theorem next0_prm {it P : Addr} {last : Value} {ns : List Nat} {r : Nat} {its : Array Value} {n : Nat} {oP : Obj} {Q : Option Value → Shared → Prop} (hit : s.heap.get? it = some (prmO P 0 r last (rws ns))) (hP : s.heap.get? P = some oP) (hPd : oP.data = .seq its n) (hr : ns.length ≤ 1000)
    (h : ∀ h' : Heap, h'.get? it = some (prmO P 1 r (.ref s.heap.objs.size) (rws ns)) → h'.get? s.heap.objs.size = some { cls := .type "tuple", data := .seq (picks its (ns.take r)).toArray } → (∀ b o, b ≠ it → s.heap.get? b = some o → h'.get? b = some o) → Q (some (.ref s.heap.objs.size)) { s with heap := h' }) :
    wpAny (model prog w) A (callSpecial? (.ref it) "__next__") Q E s := by
  have hT : s.TypeIs (.ref it) "itertools.permutations" := ⟨_, hit, rfl⟩
  refine wpAny_callSpecial?_slot (name := Str.ofString "__next__") hT slot_prm_next (wpAny_call_entry slot_prm_next hT entry_prm_next ?_ (args_prm_next _))
  unfold Builtin.«itertools.permutations.__next__»
  show wpAny _ _ (slotArgs "__next__" 0 ⟨[.ref it], []⟩ >>= _) _ _ s
  refine wpAny_bind (wpAny_of_eq (a := (.ref it, [])) rfl ?_)
  show wpAny _ _ (field (.ref it) 0 >>= _) _ _ s
  refine wpAny_bind (wpAny_field hit rfl (x := .ref P) rfl ?_)
  refine wpAny_bind (pool_items hP hPd ?_)
  refine wpAny_bind (rField_prm hit ?_)
  refine wpAny_bind (numbers_prm hit ?_)
  refine wpAny_bind (stField_prm hit ?_)
  rw [show ((r : Int).toNat) = r from Int.toNat_natCast r]
  refine wpAny_bind (wpAny_setField hit rfl (by simp) ?_)
  have hlt : it < s.heap.objs.size := Heap.lt_size hit
  generalize hU : s.heap.update it (Obj.mapFields (fun fs => fs.setIfInBounds 1 (rawInt 1))) = hp
  have hit1 : hp.get? it = some (prmO P 1 r last (rws ns)) := by
    have := Heap.get?_update_self (Obj.mapFields (fun fs => fs.setIfInBounds 1 (rawInt 1))) hit rfl
    rw [set_st] at this
    rw [← hU]
    exact this
  have hsz : hp.objs.size = s.heap.objs.size := by rw [← hU]; exact Heap.size_update _ _ _
  have hk : ∀ d o, d ≠ it → s.heap.get? d = some o → hp.get? d = some o := fun d o hd e => by rw [← hU]; exact (Heap.get?_update_other _ _ hd.symm).trans e
  have key := hand_out (prog := prog) (w := w) (A := A.in1) (E := E) (s := { s with heap := hp }) (k := r) (its := its) (Q := fun fin s' => ∃ v, fin = Fin.done (Flow.ret v) ∧ Q (some v) s') hit1 hr fun h' a b c => ⟨_, rfl, by
    have a' : h'.get? it = some (prmO P 1 r (.ref hp.objs.size) (rws ns)) := a
    have b' : h'.get? hp.objs.size = _ := b
    rw [hsz] at a' b'
    show Q (some (.ref hp.objs.size)) { s with heap := h' }
    rw [hsz]
    exact h h' a' b' fun d o hd e => c d o hd (hk d o hd e)⟩
  exact key
theorem next1_prm {it P : Addr} {last : Value} {ix cy ix' cy' : List Nat} {r : Nat} {its : Array Value} {n : Nat} {oP : Obj} {Q : Option Value → Shared → Prop} (hit : s.heap.get? it = some (prmO P 1 r last (rws (ix ++ cy)))) (hP : s.heap.get? P = some oP) (hPd : oP.data = .seq its n) (hix : ix.length = its.size) (hr : ix'.length ≤ 1000) (hr2 : cy'.length ≤ 1000) (hn : nextP its.size r ix cy = some (ix', cy'))
    (h : ∀ h' : Heap, h'.get? it = some (prmO P 1 r (.ref s.heap.objs.size) (rws (ix' ++ cy'))) → h'.get? s.heap.objs.size = some { cls := .type "tuple", data := .seq (picks its (ix'.take r)).toArray } → (∀ b o, b ≠ it → s.heap.get? b = some o → h'.get? b = some o) → Q (some (.ref s.heap.objs.size)) { s with heap := h' }) :
    wpAny (model prog w) A (callSpecial? (.ref it) "__next__") Q E s := by
  have hT : s.TypeIs (.ref it) "itertools.permutations" := ⟨_, hit, rfl⟩
  refine wpAny_callSpecial?_slot (name := Str.ofString "__next__") hT slot_prm_next (wpAny_call_entry slot_prm_next hT entry_prm_next ?_ (args_prm_next _))
  unfold Builtin.«itertools.permutations.__next__»
  show wpAny _ _ (slotArgs "__next__" 0 ⟨[.ref it], []⟩ >>= _) _ _ s
  refine wpAny_bind (wpAny_of_eq (a := (.ref it, [])) rfl ?_)
  show wpAny _ _ (field (.ref it) 0 >>= _) _ _ s
  refine wpAny_bind (wpAny_field hit rfl (x := .ref P) rfl ?_)
  refine wpAny_bind (pool_items hP hPd ?_)
  refine wpAny_bind (rField_prm hit ?_)
  refine wpAny_bind (numbers_prm hit ?_)
  refine wpAny_bind (stField_prm hit ?_)
  rw [show ((r : Int).toNat) = r from Int.toNat_natCast r, List.take_left' hix, List.drop_left' hix]
  change wpAny _ _ (match (_ : Option (List Nat × List Nat)) with | some (indices, cycles) => _ | none => _) _ _ s
  refine to_nextP (nextP_eq _ (fun _ _ _ => rfl) (fun _ _ _ _ => rfl) its.size r ix cy) ?_
  rw [hn]
  show wpAny _ _ (PySem.Builtin.Itertools.itSetNumbersFrom (.ref it) 4 (ix' ++ cy') >>= _) _ _ s
  refine wpAny_bind ?_
  unfold PySem.Builtin.Itertools.itSetNumbersFrom
  refine wpAny_updateFields hit rfl ?_ (by
    show (Array.extract _ 0 4 ++ _).size ≤ sizeLine + 3
    rw [Array.size_append, Array.size_extract]
    have h2 : ((ix' ++ cy').map fun (n : Nat) => rawInt n).toArray.size = ix'.length + cy'.length := by rw [List.size_toArray, List.length_map, List.length_append]
    rw [h2]
    have : 4 + (1000 + 1000) ≤ sizeLine + 3 := by decide
    omega)
  have hlt : it < s.heap.objs.size := Heap.lt_size hit
  generalize hU : s.heap.update it (Obj.mapFields (fun fs => fs.extract 0 4 ++ ((ix' ++ cy').map fun (n : Nat) => rawInt n).toArray)) = hp
  have hit1 : hp.get? it = some (prmO P 1 r last (rws (ix' ++ cy'))) := by
    have := Heap.get?_update_self (Obj.mapFields (fun fs => fs.extract 0 4 ++ ((ix' ++ cy').map fun (n : Nat) => rawInt n).toArray)) hit rfl
    rw [set_ix] at this
    rw [← hU]
    exact this
  have hsz : hp.objs.size = s.heap.objs.size := by rw [← hU]; exact Heap.size_update _ _ _
  have hk : ∀ d o, d ≠ it → s.heap.get? d = some o → hp.get? d = some o := fun d o hd e => by rw [← hU]; exact (Heap.get?_update_other _ _ hd.symm).trans e
  have key := hand_out (prog := prog) (w := w) (A := A.in1) (E := E) (s := { s with heap := hp }) (k := r) (its := its) (ix := ix') (Q := fun fin s' => ∃ v, fin = Fin.done (Flow.ret v) ∧ Q (some v) s') hit1 hr fun h' a b c => ⟨_, rfl, by
    have a' : h'.get? it = some (prmO P 1 r (.ref hp.objs.size) (rws (ix' ++ cy'))) := a
    have b' : h'.get? hp.objs.size = _ := b
    rw [hsz] at a' b'
    show Q (some (.ref hp.objs.size)) { s with heap := h' }
    rw [hsz]
    exact h h' a' b' fun d o hd e => c d o hd (hk d o hd e)⟩
  exact key
/-- the end -/
theorem stop_tail {it : Addr} {Q : Option Value → Shared → Prop} (hh : A.handled = none) (s0 : Heap) (hs : Heap.ExtBut it s0 s.heap) (hQ : ∀ h', Heap.ExtBut it s0 h' → Q none { s with heap := h' }) {α : Type} {R : α → Shared → Prop} :
    wpAny (model prog w) A.in1 (PySem.Builtin.Itertools.itStop (α := α)) R (fun e s' => wpAny (model prog w) A (do if ← isInstance e (.type "StopIteration") then pure none else throw e : Sem (Option Value)) Q E s') s := by
  show wpAny _ _ (newExc (.type "StopIteration") [] >>= _) _ _ _
  refine wpAny_bind ?_
  simp only [newExc, newTuple]
  refine wpAny_bind (wpAny_newObj_type ?_ (by size_fits))
  refine wpAny_bind (m := firstArgMember _ _) (wpAny_of_eq (a := Value.none) (by first | rfl | (simp only [firstArgMember]; rfl)) ?_)
  refine wpAny_newObj_type ?_ (by size_fits)
  simp only [raiseNew]
  refine wpAny_bind (wpAny_handled ?_)
  first | rw [show A.in1.handled = none from hh] | rw [hh]
  refine wpAny_bind (wpAny_pure (wpAny_throw ?_))
  refine wpAny_bind (wpAny_isInstance (T := "StopIteration") (b := true) ⟨_, Heap.get?_push_size _ rfl, rfl⟩ isSubtype_stop ?_)
  exact wpAny_pure (hQ _ ((hs.push _).push _))
theorem pyNext_end {it P : Addr} {st : Int} {r : Nat} {last : Value} {tl : List Value} {its : Array Value} {n : Nat} {oP : Obj} {Q : Option Value → Shared → Prop} (hh : A.handled = none) (hit : s.heap.get? it = some (prmO P st r last tl)) (hP : s.heap.get? P = some oP) (hPd : oP.data = .seq its n) (hst : st = 2 ∨ (st = 1 ∧ ∃ ix cy, tl = rws (ix ++ cy) ∧ ix.length = its.size ∧ nextP its.size r ix cy = none))
    (hQ : ∀ h', Heap.ExtBut it s.heap h' → Q none { s with heap := h' }) : wpAny (model prog w) A (pyNext (.ref it)) Q E s := by
  have hT : s.TypeIs (.ref it) "itertools.permutations" := ⟨_, hit, rfl⟩
  unfold pyNext
  refine wpAny_bind (wpAny_attempt (wpAny_callSpecial?_slot (name := Str.ofString "__next__") hT slot_prm_next (wpAny_call_entry slot_prm_next hT entry_prm_next ?_ (args_prm_next _))))
  unfold Builtin.«itertools.permutations.__next__»
  show wpAny _ _ (slotArgs "__next__" 0 ⟨[.ref it], []⟩ >>= _) _ _ s
  refine wpAny_bind (wpAny_of_eq (a := (.ref it, [])) rfl ?_)
  show wpAny _ _ (field (.ref it) 0 >>= _) _ _ s
  refine wpAny_bind (wpAny_field hit rfl (x := .ref P) rfl ?_)
  refine wpAny_bind (pool_items hP hPd ?_)
  refine wpAny_bind (rField_prm hit ?_)
  rcases hst with rfl | ⟨rfl, ix, cy, rfl, hix, hn⟩
  · refine wpAny_bind (numbers_any hit fun l => ?_)
    refine wpAny_bind (stField_prm hit ?_)
    show wpAny _ _ (rule "itertools.permutations.ended" >>= _) _ _ s
    refine wpAny_bind (wpAny_rule ?_)
    exact stop_tail (s := s) hh s.heap (Heap.ExtBut.refl it s.heap) hQ
  · refine wpAny_bind (numbers_prm hit ?_)
    refine wpAny_bind (stField_prm hit ?_)
    rw [show ((r : Int).toNat) = r from Int.toNat_natCast r, List.take_left' hix, List.drop_left' hix]
    change wpAny _ _ (match (_ : Option (List Nat × List Nat)) with | some (indices, cycles) => _ | none => _) _ _ s
    refine to_nextP (nextP_eq _ (fun _ _ _ => rfl) (fun _ _ _ _ => rfl) its.size r ix cy) ?_
    rw [hn]
    show wpAny _ _ (setField (.ref it) 1 (rawInt 2) >>= _) _ _ s
    refine wpAny_bind (wpAny_setField hit rfl (by simp) ?_)
    exact stop_tail (s := { s with heap := s.heap.update it (Obj.mapFields (fun fs => fs.setIfInBounds 1 (rawInt 2))) }) hh s.heap (Heap.SameBut.update ..).extBut hQ
end
/-! the iterator -/
open L2
/-- S is the row of index lists and cycles -/
def PrmOk (n r : Nat) (S : List (List Nat × List Nat)) : Prop := n ≤ 500 ∧ r ≤ 500 ∧ ((n < r ∧ S = []) ∨ (r ≤ n ∧ S[0]? = some (List.range n, (List.range r).map (n - ·)) ∧ ∀ i p, S[i]? = some p → p.1.length = n ∧ p.2.length = r ∧ nextP n r p.1 p.2 = S[i + 1]?))
def pickV (xs : List V) (ix : List Nat) : List V := ix.map fun i => xs.getD i .non
theorem picks_vals {xs : List V} {its : Array Value} (h : Vals xs its.toList) : ∀ ix : List Nat, Vals (pickV xs ix) (picks its ix)
  | [] => .nil
  | i :: ix => by
    refine .cons ?_ (picks_vals h ix)
    have key : ∀ {xs : List V} {us : List Value}, Vals xs us → ∀ i, RelV (xs.getD i .non) (us.getD i .none) := fun {xs us} h => by
      induction h with
      | nil => intro i; rfl
      | cons a b ih =>
        intro i
        cases i with
        | zero => exact a
        | succ i => exact ih i
    have := key h i
    show RelV (xs.getD i .non) (its.getD i .none)
    rw [show its.getD i Value.none = its.toList.getD i .none by simp [Array.getD_eq_getD_getElem?, List.getD_eq_getElem?_getD]]
    exact this
def ItPrm (xs : List V) (r : Nat) (S : List (List Nat × List Nat)) : It := ⟨fun i _ => i < S.length, fun i H v H' => ∃ T p, v = .ref T ∧ H T = none ∧ S[i]? = some p ∧ H' = upd H T (.tup (pickV xs (p.1.take r))), fun i _ => S.length ≤ i⟩
theorem start_rws {n r : Nat} (h : r ≤ n) : startP n r = rws (List.range n ++ (List.range r).map (n - ·)) := by
  unfold startP rws
  rw [List.map_append, List.map_map]
  congr 1
  refine List.map_congr_left fun i hi => ?_
  have := List.mem_range.mp hi
  show rawInt ((n : Int) - i) = rawInt (((n - i : Nat) : Int))
  rw [show ((n - i : Nat) : Int) = (n : Int) - i by omega]
/-- the record and the pool behind i turns -/
def PrmAt (C P : Addr) (its : Array Value) (n r : Nat) (S : List (List Nat × List Nat)) (i : Nat) (h : Heap) : Prop := (∃ oP m, h.get? P = some oP ∧ oP.cls = .type "tuple" ∧ oP.data = .seq its m) ∧ C ≠ P ∧
  ((i = 0 ∧ h.get? C = some (prmO P (if r > n then 2 else 0) r .none (startP n r))) ∨ ∃ j last p, i = j + 1 ∧ S[j]? = some p ∧ h.get? C = some (prmO P 1 r last (rws (p.1 ++ p.2))))
theorem turn_prm {P : Program} {w : World} {K : PySem.W.Frag} {tg : Expr} {C Pa : Addr} {xs : List V} {its : Array Value} {n r : Nat} {S : List (List Nat × List Nat)} (hv : Vals xs its.toList) (hn : its.size = n) (hL : PrmOk n r S) :
    Turn P w K tg (ItPrm xs r S) [C, Pa] C (PrmAt C Pa its n r S) where
  mem := by simp
  obj := fun i h st b hb => by
    obtain ⟨⟨oP, m, hP, hPc, hPd⟩, hne, hC⟩ := st
    have e : b = C ∨ b = Pa := by simpa using hb
    rcases e with rfl | rfl
    · rcases hC with ⟨_, e⟩ | ⟨j, last, ix, _, _, e⟩
      · exact ⟨_, e, fun v z => nomatch z⟩
      · exact ⟨_, e, fun v z => nomatch z⟩
    · exact ⟨_, hP, fun v z => by rw [hPd] at z; cases z⟩
  keep := fun i h h' st k => by
    obtain ⟨⟨oP, m, hP, hPc, hPd⟩, hne, hC⟩ := st
    refine ⟨⟨oP, m, k Pa (by simp) _ hP, hPc, hPd⟩, hne, ?_⟩
    rcases hC with ⟨e0, e⟩ | ⟨j, last, ix, e0, e1, e⟩
    · exact .inl ⟨e0, k C (by simp) _ e⟩
    · exact .inr ⟨j, last, ix, e0, e1, k C (by simp) _ e⟩
  item := by
    intro X hP hw hK hc i pins s σ H E I hf st hg
    subst hP hw hK
    obtain ⟨⟨oP, m, hPa, hPc, hPd⟩, hne, hC⟩ := st
    obtain ⟨hn5, hr5, hL⟩ := hL
    have hgo : i < S.length := hg
    have hpos : r ≤ n ∧ S[0]? = some (List.range n, (List.range r).map (n - ·)) ∧ ∀ i p, S[i]? = some p → p.1.length = n ∧ p.2.length = r ∧ nextP n r p.1 p.2 = S[i + 1]? := by
      rcases hL with ⟨_, e⟩ | h
      · rw [e] at hgo; simp at hgo
      · exact h
    obtain ⟨hrn, hL0, hLn⟩ := hpos
    obtain ⟨p, hp⟩ : ∃ p, S[i]? = some p := ⟨_, List.getElem?_eq_getElem hgo⟩
    obtain ⟨hp1, hp2, _⟩ := hLn i p hp
    have hClt : C < s.heap.objs.size := by rcases hC with ⟨_, e⟩ | ⟨_, _, _, _, _, e⟩ <;> exact Heap.lt_size e
    have hPlt : Pa < s.heap.objs.size := Heap.lt_size hPa
    have fin : ∀ h' : Heap, h'.get? C = some (prmO Pa 1 r (.ref s.heap.objs.size) (rws (p.1 ++ p.2))) → h'.get? s.heap.objs.size = some { cls := .type "tuple", data := .seq (picks its (p.1.take r)).toArray } → (∀ b o, b ≠ C → s.heap.get? b = some o → h'.get? b = some o) →
        ∃ u, (some (Value.ref s.heap.objs.size) : Option Value) = some u ∧ wpAny (model X.prog X.w) X.A (letOwnedTupleGo tg (.ref C) u) (fun _ s2 => ∃ x H', Inv X pins σ H' s2 ∧ RelV x u ∧ (ItPrm xs r S).yld i H x H' ∧ PrmAt C Pa its n r S (i + 1) s2.heap ∧ ∀ b ∈ [C, Pa], H' b = none) E { s with heap := h' } := fun h' hC' hT' hk => by
      have hno : H s.heap.objs.size = none := I.hok.fresh (Nat.le_refl _)
      have hl : (p.1.take r).length ≤ sizeLine := Nat.le_trans (List.length_take_le' _ _) (by rw [hp1]; exact Nat.le_trans hn5 (by decide))
      have hzv : (pickV xs (p.1.take r)).length ≤ sizeLine := by
        unfold pickV
        rw [List.length_map]
        exact hl
      have new : ObjOk X.prog X.w (upd H s.heap.objs.size (.tup (pickV xs (p.1.take r)))) h' s.heap.objs.size (.tup (pickV xs (p.1.take r))) :=
        ⟨hzv, picks its (p.1.take r), picks_vals hv _, ⟨_, hT', rfl, _, rfl⟩⟩
      have I1 : Inv X pins σ (upd H s.heap.objs.size (.tup (pickV xs (p.1.take r)))) { s with heap := h' } :=
        I.turnedNew (t' := s.toks) (ch := [C, Pa]) (fun c o hb q => hk c o (fun z => hb (by simp [z])) q) hf (Nat.le_refl _) new
      refine ⟨_, rfl, go_of (s := { s with heap := h' }) (n := "itertools.permutations") hC' rfl rfl (by decide) ⟨.ref s.heap.objs.size, _, I1, rfl, ⟨_, p, rfl, hno, hp, rfl⟩, ⟨⟨oP, m, hk Pa oP hne.symm hPa, hPc, hPd⟩, hne, .inr ⟨i, _, p, rfl, hp, hC'⟩⟩, fun b hb => ?_⟩⟩
      have hlt : b < s.heap.objs.size := by
        have e : b = C ∨ b = Pa := by simpa using hb
        rcases e with rfl | rfl
        · exact hClt
        · exact hPlt
      rw [upd_ne (Nat.ne_of_lt hlt)]
      exact (hf b hb).1
    unfold pyNext
    rcases hC with ⟨e0, e⟩ | ⟨j, last, p0, e0, e1, e⟩
    · subst e0
      rw [if_neg (by omega), start_rws hrn] at e
      have hx : p = (List.range n, (List.range r).map (n - ·)) := by
        rw [hL0] at hp
        exact (Option.some.inj hp).symm
      subst hx
      refine wpAny_bind (wpAny_attempt (next0_prm e hPa hPd (by rw [List.length_append, List.length_range, List.length_map, List.length_range]; omega) fun h' a b c => ?_))
      rw [List.take_append_of_le_length (by rw [List.length_range]; exact hrn)] at b
      exact wpAny_pure (fin h' a b c)
    · subst e0
      obtain ⟨q1, q2, q3⟩ := hLn j p0 e1
      have hnx : nextP its.size r p0.1 p0.2 = some (p.1, p.2) := by rw [hn, q3]; exact hp
      refine wpAny_bind (wpAny_attempt (next1_prm e hPa hPd (by rw [hn]; exact q1) (by rw [hp1]; omega) (by rw [hp2]; omega) hnx fun h' a b c => ?_))
      exact wpAny_pure (fin h' a b c)
  done := by
    intro X hP hw hK hc i pins s σ H E I hf st hg
    subst hP hw hK
    obtain ⟨⟨oP, m, hPa, hPc, hPd⟩, hne, hC⟩ := st
    obtain ⟨f0, f1, f2, f3, f4, f5⟩ := hf C (by simp)
    have hstop : S.length ≤ i := hg
    obtain ⟨hn5, hr5, hL⟩ := hL
    have fin : ∀ {st last tl}, s.heap.get? C = some (prmO Pa st r last tl) → (st = 2 ∨ (st = 1 ∧ ∃ ix cy, tl = rws (ix ++ cy) ∧ ix.length = its.size ∧ nextP its.size r ix cy = none)) → wpAny (model X.prog X.w) X.A (pyNext (.ref C)) (fun r s1 => r = none ∧ Inv X pins σ H s1) E s := fun {st last tl} e hst =>
      pyNext_end (I.ok.hd hc) e hPa hPd hst fun h' eb => ⟨rfl, I.turned (t' := s.toks) (fun b o hb e => eb b o hb e) f0 f1 f3 f4 f5⟩
    rcases hC with ⟨e0, e⟩ | ⟨j, last, p0, e0, e1, e⟩
    · subst e0
      rcases hL with ⟨hlt, _⟩ | ⟨_, hL0, _⟩
      · rw [if_pos hlt] at e
        exact fin e (.inl rfl)
      · have h9 := (List.getElem?_eq_some_iff.mp hL0).1
        omega
    · subst e0
      rcases hL with ⟨_, hem⟩ | ⟨_, _, hLn⟩
      · rw [hem] at e1; simp at e1
      · obtain ⟨q1, q2, q3⟩ := hLn j p0 e1
        refine fin e (.inr ⟨rfl, p0.1, p0.2, rfl, by rw [hn]; exact q1, ?_⟩)
        rw [hn, q3]
        exact List.getElem?_eq_none hstop
  self := fun A i s Q E st h => by
    obtain ⟨_, _, hC⟩ := st
    rcases hC with ⟨_, e⟩ | ⟨_, _, _, _, _, e⟩
    · exact iter_prm e h
    · exact iter_prm e h
/-- behind the call -/
theorem pie_prm {X : Cx} {pins : List (Addr × Obj)} {σ : L2.St} {H1 : Hp} {s1 : Shared} {tg : Expr} {R : It → Hp → Prop} {xs : List V} {its : List Value} {r : Nat} {S : List (List Nat × List Nat)} (I1 : Inv X pins σ H1 s1) (rv : Vals xs its) (hL : PrmOk xs.length r S) (q : R (ItPrm xs r S) H1) (h' : Heap) (k : ∀ b o', s1.heap.get? b = some o' → h'.get? b = some o') (hle : s1.heap.objs.size ≤ h'.objs.size) :
    wpAny (model X.prog X.w) X.A (pyIter (.ref (h'.objs.size + 1))) (PIE X pins σ tg R) X.xe { s1 with heap := (h'.push { cls := .type "tuple", data := .seq its.toArray }).push (prmO h'.objs.size (if r > its.toArray.size then 2 else 0) r .none (startP its.toArray.size r)) } := by
  have hlen : xs.length = its.length := Paired.length rv
  have hsize : its.toArray.size = xs.length := by rw [List.size_toArray, hlen]
  rw [hsize]
  generalize hh2 : (h'.push { cls := Value.type "tuple", data := Data.seq its.toArray }).push (prmO h'.objs.size (if r > xs.length then 2 else 0) r .none (startP xs.length r)) = h2
  have hC : h2.get? (h'.objs.size + 1) = some (prmO h'.objs.size (if r > xs.length then 2 else 0) r .none (startP xs.length r)) := by
    rw [← hh2, show h'.objs.size + 1 = (h'.push { cls := Value.type "tuple", data := Data.seq its.toArray }).objs.size from (Heap.size_push _ _).symm]
    exact Heap.get?_push_size _ rfl
  have hP : h2.get? h'.objs.size = some { cls := Value.type "tuple", data := Data.seq its.toArray } := by
    rw [← hh2]
    exact Heap.get?_push_of_some _ (Heap.get?_push_size _ rfl)
  have hk : ∀ b o', s1.heap.get? b = some o' → h2.get? b = some o' := fun b o' e => by
    rw [← hh2]
    exact Heap.get?_push_of_some _ (Heap.get?_push_of_some _ (k b o' e))
  refine iter_prm hC ?_
  have I2 : Inv X pins σ H1 { s1 with heap := h2 } := I1.kept (t' := s1.toks) hk
  refine ⟨h'.objs.size + 1, [h'.objs.size + 1, h'.objs.size], _, _, H1, rfl, I2, turn_prm (its := its.toArray) (n := xs.length) (r := r) (S := S) rv hsize hL, ⟨⟨_, _, hP, rfl, rfl⟩, Nat.succ_ne_self _, .inl ⟨rfl, hC⟩⟩, fun c hcm => ?_, q⟩
  have e' : c = h'.objs.size + 1 ∨ c = h'.objs.size := by simpa using hcm
  have hle2 : s1.heap.objs.size ≤ c := by
    rcases e' with z | z
    · rw [z]; exact Nat.le_succ_of_le hle
    · rw [z]; exact hle
  exact I1.fpOk hle2 (I1.hok.fresh hle2)
def iPrm2 (K : PySem.W.Frag) (ta : TA) : TI := fun σ H R => ta σ H fun vs H1 => ∃ a xs r S, vs = [.ref a, .int (r : Nat)] ∧ SqL K H1 a xs ∧ PrmOk xs.length r S ∧ R (ItPrm xs r S) H1
theorem pi_prm2 {X : Cx} {x : PySem.Str} {tg e e2 : Expr} {ta : TA} {p pos : Pos} (hg : Gl X x) (hm : X.mg x = some (.type "itertools.permutations")) (ha : PA X [e, e2] ta) (hdb : (x == ("__debug__" : Str)) = false := by decide)
    (hs : starEach [e, e2] X.env = (false, eval e X.env) :: starEach [e2] X.env := by rfl) (hpl : (backTo pos (starEach [e2] X.env)).any (·.1) = false := by rfl) :
    PI X tg (.Call (.Name x p) [e, e2] [] pos) (iPrm2 X.K ta) := by
  refine ⟨fun pins s σ H R I h => ?_⟩
  refine wpAny_Call_Name_kw (ld_glob I hg hm ?_ hdb)
  refine PyProof.Rows.callWith_type1 (thn (ha.run pos pins s σ H _ I h) fun us s1 ⟨vs, H1, I1, r1, q1⟩ => ?_) hs hpl
  obtain ⟨a, xs, r, S, ex, hqx, hL, q⟩ := q1
  subst ex
  cases r1 with
  | cons ra rr =>
    cases rr with
    | cons rb rr =>
      cases rr
      cases ra
      obtain ⟨t, rfl⟩ := rb
      obtain ⟨its, rv, hpl2, hz⟩ := I1.list hqx
      have hlen : xs.length = its.length := Paired.length rv
      exact call_prm2 hpl2.isList (by rw [List.size_toArray, ← hlen]; exact Nat.le_trans hL.1 (by decide)) (Nat.le_trans hL.2.1 (by decide)) fun h' k hle => pie_prm I1 rv hL q h' k hle
def iPrm1 (K : PySem.W.Frag) (ta : TA) : TI := fun σ H R => ta σ H fun vs H1 => ∃ a xs S, vs = [.ref a] ∧ SqL K H1 a xs ∧ PrmOk xs.length xs.length S ∧ R (ItPrm xs xs.length S) H1
theorem pi_prm1 {X : Cx} {x : PySem.Str} {tg e : Expr} {ta : TA} {p pos : Pos} (hg : Gl X x) (hm : X.mg x = some (.type "itertools.permutations")) (ha : PA X [e] ta) (hdb : (x == ("__debug__" : Str)) = false := by decide)
    (hs : starEach [e] X.env = (false, eval e X.env) :: starEach [] X.env := by rfl) (hpl : (backTo pos (starEach [] X.env)).any (·.1) = false := by rfl) :
    PI X tg (.Call (.Name x p) [e] [] pos) (iPrm1 X.K ta) := by
  refine ⟨fun pins s σ H R I h => ?_⟩
  refine wpAny_Call_Name_kw (ld_glob I hg hm ?_ hdb)
  refine PyProof.Rows.callWith_type1 (thn (ha.run pos pins s σ H _ I h) fun us s1 ⟨vs, H1, I1, r1, q1⟩ => ?_) hs hpl
  obtain ⟨a, xs, S, ex, hqx, hL, q⟩ := q1
  subst ex
  cases r1 with
  | cons ra rr =>
    cases rr
    cases ra
    obtain ⟨its, rv, hpl2, hz⟩ := I1.list hqx
    have hlen : xs.length = its.length := Paired.length rv
    have hsz : its.toArray.size = xs.length := by rw [List.size_toArray, hlen]
    refine call_prm1 hpl2.isList (by rw [List.size_toArray, ← hlen]; exact Nat.le_trans hL.1 (by decide)) fun h' k hle => ?_
    have key := pie_prm (tg := tg) I1 rv hL q h' k hle
    rw [hsz] at key ⊢
    exact key
end Prm

/-! ### steps of the walk for permutations(list) -/
namespace Prm
open PySem PySem.Spec PyProof.Rows L2 Z
section
variable {K : PySem.W.Frag} {σ : L2.St} {H : Hp}
theorem walk_prm {xs : List V} {r : Nat} {S : List (List Nat × List Nat)} : Walk (ItPrm xs r S) S.length (fun _ => True) (fun i H v H' => ∃ T p, v = .ref T ∧ H T = none ∧ S[i]? = some p ∧ H' = upd H T (.tup (pickV xs (p.1.take r)))) :=
  ⟨fun _ _ hi _ => hi, fun _ _ => Nat.le_refl _, fun _ _ _ _ _ _ y => y⟩
def PrmK1 (K : PySem.W.Frag) (R : It → Hp → Prop) (vs : List V) (H1 : Hp) : Prop := ∃ a xs S, vs = [.ref a] ∧ SqL K H1 a xs ∧ PrmOk xs.length xs.length S ∧ R (ItPrm xs xs.length S) H1
theorem iprm1 {ta : TA} {R : It → Hp → Prop} (h : ta σ H (PrmK1 K R)) : iPrm1 K ta σ H R := h
theorem lcp1 {g : TG} {tt : TT} {te : TE} {vs : List Nat} {a : Addr} {Q : VK} (xs : List V) (S : List (List Nat × List Nat)) (hS : SqL K H a xs) (hP : PrmOk xs.length xs.length S) (Pv : Addr → Nat → Hp → Prop) (h0 : ∀ D H1, H D = none → Kp [] H H1 → H1 D = some (.lst []) → Pv D 0 H1)
    (hs : ∀ D i p H1 H2 t, H D = none → S[i]? = some p → Pv D i H1 → H1 t = none → Kp [] H1 H2 → H2 t = some (.tup (pickV xs (p.1.take xs.length))) → g (.ref t) (wipe σ vs) H2 fun σ2 H2 => wipe σ2 vs = wipe σ vs ∧ tt σ2 H2 fun b H3 => if b = true then te σ2 H3 fun y H4 => ∃ acc, H4 D = some (.lst acc) ∧ acc.length < sizeLine ∧ Pv D (i + 1) (upd H4 D (.lst (acc ++ [y]))) else Pv D (i + 1) H3)
    (hd : ∀ D H1, H D = none → Pv D S.length H1 → Q (.ref D) H1) : PrmK1 K (LcK g tt te vs σ Q) [.ref a] H :=
  ⟨a, xs, S, rfl, hS, hP, fun D hD => lc_it walk_prm (Pv D) (h0 D _ hD (Kp.new hD) upd_same) (fun _ _ _ _ => trivial) (fun i v H1 H' hi p y => by
    obtain ⟨t, q, rfl, ht, hq, rfl⟩ := y
    exact hs D i q H1 _ t hD hq p ht (Kp.new ht) upd_same) fun H1 p => hd D H1 hD p⟩
end
/-- all states of permutations of n things, n at most 3 -/
def stP : Nat → List (List Nat × List Nat)
  | 0 => [([], [])]
  | 1 => [([0], [1])]
  | 2 => [([0, 1], [2, 1]), ([1, 0], [1, 1])]
  | 3 => [([0, 1, 2], [3, 2, 1]), ([0, 2, 1], [3, 1, 1]), ([1, 0, 2], [2, 2, 1]), ([1, 2, 0], [2, 1, 1]), ([2, 0, 1], [1, 2, 1]), ([2, 1, 0], [1, 1, 1])]
  | _ => []
theorem stP_ok {n : Nat} (h : n ≤ 3) : PrmOk n n (stP n) := by
  have h4 : n = 0 ∨ n = 1 ∨ n = 2 ∨ n = 3 := by omega
  rcases h4 with rfl | rfl | rfl | rfl
  · refine ⟨by decide, by decide, .inr ⟨by decide, rfl, fun i p hp => ?_⟩⟩
    match i, hp with
    | 0, hp => cases hp; exact ⟨rfl, rfl, rfl⟩
  · refine ⟨by decide, by decide, .inr ⟨by decide, rfl, fun i p hp => ?_⟩⟩
    match i, hp with
    | 0, hp => cases hp; exact ⟨rfl, rfl, by decide +kernel⟩
  · refine ⟨by decide, by decide, .inr ⟨by decide, rfl, fun i p hp => ?_⟩⟩
    match i, hp with
    | 0, hp => cases hp; exact ⟨rfl, rfl, by decide +kernel⟩
    | 1, hp => cases hp; exact ⟨rfl, rfl, by decide +kernel⟩
  · refine ⟨by decide, by decide, .inr ⟨by decide, rfl, fun i p hp => ?_⟩⟩
    match i, hp with
    | 0, hp => cases hp; exact ⟨rfl, rfl, by decide +kernel⟩
    | 1, hp => cases hp; exact ⟨rfl, rfl, by decide +kernel⟩
    | 2, hp => cases hp; exact ⟨rfl, rfl, by decide +kernel⟩
    | 3, hp => cases hp; exact ⟨rfl, rfl, by decide +kernel⟩
    | 4, hp => cases hp; exact ⟨rfl, rfl, by decide +kernel⟩
    | 5, hp => cases hp; exact ⟨rfl, rfl, by decide +kernel⟩
end Prm



namespace K35
open PySem L2 Z
def topS (i : Nat) : Stmt := PySem.Challenge.pw_samphire_k35_whole_unordered_estimates.main.body.getD i (.Pass ⟨0, 0, 0, 0⟩)
abbrev s_lowest : Stmt := topS 10
abbrev N_lowest : List Str := ["p", "q", "common"]
theorem sc_lowest : FnScope N_lowest ["p", "q"] (defScope s_lowest) := ⟨rfl, rfl, rfl, by decide +kernel, rfl, by decide +kernel, by decide +kernel⟩
abbrev s_plus : Stmt := topS 11
abbrev N_plus : List Str := ["a", "b"]
theorem sc_plus : FnScope N_plus ["a", "b"] (defScope s_plus) := ⟨rfl, rfl, rfl, by decide +kernel, rfl, by decide +kernel, by decide +kernel⟩
abbrev s_minus : Stmt := topS 12
abbrev N_minus : List Str := ["a", "b"]
theorem sc_minus : FnScope N_minus ["a", "b"] (defScope s_minus) := ⟨rfl, rfl, rfl, by decide +kernel, rfl, by decide +kernel, by decide +kernel⟩
abbrev s_times : Stmt := topS 13
abbrev N_times : List Str := ["a", "b"]
theorem sc_times : FnScope N_times ["a", "b"] (defScope s_times) := ⟨rfl, rfl, rfl, by decide +kernel, rfl, by decide +kernel, by decide +kernel⟩
abbrev s_over : Stmt := topS 14
abbrev N_over : List Str := ["a", "b"]
theorem sc_over : FnScope N_over ["a", "b"] (defScope s_over) := ⟨rfl, rfl, rfl, by decide +kernel, rfl, by decide +kernel, by decide +kernel⟩
abbrev s_sum_of : Stmt := topS 15
abbrev N_sum_of : List Str := ["fractions", "total", "fraction"]
theorem sc_sum_of : FnScope N_sum_of ["fractions"] (defScope s_sum_of) := ⟨rfl, rfl, rfl, by decide +kernel, rfl, by decide +kernel, by decide +kernel⟩
abbrev s_weight_of : Stmt := topS 17
abbrev N_weight_of : List Str := ["things", "item"]
theorem sc_weight_of : FnScope N_weight_of ["things"] (defScope s_weight_of) := ⟨rfl, rfl, rfl, by decide +kernel, rfl, by decide +kernel, by decide +kernel⟩
abbrev s_Uniform_init : Stmt := inClass (topS 19) 0
abbrev N_Uniform_init : List Str := ["self", "size", "seen", "kept"]
theorem sc_Uniform_init : FnScope N_Uniform_init ["self", "size", "seen", "kept"] (defScope s_Uniform_init) := ⟨rfl, rfl, rfl, by decide +kernel, rfl, by decide +kernel, by decide +kernel⟩
abbrev s_Weighted_init : Stmt := inClass (topS 21) 0
abbrev N_Weighted_init : List Str := ["self", "size", "total", "kept"]
theorem sc_Weighted_init : FnScope N_Weighted_init ["self", "size", "total", "kept"] (defScope s_Weighted_init) := ⟨rfl, rfl, rfl, by decide +kernel, rfl, by decide +kernel, by decide +kernel⟩
abbrev s_order_chance : Stmt := topS 22
abbrev N_order_chance : List Str := ["total", "kept", "chance", "left", "item"]
theorem sc_order_chance : FnScope N_order_chance ["total", "kept"] (defScope s_order_chance) := ⟨rfl, rfl, rfl, by decide +kernel, rfl, by decide +kernel, by decide +kernel⟩
abbrev s_is_whole : Stmt := topS 25
abbrev N_is_whole : List Str := ["sample", "item", "adjusted"]
theorem sc_is_whole : FnScope N_is_whole ["sample"] (defScope s_is_whole) := ⟨rfl, rfl, rfl, by decide +kernel, rfl, by decide +kernel, by decide +kernel⟩
abbrev s_amount_of : Stmt := topS 26
abbrev N_amount_of : List Str := ["amounts", "item"]
theorem sc_amount_of : FnScope N_amount_of ["amounts", "item"] (defScope s_amount_of) := ⟨rfl, rfl, rfl, by decide +kernel, rfl, by decide +kernel, by decide +kernel⟩
abbrev s_true_sum : Stmt := topS 27
abbrev N_true_sum : List Str := ["things", "amounts", "item"]
theorem sc_true_sum : FnScope N_true_sum ["things", "amounts"] (defScope s_true_sum) := ⟨rfl, rfl, rfl, by decide +kernel, rfl, by decide +kernel, by decide +kernel⟩
abbrev s_mean_of : Stmt := topS 28
abbrev N_mean_of : List Str := ["numbers"]
theorem sc_mean_of : FnScope N_mean_of ["numbers"] (defScope s_mean_of) := ⟨rfl, rfl, rfl, by decide +kernel, rfl, by decide +kernel, by decide +kernel⟩
abbrev s_squares_around : Stmt := topS 29
abbrev N_squares_around : List Str := ["numbers", "middle", "differences", "number"]
theorem sc_squares_around : FnScope N_squares_around ["numbers"] (defScope s_squares_around) := ⟨rfl, rfl, rfl, by decide +kernel, rfl, by decide +kernel, by decide +kernel⟩
abbrev s_ordered_estimates : Stmt := topS 32
abbrev N_ordered_estimates : List Str := ["total", "kept", "amounts", "found", "left", "before", "item", "amount"]
theorem sc_ordered_estimates : FnScope N_ordered_estimates ["total", "kept", "amounts"] (defScope s_ordered_estimates) := ⟨rfl, rfl, rfl, by decide +kernel, rfl, by decide +kernel, by decide +kernel⟩
abbrev s_weighted_estimate : Stmt := topS 33
abbrev N_weighted_estimate : List Str := ["sample", "amounts", "numbers", "many"]
theorem sc_weighted_estimate : FnScope N_weighted_estimate ["sample", "amounts"] (defScope s_weighted_estimate) := ⟨rfl, rfl, rfl, by decide +kernel, rfl, by decide +kernel, by decide +kernel⟩
abbrev s_estimate : Stmt := topS 35
abbrev N_estimate : List Str := ["sample", "amounts"]
theorem sc_estimate : FnScope N_estimate ["sample", "amounts"] (defScope s_estimate) := ⟨rfl, rfl, rfl, by decide +kernel, rfl, by decide +kernel, by decide +kernel⟩
abbrev s_unordered : Stmt := topS 36
abbrev N_unordered : List Str := ["sample", "amounts", "chances", "weighed", "order", "chance", "row"]
theorem sc_unordered : FnScope N_unordered ["sample", "amounts"] (defScope s_unordered) := ⟨rfl, rfl, rfl, by decide +kernel, rfl, by decide +kernel, by decide +kernel⟩
abbrev s__law_mix : Stmt := topS 38
abbrev N__law_mix : List Str := ["number", "k"]
theorem sc__law_mix : FnScope N__law_mix ["number", "k"] (defScope s__law_mix) := ⟨rfl, rfl, rfl, by decide +kernel, rfl, by decide +kernel, by decide +kernel⟩
abbrev s__law_numbers : Stmt := topS 39
abbrev N__law_numbers : List Str := ["script", "count", "row", "base", "cell", "rest", "k"]
theorem sc__law_numbers : FnScope N__law_numbers ["script", "count"] (defScope s__law_numbers) := ⟨rfl, rfl, rfl, by decide +kernel, rfl, by decide +kernel, by decide +kernel⟩
abbrev s__law_take : Stmt := topS 40
abbrev N__law_take : List Str := ["row", "bound"]
theorem sc__law_take : FnScope N__law_take ["row", "bound"] (defScope s__law_take) := ⟨rfl, rfl, rfl, by decide +kernel, rfl, by decide +kernel, by decide +kernel⟩
abbrev s__law_low : Stmt := topS 41
abbrev N__law_low : List Str := ["p", "q", "first", "second", "turn"]
theorem sc__law_low : FnScope N__law_low ["p", "q"] (defScope s__law_low) := ⟨rfl, rfl, rfl, by decide +kernel, rfl, by decide +kernel, by decide +kernel⟩
abbrev s__law_plus : Stmt := topS 42
abbrev N__law_plus : List Str := ["one", "other"]
theorem sc__law_plus : FnScope N__law_plus ["one", "other"] (defScope s__law_plus) := ⟨rfl, rfl, rfl, by decide +kernel, rfl, by decide +kernel, by decide +kernel⟩
abbrev s__law_minus : Stmt := topS 43
abbrev N__law_minus : List Str := ["one", "other"]
theorem sc__law_minus : FnScope N__law_minus ["one", "other"] (defScope s__law_minus) := ⟨rfl, rfl, rfl, by decide +kernel, rfl, by decide +kernel, by decide +kernel⟩
abbrev s__law_times : Stmt := topS 44
abbrev N__law_times : List Str := ["one", "other"]
theorem sc__law_times : FnScope N__law_times ["one", "other"] (defScope s__law_times) := ⟨rfl, rfl, rfl, by decide +kernel, rfl, by decide +kernel, by decide +kernel⟩
abbrev s__law_less : Stmt := topS 45
abbrev N__law_less : List Str := ["one", "other"]
theorem sc__law_less : FnScope N__law_less ["one", "other"] (defScope s__law_less) := ⟨rfl, rfl, rfl, by decide +kernel, rfl, by decide +kernel, by decide +kernel⟩
abbrev s__law_sum : Stmt := topS 46
abbrev N__law_sum : List Str := ["rows", "whole", "one"]
theorem sc__law_sum : FnScope N__law_sum ["rows"] (defScope s__law_sum) := ⟨rfl, rfl, rfl, by decide +kernel, rfl, by decide +kernel, by decide +kernel⟩
abbrev s__law_items : Stmt := topS 47
abbrev N__law_items : List Str := ["row", "many", "found", "k", "weight"]
theorem sc__law_items : FnScope N__law_items ["row", "many"] (defScope s__law_items) := ⟨rfl, rfl, rfl, by decide +kernel, rfl, by decide +kernel, by decide +kernel⟩
abbrev s__law_amounts : Stmt := topS 48
abbrev N__law_amounts : List Str := ["row", "things", "amounts", "item"]
theorem sc__law_amounts : FnScope N__law_amounts ["row", "things"] (defScope s__law_amounts) := ⟨rfl, rfl, rfl, by decide +kernel, rfl, by decide +kernel, by decide +kernel⟩
abbrev s__law_true : Stmt := topS 49
abbrev N__law_true : List Str := ["things", "amounts", "item"]
theorem sc__law_true : FnScope N__law_true ["things", "amounts"] (defScope s__law_true) := ⟨rfl, rfl, rfl, by decide +kernel, rfl, by decide +kernel, by decide +kernel⟩
abbrev s__law_moments : Stmt := topS 50
abbrev N__law_moments : List Str := ["rows", "middle", "spread", "number", "chance", "away"]
theorem sc__law_moments : FnScope N__law_moments ["rows"] (defScope s__law_moments) := ⟨rfl, rfl, rfl, by decide +kernel, rfl, by decide +kernel, by decide +kernel⟩
abbrev s__law_orders : Stmt := topS 51
abbrev N__law_orders : List Str := ["things", "many", "found", "turn", "more", "one", "item"]
theorem sc__law_orders : FnScope N__law_orders ["things", "many"] (defScope s__law_orders) := ⟨rfl, rfl, rfl, by decide +kernel, rfl, by decide +kernel, by decide +kernel⟩
abbrev s__law_order_chance : Stmt := topS 52
abbrev N__law_order_chance : List Str := ["total", "things", "chance", "left", "item"]
theorem sc__law_order_chance : FnScope N__law_order_chance ["total", "things"] (defScope s__law_order_chance) := ⟨rfl, rfl, rfl, by decide +kernel, rfl, by decide +kernel, by decide +kernel⟩
abbrev s__law_sets : Stmt := topS 53
abbrev N__law_sets : List Str := ["things", "many", "found", "item", "one"]
theorem sc__law_sets : FnScope N__law_sets ["things", "many"] (defScope s__law_sets) := ⟨rfl, rfl, rfl, by decide +kernel, rfl, by decide +kernel, by decide +kernel⟩
abbrev s__law_told : Stmt := topS 54
abbrev N__law_told : List Str := ["sample", "amounts", "error"]
theorem sc__law_told : FnScope N__law_told ["sample", "amounts"] (defScope s__law_told) := ⟨rfl, rfl, rfl, by decide +kernel, rfl, by decide +kernel, by decide +kernel⟩
abbrev s_law : Stmt := topS 55
abbrev N_law : List Str := ["script", "row", "many", "things", "amounts", "seven", "due", "size", "total", "first", "second", "kept", "chances", "found", "order", "chance", "answer", "item"]
theorem sc_law : FnScope N_law ["script"] (defScope s_law) := ⟨rfl, rfl, rfl, by decide +kernel, rfl, by decide +kernel, by decide +kernel⟩
abbrev s_TooLarge_init : Stmt := inClass (topS 5) 0
abbrev N_TooLarge_init : List Str := ["self", "limit", "__class__"]
theorem sc_TooLarge_init : NdefX.NScope N_TooLarge_init ["self", "limit"] ["__class__"] (defScope s_TooLarge_init) := NdefX.nscope_by (by decide +kernel)
abbrev NF_TooLarge (cc c : Addr) : NdefX.NF := ⟨"__init__", "TooLarge.__init__", defArgs s_TooLarge_init, defBody s_TooLarge_init, defScope s_TooLarge_init, [(("__class__" : Str), cc)], c⟩
abbrev s_ZeroDenominator_init : Stmt := inClass (topS 6) 0
abbrev N_ZeroDenominator_init : List Str := ["self", "__class__"]
theorem sc_ZeroDenominator_init : NdefX.NScope N_ZeroDenominator_init ["self"] ["__class__"] (defScope s_ZeroDenominator_init) := NdefX.nscope_by (by decide +kernel)
abbrev NF_ZeroDenominator (cc c : Addr) : NdefX.NF := ⟨"__init__", "ZeroDenominator.__init__", defArgs s_ZeroDenominator_init, defBody s_ZeroDenominator_init, defScope s_ZeroDenominator_init, [(("__class__" : Str), cc)], c⟩
set_option maxHeartbeats 4000000 in
structure T (P : Program) (K : PySem.W.Frag) (mg : Str → Option Value) where
  a_lowest : Addr
  fd_lowest : FuncData
  F_lowest : Fun K "lowest" "lowest" s_lowest a_lowest fd_lowest
  b_lowest : Binds K fd_lowest ["p", "q"] []
  g_lowest : mg "lowest" = some (.ref a_lowest)
  a_plus : Addr
  fd_plus : FuncData
  F_plus : Fun K "plus" "plus" s_plus a_plus fd_plus
  b_plus : Binds K fd_plus ["a", "b"] []
  g_plus : mg "plus" = some (.ref a_plus)
  a_minus : Addr
  fd_minus : FuncData
  F_minus : Fun K "minus" "minus" s_minus a_minus fd_minus
  b_minus : Binds K fd_minus ["a", "b"] []
  g_minus : mg "minus" = some (.ref a_minus)
  a_times : Addr
  fd_times : FuncData
  F_times : Fun K "times" "times" s_times a_times fd_times
  b_times : Binds K fd_times ["a", "b"] []
  g_times : mg "times" = some (.ref a_times)
  a_over : Addr
  fd_over : FuncData
  F_over : Fun K "over" "over" s_over a_over fd_over
  b_over : Binds K fd_over ["a", "b"] []
  g_over : mg "over" = some (.ref a_over)
  a_sum_of : Addr
  fd_sum_of : FuncData
  F_sum_of : Fun K "sum_of" "sum_of" s_sum_of a_sum_of fd_sum_of
  b_sum_of : Binds K fd_sum_of ["fractions"] []
  g_sum_of : mg "sum_of" = some (.ref a_sum_of)
  a_weight_of : Addr
  fd_weight_of : FuncData
  F_weight_of : Fun K "weight_of" "weight_of" s_weight_of a_weight_of fd_weight_of
  b_weight_of : Binds K fd_weight_of ["things"] []
  g_weight_of : mg "weight_of" = some (.ref a_weight_of)
  a_Uniform_init : Addr
  fd_Uniform_init : FuncData
  F_Uniform_init : Fun K "__init__" "Uniform.__init__" s_Uniform_init a_Uniform_init fd_Uniform_init
  b_Uniform_init : Binds K fd_Uniform_init ["self", "size", "seen", "kept"] []
  a_Weighted_init : Addr
  fd_Weighted_init : FuncData
  F_Weighted_init : Fun K "__init__" "Weighted.__init__" s_Weighted_init a_Weighted_init fd_Weighted_init
  b_Weighted_init : Binds K fd_Weighted_init ["self", "size", "total", "kept"] []
  a_order_chance : Addr
  fd_order_chance : FuncData
  F_order_chance : Fun K "order_chance" "order_chance" s_order_chance a_order_chance fd_order_chance
  b_order_chance : Binds K fd_order_chance ["total", "kept"] []
  g_order_chance : mg "order_chance" = some (.ref a_order_chance)
  a_is_whole : Addr
  fd_is_whole : FuncData
  F_is_whole : Fun K "is_whole" "is_whole" s_is_whole a_is_whole fd_is_whole
  b_is_whole : Binds K fd_is_whole ["sample"] []
  g_is_whole : mg "is_whole" = some (.ref a_is_whole)
  a_amount_of : Addr
  fd_amount_of : FuncData
  F_amount_of : Fun K "amount_of" "amount_of" s_amount_of a_amount_of fd_amount_of
  b_amount_of : Binds K fd_amount_of ["amounts", "item"] []
  g_amount_of : mg "amount_of" = some (.ref a_amount_of)
  a_true_sum : Addr
  fd_true_sum : FuncData
  F_true_sum : Fun K "true_sum" "true_sum" s_true_sum a_true_sum fd_true_sum
  b_true_sum : Binds K fd_true_sum ["things", "amounts"] []
  g_true_sum : mg "true_sum" = some (.ref a_true_sum)
  a_mean_of : Addr
  fd_mean_of : FuncData
  F_mean_of : Fun K "mean_of" "mean_of" s_mean_of a_mean_of fd_mean_of
  b_mean_of : Binds K fd_mean_of ["numbers"] []
  g_mean_of : mg "mean_of" = some (.ref a_mean_of)
  a_squares_around : Addr
  fd_squares_around : FuncData
  F_squares_around : Fun K "squares_around" "squares_around" s_squares_around a_squares_around fd_squares_around
  b_squares_around : Binds K fd_squares_around ["numbers"] []
  g_squares_around : mg "squares_around" = some (.ref a_squares_around)
  a_ordered_estimates : Addr
  fd_ordered_estimates : FuncData
  F_ordered_estimates : Fun K "ordered_estimates" "ordered_estimates" s_ordered_estimates a_ordered_estimates fd_ordered_estimates
  b_ordered_estimates : Binds K fd_ordered_estimates ["total", "kept", "amounts"] []
  g_ordered_estimates : mg "ordered_estimates" = some (.ref a_ordered_estimates)
  a_weighted_estimate : Addr
  fd_weighted_estimate : FuncData
  F_weighted_estimate : Fun K "weighted_estimate" "weighted_estimate" s_weighted_estimate a_weighted_estimate fd_weighted_estimate
  b_weighted_estimate : Binds K fd_weighted_estimate ["sample", "amounts"] []
  g_weighted_estimate : mg "weighted_estimate" = some (.ref a_weighted_estimate)
  a_estimate : Addr
  fd_estimate : FuncData
  F_estimate : Fun K "estimate" "estimate" s_estimate a_estimate fd_estimate
  b_estimate : Binds K fd_estimate ["sample", "amounts"] []
  g_estimate : mg "estimate" = some (.ref a_estimate)
  a_unordered : Addr
  fd_unordered : FuncData
  F_unordered : Fun K "unordered" "unordered" s_unordered a_unordered fd_unordered
  b_unordered : Binds K fd_unordered ["sample", "amounts"] []
  g_unordered : mg "unordered" = some (.ref a_unordered)
  a__law_mix : Addr
  fd__law_mix : FuncData
  F__law_mix : Fun K "_law_mix" "_law_mix" s__law_mix a__law_mix fd__law_mix
  b__law_mix : Binds K fd__law_mix ["number", "k"] []
  g__law_mix : mg "_law_mix" = some (.ref a__law_mix)
  a__law_numbers : Addr
  fd__law_numbers : FuncData
  F__law_numbers : Fun K "_law_numbers" "_law_numbers" s__law_numbers a__law_numbers fd__law_numbers
  b__law_numbers : Binds K fd__law_numbers ["script", "count"] []
  g__law_numbers : mg "_law_numbers" = some (.ref a__law_numbers)
  a__law_take : Addr
  fd__law_take : FuncData
  F__law_take : Fun K "_law_take" "_law_take" s__law_take a__law_take fd__law_take
  b__law_take : Binds K fd__law_take ["row", "bound"] []
  g__law_take : mg "_law_take" = some (.ref a__law_take)
  a__law_low : Addr
  fd__law_low : FuncData
  F__law_low : Fun K "_law_low" "_law_low" s__law_low a__law_low fd__law_low
  b__law_low : Binds K fd__law_low ["p", "q"] []
  g__law_low : mg "_law_low" = some (.ref a__law_low)
  a__law_plus : Addr
  fd__law_plus : FuncData
  F__law_plus : Fun K "_law_plus" "_law_plus" s__law_plus a__law_plus fd__law_plus
  b__law_plus : Binds K fd__law_plus ["one", "other"] []
  g__law_plus : mg "_law_plus" = some (.ref a__law_plus)
  a__law_minus : Addr
  fd__law_minus : FuncData
  F__law_minus : Fun K "_law_minus" "_law_minus" s__law_minus a__law_minus fd__law_minus
  b__law_minus : Binds K fd__law_minus ["one", "other"] []
  g__law_minus : mg "_law_minus" = some (.ref a__law_minus)
  a__law_times : Addr
  fd__law_times : FuncData
  F__law_times : Fun K "_law_times" "_law_times" s__law_times a__law_times fd__law_times
  b__law_times : Binds K fd__law_times ["one", "other"] []
  g__law_times : mg "_law_times" = some (.ref a__law_times)
  a__law_less : Addr
  fd__law_less : FuncData
  F__law_less : Fun K "_law_less" "_law_less" s__law_less a__law_less fd__law_less
  b__law_less : Binds K fd__law_less ["one", "other"] []
  g__law_less : mg "_law_less" = some (.ref a__law_less)
  a__law_sum : Addr
  fd__law_sum : FuncData
  F__law_sum : Fun K "_law_sum" "_law_sum" s__law_sum a__law_sum fd__law_sum
  b__law_sum : Binds K fd__law_sum ["rows"] []
  g__law_sum : mg "_law_sum" = some (.ref a__law_sum)
  a__law_items : Addr
  fd__law_items : FuncData
  F__law_items : Fun K "_law_items" "_law_items" s__law_items a__law_items fd__law_items
  b__law_items : Binds K fd__law_items ["row", "many"] []
  g__law_items : mg "_law_items" = some (.ref a__law_items)
  a__law_amounts : Addr
  fd__law_amounts : FuncData
  F__law_amounts : Fun K "_law_amounts" "_law_amounts" s__law_amounts a__law_amounts fd__law_amounts
  b__law_amounts : Binds K fd__law_amounts ["row", "things"] []
  g__law_amounts : mg "_law_amounts" = some (.ref a__law_amounts)
  a__law_true : Addr
  fd__law_true : FuncData
  F__law_true : Fun K "_law_true" "_law_true" s__law_true a__law_true fd__law_true
  b__law_true : Binds K fd__law_true ["things", "amounts"] []
  g__law_true : mg "_law_true" = some (.ref a__law_true)
  a__law_moments : Addr
  fd__law_moments : FuncData
  F__law_moments : Fun K "_law_moments" "_law_moments" s__law_moments a__law_moments fd__law_moments
  b__law_moments : Binds K fd__law_moments ["rows"] []
  g__law_moments : mg "_law_moments" = some (.ref a__law_moments)
  a__law_orders : Addr
  fd__law_orders : FuncData
  F__law_orders : Fun K "_law_orders" "_law_orders" s__law_orders a__law_orders fd__law_orders
  b__law_orders : Binds K fd__law_orders ["things", "many"] []
  g__law_orders : mg "_law_orders" = some (.ref a__law_orders)
  a__law_order_chance : Addr
  fd__law_order_chance : FuncData
  F__law_order_chance : Fun K "_law_order_chance" "_law_order_chance" s__law_order_chance a__law_order_chance fd__law_order_chance
  b__law_order_chance : Binds K fd__law_order_chance ["total", "things"] []
  g__law_order_chance : mg "_law_order_chance" = some (.ref a__law_order_chance)
  a__law_sets : Addr
  fd__law_sets : FuncData
  F__law_sets : Fun K "_law_sets" "_law_sets" s__law_sets a__law_sets fd__law_sets
  b__law_sets : Binds K fd__law_sets ["things", "many"] []
  g__law_sets : mg "_law_sets" = some (.ref a__law_sets)
  a__law_told : Addr
  fd__law_told : FuncData
  F__law_told : Fun K "_law_told" "_law_told" s__law_told a__law_told fd__law_told
  b__law_told : Binds K fd__law_told ["sample", "amounts"] []
  g__law_told : mg "_law_told" = some (.ref a__law_told)
  a_law : Addr
  fd_law : FuncData
  F_law : Fun K "law" "law" s_law a_law fd_law
  b_law : Binds K fd_law ["script"] []
  g_law : mg "law" = some (.ref a_law)
  C_Uniform : Addr
  cl_Uniform : Cls K C_Uniform
  mg_Uniform : mg "Uniform" = some (.ref C_Uniform)
  mk_Uniform : Mk K C_Uniform a_Uniform_init
  na_Uniform_size : NoAttr K C_Uniform "size"
  na_Uniform_seen : NoAttr K C_Uniform "seen"
  na_Uniform_kept : NoAttr K C_Uniform "kept"
  C_Weighted : Addr
  cl_Weighted : Cls K C_Weighted
  mg_Weighted : mg "Weighted" = some (.ref C_Weighted)
  mk_Weighted : Mk K C_Weighted a_Weighted_init
  na_Weighted_size : NoAttr K C_Weighted "size"
  na_Weighted_total : NoAttr K C_Weighted "total"
  na_Weighted_kept : NoAttr K C_Weighted "kept"
  C_SamphireError : Addr
  mg_SamphireError : mg "SamphireError" = some (.ref C_SamphireError)
  C_TooLarge : Addr
  a_TooLarge_init : Addr
  c_TooLarge : Addr
  cc_TooLarge : Addr
  x_TooLarge : Sup.ExcT P K mg "TooLarge" C_TooLarge a_TooLarge_init c_TooLarge cc_TooLarge
  doc_TooLarge : Value
  pm_TooLarge : Value
  ctv_TooLarge : Value
  oc_TooLarge : Value
  od_TooLarge : Option Addr
  osl_TooLarge : Array (Option Value)
  lk_TooLarge : K.lookup a_TooLarge_init = some ⟨oc_TooLarge, od_TooLarge, .func ((NF_TooLarge cc_TooLarge c_TooLarge).fd doc_TooLarge pm_TooLarge ctv_TooLarge), osl_TooLarge⟩
  hc_TooLarge : PySem.W.codeIn K (.ref c_TooLarge) "TooLarge.__init__" = true
  bx_TooLarge : Binds K ((NF_TooLarge cc_TooLarge c_TooLarge).fd doc_TooLarge pm_TooLarge ctv_TooLarge) ["self", "limit"] []
  nf_TooLarge_limit : PySem.W.findIn K (.ref C_TooLarge) "limit" = some none
  C_ZeroDenominator : Addr
  a_ZeroDenominator_init : Addr
  c_ZeroDenominator : Addr
  cc_ZeroDenominator : Addr
  x_ZeroDenominator : Sup.ExcT P K mg "ZeroDenominator" C_ZeroDenominator a_ZeroDenominator_init c_ZeroDenominator cc_ZeroDenominator
  doc_ZeroDenominator : Value
  pm_ZeroDenominator : Value
  ctv_ZeroDenominator : Value
  oc_ZeroDenominator : Value
  od_ZeroDenominator : Option Addr
  osl_ZeroDenominator : Array (Option Value)
  lk_ZeroDenominator : K.lookup a_ZeroDenominator_init = some ⟨oc_ZeroDenominator, od_ZeroDenominator, .func ((NF_ZeroDenominator cc_ZeroDenominator c_ZeroDenominator).fd doc_ZeroDenominator pm_ZeroDenominator ctv_ZeroDenominator), osl_ZeroDenominator⟩
  hc_ZeroDenominator : PySem.W.codeIn K (.ref c_ZeroDenominator) "ZeroDenominator.__init__" = true
  bx_ZeroDenominator : Binds K ((NF_ZeroDenominator cc_ZeroDenominator c_ZeroDenominator).fd doc_ZeroDenominator pm_ZeroDenominator ctv_ZeroDenominator) ["self"] []
  isa_Uniform : PySem.W.findIn K (.ref C_Uniform) "__class__" = some (some (.builtin "object.__class__"))
  isg_Uniform : PySem.W.specialIn K (.builtin "object.__class__") "__get__" = some (some (.builtin "getset_descriptor.__get__"))
  ist_Uniform : PySem.W.takesIn K (.builtin "object.__class__") = some true
  ism_Uniform : PySem.W.mroIn K C_Uniform (.type "object") = some true
  isa_Weighted : PySem.W.findIn K (.ref C_Weighted) "__class__" = some (some (.builtin "object.__class__"))
  isg_Weighted : PySem.W.specialIn K (.builtin "object.__class__") "__get__" = some (some (.builtin "getset_descriptor.__get__"))
  ist_Weighted : PySem.W.takesIn K (.builtin "object.__class__") = some true
  ism_Weighted : PySem.W.mroIn K C_Weighted (.type "object") = some true
  kit_Weighted_Uniform : PySem.W.kitOne K (.ref C_Weighted) (.ref C_Uniform) = some false
  kit_Weighted_Weighted : PySem.W.kitOne K (.ref C_Weighted) (.ref C_Weighted) = some true
  kit_TooLarge_SamphireError : PySem.W.kitOne K (.ref C_TooLarge) (.ref C_SamphireError) = some true
  z_abs : mg "abs" = none
  z_dict : mg "dict" = none
  z_int : mg "int" = none
  z_isinstance : mg "isinstance" = none
  z_len : mg "len" = none
  z_list : mg "list" = none
  z_max : mg "max" = none
  z_min : mg "min" = none
  z_range : mg "range" = none
  z_sorted : mg "sorted" = none
  z_sum : mg "sum" = none
  z_super : mg "super" = none
  v_MOST_ORDERED : Value
  g_MOST_ORDERED : mg "MOST_ORDERED" = some v_MOST_ORDERED
  r_MOST_ORDERED : RelV (.int (6)) v_MOST_ORDERED
  k_ZERO : Addr
  g_ZERO : mg "ZERO" = some (.ref k_ZERO)
  q_ZERO : ∀ H, SqT K H k_ZERO [.int (0), .int (1)]
  k_ONE : Addr
  g_ONE : mg "ONE" = some (.ref k_ONE)
  q_ONE : ∀ H, SqT K H k_ONE [.int (1), .int (1)]
  g_permutations : mg "permutations" = some (.type "itertools.permutations")
  g_gcd : mg "gcd" = some (.builtin "math.gcd")
/-! ### the walk by single steps -/
local macro_rules | `(tactic| walk_at "z1") => `(tactic| first
  | with_reducible refine Z.seq ?_
  | with_reducible refine Z.asg ?_
  | ((with_reducible refine' Z.gname ?zv ?_); (case zv => first | (dsimp only [List.set]; done) | (dsimp only [List.set]; exact rfl)))
  | ((with_reducible refine' Z.var ?zv ?_); (case zv => exact rfl))
  | with_reducible refine Z.cst ?_
  | with_reducible refine Z.op ?_
  | with_reducible refine Z.un ?_
  | with_reducible refine Z.i0 ?_
  | with_reducible refine Z.iU ?_
  | with_reducible refine Z.eqII ?_
  | with_reducible refine Z.neII ?_
  | with_reducible refine Z.eqSS ?_
  | with_reducible refine Z.neSS ?_
  | with_reducible refine Z.eqBB ?_
  | with_reducible refine Z.neBB ?_
  | with_reducible refine Z.bl' ?_
  | with_reducible refine Z.test ?_
  | with_reducible refine Z.tbb ?_
  | with_reducible refine Z.tand ?_
  | with_reducible refine Z.tor ?_
  | with_reducible refine Z.tnot ?_
  | with_reducible refine Z.tyes ?_
  | with_reducible refine Z.andV ?_
  | with_reducible refine Z.orV ?_
  | with_reducible refine Z.notV ?_
  | with_reducible refine Z.ifE ?_
  | with_reducible refine Z.chain ?_
  | with_reducible refine Z.yesB ?_
  | with_reducible refine Z.noB ?_
  | with_reducible refine Z.noNB ?_
  | with_reducible refine Z.yesNB ?_
  | with_reducible refine Z.nil ?_
  | with_reducible refine Z.cons ?_
  | with_reducible refine Z.cb ?_
  | with_reducible refine Z.call ?_
  | with_reducible refine Z.meth ?_
  | with_reducible refine Z.fld ?_
  | with_reducible refine Z.int1 ?_
  | with_reducible refine Z.intb ?_
  | with_reducible refine Z.abs1 ?_
  | with_reducible refine Z.gcons ?_
  | with_reducible refine Z.gnil ?_
  | with_reducible refine Z.gcd ?_
  | ((with_reducible refine' Z.par2 ?zv ?_); (case zv => first | (dsimp only [List.set]; done) | (dsimp only [List.set]; exact rfl)))
  | with_reducible refine Z.isN ?_
  | with_reducible refine Z.notN ?_
  | with_reducible refine Z.inSg ?_
  | with_reducible refine Z.ninSg ?_
  | with_reducible refine Z.tup ?_
  | with_reducible refine Z.lst ?_
  | with_reducible refine Z.gsub ?_
  | with_reducible refine Z.par ?_
  | ((with_reducible refine' Z.aug ?zv ?_); (case zv => exact rfl))
  | with_reducible refine Z.ipI' ?_
  | with_reducible refine Z.ifs ?_
  | with_reducible refine Z.ret ?_
  | with_reducible refine Z.retN ?_
  | with_reducible refine Z.next ?_
  | with_reducible refine Z.brk ?_
  | with_reducible refine Z.drop ?_
  | with_reducible refine Z.bm ?_
  | with_reducible refine Z.bm0 ?_
  | with_reducible refine Z.sfld ?_
  | with_reducible refine Z.sfldaug ?_
  | with_reducible refine Z.radd ?_
  | with_reducible refine Z.make ?_
  | with_reducible refine Z.lc ?_
  | with_reducible refine Z.rng1 ?_
  | with_reducible refine Z.ilist ?_
  | with_reducible refine Z.itup ?_
  | with_reducible refine Z.for_ ?_
  | with_reducible refine Z.istr ?_
  | with_reducible refine Z.ienum ?_
  | with_reducible refine Z.izip ?_
  | with_reducible refine Z.irng2 ?_
  | with_reducible refine Z.augs ?_
  | with_reducible refine Z.ienumS ?_
  | with_reducible refine Z.din ?_
  | with_reducible refine Z.dput ?_
  | with_reducible refine Z.dget ?_
  | with_reducible refine Z.dget2 ?_
  | with_reducible refine Z.sl ?_
  | with_reducible refine Z.slno ?_
  | with_reducible refine Z.slpart ?_
  | with_reducible refine Z.bint ?_
  | with_reducible refine Z.listrev ?_
  | with_reducible refine Z.revl ?_
  | dsimp only)
local macro_rules | `(tactic| walk_at "z0") => `(tactic| ((try simp only [Z.cxK]); (try dsimp only [L2.start, List.map, List.length, Nat.reduceAdd, Nat.reduceSub, List.replicate, List.cons_append, List.nil_append])))
local macro_rules | `(tactic| walk_at "z") => `(tactic| (repeat (walk_at "z1")))

/-! ### the numbers of a law: _law_mix, _law_numbers, _law_take -/
def DrawsAt (H : Hp) (a : Addr) : Prop := ∃ ns : List Int, H a = some (.lst (ns.map V.int))
theorem DrawsAt.ne {H : Hp} {a l : Addr} (d : DrawsAt H a) (h : H l = none) : a ≠ l := ne_of_none d.choose_spec h
theorem DrawsAt.kp {M : List Addr} {H H' : Hp} {a : Addr} (d : DrawsAt H a) (k : Kp M H H') (n : a ∉ M) : DrawsAt H' a := let ⟨ns, h⟩ := d; ⟨ns, k _ _ n h⟩
theorem DrawsAt.kp0 {H H' : Hp} {a : Addr} (d : DrawsAt H a) (k : Kp [] H H') : DrawsAt H' a := d.kp k nin0
theorem DrawsAt.put {H : Hp} {a b : Addr} {o : HO} (d : DrawsAt H a) (n : a ≠ b) : DrawsAt (upd H b o) a := let ⟨ns, h⟩ := d; ⟨ns, (upd_ne n).trans h⟩
def spMix : Sp := fun vs H Q _ => ∃ n k : Int, vs = [.int n, .int k] ∧ ∀ v, 0 ≤ v → v < 998244353 → Q (.int v) H
theorem ok__law_mix {P : Program} {w : World} {K : PySem.W.Frag} {mg : Str → Option Value} {base : Heap} (T : T P K mg) : FnOk P w K mg base CX0 1 T.a__law_mix T.fd__law_mix ["number", "k"] spMix := by
  refine T.F__law_mix.ok sc__law_mix (fun vs H Q E h => ?_) (fun cdv A outer s H vs Q E hr h => ?_)
  · obtain ⟨n, k, rfl, _⟩ := h
    rfl
  · obtain ⟨n, k, rfl, q⟩ := h
    refine ⟨_, (pss_one (ps_ret (pe_op op_mod (pe_op op_mul (pe_op op_mod (pe_callTy c_int (by rfl) T.z_int (by decide +kernel) (pa_cons (pe_op op_mul (pe_op op_add (pe_op op_add (pe_op op_mod (pe_callTy c_int (by rfl) T.z_int (by decide +kernel) (pa_cons (pv 0) pa_nil)) pe_int) (pe_op op_mul pe_int (pv 1))) pe_int) pe_int) pa_nil)) pe_int) pe_int) pe_int))), ?_⟩
    walk_at "z0"
    walk_at "z"
    refine Z.iC (by decide) ?_
    walk_at "z"
    refine Z.iC (.inl (by decide)) ?_
    walk_at "z"
    refine Z.iC (.inr (by decide)) ?_
    walk_at "z"
    refine Z.iC (by decide) ?_
    walk_at "z"
    refine Z.iC (.inr (by decide)) ?_
    walk_at "z"
    refine Z.iC (by decide) ?_
    walk_at "z"
    exact q _ (Int.emod_nonneg _ (by omega)) (Int.emod_lt_of_pos _ (by omega))
def spTake (K : PySem.W.Frag) : Sp := fun vs H Q _ => ∃ (a : Addr) (m : Int), vs = [.ref a, .int m] ∧ DrawsAt H a ∧ 1 ≤ m ∧ m < 18446744073709551616 ∧ ∀ H' v, 0 ≤ v → v < m → Kp [a] H H' → DrawsAt H' a → Q (.int v) H'
theorem ok__law_take {P : Program} {w : World} {K : PySem.W.Frag} {mg : Str → Option Value} {base : Heap} (T : T P K mg) : FnOk P w K mg base CX0 1 T.a__law_take T.fd__law_take ["row", "bound"] (spTake K) := by
  refine T.F__law_take.ok sc__law_take (fun vs H Q E h => ?_) (fun cdv A outer s H vs Q E hr h => ?_)
  · obtain ⟨a, m, rfl, _⟩ := h
    rfl
  · obtain ⟨a, m, rfl, ⟨ns, ha⟩, h0, h1, q⟩ := h
    refine ⟨_, (pss_cons (ps_if (pt_not (pt_truth (pv 0) (by intro _; rfl))) (pss_one (ps_ret pe_int)) pss_nil)
      (pss_one (ps_ret (pe_op op_mod (pe_callTy c_int (by rfl) T.z_int (by decide +kernel) (pa_cons (pe_bm0 PySem.F.plainAttrs_list PySem.F.slot_list_pop PySem.F.type_list_pop mt_pop (pv 0)) pa_nil)) (pv 1))))), ?_⟩
    walk_at "z0"
    walk_at "z"
    refine Z.truL ha ?_
    cases hns : ns with
    | nil =>
      walk_at "z"
      exact q _ _ (by omega) (by omega) (Kp.refl _) ⟨ns, ha⟩
    | cons n r =>
      rw [show (!!(List.map V.int (n :: r)).isEmpty) = false from rfl]
      walk_at "z"
      refine ⟨Z.tyL ha, ?_⟩
      have hl : 0 < ns.length := by rw [hns]; simp
      have hi : ns.length - 1 < ns.length := by omega
      refine Z.pop ha (y := .int ns[ns.length - 1]) (by rw [List.length_map, List.getElem?_map, List.getElem?_eq_getElem hi]; rfl) ?_
      walk_at "z"
      refine Z.iC (by omega) ?_
      exact q _ _ (Int.emod_nonneg _ (by omega)) (Int.emod_lt_of_pos _ (by omega)) (Kp.put (by simp)) ⟨ns.dropLast, by rw [upd_same, List.map_dropLast]⟩
def spNumbers (K : PySem.W.Frag) : Sp := fun vs H Q _ => ∃ (c : Addr) (ns : List Int) (n : Nat), vs = [.ref c, .int (n : Int)] ∧ SqL K H c (ns.map V.int) ∧ n ≤ 1000 ∧ (∀ z ∈ ns, Builtin.Int.intBits z ≤ 1048576) ∧ ∀ a H', H a = none → Kp [] H H' → DrawsAt H' a → Q (.ref a) H'
theorem ok__law_numbers {P : Program} {w : World} {K : PySem.W.Frag} {mg : Str → Option Value} {base : Heap} (T : T P K mg) : FnOk P w K mg base CX0 2 T.a__law_numbers T.fd__law_numbers ["script", "count"] (spNumbers K) := by
  refine T.F__law_numbers.ok sc__law_numbers (fun vs H Q E h => ?_) (fun cdv A outer s H vs Q E hr h => ?_)
  · obtain ⟨c, ns, n, rfl, _⟩ := h
    rfl
  · obtain ⟨c, ns, n, rfl, hS, hn, hb, q⟩ := h
    refine ⟨_, (pss_cons (ps_set (i := 2) sc__law_numbers.nd rfl (by first | exact Or.inl rfl | exact Or.inr rfl) (pe_lst pa_nil))
      (pss_cons (ps_set (i := 3) sc__law_numbers.nd rfl (by first | exact Or.inl rfl | exact Or.inr rfl) pe_int)
      (Z.pss_consJ (ps_for PassesOwn.never rfl (pi_list (pe_slice sl_list (pv 0) po_none (po_some pe_int))) (pg_name (i := 4) sc__law_numbers.nd rfl (by first | exact Or.inl rfl | exact Or.inr rfl)) (pss_cons (ps_set (i := 3) sc__law_numbers.nd rfl (by first | exact Or.inl rfl | exact Or.inr rfl) (pe_op op_add (pv 3) (pv 4)))
      (pss_one (ps_if (pt_cmpR op_ge (pv 4) pe_int (nomark _)) (pss_cons (ps_set (i := 5) sc__law_numbers.nd rfl (by first | exact Or.inl rfl | exact Or.inr rfl) (pv 4))
      (pss_one (ps_for PassesOwn.never rfl (pi_range1 (by rfl) T.z_range (pa_cons pe_int pa_nil)) (pg_name (i := 6) sc__law_numbers.nd rfl (by first | exact Or.inl rfl | exact Or.inr rfl)) (pss_cons (ps_expr (pe_bm PySem.F.plainAttrs_list PySem.F.slot_list_append PySem.F.type_list_append mt_append (pv 2) (pa_cons (pe_op op_mod (pe_callTy c_int (by rfl) T.z_int (by decide +kernel) (pa_cons (pv 5) pa_nil)) pe_int) pa_nil)))
      (pss_cons (ps_set (i := 5) sc__law_numbers.nd rfl (by first | exact Or.inl rfl | exact Or.inr rfl) (pe_op op_fdivW (pv 5) pe_int))
      (pss_one (ps_if (pt_cmpR op_eq (pv 5) pe_int (nomark _)) (pss_one ps_break) pss_nil))))))) (pss_one (ps_expr (pe_bm PySem.F.plainAttrs_list PySem.F.slot_list_append PySem.F.type_list_append mt_append (pv 2) (pa_cons (pe_call (ok__law_mix T) (hr.mono (by decide)) (by rfl) T.g__law_mix T.F__law_mix.kp T.b__law_mix .nil pass0 (pa_cons (pe_call (ok__law_mix T) (hr.mono (by decide)) (by rfl) T.g__law_mix T.F__law_mix.kp T.b__law_mix .nil pass0 (pa_cons (pv 4) (pa_cons pe_int pa_nil))) (pa_cons pe_int pa_nil))) pa_nil))))))))
      (pss_cons (ps_for PassesOwn.never rfl (pi_range1 (by rfl) T.z_range (pa_cons (pv 1) pa_nil)) (pg_name (i := 6) sc__law_numbers.nd rfl (by first | exact Or.inl rfl | exact Or.inr rfl)) (pss_one (ps_expr (pe_bm PySem.F.plainAttrs_list PySem.F.slot_list_append PySem.F.type_list_append mt_append (pv 2) (pa_cons (pe_call (ok__law_mix T) (hr.mono (by decide)) (by rfl) T.g__law_mix T.F__law_mix.kp T.b__law_mix .nil pass0 (pa_cons (pe_call (ok__law_mix T) (hr.mono (by decide)) (by rfl) T.g__law_mix T.F__law_mix.kp T.b__law_mix .nil pass0 (pa_cons (pe_op op_add (pv 3) (pe_op op_mul pe_int (pv 6))) (pa_cons (pe_op op_add pe_int (pv 6)) pa_nil))) (pa_cons pe_int pa_nil))) pa_nil)))))
      (pss_cons (ps_expr (pe_bm0 PySem.F.plainAttrs_list PySem.F.slot_list_reverse PySem.F.type_list_reverse mt_reverse (pv 2)))
      (pss_one (ps_ret (pv 2)))))))), ?_⟩
    walk_at "z0"
    walk_at "z"
    refine Z.lstK (fun D H1 nD k1 e1 => ?_)
    walk_at "z"
    refine Z.seqJ' ?_
    walk_at "z"
    refine Z.slL (k1.seq nin0 hS) (fun S H2 nS k2 e2 => ?_)
    have e2D := k2.get nin0 e1
    have nDS : D ≠ S := ne_of_none e1 nS
    have hcut : ∃ ms : List Int, cutV (ns.map V.int) none (some 63) = ms.map V.int ∧ ms.length ≤ 63 := by
      unfold cutV
      rw [HT.sIx_none, show (63 : Int) = ((63 : Nat) : Int) from rfl, HT.sIx_nat, List.drop_zero, Nat.sub_zero, ← List.map_take]
      exact ⟨_, rfl, by rw [List.length_take]; omega⟩
    obtain ⟨ms, hms, hm63⟩ := hcut
    rw [hms] at e2
    walk_at "z"
    refine Z.forl (ms.map V.int) (lstL e2) (fun i σ' H' => ∃ y4 y5 y6, ∃ (z : Int) (ds : List Int), σ' = [some (.ref c), some (.int (n : Int)), some (.ref D), some (.int z), y4, y5, y6] ∧ Kp [D] H2 H' ∧ H' D = some (.lst (ds.map V.int)) ∧ ds.length ≤ i * 61) ⟨_, _, _, _, [], rfl, Kp.refl _, e2D, by simp⟩ ?_ ?_ ?_
    · rintro i σ' H' hi ⟨y4, y5, y6, z, ds, rfl, k3, e3, hl⟩
      exact lstL (k3.get (nin1 nDS.symm) e2)
    · rintro i x σ' H' hx ⟨y4, y5, y6, z, ds, rfl, k3, e3, hl⟩
      obtain ⟨u, hu, rfl⟩ : ∃ u, ms[i]? = some u ∧ x = .int u := by
        rw [List.getElem?_map] at hx
        cases hw : ms[i]? with
        | none => rw [hw] at hx; cases hx
        | some r => rw [hw] at hx; exact ⟨r, rfl, (Option.some.inj hx).symm⟩
      have hi : i < ms.length := (List.getElem?_eq_some_iff.mp hu).1
      walk_at "z"
      refine Z.ite (fun h2 => ?_) (fun h2 => ?_)
      · walk_at "z"
        refine Z.forr 60 (by rfl) (by decide) (fun j σ' H' => ∃ y6, ∃ (v : Int) (ds : List Int), σ' = [some (.ref c), some (.int (n : Int)), some (.ref D), some (.int (z + u)), some (.int u), some (.int v), y6] ∧ Kp [D] H2 H' ∧ H' D = some (.lst (ds.map V.int)) ∧ ds.length ≤ i * 61 + j) ⟨_, _, ds, rfl, k3, e3, by omega⟩ ?_ ?_
        · rintro j σ' H' hj ⟨y6, v, ds, rfl, k4, e4, hl4⟩
          walk_at "z"
          refine ⟨Z.tyL e4, ?_⟩
          walk_at "z"
          refine Z.iC (by decide) ?_
          walk_at "z"
          refine Z.app e4 (Z.szl (m := 100000) (by rw [List.length_map]; omega)) ?_
          walk_at "z"
          refine Z.iC ⟨by decide, by decide⟩ ?_
          walk_at "z"
          have e5 : upd H' D (.lst (ds.map V.int ++ [.int (v % 840)])) D = some (.lst ((ds ++ [v % 840]).map V.int)) := by rw [upd_same, List.map_append]; rfl
          have k5 : Kp [D] H2 (upd H' D (.lst (ds.map V.int ++ [.int (v % 840)]))) := k4.trans (Kp.put (by simp))
          refine Z.ite (fun h3 => ?_) (fun h3 => ?_)
          · walk_at "z"
            exact ⟨_, _, _, _, ds ++ [v % 840], rfl, k5, e5, by simp; omega⟩
          · walk_at "z"
            exact ⟨_, _, ds ++ [v % 840], rfl, k5, e5, by simp; omega⟩
        · rintro σ' H' ⟨y6, v, ds, rfl, k4, e4, hl4⟩
          exact ⟨_, _, _, _, ds, rfl, k4, e4, by omega⟩
      · walk_at "z"
        refine ⟨Z.tyL e3, ?_⟩
        walk_at "z"
        refine ⟨_, _, rfl, fun v0 _ _ => ?_⟩
        walk_at "z"
        refine ⟨_, _, rfl, fun v1 _ _ => ?_⟩
        walk_at "z"
        refine Z.app e3 (Z.szl (m := 100000) (by rw [List.length_map]; omega)) ?_
        walk_at "z"
        exact ⟨_, _, _, _, ds ++ [v1], rfl, k3.trans (Kp.put (by simp)), by rw [upd_same, List.map_append]; rfl, by simp; omega⟩
    · rintro σ' H' ⟨y4, y5, y6, z, ds, rfl, k3, e3, hl⟩
      rw [List.length_map] at hl
      walk_at "z"
      refine Z.forr n (by rfl) (by omega) (fun j σ' H' => ∃ y6, ∃ (ds : List Int), σ' = [some (.ref c), some (.int (n : Int)), some (.ref D), some (.int z), y4, y5, y6] ∧ Kp [D] H2 H' ∧ H' D = some (.lst (ds.map V.int)) ∧ ds.length ≤ ms.length * 61 + j) ⟨_, ds, rfl, k3, e3, by omega⟩ ?_ ?_
      · rintro j σ' H' hj ⟨y6, ds, rfl, k4, e4, hl4⟩
        walk_at "z"
        refine ⟨Z.tyL e4, ?_⟩
        walk_at "z"
        refine Z.iC (.inl (by decide)) ?_
        walk_at "z"
        refine ⟨_, _, rfl, fun v0 _ _ => ?_⟩
        walk_at "z"
        refine ⟨_, _, rfl, fun v1 _ _ => ?_⟩
        walk_at "z"
        refine Z.app e4 (Z.szl (m := 100000) (by rw [List.length_map]; omega)) ?_
        walk_at "z"
        exact ⟨_, ds ++ [v1], rfl, k4.trans (Kp.put (by simp)), by rw [upd_same, List.map_append]; rfl, by simp; omega⟩
      · rintro σ' H' ⟨y6, ds, rfl, k4, e4, hl4⟩
        walk_at "z"
        refine ⟨Z.tyL e4, ?_⟩
        refine ⟨D, _, rfl, rfl, e4, ?_⟩
        walk_at "z"
        have nSD : H1 D = none → False := fun z => by rw [e1] at z; cases z
        refine q D _ nD ?_ ⟨ds.reverse, by rw [upd_same, List.map_reverse]⟩
        exact ((k1.trans k2).then1 k4 nD).mut nD rfl

/-! ### items of a law: _law_name, _law_items -/
theorem mem_append_one {α : Type} {P : α → Prop} {l : List α} {x : α} (h : ∀ n ∈ l, P n) (hx : P x) : ∀ n ∈ l ++ [x], P n := fun n hn => by
  rcases List.mem_append.mp hn with h1 | h1
  · exact h n h1
  · rw [List.mem_singleton.mp h1]; exact hx
theorem mem_set_of {α : Type} {P : α → Prop} {l : List α} {j : Nat} {x : α} (h : ∀ n ∈ l, P n) (hx : P x) : ∀ n ∈ l.set j x, P n := fun n hn => by
  rcases List.mem_or_eq_of_mem_set hn with h1 | h1
  · exact h n h1
  · rw [h1]; exact hx
structure Row where
  k : Str
  g : Str
  w : Int
  m : Int
def Row.vs (r : Row) : List V := [.str r.k, .str r.g, .int r.w, .int r.m]
def RowAt (H : Hp) (p : Addr) (r : Row) : Prop := H p = some (.tup r.vs)
def RowsAt (H : Hp) (ps : List (Addr × Row)) : Prop := ∀ x ∈ ps, RowAt H x.1 x.2
def refs (ps : List (Addr × Row)) : List V := ps.map fun x => V.ref x.1
theorem refs_len (ps : List (Addr × Row)) : (refs ps).length = ps.length := by unfold refs; rw [List.length_map]
theorem refs_at {ps : List (Addr × Row)} {i : Nat} {x : Addr × Row} (h : ps[i]? = some x) : (refs ps)[i]? = some (.ref x.1) := by unfold refs; rw [List.getElem?_map, h]; rfl
theorem refs_of {ps : List (Addr × Row)} {i : Nat} {v : V} (h : (refs ps)[i]? = some v) : ∃ x, ps[i]? = some x ∧ v = .ref x.1 := by
  unfold refs at h
  rw [List.getElem?_map] at h
  cases e : ps[i]? with
  | none => rw [e] at h; cases h
  | some x => rw [e] at h; exact ⟨x, rfl, (Option.some.inj h).symm⟩
theorem refs_snoc (ps : List (Addr × Row)) (x : Addr × Row) : refs (ps ++ [x]) = refs ps ++ [.ref x.1] := by unfold refs; rw [List.map_append]; rfl
theorem RowsAt.kp {M : List Addr} {H H' : Hp} {ps : List (Addr × Row)} (r : RowsAt H ps) (k : Kp M H H') (n : ∀ x ∈ M, ∃ xs, H x = some (.lst xs)) : RowsAt H' ps := fun x hx => k _ _ (fun z => by
  obtain ⟨xs, e⟩ := n _ z
  have e2 := r x hx
  unfold RowAt at e2
  rw [e] at e2
  cases e2) (r x hx)
theorem RowsAt.kp0 {H H' : Hp} {ps : List (Addr × Row)} (r : RowsAt H ps) (k : Kp [] H H') : RowsAt H' ps := r.kp k fun _ h => by cases h
theorem RowsAt.kp1 {H H' : Hp} {a : Addr} {ps : List (Addr × Row)} {xs : List V} (r : RowsAt H ps) (k : Kp [a] H H') (e : H a = some (.lst xs)) : RowsAt H' ps := r.kp k fun x h => by
  rw [List.mem_singleton.mp h]
  exact ⟨xs, e⟩
theorem RowsAt.kpd {H H' : Hp} {a : Addr} {ps : List (Addr × Row)} (r : RowsAt H ps) (k : Kp [a] H H') (d : DrawsAt H a) : RowsAt H' ps := let ⟨_, e⟩ := d; r.kp1 k e
theorem RowsAt.snoc {H : Hp} {ps : List (Addr × Row)} {x : Addr × Row} (r : RowsAt H ps) (h : RowAt H x.1 x.2) : RowsAt H (ps ++ [x]) := fun y hy => by
  rcases List.mem_append.mp hy with z | z
  · exact r y z
  · rw [List.mem_singleton.mp z]; exact h
theorem pickS (l : List Str) {v : Int} (h0 : 0 ≤ v) (h1 : v < (l.length : Nat)) : ∃ s, s ∈ l ∧ atI (l.map V.str) v = some (.str s) := by
  obtain ⟨j, rfl⟩ : ∃ j : Nat, v = (j : Int) := ⟨v.toNat, by omega⟩
  have hj : j < l.length := by omega
  exact ⟨l[j], List.getElem_mem hj, atI_nat (by rw [List.getElem?_map, List.getElem?_eq_getElem hj]; rfl)⟩
theorem pickI (l : List Int) {v : Int} (h0 : 0 ≤ v) (h1 : v < (l.length : Nat)) : ∃ s, s ∈ l ∧ atI (l.map V.int) v = some (.int s) := by
  obtain ⟨j, rfl⟩ : ∃ j : Nat, v = (j : Int) := ⟨v.toNat, by omega⟩
  have hj : j < l.length := by omega
  exact ⟨l[j], List.getElem_mem hj, atI_nat (by rw [List.getElem?_map, List.getElem?_eq_getElem hj]; rfl)⟩
structure RowS (r : Row) : Prop where
  k : PyData.strOk r.k = true
  g : PyData.strOk r.g = true
  kz : r.k.cps.size ≤ 20
  gz : r.g.cps.size ≤ 20
def smallS (l : List Str) : Bool := l.all fun s => PyData.strOk s && decide (s.cps.size ≤ 20)
theorem smallS_of {l : List Str} (h : smallS l = true) {s : Str} (hs : s ∈ l) : PyData.strOk s = true ∧ s.cps.size ≤ 20 := by
  have h1 := List.all_eq_true.mp h s hs
  rw [Bool.and_eq_true, decide_eq_true_eq] at h1
  exact h1
def rowD (r : Row) : PyData := .tuple [.str r.k, .str r.g, .int r.w, .int r.m]
theorem dpRow {K : PySem.W.Frag} {H : Hp} {p : Addr} {r : Row} (h : RowAt H p r) : Dp K H (.ref p) (rowD r) := .tup (tupT h) (.cons (.str _) (.cons (.str _) (.cons (.int _) (.cons (.int _) .nil))))
def rowsD (ps : List (Addr × Row)) : List PyData := ps.map fun x => rowD x.2
theorem dpRowsAll {K : PySem.W.Frag} {H : Hp} : ∀ {ps : List (Addr × Row)}, RowsAt H ps → DpAll K H (refs ps) (rowsD ps)
  | [], _ => .nil
  | x :: r, h => .cons (dpRow (h x (by simp))) (dpRowsAll (ps := r) fun y hy => h y (by simp [hy]))
theorem dpRows {K : PySem.W.Frag} {H : Hp} {p : Addr} {ps : List (Addr × Row)} (h : H p = some (.lst (refs ps))) (r : RowsAt H ps) : Dp K H (.ref p) (.list (rowsD ps)) := .lst (lstL h) (dpRowsAll r)
theorem rowD_lay {r : Row} (h : RowS r) : PyData.canLay0 (rowD r) = true := by simp [rowD, PyData.canLay0, PyData.canLayAll0, h.k, h.g]
theorem layRows : ∀ {ps : List (Addr × Row)}, (∀ x ∈ ps, RowS x.2) → PyData.canLayAll0 (rowsD ps) = true
  | [], _ => by simp [rowsD, PyData.canLayAll0]
  | x :: r, h => by
    have ih := layRows (ps := r) fun y hy => h y (by simp [hy])
    show PyData.canLayAll0 (rowD x.2 :: rowsD r) = true
    rw [PyData.canLayAll0, rowD_lay (h x (by simp)), ih]; rfl
theorem rowD_depth (r : Row) : (rowD r).depth = 1 := by simp [rowD, PyData.depth, PyData.depthAll]
theorem depthRows : ∀ ps : List (Addr × Row), PyData.depthAll (rowsD ps) ≤ 1
  | [] => by simp [rowsD, PyData.depthAll]
  | x :: r => by
    have ih := depthRows r
    show PyData.depthAll (rowD x.2 :: rowsD r) ≤ 1
    rw [PyData.depthAll, rowD_depth]
    omega
theorem shRows {ps : List (Addr × Row)} (h : ∀ x ∈ ps, RowS x.2) : SeqAt.shaped (.list (rowsD ps)) = true := by
  have := depthRows ps
  simp [SeqAt.shaped, PyData.canLay0, PyData.depth, layRows h]
  omega
theorem shNil : SeqAt.shaped (.list []) = true := by decide +kernel
theorem neRows {K : PySem.W.Frag} {H : Hp} {Q : VK} {a b : Addr} {ps : List (Addr × Row)} (h1 : H a = some (.lst (refs ps))) (h2 : H b = some (.lst (refs ps))) (r : RowsAt H ps) (s : ∀ x ∈ ps, RowS x.2) (q : Q (.bl false) H) : rNeD K (.ref a) (.ref b) H Q :=
  ⟨_, _, dpRows h1 r, dpRows h2 r, shRows s, shRows s, by rw [SeqAt.eqv_refl _ (by rw [PyData.canLay0]; exact layRows s)]; exact q⟩
theorem eqvAll_nil : ∀ l : List PyData, PyData.eqvAll l [] = l.isEmpty
  | [] => by simp [PyData.eqvAll]
  | _ :: _ => by simp [PyData.eqvAll]
theorem eqNil {K : PySem.W.Frag} {H : Hp} {Q : VK} {a b : Addr} {ps : List (Addr × Row)} (h1 : H a = some (.lst (refs ps))) (h2 : H b = some (.lst [])) (r : RowsAt H ps) (s : ∀ x ∈ ps, RowS x.2) (q : Q (.bl ps.isEmpty) H) : rEqD K (.ref a) (.ref b) H Q :=
  ⟨_, _, dpRows h1 r, .lst (ds := []) (lstL h2) .nil, shRows s, shNil, by
    rw [PyData.eqv, eqvAll_nil]
    have e : (rowsD ps).isEmpty = ps.isEmpty := by cases ps <;> rfl
    rw [e]; exact q⟩
/-! what is a name, an item -/
theorem RowAt.k0 {K : PySem.W.Frag} {H : Hp} {Q : VK} {p : Addr} {r : Row} (h : RowAt H p r) (q : Q (.str r.k) H) : rIxT K (.ref p) (.int 0) H Q := Z.ixT (tupT h) rfl q
theorem RowAt.g1 {K : PySem.W.Frag} {H : Hp} {Q : VK} {p : Addr} {r : Row} (h : RowAt H p r) (q : Q (.str r.g) H) : rIxT K (.ref p) (.int 1) H Q := Z.ixT (tupT h) rfl q
theorem RowAt.w2 {K : PySem.W.Frag} {H : Hp} {Q : VK} {p : Addr} {r : Row} (h : RowAt H p r) (q : Q (.int r.w) H) : rIxT K (.ref p) (.int 2) H Q := Z.ixT (tupT h) rfl q
theorem RowAt.m3 {K : PySem.W.Frag} {H : Hp} {Q : VK} {p : Addr} {r : Row} (h : RowAt H p r) (q : Q (.int r.m) H) : rIxT K (.ref p) (.int 3) H Q := Z.ixT (tupT h) rfl q
theorem RowAt.kp0 {H H' : Hp} {p : Addr} {r : Row} (h : RowAt H p r) (k : Kp [] H H') : RowAt H' p r := k.get nin0 h

/-! ### items of a law: k + digit -/
def key7 (i : Nat) : Str := "k" ++ (⟨#[("3104526" : Str).cps.toList.getD i 0]⟩ : Str)
theorem key7_at {i : Nat} (h : i < 7) : atI ("3104526" : Str).cps.toList (i : Int) = some (("3104526" : Str).cps.toList.getD i 0) := by
  have h7 : ("3104526" : Str).cps.toList.length = 7 := by decide +kernel
  rw [atI_nat (v := ("3104526" : Str).cps.toList.getD i 0)]
  rw [List.getD_eq_getElem?_getD, List.getElem?_eq_getElem (by omega)]
  rfl
theorem key7_all : ∀ i : Fin 7, (PyData.strOk (key7 i.val) = true ∧ (key7 i.val).cps.size = 2) ∧ ∀ j : Fin 7, key7 i.val = key7 j.val → i = j := by decide +kernel
theorem key7_inj {i j : Nat} (hi : i < 7) (hj : j < 7) (h : key7 i = key7 j) : i = j := by
  have := (key7_all ⟨i, hi⟩).2 ⟨j, hj⟩ h
  exact congrArg Fin.val this
structure Row7 (i : Nat) (r : Row) : Prop where
  k : r.k = key7 i
  g : r.g ∈ (["x", "y"] : List Str)
  w0 : 1 ≤ r.w
  w1 : r.w ≤ 1000
  m0 : -9 ≤ r.m
  m1 : r.m ≤ 9
theorem g7_small : smallS ["x", "y"] = true := by decide +kernel
theorem Row7.s {i : Nat} {r : Row} (h : Row7 i r) (hi : i < 7) : RowS r := by
  have h1 := (key7_all ⟨i, hi⟩).1
  have h2 := smallS_of g7_small h.g
  refine ⟨?_, h2.1, ?_, h2.2⟩
  · rw [h.k]; exact h1.1
  · rw [h.k]; exact Nat.le_trans (Nat.le_of_eq h1.2) (by decide)
structure Items7 (H H' : Hp) (a p : Addr) (n : Nat) (ps : List (Addr × Row)) : Prop where
  kp : Kp [a] H H'
  dr : DrawsAt H' a
  at_ : H' p = some (.lst (refs ps))
  rows : RowsAt H' ps
  len : ps.length = n
  ok : ∀ (i : Nat) (x : Addr × Row), ps[i]? = some x → Row7 i x.2
def spItems7 (K : PySem.W.Frag) : Sp := fun vs H Q _ => ∃ (a : Addr) (n : Nat), vs = [.ref a, .int (n : Int)] ∧ DrawsAt H a ∧ n ≤ 7 ∧ ∀ H' p ps, H p = none → Items7 H H' a p n ps → Q (.ref p) H'
theorem ok__law_items {P : Program} {w : World} {K : PySem.W.Frag} {mg : Str → Option Value} {base : Heap} (T : T P K mg) : FnOk P w K mg base CX0 2 T.a__law_items T.fd__law_items ["row", "many"] (spItems7 K) := by
  refine T.F__law_items.ok sc__law_items (fun vs H Q E h => ?_) (fun cdv A outer s H vs Q E hr h => ?_)
  · obtain ⟨a, n, rfl, _⟩ := h
    rfl
  · obtain ⟨a, n, rfl, hd, hn, q⟩ := h
    refine ⟨_, (pss_cons (ps_set (i := 2) sc__law_items.nd rfl (by first | exact Or.inl rfl | exact Or.inr rfl) (pe_lst pa_nil))
      (pss_cons (ps_for PassesOwn.never rfl (pi_range1 (by rfl) T.z_range (pa_cons (pv 1) pa_nil)) (pg_name (i := 3) sc__law_items.nd rfl (by first | exact Or.inl rfl | exact Or.inr rfl)) (pss_cons (ps_set (i := 4) sc__law_items.nd rfl (by first | exact Or.inl rfl | exact Or.inr rfl) (pe_op op_add pe_int (pe_call (ok__law_take T) (hr.mono (by decide)) (by rfl) T.g__law_take T.F__law_take.kp T.b__law_take .nil pass0 (pa_cons (pv 0) (pa_cons pe_int pa_nil)))))
      (Z.pss_consJ (ps_if (pt_cmpR op_eq (pe_call (ok__law_take T) (hr.mono (by decide)) (by rfl) T.g__law_take T.F__law_take.kp T.b__law_take .nil pass0 (pa_cons (pv 0) (pa_cons pe_int pa_nil))) pe_int (nomark _)) (pss_one (ps_set (i := 4) sc__law_items.nd rfl (by first | exact Or.inl rfl | exact Or.inr rfl) (pe_ix ix_list (pe_lst (pa_cons pe_int (pa_cons pe_int (pa_cons pe_int (pa_cons pe_int pa_nil))))) (pe_call (ok__law_take T) (hr.mono (by decide)) (by rfl) T.g__law_take T.F__law_take.kp T.b__law_take .nil pass0 (pa_cons (pv 0) (pa_cons pe_int pa_nil))) (fun _ _ => rfl)))) pss_nil)
      (pss_one (ps_expr (pe_bm PySem.F.plainAttrs_list PySem.F.slot_list_append PySem.F.type_list_append mt_append (pv 2) (pa_cons (pe_tup (pa_cons (pe_op o_addS pe_str (pe_ix ix_str pe_str (pv 3) (fun _ _ => rfl))) (pa_cons (pe_ix ix_list (pe_lst (pa_cons pe_str (pa_cons pe_str pa_nil))) (pe_call (ok__law_take T) (hr.mono (by decide)) (by rfl) T.g__law_take T.F__law_take.kp T.b__law_take .nil pass0 (pa_cons (pv 0) (pa_cons pe_int pa_nil))) (fun _ _ => rfl)) (pa_cons (pv 4) (pa_cons (pe_op op_sub (pe_call (ok__law_take T) (hr.mono (by decide)) (by rfl) T.g__law_take T.F__law_take.kp T.b__law_take .nil pass0 (pa_cons (pv 0) (pa_cons pe_int pa_nil))) pe_int) pa_nil))))) pa_nil)))))))
      (pss_one (ps_ret (pv 2))))), ?_⟩
    walk_at "z0"
    walk_at "z"
    refine Z.lstK (fun F H1 nF k1 e1 => ?_)
    have d1 := hd.kp0 k1
    have naF : a ≠ F := hd.ne nF
    walk_at "z"
    refine Z.forr n (by rfl) (by omega) (fun i σ' H' => ∃ y3 y4, ∃ ps : List (Addr × Row), σ' = [some (.ref a), some (.int (n : Int)), some (.ref F), y3, y4] ∧ Kp [a] H H' ∧ DrawsAt H' a ∧ H' F = some (.lst (refs ps)) ∧ RowsAt H' ps ∧ ps.length = i ∧ ∀ (j : Nat) (x : Addr × Row), ps[j]? = some x → Row7 j x.2) ⟨_, _, [], rfl, k1.sub (by simp), d1, e1, (fun x hx => by cases hx), rfl, fun j x hx => by simp at hx⟩ ?_ ?_
    · rintro i σ' H2 hi ⟨y3, y4, ps, rfl, k2, d2, e2, r2, hl2, hok⟩
      walk_at "z"
      refine ⟨a, 9, rfl, d2, by decide, by decide, fun H3 v hv0 hv1 k3 d3 => ?_⟩
      have e3 := k3.get (nin1 naF.symm) e2
      have r3 := r2.kpd k3 d2
      walk_at "z"
      refine Z.seqJ (fun σ' H' => ∃ w : Int, σ' = [some (.ref a), some (.int (n : Int)), some (.ref F), some (.int (i : Int)), some (.int w)] ∧ 1 ≤ w ∧ w ≤ 1000 ∧ Kp [a] H H' ∧ DrawsAt H' a ∧ H' F = some (.lst (refs ps)) ∧ RowsAt H' ps) ?_ ?_
      · rintro σ' H4 ⟨w, rfl, hw0, hw1, k4, d4, e4, r4⟩
        walk_at "z"
        refine ⟨Z.tyL e4, ?_⟩
        walk_at "z"
        refine ⟨_, _, _, rfl, rfl, (show ("3104526" : Str).length ≤ sizeLine by decide +kernel), key7_at (i := i) (by omega), ?_⟩
        refine Z.addS (show ("k" : Str).length + 1 ≤ sizeLine by decide +kernel) ?_
        walk_at "z"
        refine Z.lstK (fun b H5 nb k5 e5 => ?_)
        have d5 := d4.kp0 k5
        have nab : a ≠ b := d4.ne nb
        walk_at "z"
        refine ⟨a, 2, rfl, d5, by decide, by decide, fun H6 v6 hv60 hv61 k6 d6 => ?_⟩
        obtain ⟨s, hs, es⟩ := pickS ["x", "y"] hv60 hv61
        refine Z.ixL (lstL (k6.get (nin1 nab.symm) e5)) es ?_
        walk_at "z"
        refine ⟨a, 19, rfl, d6, by decide, by decide, fun H7 v7 hv70 hv71 k7 d7 => ?_⟩
        walk_at "z"
        refine Z.tupK (fun t H8 nt k8 e8 => ?_)
        have k48 := ((k5.sub (M' := [a]) (by simp)).trans k6).trans (k7.trans (k8.sub (by simp)))
        have e8F := k8.get nin0 (k7.get (nin1 naF.symm) (k6.get (nin1 naF.symm) (k5.get nin0 e4)))
        have r8 := (((r4.kp0 k5).kpd k6 d5).kpd k7 d6).kp0 k8
        have d8 := d7.kp0 k8
        have ntF : t ≠ F := fun z => by rw [z, e8F] at e8; cases e8
        have kF : Kp [F] H8 (upd H8 F (.lst (refs ps ++ [.ref t]))) := Kp.put (by simp)
        walk_at "z"
        refine Z.app e8F (Z.szl (m := 1000) (by rw [refs_len]; omega)) ?_
        refine ⟨_, _, ps ++ [(t, ⟨key7 i, s, w, v7 - 9⟩)], rfl, (k4.trans k48).mut nF rfl, d8.put naF, by rw [upd_same, refs_snoc], (r8.kp1 kF e8F).snoc (show RowAt _ t ⟨key7 i, s, w, v7 - 9⟩ from kF.get (nin1 ntF) e8), by simp [hl2], fun j x hx => ?_⟩
        rw [List.getElem?_append] at hx
        split at hx
        · exact hok j x hx
        · have hj : j - ps.length = 0 := by
            have := (List.getElem?_eq_some_iff.mp hx).1
            simp at this
            exact this
          rw [hj] at hx
          have e : j = i := by omega
          subst e
          cases hx
          exact ⟨rfl, hs, hw0, hw1, by show -9 ≤ v7 - 9; omega, by show v7 - 9 ≤ 9; omega⟩
      · intro N jn
        walk_at "z"
        refine ⟨a, 6, rfl, d3, by decide, by decide, fun H4 v4 hv40 hv41 k4 d4 => ?_⟩
        have e4 := k4.get (nin1 naF.symm) e3
        have r4 := r3.kpd k4 d3
        walk_at "z"
        refine Z.ite (fun h2 => ?_) (fun h2 => ?_)
        · walk_at "z"
          refine Z.lstK (fun b H5 nb k5 e5 => ?_)
          have d5 := d4.kp0 k5
          have nab : a ≠ b := d4.ne nb
          walk_at "z"
          refine ⟨a, 4, rfl, d5, by decide, by decide, fun H6 v6 hv60 hv61 k6 d6 => ?_⟩
          obtain ⟨s, hs, es⟩ := pickI [1000, 1, 40, 7] hv60 hv61
          refine Z.ixL (lstL (k6.get (nin1 nab.symm) e5)) es ?_
          walk_at "z"
          have hs2 : 1 ≤ s ∧ s ≤ 1000 := by
            simp only [List.mem_cons, List.not_mem_nil, or_false] at hs
            rcases hs with rfl | rfl | rfl | rfl <;> decide
          exact jn _ _ ⟨s, rfl, hs2.1, hs2.2, ((k2.trans k3).trans k4).trans ((k5.sub (by simp)).trans k6), d6, k6.get (nin1 naF.symm) (k5.get nin0 e4), (r4.kp0 k5).kpd k6 d5⟩
        · walk_at "z"
          exact jn _ _ ⟨_, rfl, by omega, by omega, (k2.trans k3).trans k4, d4, e4, r4⟩
    · rintro σ' H2 ⟨y3, y4, ps, rfl, k2, d2, e2, r2, hl2, hok⟩
      walk_at "z"
      exact q H2 F ps nF ⟨k2, d2, e2, r2, hl2, hok⟩

/-! ### sums of lists of ints -/
theorem sum_nonneg : ∀ {l : List Int}, (∀ n ∈ l, 0 ≤ n) → 0 ≤ l.sum
  | [], _ => by simp
  | a :: r, h => by
    have h1 := h a (by simp)
    have h2 := sum_nonneg (l := r) fun n hn => h n (by simp [hn])
    rw [List.sum_cons]
    omega
theorem sum_le {c : Int} : ∀ {l : List Int}, (∀ n ∈ l, n ≤ c) → l.sum ≤ c * l.length
  | [], _ => by simp
  | a :: r, h => by
    have h1 := h a (by simp)
    have h2 := sum_le (c := c) (l := r) fun n hn => h n (by simp [hn])
    rw [List.sum_cons, List.length_cons, show c * ((r.length + 1 : Nat) : Int) = c * r.length + c by rw [Int.natCast_add, Int.mul_add]; simp]
    omega
theorem sum_ge_mem : ∀ {l : List Int}, (∀ n ∈ l, 0 ≤ n) → ∀ x ∈ l, x ≤ l.sum
  | [], _, x, hx => by simp at hx
  | a :: r, h, x, hx => by
    have h1 := h a (by simp)
    have h3 := sum_nonneg (l := r) fun n hn => h n (by simp [hn])
    rw [List.sum_cons]
    rcases List.mem_cons.mp hx with e | e
    · omega
    · have h2 := sum_ge_mem (l := r) (fun n hn => h n (by simp [hn])) x e
      omega
theorem take_nonneg {l : List Int} (h : ∀ n ∈ l, 0 ≤ n) (i : Nat) : 0 ≤ (l.take i).sum := sum_nonneg fun n hn => h n (List.mem_of_mem_take hn)
/-! ### lists of ints as data -/
theorem layInts : ∀ ws : List Int, PyData.canLayAll0 (ws.map PyData.int) = true
  | [] => by simp [PyData.canLayAll0]
  | w :: r => by simp [PyData.canLayAll0, PyData.canLay0, layInts r]
theorem depthInts : ∀ ws : List Int, PyData.depthAll (ws.map PyData.int) = 0
  | [] => by simp [PyData.depthAll]
  | w :: r => by simp [PyData.depthAll, PyData.depth, depthInts r]
theorem shInts (ws : List Int) : SeqAt.shaped (.list (ws.map PyData.int)) = true := by
  simp [SeqAt.shaped, PyData.canLay0, PyData.depth, layInts, depthInts]
theorem dpInts {K : PySem.W.Frag} {H : Hp} : ∀ ws : List Int, DpAll K H (ws.map V.int) (ws.map PyData.int)
  | [] => .nil
  | w :: r => .cons (.int w) (dpInts r)
theorem dpI {K : PySem.W.Frag} {H : Hp} {a : Addr} {ws : List Int} (h : SqL K H a (ws.map V.int)) : Dp K H (.ref a) (.list (ws.map PyData.int)) := .lst h (dpInts ws)
theorem eqvI (ws : List Int) : PyData.eqv (.list (ws.map PyData.int)) (.list (ws.map PyData.int)) = true := SeqAt.eqv_refl _ (by simp [PyData.canLay0, layInts])
theorem neLL {K : PySem.W.Frag} {H : Hp} {Q : VK} {a b : Addr} {ws : List Int} (h1 : SqL K H a (ws.map V.int)) (h2 : SqL K H b (ws.map V.int)) (q : Q (.bl false) H) : rNeD K (.ref a) (.ref b) H Q :=
  ⟨_, _, dpI h1, dpI h2, shInts _, shInts _, by rw [eqvI]; exact q⟩
theorem eqLL {K : PySem.W.Frag} {H : Hp} {Q : VK} {a b : Addr} {ws : List Int} (h1 : SqL K H a (ws.map V.int)) (h2 : SqL K H b (ws.map V.int)) (q : Q (.bl true) H) : rEqD K (.ref a) (.ref b) H Q :=
  ⟨_, _, dpI h1, dpI h2, shInts _, shInts _, by rw [eqvI]; exact q⟩

/-! ### Euclid and lowest terms -/
def eStep (p : Nat × Nat) : Nat × Nat := if p.2 = 0 then p else (p.2, p.1 % p.2)
def euc : Nat → Nat × Nat → Nat × Nat
  | 0, p => p
  | i + 1, p => euc i (eStep p)
theorem euc_succ : ∀ (i : Nat) (p : Nat × Nat), euc (i + 1) p = eStep (euc i p)
  | 0, p => rfl
  | i + 1, p => euc_succ i (eStep p)
theorem eStep_gcd (p : Nat × Nat) : Nat.gcd (eStep p).1 (eStep p).2 = Nat.gcd p.1 p.2 := by
  unfold eStep
  split
  · rfl
  · show Nat.gcd p.2 (p.1 % p.2) = Nat.gcd p.1 p.2
    rw [Nat.gcd_comm p.1 p.2, Nat.gcd_rec p.2 p.1, Nat.gcd_comm]
theorem euc_gcd : ∀ (i : Nat) (p : Nat × Nat), Nat.gcd (euc i p).1 (euc i p).2 = Nat.gcd p.1 p.2
  | 0, p => rfl
  | i + 1, p => (euc_gcd i (eStep p)).trans (eStep_gcd p)
theorem eStep_zero {p : Nat × Nat} (h : p.2 = 0) : eStep p = p := if_pos h
theorem euc_zero : ∀ (i : Nat) {p : Nat × Nat}, p.2 = 0 → euc i p = p
  | 0, _, _ => rfl
  | i + 1, p, h => by
    show euc i (eStep p) = p
    rw [eStep_zero h]
    exact euc_zero i h
theorem eStep2 (p : Nat × Nat) : 2 * (eStep (eStep p)).2 ≤ p.2 := by
  obtain ⟨a, b⟩ := p
  by_cases hb : b = 0
  · rw [eStep_zero (p := (a, b)) hb, eStep_zero (p := (a, b)) hb]
    show 2 * b ≤ b
    omega
  · have e1 : eStep (a, b) = (b, a % b) := if_neg hb
    rw [e1]
    have hc : a % b < b := Nat.mod_lt _ (by omega)
    by_cases h0 : a % b = 0
    · rw [eStep_zero (p := (b, a % b)) h0]
      show 2 * (a % b) ≤ b
      omega
    · have e2 : eStep (b, a % b) = (a % b, b % (a % b)) := if_neg h0
      rw [e2]
      show 2 * (b % (a % b)) ≤ b
      have h1 : b % (a % b) < a % b := Nat.mod_lt _ (by omega)
      have h2 := Nat.div_add_mod b (a % b)
      have h3 : 1 ≤ b / (a % b) := Nat.div_pos (by omega) (by omega)
      have h4 : (a % b) * 1 ≤ (a % b) * (b / (a % b)) := Nat.mul_le_mul_left _ h3
      omega
theorem euc_end : ∀ (n : Nat) (p : Nat × Nat), p.2 < 2 ^ n → (euc (2 * n) p).2 = 0
  | 0, p, h => by
    have h' : p.2 < 1 := h
    show p.2 = 0
    omega
  | n + 1, p, h => by
    show (euc (2 * n) (eStep (eStep p))).2 = 0
    refine euc_end n _ ?_
    have := eStep2 p
    rw [Nat.pow_succ] at h
    omega
theorem euc_add : ∀ (i j : Nat) (p : Nat × Nat), euc (i + j) p = euc j (euc i p)
  | 0, j, p => by rw [Nat.zero_add]; rfl
  | i + 1, j, p => by
    rw [show i + 1 + j = (i + j) + 1 by omega]
    exact euc_add i j (eStep p)
theorem euc_5000 {p : Nat × Nat} (h : p.2 < 2 ^ 2400) : (euc 5000 p).2 = 0 := by
  rw [show (5000 : Nat) = 2 * 2400 + 200 from rfl, euc_add, euc_zero 200 (euc_end 2400 p h)]
  exact euc_end 2400 p h
def gN (p q : Int) : Nat := Nat.gcd p.natAbs q.natAbs
def gI (p q : Int) : Int := if q < 0 then -(gN p q : Int) else (gN p q : Int)
def lo (p q : Int) : Int × Int := (p.fdiv (gI p q), q.fdiv (gI p q))
theorem gN_pos {p q : Int} (h : q ≠ 0) : 0 < gN p q := Nat.gcd_pos_of_pos_right _ (by omega)
theorem gI_ne {p q : Int} (h : q ≠ 0) : gI p q ≠ 0 := by
  have := gN_pos (p := p) h
  unfold gI
  split <;> omega
theorem gN_le {p q : Int} (h : q ≠ 0) : gN p q ≤ q.natAbs := Nat.le_of_dvd (by omega) (Nat.gcd_dvd_right _ _)
theorem gI_abs (p q : Int) : (gI p q).natAbs = gN p q := by
  unfold gI
  split <;> omega
theorem dvdI {g : Nat} {p : Int} (h : g ∣ p.natAbs) : ∃ a : Int, p = (g : Int) * a ∧ p.natAbs = g * a.natAbs := by
  obtain ⟨c, hc⟩ := Int.ofNat_dvd_left.mpr h
  refine ⟨c, hc, ?_⟩
  rw [hc, Int.natAbs_mul]
  simp
/-- lowest terms: exactly divided, a denominator of at least 1, no common part -/
theorem lo_spec {p q : Int} (h : q ≠ 0) : ∃ a b : Int, lo p q = (a, b) ∧ 1 ≤ b ∧ Nat.gcd a.natAbs b.natAbs = 1 ∧ p = gI p q * a ∧ q = gI p q * b := by
  obtain ⟨a, ha, ha2⟩ := dvdI (Nat.gcd_dvd_left p.natAbs q.natAbs)
  obtain ⟨b, hb, hb2⟩ := dvdI (Nat.gcd_dvd_right p.natAbs q.natAbs)
  have hg := gN_pos (p := p) h
  have hcop : Nat.gcd a.natAbs b.natAbs = 1 := by
    have e := Nat.gcd_mul_left (gN p q) a.natAbs b.natAbs
    have e2 : gN p q * a.natAbs = p.natAbs := ha2.symm
    have e3 : gN p q * b.natAbs = q.natAbs := hb2.symm
    rw [e2, e3] at e
    have e4 : gN p q * 1 = gN p q * Nat.gcd a.natAbs b.natAbs := by rw [Nat.mul_one]; exact e
    exact (Nat.eq_of_mul_eq_mul_left hg e4).symm
  have ha' : p = (gN p q : Int) * a := ha
  have hb' : q = (gN p q : Int) * b := hb
  have gpos : (0 : Int) < (gN p q : Int) := by omega
  have hb0 : b ≠ 0 := fun z => by
    rw [z, Int.mul_zero] at hb'
    exact h hb'
  by_cases hq : q < 0
  · have eg : gI p q = -(gN p q : Int) := if_pos hq
    have hbn : b < 0 := by
      rcases Int.lt_or_le b 0 with z | z
      · exact z
      · have := Int.mul_nonneg (Int.le_of_lt gpos) z
        omega
    have ep : p = gI p q * -a := by rw [eg, Int.neg_mul_neg]; exact ha'
    have eq : q = gI p q * -b := by rw [eg, Int.neg_mul_neg]; exact hb'
    refine ⟨-a, -b, ?_, by omega, by rw [Int.natAbs_neg, Int.natAbs_neg]; exact hcop, ep, eq⟩
    have g0 := gI_ne (p := p) h
    unfold lo
    have f1 : p.fdiv (gI p q) = -a := by
      have := Int.mul_fdiv_cancel_left (-a) g0
      rw [← ep] at this
      exact this
    have f2 : q.fdiv (gI p q) = -b := by
      have := Int.mul_fdiv_cancel_left (-b) g0
      rw [← eq] at this
      exact this
    rw [f1, f2]
  · have eg : gI p q = (gN p q : Int) := if_neg hq
    have hbp : 0 < b := by
      rcases Int.lt_or_le 0 b with z | z
      · exact z
      · have := Int.mul_nonpos_of_nonneg_of_nonpos (Int.le_of_lt gpos) z
        omega
    have ep : p = gI p q * a := by rw [eg]; exact ha'
    have eq : q = gI p q * b := by rw [eg]; exact hb'
    refine ⟨a, b, ?_, by omega, hcop, ep, eq⟩
    have g0 := gI_ne (p := p) h
    unfold lo
    have f1 : p.fdiv (gI p q) = a := by
      have := Int.mul_fdiv_cancel_left a g0
      rw [← ep] at this
      exact this
    have f2 : q.fdiv (gI p q) = b := by
      have := Int.mul_fdiv_cancel_left b g0
      rw [← eq] at this
      exact this
    rw [f1, f2]
theorem lo_pos {p q : Int} (h : q ≠ 0) : 1 ≤ (lo p q).2 := by
  obtain ⟨a, b, e, h1, _⟩ := lo_spec (p := p) h
  rw [e]; exact h1
theorem lo_cop {p q : Int} (h : q ≠ 0) : Nat.gcd (lo p q).1.natAbs (lo p q).2.natAbs = 1 := by
  obtain ⟨a, b, e, _, h1, _⟩ := lo_spec (p := p) h
  rw [e]; exact h1
theorem abs_le_mul {g a : Int} (h : g ≠ 0) : a.natAbs ≤ (g * a).natAbs := by
  rw [Int.natAbs_mul]
  exact Nat.le_mul_of_pos_left _ (by omega)
theorem lo_abs1 {p q : Int} (h : q ≠ 0) : (lo p q).1.natAbs ≤ p.natAbs := by
  obtain ⟨a, b, e, _, _, h1, _⟩ := lo_spec (p := p) h
  rw [e]
  have := abs_le_mul (a := a) (gI_ne (p := p) h)
  rw [← h1] at this
  exact this
theorem lo_abs2 {p q : Int} (h : q ≠ 0) : (lo p q).2.natAbs ≤ q.natAbs := by
  obtain ⟨a, b, e, _, _, _, h1⟩ := lo_spec (p := p) h
  rw [e]
  have := abs_le_mul (a := b) (gI_ne (p := p) h)
  rw [← h1] at this
  exact this

/-! ### fractions: tuples of two ints -/
section frac
variable {K : PySem.W.Frag}
abbrev Fr := Int × Int
def frV (f : Fr) : List V := [.int f.1, .int f.2]
/-- at x there is no tuple -/
def NoTup (H : Hp) (x : Addr) : Prop := ∀ xs, ¬ Rd H x (.tup xs)
theorem NoTup.of {H : Hp} {x : Addr} {o : HO} (h : H x = some o) (n : ∀ xs, o ≠ .tup xs ∧ ∀ u, o ≠ .frz u (.tup xs)) : NoTup H x := fun xs r => by
  rcases r with r | ⟨u, r⟩
  · rw [h] at r; exact (n xs).1 (Option.some.inj r)
  · rw [h] at r; exact (n xs).2 u (Option.some.inj r)
theorem NoTup.lst {H : Hp} {x : Addr} {xs : List V} (h : H x = some (.lst xs)) : NoTup H x := NoTup.of h fun ys => ⟨by simp, by simp⟩
theorem NoTup.new {H : Hp} {x : Addr} (h : H x = none) : NoTup H x := fun xs r => by
  rcases r with r | ⟨u, r⟩ <;> rw [h] at r <;> cases r
theorem kpTup {K : PySem.W.Frag} {M : List Addr} {H H' : Hp} {a : Addr} {xs : List V} (h : SqT K H a xs) (k : Kp M H H') (n : ∀ x ∈ M, NoTup H x) : SqT K H' a xs := by
  rcases h with h | h
  · have na : a ∉ M := fun z => n a z xs h
    exact k.tup na (.inl h)
  · exact .inr h
/-- a fraction at a, a new one or one of the top -/
def FrAt (K : PySem.W.Frag) (H : Hp) (a : Addr) (f : Fr) : Prop := SqT K H a (frV f)
theorem FrAt.kp {M : List Addr} {H H' : Hp} {a : Addr} {f : Fr} (h : FrAt K H a f) (k : Kp M H H') (n : ∀ x ∈ M, NoTup H x) : FrAt K H' a f := kpTup h k n
theorem FrAt.kp0 {H H' : Hp} {a : Addr} {f : Fr} (h : FrAt K H a f) (k : Kp [] H H') : FrAt K H' a f := k.tup nin0 h
theorem FrAt.kpl {H H' : Hp} {a l : Addr} {f : Fr} {xs : List V} (h : FrAt K H a f) (k : Kp [l] H H') (e : H l = some (.lst xs)) : FrAt K H' a f := kpTup h k fun x hx => by
  rw [List.mem_singleton.mp hx]
  exact NoTup.lst e
theorem fr0 (f : Fr) : atI (frV f) 0 = some (.int f.1) := rfl
theorem fr1 (f : Fr) : atI (frV f) 1 = some (.int f.2) := rfl
/-- small enough for the machine's ints -/
def FrB (n : Nat) (f : Fr) : Prop := f.1.natAbs < 2 ^ n ∧ f.2.natAbs < 2 ^ n
theorem FrB.mono {n m : Nat} {f : Fr} (h : FrB n f) (l : n ≤ m) : FrB m f := ⟨Nat.lt_of_lt_of_le h.1 (Nat.pow_le_pow_right (by decide) l), Nat.lt_of_lt_of_le h.2 (Nat.pow_le_pow_right (by decide) l)⟩
theorem lo_B {n : Nat} {p q : Int} (h : q ≠ 0) (h1 : p.natAbs < 2 ^ n) (h2 : q.natAbs < 2 ^ n) : FrB n (lo p q) := ⟨Nat.lt_of_le_of_lt (lo_abs1 h) h1, Nat.lt_of_le_of_lt (lo_abs2 h) h2⟩
theorem add_B {n : Nat} {a b : Int} (h1 : a.natAbs < 2 ^ n) (h2 : b.natAbs < 2 ^ n) : (a + b).natAbs < 2 ^ (n + 1) := by
  rw [Nat.pow_succ]
  omega
theorem sub_B {n : Nat} {a b : Int} (h1 : a.natAbs < 2 ^ n) (h2 : b.natAbs < 2 ^ n) : (a - b).natAbs < 2 ^ (n + 1) := by
  rw [Nat.pow_succ]
  omega
theorem mul_B {n m : Nat} {a b : Int} (h1 : a.natAbs < 2 ^ n) (h2 : b.natAbs < 2 ^ m) : (a * b).natAbs < 2 ^ (n + m) := wide_lt h1 h2
theorem up_B {n m : Nat} {a : Int} (h : a.natAbs < 2 ^ n) (l : n ≤ m) : a.natAbs < 2 ^ m := Nat.lt_of_lt_of_le h (Nat.pow_le_pow_right (by decide) l)
theorem mul_ok {n : Nat} {a b : Int} (h1 : a.natAbs < 2 ^ n) (h2 : b.natAbs < 2 ^ n) (h0 : 0 < n := by omega) (h : n ≤ 400000 := by omega) : CMulW a b := wide_mul h1 h2 h0 h0 (by omega)
def fplus (f g : Fr) : Fr := lo (f.1 * g.2 + g.1 * f.2) (f.2 * g.2)
def fminus (f g : Fr) : Fr := lo (f.1 * g.2 - g.1 * f.2) (f.2 * g.2)
def ftimes (f g : Fr) : Fr := lo (f.1 * g.1) (f.2 * g.2)
def fover (f g : Fr) : Fr := lo (f.1 * g.2) (f.2 * g.1)
def fless (f g : Fr) : Bool := decide (f.1 * g.2 < g.1 * f.2)
theorem fplus_B {n m : Nat} {f g : Fr} (hf : FrB n f) (hg : FrB m g) (h1 : f.2 ≠ 0) (h2 : g.2 ≠ 0) : FrB (n + m + 1) (fplus f g) :=
  lo_B (Int.mul_ne_zero h1 h2) (add_B (mul_B hf.1 hg.2) (by rw [Nat.add_comm n m]; exact mul_B hg.1 hf.2)) (up_B (mul_B hf.2 hg.2) (by omega))
theorem fminus_B {n m : Nat} {f g : Fr} (hf : FrB n f) (hg : FrB m g) (h1 : f.2 ≠ 0) (h2 : g.2 ≠ 0) : FrB (n + m + 1) (fminus f g) :=
  lo_B (Int.mul_ne_zero h1 h2) (sub_B (mul_B hf.1 hg.2) (by rw [Nat.add_comm n m]; exact mul_B hg.1 hf.2)) (up_B (mul_B hf.2 hg.2) (by omega))
theorem ftimes_B {n m : Nat} {f g : Fr} (hf : FrB n f) (hg : FrB m g) (h1 : f.2 ≠ 0) (h2 : g.2 ≠ 0) : FrB (n + m) (ftimes f g) := lo_B (Int.mul_ne_zero h1 h2) (mul_B hf.1 hg.1) (mul_B hf.2 hg.2)
theorem fplus_pos {f g : Fr} (h1 : f.2 ≠ 0) (h2 : g.2 ≠ 0) : 1 ≤ (fplus f g).2 := lo_pos (Int.mul_ne_zero h1 h2)
/-! ### samphire.errors, samphire.ratios -/
def spZD (C : Addr) : Sp := fun vs H Q _ => ∃ a : Addr, vs = [.ref a] ∧ H a = some (exo a C none) ∧ Q .non H
theorem ok_ZeroDenominator_init {P : Program} {w : World} {K : PySem.W.Frag} {mg : Str → Option Value} {base : Heap} (T : T P K mg) : FnOk P w K mg base CX0 1 T.a_ZeroDenominator_init ((NF_ZeroDenominator T.cc_ZeroDenominator T.c_ZeroDenominator).fd T.doc_ZeroDenominator T.pm_ZeroDenominator T.ctv_ZeroDenominator) ["self"] (spZD T.C_ZeroDenominator) := by
  refine Sup.fn_super (F := NF_ZeroDenominator T.cc_ZeroDenominator T.c_ZeroDenominator) (p := "self") (ps' := []) T.x_ZeroDenominator.S T.lk_ZeroDenominator rfl T.hc_ZeroDenominator sc_ZeroDenominator_init rfl ⟨_, rfl, rfl⟩ rfl rfl (fun _ => rfl) (fun _ => ⟨_, rfl⟩) (fun _ => rfl) (fun vs H Q E h => ?_) (fun A outer s H vs Q E hr h => ?_)
  · obtain ⟨a, rfl, _⟩ := h
    rfl
  · obtain ⟨a, rfl, ha, q⟩ := h
    exact ⟨a, [], _, _, rfl, ha, pa_cons pe_str pa_nil, pss_nil, by decide, ha, q⟩
def spLowest (K : PySem.W.Frag) (C : Addr) : Sp := fun vs H Q E => ∃ p q : Int, vs = [.int p, .int q] ∧ q.natAbs < 2 ^ 8000 ∧ (q = 0 → E (.ref C) none H) ∧ (q ≠ 0 → ∀ H' b, H b = none → Kp [] H H' → FrAt K H' b (lo p q) → Q (.ref b) H')
theorem del_upd {H : Hp} {a : Addr} {o : HO} (h : H a = none) : del (upd H a o) a = H := by
  funext b
  by_cases hb : b = a
  · rw [hb, del_same, h]
  · rw [del_ne hb, upd_ne hb]
theorem ok_lowest {P : Program} {w : World} {K : PySem.W.Frag} {mg : Str → Option Value} {base : Heap} (T : T P K mg) : FnOk P w K mg base (L2.CX P w) 3 T.a_lowest T.fd_lowest ["p", "q"] (spLowest K T.C_ZeroDenominator) := by
  refine T.F_lowest.okX sc_lowest (fun vs H Q E h => ?_) (fun cdv A outer s H vs Q E hr h => ?_)
  · obtain ⟨p, q, rfl, _⟩ := h
    rfl
  · obtain ⟨p, q, rfl, hb, h0, h1⟩ := h
    refine ⟨_, (pss_cons (ps_if (pt_cmpR op_eq (pv 1) pe_int (nomark _)) (pss_one (ps_raise rfl (takes_of rfl rfl rfl rfl) (Sup.pmk_oexN T.x_ZeroDenominator.S.T T.x_ZeroDenominator.iC T.x_ZeroDenominator.tI (ok_ZeroDenominator_init T) (hr.mono (by decide)) (T.bx_ZeroDenominator) pass0 (by rfl) T.x_ZeroDenominator.g))) pss_nil)
      (pss_cons (ps_set (i := 2) sc_lowest.nd rfl (by first | exact Or.inl rfl | exact Or.inr rfl) (pe_callBfun cr_gcd (by rfl) T.g_gcd (pa_cons (pv 0) (pa_cons (pv 1) pa_nil))))
      (Z.pss_consJ (ps_if (pt_cmpR op_lt (pv 1) pe_int (nomark _)) (pss_one (ps_set (i := 2) sc_lowest.nd rfl (by first | exact Or.inl rfl | exact Or.inr rfl) (pe_un un_neg (pv 2)))) pss_nil)
      (pss_one (ps_ret (pe_tup (pa_cons (pe_op Z.op_fdivA (pv 0) (pv 2)) (pa_cons (pe_op Z.op_fdivA (pv 1) (pv 2)) pa_nil)))))))), ?_⟩
    walk_at "z0"
    walk_at "z"
    refine Z.ite (fun hq => ?_) (fun hq => ?_)
    · refine Z.mkN fun a na => ⟨a, rfl, upd_same, rfl, upd_same, ?_⟩
      rw [del_upd na]
      exact h0 hq
    · walk_at "z"
      have hg := gI_ne (p := p) hq
      have hdv : Z.CDivA p (gI p q) := Z.divA (b := 8000) hg (by rw [gI_abs]; exact Nat.lt_of_le_of_lt (gN_le hq) hb) (by decide) (by decide)
      have hdv2 : Z.CDivA q (gI p q) := hdv
      refine Z.seqJ (fun σ' H' => σ' = [some (.int p), some (.int q), some (.int (gI p q))] ∧ H' = H) ?_ ?_
      · rintro σ' H' ⟨rfl, rfl⟩
        walk_at "z"
        refine Z.iC hdv ?_
        walk_at "z"
        refine Z.iC hdv2 ?_
        refine Z.tupK (fun b H1 nb k1 e1 => ?_)
        exact h1 hq _ _ nb k1 (tupT e1)
      · intro N jn
        walk_at "z"
        refine Z.ite (fun h2 => ?_) (fun h2 => ?_)
        · walk_at "z"
          refine jn _ _ ⟨?_, rfl⟩
          unfold gI
          rw [if_pos h2]; rfl
        · walk_at "z"
          refine jn _ _ ⟨?_, rfl⟩
          unfold gI
          rw [if_neg h2]; rfl
/-- two fractions in, a fraction out -/
def spF2 (K : PySem.W.Frag) (o : Fr → Fr → Fr) : Sp := fun vs H Q _ => ∃ (a b : Addr) (f g : Fr), vs = [.ref a, .ref b] ∧ FrAt K H a f ∧ FrAt K H b g ∧ f.2 ≠ 0 ∧ g.2 ≠ 0 ∧ FrB 3900 f ∧ FrB 3900 g ∧ ∀ H' c, H c = none → Kp [] H H' → FrAt K H' c (o f g) → Q (.ref c) H'
theorem ok_plus {P : Program} {w : World} {K : PySem.W.Frag} {mg : Str → Option Value} {base : Heap} (T : T P K mg) : FnOk P w K mg base CX0 4 T.a_plus T.fd_plus ["a", "b"] (spF2 K fplus) := by
  refine T.F_plus.ok sc_plus (fun vs H Q E h => ?_) (fun cdv A outer s H vs Q E hr h => ?_)
  · obtain ⟨a, b, f, g, rfl, _⟩ := h
    rfl
  · obtain ⟨a, b, f, g, rfl, ha, hb, hf, hg, Bf, Bg, q⟩ := h
    refine ⟨_, (pss_one (ps_ret (pe_call (ok_lowest T) (hr.mono (by decide)) (by rfl) T.g_lowest T.F_lowest.kp T.b_lowest .nil passL (pa_cons (pe_op op_add (pe_op op_mulW (pe_ix ix_tup (pv 0) pe_int (fun _ _ => rfl)) (pe_ix ix_tup (pv 1) pe_int (fun _ _ => rfl))) (pe_op op_mulW (pe_ix ix_tup (pv 1) pe_int (fun _ _ => rfl)) (pe_ix ix_tup (pv 0) pe_int (fun _ _ => rfl)))) (pa_cons (pe_op op_mulW (pe_ix ix_tup (pv 0) pe_int (fun _ _ => rfl)) (pe_ix ix_tup (pv 1) pe_int (fun _ _ => rfl))) pa_nil))))), ?_⟩
    walk_at "z0"
    walk_at "z"
    refine Z.ixT ha (fr0 f) ?_
    walk_at "z"
    refine Z.ixT hb (fr1 g) ?_
    walk_at "z"
    refine Z.iC (mul_ok Bf.1 Bg.2) ?_
    walk_at "z"
    refine Z.ixT hb (fr0 g) ?_
    walk_at "z"
    refine Z.ixT ha (fr1 f) ?_
    walk_at "z"
    refine Z.iC (mul_ok Bg.1 Bf.2) ?_
    walk_at "z"
    refine Z.ixT ha (fr1 f) ?_
    walk_at "z"
    refine Z.ixT hb (fr1 g) ?_
    walk_at "z"
    refine Z.iC (mul_ok Bf.2 Bg.2) ?_
    walk_at "z"
    exact ⟨_, _, rfl, up_B (mul_B Bf.2 Bg.2) (by decide), fun z => absurd z (Int.mul_ne_zero hf hg), fun _ H' c nc k e => q _ _ nc k e⟩
theorem ok_minus {P : Program} {w : World} {K : PySem.W.Frag} {mg : Str → Option Value} {base : Heap} (T : T P K mg) : FnOk P w K mg base CX0 4 T.a_minus T.fd_minus ["a", "b"] (spF2 K fminus) := by
  refine T.F_minus.ok sc_minus (fun vs H Q E h => ?_) (fun cdv A outer s H vs Q E hr h => ?_)
  · obtain ⟨a, b, f, g, rfl, _⟩ := h
    rfl
  · obtain ⟨a, b, f, g, rfl, ha, hb, hf, hg, Bf, Bg, q⟩ := h
    refine ⟨_, (pss_one (ps_ret (pe_call (ok_lowest T) (hr.mono (by decide)) (by rfl) T.g_lowest T.F_lowest.kp T.b_lowest .nil passL (pa_cons (pe_op op_sub (pe_op op_mulW (pe_ix ix_tup (pv 0) pe_int (fun _ _ => rfl)) (pe_ix ix_tup (pv 1) pe_int (fun _ _ => rfl))) (pe_op op_mulW (pe_ix ix_tup (pv 1) pe_int (fun _ _ => rfl)) (pe_ix ix_tup (pv 0) pe_int (fun _ _ => rfl)))) (pa_cons (pe_op op_mulW (pe_ix ix_tup (pv 0) pe_int (fun _ _ => rfl)) (pe_ix ix_tup (pv 1) pe_int (fun _ _ => rfl))) pa_nil))))), ?_⟩
    walk_at "z0"
    walk_at "z"
    refine Z.ixT ha (fr0 f) ?_
    walk_at "z"
    refine Z.ixT hb (fr1 g) ?_
    walk_at "z"
    refine Z.iC (mul_ok Bf.1 Bg.2) ?_
    walk_at "z"
    refine Z.ixT hb (fr0 g) ?_
    walk_at "z"
    refine Z.ixT ha (fr1 f) ?_
    walk_at "z"
    refine Z.iC (mul_ok Bg.1 Bf.2) ?_
    walk_at "z"
    refine Z.ixT ha (fr1 f) ?_
    walk_at "z"
    refine Z.ixT hb (fr1 g) ?_
    walk_at "z"
    refine Z.iC (mul_ok Bf.2 Bg.2) ?_
    walk_at "z"
    exact ⟨_, _, rfl, up_B (mul_B Bf.2 Bg.2) (by decide), fun z => absurd z (Int.mul_ne_zero hf hg), fun _ H' c nc k e => q _ _ nc k e⟩
theorem ok_times {P : Program} {w : World} {K : PySem.W.Frag} {mg : Str → Option Value} {base : Heap} (T : T P K mg) : FnOk P w K mg base CX0 4 T.a_times T.fd_times ["a", "b"] (spF2 K ftimes) := by
  refine T.F_times.ok sc_times (fun vs H Q E h => ?_) (fun cdv A outer s H vs Q E hr h => ?_)
  · obtain ⟨a, b, f, g, rfl, _⟩ := h
    rfl
  · obtain ⟨a, b, f, g, rfl, ha, hb, hf, hg, Bf, Bg, q⟩ := h
    refine ⟨_, (pss_one (ps_ret (pe_call (ok_lowest T) (hr.mono (by decide)) (by rfl) T.g_lowest T.F_lowest.kp T.b_lowest .nil passL (pa_cons (pe_op op_mulW (pe_ix ix_tup (pv 0) pe_int (fun _ _ => rfl)) (pe_ix ix_tup (pv 1) pe_int (fun _ _ => rfl))) (pa_cons (pe_op op_mulW (pe_ix ix_tup (pv 0) pe_int (fun _ _ => rfl)) (pe_ix ix_tup (pv 1) pe_int (fun _ _ => rfl))) pa_nil))))), ?_⟩
    walk_at "z0"
    walk_at "z"
    refine Z.ixT ha (fr0 f) ?_
    walk_at "z"
    refine Z.ixT hb (fr0 g) ?_
    walk_at "z"
    refine Z.iC (mul_ok Bf.1 Bg.1) ?_
    walk_at "z"
    refine Z.ixT ha (fr1 f) ?_
    walk_at "z"
    refine Z.ixT hb (fr1 g) ?_
    walk_at "z"
    refine Z.iC (mul_ok Bf.2 Bg.2) ?_
    walk_at "z"
    exact ⟨_, _, rfl, up_B (mul_B Bf.2 Bg.2) (by decide), fun z => absurd z (Int.mul_ne_zero hf hg), fun _ H' c nc k e => q _ _ nc k e⟩
def spOver (K : PySem.W.Frag) (C : Addr) : Sp := fun vs H Q E => ∃ (a b : Addr) (f g : Fr), vs = [.ref a, .ref b] ∧ FrAt K H a f ∧ FrAt K H b g ∧ f.2 ≠ 0 ∧ FrB 3900 f ∧ FrB 3900 g ∧ (g.1 = 0 → E (.ref C) none H) ∧ (g.1 ≠ 0 → ∀ H' c, H c = none → Kp [] H H' → FrAt K H' c (fover f g) → Q (.ref c) H')
theorem ok_over {P : Program} {w : World} {K : PySem.W.Frag} {mg : Str → Option Value} {base : Heap} (T : T P K mg) : FnOk P w K mg base (L2.CX P w) 4 T.a_over T.fd_over ["a", "b"] (spOver K T.C_ZeroDenominator) := by
  refine T.F_over.okX sc_over (fun vs H Q E h => ?_) (fun cdv A outer s H vs Q E hr h => ?_)
  · obtain ⟨a, b, f, g, rfl, _⟩ := h
    rfl
  · obtain ⟨a, b, f, g, rfl, ha, hb, hf, Bf, Bg, q0, q1⟩ := h
    refine ⟨_, (pss_one (ps_ret (pe_call (ok_lowest T) (hr.mono (by decide)) (by rfl) T.g_lowest T.F_lowest.kp T.b_lowest .nil (passes_call (takes_of rfl rfl rfl rfl) (fun _ _ _ _ h => h)) (pa_cons (pe_op op_mulW (pe_ix ix_tup (pv 0) pe_int (fun _ _ => rfl)) (pe_ix ix_tup (pv 1) pe_int (fun _ _ => rfl))) (pa_cons (pe_op op_mulW (pe_ix ix_tup (pv 0) pe_int (fun _ _ => rfl)) (pe_ix ix_tup (pv 1) pe_int (fun _ _ => rfl))) pa_nil))))), ?_⟩
    walk_at "z0"
    walk_at "z"
    refine Z.ixT ha (fr0 f) ?_
    walk_at "z"
    refine Z.ixT hb (fr1 g) ?_
    walk_at "z"
    refine Z.iC (mul_ok Bf.1 Bg.2) ?_
    walk_at "z"
    refine Z.ixT ha (fr1 f) ?_
    walk_at "z"
    refine Z.ixT hb (fr0 g) ?_
    walk_at "z"
    refine Z.iC (mul_ok Bf.2 Bg.1) ?_
    walk_at "z"
    refine ⟨_, _, rfl, up_B (mul_B Bf.2 Bg.1) (by decide), fun z => ?_, fun z H' c nc k e => ?_⟩
    · rcases Int.mul_eq_zero.mp z with z | z
      · exact absurd z hf
      · exact q0 z
    · exact q1 (fun y => z (by rw [y, Int.mul_zero])) _ _ nc k e
/-- lists of fractions -/
def FrsAt (K : PySem.W.Frag) (H : Hp) (as : List Addr) (fs : List Fr) : Prop := Paired (fun a f => FrAt K H a f) as fs
theorem FrsAt.kp {M : List Addr} {H H' : Hp} {as : List Addr} {fs : List Fr} (h : FrsAt K H as fs) (k : Kp M H H') (n : ∀ x ∈ M, NoTup H x) : FrsAt K H' as fs := by
  induction h with
  | nil => exact .nil
  | cons r t ih => exact .cons (FrAt.kp r k n) ih
theorem FrsAt.kp0 {H H' : Hp} {as : List Addr} {fs : List Fr} (h : FrsAt K H as fs) (k : Kp [] H H') : FrsAt K H' as fs := h.kp k fun _ h => by cases h
theorem FrsAt.kpl {H H' : Hp} {as : List Addr} {fs : List Fr} {l : Addr} {xs : List V} (h : FrsAt K H as fs) (k : Kp [l] H H') (e : H l = some (.lst xs)) : FrsAt K H' as fs := h.kp k fun x hx => by
  rw [List.mem_singleton.mp hx]
  exact NoTup.lst e
theorem FrsAt.get {H : Hp} : ∀ {as : List Addr} {fs : List Fr} {i : Nat} {v : V}, FrsAt K H as fs → (as.map V.ref)[i]? = some v → ∃ a f, v = .ref a ∧ fs[i]? = some f ∧ FrAt K H a f
  | _, _, i, v, .nil, h => by simp at h
  | _, _, 0, v, .cons r t, h => by
    simp at h
    exact ⟨_, _, h.symm, rfl, r⟩
  | _, _, i + 1, v, .cons r t, h => by
    obtain ⟨a, f, e1, e2, e3⟩ := FrsAt.get (i := i) t (by simpa using h)
    exact ⟨a, f, e1, by simpa using e2, e3⟩
theorem FrsAt.len {H : Hp} {as : List Addr} {fs : List Fr} (h : FrsAt K H as fs) : as.length = fs.length := Paired.length h
theorem FrsAt.snoc {H : Hp} {as : List Addr} {fs : List Fr} {a : Addr} {f : Fr} (h : FrsAt K H as fs) (r : FrAt K H a f) : FrsAt K H (as ++ [a]) (fs ++ [f]) := by
  induction h with
  | nil => exact .cons r .nil
  | cons r t ih => exact .cons r ih
theorem FrsAt.app {H : Hp} {as bs : List Addr} {fs gs : List Fr} (h : FrsAt K H as fs) (r : FrsAt K H bs gs) : FrsAt K H (as ++ bs) (fs ++ gs) := by
  induction h with
  | nil => exact r
  | cons r t ih => exact .cons r ih
theorem FrsAt.take {H : Hp} : ∀ {as : List Addr} {fs : List Fr} (i : Nat), FrsAt K H as fs → FrsAt K H (as.take i) (fs.take i)
  | _, _, 0, _ => by rw [List.take_zero, List.take_zero]; exact .nil
  | _, _, i + 1, .nil => by rw [List.take_nil, List.take_nil]; exact .nil
  | _, _, i + 1, .cons r t => .cons r (FrsAt.take i t)
theorem FrsAt.drop {H : Hp} : ∀ {as : List Addr} {fs : List Fr} (i : Nat), FrsAt K H as fs → FrsAt K H (as.drop i) (fs.drop i)
  | _, _, 0, h => h
  | _, _, i + 1, .nil => by rw [List.drop_nil, List.drop_nil]; exact .nil
  | _, _, i + 1, .cons r t => FrsAt.drop i t
/-- data -/
def frD (f : Fr) : PyData := .tuple [.int f.1, .int f.2]
theorem dpF {H : Hp} {a : Addr} {f : Fr} (h : FrAt K H a f) : Dp K H (.ref a) (frD f) := .tup h (.cons (.int _) (.cons (.int _) .nil))
theorem frD_sh (f : Fr) : SeqAt.shaped (frD f) = true := by
  simp [frD, SeqAt.shaped, PyData.canLay0, PyData.canLayAll0, PyData.depth, PyData.depthAll]
theorem frD_eq (f : Fr) : PyData.eqv (frD f) (frD f) = true := SeqAt.eqv_refl _ (by simp [frD, PyData.canLay0, PyData.canLayAll0])
theorem neFF {K : PySem.W.Frag} {H : Hp} {Q : VK} {a b : Addr} {f : Fr} (h1 : FrAt K H a f) (h2 : FrAt K H b f) (q : Q (.bl false) H) : rNeD K (.ref a) (.ref b) H Q :=
  ⟨_, _, dpF h1, dpF h2, frD_sh _, frD_sh _, by rw [frD_eq]; exact q⟩
theorem dpFs {K : PySem.W.Frag} {H : Hp} : ∀ {as : List Addr} {fs : List Fr}, FrsAt K H as fs → DpAll K H (as.map V.ref) (fs.map frD)
  | _, _, .nil => .nil
  | _, _, .cons r t => .cons (dpF r) (dpFs t)
theorem layFs : ∀ fs : List Fr, PyData.canLayAll0 (fs.map frD) = true
  | [] => by simp [PyData.canLayAll0]
  | f :: r => by simp [PyData.canLayAll0, frD, PyData.canLay0, layFs r]
theorem depthFs : ∀ fs : List Fr, PyData.depthAll (fs.map frD) ≤ 1
  | [] => by simp [PyData.depthAll]
  | f :: r => by
    have := depthFs r
    simp [PyData.depthAll, frD, PyData.depth]
    exact Nat.max_le.mpr ⟨by omega, this⟩
theorem shFs (fs : List Fr) : SeqAt.shaped (.list (fs.map frD)) = true := by
  have := depthFs fs
  simp only [SeqAt.shaped, PyData.canLay0, PyData.depth, layFs, Bool.true_and]
  exact decide_eq_true (by omega)
theorem neFL {K : PySem.W.Frag} {H : Hp} {Q : VK} {a b : Addr} {as : List Addr} {fs : List Fr} (h1 : H a = some (.lst (as.map V.ref))) (h2 : H b = some (.lst (as.map V.ref))) (h : FrsAt K H as fs) (q : Q (.bl false) H) : rNeD K (.ref a) (.ref b) H Q :=
  ⟨_, _, .lst (lstL h1) (dpFs h), .lst (lstL h2) (dpFs h), shFs _, shFs _, by rw [SeqAt.eqv_refl (.list (fs.map frD)) (by simp [PyData.canLay0, layFs])]; exact q⟩
end frac
/-- sums, from the left -/
def fsum (t : Fr) (fs : List Fr) : Fr := fs.foldl fplus t
theorem fsum_B : ∀ {fs : List Fr} {t : Fr} {n m : Nat}, FrB n t → t.2 ≠ 0 → (∀ f ∈ fs, FrB m f ∧ f.2 ≠ 0) → FrB (n + fs.length * (m + 1)) (fsum t fs) ∧ (fsum t fs).2 ≠ 0
  | [], t, n, m, h, h0, _ => by
    refine ⟨?_, h0⟩
    show FrB (n + 0 * (m + 1)) t
    rw [Nat.zero_mul]
    exact h
  | f :: r, t, n, m, h, h0, hf => by
    have h1 := hf f (by simp)
    have hp := fplus_pos h0 h1.2
    have ih := fsum_B (fs := r) (t := fplus t f) (n := n + m + 1) (m := m) (fplus_B h h1.1 h0 h1.2) (by omega) fun g hg => hf g (by simp [hg])
    refine ⟨?_, ih.2⟩
    have e : n + (f :: r).length * (m + 1) = n + m + 1 + r.length * (m + 1) := by
      rw [List.length_cons, Nat.add_mul]
      omega
    rw [e]
    exact ih.1
theorem fsum_take {t : Fr} {fs : List Fr} {i : Nat} {f : Fr} (h : fs[i]? = some f) : fsum t (fs.take (i + 1)) = fplus (fsum t (fs.take i)) f := by
  unfold fsum
  rw [List.take_add_one, h, List.foldl_append]
  rfl
def spSumOf (K : PySem.W.Frag) (m k : Nat) : Sp := fun vs H Q _ => ∃ (a : Addr) (as : List Addr) (fs : List Fr), vs = [.ref a] ∧ SqL K H a (as.map V.ref) ∧ FrsAt K H as fs ∧ (∀ f ∈ fs, FrB m f ∧ f.2 ≠ 0) ∧ fs.length ≤ k ∧ ∀ H' c, Kp [] H H' → FrAt K H' c (fsum (0, 1) fs) → Q (.ref c) H'
theorem ok_sum_of_any {P : Program} {w : World} {K : PySem.W.Frag} {mg : Str → Option Value} {base : Heap} (T : T P K mg) (m k : Nat) (hm : m ≤ 3900) (hk : 1 + k * (m + 1) ≤ 3900) : FnOk P w K mg base CX0 5 T.a_sum_of T.fd_sum_of ["fractions"] (spSumOf K m k) := by
  refine T.F_sum_of.ok sc_sum_of (fun vs H Q E h => ?_) (fun cdv A outer s H vs Q E hr h => ?_)
  · obtain ⟨a, as, fs, rfl, _⟩ := h
    rfl
  · obtain ⟨a, as, fs, rfl, hS, hF, hB, hl, q⟩ := h
    refine ⟨_, (pss_cons (ps_set (i := 1) sc_sum_of.nd rfl (by first | exact Or.inl rfl | exact Or.inr rfl) (pe_glob (v := .ref T.k_ZERO) (by rfl) T.g_ZERO rfl))
      (pss_cons (ps_for PassesOwn.never rfl (pi_list (pv 0)) (pg_name (i := 2) sc_sum_of.nd rfl (by first | exact Or.inl rfl | exact Or.inr rfl)) (pss_one (ps_set (i := 1) sc_sum_of.nd rfl (by first | exact Or.inl rfl | exact Or.inr rfl) (pe_call (ok_plus T) (hr.mono (by decide)) (by rfl) T.g_plus T.F_plus.kp T.b_plus .nil pass0 (pa_cons (pv 1) (pa_cons (pv 2) pa_nil))))))
      (pss_one (ps_ret (pv 1))))), ?_⟩
    walk_at "z0"
    walk_at "z"
    refine Z.forl (as.map V.ref) hS (fun i σ' H' => ∃ c y, σ' = [some (.ref a), some (.ref c), y] ∧ Kp [] H H' ∧ FrAt K H' c (fsum (0, 1) (fs.take i))) ?_ ?_ ?_ ?_
    · exact ⟨T.k_ZERO, none, rfl, Kp.refl _, T.q_ZERO H⟩
    · rintro i σ' H' _ ⟨c, y, rfl, k2, _⟩
      exact k2.seq nin0 hS
    · rintro i v σ' H' hv ⟨c, y, rfl, k2, e2⟩
      obtain ⟨x, f, rfl, hf, hx⟩ := (hF.kp0 k2).get hv
      have hfB := hB f (List.mem_of_getElem? hf)
      have hB1 := fsum_B (fs := fs.take i) (t := (0, 1)) (n := 1) (m := m) ⟨by decide, by decide⟩ (by decide) fun g hg => hB g (List.mem_of_mem_take hg)
      have hle : 1 + (fs.take i).length * (m + 1) ≤ 3900 := Nat.le_trans (Nat.add_le_add_left (Nat.mul_le_mul_right _ (Nat.le_trans (by rw [List.length_take]; exact Nat.min_le_right _ _) hl)) 1) hk
      walk_at "z"
      refine ⟨c, x, _, f, rfl, e2, hx, hB1.2, hfB.2, hB1.1.mono hle, hfB.1.mono hm, fun H3 d nd k3 e3 => ?_⟩
      walk_at "z"
      exact ⟨d, _, rfl, k2.trans k3, by rw [fsum_take hf]; exact e3⟩
    · rintro σ' H' ⟨c, y, rfl, k2, e2⟩
      walk_at "z"
      rw [List.length_map, hF.len, List.take_length] at e2
      exact q _ _ k2 e2

/-! ### fractions as rational numbers -/
def rv (f : Int × Int) : Rat := (f.1 : Rat) / (f.2 : Rat)
theorem ratNe {q : Int} (h : q ≠ 0) : (q : Rat) ≠ 0 := fun z => h (by exact_mod_cast z)
theorem ratPos {q : Int} (h : 0 < q) : (0 : Rat) < (q : Rat) := by exact_mod_cast h
theorem div_eqR {a b c : Rat} (h : b ≠ 0) : a / b = c ↔ a = c * b := by
  constructor
  · rintro rfl
    rw [Rat.div_mul_cancel h]
  · rintro rfl
    rw [Rat.mul_div_cancel h]
theorem rv_lo {p q : Int} (h : q ≠ 0) : rv (lo p q) = (p : Rat) / (q : Rat) := by
  obtain ⟨a, b, e, h1, h2, h3, h4⟩ := lo_spec (p := p) h
  rw [e]
  have hb : (b : Rat) ≠ 0 := ratNe (by omega)
  have hg : (gI p q : Rat) ≠ 0 := ratNe (gI_ne h)
  have hq : (q : Rat) = (gI p q : Rat) * (b : Rat) := by exact_mod_cast h4
  have hp : (p : Rat) = (gI p q : Rat) * (a : Rat) := by exact_mod_cast h3
  show (a : Rat) / (b : Rat) = (p : Rat) / (q : Rat)
  rw [hp, hq]
  grind

/-- a fraction in lowest terms -/
def Low (f : Int × Int) : Prop := 1 ≤ f.2 ∧ Nat.gcd f.1.natAbs f.2.natAbs = 1
theorem lo_low {p q : Int} (h : q ≠ 0) : Low (lo p q) := ⟨lo_pos h, lo_cop h⟩
theorem Low.ne {f : Int × Int} (h : Low f) : f.2 ≠ 0 := by have := h.1; omega
theorem Low.pos {f : Int × Int} (h : Low f) : (0 : Rat) < (f.2 : Rat) := ratPos (by have := h.1; omega)
theorem rv_eqI {f g : Int × Int} (h1 : f.2 ≠ 0) (h2 : g.2 ≠ 0) : rv f = rv g ↔ f.1 * g.2 = g.1 * f.2 := by
  have a1 := ratNe h1
  have a2 := ratNe h2
  unfold rv
  constructor
  · intro h
    have h3 : (f.1 : Rat) * (g.2 : Rat) = (g.1 : Rat) * (f.2 : Rat) := by grind
    exact_mod_cast h3
  · intro h
    have h3 : (f.1 : Rat) * (g.2 : Rat) = (g.1 : Rat) * (f.2 : Rat) := by exact_mod_cast h
    grind
theorem low_eq {f g : Int × Int} (h1 : Low f) (h2 : Low g) (h : rv f = rv g) : f = g := by
  have h3 := (rv_eqI h1.ne h2.ne).mp h
  obtain ⟨a, b⟩ := f
  obtain ⟨c, d⟩ := g
  obtain ⟨hb, h1⟩ := h1
  obtain ⟨hd, h2⟩ := h2
  dsimp only at *
  have e1 : a.natAbs * d.natAbs = c.natAbs * b.natAbs := by rw [← Int.natAbs_mul, ← Int.natAbs_mul, h3]
  have d1 : b.natAbs ∣ d.natAbs := by
    have : b.natAbs ∣ a.natAbs * d.natAbs := ⟨c.natAbs, by rw [e1, Nat.mul_comm]⟩
    exact Nat.Coprime.dvd_of_dvd_mul_left (Nat.Coprime.symm h1) this
  have d2 : d.natAbs ∣ b.natAbs := by
    have : d.natAbs ∣ c.natAbs * b.natAbs := ⟨a.natAbs, by rw [← e1, Nat.mul_comm]⟩
    exact Nat.Coprime.dvd_of_dvd_mul_left (Nat.Coprime.symm h2) this
  have e2 := Nat.dvd_antisymm d1 d2
  have e3 : b = d := by omega
  subst e3
  have e4 : a = c := Int.eq_of_mul_eq_mul_right (by omega) h3
  rw [e4]
theorem rv_lt {f g : Int × Int} (h1 : 1 ≤ f.2) (h2 : 1 ≤ g.2) : f.1 * g.2 < g.1 * f.2 ↔ rv f < rv g := by
  have a1 : (0 : Rat) < (f.2 : Rat) := ratPos (by omega)
  have a2 : (0 : Rat) < (g.2 : Rat) := ratPos (by omega)
  have e1 : (f.1 : Rat) = rv f * (f.2 : Rat) := by unfold rv; rw [Rat.div_mul_cancel (ratNe (by omega))]
  have e2 : (g.1 : Rat) = rv g * (g.2 : Rat) := by unfold rv; rw [Rat.div_mul_cancel (ratNe (by omega))]
  have hp : (0 : Rat) < (f.2 : Rat) * (g.2 : Rat) := Rat.mul_pos a1 a2
  have k : f.1 * g.2 < g.1 * f.2 ↔ (f.1 : Rat) * (g.2 : Rat) < (g.1 : Rat) * (f.2 : Rat) := by
    constructor
    · intro h; exact_mod_cast h
    · intro h; exact_mod_cast h
  rw [k, e1, e2]
  have e3 : rv f * (f.2 : Rat) * (g.2 : Rat) = rv f * ((f.2 : Rat) * (g.2 : Rat)) := by grind
  have e4 : rv g * (g.2 : Rat) * (f.2 : Rat) = rv g * ((f.2 : Rat) * (g.2 : Rat)) := by grind
  rw [e3, e4]
  constructor
  · intro h
    by_cases z : rv f < rv g
    · exact z
    · by_cases z2 : rv f = rv g
      · rw [z2] at h; exact absurd h (Rat.lt_irrefl)
      · have z3 : rv g < rv f := by grind
        have := Rat.mul_lt_mul_of_pos_right z3 hp
        grind
  · intro h
    exact Rat.mul_lt_mul_of_pos_right h hp
theorem rv_pos {f : Int × Int} (h1 : 1 ≤ f.2) : 0 < f.1 ↔ 0 < rv f := by
  have := rv_lt (f := (0, 1)) (g := f) (by decide) h1
  have e : rv (0, 1) = 0 := by unfold rv; grind
  rw [e] at this
  rw [← this]
  show _ ↔ 0 * f.2 < f.1 * 1
  rw [Int.zero_mul, Int.mul_one]
theorem rv_int (n : Int) : rv (n, 1) = (n : Rat) := by unfold rv; grind

/-! ### the law's own fractions -/
def spLow (K : PySem.W.Frag) : Sp := fun vs H Q _ => ∃ p q : Int, vs = [.int p, .int q] ∧ 1 ≤ q ∧ q.natAbs < 2 ^ 1900 ∧ ∀ H' b, H b = none → Kp [] H H' → FrAt K H' b (lo p q) → Q (.ref b) H'
theorem abs_if (i : Int) : (if i < 0 then -i else i) = (i.natAbs : Int) := by
  split <;> omega
theorem euc_4000 {p : Nat × Nat} (h : p.2 < 2 ^ 1900) : (euc 4000 p).2 = 0 := by
  rw [show (4000 : Nat) = 2 * 1900 + 200 from rfl, euc_add, euc_zero 200 (euc_end 1900 p h)]
  exact euc_end 1900 p h
theorem gI_pos {p q : Int} (h : 1 ≤ q) : gI p q = (gN p q : Int) := by
  unfold gI
  rw [if_neg (by omega)]

theorem ok__law_low {P : Program} {w : World} {K : PySem.W.Frag} {mg : Str → Option Value} {base : Heap} (T : T P K mg) : FnOk P w K mg base CX0 1 T.a__law_low T.fd__law_low ["p", "q"] (spLow K) := by
  refine T.F__law_low.ok sc__law_low (fun vs H Q E h => ?_) (fun cdv A outer s H vs Q E hr h => ?_)
  · obtain ⟨p, q, rfl, _⟩ := h
    rfl
  · obtain ⟨p, q, rfl, hq, hb, q1⟩ := h
    have hg := gI_ne (p := p) (q := q) (by omega)
    have hdv : Z.CDivA p (gI p q) := Z.divA (b := 1900) hg (by rw [gI_abs]; exact Nat.lt_of_le_of_lt (gN_le (by omega)) hb) (by decide) (by decide)
    have hdv2 : Z.CDivA q (gI p q) := hdv
    have eq : q = (q.natAbs : Int) := by omega
    refine ⟨_, (pss_cons (ps_par (i := 2) (j := 3) rfl sc__law_low.nd rfl rfl (by decide) rfl rfl (pa_cons (pe_callB c_abs (by rfl) T.z_abs (by decide +kernel) (pa_cons (pv 0) pa_nil)) (pa_cons (pv 1) pa_nil)) (by rfl))
      (Z.pss_consJ (ps_for PassesOwn.never rfl (pi_range1 (by rfl) T.z_range (pa_cons pe_int pa_nil)) (pg_name (i := 4) sc__law_low.nd rfl (by first | exact Or.inl rfl | exact Or.inr rfl)) (pss_cons (ps_if (pt_cmpR op_eq (pv 3) pe_int (nomark _)) (pss_one ps_break) pss_nil)
      (pss_one (ps_par (i := 2) (j := 3) rfl sc__law_low.nd rfl rfl (by decide) rfl rfl (pa_cons (pv 3) (pa_cons (pe_op op_mod (pe_callTy c_int (by rfl) T.z_int (by decide +kernel) (pa_cons (pv 2) pa_nil)) (pv 3)) pa_nil)) (by rfl)))))
      (pss_one (ps_ret (pe_tup (pa_cons (pe_op Z.op_fdivA (pv 0) (pv 2)) (pa_cons (pe_op Z.op_fdivA (pv 1) (pv 2)) pa_nil))))))), ?_⟩
    walk_at "z0"
    walk_at "z"
    rw [abs_if]
    refine Z.seqJ (fun σ' H' => ∃ y z : Option V, σ' = [some (.int p), some (.int q), some (.int (gI p q)), y, z] ∧ H' = H) ?_ ?_
    · rintro σ' H' ⟨y, z, rfl, rfl⟩
      walk_at "z"
      refine Z.iC hdv ?_
      walk_at "z"
      refine Z.iC hdv2 ?_
      refine Z.tupK (fun b H1 nb k1 e1 => ?_)
      exact q1 _ _ nb k1 (tupT e1)
    · intro N jn
      walk_at "z"
      refine Z.forr 4000 ?_ (by decide) (fun i σ' H' => ∃ z : Option V, σ' = [some (.int p), some (.int q), some (.int ((euc i (p.natAbs, q.natAbs)).1 : Int)), some (.int ((euc i (p.natAbs, q.natAbs)).2 : Int)), z] ∧ H' = H) ?_ ?_ ?_
      · rfl
      · refine ⟨none, ?_, rfl⟩
        show _ = [some (V.int p), some (V.int q), some (V.int (p.natAbs : Int)), some (V.int (q.natAbs : Int)), none]
        rw [← eq]
      · rintro i σ' H' hi ⟨z, rfl, rfl⟩
        walk_at "z"
        refine Z.ite (fun h2 => ?_) (fun h2 => ?_)
        · walk_at "z"
          have h0 : (euc i (p.natAbs, q.natAbs)).2 = 0 := by omega
          have eg := euc_gcd i (p.natAbs, q.natAbs)
          rw [h0, Nat.gcd_zero_right] at eg
          have eg2 : (((euc i (p.natAbs, q.natAbs)).1 : Nat) : Int) = gI p q := by rw [eg]; exact (gI_pos hq).symm
          rw [eg2]
          exact jn _ _ ⟨_, _, rfl, rfl⟩
        · walk_at "z"
          refine Z.iC (by omega) ?_
          walk_at "z"
          have es : euc (i + 1) (p.natAbs, q.natAbs) = ((euc i (p.natAbs, q.natAbs)).2, (euc i (p.natAbs, q.natAbs)).1 % (euc i (p.natAbs, q.natAbs)).2) := by
            rw [euc_succ]
            exact if_neg (by omega)
          refine ⟨some (.int (i : Int)), ?_, rfl⟩
          rw [es]
          rfl
      · rintro σ' H' ⟨z, rfl, rfl⟩
        have h0 := euc_4000 (p := (p.natAbs, q.natAbs)) hb
        have eg := euc_gcd 4000 (p.natAbs, q.natAbs)
        rw [h0, Nat.gcd_zero_right] at eg
        have eg2 : (((euc 4000 (p.natAbs, q.natAbs)).1 : Nat) : Int) = gI p q := by rw [eg]; exact (gI_pos hq).symm
        walk_at "z"
        rw [eg2]
        exact jn _ _ ⟨_, _, rfl, rfl⟩

/-- two fractions in, a fraction out; smaller ones -/
def spG2 (K : PySem.W.Frag) (o : Fr → Fr → Fr) : Sp := fun vs H Q _ => ∃ (a b : Addr) (f g : Fr), vs = [.ref a, .ref b] ∧ FrAt K H a f ∧ FrAt K H b g ∧ 1 ≤ f.2 ∧ 1 ≤ g.2 ∧ (∃ n m, FrB n f ∧ FrB m g ∧ n + m ≤ 1900) ∧ ∀ H' c, H c = none → Kp [] H H' → FrAt K H' c (o f g) → Q (.ref c) H'
theorem ok__law_plus {P : Program} {w : World} {K : PySem.W.Frag} {mg : Str → Option Value} {base : Heap} (T : T P K mg) : FnOk P w K mg base CX0 2 T.a__law_plus T.fd__law_plus ["one", "other"] (spG2 K fplus) := by
  refine T.F__law_plus.ok sc__law_plus (fun vs H Q E h => ?_) (fun cdv A outer s H vs Q E hr h => ?_)
  · obtain ⟨a, b, f, g, rfl, _⟩ := h
    rfl
  · obtain ⟨a, b, f, g, rfl, ha, hb, hf, hg, ⟨n, m, Bf0, Bg0, hnm⟩, q⟩ := h
    have Bf : FrB 1900 f := Bf0.mono (by omega)
    have Bg : FrB 1900 g := Bg0.mono (by omega)
    refine ⟨_, (pss_one (ps_ret (pe_call (ok__law_low T) (hr.mono (by decide)) (by rfl) T.g__law_low T.F__law_low.kp T.b__law_low .nil pass0 (pa_cons (pe_op op_add (pe_op op_mulW (pe_ix ix_tup (pv 0) pe_int (fun _ _ => rfl)) (pe_ix ix_tup (pv 1) pe_int (fun _ _ => rfl))) (pe_op op_mulW (pe_ix ix_tup (pv 1) pe_int (fun _ _ => rfl)) (pe_ix ix_tup (pv 0) pe_int (fun _ _ => rfl)))) (pa_cons (pe_op op_mulW (pe_ix ix_tup (pv 0) pe_int (fun _ _ => rfl)) (pe_ix ix_tup (pv 1) pe_int (fun _ _ => rfl))) pa_nil))))), ?_⟩
    walk_at "z0"
    walk_at "z"
    refine Z.ixT ha (fr0 f) ?_
    walk_at "z"
    refine Z.ixT hb (fr1 g) ?_
    walk_at "z"
    refine Z.iC (mul_ok Bf.1 Bg.2) ?_
    walk_at "z"
    refine Z.ixT hb (fr0 g) ?_
    walk_at "z"
    refine Z.ixT ha (fr1 f) ?_
    walk_at "z"
    refine Z.iC (mul_ok Bg.1 Bf.2) ?_
    walk_at "z"
    refine Z.ixT ha (fr1 f) ?_
    walk_at "z"
    refine Z.ixT hb (fr1 g) ?_
    walk_at "z"
    refine Z.iC (mul_ok Bf.2 Bg.2) ?_
    walk_at "z"
    have h0 := Int.mul_pos (show 0 < f.2 by omega) (show 0 < g.2 by omega)
    exact ⟨_, _, rfl, by omega, up_B (mul_B Bf0.2 Bg0.2) hnm, fun H' c nc k e => q _ _ nc k e⟩
theorem ok__law_times {P : Program} {w : World} {K : PySem.W.Frag} {mg : Str → Option Value} {base : Heap} (T : T P K mg) : FnOk P w K mg base CX0 2 T.a__law_times T.fd__law_times ["one", "other"] (spG2 K ftimes) := by
  refine T.F__law_times.ok sc__law_times (fun vs H Q E h => ?_) (fun cdv A outer s H vs Q E hr h => ?_)
  · obtain ⟨a, b, f, g, rfl, _⟩ := h
    rfl
  · obtain ⟨a, b, f, g, rfl, ha, hb, hf, hg, ⟨n, m, Bf0, Bg0, hnm⟩, q⟩ := h
    have Bf : FrB 1900 f := Bf0.mono (by omega)
    have Bg : FrB 1900 g := Bg0.mono (by omega)
    refine ⟨_, (pss_one (ps_ret (pe_call (ok__law_low T) (hr.mono (by decide)) (by rfl) T.g__law_low T.F__law_low.kp T.b__law_low .nil pass0 (pa_cons (pe_op op_mulW (pe_ix ix_tup (pv 0) pe_int (fun _ _ => rfl)) (pe_ix ix_tup (pv 1) pe_int (fun _ _ => rfl))) (pa_cons (pe_op op_mulW (pe_ix ix_tup (pv 0) pe_int (fun _ _ => rfl)) (pe_ix ix_tup (pv 1) pe_int (fun _ _ => rfl))) pa_nil))))), ?_⟩
    walk_at "z0"
    walk_at "z"
    refine Z.ixT ha (fr0 f) ?_
    walk_at "z"
    refine Z.ixT hb (fr0 g) ?_
    walk_at "z"
    refine Z.iC (mul_ok Bf.1 Bg.1) ?_
    walk_at "z"
    refine Z.ixT ha (fr1 f) ?_
    walk_at "z"
    refine Z.ixT hb (fr1 g) ?_
    walk_at "z"
    refine Z.iC (mul_ok Bf.2 Bg.2) ?_
    walk_at "z"
    have h0 := Int.mul_pos (show 0 < f.2 by omega) (show 0 < g.2 by omega)
    exact ⟨_, _, rfl, by omega, up_B (mul_B Bf0.2 Bg0.2) hnm, fun H' c nc k e => q _ _ nc k e⟩

theorem ok__law_minus {P : Program} {w : World} {K : PySem.W.Frag} {mg : Str → Option Value} {base : Heap} (T : T P K mg) : FnOk P w K mg base CX0 2 T.a__law_minus T.fd__law_minus ["one", "other"] (spG2 K fminus) := by
  refine T.F__law_minus.ok sc__law_minus (fun vs H Q E h => ?_) (fun cdv A outer s H vs Q E hr h => ?_)
  · obtain ⟨a, b, f, g, rfl, _⟩ := h
    rfl
  · obtain ⟨a, b, f, g, rfl, ha, hb, hf, hg, ⟨n, m, Bf0, Bg0, hnm⟩, q⟩ := h
    have Bf : FrB 1900 f := Bf0.mono (by omega)
    have Bg : FrB 1900 g := Bg0.mono (by omega)
    refine ⟨_, (pss_one (ps_ret (pe_call (ok__law_low T) (hr.mono (by decide)) (by rfl) T.g__law_low T.F__law_low.kp T.b__law_low .nil pass0 (pa_cons (pe_op op_sub (pe_op op_mulW (pe_ix ix_tup (pv 0) pe_int (fun _ _ => rfl)) (pe_ix ix_tup (pv 1) pe_int (fun _ _ => rfl))) (pe_op op_mulW (pe_ix ix_tup (pv 1) pe_int (fun _ _ => rfl)) (pe_ix ix_tup (pv 0) pe_int (fun _ _ => rfl)))) (pa_cons (pe_op op_mulW (pe_ix ix_tup (pv 0) pe_int (fun _ _ => rfl)) (pe_ix ix_tup (pv 1) pe_int (fun _ _ => rfl))) pa_nil))))), ?_⟩
    walk_at "z0"
    walk_at "z"
    refine Z.ixT ha (fr0 f) ?_
    walk_at "z"
    refine Z.ixT hb (fr1 g) ?_
    walk_at "z"
    refine Z.iC (mul_ok Bf.1 Bg.2) ?_
    walk_at "z"
    refine Z.ixT hb (fr0 g) ?_
    walk_at "z"
    refine Z.ixT ha (fr1 f) ?_
    walk_at "z"
    refine Z.iC (mul_ok Bg.1 Bf.2) ?_
    walk_at "z"
    refine Z.ixT ha (fr1 f) ?_
    walk_at "z"
    refine Z.ixT hb (fr1 g) ?_
    walk_at "z"
    refine Z.iC (mul_ok Bf.2 Bg.2) ?_
    walk_at "z"
    have h0 := Int.mul_pos (show 0 < f.2 by omega) (show 0 < g.2 by omega)
    exact ⟨_, _, rfl, by omega, up_B (mul_B Bf0.2 Bg0.2) hnm, fun H' c nc k e => q _ _ nc k e⟩

theorem low_zero : Low (0, 1) := ⟨by decide, by decide⟩
theorem rv_zero : rv (0, 1) = 0 := by unfold rv; grind

/-! ### calculations with fractions, as rational numbers -/
theorem rv_fplus {f g : Fr} (h1 : f.2 ≠ 0) (h2 : g.2 ≠ 0) : rv (fplus f g) = rv f + rv g := by
  unfold fplus
  rw [rv_lo (Int.mul_ne_zero h1 h2)]
  have a1 := ratNe h1
  have a2 := ratNe h2
  have e1 : ((f.1 * g.2 + g.1 * f.2 : Int) : Rat) = (f.1 : Rat) * (g.2 : Rat) + (g.1 : Rat) * (f.2 : Rat) := by exact_mod_cast rfl
  have e2 : ((f.2 * g.2 : Int) : Rat) = (f.2 : Rat) * (g.2 : Rat) := by exact_mod_cast rfl
  rw [e1, e2]
  unfold rv
  grind
theorem rv_fminus {f g : Fr} (h1 : f.2 ≠ 0) (h2 : g.2 ≠ 0) : rv (fminus f g) = rv f - rv g := by
  unfold fminus
  rw [rv_lo (Int.mul_ne_zero h1 h2)]
  have a1 := ratNe h1
  have a2 := ratNe h2
  have e1 : ((f.1 * g.2 - g.1 * f.2 : Int) : Rat) = (f.1 : Rat) * (g.2 : Rat) - (g.1 : Rat) * (f.2 : Rat) := by exact_mod_cast rfl
  have e2 : ((f.2 * g.2 : Int) : Rat) = (f.2 : Rat) * (g.2 : Rat) := by exact_mod_cast rfl
  rw [e1, e2]
  unfold rv
  grind
theorem rv_ftimes {f g : Fr} (h1 : f.2 ≠ 0) (h2 : g.2 ≠ 0) : rv (ftimes f g) = rv f * rv g := by
  unfold ftimes
  rw [rv_lo (Int.mul_ne_zero h1 h2)]
  have a1 := ratNe h1
  have a2 := ratNe h2
  have e1 : ((f.1 * g.1 : Int) : Rat) = (f.1 : Rat) * (g.1 : Rat) := by exact_mod_cast rfl
  have e2 : ((f.2 * g.2 : Int) : Rat) = (f.2 : Rat) * (g.2 : Rat) := by exact_mod_cast rfl
  rw [e1, e2]
  unfold rv
  grind
theorem fless_iff {f g : Fr} (h1 : 1 ≤ f.2) (h2 : 1 ≤ g.2) : fless f g = decide (rv f < rv g) := by
  unfold fless
  rw [decide_eq_decide]
  exact rv_lt h1 h2
theorem fplus_low {f g : Fr} (h1 : f.2 ≠ 0) (h2 : g.2 ≠ 0) : Low (fplus f g) := lo_low (Int.mul_ne_zero h1 h2)
theorem rv_fsum : ∀ {fs : List Fr} {t : Fr}, Low t → (∀ f ∈ fs, f.2 ≠ 0) → rv (fsum t fs) = rv t + (fs.map rv).sum ∧ Low (fsum t fs)
  | [], t, h, _ => ⟨by show rv t = rv t + 0; grind, h⟩
  | f :: r, t, h, hf => by
    have h1 := hf f (by simp)
    have ih := rv_fsum (fs := r) (t := fplus t f) (fplus_low h.ne h1) fun g hg => hf g (by simp [hg])
    refine ⟨?_, ih.2⟩
    show rv (fsum (fplus t f) r) = _
    rw [ih.1, rv_fplus h.ne h1, List.map_cons, List.sum_cons]
    grind
theorem eqv_fr (f g : Fr) : PyData.eqv (frD f) (frD g) = decide (f = g) := by
  obtain ⟨a, b⟩ := f
  obtain ⟨c, d⟩ := g
  simp [frD, PyData.eqv, PyData.eqvAll, Prod.ext_iff]
  rfl
theorem eqF {K : PySem.W.Frag} {H : Hp} {Q : VK} {a b : Addr} {f g : Fr} (h1 : FrAt K H a f) (h2 : FrAt K H b g) (q : Q (.bl (decide (f = g))) H) : rEqD K (.ref a) (.ref b) H Q :=
  ⟨_, _, dpF h1, dpF h2, frD_sh _, frD_sh _, by rw [eqv_fr]; exact q⟩
theorem neF {K : PySem.W.Frag} {H : Hp} {Q : VK} {a b : Addr} {f g : Fr} (h1 : FrAt K H a f) (h2 : FrAt K H b g) (q : Q (.bl (!decide (f = g))) H) : rNeD K (.ref a) (.ref b) H Q :=
  ⟨_, _, dpF h1, dpF h2, frD_sh _, frD_sh _, by rw [eqv_fr]; exact q⟩

def spLawSum (K : PySem.W.Frag) (m k : Nat) : Sp := fun vs H Q _ => ∃ (a : Addr) (as : List Addr) (fs : List Fr), vs = [.ref a] ∧ SqL K H a (as.map V.ref) ∧ FrsAt K H as fs ∧ (∀ f ∈ fs, 1 ≤ f.2 ∧ FrB m f) ∧ fs.length ≤ k ∧ ∀ H' c, Kp [] H H' → FrAt K H' c (fsum (0, 1) fs) → Q (.ref c) H'
theorem ok__law_sum_any {P : Program} {w : World} {K : PySem.W.Frag} {mg : Str → Option Value} {base : Heap} (T : T P K mg) (m k : Nat) (hk : k * (m + 1) ≤ 1900) : FnOk P w K mg base CX0 3 T.a__law_sum T.fd__law_sum ["rows"] (spLawSum K m k) := by
  refine T.F__law_sum.ok sc__law_sum (fun vs H Q E h => ?_) (fun cdv A outer s H vs Q E hr h => ?_)
  · obtain ⟨a, as, fs, rfl, _⟩ := h
    rfl
  · obtain ⟨a, as, fs, rfl, hS, hF, hB, hl, q⟩ := h
    refine ⟨_, (pss_cons (ps_set (i := 1) sc__law_sum.nd rfl (by first | exact Or.inl rfl | exact Or.inr rfl) (pe_tup (pa_cons pe_int (pa_cons pe_int pa_nil))))
      (pss_cons (ps_for PassesOwn.never rfl (pi_list (pv 0)) (pg_name (i := 2) sc__law_sum.nd rfl (by first | exact Or.inl rfl | exact Or.inr rfl)) (pss_one (ps_set (i := 1) sc__law_sum.nd rfl (by first | exact Or.inl rfl | exact Or.inr rfl) (pe_call (ok__law_plus T) (hr.mono (by decide)) (by rfl) T.g__law_plus T.F__law_plus.kp T.b__law_plus .nil pass0 (pa_cons (pv 1) (pa_cons (pv 2) pa_nil))))))
      (pss_one (ps_ret (pv 1))))), ?_⟩
    walk_at "z0"
    walk_at "z"
    refine Z.tupK (fun b H1 nb k1 e1 => ?_)
    walk_at "z"
    refine Z.forl (as.map V.ref) (k1.seq nin0 hS) (fun i σ' H' => ∃ c y, σ' = [some (.ref a), some (.ref c), y] ∧ Kp [] H H' ∧ FrAt K H' c (fsum (0, 1) (fs.take i))) ?_ ?_ ?_ ?_
    · exact ⟨b, none, rfl, k1, tupT e1⟩
    · rintro i σ' H' _ ⟨c, y, rfl, k2, _⟩
      exact k2.seq nin0 hS
    · rintro i v σ' H' hv ⟨c, y, rfl, k2, e2⟩
      obtain ⟨x, f, rfl, hf, hx⟩ := (hF.kp0 k2).get hv
      have hfB := hB f (List.mem_of_getElem? hf)
      have hB1 := fsum_B (fs := fs.take i) (t := (0, 1)) (n := 1) (m := m) ⟨by decide, by decide⟩ (by decide) fun g hg => ⟨(hB g (List.mem_of_mem_take hg)).2, by have := (hB g (List.mem_of_mem_take hg)).1; omega⟩
      have hlow := rv_fsum (fs := fs.take i) low_zero fun g hg => by have := (hB g (List.mem_of_mem_take hg)).1; omega
      have hi : i < fs.length := (List.getElem?_eq_some_iff.mp hf).1
      have hle : 1 + (fs.take i).length * (m + 1) + m ≤ 1900 := by
        have h1 : (fs.take i).length + 1 ≤ k := by rw [List.length_take]; omega
        have h2 := Nat.mul_le_mul_right (m + 1) h1
        rw [Nat.add_mul, Nat.one_mul] at h2
        omega
      walk_at "z"
      refine ⟨c, x, _, f, rfl, e2, hx, hlow.2.1, hfB.1, ⟨_, _, hB1.1, hfB.2, hle⟩, fun H3 d nd k3 e3 => ?_⟩
      walk_at "z"
      exact ⟨d, _, rfl, k2.trans k3, by rw [fsum_take hf]; exact e3⟩
    · rintro σ' H' ⟨c, y, rfl, k2, e2⟩
      walk_at "z"
      rw [List.length_map, hF.len, List.take_length] at e2
      exact q _ _ k2 e2

/-- a promise for each of many -/
def spEx {ι : Type} (p : ι → Prop) (sp : ι → Sp) : Sp := fun vs H Q E => ∃ i, p i ∧ sp i vs H Q E
theorem fnEx {ι : Type} {P : Program} {w : World} {K : PySem.W.Frag} {mg : Str → Option Value} {base : Heap} {CX : CXT} {k : Nat} {f : Addr} {fd : FuncData} {ps : List Str} {p : ι → Prop} {sp : ι → Sp} (F : ∀ i, p i → FnOk P w K mg base CX k f fd ps (sp i)) : FnOk P w K mg base CX k f fd ps (spEx p sp) :=
  ⟨fun vs H Q E ⟨i, hi, q⟩ => (F i hi).len vs H Q E q, fun A outer s H args us vs Q E hr he hb hv ⟨i, hi, hs⟩ => (F i hi).run A outer s H args us vs Q E hr he hb hv hs⟩

/-! ### samphire.estimates, for weighted samples -/
def amt (kvs : List (Key × V)) (k : Str) : Int := match valV kvs (.inr k) with | some (.int n) => n | _ => 0
def AmtOk (kvs : List (Key × V)) : Prop := ∀ k v, valV kvs (.inr k) = some v → ∃ n : Int, v = .int n ∧ n.natAbs ≤ 10
theorem amt_le {kvs : List (Key × V)} (h : AmtOk kvs) (k : Str) : (amt kvs k).natAbs ≤ 10 := by
  unfold amt
  cases e : valV kvs (.inr k) with
  | none => decide
  | some v =>
    obtain ⟨n, rfl, hn⟩ := h k v e
    exact hn
def spAmountOf (K : PySem.W.Frag) : Sp := fun vs H Q _ => ∃ (d t : Addr) (kvs : List (Key × V)) (r : Row), vs = [.ref d, .ref t] ∧ H d = some (.dK kvs) ∧ AmtOk kvs ∧ RowAt H t r ∧ Q (.int (amt kvs r.k)) H
theorem getD_amt {kvs : List (Key × V)} (h : AmtOk kvs) (k : Str) : (valV kvs (.inr k)).getD (.int 0) = .int (amt kvs k) := by
  unfold amt
  cases e : valV kvs (.inr k) with
  | none => rfl
  | some v =>
    obtain ⟨n, rfl, hn⟩ := h k v e
    rfl
theorem ok_amount_of {P : Program} {w : World} {K : PySem.W.Frag} {mg : Str → Option Value} {base : Heap} (T : T P K mg) : FnOk P w K mg base CX0 1 T.a_amount_of T.fd_amount_of ["amounts", "item"] (spAmountOf K) := by
  refine T.F_amount_of.ok sc_amount_of (fun vs H Q E h => ?_) (fun cdv A outer s H vs Q E hr h => ?_)
  · obtain ⟨d, t, kvs, r, rfl, _⟩ := h
    rfl
  · obtain ⟨d, t, kvs, r, rfl, hd, ho, ht, q⟩ := h
    refine ⟨_, (pss_one (ps_ret (pe_dget2 (Nat.lt_of_le_of_lt (Nat.add_le_add_left (by decide) _) (hu_of hr)) (pv 0) (pe_ix ix_tup (pv 1) pe_int (fun _ _ => rfl)) pe_int ⟨by rfl, by rfl, by rfl, by rfl⟩))), ?_⟩
    walk_at "z0"
    walk_at "z"
    refine ⟨d, rfl, .inl ⟨kvs, .inl hd⟩, ?_⟩
    walk_at "z"
    refine RowAt.k0 ht ?_
    walk_at "z"
    refine ⟨_, DGet.k (k := .inr r.k) hd, ?_⟩
    rw [getD_amt ho]
    exact q
def amts (kvs : List (Key × V)) (ps : List (Addr × Row)) : List Int := ps.map fun x => amt kvs x.2.k
theorem amts_B {kvs : List (Key × V)} (h : AmtOk kvs) {ps : List (Addr × Row)} : ∀ z ∈ amts kvs ps, z.natAbs ≤ 10 := fun z hz => by
  obtain ⟨x, _, rfl⟩ := List.mem_map.mp hz
  exact amt_le h _
theorem sum_absI {c : Nat} : ∀ {l : List Int}, (∀ x ∈ l, x.natAbs ≤ c) → l.sum.natAbs ≤ c * l.length
  | [], _ => by simp
  | a :: r, h => by
    have h1 := h a (by simp)
    have h2 := sum_absI (c := c) (l := r) fun z hz => h z (by simp [hz])
    rw [List.sum_cons, List.length_cons, Nat.mul_add]
    omega
def spTrueSum (K : PySem.W.Frag) : Sp := fun vs H Q _ => ∃ (l d : Addr) (ps : List (Addr × Row)) (kvs : List (Key × V)), vs = [.ref l, .ref d] ∧ H l = some (.lst (refs ps)) ∧ RowsAt H ps ∧ ps.length ≤ 1000 ∧ H d = some (.dK kvs) ∧ AmtOk kvs ∧ ∀ H', Kp [] H H' → Q (.int (amts kvs ps).sum) H'
theorem ok_true_sum {P : Program} {w : World} {K : PySem.W.Frag} {mg : Str → Option Value} {base : Heap} (T : T P K mg) : FnOk P w K mg base CX0 2 T.a_true_sum T.fd_true_sum ["things", "amounts"] (spTrueSum K) := by
  refine T.F_true_sum.ok sc_true_sum (fun vs H Q E h => ?_) (fun cdv A outer s H vs Q E hr h => ?_)
  · obtain ⟨l, d, ps, kvs, rfl, _⟩ := h
    rfl
  · obtain ⟨l, d, ps, kvs, rfl, hl, hps, hn, hd, ho, q⟩ := h
    refine ⟨_, (pss_one (ps_ret (pe_callB (cr_sum rfl) (by rfl) T.z_sum (by decide +kernel) (pa_cons (pe_lc (own := [("item", 2)]) (g := gName 2) rfl sc_true_sum.nd (pi_list (pv 0)) (blkOk_by (own := [("item", 2)]) (N := N_true_sum) (sc := defScope s_true_sum) (by decide +kernel)) (fun _ _ _ _ _ => (pg_name (i := 2) sc_true_sum.nd rfl (by first | exact Or.inl rfl | exact Or.inr rfl))) (fun _ _ _ _ _ => pts_nil) (fun _ _ _ _ _ => (pe_call (ok_amount_of T) (hr.mono (by decide)) (by rfl) T.g_amount_of T.F_amount_of.kp T.b_amount_of .nil pass0 (pa_cons (pv 1) (pa_cons (pv 2) pa_nil))))) pa_nil)))), ?_⟩
    walk_at "z0"
    walk_at "z"
    refine Z.lcl (refs ps) (lstL hl) (fun D i H' => Kp [] H H' ∧ H' D = some (.lst ((amts kvs (ps.take i)).map V.int))) ?_ ?_ ?_ ?_
    · intro D H1 nD k1 e1
      exact ⟨k1, e1⟩
    · rintro D i H1 nD hi ⟨k1, e1⟩
      exact lstL (k1.get nin0 hl)
    · rintro D i v H1 nD hv ⟨k1, e1⟩
      obtain ⟨x, hx, rfl⟩ := refs_of hv
      have hi : i < ps.length := (List.getElem?_eq_some_iff.mp hx).1
      dsimp only [wipe, List.set]
      walk_at "z"
      refine ⟨rfl, ?_⟩
      walk_at "z"
      refine ⟨d, x.1, kvs, x.2, rfl, k1.get nin0 hd, ho, (hps.kp0 k1) x (List.mem_of_getElem? hx), ?_⟩
      refine ⟨_, e1, Z.szl (m := 1000) (by unfold amts; rw [List.length_map, List.length_map, List.length_take]; omega), k1.mut nD rfl, ?_⟩
      rw [upd_same, List.take_add_one, hx]
      unfold amts
      rw [List.map_append, List.map_append]; rfl
    · rintro D H1 nD ⟨k1, e1⟩
      rw [refs_len, List.take_length] at e1
      walk_at "z"
      refine Z.sumL (lstL e1) ?_
      exact q H1 k1
theorem ok_sum_of {P : Program} {w : World} {K : PySem.W.Frag} {mg : Str → Option Value} {base : Heap} (T : T P K mg) : FnOk P w K mg base CX0 5 T.a_sum_of T.fd_sum_of ["fractions"] (spEx (fun i : Nat × Nat => i.1 ≤ 3900 ∧ 1 + i.2 * (i.1 + 1) ≤ 3900) fun i => spSumOf K i.1 i.2) := fnEx fun i h => ok_sum_of_any T i.1 i.2 h.1 h.2
theorem rv_fover {f g : Fr} (h1 : f.2 ≠ 0) (h2 : g.2 ≠ 0) (h3 : g.1 ≠ 0) : rv (fover f g) = rv f / rv g := by
  unfold fover
  rw [rv_lo (Int.mul_ne_zero h1 h3)]
  have a1 := ratNe h1
  have a2 := ratNe h2
  have a3 := ratNe h3
  have e1 : ((f.1 * g.2 : Int) : Rat) = (f.1 : Rat) * (g.2 : Rat) := by exact_mod_cast rfl
  have e2 : ((f.2 * g.1 : Int) : Rat) = (f.2 : Rat) * (g.1 : Rat) := by exact_mod_cast rfl
  rw [e1, e2]
  unfold rv
  grind
def meanR (ws : List Rat) : Rat := ws.sum / (ws.length : Rat)
def spMean (K : PySem.W.Frag) : Sp := fun vs H Q _ => ∃ (l : Addr) (as : List Addr) (fs : List Fr), vs = [.ref l] ∧ SqL K H l (as.map V.ref) ∧ FrsAt K H as fs ∧ (∀ f ∈ fs, 1 ≤ f.2 ∧ FrB 30 f) ∧ 1 ≤ fs.length ∧ fs.length ≤ 3 ∧ ∀ H' c g, Kp [] H H' → FrAt K H' c g → Low g → FrB 100 g → rv g = meanR (fs.map rv) → Q (.ref c) H'
theorem ok_mean_of {P : Program} {w : World} {K : PySem.W.Frag} {mg : Str → Option Value} {base : Heap} (T : T P K mg) : FnOk P w K mg base CX0 6 T.a_mean_of T.fd_mean_of ["numbers"] (spMean K) := by
  refine T.F_mean_of.ok sc_mean_of (fun vs H Q E h => ?_) (fun cdv A outer s H vs Q E hr h => ?_)
  · obtain ⟨l, as, fs, rfl, _⟩ := h
    rfl
  · obtain ⟨l, as, fs, rfl, hS, hF, hB, h1, h6, q⟩ := h
    refine ⟨_, (pss_one (ps_ret (pe_call (ok_over T) (hr.mono (by decide)) (by rfl) T.g_over T.F_over.kp T.b_over .nil passL (pa_cons (pe_call (ok_sum_of T) (hr.mono (by decide)) (by rfl) T.g_sum_of T.F_sum_of.kp T.b_sum_of .nil pass0 (pa_cons (pv 0) pa_nil)) (pa_cons (pe_tup (pa_cons (pe_callB c_len (by rfl) T.z_len (by decide +kernel) (pa_cons (pv 0) pa_nil)) (pa_cons pe_int pa_nil))) pa_nil))))), ?_⟩
    have hs := rv_fsum (fs := fs) low_zero fun f hf => by have := (hB f hf).1; omega
    have hsB := fsum_B (fs := fs) (t := (0, 1)) (n := 1) (m := 30) ⟨by decide, by decide⟩ (by decide) fun f hf => ⟨(hB f hf).2, by have := (hB f hf).1; omega⟩
    have hsB2 : FrB 94 (fsum (0, 1) fs) := hsB.1.mono (by omega)
    walk_at "z0"
    walk_at "z"
    refine ⟨(30, 3), ⟨by decide, by decide⟩, l, as, fs, rfl, hS, hF, fun f hf => ⟨(hB f hf).2, by have := (hB f hf).1; omega⟩, h6, fun H1 c1 k1 e1 => ?_⟩
    walk_at "z"
    refine Z.lenL (k1.seq nin0 hS) ?_
    rw [List.length_map, hF.len]
    walk_at "z"
    refine Z.tupK (fun t H2 nt k2 e2 => ?_)
    walk_at "z"
    have hg0 : ((fs.length : Int), (1 : Int)).1 ≠ 0 := by show (fs.length : Int) ≠ 0; omega
    have hgB : FrB 3 ((fs.length : Int), 1) := ⟨by show fs.length < 8; omega, by show 1 < 8; decide⟩
    refine ⟨c1, t, _, ((fs.length : Int), 1), rfl, e1.kp0 k2, tupT e2, hsB.2, hsB2.mono (by decide), hgB.mono (by decide), fun z => absurd z hg0, fun _ H3 c3 n3 k3 e3 => ?_⟩
    have hne := Int.mul_ne_zero hs.2.ne hg0
    refine q H3 c3 _ ((k1.trans k2).trans k3) e3 (lo_low hne) (lo_B hne (up_B (mul_B hsB2.1 hgB.2) (by decide)) (up_B (mul_B hsB2.2 hgB.1) (by decide))) ?_
    rw [rv_fover hs.2.ne (by show (1 : Int) ≠ 0; decide) hg0, hs.1, rv_zero, rv_int]
    unfold meanR
    rw [List.length_map]
    have e10 : (((fs.length : Nat) : Int) : Rat) = (fs.length : Rat) := by exact_mod_cast rfl
    rw [e10]
    grind
def sqR (ws : List Rat) : Rat := (ws.map fun w => (w - meanR ws) * (w - meanR ws)).sum
def spSq (K : PySem.W.Frag) : Sp := fun vs H Q _ => ∃ (l : Addr) (as : List Addr) (fs : List Fr), vs = [.ref l] ∧ SqL K H l (as.map V.ref) ∧ FrsAt K H as fs ∧ (∀ f ∈ fs, 1 ≤ f.2 ∧ FrB 30 f) ∧ 1 ≤ fs.length ∧ fs.length ≤ 3 ∧ ∀ H' c g, Kp [] H H' → FrAt K H' c g → Low g → FrB 800 g → rv g = sqR (fs.map rv) → Q (.ref c) H'
theorem ok_squares_around {P : Program} {w : World} {K : PySem.W.Frag} {mg : Str → Option Value} {base : Heap} (T : T P K mg) : FnOk P w K mg base CX0 7 T.a_squares_around T.fd_squares_around ["numbers"] (spSq K) := by
  refine T.F_squares_around.ok sc_squares_around (fun vs H Q E h => ?_) (fun cdv A outer s H vs Q E hr h => ?_)
  · obtain ⟨l, as, fs, rfl, _⟩ := h
    rfl
  · obtain ⟨l, as, fs, rfl, hS, hF, hB, h1, h6, q⟩ := h
    refine ⟨_, (pss_cons (ps_set (i := 1) sc_squares_around.nd rfl (by first | exact Or.inl rfl | exact Or.inr rfl) (pe_call (ok_mean_of T) (hr.mono (by decide)) (by rfl) T.g_mean_of T.F_mean_of.kp T.b_mean_of .nil pass0 (pa_cons (pv 0) pa_nil)))
      (pss_cons (ps_setLc (i := 2) (own := [("number", 3)]) (g := gName 3) rfl sc_squares_around.nd rfl rfl (sw_true rfl rfl rfl (by decide +kernel)) (pi_list (pv 0)) (blkOk_by (own := [("number", 3)]) (N := N_squares_around) (sc := defScope s_squares_around) (by decide +kernel)) (fun _ _ _ _ _ => (pg_name (i := 3) sc_squares_around.nd rfl (by first | exact Or.inl rfl | exact Or.inr rfl))) (fun _ _ _ _ _ => pts_nil) (fun _ _ _ _ _ => (pe_call (ok_minus T) (hr.mono (by decide)) (by rfl) T.g_minus T.F_minus.kp T.b_minus .nil pass0 (pa_cons (pv 3) (pa_cons (pv 1) pa_nil)))))
      (pss_one (ps_ret (pe_call (ok_sum_of T) (hr.mono (by decide)) (by rfl) T.g_sum_of T.F_sum_of.kp T.b_sum_of .nil pass0 (pa_cons (pe_lc (own := [("number", 3)]) (g := gName 3) rfl sc_squares_around.nd (pi_list (pv 2)) (blkOk_by (own := [("number", 3)]) (N := N_squares_around) (sc := defScope s_squares_around) (by decide +kernel)) (fun _ _ _ _ _ => (pg_name (i := 3) sc_squares_around.nd rfl (by first | exact Or.inl rfl | exact Or.inr rfl))) (fun _ _ _ _ _ => pts_nil) (fun _ _ _ _ _ => (pe_call (ok_times T) (hr.mono (by decide)) (by rfl) T.g_times T.F_times.kp T.b_times .nil pass0 (pa_cons (pv 3) (pa_cons (pv 3) pa_nil))))) pa_nil)))))), ?_⟩
    walk_at "z0"
    walk_at "z"
    refine ⟨l, as, fs, rfl, hS, hF, hB, h1, h6, fun H1 M g k1 e1 hgL hgB hg => ?_⟩
    have hS1 := k1.seq nin0 hS
    have F1 := hF.kp0 k1
    have hdB : ∀ f ∈ fs, FrB 131 (fminus f g) ∧ 1 ≤ (fminus f g).2 := fun f hf => by
      have h2 := hB f hf
      exact ⟨fminus_B (n := 30) (m := 100) h2.2 hgB (by omega) hgL.ne, lo_pos (Int.mul_ne_zero (by omega) hgL.ne)⟩
    walk_at "z"
    refine Z.lcl (as.map V.ref) hS1 (fun D i H' => ∃ bs : List Addr, Kp [] H1 H' ∧ H' D = some (.lst (bs.map V.ref)) ∧ FrsAt K H' bs ((fs.take i).map fun f => fminus f g)) ?_ ?_ ?_ ?_
    · intro D H2 nD k2 e2
      exact ⟨[], k2, e2, .nil⟩
    · rintro D i H2 nD hi ⟨bs, k2, e2, F2⟩
      exact k2.seq nin0 hS1
    · rintro D i v H2 nD hv ⟨bs, k2, e2, F2⟩
      obtain ⟨x, f, rfl, hf, hx⟩ := (F1.kp0 k2).get hv
      have hi : i < fs.length := (List.getElem?_eq_some_iff.mp hf).1
      have hfB := hB f (List.mem_of_getElem? hf)
      dsimp only [wipe, List.set]
      walk_at "z"
      refine ⟨rfl, ?_⟩
      walk_at "z"
      refine ⟨x, M, f, g, rfl, hx, e1.kp0 k2, by omega, hgL.ne, hfB.2.mono (by decide), hgB.mono (by decide), fun H3 c3 n3 k3 e3 => ?_⟩
      have e3D := k3.get nin0 e2
      refine ⟨_, e3D, Z.szl (m := 1000) (by rw [List.length_map, F2.len, List.length_map, List.length_take]; omega), bs ++ [c3], (k2.trans k3).mut nD rfl, by rw [upd_same, List.map_append]; rfl, ?_⟩
      rw [List.take_add_one, hf, List.map_append]
      exact ((F2.kp0 k3).snoc e3).kpl (Kp.put (by simp)) e3D
    · rintro D H2 nD ⟨bs, k2, e2, F2⟩
      rw [List.length_map, F1.len, List.take_length] at F2
      walk_at "z"
      refine Z.lcl (bs.map V.ref) (lstL e2) (fun D2 i H' => ∃ cs : List Addr, Kp [] H2 H' ∧ H' D2 = some (.lst (cs.map V.ref)) ∧ FrsAt K H' cs ((fs.take i).map fun f => ftimes (fminus f g) (fminus f g))) ?_ ?_ ?_ ?_
      · intro D2 H3 nD2 k3 e3
        exact ⟨[], k3, e3, .nil⟩
      · rintro D2 i H3 nD2 hi ⟨cs, k3, e3, F3⟩
        exact lstL (k3.get nin0 e2)
      · rintro D2 i v H3 nD2 hv ⟨cs, k3, e3, F3⟩
        obtain ⟨x, d, rfl, hd, hx⟩ := (F2.kp0 k3).get hv
        rw [List.getElem?_map] at hd
        cases hy : fs[i]? with
        | none => rw [hy] at hd; cases hd
        | some f =>
          rw [hy] at hd
          obtain rfl := Option.some.inj hd
          have hi : i < fs.length := (List.getElem?_eq_some_iff.mp hy).1
          have hdb := hdB f (List.mem_of_getElem? hy)
          dsimp only [wipe, List.set]
          walk_at "z"
          refine ⟨rfl, ?_⟩
          walk_at "z"
          refine ⟨x, x, fminus f g, fminus f g, rfl, hx, hx, by omega, by omega, hdb.1.mono (by decide), hdb.1.mono (by decide), fun H4 c4 n4 k4 e4 => ?_⟩
          have e4D := k4.get nin0 e3
          refine ⟨_, e4D, Z.szl (m := 1000) (by rw [List.length_map, F3.len, List.length_map, List.length_take]; omega), cs ++ [c4], (k3.trans k4).mut nD2 rfl, by rw [upd_same, List.map_append]; rfl, ?_⟩
          rw [List.take_add_one, hy, List.map_append]
          exact ((F3.kp0 k4).snoc e4).kpl (Kp.put (by simp)) e4D
      · rintro D2 H3 nD2 ⟨cs, k3, e3, F3⟩
        rw [List.length_map, F2.len, List.length_map, List.take_length] at F3
        have hsB : ∀ z ∈ fs.map (fun f => ftimes (fminus f g) (fminus f g)), FrB 262 z ∧ z.2 ≠ 0 := fun z hz => by
          obtain ⟨f, hf, rfl⟩ := List.mem_map.mp hz
          have hdb := hdB f hf
          have h2 := lo_pos (p := (fminus f g).1 * (fminus f g).1) (Int.mul_ne_zero (show (fminus f g).2 ≠ 0 by omega) (show (fminus f g).2 ≠ 0 by omega))
          exact ⟨ftimes_B (n := 131) (m := 131) hdb.1 hdb.1 (by omega) (by omega), by show (lo _ _).2 ≠ 0; omega⟩
        walk_at "z"
        refine ⟨(262, 3), ⟨by decide, by decide⟩, D2, cs, _, rfl, lstL e3, F3, hsB, by rw [List.length_map]; exact h6, fun H4 c4 k4 e4 => ?_⟩
        have hs := rv_fsum (fs := fs.map fun f => ftimes (fminus f g) (fminus f g)) low_zero fun f hf => (hsB f hf).2
        have hsum := fsum_B (fs := fs.map fun f => ftimes (fminus f g) (fminus f g)) (t := (0, 1)) (n := 1) (m := 262) ⟨by decide, by decide⟩ (by decide) hsB
        refine q H4 c4 _ (((k1.trans k2).trans k3).trans k4) e4 hs.2 (hsum.1.mono (by rw [List.length_map]; omega)) ?_
        rw [hs.1, rv_zero]
        unfold sqR
        rw [List.map_map, List.map_map]
        have e9 : fs.map (rv ∘ fun f => ftimes (fminus f g) (fminus f g)) = fs.map ((fun w => (w - meanR (fs.map rv)) * (w - meanR (fs.map rv))) ∘ rv) := List.map_congr_left fun f hf => by
          have hdb := hdB f hf
          have h2 := hB f hf
          simp only [Function.comp_apply]
          rw [rv_ftimes (by omega) (by omega), rv_fminus (by omega) hgL.ne, hg]
        rw [e9]
        grind

/-! ### weighted samples as objects -/
def wf (size total : Int) (k : Addr) : List (Str × V) := [("size", .int size), ("total", .int total), ("kept", .ref k)]
theorem wf_mk (size total : Int) (k : Addr) : putF "kept" (.ref k) (putF "total" (.int total) (putF "size" (.int size) [])) = wf size total k := by
  have n1 : ¬ (("size" : Str) = "total") := by decide +kernel
  have n2 : ¬ (("size" : Str) = "kept") := by decide +kernel
  have n3 : ¬ (("total" : Str) = "kept") := by decide +kernel
  have e1 : putF "total" (.int total) (putF "size" (.int size) []) = [(("size" : Str), V.int size), (("total" : Str), V.int total)] := by
    show (if ("size" : Str) = "total" then _ else (("size" : Str), V.int size) :: [(("total" : Str), V.int total)]) = _
    rw [if_neg n1]
  rw [e1]
  show (if ("size" : Str) = "kept" then _ else (("size" : Str), V.int size) :: (if ("total" : Str) = "kept" then _ else (("total" : Str), V.int total) :: [(("kept" : Str), V.ref k)])) = _
  rw [if_neg n2, if_neg n3]; rfl
theorem wf_total (size total : Int) (k : Addr) : (wf size total k).lookup ("total" : Str) = some (.int total) := rfl
theorem wf_kept (size total : Int) (k : Addr) : (wf size total k).lookup ("kept" : Str) = some (.ref k) := rfl
def WtAt (C : Addr) (H : Hp) (x k : Addr) (size total : Int) (ps : List (Addr × Row)) : Prop := (∃ dx, H x = some (.ins C dx (wf size total k))) ∧ H k = some (.lst (refs ps))
theorem WtAt.kp0 {C : Addr} {H H' : Hp} {x k : Addr} {size total : Int} {ps : List (Addr × Row)} (h : WtAt C H x k size total ps) (kk : Kp [] H H') : WtAt C H' x k size total ps := let ⟨⟨dx, h1⟩, h2⟩ := h; ⟨⟨dx, kk.get nin0 h1⟩, kk.get nin0 h2⟩
def spWInit (K : PySem.W.Frag) (C : Addr) : Sp := fun vs H Q _ => ∃ (x b dx : Addr) (size total : Int) (ps : List (Addr × Row)), vs = [.ref x, .int size, .int total, .ref b] ∧ H x = some (.ins C dx []) ∧ H b = some (.lst (refs ps)) ∧ ∀ H' k, H k = none → Kp [x] H H' → WtAt C H' x k size total ps → Q .non H'
theorem ok_Weighted_init {P : Program} {w : World} {K : PySem.W.Frag} {mg : Str → Option Value} {base : Heap} (T : T P K mg) : FnOk P w K mg base CX0 1 T.a_Weighted_init T.fd_Weighted_init ["self", "size", "total", "kept"] (spWInit K T.C_Weighted) := by
  refine T.F_Weighted_init.ok sc_Weighted_init (fun vs H Q E h => ?_) (fun cdv A outer s H vs Q E hr h => ?_)
  · obtain ⟨x, b, dx, size, total, ps, rfl, _⟩ := h
    rfl
  · obtain ⟨x, b, dx, size, total, ps, rfl, hx, hb, q⟩ := h
    refine ⟨_, (pss_cons (ps_fld (pv 0) (pv 1) rfl)
      (pss_cons (ps_fld (pv 0) (pv 2) rfl)
      (pss_one (ps_fld (pv 0) (pe_callTy c_list (by rfl) T.z_list (by decide +kernel) (pa_cons (pv 3) pa_nil)) rfl)))), ?_⟩
    have nbx : b ≠ x := fun z => by rw [z, hx] at hb; cases hb
    walk_at "z0"
    walk_at "z"
    refine ⟨x, _, dx, [], rfl, hx, T.cl_Weighted, T.na_Weighted_size, by decide, ?_⟩
    walk_at "z"
    refine ⟨x, _, dx, _, rfl, upd_same, T.cl_Weighted, T.na_Weighted_total, by show 1 < 1000; decide, ?_⟩
    walk_at "z"
    rw [upd_upd]
    refine Z.listL (lstL ((upd_ne nbx).trans hb)) fun k H1 nk k1 e1 => ?_
    have hx1 := k1.get nin0 (show upd H x _ x = some _ from upd_same)
    have nxk : x ≠ k := ne_of_none (show upd H x _ x = some _ from upd_same) nk
    have nk0 : H k = none := by rwa [upd_ne nxk.symm] at nk
    walk_at "z"
    refine ⟨x, _, dx, _, rfl, hx1, T.cl_Weighted, T.na_Weighted_kept, by show 2 < 1000; decide, ?_⟩
    walk_at "z"
    rw [wf_mk]
    exact q _ k nk0 (((Kp.put (by simp)).trans (k1.sub (by simp))).trans (Kp.put (by simp))) ⟨⟨dx, upd_same⟩, (upd_ne nxk.symm).trans e1⟩
theorem tyW {P : Program} {K : PySem.W.Frag} {mg : Str → Option Value} (T : T P K mg) {H : Hp} {x k : Addr} {size total : Int} {ps : List (Addr × Row)} (h : WtAt T.C_Weighted H x k size total ps) : TyX K H (.ref x) (.ref T.C_Weighted) :=
  let ⟨⟨_, h1⟩, _⟩ := h
  .base (.ins h1 T.cl_Weighted T.isa_Weighted T.isg_Weighted T.ist_Weighted T.ism_Weighted)
theorem isW {P : Program} {K : PySem.W.Frag} {mg : Str → Option Value} (T : T P K mg) {H : Hp} {Q : VK} {x k : Addr} {size total : Int} {ps : List (Addr × Row)} (h : WtAt T.C_Weighted H x k size total ps) (q : Q (.bl true) H) : rIsi K [.ref x, .ref T.C_Weighted] H Q :=
  ⟨_, _, _, _, true, rfl, .own _, tyW T h, T.kit_Weighted_Weighted, q⟩
theorem isWU {P : Program} {K : PySem.W.Frag} {mg : Str → Option Value} (T : T P K mg) {H : Hp} {Q : VK} {x k : Addr} {size total : Int} {ps : List (Addr × Row)} (h : WtAt T.C_Weighted H x k size total ps) (q : Q (.bl false) H) : rIsi K [.ref x, .ref T.C_Uniform] H Q :=
  ⟨_, _, _, _, false, rfl, .own _, tyW T h, T.kit_Weighted_Uniform, q⟩
def wts (ps : List (Addr × Row)) : List Int := ps.map fun x => x.2.w
def spWeightOf (K : PySem.W.Frag) : Sp := fun vs H Q _ => ∃ (l : Addr) (ps : List (Addr × Row)), vs = [.ref l] ∧ H l = some (.lst (refs ps)) ∧ RowsAt H ps ∧ ps.length ≤ 1000 ∧ ∀ H', Kp [] H H' → Q (.int (wts ps).sum) H'
theorem ok_weight_of {P : Program} {w : World} {K : PySem.W.Frag} {mg : Str → Option Value} {base : Heap} (T : T P K mg) : FnOk P w K mg base CX0 1 T.a_weight_of T.fd_weight_of ["things"] (spWeightOf K) := by
  refine T.F_weight_of.ok sc_weight_of (fun vs H Q E h => ?_) (fun cdv A outer s H vs Q E hr h => ?_)
  · obtain ⟨l, ps, rfl, _⟩ := h
    rfl
  · obtain ⟨l, ps, rfl, hl, hps, hn, q⟩ := h
    refine ⟨_, (pss_one (ps_ret (pe_callB (cr_sum rfl) (by rfl) T.z_sum (by decide +kernel) (pa_cons (pe_lc (own := [("item", 1)]) (g := gName 1) rfl sc_weight_of.nd (pi_list (pv 0)) (blkOk_by (own := [("item", 1)]) (N := N_weight_of) (sc := defScope s_weight_of) (by decide +kernel)) (fun _ _ _ _ _ => (pg_name (i := 1) sc_weight_of.nd rfl (by first | exact Or.inl rfl | exact Or.inr rfl))) (fun _ _ _ _ _ => pts_nil) (fun _ _ _ _ _ => (pe_ix (ix_tup : IxR _ (rIxT K)) (pv 1) pe_int (fun _ _ => rfl)))) pa_nil)))), ?_⟩
    walk_at "z0"
    walk_at "z"
    refine Z.lcl (refs ps) (lstL hl) (fun D i H' => Kp [] H H' ∧ H' D = some (.lst ((wts (ps.take i)).map V.int))) ?_ ?_ ?_ ?_
    · intro D H1 nD k1 e1
      exact ⟨k1, e1⟩
    · rintro D i H1 nD hi ⟨k1, e1⟩
      exact lstL (k1.get nin0 hl)
    · rintro D i v H1 nD hv ⟨k1, e1⟩
      obtain ⟨x, hx, rfl⟩ := refs_of hv
      have hi : i < ps.length := (List.getElem?_eq_some_iff.mp hx).1
      dsimp only [wipe, List.set]
      walk_at "z"
      refine ⟨rfl, ?_⟩
      walk_at "z"
      refine RowAt.w2 ((hps.kp0 k1) x (List.mem_of_getElem? hx)) ?_
      refine ⟨_, e1, Z.szl (m := 1000) (by unfold wts; rw [List.length_map, List.length_map, List.length_take]; omega), k1.mut nD rfl, ?_⟩
      rw [upd_same, List.take_add_one, hx]
      unfold wts
      rw [List.map_append, List.map_append]; rfl
    · rintro D H1 nD ⟨k1, e1⟩
      rw [refs_len, List.take_length] at e1
      walk_at "z"
      refine Z.sumL (lstL e1) ?_
      exact q H1 k1
def spWhole (K : PySem.W.Frag) (C : Addr) : Sp := fun vs H Q _ => ∃ (x k : Addr) (size total : Int) (ps : List (Addr × Row)), vs = [.ref x] ∧ WtAt C H x k size total ps ∧ RowsAt H ps ∧ ps.length ≤ 1000 ∧ ∀ H', Kp [] H H' → Q (.bl (decide ((wts ps).sum = total))) H'
theorem ok_is_whole {P : Program} {w : World} {K : PySem.W.Frag} {mg : Str → Option Value} {base : Heap} (T : T P K mg) : FnOk P w K mg base CX0 3 T.a_is_whole T.fd_is_whole ["sample"] (spWhole K T.C_Weighted) := by
  refine T.F_is_whole.ok sc_is_whole (fun vs H Q E h => ?_) (fun cdv A outer s H vs Q E hr h => ?_)
  · obtain ⟨x, k, size, total, ps, rfl, _⟩ := h
    rfl
  · obtain ⟨x, k, size, total, ps, rfl, hU, hps, hn, q⟩ := h
    obtain ⟨⟨dx, hx⟩, hk⟩ := id hU
    refine ⟨_, (pss_cons (ps_if (pt_val (pe_callB call_isi (by rfl) T.z_isinstance (by decide +kernel) (pa_cons (pv 0) (pa_cons (pe_glob (v := .ref T.C_Uniform) (by rfl) T.mg_Uniform rfl) pa_nil)))) (pss_one Z.ps_dead) pss_nil)
      (pss_cons (ps_if (pt_val (pe_callB call_isi (by rfl) T.z_isinstance (by decide +kernel) (pa_cons (pv 0) (pa_cons (pe_glob (v := .ref T.C_Weighted) (by rfl) T.mg_Weighted rfl) pa_nil)))) (pss_one (ps_ret (pe_cmpR op_eq (pe_call (ok_weight_of T) (hr.mono (by decide)) (by rfl) T.g_weight_of T.F_weight_of.kp T.b_weight_of .nil pass0 (pa_cons (pe_fld (pv 0) rfl) pa_nil)) (pe_fld (pv 0) rfl) (nomark _)))) pss_nil)
      (pss_cons Z.ps_dead
      (pss_one Z.ps_dead)))), ?_⟩
    walk_at "z0"
    walk_at "z"
    refine isWU T hU ?_
    walk_at "z"
    refine isW T hU ?_
    walk_at "z"
    refine ⟨x, _, dx, _, _, rfl, hx, T.cl_Weighted, T.na_Weighted_kept, wf_kept size total k, ?_⟩
    walk_at "z"
    refine ⟨k, ps, rfl, hk, hps, hn, fun H1 k1 => ?_⟩
    walk_at "z"
    refine ⟨x, _, dx, _, _, rfl, k1.get nin0 hx, T.cl_Weighted, T.na_Weighted_total, wf_total size total k, ?_⟩
    walk_at "z"
    exact q H1 k1
/-! the ordered estimates -/
structure RowW (r : Row) : Prop where
  w0 : 1 ≤ r.w
  w1 : r.w ≤ 1000
def ordF (kvs : List (Key × V)) : Int → Int → List (Addr × Row) → List Fr
  | _, _, [] => []
  | b, l, x :: r => fplus (b, 1) (lo (amt kvs x.2.k * l) x.2.w) :: ordF kvs (b + amt kvs x.2.k) (l - x.2.w) r
theorem ordF_snoc (kvs : List (Key × V)) (x : Addr × Row) : ∀ (ps : List (Addr × Row)) (b l : Int), ordF kvs b l (ps ++ [x]) = ordF kvs b l ps ++ [fplus (b + (amts kvs ps).sum, 1) (lo (amt kvs x.2.k * (l - (wts ps).sum)) x.2.w)]
  | [], b, l => by
    show [fplus (b, 1) (lo (amt kvs x.2.k * l) x.2.w)] = [fplus (b + 0, 1) (lo (amt kvs x.2.k * (l - 0)) x.2.w)]
    rw [Int.add_zero, Int.sub_zero]
  | y :: r, b, l => by
    have ih := ordF_snoc kvs x r (b + amt kvs y.2.k) (l - y.2.w)
    show _ :: ordF kvs _ _ (r ++ [x]) = _ :: (ordF kvs _ _ r ++ _)
    rw [ih]
    have e1 : (amts kvs (y :: r)).sum = amt kvs y.2.k + (amts kvs r).sum := by unfold amts; rw [List.map_cons, List.sum_cons]
    have e2 : (wts (y :: r)).sum = y.2.w + (wts r).sum := by unfold wts; rw [List.map_cons, List.sum_cons]
    rw [e1, e2, show b + (amt kvs y.2.k + (amts kvs r).sum) = b + amt kvs y.2.k + (amts kvs r).sum by omega, show l - (y.2.w + (wts r).sum) = l - y.2.w - (wts r).sum by omega]
theorem ordF_len (kvs : List (Key × V)) : ∀ (ps : List (Addr × Row)) (b l : Int), (ordF kvs b l ps).length = ps.length
  | [], _, _ => rfl
  | y :: r, b, l => by
    show (_ :: ordF kvs _ _ r).length = _
    rw [List.length_cons, ordF_len kvs r, List.length_cons]
theorem amt_mul_B {a l : Int} (ha : a.natAbs ≤ 10) (hl : l.natAbs ≤ 8000) : (a * l).natAbs < 2 ^ 17 := by
  rw [Int.natAbs_mul]
  exact Nat.lt_of_le_of_lt (Nat.mul_le_mul ha hl) (by decide)
theorem sum_leI {c : Int} : ∀ {l : List Int}, (∀ x ∈ l, 0 ≤ x ∧ x ≤ c) → 0 ≤ l.sum ∧ l.sum ≤ c * l.length
  | [], _ => by simp
  | a :: r, h => by
    have h1 := h a (by simp)
    have h2 := sum_leI (c := c) (l := r) fun z hz => h z (by simp [hz])
    rw [List.sum_cons, List.length_cons]
    have e : c * ((r.length + 1 : Nat) : Int) = c * (r.length : Int) + c := by rw [Int.natCast_add, Int.mul_add]; omega
    omega
theorem wts_B {ps : List (Addr × Row)} (hW : ∀ x ∈ ps, RowW x.2) (h3 : ps.length ≤ 3) : 0 ≤ (wts ps).sum ∧ (wts ps).sum ≤ 3000 := by
  have h := sum_leI (c := 1000) (l := wts ps) fun z hz => by
    obtain ⟨x, hx, rfl⟩ := List.mem_map.mp hz
    have := hW x hx
    exact ⟨by have := this.w0; omega, this.w1⟩
  have hl : (wts ps).length = ps.length := by unfold wts; rw [List.length_map]
  rw [hl] at h
  omega
theorem amts_S {kvs : List (Key × V)} (ho : AmtOk kvs) {ps : List (Addr × Row)} (h3 : ps.length ≤ 3) : (amts kvs ps).sum.natAbs ≤ 30 := by
  have h := sum_absI (c := 10) (l := amts kvs ps) (amts_B ho)
  have hl : (amts kvs ps).length = ps.length := by unfold amts; rw [List.length_map]
  rw [hl] at h
  omega
theorem ord1_B {kvs : List (Key × V)} (ho : AmtOk kvs) {b l : Int} {x : Addr × Row} (hx : RowW x.2) (hb : b.natAbs ≤ 30) (hl : l.natAbs ≤ 8000) : 1 ≤ (fplus (b, 1) (lo (amt kvs x.2.k * l) x.2.w)).2 ∧ FrB 30 (fplus (b, 1) (lo (amt kvs x.2.k * l) x.2.w)) := by
  have h0 := hx.w0
  have h1 := hx.w1
  have hw0 : x.2.w ≠ 0 := by omega
  have hL := lo_low (p := amt kvs x.2.k * l) hw0
  have hB : FrB 17 (lo (amt kvs x.2.k * l) x.2.w) := lo_B hw0 (amt_mul_B (amt_le ho _) hl) (Nat.lt_of_le_of_lt (show x.2.w.natAbs ≤ 1000 by omega) (by decide))
  have hb1 : FrB 5 (b, 1) := ⟨by show b.natAbs < 2 ^ 5; omega, by show (1 : Nat) < 2 ^ 5; decide⟩
  exact ⟨(fplus_low (f := (b, 1)) (by show (1 : Int) ≠ 0; decide) hL.ne).1, (fplus_B hb1 hB (by show (1 : Int) ≠ 0; decide) hL.ne).mono (by decide)⟩
theorem ordF_B {kvs : List (Key × V)} (ho : AmtOk kvs) {T : Int} (hT0 : 0 ≤ T) (hT : T ≤ 5000) : ∀ (n : Nat) (ps : List (Addr × Row)), ps.length = n → n ≤ 3 → (∀ x ∈ ps, RowW x.2) → ∀ f ∈ ordF kvs 0 T ps, 1 ≤ f.2 ∧ FrB 30 f
  | 0, ps, h, _, _ => by
    rw [List.length_eq_zero_iff.mp h]
    intro f hf; cases hf
  | n + 1, ps, h, h3, hW => by
    have hne : ps ≠ [] := fun z => by rw [z] at h; simp at h
    have e := (List.dropLast_concat_getLast hne).symm
    have hl : ps.dropLast.length = n := by rw [List.length_dropLast]; omega
    rw [e] at hW ⊢
    generalize ps.getLast hne = x at hW ⊢
    generalize ps.dropLast = us at hl hW ⊢
    have hu : ∀ x ∈ us, RowW x.2 := fun z hz => hW z (by simp [hz])
    rw [ordF_snoc]
    have ih := ordF_B ho hT0 hT n us hl (by omega) hu
    have w := wts_B hu (by omega)
    have a := amts_S ho (ps := us) (by omega)
    exact mem_append_one ih (ord1_B ho (hW x (by simp)) (by omega) (by omega))
def spOrd (K : PySem.W.Frag) : Sp := fun vs H Q _ => ∃ (l d : Addr) (t : Int) (ps : List (Addr × Row)) (kvs : List (Key × V)), vs = [.int t, .ref l, .ref d] ∧ H l = some (.lst (refs ps)) ∧ RowsAt H ps ∧ ps.length ≤ 3 ∧ (∀ x ∈ ps, RowW x.2) ∧ 0 ≤ t ∧ t ≤ 5000 ∧ H d = some (.dK kvs) ∧ AmtOk kvs ∧ ∀ H' D as, H D = none → Kp [] H H' → H' D = some (.lst (as.map V.ref)) → FrsAt K H' as (ordF kvs 0 t ps) → Q (.ref D) H'
theorem ok_ordered_estimates {P : Program} {w : World} {K : PySem.W.Frag} {mg : Str → Option Value} {base : Heap} (T : T P K mg) : FnOk P w K mg base CX0 5 T.a_ordered_estimates T.fd_ordered_estimates ["total", "kept", "amounts"] (spOrd K) := by
  refine T.F_ordered_estimates.ok sc_ordered_estimates (fun vs H Q E h => ?_) (fun cdv A outer s H vs Q E hr h => ?_)
  · obtain ⟨l, d, t, ps, kvs, rfl, _⟩ := h
    rfl
  · obtain ⟨l, d, t, ps, kvs, rfl, hl, hps, hn, hW, ht0, ht1, hd, ho, q⟩ := h
    refine ⟨_, (pss_cons (ps_set (i := 3) sc_ordered_estimates.nd rfl (by first | exact Or.inl rfl | exact Or.inr rfl) (pe_lst pa_nil))
      (pss_cons (ps_set (i := 4) sc_ordered_estimates.nd rfl (by first | exact Or.inl rfl | exact Or.inr rfl) (pv 0))
      (pss_cons (ps_set (i := 5) sc_ordered_estimates.nd rfl (by first | exact Or.inl rfl | exact Or.inr rfl) pe_int)
      (pss_cons (ps_for PassesOwn.never rfl (pi_list (pv 1)) (pg_name (i := 6) sc_ordered_estimates.nd rfl (by first | exact Or.inl rfl | exact Or.inr rfl)) (pss_cons (ps_set (i := 7) sc_ordered_estimates.nd rfl (by first | exact Or.inl rfl | exact Or.inr rfl) (pe_call (ok_amount_of T) (hr.mono (by decide)) (by rfl) T.g_amount_of T.F_amount_of.kp T.b_amount_of .nil pass0 (pa_cons (pv 2) (pa_cons (pv 6) pa_nil))))
      (pss_cons (ps_expr (pe_bm PySem.F.plainAttrs_list PySem.F.slot_list_append PySem.F.type_list_append mt_append (pv 3) (pa_cons (pe_call (ok_plus T) (hr.mono (by decide)) (by rfl) T.g_plus T.F_plus.kp T.b_plus .nil pass0 (pa_cons (pe_tup (pa_cons (pv 5) (pa_cons pe_int pa_nil))) (pa_cons (pe_call (ok_lowest T) (hr.mono (by decide)) (by rfl) T.g_lowest T.F_lowest.kp T.b_lowest .nil passL (pa_cons (pe_op op_mulW (pv 7) (pv 4)) (pa_cons (pe_ix ix_tup (pv 6) pe_int (fun _ _ => rfl)) pa_nil))) pa_nil))) pa_nil)))
      (pss_cons (ps_aug (i := 5) sc_ordered_estimates.nd rfl (by first | exact Or.inl rfl | exact Or.inr rfl) (pv 7) ip_add)
      (pss_one (ps_aug (i := 4) sc_ordered_estimates.nd rfl (by first | exact Or.inl rfl | exact Or.inr rfl) (pe_ix ix_tup (pv 6) pe_int (fun _ _ => rfl)) ip_sub))))))
      (pss_one (ps_ret (pv 3))))))), ?_⟩
    walk_at "z0"
    walk_at "z"
    refine Z.lstK (fun F H1 nF k1 e1 => ?_)
    walk_at "z"
    refine Z.forl (refs ps) (lstL (k1.get nin0 hl)) (fun i σ' H' => ∃ (y6 y7 : Option V) (as : List Addr), σ' = [some (.int t), some (.ref l), some (.ref d), some (.ref F), some (.int (t - (wts (ps.take i)).sum)), some (.int ((amts kvs (ps.take i)).sum)), y6, y7] ∧ Kp [] H H' ∧ H' F = some (.lst (as.map V.ref)) ∧ FrsAt K H' as (ordF kvs 0 t (ps.take i))) ?_ ?_ ?_ ?_
    · exact ⟨none, none, [], by show _ = [_, _, _, _, some (V.int (t - 0)), some (V.int 0), _, _]; rw [Int.sub_zero], k1, e1, .nil⟩
    · rintro i σ' H' _ ⟨y6, y7, as, rfl, k2, _⟩
      exact lstL (k2.get nin0 hl)
    · rintro i v σ' H2 hv ⟨y6, y7, as, rfl, k2, e2, F2⟩
      obtain ⟨x, hx, rfl⟩ := refs_of hv
      have hxm := List.mem_of_getElem? hx
      have hi : i < ps.length := (List.getElem?_eq_some_iff.mp hx).1
      have htk : ∀ y ∈ ps.take i, RowW y.2 := fun y hy => hW y (List.mem_of_mem_take hy)
      have hw := wts_B htk (by rw [List.length_take]; omega)
      have ha := amts_S ho (ps := ps.take i) (by rw [List.length_take]; omega)
      have hxW := hW x hxm
      have hx0 := hxW.w0
      have hx1 := hxW.w1
      have hxa := amt_le ho x.2.k
      have ewi : (wts (ps.take (i + 1))).sum = (wts (ps.take i)).sum + x.2.w := by
        rw [List.take_add_one, hx]
        unfold wts
        rw [List.map_append, List.sum_append]
        simp
      have eai : (amts kvs (ps.take (i + 1))).sum = (amts kvs (ps.take i)).sum + amt kvs x.2.k := by
        rw [List.take_add_one, hx]
        unfold amts
        rw [List.map_append, List.sum_append]
        simp
      walk_at "z"
      refine ⟨d, x.1, kvs, x.2, rfl, k2.get nin0 hd, ho, (hps.kp0 k2) x hxm, ?_⟩
      walk_at "z"
      refine ⟨Z.tyL e2, ?_⟩
      walk_at "z"
      refine Z.tupK (fun b1 H3 nb1 k3 e3 => ?_)
      walk_at "z"
      refine Z.iC (mul_ok (n := 20) (Nat.lt_of_le_of_lt hxa (by decide)) (Nat.lt_of_le_of_lt (show (t - (wts (ps.take i)).sum).natAbs ≤ 8000 by omega) (by decide))) ?_
      walk_at "z"
      have r3 := (hps.kp0 (k2.trans k3)) x hxm
      refine RowAt.w2 r3 ?_
      walk_at "z"
      have hw0 : x.2.w ≠ 0 := by omega
      refine ⟨_, _, rfl, up_B (n := 10) (show x.2.w.natAbs < 2 ^ 10 by omega) (by decide), fun z => absurd z hw0, fun _ H4 c4 n4 k4 e4 => ?_⟩
      walk_at "z"
      have hL := lo_low (p := amt kvs x.2.k * (t - (wts (ps.take i)).sum)) hw0
      have hB : FrB 17 (lo (amt kvs x.2.k * (t - (wts (ps.take i)).sum)) x.2.w) := lo_B hw0 (amt_mul_B (amt_le ho _) (by omega)) (Nat.lt_of_le_of_lt (show x.2.w.natAbs ≤ 1000 by omega) (by decide))
      have hb1 : FrB 5 ((amts kvs (ps.take i)).sum, 1) := ⟨by show (amts kvs (ps.take i)).sum.natAbs < 2 ^ 5; omega, by show (1 : Nat) < 2 ^ 5; decide⟩
      refine ⟨b1, c4, ((amts kvs (ps.take i)).sum, 1), _, rfl, (show FrAt K H3 b1 ((amts kvs (ps.take i)).sum, 1) from tupT e3).kp0 k4, e4, by show (1 : Int) ≠ 0; decide, hL.ne, hb1.mono (by decide), hB.mono (by decide), fun H5 c5 n5 k5 e5 => ?_⟩
      have k25 := (k3.trans k4).trans k5
      have e5F := k25.get nin0 e2
      walk_at "z"
      refine Z.app e5F (Z.szl (m := 1000) (by rw [List.length_map, F2.len, ordF_len, List.length_take]; omega)) ?_
      have e6F : upd H5 F (.lst (as.map V.ref ++ [V.ref c5])) F = some (.lst ((as ++ [c5]).map V.ref)) := by rw [upd_same, List.map_append]; rfl
      have k6 : Kp [F] H5 (upd H5 F (.lst (as.map V.ref ++ [V.ref c5]))) := Kp.put (by simp)
      generalize upd H5 F (.lst (as.map V.ref ++ [V.ref c5])) = H6 at e6F k6 ⊢
      have k06 : Kp [] H H6 := (k2.trans k25).then1 k6 nF
      walk_at "z"
      refine RowAt.w2 ((hps.kp0 k06) x hxm) ?_
      walk_at "z"
      refine ⟨some (.ref x.1), some (.int (amt kvs x.2.k)), as ++ [c5], ?_, k06, e6F, ?_⟩
      · rw [ewi, eai, ← Int.sub_sub]; rfl
      · rw [List.take_add_one, hx]
        show FrsAt K H6 (as ++ [c5]) (ordF kvs 0 t (ps.take i ++ [x]))
        rw [ordF_snoc, Int.zero_add]
        exact ((F2.kp0 k25).snoc e5).kpl k6 e5F
    · rintro σ' H2 ⟨y6, y7, as, rfl, k2, e2, F2⟩
      rw [refs_len, List.take_length] at F2
      walk_at "z"
      exact q H2 F as nF k2 e2 F2

/-! the answers -/
theorem castNe {n : Nat} (h : 1 ≤ n) : (n : Rat) ≠ 0 := by
  have : (0 : Rat) < (n : Rat) := by exact_mod_cast h
  grind
/-- the numbers of a sample -/
def numsR (kvs : List (Key × V)) (T : Int) (ps : List (Addr × Row)) : List Rat := if (wts ps).sum = T then [(((amts kvs ps).sum : Int) : Rat)] else (ordF kvs 0 T ps).map rv
def varR (kvs : List (Key × V)) (T : Int) (ps : List (Addr × Row)) : Rat := if (wts ps).sum = T then 0 else 1 / ((ps.length * (ps.length - 1) : Nat) : Rat) * sqR ((ordF kvs 0 T ps).map rv)
structure AnsAt (K : PySem.W.Frag) (H : Hp) (t : Addr) (T : Int) (kvs : List (Key × V)) (ps : List (Addr × Row)) (e : Addr) (ef : Fr) (v : V) : Prop where
  at_ : H t = some (.tup [.ref e, v])
  est : FrAt K H e ef
  low : Low ef
  B : FrB 100 ef
  rv : rv ef = meanR (numsR kvs T ps)
  var : (v = .non ∧ ps.length = 1 ∧ (wts ps).sum ≠ T) ∨ (¬ (ps.length = 1 ∧ (wts ps).sum ≠ T) ∧ ∃ w vf, v = .ref w ∧ FrAt K H w vf ∧ Low vf ∧ FrB 810 vf ∧ K35.rv vf = varR kvs T ps)
def spEst (K : PySem.W.Frag) (C : Addr) (P : List (Addr × Row) → Int → Prop) : Sp := fun vs H Q _ => ∃ (x k d : Addr) (size t : Int) (ps : List (Addr × Row)) (kvs : List (Key × V)), vs = [.ref x, .ref d] ∧ WtAt C H x k size t ps ∧ RowsAt H ps ∧ 1 ≤ ps.length ∧ ps.length ≤ 3 ∧ (∀ x ∈ ps, RowW x.2) ∧ 0 ≤ t ∧ t ≤ 5000 ∧ P ps t ∧ H d = some (.dK kvs) ∧ AmtOk kvs ∧ ∀ H' r e ef v, Kp [] H H' → AnsAt K H' r t kvs ps e ef v → Q (.ref r) H'
theorem ok_weighted_estimate {P : Program} {w : World} {K : PySem.W.Frag} {mg : Str → Option Value} {base : Heap} (T : T P K mg) : FnOk P w K mg base CX0 8 T.a_weighted_estimate T.fd_weighted_estimate ["sample", "amounts"] (spEst K T.C_Weighted (fun ps t => (wts ps).sum ≠ t)) := by
  refine T.F_weighted_estimate.ok sc_weighted_estimate (fun vs H Q E h => ?_) (fun cdv A outer s H vs Q E hr h => ?_)
  · obtain ⟨_, _, _, _, _, _, _, rfl, _⟩ := h
    rfl
  · obtain ⟨x, k, d, size, t, ps, kvs, rfl, hU, hps, hs1, hs3, hW, ht0, ht1, hne, hd, ho, q⟩ := h
    obtain ⟨⟨dx, hx⟩, hk⟩ := id hU
    have hoB := ordF_B ho ht0 ht1 _ ps rfl hs3 hW
    have hol := ordF_len kvs ps 0 t
    have hnum : numsR kvs t ps = (ordF kvs 0 t ps).map rv := by unfold numsR; rw [if_neg hne]
    refine ⟨_, (pss_cons (ps_set (i := 2) sc_weighted_estimate.nd rfl (by first | exact Or.inl rfl | exact Or.inr rfl) (pe_call (ok_ordered_estimates T) (hr.mono (by decide)) (by rfl) T.g_ordered_estimates T.F_ordered_estimates.kp T.b_ordered_estimates .nil pass0 (pa_cons (pe_fld (pv 0) rfl) (pa_cons (pe_fld (pv 0) rfl) (pa_cons (pv 1) pa_nil)))))
      (pss_cons (ps_set (i := 3) sc_weighted_estimate.nd rfl (by first | exact Or.inl rfl | exact Or.inr rfl) (pe_callB c_len (by rfl) T.z_len (by decide +kernel) (pa_cons (pv 2) pa_nil)))
      (pss_cons (ps_if (pt_cmpR op_eq (pv 3) pe_int (nomark _)) (pss_one (ps_ret (pe_tup (pa_cons (pe_ix ix_list (pv 2) pe_int (fun _ _ => rfl)) (pa_cons pe_non pa_nil))))) pss_nil)
      (pss_one (ps_ret (pe_tup (pa_cons (pe_call (ok_mean_of T) (hr.mono (by decide)) (by rfl) T.g_mean_of T.F_mean_of.kp T.b_mean_of .nil pass0 (pa_cons (pv 2) pa_nil)) (pa_cons (pe_call (ok_times T) (hr.mono (by decide)) (by rfl) T.g_times T.F_times.kp T.b_times .nil pass0 (pa_cons (pe_call (ok_lowest T) (hr.mono (by decide)) (by rfl) T.g_lowest T.F_lowest.kp T.b_lowest .nil passL (pa_cons pe_int (pa_cons (pe_op op_mulW (pv 3) (pe_op op_sub (pv 3) pe_int)) pa_nil))) (pa_cons (pe_call (ok_squares_around T) (hr.mono (by decide)) (by rfl) T.g_squares_around T.F_squares_around.kp T.b_squares_around .nil pass0 (pa_cons (pv 2) pa_nil)) pa_nil))) pa_nil)))))))), ?_⟩
    walk_at "z0"
    walk_at "z"
    refine ⟨x, _, dx, _, _, rfl, hx, T.cl_Weighted, T.na_Weighted_total, wf_total size t k, ?_⟩
    walk_at "z"
    refine ⟨x, _, dx, _, _, rfl, hx, T.cl_Weighted, T.na_Weighted_kept, wf_kept size t k, ?_⟩
    walk_at "z"
    refine ⟨k, d, t, ps, kvs, rfl, hk, hps, hs3, hW, ht0, ht1, hd, ho, fun H1 D as _ k1 e1 F1 => ?_⟩
    walk_at "z"
    refine Z.lenL (lstL e1) ?_
    rw [List.length_map, F1.len, hol]
    walk_at "z"
    refine Z.ite (fun h1 => ?_) (fun h1 => ?_)
    · have hs1' : ps.length = 1 := by omega
      obtain ⟨f, hf⟩ : ∃ f, ordF kvs 0 t ps = [f] := List.length_eq_one_iff.mp (by rw [hol]; exact hs1')
      rw [hf] at F1
      obtain ⟨a, ha⟩ : ∃ a, as = [a] := List.length_eq_one_iff.mp F1.len
      subst ha
      have hfB := hoB f (by rw [hf]; simp)
      obtain ⟨x0, f0, hx0, hf0, hxa⟩ := F1.get (i := 0) (v := .ref a) rfl
      obtain rfl := Option.some.inj hf0
      cases hx0
      walk_at "z"
      refine Z.ixL (lstL e1) (show atI [V.ref a] 0 = some (.ref a) from rfl) ?_
      walk_at "z"
      refine Z.tupK (fun r H2 nr k2 e2 => ?_)
      have hLf : Low f := by
        match ps, hs1' with
        | [y], _ =>
          have e : [fplus (0, 1) (lo (amt kvs y.2.k * t) y.2.w)] = [f] := hf
          rw [← (List.cons.inj e).1]
          have := (hW y (by simp)).w0
          exact fplus_low (f := (0, 1)) (by show (1 : Int) ≠ 0; decide) (lo_low (by omega)).ne
      refine q H2 r a f .non (k1.trans k2) ⟨e2, hxa.kp0 k2, hLf, hfB.2.mono (by decide), ?_, .inl ⟨rfl, hs1', hne⟩⟩
      rw [hnum, hf]
      show rv f = (rv f + 0) / ((1 : Nat) : Rat)
      grind
    · have hs2 : 2 ≤ ps.length := by omega
      walk_at "z"
      refine ⟨D, as, _, rfl, lstL e1, F1, hoB, by omega, by omega, fun H2 c2 g2 k2 e2 hg2L hg2B hg2 => ?_⟩
      walk_at "z"
      refine Z.iC (mul_ok (n := 10) (by rw [Int.natAbs_natCast]; omega) (by omega)) ?_
      walk_at "z"
      have hk0' : ((ps.length : Nat) : Int) ≠ 0 := by omega
      have hq0 : ((ps.length : Nat) : Int) * (((ps.length : Nat) : Int) - 1) ≠ 0 := Int.mul_ne_zero hk0' (by omega)
      have hqB : (((ps.length : Nat) : Int) * (((ps.length : Nat) : Int) - 1)).natAbs < 2 ^ 6 := by
        rw [Int.natAbs_mul]
        exact Nat.lt_of_le_of_lt (Nat.mul_le_mul (show _ ≤ 6 by omega) (show _ ≤ 6 by omega)) (by decide)
      refine ⟨_, _, rfl, up_B hqB (by decide), fun z => absurd z hq0, fun _ H3 f nf k3 e3 => ?_⟩
      have fB : FrB 6 (lo 1 (((ps.length : Nat) : Int) * (((ps.length : Nat) : Int) - 1))) := lo_B hq0 (by decide) hqB
      have lf := (lo_low (p := 1) hq0)
      have k23 := k2.trans k3
      walk_at "z"
      refine ⟨D, as, _, rfl, lstL (k23.get nin0 e1), F1.kp0 k23, hoB, by omega, by omega, fun H4 c4 g4 k4 e4 hg4L hg4B hg4 => ?_⟩
      walk_at "z"
      refine ⟨f, c4, _, g4, rfl, e3.kp0 k4, e4, lf.ne, hg4L.ne, fB.mono (by decide), hg4B.mono (by decide), fun H5 c5 n5 k5 e5 => ?_⟩
      walk_at "z"
      refine Z.tupK (fun r H6 nr k6 e6 => ?_)
      have k36 := ((k3.trans k4).trans k5).trans k6
      refine q H6 r c2 g2 (.ref c5) ((k1.trans k2).trans k36) ⟨e6, e2.kp0 k36, hg2L, hg2B, by rw [hnum]; exact hg2, .inr ⟨by omega, c5, _, rfl, e5.kp0 k6, lo_low (Int.mul_ne_zero lf.ne hg4L.ne), (ftimes_B fB hg4B lf.ne hg4L.ne).mono (by decide), ?_⟩⟩
      rw [rv_ftimes lf.ne hg4L.ne, hg4, rv_lo hq0]
      unfold varR
      rw [if_neg hne]
      have e11 : ((((ps.length : Nat) : Int) * (((ps.length : Nat) : Int) - 1) : Int) : Rat) = ((ps.length * (ps.length - 1) : Nat) : Rat) := by
        have : ((ps.length : Nat) : Int) * (((ps.length : Nat) : Int) - 1) = ((ps.length * (ps.length - 1) : Nat) : Int) := by rw [Int.natCast_mul, Int.natCast_sub (by omega)]; rfl
        rw [this]
        exact_mod_cast rfl
      rw [e11]
      rfl
theorem ok_estimate {P : Program} {w : World} {K : PySem.W.Frag} {mg : Str → Option Value} {base : Heap} (T : T P K mg) : FnOk P w K mg base CX0 9 T.a_estimate T.fd_estimate ["sample", "amounts"] (spEst K T.C_Weighted (fun _ _ => True)) := by
  refine T.F_estimate.ok sc_estimate (fun vs H Q E h => ?_) (fun cdv A outer s H vs Q E hr h => ?_)
  · obtain ⟨_, _, _, _, _, _, _, rfl, _⟩ := h
    rfl
  · obtain ⟨x, k, d, size, t, ps, kvs, rfl, hU, hps, hs1, hs3, hW, ht0, ht1, _, hd, ho, q⟩ := h
    obtain ⟨⟨dx, hx⟩, hk⟩ := id hU
    refine ⟨_, (pss_cons (ps_if (pt_val (pe_call (ok_is_whole T) (hr.mono (by decide)) (by rfl) T.g_is_whole T.F_is_whole.kp T.b_is_whole .nil pass0 (pa_cons (pv 0) pa_nil))) (pss_one (ps_ret (pe_tup (pa_cons (pe_tup (pa_cons (pe_call (ok_true_sum T) (hr.mono (by decide)) (by rfl) T.g_true_sum T.F_true_sum.kp T.b_true_sum .nil pass0 (pa_cons (pe_fld (pv 0) rfl) (pa_cons (pv 1) pa_nil))) (pa_cons pe_int pa_nil))) (pa_cons (pe_glob (v := .ref T.k_ZERO) (by rfl) T.g_ZERO rfl) pa_nil))))) pss_nil)
      (pss_cons (ps_if (pt_val (pe_callB call_isi (by rfl) T.z_isinstance (by decide +kernel) (pa_cons (pv 0) (pa_cons (pe_glob (v := .ref T.C_Uniform) (by rfl) T.mg_Uniform rfl) pa_nil)))) (pss_one Z.ps_dead) pss_nil)
      (pss_cons (ps_if (pt_val (pe_callB call_isi (by rfl) T.z_isinstance (by decide +kernel) (pa_cons (pv 0) (pa_cons (pe_glob (v := .ref T.C_Weighted) (by rfl) T.mg_Weighted rfl) pa_nil)))) (pss_one (ps_ret (pe_call (ok_weighted_estimate T) (hr.mono (by decide)) (by rfl) T.g_weighted_estimate T.F_weighted_estimate.kp T.b_weighted_estimate .nil pass0 (pa_cons (pv 0) (pa_cons (pv 1) pa_nil))))) pss_nil)
      (pss_one Z.ps_dead)))), ?_⟩
    walk_at "z0"
    walk_at "z"
    refine ⟨x, k, size, t, ps, rfl, hU, hps, by omega, fun H0 k0 => ?_⟩
    have hx0 := k0.get nin0 hx
    walk_at "z"
    refine Z.ite (fun h1 => ?_) (fun h1 => ?_)
    · walk_at "z"
      refine ⟨x, _, dx, _, _, rfl, hx0, T.cl_Weighted, T.na_Weighted_kept, wf_kept size t k, ?_⟩
      walk_at "z"
      refine ⟨k, d, ps, kvs, rfl, k0.get nin0 hk, hps.kp0 k0, by omega, k0.get nin0 hd, ho, fun H1 k1 => ?_⟩
      walk_at "z"
      refine Z.tupK (fun e H2 ne k2 e2 => ?_)
      walk_at "z"
      refine Z.tupK (fun r H3 nr k3 e3 => ?_)
      have ha := amts_S ho (ps := ps) hs3
      have lw : Low ((amts kvs ps).sum, 1) := ⟨show (1 : Int) ≤ 1 by decide, by simp⟩
      refine q H3 r e ((amts kvs ps).sum, 1) (.ref T.k_ZERO) (((k0.trans k1).trans k2).trans k3) ⟨e3, tupT (k3.get nin0 e2), lw, ⟨by show (amts kvs ps).sum.natAbs < 2 ^ 100; omega, by show (1 : Nat) < 2 ^ 100; decide⟩, ?_, .inr ⟨fun z => z.2 h1, T.k_ZERO, (0, 1), rfl, T.q_ZERO H3, low_zero, ⟨by decide, by decide⟩, ?_⟩⟩
      · unfold numsR
        rw [if_pos h1, rv_int]
        show _ = ((((amts kvs ps).sum : Int) : Rat) + 0) / ((1 : Nat) : Rat)
        grind
      · rw [rv_zero]
        unfold varR
        rw [if_pos h1]
    · walk_at "z"
      refine isWU T (hU.kp0 k0) ?_
      walk_at "z"
      refine isW T (hU.kp0 k0) ?_
      walk_at "z"
      exact ⟨x, k, d, size, t, ps, kvs, rfl, hU.kp0 k0, hps.kp0 k0, hs1, hs3, hW, ht0, ht1, h1, k0.get nin0 hd, ho, fun H' r e ef v k1 A => q H' r e ef v (k0.trans k1) A⟩
/-! ### orders drawn one after the other -/
def nin (o : List (Addr × Row)) (x : Addr × Row) : Bool := decide (∀ z ∈ o, z.2.k ≠ x.2.k)
def rem (xs o : List (Addr × Row)) : List (Addr × Row) := xs.filter (nin o)
def ordS (xs : List (Addr × Row)) : Nat → List (List (Addr × Row))
  | 0 => [[]]
  | m + 1 => (ordS xs m).flatMap fun o => (rem xs o).map fun x => o ++ [x]
theorem rem_nil (xs : List (Addr × Row)) : rem xs [] = xs := by
  unfold rem
  rw [List.filter_eq_self]
  intro x _
  unfold nin
  exact decide_eq_true fun z hz => by cases hz
theorem rem_snoc (xs o : List (Addr × Row)) (x : Addr × Row) : rem xs (o ++ [x]) = (rem xs o).filter fun z => decide (x.2.k ≠ z.2.k) := by
  unfold rem
  rw [List.filter_filter]
  refine List.filter_congr fun z _ => ?_
  unfold nin
  rw [Bool.eq_iff_iff, Bool.and_eq_true, decide_eq_true_eq, decide_eq_true_eq, decide_eq_true_eq]
  constructor
  · intro h
    exact ⟨h x (by simp), fun y hy => h y (by simp [hy])⟩
  · rintro ⟨h1, h2⟩ y hy
    rcases List.mem_append.mp hy with h | h
    · exact h2 y h
    · rw [List.mem_singleton.mp h]; exact h1
theorem filt_none {x : Addr × Row} : ∀ {L : List (Addr × Row)}, (∀ z ∈ L, x.2.k ≠ z.2.k) → (L.filter fun z => decide (x.2.k ≠ z.2.k)) = L := fun {L} h => by
  rw [List.filter_eq_self]
  intro z hz
  exact decide_eq_true (h z hz)
theorem rem_one (f : Addr × Row → Rat) (g : Addr × Row → Int) {x : Addr × Row} : ∀ {L : List (Addr × Row)}, L.Pairwise (fun a b => a.2.k ≠ b.2.k) → x ∈ L →
    ((L.filter fun z => decide (x.2.k ≠ z.2.k)).map f).sum + f x = (L.map f).sum ∧ ((L.filter fun z => decide (x.2.k ≠ z.2.k)).map g).sum + g x = (L.map g).sum ∧ (L.filter fun z => decide (x.2.k ≠ z.2.k)).length + 1 = L.length
  | [], _, h => by cases h
  | y :: r, hp, h => by
    obtain ⟨h1, h2⟩ := List.pairwise_cons.mp hp
    rcases List.mem_cons.mp h with rfl | h
    · rw [List.filter_cons_of_neg (by simp), filt_none h1]
      rw [List.map_cons, List.sum_cons, List.map_cons, List.sum_cons]
      exact ⟨by grind, by omega, rfl⟩
    · have ih := rem_one f g h2 h
      rw [List.filter_cons_of_pos (by simp; exact fun z => h1 x h z.symm)]
      rw [List.map_cons, List.sum_cons, List.map_cons, List.sum_cons, List.map_cons, List.sum_cons, List.map_cons, List.sum_cons, List.length_cons, List.length_cons]
      exact ⟨by rw [← ih.1]; grind, by omega, by omega⟩
structure GoodO (xs o : List (Addr × Row)) : Prop where
  sub : ∀ x ∈ o, x ∈ xs
  fr : ∀ f : Addr × Row → Rat, ((rem xs o).map f).sum + (o.map f).sum = (xs.map f).sum
  fi : ∀ f : Addr × Row → Int, ((rem xs o).map f).sum + (o.map f).sum = (xs.map f).sum
  len : (rem xs o).length + o.length = xs.length
theorem good_nil (xs : List (Addr × Row)) : GoodO xs [] := by
  refine ⟨fun x hx => (by cases hx), fun f => ?_, fun f => ?_, ?_⟩
  · rw [rem_nil]; show _ + (0 : Rat) = _; grind
  · rw [rem_nil]; show _ + (0 : Int) = _; omega
  · rw [rem_nil]; rfl
theorem good_snoc {xs o : List (Addr × Row)} (hx : xs.Pairwise fun a b => a.2.k ≠ b.2.k) (h : GoodO xs o) {x : Addr × Row} (hm : x ∈ rem xs o) : GoodO xs (o ++ [x]) := by
  have hp : (rem xs o).Pairwise (fun a b => a.2.k ≠ b.2.k) := hx.sublist List.filter_sublist
  refine ⟨fun y hy => ?_, fun f => ?_, fun f => ?_, ?_⟩
  · rcases List.mem_append.mp hy with z | z
    · exact h.sub y z
    · rw [List.mem_singleton.mp z]; exact (List.mem_filter.mp hm).1
  · have e := (rem_one f (fun _ => 0) hp hm).1
    have e2 := h.fr f
    rw [rem_snoc, List.map_append, List.sum_append, ← e2, ← e]
    simp only [List.map_cons, List.map_nil, List.sum_cons, List.sum_nil]
    grind
  · have e := (rem_one (fun _ => 0) f hp hm).2.1
    have e2 := h.fi f
    rw [rem_snoc, List.map_append, List.sum_append, ← e2, ← e]
    simp only [List.map_cons, List.map_nil, List.sum_cons, List.sum_nil]
    omega
  · have e := (rem_one (fun _ => 0) (fun _ => 0) hp hm).2.2
    have e2 := h.len
    rw [rem_snoc, List.length_append]
    simp only [List.length_cons, List.length_nil]
    omega
theorem ordS_good {xs : List (Addr × Row)} (hx : xs.Pairwise fun a b => a.2.k ≠ b.2.k) : ∀ m, ∀ o ∈ ordS xs m, GoodO xs o ∧ o.length = m
  | 0, o, h => by rw [List.mem_singleton.mp h]; exact ⟨good_nil xs, rfl⟩
  | m + 1, o, h => by
    obtain ⟨o', h1, h2⟩ := List.mem_flatMap.mp h
    obtain ⟨x, hx', rfl⟩ := List.mem_map.mp h2
    have ih := ordS_good hx m o' h1
    exact ⟨good_snoc hx ih.1 hx', by rw [List.length_append, ih.2]; rfl⟩
theorem ordS_len {xs : List (Addr × Row)} (hx : xs.Pairwise fun a b => a.2.k ≠ b.2.k) (hn : xs.length ≤ 5) : ∀ m, m ≤ 3 → (ordS xs m).length ≤ [1, 5, 20, 60].getD m 0 := by
  have step : ∀ (c : Nat) (L : List (List (Addr × Row))), (∀ o ∈ L, (rem xs o).length ≤ c) → (L.flatMap fun o => (rem xs o).map fun x => o ++ [x]).length ≤ c * L.length := by
    intro c L
    induction L with
    | nil => intro _; simp
    | cons o r ih =>
      intro h
      have h1 := h o (by simp)
      have h2 := ih fun z hz => h z (by simp [hz])
      rw [List.flatMap_cons, List.length_append, List.length_map, List.length_cons, Nat.mul_add]
      omega
  have st2 : ∀ m c, c + m = 5 → (ordS xs (m + 1)).length ≤ c * (ordS xs m).length := fun m c hc => by
    refine step c _ fun o ho => ?_
    have g := ordS_good hx m o ho
    have := g.1.len
    omega
  intro m hm
  have h0 : (ordS xs 0).length = 1 := rfl
  have h1 := st2 0 5 rfl
  have h2 := st2 1 4 rfl
  have h3 := st2 2 3 rfl
  simp only [Nat.zero_add, Nat.reduceAdd] at h1 h2 h3
  match m, hm with
  | 0, _ => exact Nat.le_of_eq h0
  | 1, _ => show _ ≤ 5; omega
  | 2, _ => show _ ≤ 20; omega
  | 3, _ => show _ ≤ 60; omega
/-! chances -/
def chO (T : Int) (o : List (Addr × Row)) : Fr × Int := o.foldl (fun c x => (ftimes c.1 (lo x.2.w (if c.2 < 1 then 1 else c.2)), c.2 - x.2.w)) ((1, 1), T)
theorem chO_left (T : Int) : ∀ o : List (Addr × Row), (chO T o).2 = T - (wts o).sum := by
  have h : ∀ (o : List (Addr × Row)) (c : Fr × Int), (o.foldl (fun c x => (ftimes c.1 (lo x.2.w (if c.2 < 1 then 1 else c.2)), c.2 - x.2.w)) c).2 = c.2 - (wts o).sum := by
    intro o
    induction o with
    | nil => intro c; show c.2 = c.2 - 0; omega
    | cons x r ih =>
      intro c
      rw [List.foldl_cons, ih]
      have e2 : (wts (x :: r)).sum = x.2.w + (wts r).sum := by unfold wts; rw [List.map_cons, List.sum_cons]
      rw [e2]
      show c.2 - x.2.w - _ = _
      omega
  exact fun o => h o _
def chF (T : Int) (o : List (Addr × Row)) : Fr := (chO T o).1
theorem chF_snoc (T : Int) (o : List (Addr × Row)) (x : Addr × Row) : chF T (o ++ [x]) = ftimes (chF T o) (lo x.2.w (if T - (wts o).sum < 1 then 1 else T - (wts o).sum)) := by
  unfold chF
  have e : chO T (o ++ [x]) = (ftimes (chO T o).1 (lo x.2.w (if (chO T o).2 < 1 then 1 else (chO T o).2)), (chO T o).2 - x.2.w) := by
    unfold chO
    rw [List.foldl_append]; rfl
  rw [e, chO_left]
theorem mx_pos (z : Int) : 1 ≤ (if z < 1 then 1 else z) := by split <;> omega
theorem chF_low (T : Int) : ∀ (n : Nat) (o : List (Addr × Row)), o.length = n → Low (chF T o)
  | 0, o, h => by
    rw [List.length_eq_zero_iff.mp h]
    exact ⟨show (1 : Int) ≤ 1 by decide, show Nat.gcd (1 : Int).natAbs (1 : Int).natAbs = 1 by decide⟩
  | n + 1, o, h => by
    have hne : o ≠ [] := fun z => by rw [z] at h; simp at h
    rw [← List.dropLast_concat_getLast hne, chF_snoc]
    have ih := chF_low T n o.dropLast (by rw [List.length_dropLast]; omega)
    have h2 := mx_pos (T - (wts o.dropLast).sum)
    exact lo_low (Int.mul_ne_zero ih.ne (lo_low (by omega)).ne)
theorem chF_B {T : Int} (hT : T ≤ 8000) : ∀ (n : Nat) (o : List (Addr × Row)), o.length = n → (∀ x ∈ o, RowW x.2) → FrB (1 + 13 * n) (chF T o)
  | 0, o, h, _ => by
    rw [List.length_eq_zero_iff.mp h]
    exact ⟨show (1 : Nat) < 2 ^ 1 by decide, show (1 : Nat) < 2 ^ 1 by decide⟩
  | n + 1, o, h, hW => by
    have hne : o ≠ [] := fun z => by rw [z] at h; simp at h
    have e := (List.dropLast_concat_getLast hne).symm
    have hl : o.dropLast.length = n := by rw [List.length_dropLast]; omega
    rw [e] at hW ⊢
    generalize o.getLast hne = x at hW ⊢
    generalize o.dropLast = us at hl hW ⊢
    have ih := chF_B hT n us hl fun z hz => hW z (by simp [hz])
    have hx := hW x (by simp)
    have h0 := hx.w0
    have h1 := hx.w1
    have hL := chF_low T n us hl
    have hws : 0 ≤ (wts us).sum := (sum_leI (c := 1000) (l := wts us) fun z hz => by
      obtain ⟨y, hy, rfl⟩ := List.mem_map.mp hz
      have := hW y (by simp [hy])
      exact ⟨by have := this.w0; omega, this.w1⟩).1
    rw [chF_snoc]
    generalize hm : (if T - (wts us).sum < 1 then 1 else T - (wts us).sum) = mx
    have hmx : 1 ≤ mx ∧ mx ≤ 8000 := by
      rw [← hm]
      split <;> omega
    have hB2 : FrB 13 (lo x.2.w mx) := lo_B (by omega) (Nat.lt_of_le_of_lt (show x.2.w.natAbs ≤ 1000 by omega) (by decide)) (Nat.lt_of_le_of_lt (show mx.natAbs ≤ 8000 by omega) (by decide))
    exact (ftimes_B ih hB2 hL.ne (lo_low (by omega)).ne).mono (by omega)
theorem wts_R (o : List (Addr × Row)) : (o.map fun x => ((x.2.w : Int) : Rat)).sum = (((wts o).sum : Int) : Rat) := by
  induction o with
  | nil => show (0 : Rat) = ((0 : Int) : Rat); grind
  | cons x r ih =>
    have e2 : (wts (x :: r)).sum = x.2.w + (wts r).sum := by unfold wts; rw [List.map_cons, List.sum_cons]
    rw [e2, List.map_cons, List.sum_cons, ih]
    exact_mod_cast rfl
theorem amts_R (kvs : List (Key × V)) (o : List (Addr × Row)) : (o.map fun x => ((amt kvs x.2.k : Int) : Rat)).sum = (((amts kvs o).sum : Int) : Rat) := by
  induction o with
  | nil => show (0 : Rat) = ((0 : Int) : Rat); grind
  | cons x r ih =>
    have e2 : (amts kvs (x :: r)).sum = amt kvs x.2.k + (amts kvs r).sum := by unfold amts; rw [List.map_cons, List.sum_cons]
    rw [e2, List.map_cons, List.sum_cons, ih]
    exact_mod_cast rfl
/-! means over all orders -/
def ch (T : Int) (o : List (Addr × Row)) : Rat := rv (chF T o)
def ex (T : Int) (L : List (List (Addr × Row))) (f : List (Addr × Row) → Rat) : Rat := (L.map fun o => f o * ch T o).sum
theorem ex_congr {T : Int} {f g : List (Addr × Row) → Rat} {L : List (List (Addr × Row))} (h : ∀ o ∈ L, f o = g o) : ex T L f = ex T L g := by
  unfold ex
  congr 1
  exact List.map_congr_left fun o ho => by rw [h o ho]
theorem ex_lin (T : Int) (a b : Rat) (f g : List (Addr × Row) → Rat) : ∀ L : List (List (Addr × Row)), ex T L (fun o => a * f o + b * g o) = a * ex T L f + b * ex T L g
  | [] => by show (0 : Rat) = a * 0 + b * 0; grind
  | o :: r => by
    have ih := ex_lin T a b f g r
    unfold ex at ih ⊢
    rw [List.map_cons, List.map_cons, List.map_cons, List.sum_cons, List.sum_cons, List.sum_cons, ih]
    grind
/-- the last estimate of an order -/
def qE (kvs : List (Key × V)) (T : Int) (o : List (Addr × Row)) (x : Addr × Row) : Rat := (((amts kvs o).sum : Int) : Rat) + ((amt kvs x.2.k : Int) : Rat) * ((T : Rat) - (((wts o).sum : Int) : Rat)) / ((x.2.w : Int) : Rat)
theorem in_sum (kvs : List (Key × V)) (l c a b Y : Rat) : ∀ R : List (Addr × Row), (∀ x ∈ R, ((x.2.w : Int) : Rat) ≠ 0) →
    (R.map fun x => (a + b * (Y + ((amt kvs x.2.k : Int) : Rat) * l / ((x.2.w : Int) : Rat))) * (c * (((x.2.w : Int) : Rat) / l))).sum = c / l * ((a + b * Y) * (R.map fun x => ((x.2.w : Int) : Rat)).sum + b * l * (R.map fun x => ((amt kvs x.2.k : Int) : Rat)).sum)
  | [], _ => by show (0 : Rat) = c / l * ((a + b * Y) * 0 + b * l * 0); grind
  | x :: r, h => by
    have ih := in_sum kvs l c a b Y r fun z hz => h z (by simp [hz])
    have hx := h x (by simp)
    rw [List.map_cons, List.sum_cons, List.map_cons, List.sum_cons, List.map_cons, List.sum_cons, ih]
    grind
theorem sum_flat (f : List (Addr × Row) → Rat) (g : List (Addr × Row) → List (List (Addr × Row))) (h : List (Addr × Row) → Rat) : ∀ L : List (List (Addr × Row)), (∀ o ∈ L, ((g o).map f).sum = h o) → ((L.flatMap g).map f).sum = (L.map h).sum
  | [], _ => rfl
  | o :: r, hh => by
    rw [List.flatMap_cons, List.map_append, List.sum_append, hh o (by simp), sum_flat f g h r fun z hz => hh z (by simp [hz]), List.map_cons, List.sum_cons]
structure Sit (xs : List (Addr × Row)) (T : Int) : Prop where
  nd : xs.Pairwise fun a b => a.2.k ≠ b.2.k
  ws : ∀ x ∈ xs, RowW x.2
  tot : (wts xs).sum = T
theorem Sit.left {xs : List (Addr × Row)} {T : Int} (S : Sit xs T) {o : List (Addr × Row)} (g : GoodO xs o) : T - (wts o).sum = (wts (rem xs o)).sum := by
  have := g.fi fun x => x.2.w
  have e := S.tot
  unfold wts at e ⊢
  omega
theorem sum_geI : ∀ {l : List Int}, (∀ x ∈ l, 1 ≤ x) → (l.length : Int) ≤ l.sum
  | [], _ => by simp
  | a :: r, h => by
    have h1 := h a (by simp)
    have h2 := sum_geI (l := r) fun z hz => h z (by simp [hz])
    rw [List.sum_cons, List.length_cons]
    omega
theorem Sit.left_pos {xs : List (Addr × Row)} {T : Int} (S : Sit xs T) {o : List (Addr × Row)} (g : GoodO xs o) (h : o.length < xs.length) : 1 ≤ T - (wts o).sum := by
  rw [S.left g]
  have h1 := sum_geI (l := wts (rem xs o)) fun z hz => by
    obtain ⟨x, hx, rfl⟩ := List.mem_map.mp hz
    exact (S.ws x (List.mem_filter.mp hx).1).w0
  have h2 : (wts (rem xs o)).length = (rem xs o).length := by unfold wts; rw [List.length_map]
  have := g.len
  omega
/-- one step: what is linear in the last estimate -/
theorem ex_step {xs : List (Addr × Row)} {T : Int} (S : Sit xs T) (kvs : List (Key × V)) {m : Nat} (hm : m < xs.length) (f a b : List (Addr × Row) → Rat) (hf : ∀ o ∈ ordS xs m, ∀ x ∈ rem xs o, f (o ++ [x]) = a o + b o * qE kvs T o x) :
    ex T (ordS xs (m + 1)) f = ex T (ordS xs m) fun o => a o + b o * (((amts kvs xs).sum : Int) : Rat) := by
  unfold ex
  refine sum_flat _ _ _ _ fun o ho => ?_
  obtain ⟨g, hl⟩ := ordS_good S.nd m o ho
  have hp := S.left_pos g (by omega)
  rw [List.map_map]
  have hlR : ((T : Rat) - (((wts o).sum : Int) : Rat)) ≠ 0 := by
    have e : (T : Rat) - (((wts o).sum : Int) : Rat) = ((T - (wts o).sum : Int) : Rat) := by exact_mod_cast rfl
    rw [e]
    exact ratNe (by omega)
  have e1 : (rem xs o).map ((fun o => f o * ch T o) ∘ fun x => o ++ [x]) = (rem xs o).map fun x => (a o + b o * ((((amts kvs o).sum : Int) : Rat) + ((amt kvs x.2.k : Int) : Rat) * ((T : Rat) - (((wts o).sum : Int) : Rat)) / ((x.2.w : Int) : Rat))) * (ch T o * (((x.2.w : Int) : Rat) / ((T : Rat) - (((wts o).sum : Int) : Rat)))) := List.map_congr_left fun x hx => by
    simp only [Function.comp_apply]
    rw [hf o ho x hx]
    have e2 : ch T (o ++ [x]) = ch T o * (((x.2.w : Int) : Rat) / ((T : Rat) - (((wts o).sum : Int) : Rat))) := by
      unfold ch
      rw [chF_snoc, if_neg (by omega), rv_ftimes (chF_low T _ o rfl).ne (lo_low (by omega)).ne, rv_lo (by omega)]
      have e : (T : Rat) - (((wts o).sum : Int) : Rat) = ((T - (wts o).sum : Int) : Rat) := by exact_mod_cast rfl
      rw [e]
    rw [e2]
    rfl
  rw [e1, in_sum kvs _ _ _ _ _ _ (fun x hx => ratNe (by have := (S.ws x (List.mem_filter.mp hx).1).w0; omega))]
  have h1 := g.fr fun x => ((x.2.w : Int) : Rat)
  have h2 := g.fr fun x => ((amt kvs x.2.k : Int) : Rat)
  rw [wts_R o, wts_R xs, S.tot] at h1
  rw [amts_R kvs o, amts_R kvs xs] at h2
  generalize ((rem xs o).map fun x => ((x.2.w : Int) : Rat)).sum = A at *
  generalize ((rem xs o).map fun x => ((amt kvs x.2.k : Int) : Rat)).sum = B at *
  have h3 : A = (T : Rat) - (((wts o).sum : Int) : Rat) := by grind
  rw [← h3] at hlR ⊢
  grind
theorem ex_one {xs : List (Addr × Row)} {T : Int} (S : Sit xs T) : ∀ m, m ≤ xs.length → ex T (ordS xs m) (fun _ => 1) = 1
  | 0, _ => by
    show (1 : Rat) * rv (1, 1) + 0 = 1
    rw [rv_int]
    grind
  | m + 1, h => by
    rw [ex_step S [] (by omega) (fun _ => 1) (fun _ => 1) (fun _ => 0) (fun _ _ _ _ => by grind)]
    have e : (fun o : List (Addr × Row) => (1 : Rat) + 0 * (((amts [] xs).sum : Int) : Rat)) = fun _ => 1 := by funext o; grind
    rw [e]
    exact ex_one S m (by omega)
def nums (kvs : List (Key × V)) (T : Int) (o : List (Addr × Row)) : List Rat := (ordF kvs 0 T o).map rv
theorem nums_len (kvs : List (Key × V)) (T : Int) (o : List (Addr × Row)) : (nums kvs T o).length = o.length := by unfold nums; rw [List.length_map, ordF_len]
theorem nums_snoc (kvs : List (Key × V)) (T : Int) (o : List (Addr × Row)) {x : Addr × Row} (hx : RowW x.2) : nums kvs T (o ++ [x]) = nums kvs T o ++ [qE kvs T o x] := by
  unfold nums
  rw [ordF_snoc, List.map_append]
  have h0 : x.2.w ≠ 0 := by have := hx.w0; omega
  show _ ++ [rv _] = _
  rw [rv_fplus (by show (1 : Int) ≠ 0; decide) (lo_low h0).ne, rv_int, rv_lo h0, Int.zero_add]
  unfold qE
  have e : ((amt kvs x.2.k * (T - (wts o).sum) : Int) : Rat) = ((amt kvs x.2.k : Int) : Rat) * ((T : Rat) - (((wts o).sum : Int) : Rat)) := by exact_mod_cast rfl
  rw [e]
theorem sum_snoc (a : List Rat) (x : Rat) : (a ++ [x]).sum = a.sum + x := by
  rw [List.sum_append, List.sum_cons, List.sum_nil]; grind
def sq2 (ws : List Rat) : Rat := (ws.map fun w => w * w).sum
theorem sq2_snoc (a : List Rat) (x : Rat) : sq2 (a ++ [x]) = sq2 a + x * x := by
  unfold sq2
  rw [List.map_append, List.sum_append, List.map_cons, List.map_nil, List.sum_cons, List.sum_nil]; grind
theorem ex_s1 {xs : List (Addr × Row)} {T : Int} (S : Sit xs T) (kvs : List (Key × V)) : ∀ m, m ≤ xs.length → ex T (ordS xs m) (fun o => (nums kvs T o).sum) = (m : Rat) * (((amts kvs xs).sum : Int) : Rat)
  | 0, _ => by
    show (0 : Rat) * rv (1, 1) + 0 = ((0 : Nat) : Rat) * _
    grind
  | m + 1, h => by
    have ih := ex_s1 S kvs m (by omega)
    have h1 := ex_one S m (by omega)
    rw [ex_step S kvs (by omega) _ (fun o => (nums kvs T o).sum) (fun _ => 1) (fun o ho x hx => by
      rw [nums_snoc kvs T o (S.ws x (List.mem_filter.mp hx).1), sum_snoc]; grind)]
    have e : (fun o : List (Addr × Row) => (nums kvs T o).sum + 1 * (((amts kvs xs).sum : Int) : Rat)) = fun o => 1 * (nums kvs T o).sum + (((amts kvs xs).sum : Int) : Rat) * 1 := by funext o; grind
    rw [e, ex_lin T 1 _ (fun o => (nums kvs T o).sum) (fun _ => 1), ih, h1]
    have e2 : ((m + 1 : Nat) : Rat) = (m : Rat) + 1 := by exact_mod_cast rfl
    rw [e2]
    grind
theorem ex_s2 {xs : List (Addr × Row)} {T : Int} (S : Sit xs T) (kvs : List (Key × V)) : ∀ m, m ≤ xs.length → ex T (ordS xs m) (fun o => (nums kvs T o).sum * (nums kvs T o).sum - sq2 (nums kvs T o)) = (m : Rat) * ((m : Rat) - 1) * ((((amts kvs xs).sum : Int) : Rat) * (((amts kvs xs).sum : Int) : Rat))
  | 0, _ => by
    show ((0 : Rat) * 0 - 0) * rv (1, 1) + 0 = ((0 : Nat) : Rat) * _ * _
    grind
  | m + 1, h => by
    have ih := ex_s2 S kvs m (by omega)
    have h1 := ex_s1 S kvs m (by omega)
    rw [ex_step S kvs (by omega) _ (fun o => (nums kvs T o).sum * (nums kvs T o).sum - sq2 (nums kvs T o)) (fun o => 2 * (nums kvs T o).sum) (fun o ho x hx => by
      rw [nums_snoc kvs T o (S.ws x (List.mem_filter.mp hx).1), sum_snoc, sq2_snoc]; grind)]
    have e : (fun o : List (Addr × Row) => (nums kvs T o).sum * (nums kvs T o).sum - sq2 (nums kvs T o) + 2 * (nums kvs T o).sum * (((amts kvs xs).sum : Int) : Rat)) = fun o => 1 * ((nums kvs T o).sum * (nums kvs T o).sum - sq2 (nums kvs T o)) + (2 * (((amts kvs xs).sum : Int) : Rat)) * (nums kvs T o).sum := by funext o; grind
    rw [e, ex_lin T 1 _ (fun o => (nums kvs T o).sum * (nums kvs T o).sum - sq2 (nums kvs T o)) (fun o => (nums kvs T o).sum), ih, h1]
    have e2 : ((m + 1 : Nat) : Rat) = (m : Rat) + 1 := by exact_mod_cast rfl
    rw [e2]
    grind
theorem ex_at {xs : List (Addr × Row)} {T : Int} (S : Sit xs T) (kvs : List (Key × V)) (k : Nat) : ∀ m, m ≤ xs.length → k < m → ex T (ordS xs m) (fun o => (nums kvs T o).getD k 0) = (((amts kvs xs).sum : Int) : Rat)
  | 0, _, h => by omega
  | m + 1, h, hk => by
    by_cases hkm : k = m
    · subst hkm
      rw [ex_step S kvs (by omega) _ (fun _ => 0) (fun _ => 1) (fun o ho x hx => by
        have hl := (ordS_good S.nd k o ho).2
        have hnl := nums_len kvs T o
        rw [nums_snoc kvs T o (S.ws x (List.mem_filter.mp hx).1), List.getD_eq_getElem?_getD, List.getElem?_append_right (by omega), hnl, hl, Nat.sub_self]
        show qE kvs T o x = _
        grind)]
      have e : (fun o : List (Addr × Row) => (0 : Rat) + 1 * (((amts kvs xs).sum : Int) : Rat)) = fun o => (((amts kvs xs).sum : Int) : Rat) * 1 + 0 * 1 := by funext o; grind
      rw [e, ex_lin T _ 0 (fun _ => 1) (fun _ => 1), ex_one S k (by omega)]
      grind
    · have ih := ex_at S kvs k m (by omega) (by omega)
      rw [ex_step S kvs (by omega) _ (fun o => (nums kvs T o).getD k 0) (fun _ => 0) (fun o ho x hx => by
        have hl := (ordS_good S.nd m o ho).2
        have hnl := nums_len kvs T o
        rw [nums_snoc kvs T o (S.ws x (List.mem_filter.mp hx).1), List.getD_eq_getElem?_getD, List.getElem?_append_left (by omega), ← List.getD_eq_getElem?_getD]
        grind)]
      have e : (fun o : List (Addr × Row) => (nums kvs T o).getD k 0 + 0 * (((amts kvs xs).sum : Int) : Rat)) = fun o => (nums kvs T o).getD k 0 := by funext o; grind
      rw [e]
      exact ih

/-! ### common denominators -/
def DenB (D n : Nat) (x : Rat) : Prop := ∃ z : Int, x * (D : Rat) = (z : Rat) ∧ z.natAbs ≤ 2 ^ n
theorem DenB.mono {D n m : Nat} {x : Rat} (h : DenB D n x) (l : n ≤ m) : DenB D m x := let ⟨z, h1, h2⟩ := h; ⟨z, h1, Nat.le_trans h2 (Nat.pow_le_pow_right (by decide) l)⟩
theorem DenB.add {D n : Nat} {x y : Rat} (h : DenB D n x) (g : DenB D n y) : DenB D (n + 1) (x + y) := by
  obtain ⟨z, h1, h2⟩ := h
  obtain ⟨t, g1, g2⟩ := g
  refine ⟨z + t, ?_, ?_⟩
  · have e : ((z + t : Int) : Rat) = (z : Rat) + (t : Rat) := by exact_mod_cast rfl
    rw [e, ← h1, ← g1]; grind
  · rw [Nat.pow_succ]; omega
theorem DenB.neg {D n : Nat} {x : Rat} (h : DenB D n x) : DenB D n (-x) := by
  obtain ⟨z, h1, h2⟩ := h
  refine ⟨-z, ?_, by omega⟩
  have e : ((-z : Int) : Rat) = -(z : Rat) := by exact_mod_cast rfl
  rw [e, ← h1]; grind
theorem DenB.sub {D n : Nat} {x y : Rat} (h : DenB D n x) (g : DenB D n y) : DenB D (n + 1) (x - y) := by
  have := h.add g.neg
  rw [show x - y = x + -y by grind]
  exact this
theorem DenB.mul {D E n m : Nat} {x y : Rat} (h : DenB D n x) (g : DenB E m y) : DenB (D * E) (n + m) (x * y) := by
  obtain ⟨z, h1, h2⟩ := h
  obtain ⟨t, g1, g2⟩ := g
  refine ⟨z * t, ?_, ?_⟩
  · have e : ((z * t : Int) : Rat) = (z : Rat) * (t : Rat) := by exact_mod_cast rfl
    have e2 : ((D * E : Nat) : Rat) = (D : Rat) * (E : Rat) := by exact_mod_cast rfl
    rw [e, e2, ← h1, ← g1]; grind
  · rw [Int.natAbs_mul, Nat.pow_add]
    exact Nat.mul_le_mul h2 g2
theorem DenB.int {D d n : Nat} {z : Int} (hD : D ≤ 2 ^ d) (h : z.natAbs ≤ 2 ^ n) : DenB D (n + d) (z : Rat) := by
  refine ⟨z * (D : Int), by exact_mod_cast rfl, ?_⟩
  rw [Int.natAbs_mul, Int.natAbs_natCast, Nat.pow_add]
  exact Nat.mul_le_mul h hD
theorem DenB.up {D E n e : Nat} {x : Rat} (h : DenB D n x) (hE : E ≤ 2 ^ e) : DenB (D * E) (n + e) x := by
  obtain ⟨z, h1, h2⟩ := h
  refine ⟨z * (E : Int), ?_, ?_⟩
  · have e : ((z * (E : Int) : Int) : Rat) = (z : Rat) * (E : Rat) := by exact_mod_cast rfl
    have e2 : ((D * E : Nat) : Rat) = (D : Rat) * (E : Rat) := by exact_mod_cast rfl
    rw [e, e2, ← h1]; grind
  · rw [Int.natAbs_mul, Int.natAbs_natCast, Nat.pow_add]
    exact Nat.mul_le_mul h2 hE
theorem DenB.div6 {D n k : Nat} {x : Rat} (h : DenB D n x) (hk : k = 1 ∨ k = 2 ∨ k = 3 ∨ k = 6) : DenB (D * 6) (n + 3) (x / (k : Rat)) := by
  obtain ⟨z, h1, h2⟩ := h
  obtain ⟨q, hq, hq6⟩ : ∃ q : Nat, k * q = 6 ∧ q ≤ 6 := by
    rcases hk with rfl | rfl | rfl | rfl
    · exact ⟨6, rfl, by decide⟩
    · exact ⟨3, rfl, by decide⟩
    · exact ⟨2, rfl, by decide⟩
    · exact ⟨1, rfl, by decide⟩
  refine ⟨z * (q : Int), ?_, ?_⟩
  · have e : ((z * (q : Int) : Int) : Rat) = (z : Rat) * (q : Rat) := by exact_mod_cast rfl
    have e2 : ((D * 6 : Nat) : Rat) = (D : Rat) * ((k : Rat) * (q : Rat)) := by rw [← hq]; exact_mod_cast rfl
    have hk0 := castNe (n := k) (by omega)
    rw [e, e2, ← h1]; grind
  · rw [Int.natAbs_mul, Int.natAbs_natCast, Nat.pow_add]
    exact Nat.mul_le_mul h2 (Nat.le_trans hq6 (by decide))
theorem DenB.sum3 {D n : Nat} : ∀ {l : List Rat}, l.length ≤ 3 → (∀ x ∈ l, DenB D n x) → DenB D (n + 2) l.sum
  | [], _, _ => ⟨0, by show (0 : Rat) * _ = ((0 : Int) : Rat); grind, by simp⟩
  | [a], _, h => by
    rw [show [a].sum = a by show a + 0 = a; grind]
    exact (h a (by simp)).mono (by omega)
  | [a, b], _, h => by
    rw [show [a, b].sum = a + b by show a + (b + 0) = a + b; grind]
    exact ((h a (by simp)).add (h b (by simp))).mono (by omega)
  | [a, b, c], _, h => by
    rw [show [a, b, c].sum = (a + b) + c by show a + (b + (c + 0)) = _; grind]
    exact ((h a (by simp)).add (h b (by simp))).add ((h c (by simp)).mono (by omega))
  | _ :: _ :: _ :: _ :: r, h, _ => by simp at h
theorem DenB.sumN {D n : Nat} : ∀ {l : List Rat}, (∀ x ∈ l, DenB D n x) → ∃ z : Int, l.sum * (D : Rat) = (z : Rat) ∧ z.natAbs ≤ l.length * 2 ^ n
  | [], _ => ⟨0, by show (0 : Rat) * _ = ((0 : Int) : Rat); grind, by simp⟩
  | a :: r, h => by
    obtain ⟨z, h1, h2⟩ := h a (by simp)
    obtain ⟨t, g1, g2⟩ := DenB.sumN (l := r) fun x hx => h x (by simp [hx])
    refine ⟨z + t, ?_, ?_⟩
    · have e : ((z + t : Int) : Rat) = (z : Rat) + (t : Rat) := by exact_mod_cast rfl
      rw [List.sum_cons, e, ← h1, ← g1]; grind
    · rw [List.length_cons, Nat.add_mul]; omega
theorem DenB.sum64 {D n : Nat} {l : List Rat} (hl : l.length ≤ 64) (h : ∀ x ∈ l, DenB D n x) : DenB D (n + 6) l.sum := by
  obtain ⟨z, h1, h2⟩ := DenB.sumN h
  refine ⟨z, h1, Nat.le_trans h2 ?_⟩
  rw [Nat.pow_add, Nat.mul_comm]
  exact Nat.mul_le_mul (Nat.le_refl _) (Nat.le_trans hl (by decide))
/-- what a common denominator says of a fraction in lowest terms -/
theorem den_B {D n d k : Nat} {f : Fr} (hL : Low f) (h : DenB D n (rv f)) (hD1 : 1 ≤ D) (hD : D ≤ 2 ^ d) (hd : d < k) (hn : n < k) : FrB k f := by
  obtain ⟨z, h1, h2⟩ := h
  obtain ⟨p, q⟩ := f
  have hq1 : 1 ≤ q := hL.1
  have hco : Nat.gcd p.natAbs q.natAbs = 1 := hL.2
  have hq0 : (q : Rat) ≠ 0 := ratNe (by omega)
  have e : p * (D : Int) = z * q := by
    have : (p : Rat) * (D : Rat) = (z : Rat) * (q : Rat) := by
      rw [← h1]; unfold rv; grind
    exact_mod_cast this
  have e2 : p.natAbs * D = z.natAbs * q.natAbs := by
    have := congrArg Int.natAbs e
    rwa [Int.natAbs_mul, Int.natAbs_mul, Int.natAbs_natCast] at this
  have hdv : q.natAbs ∣ D := by
    have h3 : q.natAbs ∣ p.natAbs * D := ⟨z.natAbs, by rw [e2, Nat.mul_comm]⟩
    exact Nat.Coprime.dvd_of_dvd_mul_left (show Nat.Coprime q.natAbs p.natAbs from (Nat.gcd_comm _ _).trans hco) h3
  obtain ⟨c, hc⟩ := hdv
  have hc1 : 1 ≤ c := by
    rcases Nat.eq_zero_or_pos c with z | z
    · rw [z] at hc; omega
    · exact z
  have hp : p.natAbs ≤ z.natAbs := by
    rw [hc, ← Nat.mul_assoc, Nat.mul_right_comm] at e2
    have h5 : p.natAbs * c = z.natAbs := Nat.eq_of_mul_eq_mul_right (show 0 < q.natAbs by omega) e2
    rw [← h5]
    exact Nat.le_mul_of_pos_right _ hc1
  have hq : q.natAbs ≤ D := Nat.le_of_dvd hD1 ⟨c, hc⟩
  exact ⟨Nat.lt_of_le_of_lt hp (Nat.lt_of_le_of_lt h2 (Nat.pow_lt_pow_right (by decide) hn)), Nat.lt_of_le_of_lt hq (Nat.lt_of_le_of_lt hD (Nat.pow_lt_pow_right (by decide) hd))⟩
/-! products of a list -/
def prodN : List Nat → Nat
  | [] => 1
  | x :: r => x * prodN r
theorem prodN_le {b : Nat} : ∀ {l : List Nat}, (∀ x ∈ l, 1 ≤ x ∧ x ≤ 2 ^ b) → 1 ≤ prodN l ∧ prodN l ≤ 2 ^ (b * l.length)
  | [], _ => by simp [prodN]
  | x :: r, h => by
    have h1 := h x (by simp)
    have h2 := prodN_le (l := r) fun z hz => h z (by simp [hz])
    refine ⟨Nat.mul_le_mul h1.1 h2.1, ?_⟩
    show x * prodN r ≤ _
    rw [List.length_cons, Nat.mul_add, Nat.mul_one, Nat.add_comm, Nat.pow_add]
    exact Nat.mul_le_mul h1.2 h2.2
theorem prodN_mem : ∀ {l : List Nat} {x : Nat}, x ∈ l → ∃ c, prodN l = x * c
  | [], _, h => by cases h
  | y :: r, x, h => by
    rcases List.mem_cons.mp h with rfl | h
    · exact ⟨prodN r, rfl⟩
    · obtain ⟨c, hc⟩ := prodN_mem h
      exact ⟨y * c, by show y * prodN r = _; rw [hc]; exact Nat.mul_left_comm _ _ _⟩
/-- p / x, where x divides D -/
theorem den_frac {D d n : Nat} {p x : Int} {c : Nat} (hx : 1 ≤ x) (hD : D = x.natAbs * c) (hD1 : 1 ≤ D) (hDd : D ≤ 2 ^ d) (hp : p.natAbs ≤ 2 ^ n) : DenB D (n + d) ((p : Rat) / (x : Rat)) := by
  refine ⟨p * (c : Int), ?_, ?_⟩
  · have e : ((p * (c : Int) : Int) : Rat) = (p : Rat) * (c : Rat) := by exact_mod_cast rfl
    have hx0 : (x : Rat) ≠ 0 := ratNe (by omega)
    have e2 : (D : Rat) = (x : Rat) * (c : Rat) := by
      have : (D : Int) = x * (c : Int) := by
        rw [hD, Int.natCast_mul]
        congr 1
        omega
      exact_mod_cast this
    rw [e, e2]; grind
  · rw [Int.natAbs_mul, Int.natAbs_natCast, Nat.pow_add]
    refine Nat.mul_le_mul hp (Nat.le_trans ?_ hDd)
    rw [hD]
    exact Nat.le_mul_of_pos_left _ (by omega)
/-! the denominators of all orders -/
def dW (xs : List (Addr × Row)) : Nat := prodN (xs.map fun x => x.2.w.natAbs)
def mx1 (z : Int) : Nat := if z < 1 then 1 else z.natAbs
def d1 (T : Int) (xs : List (Addr × Row)) : Nat := prodN (xs.map fun x => mx1 (T - x.2.w))
def d2 (T : Int) (xs : List (Addr × Row)) : Nat := prodN (xs.flatMap fun x => xs.map fun y => mx1 (T - (x.2.w + y.2.w)))
theorem mx1_B {z : Int} (h : z ≤ 8000) : 1 ≤ mx1 z ∧ mx1 z ≤ 2 ^ 13 := by
  unfold mx1
  split
  · exact ⟨by decide, by decide⟩
  · exact ⟨by omega, by omega⟩
structure Sit5 (xs : List (Addr × Row)) (T : Int) : Prop extends Sit xs T where
  n1 : 1 ≤ xs.length
  n5 : xs.length ≤ 5
theorem Sit5.T1 {xs : List (Addr × Row)} {T : Int} (S : Sit5 xs T) : 1 ≤ T ∧ T ≤ 5000 := by
  have h := sum_leI (c := 1000) (l := wts xs) fun z hz => by
    obtain ⟨x, hx, rfl⟩ := List.mem_map.mp hz
    have := S.ws x hx
    exact ⟨by have := this.w0; omega, this.w1⟩
  have h2 := sum_geI (l := wts xs) fun z hz => by
    obtain ⟨x, hx, rfl⟩ := List.mem_map.mp hz
    exact (S.ws x hx).w0
  have hl : (wts xs).length = xs.length := by unfold wts; rw [List.length_map]
  have := S.n1
  have := S.n5
  rw [hl] at h h2
  rw [S.tot] at h h2
  omega
theorem dW_B {xs : List (Addr × Row)} {T : Int} (S : Sit5 xs T) : 1 ≤ dW xs ∧ dW xs ≤ 2 ^ 50 := by
  have h := prodN_le (b := 10) (l := xs.map fun x => x.2.w.natAbs) fun z hz => by
    obtain ⟨x, hx, rfl⟩ := List.mem_map.mp hz
    have := (S.ws x hx).w0
    have := (S.ws x hx).w1
    exact ⟨by omega, by omega⟩
  rw [List.length_map] at h
  exact ⟨h.1, Nat.le_trans h.2 (Nat.pow_le_pow_right (by decide) (by have := S.n5; omega))⟩
theorem d1_B {xs : List (Addr × Row)} {T : Int} (S : Sit5 xs T) : 1 ≤ d1 T xs ∧ d1 T xs ≤ 2 ^ 65 := by
  have hT := S.T1
  have h := prodN_le (b := 13) (l := xs.map fun x => mx1 (T - x.2.w)) fun z hz => by
    obtain ⟨x, hx, rfl⟩ := List.mem_map.mp hz
    have := (S.ws x hx).w0
    exact mx1_B (by omega)
  rw [List.length_map] at h
  exact ⟨h.1, Nat.le_trans h.2 (Nat.pow_le_pow_right (by decide) (by have := S.n5; omega))⟩
theorem d2_B {xs : List (Addr × Row)} {T : Int} (S : Sit5 xs T) : 1 ≤ d2 T xs ∧ d2 T xs ≤ 2 ^ 325 := by
  have hT := S.T1
  have h := prodN_le (b := 13) (l := xs.flatMap fun x => xs.map fun y => mx1 (T - (x.2.w + y.2.w))) fun z hz => by
    obtain ⟨x, hx, h2⟩ := List.mem_flatMap.mp hz
    obtain ⟨y, hy, rfl⟩ := List.mem_map.mp h2
    have := (S.ws x hx).w0
    have := (S.ws y hy).w0
    exact mx1_B (by omega)
  have hl : (xs.flatMap fun x => xs.map fun y => mx1 (T - (x.2.w + y.2.w))).length ≤ 25 := by
    have : ∀ L : List (Addr × Row), (L.flatMap fun x => xs.map fun y => mx1 (T - (x.2.w + y.2.w))).length = xs.length * L.length := by
      intro L
      induction L with
      | nil => rfl
      | cons a r ih => rw [List.flatMap_cons, List.length_append, List.length_map, ih, List.length_cons, Nat.mul_add]; omega
    rw [this]
    exact Nat.mul_le_mul S.n5 S.n5
  exact ⟨h.1, Nat.le_trans h.2 (Nat.pow_le_pow_right (by decide) (by omega))⟩
def dC (T : Int) (xs : List (Addr × Row)) : Nat := T.natAbs * (d1 T xs * d2 T xs)
theorem dC_B {xs : List (Addr × Row)} {T : Int} (S : Sit5 xs T) : 1 ≤ dC T xs ∧ dC T xs ≤ 2 ^ 403 := by
  have hT := S.T1
  have h1 := d1_B S
  have h2 := d2_B S
  refine ⟨Nat.mul_le_mul (show 1 ≤ T.natAbs by omega) (Nat.mul_le_mul h1.1 h2.1), ?_⟩
  have h3 : T.natAbs * (d1 T xs * d2 T xs) ≤ 2 ^ 13 * (2 ^ 65 * 2 ^ 325) := Nat.mul_le_mul (show T.natAbs ≤ 2 ^ 13 by omega) (Nat.mul_le_mul h1.2 h2.2)
  rw [← Nat.pow_add, ← Nat.pow_add] at h3
  exact h3
theorem mx1_eq {z : Int} (h : 1 ≤ z) : mx1 z = z.natAbs := by unfold mx1; rw [if_neg (by omega)]
/-- the chance of an order of at most three -/
theorem ch_D {xs : List (Addr × Row)} {T : Int} (S : Sit5 xs T) {m : Nat} (hm : m ≤ 3) (hmn : m ≤ xs.length) : ∀ o ∈ ordS xs m, DenB (dC T xs) 440 (ch T o) := by
  have hT := S.T1
  have h1 := d1_B S
  have h2 := d2_B S
  have step : ∀ (o : List (Addr × Row)) (x : Addr × Row), GoodO xs o → o.length < xs.length → x ∈ rem xs o → ch T (o ++ [x]) = ch T o * ((x.2.w : Rat) / ((T - (wts o).sum : Int) : Rat)) := fun o x g hl hx => by
    have hp := S.left_pos g hl
    unfold ch
    rw [chF_snoc, if_neg (by omega), rv_ftimes (chF_low T _ o rfl).ne (lo_low (by omega)).ne, rv_lo (by omega)]
  have hwB : ∀ x ∈ xs, x.2.w.natAbs ≤ 2 ^ 10 := fun x hx => by
    have := (S.ws x hx).w0
    have := (S.ws x hx).w1
    omega
  have c0 : ch T [] = 1 := by show rv (1, 1) = 1; rw [rv_int]; rfl
  have hone : DenB 1 0 (1 : Rat) := ⟨1, by show (1 : Rat) * ((1 : Nat) : Rat) = ((1 : Int) : Rat); grind, by decide⟩
  have t1 : ∀ x ∈ xs, DenB T.natAbs 23 ((x.2.w : Rat) / ((T - (wts []).sum : Int) : Rat)) := fun x hx => by
    have e : T - (wts []).sum = T := by show T - 0 = T; omega
    rw [e]
    exact den_frac (d := 13) (n := 10) (c := 1) hT.1 (by omega) (by omega) (by omega) (hwB x hx)
  have t2 : ∀ a ∈ xs, ∀ x ∈ xs, 1 ≤ T - (wts [a]).sum → DenB (d1 T xs) 75 ((x.2.w : Rat) / ((T - (wts [a]).sum : Int) : Rat)) := fun a ha x hx hp => by
    have e : (wts [a]).sum = a.2.w := by show a.2.w + 0 = a.2.w; omega
    rw [e] at hp ⊢
    obtain ⟨c, hc⟩ := prodN_mem (l := xs.map fun x => mx1 (T - x.2.w)) (x := mx1 (T - a.2.w)) (List.mem_map.mpr ⟨a, ha, rfl⟩)
    rw [mx1_eq hp] at hc
    exact den_frac (d := 65) (n := 10) hp hc h1.1 h1.2 (hwB x hx)
  have t3 : ∀ a ∈ xs, ∀ b ∈ xs, ∀ x ∈ xs, 1 ≤ T - (wts [a, b]).sum → DenB (d2 T xs) 335 ((x.2.w : Rat) / ((T - (wts [a, b]).sum : Int) : Rat)) := fun a ha b hb x hx hp => by
    have e : (wts [a, b]).sum = a.2.w + b.2.w := by show a.2.w + (b.2.w + 0) = _; omega
    rw [e] at hp ⊢
    obtain ⟨c, hc⟩ := prodN_mem (l := xs.flatMap fun x => xs.map fun y => mx1 (T - (x.2.w + y.2.w))) (x := mx1 (T - (a.2.w + b.2.w))) (List.mem_flatMap.mpr ⟨a, ha, List.mem_map.mpr ⟨b, hb, rfl⟩⟩)
    rw [mx1_eq hp] at hc
    exact den_frac (d := 325) (n := 10) hp hc h2.1 h2.2 (hwB x hx)
  have g0 := good_nil xs
  have full : ∀ {D n : Nat} {x : Rat}, D ≤ 2 ^ 0 → True := fun _ => trivial
  intro o ho
  have h12 : d1 T xs * d2 T xs ≤ 2 ^ 390 := by
    have := Nat.mul_le_mul h1.2 h2.2
    rwa [← Nat.pow_add] at this
  match m, hm, ho with
  | 0, _, ho =>
    rw [List.mem_singleton.mp ho, c0]
    have := DenB.int (d := 403) (n := 0) (z := 1) (dC_B S).2 (by decide)
    exact (show DenB (dC T xs) (0 + 403) (1 : Rat) from by rw [show (1 : Rat) = ((1 : Int) : Rat) by rfl]; exact this).mono (by decide)
  | 1, _, ho =>
    obtain ⟨o0, h0, hx0⟩ := List.mem_flatMap.mp ho
    rw [List.mem_singleton.mp h0] at hx0
    obtain ⟨a, ha, rfl⟩ := List.mem_map.mp hx0
    have ham := (List.mem_filter.mp ha).1
    rw [step [] a g0 (by show 0 < _; omega) ha, c0]
    rw [show (1 : Rat) * ((a.2.w : Rat) / ((T - (wts []).sum : Int) : Rat)) = (a.2.w : Rat) / ((T - (wts []).sum : Int) : Rat) by grind]
    exact ((t1 a ham).up h12).mono (by decide)
  | 2, _, ho =>
    obtain ⟨o1, h1', hx1⟩ := List.mem_flatMap.mp ho
    obtain ⟨b, hb, rfl⟩ := List.mem_map.mp hx1
    have hbm := (List.mem_filter.mp hb).1
    have g1 := ordS_good S.nd 1 o1 h1'
    obtain ⟨o0, h0, hx0⟩ := List.mem_flatMap.mp h1'
    rw [List.mem_singleton.mp h0] at hx0
    obtain ⟨a, ha, rfl⟩ := List.mem_map.mp hx0
    have ham := (List.mem_filter.mp ha).1
    have hp := S.left_pos g1.1 (by omega)
    rw [step _ b g1.1 (by omega) hb]
    rw [show ([] : List (Addr × Row)) ++ [a] = [a] from rfl] at hp ⊢
    rw [show ch T [a] = (a.2.w : Rat) / ((T - (wts []).sum : Int) : Rat) by
      have := step [] a g0 (by show 0 < _; omega) ha
      rw [c0] at this
      rw [show ([] : List (Addr × Row)) ++ [a] = [a] from rfl] at this
      rw [this]; grind]
    have h := ((t1 a ham).mul ((t2 a ham b hbm hp).up h2.2))
    exact h.mono (by decide)
  | 3, _, ho =>
    obtain ⟨o2, h2', hx2⟩ := List.mem_flatMap.mp ho
    obtain ⟨c, hc, rfl⟩ := List.mem_map.mp hx2
    have hcm := (List.mem_filter.mp hc).1
    have g2 := ordS_good S.nd 2 o2 h2'
    obtain ⟨o1, h1', hx1⟩ := List.mem_flatMap.mp h2'
    obtain ⟨b, hb, rfl⟩ := List.mem_map.mp hx1
    have hbm := (List.mem_filter.mp hb).1
    have g1 := ordS_good S.nd 1 o1 h1'
    obtain ⟨o0, h0, hx0⟩ := List.mem_flatMap.mp h1'
    rw [List.mem_singleton.mp h0] at hx0
    obtain ⟨a, ha, rfl⟩ := List.mem_map.mp hx0
    have ham := (List.mem_filter.mp ha).1
    have hp1 := S.left_pos g1.1 (by omega)
    have hp2 := S.left_pos g2.1 (by omega)
    rw [step _ c g2.1 (by omega) hc, step _ b g1.1 (by omega) hb]
    rw [show ([] : List (Addr × Row)) ++ [a] = [a] from rfl] at hp1 hp2 ⊢
    rw [show [a] ++ [b] = [a, b] from rfl] at hp2 ⊢
    rw [show ch T [a] = (a.2.w : Rat) / ((T - (wts []).sum : Int) : Rat) by
      have := step [] a g0 (by show 0 < _; omega) ha
      rw [c0] at this
      rw [show ([] : List (Addr × Row)) ++ [a] = [a] from rfl] at this
      rw [this]; grind]
    have h := (t1 a ham).mul ((t2 a ham b hbm hp1).mul (t3 a ham b hbm c hcm hp2))
    rw [← show (a.2.w : Rat) / ((T - (wts []).sum : Int) : Rat) * ((b.2.w : Rat) / ((T - (wts [a]).sum : Int) : Rat) * ((c.2.w : Rat) / ((T - (wts [a, b]).sum : Int) : Rat))) = (a.2.w : Rat) / ((T - (wts []).sum : Int) : Rat) * ((b.2.w : Rat) / ((T - (wts [a]).sum : Int) : Rat)) * ((c.2.w : Rat) / ((T - (wts [a, b]).sum : Int) : Rat)) by grind]
    exact h.mono (by decide)

/-! ### what the law asks, over all orders -/
theorem nums_D {xs : List (Addr × Row)} {T : Int} (S : Sit5 xs T) {kvs : List (Key × V)} (ho : AmtOk kvs) : ∀ (m : Nat) (o : List (Addr × Row)), o.length = m → m ≤ 3 → (∀ x ∈ o, x ∈ xs) → ∀ v ∈ nums kvs T o, DenB (dW xs) 68 v
  | 0, o, h, _, _ => by
    rw [List.length_eq_zero_iff.mp h]
    intro v hv; cases hv
  | m + 1, o, h, h3, hs => by
    have hne : o ≠ [] := fun z => by rw [z] at h; simp at h
    have e := (List.dropLast_concat_getLast hne).symm
    have hl : o.dropLast.length = m := by rw [List.length_dropLast]; omega
    rw [e] at hs ⊢
    generalize o.getLast hne = x at hs ⊢
    generalize o.dropLast = us at hl hs ⊢
    have hxm := hs x (by simp)
    have hu : ∀ x ∈ us, x ∈ xs := fun z hz => hs z (by simp [hz])
    rw [nums_snoc kvs T us (S.ws x hxm)]
    refine mem_append_one (nums_D S ho m us hl (by omega) hu) ?_
    have hT := S.T1
    have hw := wts_B (ps := us) (fun z hz => S.ws z (hu z hz)) (by omega)
    have ha := amts_S ho (ps := us) (by omega)
    have hd := dW_B S
    obtain ⟨c, hc⟩ := prodN_mem (l := xs.map fun x => x.2.w.natAbs) (x := x.2.w.natAbs) (List.mem_map.mpr ⟨x, hxm, rfl⟩)
    have hb := DenB.int (D := dW xs) (d := 50) (n := 5) (z := (amts kvs us).sum) hd.2 (by omega)
    have hf := den_frac (D := dW xs) (d := 50) (n := 17) (p := amt kvs x.2.k * (T - (wts us).sum)) (x := x.2.w) (S.ws x hxm).w0 hc hd.1 hd.2 (Nat.le_of_lt (amt_mul_B (amt_le ho _) (by omega)))
    have e2 : qE kvs T us x = (((amts kvs us).sum : Int) : Rat) + ((amt kvs x.2.k * (T - (wts us).sum) : Int) : Rat) / ((x.2.w : Int) : Rat) := by
      unfold qE
      have : ((amt kvs x.2.k * (T - (wts us).sum) : Int) : Rat) = ((amt kvs x.2.k : Int) : Rat) * ((T : Rat) - (((wts us).sum : Int) : Rat)) := by exact_mod_cast rfl
      rw [this]
    rw [e2]
    exact (hb.mono (show 55 ≤ 67 by decide)).add hf
theorem Sit5.whole {xs : List (Addr × Row)} {T : Int} (S : Sit5 xs T) {o : List (Addr × Row)} (g : GoodO xs o) : (wts o).sum = T ↔ o.length = xs.length := by
  constructor
  · intro h
    refine Decidable.byContradiction fun z => ?_
    have := g.len
    have := S.left_pos g (by omega)
    omega
  · intro h
    have h1 := S.left g
    have h2 := g.len
    have e : rem xs o = [] := List.length_eq_zero_iff.mp (by omega)
    rw [e] at h1
    have : T - (wts o).sum = 0 := h1
    omega
theorem whole_amts {xs o : List (Addr × Row)} (kvs : List (Key × V)) (g : GoodO xs o) (h : o.length = xs.length) : (amts kvs o).sum = (amts kvs xs).sum := by
  have h1 := g.fi fun x => amt kvs x.2.k
  have h2 := g.len
  have e : rem xs o = [] := List.length_eq_zero_iff.mp (by omega)
  rw [e] at h1
  have h3 : (0 : Int) + (amts kvs o).sum = (amts kvs xs).sum := h1
  omega
theorem numsR_D {xs : List (Addr × Row)} {T : Int} (S : Sit5 xs T) {kvs : List (Key × V)} (ho : AmtOk kvs) {m : Nat} {o : List (Addr × Row)} (hl : o.length = m) (h1 : 1 ≤ m) (h3 : m ≤ 3) (hs : ∀ x ∈ o, x ∈ xs) : (∀ v ∈ numsR kvs T o, DenB (dW xs) 68 v) ∧ 1 ≤ (numsR kvs T o).length ∧ (numsR kvs T o).length ≤ 3 := by
  unfold numsR
  split
  · refine ⟨fun v hv => ?_, Nat.le_refl 1, show (1 : Nat) ≤ 3 by decide⟩
    rw [List.mem_singleton.mp hv]
    have ha := amts_S ho (ps := o) (by omega)
    exact (DenB.int (D := dW xs) (d := 50) (n := 5) (dW_B S).2 (by omega)).mono (by decide)
  · refine ⟨nums_D S ho m o hl h3 hs, ?_, ?_⟩
    · have := nums_len kvs T o; unfold nums at this; omega
    · have := nums_len kvs T o; unfold nums at this; omega
theorem mean_D {D n : Nat} {l : List Rat} (h : ∀ v ∈ l, DenB D n v) (h1 : 1 ≤ l.length) (h3 : l.length ≤ 3) : DenB (D * 6) (n + 5) (meanR l) := by
  unfold meanR
  exact (DenB.sum3 h3 h).div6 (by omega)
def dE (xs : List (Addr × Row)) : Nat := dW xs * 6
theorem dE_B {xs : List (Addr × Row)} {T : Int} (S : Sit5 xs T) : 1 ≤ dE xs ∧ dE xs ≤ 2 ^ 53 := by
  have h := dW_B S
  unfold dE
  omega
def dV (xs : List (Addr × Row)) : Nat := dE xs * (dE xs * 6)
theorem dV2_B {xs : List (Addr × Row)} {T : Int} (S : Sit5 xs T) : 1 ≤ dE xs * 6 ∧ dE xs * 6 ≤ 2 ^ 56 := by
  have h := dE_B S
  omega
theorem dV_B {xs : List (Addr × Row)} {T : Int} (S : Sit5 xs T) : 1 ≤ dV xs ∧ dV xs ≤ 2 ^ 109 := by
  have h1 := dE_B S
  have h2 := dV2_B S
  refine ⟨Nat.mul_le_mul h1.1 h2.1, ?_⟩
  have := Nat.mul_le_mul h1.2 h2.2
  rwa [← Nat.pow_add] at this
theorem sq_D {xs : List (Addr × Row)} {T : Int} (S : Sit5 xs T) {l : List Rat} (h : ∀ v ∈ l, DenB (dW xs) 68 v) (h1 : 1 ≤ l.length) (h3 : l.length ≤ 3) : DenB (dE xs * dE xs) 150 (sqR l) := by
  have hm := mean_D h h1 h3
  unfold sqR
  refine DenB.sum3 (n := 148) (by rw [List.length_map]; exact h3) fun z hz => ?_
  obtain ⟨v, hv, rfl⟩ := List.mem_map.mp hz
  have hv2 : DenB (dE xs) 73 v := ((h v hv).up (E := 6) (e := 3) (by decide)).mono (by decide)
  have hd : DenB (dE xs) 74 (v - meanR l) := hv2.sub hm
  exact hd.mul hd
theorem varR_D {xs : List (Addr × Row)} {T : Int} (S : Sit5 xs T) {kvs : List (Key × V)} (ho : AmtOk kvs) {m : Nat} {o : List (Addr × Row)} (hl : o.length = m) (h1 : 1 ≤ m) (h3 : m ≤ 3) (hs : ∀ x ∈ o, x ∈ xs) (hv : ¬ (o.length = 1 ∧ (wts o).sum ≠ T)) : DenB (dV xs) 153 (varR kvs T o) := by
  have hd := dV_B S
  by_cases hw : (wts o).sum = T
  · unfold varR
    rw [if_pos hw]
    have := DenB.int (D := dV xs) (d := 109) (n := 0) (z := 0) hd.2 (by decide)
    exact (show DenB (dV xs) (0 + 109) (0 : Rat) from this).mono (by decide)
  · have hR := numsR_D S ho hl h1 h3 hs
    unfold numsR at hR
    rw [if_neg hw] at hR
    unfold varR
    rw [if_neg hw]
    have hq := sq_D S hR.1 hR.2.1 hR.2.2
    have h2 : 2 ≤ o.length := by omega
    have hk : o.length * (o.length - 1) = 2 ∨ o.length * (o.length - 1) = 6 := by
      have : o.length = 2 ∨ o.length = 3 := by omega
      rcases this with z | z <;> rw [z]
      · exact .inl rfl
      · exact .inr rfl
    have h6 := hq.div6 (k := o.length * (o.length - 1)) (by omega)
    have e : dE xs * dE xs * 6 = dV xs := Nat.mul_assoc _ _ _
    rw [e] at h6
    rw [show 1 / ((o.length * (o.length - 1) : Nat) : Rat) * sqR ((ordF kvs 0 T o).map rv) = sqR ((ordF kvs 0 T o).map rv) / ((o.length * (o.length - 1) : Nat) : Rat) by grind]
    exact h6
/-- the one denominator of all sums, and its bound -/
def dA (T : Int) (xs : List (Addr × Row)) : Nat := dV xs * dC T xs
theorem dA_B {xs : List (Addr × Row)} {T : Int} (S : Sit5 xs T) : 1 ≤ dA T xs ∧ dA T xs ≤ 2 ^ 512 := by
  have h1 := dV_B S
  have h2 := dC_B S
  refine ⟨Nat.mul_le_mul h1.1 h2.1, ?_⟩
  have := Nat.mul_le_mul h1.2 h2.2
  rwa [← Nat.pow_add] at this
structure TermD (kvs : List (Key × V)) (T : Int) (xs o : List (Addr × Row)) : Prop where
  est : DenB (dA T xs) 650 (meanR (numsR kvs T o) * ch T o)
  var : ¬ (o.length = 1 ∧ (wts o).sum ≠ T) → DenB (dA T xs) 650 (varR kvs T o * ch T o)
  sp : DenB (dA T xs) 650 (ch T o * ((meanR (numsR kvs T o) - (((amts kvs xs).sum : Int) : Rat)) * (meanR (numsR kvs T o) - (((amts kvs xs).sum : Int) : Rat))))
  at_ : ∀ v ∈ numsR kvs T o, DenB (dA T xs) 650 (v * ch T o)
theorem term_D {xs : List (Addr × Row)} {T : Int} (S : Sit5 xs T) {kvs : List (Key × V)} (ho : AmtOk kvs) {m : Nat} (h1 : 1 ≤ m) (h3 : m ≤ 3) (hmn : m ≤ xs.length) {o : List (Addr × Row)} (hm : o ∈ ordS xs m) : TermD kvs T xs o := by
  obtain ⟨g, hl⟩ := ordS_good S.nd m o hm
  have hc := ch_D S h3 hmn o hm
  have hR := numsR_D S ho hl h1 h3 g.sub
  have he : DenB (dE xs) 73 (meanR (numsR kvs T o)) := mean_D hR.1 hR.2.1 hR.2.2
  have h6 := (dV2_B S).2
  have hab := sum_absI (c := 10) (l := amts kvs xs) (amts_B ho)
  have hal : (amts kvs xs).length = xs.length := by unfold amts; rw [List.length_map]
  have hS6 : (amts kvs xs).sum.natAbs ≤ 2 ^ 6 := by rw [hal] at hab; have := S.n5; omega
  have hS : DenB (dE xs) 73 (((amts kvs xs).sum : Int) : Rat) := (DenB.int (d := 53) (n := 6) (dE_B S).2 hS6).mono (by decide)
  have hdf := he.sub hS
  have hsq : DenB (dV xs) 151 _ := (show DenB (dE xs * dE xs * 6) _ _ from (hdf.mul hdf).up (E := 6) (e := 3) (by decide)) |> fun z => by rw [Nat.mul_assoc] at z; exact z
  refine ⟨?_, fun hv => ?_, ?_, fun v hv => ?_⟩
  · exact (((he.up h6 : DenB (dV xs) _ _).mul hc : DenB (dA T xs) _ _)).mono (by decide)
  · exact ((varR_D S ho hl h1 h3 g.sub hv).mul hc : DenB (dA T xs) _ _).mono (by decide)
  · rw [Rat.mul_comm]
    exact (hsq.mul hc : DenB (dA T xs) _ _).mono (by decide)
  · have hv2 : DenB (dE xs) 71 v := (hR.1 v hv).up (E := 6) (e := 3) (by decide)
    exact ((hv2.up h6 : DenB (dV xs) _ _).mul hc : DenB (dA T xs) _ _).mono (by decide)
/-! the values -/
theorem ex_scale {T : Int} (a : Rat) (f : List (Addr × Row) → Rat) (L : List (List (Addr × Row))) : ex T L (fun o => a * f o) = a * ex T L f := by
  have := ex_lin T a 0 f (fun _ => 0) L
  rw [show (fun o => a * f o) = fun o => a * f o + 0 * (0 : Rat) by funext o; grind, this]
  grind
theorem sq_around (m : Rat) : ∀ ws : List Rat, (ws.map fun w => (w - m) * (w - m)).sum = sq2 ws - 2 * m * ws.sum + (ws.length : Rat) * (m * m)
  | [] => by show (0 : Rat) = 0 - 2 * m * 0 + ((0 : Nat) : Rat) * (m * m); grind
  | w :: r => by
    have ih := sq_around m r
    have e : ((r.length + 1 : Nat) : Rat) = (r.length : Rat) + 1 := by exact_mod_cast rfl
    unfold sq2 at ih ⊢
    rw [List.map_cons, List.map_cons, List.sum_cons, List.sum_cons, List.sum_cons, ih, List.length_cons, e]
    grind
theorem sqR_eq {ws : List Rat} {s : Nat} (h : ws.length = s) (h1 : 1 ≤ s) : sqR ws = sq2 ws - ws.sum * ws.sum / (s : Rat) := by
  unfold sqR meanR
  rw [sq_around, h]
  have h0 := castNe h1
  grind
structure FinO (kvs : List (Key × V)) (T : Int) (xs : List (Addr × Row)) (m : Nat) : Prop where
  mean : ex T (ordS xs m) (fun o => meanR (numsR kvs T o)) = (((amts kvs xs).sum : Int) : Rat)
  var : ¬ (m = 1 ∧ xs.length ≠ 1) → ex T (ordS xs m) (varR kvs T) = ((ordS xs m).map fun o => ch T o * ((meanR (numsR kvs T o) - (((amts kvs xs).sum : Int) : Rat)) * (meanR (numsR kvs T o) - (((amts kvs xs).sum : Int) : Rat)))).sum
  at_ : m < xs.length → ∀ k, k < m → ex T (ordS xs m) (fun o => (numsR kvs T o).getD k 0) = (((amts kvs xs).sum : Int) : Rat)
theorem fin_o {xs : List (Addr × Row)} {T : Int} (S : Sit5 xs T) (kvs : List (Key × V)) {m : Nat} (h1 : 1 ≤ m) (hmn : m ≤ xs.length) : FinO kvs T xs m := by
  have esp : ((ordS xs m).map fun o => ch T o * ((meanR (numsR kvs T o) - (((amts kvs xs).sum : Int) : Rat)) * (meanR (numsR kvs T o) - (((amts kvs xs).sum : Int) : Rat)))).sum = ex T (ordS xs m) fun o => (meanR (numsR kvs T o) - (((amts kvs xs).sum : Int) : Rat)) * (meanR (numsR kvs T o) - (((amts kvs xs).sum : Int) : Rat)) := by
    unfold ex
    congr 1
    exact List.map_congr_left fun o _ => Rat.mul_comm _ _
  rw [show FinO kvs T xs m ↔ FinO kvs T xs m from Iff.rfl]
  have hone := ex_one S.toSit m hmn
  by_cases hw : m = xs.length
  · have hn : ∀ o ∈ ordS xs m, numsR kvs T o = [(((amts kvs xs).sum : Int) : Rat)] ∧ (wts o).sum = T := fun o ho => by
      obtain ⟨g, hl⟩ := ordS_good S.nd m o ho
      have e := (S.whole g).mpr (by omega)
      unfold numsR
      rw [if_pos e, whole_amts kvs g (by omega)]
      exact ⟨rfl, e⟩
    have hme : ∀ o ∈ ordS xs m, meanR (numsR kvs T o) = (((amts kvs xs).sum : Int) : Rat) := fun o ho => by
      rw [(hn o ho).1]
      show (_ + 0) / ((1 : Nat) : Rat) = _
      grind
    refine ⟨?_, fun _ => ?_, fun z => by omega⟩
    · rw [ex_congr (g := fun o => (((amts kvs xs).sum : Int) : Rat) * 1) (fun o ho => by rw [hme o ho]; grind), ex_scale _ (fun _ => 1), hone]
      grind
    · rw [esp, ex_congr (g := fun o => 0 * 1) (fun o ho => by unfold varR; rw [if_pos (hn o ho).2]; grind), ex_congr (f := fun o => (meanR (numsR kvs T o) - (((amts kvs xs).sum : Int) : Rat)) * (meanR (numsR kvs T o) - (((amts kvs xs).sum : Int) : Rat))) (g := fun o => 0 * 1) (fun o ho => by rw [hme o ho]; grind)]
  · have hn : ∀ o ∈ ordS xs m, numsR kvs T o = nums kvs T o ∧ (wts o).sum ≠ T ∧ (nums kvs T o).length = m := fun o ho => by
      obtain ⟨g, hl⟩ := ordS_good S.nd m o ho
      have e : (wts o).sum ≠ T := fun z => hw (by rw [← hl]; exact (S.whole g).mp z)
      have := nums_len kvs T o
      unfold numsR
      rw [if_neg e]
      exact ⟨rfl, e, by omega⟩
    have hme : ∀ o ∈ ordS xs m, meanR (numsR kvs T o) = 1 / (m : Rat) * (nums kvs T o).sum := fun o ho => by
      obtain ⟨e1, e2, e3⟩ := hn o ho
      rw [e1]
      unfold meanR
      rw [e3]
      grind
    have hm0 := castNe h1
    have s1 := ex_s1 S.toSit kvs m hmn
    have s2 := ex_s2 S.toSit kvs m hmn
    have hs2 : ex T (ordS xs m) (fun o => (nums kvs T o).sum * (nums kvs T o).sum - sq2 (nums kvs T o)) = ex T (ordS xs m) (fun o => (nums kvs T o).sum * (nums kvs T o).sum) - ex T (ordS xs m) (fun o => sq2 (nums kvs T o)) := by
      have := ex_lin T 1 (-1) (fun o => (nums kvs T o).sum * (nums kvs T o).sum) (fun o => sq2 (nums kvs T o)) (ordS xs m)
      rw [ex_congr (g := fun o => 1 * ((nums kvs T o).sum * (nums kvs T o).sum) + (-1) * sq2 (nums kvs T o)) (fun o _ => by grind), this]
      grind
    rw [hs2] at s2
    refine ⟨?_, fun hv => ?_, fun _ k hk => ?_⟩
    · rw [ex_congr hme, ex_scale, s1]
      grind
    · rw [esp]
      have hm2 : 2 ≤ m := by omega
      have hm1 : ((m - 1 : Nat) : Rat) = (m : Rat) - 1 := by
        obtain ⟨d, rfl⟩ : ∃ d, m = d + 1 := ⟨m - 1, by omega⟩
        rw [Nat.add_sub_cancel]
        have : ((d + 1 : Nat) : Rat) = (d : Rat) + 1 := by exact_mod_cast rfl
        rw [this]; grind
      have hm10 : (m : Rat) - 1 ≠ 0 := by rw [← hm1]; exact castNe (by omega)
      have e1 : ∀ o ∈ ordS xs m, varR kvs T o = 1 / ((m : Rat) * ((m : Rat) - 1)) * sq2 (nums kvs T o) + (-(1 / ((m : Rat) * ((m : Rat) - 1)) / (m : Rat))) * ((nums kvs T o).sum * (nums kvs T o).sum) := fun o ho => by
        obtain ⟨q1, q2, q3⟩ := hn o ho
        have hl := (ordS_good S.nd m o ho).2
        unfold varR
        rw [if_neg q2, hl]
        have e : ((m * (m - 1) : Nat) : Rat) = (m : Rat) * ((m : Rat) - 1) := by
          rw [← hm1]; exact_mod_cast rfl
        rw [e]
        have := sqR_eq q3 h1
        unfold nums at this ⊢
        rw [this]
        grind
      rw [ex_congr e1, ex_lin T _ _ (fun o => sq2 (nums kvs T o)) (fun o => (nums kvs T o).sum * (nums kvs T o).sum)]
      generalize hSv : (((amts kvs xs).sum : Int) : Rat) = Sv at *
      have e2 : ∀ o ∈ ordS xs m, (meanR (numsR kvs T o) - Sv) * (meanR (numsR kvs T o) - Sv) = 1 / (m : Rat) * (1 / (m : Rat)) * ((nums kvs T o).sum * (nums kvs T o).sum) + 1 * (-(2 * Sv * (1 / (m : Rat))) * (nums kvs T o).sum + Sv * Sv * 1) := fun o ho => by
        rw [hme o ho]; grind
      rw [ex_congr e2, ex_lin T _ 1 (fun o => (nums kvs T o).sum * (nums kvs T o).sum) (fun o => -(2 * Sv * (1 / (m : Rat))) * (nums kvs T o).sum + Sv * Sv * 1), ex_lin T _ _ (fun o => (nums kvs T o).sum) (fun _ => 1), s1, hone]
      generalize ex T (ordS xs m) (fun o => (nums kvs T o).sum * (nums kvs T o).sum) = A at *
      generalize ex T (ordS xs m) (fun o => sq2 (nums kvs T o)) = B at *
      have hB : B = A - (m : Rat) * ((m : Rat) - 1) * (Sv * Sv) := by grind
      rw [hB]
      generalize (m : Rat) = M at *
      have hMM : M * (M - 1) ≠ 0 := fun h => by
        rcases Rat.mul_eq_zero.mp h with z | z
        · exact hm0 z
        · exact hm10 z
      grind
    · rw [ex_congr (g := fun o => (nums kvs T o).getD k 0) fun o ho => by rw [(hn o ho).1]]
      exact ex_at S.toSit kvs k m hmn hk

/-! ### the law's own: amounts, true sums -/
theorem valV_putK {kvs : List (Key × V)} {k : Key} {v : V} (k' : Key) : valV (putK kvs k v) k' = if k' = k then some v else valV kvs k' := by
  rw [valV_put]
theorem AmtOk.put {kvs : List (Key × V)} (h : AmtOk kvs) {s : Str} {n : Int} (hn : n.natAbs ≤ 10) : AmtOk (putK kvs (.inr s) (.int n)) := by
  intro k v e
  rw [valV_putK] at e
  split at e
  · cases e
    exact ⟨n, rfl, hn⟩
  · exact h k v e
theorem putK_le9 {κ : Type} [DecidableEq κ] (kvs : List (κ × V)) (k : κ) (v : V) : (putK kvs k v).length ≤ kvs.length + 1 := by
  unfold putK
  split
  · rw [List.length_map]; omega
  · rw [List.length_append]; simp
def spAmounts (K : PySem.W.Frag) : Sp := fun vs H Q _ => ∃ (a l : Addr) (ps : List (Addr × Row)), vs = [.ref a, .ref l] ∧ DrawsAt H a ∧ H l = some (.lst (refs ps)) ∧ RowsAt H ps ∧ l ≠ a ∧ ps.length ≤ 10 ∧ ∀ H' d kvs, H d = none → Kp [a] H H' → DrawsAt H' a → H' d = some (.dK kvs) → AmtOk kvs → Q (.ref d) H'
theorem ok__law_amounts {P : Program} {w : World} {K : PySem.W.Frag} {mg : Str → Option Value} {base : Heap} (T : T P K mg) : FnOk P w K mg base CX0 2 T.a__law_amounts T.fd__law_amounts ["row", "things"] (spAmounts K) := by
  refine T.F__law_amounts.ok sc__law_amounts (fun vs H Q E h => ?_) (fun cdv A outer s H vs Q E hr h => ?_)
  · obtain ⟨a, l, ps, rfl, _⟩ := h
    rfl
  · obtain ⟨a, l, ps, rfl, hd, hl, hps, nla, hn, q⟩ := h
    refine ⟨_, (pss_cons (ps_set (i := 2) sc__law_amounts.nd rfl (by first | exact Or.inl rfl | exact Or.inr rfl) (pe_disp (pps_cons pe_str pe_int pps_nil) (by rfl) (by rfl) (fun z => by cases z) (by decide)))
      (pss_cons (ps_for PassesOwn.never rfl (pi_list (pv 1)) (pg_name (i := 3) sc__law_amounts.nd rfl (by first | exact Or.inl rfl | exact Or.inr rfl)) (pss_one (ps_if (pt_cmpR op_gt (pe_call (ok__law_take T) (hr.mono (by decide)) (by rfl) T.g__law_take T.F__law_take.kp T.b__law_take .nil pass0 (pa_cons (pv 0) (pa_cons pe_int pa_nil))) pe_int (nomark _)) (pss_one (ps_dput (hu_of hr) (pv 2) (pe_ix ix_tup (pv 3) pe_int (fun _ _ => rfl)) (pe_op op_sub (pe_call (ok__law_take T) (hr.mono (by decide)) (by rfl) T.g__law_take T.F__law_take.kp T.b__law_take .nil pass0 (pa_cons (pv 0) (pa_cons pe_int pa_nil))) pe_int) rfl)) pss_nil)))
      (pss_one (ps_ret (pv 2))))), ?_⟩
    walk_at "z0"
    walk_at "z"
    intro p np
    walk_at "z"
    dsimp only [tPairs]
    walk_at "z"
    refine ⟨upd_same, [(.inr "other", .int 5)], rfl, by decide, ?_⟩
    rw [upd_upd]
    have e1 : upd H p (.dK (mergeK [] [((.inr "other" : Key), V.int 5)])) p = some (.dK (mergeK [] [((.inr "other" : Key), V.int 5)])) := upd_same
    have k1 : Kp [] H (upd H p (.dK (mergeK [] [((.inr "other" : Key), V.int 5)]))) := Kp.new np
    have ho1 : AmtOk (mergeK [] [((.inr "other" : Key), V.int 5)]) := AmtOk.put (kvs := []) (fun k v e => by cases e) (by decide)
    have hl1 : (mergeK [] [((.inr "other" : Key), V.int 5)]).length ≤ 1 := by decide
    generalize mergeK [] [((.inr "other" : Key), V.int 5)] = kv1 at e1 k1 ho1 hl1 ⊢
    generalize upd H p (.dK kv1) = H1 at e1 k1 ⊢
    have nap : a ≠ p := hd.ne np
    have nlp : l ≠ p := ne_of_none hl np
    walk_at "z"
    refine Z.forl (refs ps) (lstL (k1.get nin0 hl)) (fun i σ' H' => ∃ y kvs, σ' = [some (.ref a), some (.ref l), some (.ref p), y] ∧ Kp [a] H H' ∧ DrawsAt H' a ∧ H' p = some (.dK kvs) ∧ AmtOk kvs ∧ kvs.length ≤ 1 + i) ⟨_, kv1, rfl, k1.sub (by simp), hd.kp0 k1, e1, ho1, by omega⟩ ?_ ?_ ?_
    · rintro i σ' H' hi ⟨y, kvs, rfl, k2, d2, e2, ho2, hl2⟩
      exact lstL (k2.get (nin1 nla) hl)
    · rintro i v σ' H2 hv ⟨y, kvs, rfl, k2, d2, e2, ho2, hl2⟩
      obtain ⟨x, hx, rfl⟩ := refs_of hv
      have hi : i < ps.length := (List.getElem?_eq_some_iff.mp hx).1
      walk_at "z"
      refine ⟨a, 5, rfl, d2, by decide, by decide, fun H3 v3 hv30 hv31 k3 d3 => ?_⟩
      have e3 := k3.get (nin1 nap.symm) e2
      walk_at "z"
      refine Z.ite (fun h1 => ?_) (fun h1 => ?_)
      · walk_at "z"
        refine ⟨a, 21, rfl, d3, by decide, by decide, fun H4 v4 hv40 hv41 k4 d4 => ?_⟩
        have e4 := k4.get (nin1 nap.symm) e3
        have r4 := ((hps.kpd (k2.trans k3) hd).kpd k4 d3) x (List.mem_of_getElem? hx)
        walk_at "z"
        refine RowAt.k0 r4 ?_
        refine ⟨p, _, rfl, DPut.k (k := .inr x.2.k) e4 (by have : 100000 ≤ sizeLine := (by decide); omega), ?_⟩
        walk_at "z"
        have hp := putK_le9 kvs (.inr x.2.k) (.int (v4 - 10))
        exact ⟨_, _, rfl, ((k2.trans k3).trans k4).mut np rfl, d4.put nap, upd_same, ho2.put (by omega), by omega⟩
      · walk_at "z"
        exact ⟨_, kvs, rfl, k2.trans k3, d3, e3, ho2, by omega⟩
    · rintro σ' H' ⟨y, kvs, rfl, k2, d2, e2, ho2, hl2⟩
      walk_at "z"
      exact q H' p kvs np k2 d2 e2 ho2
def spLTrue (K : PySem.W.Frag) : Sp := spTrueSum K
theorem ok__law_true {P : Program} {w : World} {K : PySem.W.Frag} {mg : Str → Option Value} {base : Heap} (T : T P K mg) : FnOk P w K mg base CX0 1 T.a__law_true T.fd__law_true ["things", "amounts"] (spLTrue K) := by
  refine T.F__law_true.ok sc__law_true (fun vs H Q E h => ?_) (fun cdv A outer s H vs Q E hr h => ?_)
  · obtain ⟨l, d, ps, kvs, rfl, _⟩ := h
    rfl
  · obtain ⟨l, d, ps, kvs, rfl, hl, hps, hn, hd, ho, q⟩ := h
    refine ⟨_, (pss_one (ps_ret (pe_callB (cr_sum rfl) (by rfl) T.z_sum (by decide +kernel) (pa_cons (pe_lc (own := [("item", 2)]) (g := gName 2) rfl sc__law_true.nd (pi_list (pv 0)) (blkOk_by (own := [("item", 2)]) (N := N__law_true) (sc := defScope s__law_true) (by decide +kernel)) (fun _ _ _ _ _ => (pg_name (i := 2) sc__law_true.nd rfl (by first | exact Or.inl rfl | exact Or.inr rfl))) (fun _ _ _ _ _ => pts_nil) (fun _ _ _ _ _ => (pe_dget2 (Nat.lt_of_le_of_lt (Nat.add_le_add_left (by decide) _) (hu_of hr)) (pv 1) (pe_ix (ix_tup : IxR _ (rIxT K)) (pv 2) pe_int (fun _ _ => rfl)) pe_int ⟨by rfl, by rfl, by rfl, by rfl⟩))) pa_nil)))), ?_⟩
    walk_at "z0"
    walk_at "z"
    refine Z.lcl (refs ps) (lstL hl) (fun D i H' => Kp [] H H' ∧ H' D = some (.lst ((amts kvs (ps.take i)).map V.int))) ?_ ?_ ?_ ?_
    · intro D H1 nD k1 e1
      exact ⟨k1, e1⟩
    · rintro D i H1 nD hi ⟨k1, e1⟩
      exact lstL (k1.get nin0 hl)
    · rintro D i v H1 nD hv ⟨k1, e1⟩
      obtain ⟨x, hx, rfl⟩ := refs_of hv
      have hi : i < ps.length := (List.getElem?_eq_some_iff.mp hx).1
      dsimp only [wipe, List.set]
      walk_at "z"
      refine ⟨rfl, ?_⟩
      walk_at "z"
      refine ⟨d, rfl, .inl ⟨kvs, .inl (k1.get nin0 hd)⟩, ?_⟩
      walk_at "z"
      refine RowAt.k0 ((hps.kp0 k1) x (List.mem_of_getElem? hx)) ?_
      walk_at "z"
      refine ⟨_, DGet.k (k := .inr x.2.k) (k1.get nin0 hd), ?_⟩
      rw [getD_amt ho]
      refine ⟨_, e1, Z.szl (m := 1000) (by unfold amts; rw [List.length_map, List.length_map, List.length_take]; omega), k1.mut nD rfl, ?_⟩
      rw [upd_same, List.take_add_one, hx]
      unfold amts
      rw [List.map_append, List.map_append]; rfl
    · rintro D H1 nD ⟨k1, e1⟩
      rw [refs_len, List.take_length] at e1
      walk_at "z"
      refine Z.sumL (lstL e1) ?_
      exact q H1 k1

/-! ### lists of lists of rows -/
def ILst := Addr × List (Addr × Row)
def srefs (L : List (Addr × List (Addr × Row))) : List V := L.map fun o => V.ref o.1
theorem srefs_len (L : List (Addr × List (Addr × Row))) : (srefs L).length = L.length := by unfold srefs; rw [List.length_map]
theorem srefs_of {L : List (Addr × List (Addr × Row))} {i : Nat} {v : V} (h : (srefs L)[i]? = some v) : ∃ o, L[i]? = some o ∧ v = .ref o.1 := by
  unfold srefs at h
  rw [List.getElem?_map] at h
  cases hx : L[i]? with
  | none => rw [hx] at h; cases h
  | some r => rw [hx] at h; exact ⟨r, rfl, (Option.some.inj h).symm⟩
def SetsAt (H : Hp) (L : List (Addr × List (Addr × Row))) : Prop := ∀ o ∈ L, H o.1 = some (.lst (refs o.2))
theorem SetsAt.kp0 {H H' : Hp} {L : List (Addr × List (Addr × Row))} (h : SetsAt H L) (k : Kp [] H H') : SetsAt H' L := fun o ho => k.get nin0 (h o ho)
theorem SetsAt.put {H : Hp} {L : List (Addr × List (Addr × Row))} {D : Addr} {u : HO} (h : SetsAt H L) (n : ∀ o ∈ L, o.1 ≠ D) : SetsAt (upd H D u) L := fun o ho => (upd_ne (n o ho)).trans (h o ho)
theorem SetsAt.snoc {H : Hp} {L : List (Addr × List (Addr × Row))} {o : Addr × List (Addr × Row)} (h : SetsAt H L) (e : H o.1 = some (.lst (refs o.2))) : SetsAt H (L ++ [o]) := mem_append_one h e

/-! ### _law_orders -/
theorem key_inj {xs : List (Addr × Row)} (h : xs.Pairwise fun a b => a.2.k ≠ b.2.k) : ∀ {a b : Addr × Row}, a ∈ xs → b ∈ xs → a.2.k = b.2.k → a = b := by
  induction xs with
  | nil => intro a b ha; cases ha
  | cons y r ih =>
    intro a b ha hb e
    obtain ⟨h1, h2⟩ := List.pairwise_cons.mp h
    rcases List.mem_cons.mp ha with hay | ha2
    · rcases List.mem_cons.mp hb with hby | hb2
      · rw [hay, hby]
      · rw [hay] at e; exact absurd e (h1 b hb2)
    · rcases List.mem_cons.mp hb with hby | hb2
      · rw [hby] at e; exact absurd e.symm (h1 a ha2)
      · exact ih h2 ha2 hb2 e
theorem ninD {xs o : List (Addr × Row)} (h : xs.Pairwise fun a b => a.2.k ≠ b.2.k) (hS : ∀ x ∈ xs, RowS x.2) {x : Addr × Row} (hx : x ∈ xs) (ho : ∀ z ∈ o, z ∈ xs) : (!(rowsD o).any fun z => PyData.eqv z (rowD x.2)) = nin o x := by
  unfold nin rowsD
  rw [List.any_map]
  induction o with
  | nil => simp
  | cons y r ih =>
    have ih := ih fun z hz => ho z (by simp [hz])
    rw [List.any_cons, Bool.not_or, ih]
    have e : PyData.eqv (rowD y.2) (rowD x.2) = decide (y.2.k = x.2.k) := by
      by_cases hk : y.2.k = x.2.k
      · rw [decide_eq_true hk, key_inj h (ho y (by simp)) hx hk]
        exact SeqAt.eqv_refl _ (rowD_lay (hS x hx))
      · rw [decide_eq_false hk]
        simp [rowD, PyData.eqv, PyData.eqvAll, hk]
    show (!PyData.eqv (rowD y.2) (rowD x.2) && _) = _
    rw [e, Bool.eq_iff_iff, Bool.and_eq_true, Bool.not_eq_true', decide_eq_false_iff_not, decide_eq_true_eq, decide_eq_true_eq]
    constructor
    · rintro ⟨h1, h2⟩ z hz
      rcases List.mem_cons.mp hz with rfl | hz
      · exact h1
      · exact h2 z hz
    · intro h1
      exact ⟨h1 y (by simp), fun z hz => h1 z (by simp [hz])⟩
theorem shRow {r : Row} (h : RowS r) : SeqAt.shaped (rowD r) = true := by
  simp [SeqAt.shaped, rowD_lay h, rowD_depth]
def spOrders (K : PySem.W.Frag) : Sp := fun vs H Q _ => ∃ (l : Addr) (many : Nat) (xs : List (Addr × Row)), vs = [.ref l, .int (many : Int)] ∧ H l = some (.lst (refs xs)) ∧ RowsAt H xs ∧ (∀ x ∈ xs, RowS x.2) ∧ xs.Pairwise (fun a b => a.2.k ≠ b.2.k) ∧ xs.length ≤ 5 ∧ many ≤ 3 ∧
  ∀ H' F L, Kp [] H H' → H' F = some (.lst (srefs L)) → SetsAt H' L → L.map (fun o => o.2) = ordS xs many → Q (.ref F) H'
theorem ok__law_orders {P : Program} {w : World} {K : PySem.W.Frag} {mg : Str → Option Value} {base : Heap} (T : T P K mg) : FnOk P w K mg base CX0 1 T.a__law_orders T.fd__law_orders ["things", "many"] (spOrders K) := by
  refine T.F__law_orders.ok sc__law_orders (fun vs H Q E h => ?_) (fun cdv A outer s H vs Q E hr h => ?_)
  · obtain ⟨l, many, xs, rfl, _⟩ := h
    rfl
  · obtain ⟨l, many, xs, rfl, hl, hps, hS, hnd, hn, hm3, q⟩ := h
    refine ⟨_, (pss_cons (ps_set (i := 2) sc__law_orders.nd rfl (by first | exact Or.inl rfl | exact Or.inr rfl) (pe_lst (pa_cons (pe_lst pa_nil) pa_nil)))
      (pss_cons (ps_for PassesOwn.never rfl (pi_range1 (by rfl) T.z_range (pa_cons (pv 1) pa_nil)) (pg_name (i := 3) sc__law_orders.nd rfl (by first | exact Or.inl rfl | exact Or.inr rfl)) (pss_cons (ps_set (i := 4) sc__law_orders.nd rfl (by first | exact Or.inl rfl | exact Or.inr rfl) (pe_lst pa_nil))
      (pss_cons (ps_for PassesOwn.never rfl (pi_list (pv 2)) (pg_name (i := 5) sc__law_orders.nd rfl (by first | exact Or.inl rfl | exact Or.inr rfl)) (pss_one (ps_set (i := 4) sc__law_orders.nd rfl (by first | exact Or.inl rfl | exact Or.inr rfl) (pe_op op_cat (pv 4) (pe_lc (own := [("item", 6)]) (g := gName 6) rfl sc__law_orders.nd (pi_list (pv 0)) (blkOk_by (own := [("item", 6)]) (N := N__law_orders) (sc := defScope s__law_orders) (by decide +kernel)) (fun _ _ _ _ _ => (pg_name (i := 6) sc__law_orders.nd rfl (by first | exact Or.inl rfl | exact Or.inr rfl))) (fun _ _ _ _ _ => (pts_one (pt_cmpR (op_notInD (Z.u65 hr) : OpR _ _ (rNotInD K)) (pv 6) (pv 5) rfl))) (fun _ _ _ _ _ => (pe_op op_cat (pv 5) (pe_lst (pa_cons (pv 6) pa_nil)))))))))
      (pss_one (ps_set (i := 2) sc__law_orders.nd rfl (by first | exact Or.inl rfl | exact Or.inr rfl) (pv 4))))))
      (pss_one (ps_ret (pv 2))))), ?_⟩
    walk_at "z0"
    walk_at "z"
    refine Z.lstK (fun E1 H1 nE1 k1 e1 => ?_)
    walk_at "z"
    refine Z.lstK (fun F H2 nF k2 e2 => ?_)
    have k12 := k1.trans k2
    have e2E := k2.get nin0 e1
    have e2l := k12.get nin0 hl
    walk_at "z"
    refine Z.forr many (by rfl) (by omega) (fun i σ' H' => ∃ (y3 y4 y5 : Option V) (F' : Addr) (L : List (Addr × List (Addr × Row))), σ' = [some (.ref l), some (.int (many : Int)), some (.ref F'), y3, y4, y5, none] ∧ Kp [] H2 H' ∧ H' F' = some (.lst (srefs L)) ∧ SetsAt H' L ∧ L.map (fun o => o.2) = ordS xs i) ?_ ?_ ?_
    · refine ⟨none, none, none, F, [(E1, [])], rfl, Kp.refl _, e2, fun o ho => ?_, rfl⟩
      rw [List.mem_singleton.mp ho]; exact e2E
    · rintro i σ' H3 hi ⟨y3, y4, y5, F', L, rfl, k3, e3, S3, hL⟩
      have hLl : L.length ≤ 60 := by
        have h1 := ordS_len hnd hn i (by omega)
        rw [← hL, List.length_map] at h1
        have : i = 0 ∨ i = 1 ∨ i = 2 := by omega
        rcases this with rfl | rfl | rfl
        · exact Nat.le_trans h1 (by decide)
        · exact Nat.le_trans h1 (by decide)
        · exact Nat.le_trans h1 (by decide)
      have hgood : ∀ o ∈ L, GoodO xs o.2 := fun o ho => (ordS_good hnd i o.2 (by rw [← hL]; exact List.mem_map.mpr ⟨o, ho, rfl⟩)).1
      have hlen : ∀ o ∈ L, o.2.length = i := fun o ho => (ordS_good hnd i o.2 (by rw [← hL]; exact List.mem_map.mpr ⟨o, ho, rfl⟩)).2
      walk_at "z"
      refine Z.lstK (fun M H4 nM k4 e4 => ?_)
      walk_at "z"
      refine Z.forl (srefs L) (lstL (k4.get nin0 e3)) (fun j σ' H' => ∃ (y5 : Option V) (M' : Addr) (L2 : List (Addr × List (Addr × Row))), σ' = [some (.ref l), some (.int (many : Int)), some (.ref F'), some (.int (i : Int)), some (.ref M'), y5, none] ∧ Kp [] H4 H' ∧ H' M' = some (.lst (srefs L2)) ∧ SetsAt H' L2 ∧ L2.length ≤ 5 * j ∧ L2.map (fun o => o.2) = (L.take j).flatMap fun o => (rem xs o.2).map fun x => o.2 ++ [x]) ?_ ?_ ?_ ?_
      · exact ⟨y5, M, [], rfl, Kp.refl _, e4, (fun o ho => by cases ho), by simp, rfl⟩
      · rintro j σ' H5 _ ⟨y5, M', L2, rfl, k5, _⟩
        exact lstL ((k4.trans k5).get nin0 e3)
      · rintro j v σ' H5 hv ⟨y5, M', L2, rfl, k5, e5, S5, hl5, hL5⟩
        obtain ⟨o, ho, rfl⟩ := srefs_of hv
        have hj : j < L.length := (List.getElem?_eq_some_iff.mp ho).1
        have hom := List.mem_of_getElem? ho
        have hog := hgood o hom
        have hol := hlen o hom
        have k35 := k4.trans k5
        have e5l := (k3.trans k35).get nin0 e2l
        have e5o := (S3.kp0 k35) o hom
        have r5 := hps.kp0 ((k12.trans k3).trans k35)
        walk_at "z"
        refine Z.lcl (refs xs) (lstL e5l) (fun D t H' => ∃ L3 : List (Addr × List (Addr × Row)), Kp [] H5 H' ∧ H' D = some (.lst (srefs L3)) ∧ SetsAt H' L3 ∧ (∀ o ∈ L3, o.1 ≠ D) ∧ L3.length ≤ t ∧ L3.map (fun o => o.2) = ((xs.take t).filter (nin o.2)).map fun x => o.2 ++ [x]) ?_ ?_ ?_ ?_
        · intro D H6 nD k6 e6
          exact ⟨[], k6, e6, (fun o ho => by cases ho), (fun o ho => by cases ho), by simp, rfl⟩
        · rintro D t H6 nD ht ⟨L3, k6, _⟩
          exact lstL (k6.get nin0 e5l)
        · rintro D t v H6 nD hv ⟨L3, k6, e6, S6, n6, hl6, hL6⟩
          obtain ⟨x, hx, rfl⟩ := refs_of hv
          have hxm := List.mem_of_getElem? hx
          have ht : t < xs.length := (List.getElem?_eq_some_iff.mp hx).1
          have r6 := r5.kp0 k6
          have e6o := k6.get nin0 e5o
          have r6o : RowsAt H6 o.2 := fun z hz => r6 z (hog.sub z hz)
          dsimp only [wipe, List.set]
          walk_at "z"
          refine ⟨rfl, ?_⟩
          walk_at "z"
          refine ⟨rowD x.2, rowsD o.2, dpRow (r6 x hxm), dpRows e6o r6o, shRow (hS x hxm), shRows fun z hz => hS z (hog.sub z hz), ?_⟩
          rw [ninD hnd hS hxm hog.sub]
          rw [List.take_add_one, hx, List.filter_append, List.map_append]
          refine ⟨_, rfl, ?_⟩
          unfold nin
          refine Z.ite (fun h1 => ?_) (fun h1 => ?_)
          · walk_at "z"
            refine Z.lstK (fun g H7 ng k7 e7 => ?_)
            refine Z.cat (k7.get nin0 e6o) e7 (by rw [refs_len]; simp; omega) (fun c H8 nc k8 e8 => ?_)
            have k68 := k7.trans k8
            have e8D := k68.get nin0 e6
            have e8c : H8 c = some (.lst (refs (o.2 ++ [x]))) := by rw [e8, refs_snoc]
            have ncD : c ≠ D := fun z => by rw [z] at nc; rw [k7.get nin0 e6] at nc; cases nc
            refine ⟨_, e8D, Z.szl (m := 1000) (by rw [srefs_len]; omega), L3 ++ [(c, o.2 ++ [x])], (k6.trans k68).mut nD rfl, by rw [upd_same]; unfold srefs; rw [List.map_append]; rfl, ?_, mem_append_one n6 ncD, by rw [List.length_append]; simp; omega, ?_⟩
            · exact ((S6.kp0 k68).snoc (o := (c, o.2 ++ [x])) e8c).put (mem_append_one n6 ncD)
            · rw [List.map_append, hL6]
              congr 1
              have h2 : decide (∀ z ∈ o.2, z.2.k ≠ x.2.k) = true := decide_eq_true h1
              simp only [Option.toList_some, List.map_cons, List.map_nil, List.filter_cons, List.filter_nil]
              rw [if_pos h2]; rfl
          · walk_at "z"
            refine ⟨L3, k6, e6, S6, n6, by omega, ?_⟩
            rw [hL6]
            have h2 : ¬ (decide (∀ z ∈ o.2, z.2.k ≠ x.2.k) = true) := fun z => h1 (of_decide_eq_true z)
            simp only [Option.toList_some, List.filter_cons, List.filter_nil]
            rw [if_neg h2]
            unfold nin
            rw [List.map_nil, List.append_nil]
        · rintro D H6 nD ⟨L3, k6, e6, S6, n6, hl6, hL6⟩
          rw [refs_len, List.take_length] at hL6
          rw [refs_len] at hl6
          refine Z.cat (k6.get nin0 e5) e6 (by rw [srefs_len, srefs_len]; omega) (fun M2 H7 nM2 k7 e7 => ?_)
          walk_at "z"
          refine ⟨_, M2, L2 ++ L3, rfl, (k5.trans k6).trans k7, by rw [e7]; unfold srefs; rw [List.map_append], fun o' ho' => ?_, by rw [List.length_append]; omega, ?_⟩
          · rcases List.mem_append.mp ho' with z | z
            · exact ((S5.kp0 k6).kp0 k7) o' z
            · exact (S6.kp0 k7) o' z
          · rw [List.map_append, hL5, hL6, List.take_add_one, ho, List.flatMap_append]
            congr 1
            simp only [Option.toList_some, List.flatMap_cons, List.flatMap_nil, List.append_nil]
            rfl
      · rintro σ' H5 ⟨y5, M', L2, rfl, k5, e5, S5, hl5, hL5⟩
        rw [srefs_len, List.take_length] at hL5
        walk_at "z"
        refine ⟨_, _, _, M', L2, rfl, (k3.trans k4).trans k5, e5, S5, ?_⟩
        rw [hL5]
        show _ = (ordS xs i).flatMap fun o => (rem xs o).map fun x => o ++ [x]
        rw [← hL, List.flatMap_map]
    · rintro σ' H3 ⟨y3, y4, y5, F', L, rfl, k3, e3, S3, hL⟩
      walk_at "z"
      exact q H3 F' L (k12.trans k3) e3 S3 hL
/-! the chance of an order -/
def spChance (K : PySem.W.Frag) : Sp := fun vs H Q _ => ∃ (l : Addr) (T : Int) (o : List (Addr × Row)), vs = [.int T, .ref l] ∧ H l = some (.lst (refs o)) ∧ RowsAt H o ∧ (∀ x ∈ o, RowW x.2) ∧ 0 ≤ T ∧ T ≤ 5000 ∧ o.length ≤ 3 ∧ ∀ H' c, Kp [] H H' → FrAt K H' c (chF T o) → Q (.ref c) H'
theorem ok__law_order_chance {P : Program} {w : World} {K : PySem.W.Frag} {mg : Str → Option Value} {base : Heap} (T : T P K mg) : FnOk P w K mg base CX0 3 T.a__law_order_chance T.fd__law_order_chance ["total", "things"] (spChance K) := by
  refine T.F__law_order_chance.ok sc__law_order_chance (fun vs H Q E h => ?_) (fun cdv A outer s H vs Q E hr h => ?_)
  · obtain ⟨l, T, o, rfl, _⟩ := h
    rfl
  · obtain ⟨l, t, o, rfl, hl, hps, hW, ht0, ht1, h3, q⟩ := h
    refine ⟨_, (pss_cons (ps_set (i := 2) sc__law_order_chance.nd rfl (by first | exact Or.inl rfl | exact Or.inr rfl) (pe_tup (pa_cons pe_int (pa_cons pe_int pa_nil))))
      (pss_cons (ps_set (i := 3) sc__law_order_chance.nd rfl (by first | exact Or.inl rfl | exact Or.inr rfl) (pv 0))
      (pss_cons (ps_for PassesOwn.never rfl (pi_list (pv 1)) (pg_name (i := 4) sc__law_order_chance.nd rfl (by first | exact Or.inl rfl | exact Or.inr rfl)) (pss_cons (ps_set (i := 2) sc__law_order_chance.nd rfl (by first | exact Or.inl rfl | exact Or.inr rfl) (pe_call (ok__law_times T) (hr.mono (by decide)) (by rfl) T.g__law_times T.F__law_times.kp T.b__law_times .nil pass0 (pa_cons (pv 2) (pa_cons (pe_call (ok__law_low T) (hr.mono (by decide)) (by rfl) T.g__law_low T.F__law_low.kp T.b__law_low .nil pass0 (pa_cons (pe_ix ix_tup (pv 4) pe_int (fun _ _ => rfl)) (pa_cons (pe_callB (call_max2 rfl) (by rfl) T.z_max (by decide +kernel) (pa_cons pe_int (pa_cons (pv 3) pa_nil))) pa_nil))) pa_nil))))
      (pss_one (ps_set (i := 3) sc__law_order_chance.nd rfl (by first | exact Or.inl rfl | exact Or.inr rfl) (pe_op op_sub (pv 3) (pe_ix ix_tup (pv 4) pe_int (fun _ _ => rfl)))))))
      (pss_one (ps_ret (pv 2)))))), ?_⟩
    walk_at "z0"
    walk_at "z"
    refine Z.tupK (fun b H1 nb k1 e1 => ?_)
    walk_at "z"
    refine Z.forl (refs o) (lstL (k1.get nin0 hl)) (fun i σ' H' => ∃ (y4 : Option V) (c : Addr), σ' = [some (.int t), some (.ref l), some (.ref c), some (.int (t - (wts (o.take i)).sum)), y4] ∧ Kp [] H H' ∧ FrAt K H' c (chF t (o.take i))) ?_ ?_ ?_ ?_
    · exact ⟨none, b, by show _ = [_, _, _, some (V.int (t - 0)), _]; rw [Int.sub_zero], k1, tupT e1⟩
    · rintro i σ' H' _ ⟨y4, c, rfl, k2, _⟩
      exact lstL (k2.get nin0 hl)
    · rintro i v σ' H2 hv ⟨y4, c, rfl, k2, e2⟩
      obtain ⟨x, hx, rfl⟩ := refs_of hv
      have hxm := List.mem_of_getElem? hx
      have hi : i < o.length := (List.getElem?_eq_some_iff.mp hx).1
      have htk : ∀ y ∈ o.take i, RowW y.2 := fun y hy => hW y (List.mem_of_mem_take hy)
      have hw := wts_B htk (by rw [List.length_take]; omega)
      have hx0 := (hW x hxm).w0
      have hx1 := (hW x hxm).w1
      have hcL := chF_low t _ (o.take i) rfl
      have hcB := (chF_B (T := t) (by omega) _ (o.take i) rfl htk).mono (show 1 + 13 * (o.take i).length ≤ 40 by rw [List.length_take]; omega)
      have ewi : (wts (o.take (i + 1))).sum = (wts (o.take i)).sum + x.2.w := by
        rw [List.take_add_one, hx]
        unfold wts
        rw [List.map_append, List.sum_append]
        simp
      walk_at "z"
      refine RowAt.w2 ((hps.kp0 k2) x hxm) ?_
      walk_at "z"
      refine ⟨_, _, rfl, ?_⟩
      generalize hmx : (if (1 : Int) < t - (wts (o.take i)).sum then t - (wts (o.take i)).sum else 1) = mx
      have hmx1 : 1 ≤ mx ∧ mx ≤ 8000 := by rw [← hmx]; split <;> omega
      have hmx2 : mx = (if t - (wts (o.take i)).sum < 1 then 1 else t - (wts (o.take i)).sum) := by rw [← hmx]; split <;> split <;> omega
      walk_at "z"
      refine ⟨_, _, rfl, hmx1.1, up_B (n := 13) (show mx.natAbs < 2 ^ 13 by omega) (by decide), fun H3 c3 n3 k3 e3 => ?_⟩
      walk_at "z"
      have hB3 : FrB 13 (lo x.2.w mx) := lo_B (by omega) (Nat.lt_of_le_of_lt (show x.2.w.natAbs ≤ 1000 by omega) (by decide)) (Nat.lt_of_le_of_lt (show mx.natAbs ≤ 8000 by omega) (by decide))
      refine ⟨c, c3, chF t (o.take i), lo x.2.w mx, rfl, e2.kp0 k3, e3, hcL.1, (lo_low (by omega)).1, ⟨40, 13, hcB, hB3, by decide⟩, fun H4 c4 n4 k4 e4 => ?_⟩
      have k24 := (k2.trans k3).trans k4
      walk_at "z"
      refine RowAt.w2 ((hps.kp0 k24) x hxm) ?_
      walk_at "z"
      refine ⟨some (.ref x.1), c4, ?_, k24, ?_⟩
      · rw [ewi, ← Int.sub_sub]
      · rw [List.take_add_one, hx]
        show FrAt K H4 c4 (chF t (o.take i ++ [x]))
        rw [chF_snoc, ← hmx2]
        exact e4
    · rintro σ' H2 ⟨y4, c, rfl, k2, e2⟩
      rw [refs_len, List.take_length] at e2
      walk_at "z"
      exact q H2 c k2 e2
/-! sums with told bounds -/
def spLawSumG (K : PySem.W.Frag) : Sp := fun vs H Q _ => ∃ (a : Addr) (as : List Addr) (fs : List Fr), vs = [.ref a] ∧ SqL K H a (as.map V.ref) ∧ FrsAt K H as fs ∧ (∀ f ∈ fs, 1 ≤ f.2 ∧ FrB 900 f) ∧ (∀ i, FrB 900 (fsum (0, 1) (fs.take i))) ∧ ∀ H' c, Kp [] H H' → FrAt K H' c (fsum (0, 1) fs) → Q (.ref c) H'
theorem ok__law_sum {P : Program} {w : World} {K : PySem.W.Frag} {mg : Str → Option Value} {base : Heap} (T : T P K mg) : FnOk P w K mg base CX0 3 T.a__law_sum T.fd__law_sum ["rows"] (spLawSumG K) := by
  refine T.F__law_sum.ok sc__law_sum (fun vs H Q E h => ?_) (fun cdv A outer s H vs Q E hr h => ?_)
  · obtain ⟨a, as, fs, rfl, _⟩ := h
    rfl
  · obtain ⟨a, as, fs, rfl, hS, hF, hB, hP, q⟩ := h
    refine ⟨_, (pss_cons (ps_set (i := 1) sc__law_sum.nd rfl (by first | exact Or.inl rfl | exact Or.inr rfl) (pe_tup (pa_cons pe_int (pa_cons pe_int pa_nil))))
      (pss_cons (ps_for PassesOwn.never rfl (pi_list (pv 0)) (pg_name (i := 2) sc__law_sum.nd rfl (by first | exact Or.inl rfl | exact Or.inr rfl)) (pss_one (ps_set (i := 1) sc__law_sum.nd rfl (by first | exact Or.inl rfl | exact Or.inr rfl) (pe_call (ok__law_plus T) (hr.mono (by decide)) (by rfl) T.g__law_plus T.F__law_plus.kp T.b__law_plus .nil pass0 (pa_cons (pv 1) (pa_cons (pv 2) pa_nil))))))
      (pss_one (ps_ret (pv 1))))), ?_⟩
    walk_at "z0"
    walk_at "z"
    refine Z.tupK (fun b H1 nb k1 e1 => ?_)
    walk_at "z"
    refine Z.forl (as.map V.ref) (k1.seq nin0 hS) (fun i σ' H' => ∃ c y, σ' = [some (.ref a), some (.ref c), y] ∧ Kp [] H H' ∧ FrAt K H' c (fsum (0, 1) (fs.take i))) ?_ ?_ ?_ ?_
    · exact ⟨b, none, rfl, k1, tupT e1⟩
    · rintro i σ' H' _ ⟨c, y, rfl, k2, _⟩
      exact k2.seq nin0 hS
    · rintro i v σ' H' hv ⟨c, y, rfl, k2, e2⟩
      obtain ⟨x, f, rfl, hf, hx⟩ := (hF.kp0 k2).get hv
      have hfB := hB f (List.mem_of_getElem? hf)
      have hlow := rv_fsum (fs := fs.take i) low_zero fun g hg => by have := (hB g (List.mem_of_mem_take hg)).1; omega
      walk_at "z"
      refine ⟨c, x, _, f, rfl, e2, hx, hlow.2.1, hfB.1, ⟨900, 900, hP i, hfB.2, by decide⟩, fun H3 d nd k3 e3 => ?_⟩
      walk_at "z"
      exact ⟨d, _, rfl, k2.trans k3, by rw [fsum_take hf]; exact e3⟩
    · rintro σ' H' ⟨c, y, rfl, k2, e2⟩
      walk_at "z"
      rw [List.length_map, hF.len, List.take_length] at e2
      exact q _ _ k2 e2

/-! ### moments, each with its chance -/
def PrAt (K : PySem.W.Frag) (H : Hp) (t : Addr) (p : Fr × Fr) : Prop := ∃ e d, H t = some (.tup [.ref e, .ref d]) ∧ FrAt K H e p.1 ∧ FrAt K H d p.2
theorem PrAt.kp0 {K : PySem.W.Frag} {H H' : Hp} {t : Addr} {p : Fr × Fr} (h : PrAt K H t p) (k : Kp [] H H') : PrAt K H' t p := let ⟨e, d, h1, h2, h3⟩ := h; ⟨e, d, k.get nin0 h1, h2.kp0 k, h3.kp0 k⟩
theorem PrAt.kpl {K : PySem.W.Frag} {H H' : Hp} {t l : Addr} {p : Fr × Fr} {xs : List V} (h : PrAt K H t p) (k : Kp [l] H H') (el : H l = some (.lst xs)) : PrAt K H' t p :=
  let ⟨e, d, h1, h2, h3⟩ := h
  ⟨e, d, k.get (nin1 fun z => by rw [z, el] at h1; cases h1) h1, h2.kpl k el, h3.kpl k el⟩
def PrsAt (K : PySem.W.Frag) (H : Hp) (ts : List Addr) (fs : List (Fr × Fr)) : Prop := Paired (fun t p => PrAt K H t p) ts fs
theorem PrsAt.kp0 {K : PySem.W.Frag} {H H' : Hp} {ts : List Addr} {fs : List (Fr × Fr)} (h : PrsAt K H ts fs) (k : Kp [] H H') : PrsAt K H' ts fs := by
  induction h with
  | nil => exact .nil
  | cons r t ih => exact .cons (PrAt.kp0 r k) ih
theorem PrsAt.kpl {K : PySem.W.Frag} {H H' : Hp} {ts : List Addr} {l : Addr} {fs : List (Fr × Fr)} {xs : List V} (h : PrsAt K H ts fs) (k : Kp [l] H H') (el : H l = some (.lst xs)) : PrsAt K H' ts fs := by
  induction h with
  | nil => exact .nil
  | cons r t ih => exact .cons (PrAt.kpl r k el) ih
theorem PrsAt.len {K : PySem.W.Frag} {H : Hp} {ts : List Addr} {fs : List (Fr × Fr)} (h : PrsAt K H ts fs) : ts.length = fs.length := Paired.length h
theorem PrsAt.snoc {K : PySem.W.Frag} {H : Hp} {ts : List Addr} {fs : List (Fr × Fr)} {t : Addr} {p : Fr × Fr} (h : PrsAt K H ts fs) (r : PrAt K H t p) : PrsAt K H (ts ++ [t]) (fs ++ [p]) := by
  induction h with
  | nil => exact .cons r .nil
  | cons r t ih => exact .cons r ih
theorem PrsAt.get {K : PySem.W.Frag} {H : Hp} : ∀ {ts : List Addr} {fs : List (Fr × Fr)} {i : Nat} {v : V}, PrsAt K H ts fs → (ts.map V.ref)[i]? = some v → ∃ t p, v = .ref t ∧ fs[i]? = some p ∧ PrAt K H t p
  | _, _, i, v, .nil, h => by simp at h
  | _, _, 0, v, .cons r t, h => by
    simp at h
    exact ⟨_, _, h.symm, rfl, r⟩
  | _, _, i + 1, v, .cons r t, h => by
    obtain ⟨a, f, e1, e2, e3⟩ := PrsAt.get (i := i) t (by simpa using h)
    exact ⟨a, f, e1, by simpa using e2, e3⟩
def spreadP (M : Rat) (fs : List (Fr × Fr)) : Rat := (fs.map fun p => rv p.2 * ((rv p.1 - M) * (rv p.1 - M))).sum
theorem spreadP_take {M : Rat} {fs : List (Fr × Fr)} {i : Nat} {p : Fr × Fr} (h : fs[i]? = some p) : spreadP M (fs.take (i + 1)) = spreadP M (fs.take i) + rv p.2 * ((rv p.1 - M) * (rv p.1 - M)) := by
  unfold spreadP
  rw [List.take_add_one, h, List.map_append, List.sum_append]
  show _ + (rv p.2 * ((rv p.1 - M) * (rv p.1 - M)) + 0) = _
  grind
/-! moments of wider rows -/
def spMoments (K : PySem.W.Frag) : Sp := fun vs H Q _ => ∃ (l : Addr) (ts : List Addr) (fs : List (Fr × Fr)) (M : Int), vs = [.ref l] ∧ H l = some (.lst (ts.map V.ref)) ∧ PrsAt K H ts fs ∧ (∀ p ∈ fs, 1 ≤ p.1.2 ∧ FrB 150 p.1 ∧ 1 ≤ p.2.2 ∧ FrB 90 p.2) ∧ fs.length ≤ 60 ∧ M.natAbs ≤ 60 ∧
  (∀ i, FrB 900 (fsum (0, 1) ((fs.map fun p => ftimes p.1 p.2).take i))) ∧ (∀ i g, Low g → rv g = spreadP (M : Rat) (fs.take i) → FrB 1480 g) ∧ (fs.map fun p => rv p.1 * rv p.2).sum = (M : Rat) ∧
  ∀ H' t m s g, Kp [] H H' → H' t = some (.tup [.ref m, .ref s]) → FrAt K H' m (M, 1) → FrAt K H' s g → Low g → rv g = spreadP (M : Rat) fs → Q (.ref t) H'
theorem ok__law_moments {P : Program} {w : World} {K : PySem.W.Frag} {mg : Str → Option Value} {base : Heap} (T : T P K mg) : FnOk P w K mg base CX0 4 T.a__law_moments T.fd__law_moments ["rows"] (spMoments K) := by
  refine T.F__law_moments.ok sc__law_moments (fun vs H Q E h => ?_) (fun cdv A outer s H vs Q E hr h => ?_)
  · obtain ⟨l, ts, fs, M, rfl, _⟩ := h
    rfl
  · obtain ⟨l, ts, fs, M, rfl, hl, hP, hB, hn, hM, hpre, hsp, hmean, q⟩ := h
    refine ⟨_, (pss_cons (ps_set (i := 1) sc__law_moments.nd rfl (by first | exact Or.inl rfl | exact Or.inr rfl) (pe_call (ok__law_sum T) (hr.mono (by decide)) (by rfl) T.g__law_sum T.F__law_sum.kp T.b__law_sum .nil pass0 (pa_cons (pe_lc (own := [("number", 3), ("chance", 4)]) (g := gTup K 2 (gCons (gName 3) (gCons (gName 4) gNil))) rfl sc__law_moments.nd (pi_list (pv 0)) (blkOk_by (own := [("number", 3), ("chance", 4)]) (N := N__law_moments) (sc := defScope s__law_moments) (by decide +kernel)) (fun _ _ _ _ _ => (pg_tup rfl (pgs_cons (pg_name (i := 3) sc__law_moments.nd rfl (by first | exact Or.inl rfl | exact Or.inr rfl)) (pgs_cons (pg_name (i := 4) sc__law_moments.nd rfl (by first | exact Or.inl rfl | exact Or.inr rfl)) pgs_nil)))) (fun _ _ _ _ _ => pts_nil) (fun _ _ _ _ _ => (pe_call (ok__law_times T) (hr.mono (by decide)) (by rfl) T.g__law_times T.F__law_times.kp T.b__law_times .nil pass0 (pa_cons (pv 3) (pa_cons (pv 4) pa_nil))))) pa_nil)))
      (pss_cons (ps_set (i := 2) sc__law_moments.nd rfl (by first | exact Or.inl rfl | exact Or.inr rfl) (pe_tup (pa_cons pe_int (pa_cons pe_int pa_nil))))
      (pss_cons (ps_for PassesOwn.never rfl (pi_list (pv 0)) (pg_tup rfl (pgs_cons (pg_name (i := 3) sc__law_moments.nd rfl (by first | exact Or.inl rfl | exact Or.inr rfl)) (pgs_cons (pg_name (i := 4) sc__law_moments.nd rfl (by first | exact Or.inl rfl | exact Or.inr rfl)) pgs_nil))) (pss_cons (ps_set (i := 5) sc__law_moments.nd rfl (by first | exact Or.inl rfl | exact Or.inr rfl) (pe_call (ok__law_minus T) (hr.mono (by decide)) (by rfl) T.g__law_minus T.F__law_minus.kp T.b__law_minus .nil pass0 (pa_cons (pv 3) (pa_cons (pv 1) pa_nil))))
      (pss_one (ps_set (i := 2) sc__law_moments.nd rfl (by first | exact Or.inl rfl | exact Or.inr rfl) (pe_call (ok__law_plus T) (hr.mono (by decide)) (by rfl) T.g__law_plus T.F__law_plus.kp T.b__law_plus .nil pass0 (pa_cons (pv 2) (pa_cons (pe_call (ok__law_times T) (hr.mono (by decide)) (by rfl) T.g__law_times T.F__law_times.kp T.b__law_times .nil pass0 (pa_cons (pv 4) (pa_cons (pe_call (ok__law_times T) (hr.mono (by decide)) (by rfl) T.g__law_times T.F__law_times.kp T.b__law_times .nil pass0 (pa_cons (pv 5) (pa_cons (pv 5) pa_nil))) pa_nil))) pa_nil)))))))
      (pss_one (ps_ret (pe_tup (pa_cons (pv 1) (pa_cons (pv 2) pa_nil)))))))), ?_⟩
    walk_at "z0"
    walk_at "z"
    refine Z.lcl (ts.map V.ref) (lstL hl) (fun D i H' => ∃ as : List Addr, Kp [] H H' ∧ H' D = some (.lst (as.map V.ref)) ∧ FrsAt K H' as ((fs.take i).map fun p => ftimes p.1 p.2)) ?_ ?_ ?_ ?_
    · intro D H1 nD k1 e1
      exact ⟨[], k1, e1, .nil⟩
    · rintro D i H1 nD hi ⟨as, k1, e1, F1⟩
      exact lstL (k1.get nin0 hl)
    · rintro D i v H1 nD hv ⟨as, k1, e1, F1⟩
      obtain ⟨t, p, rfl, hf, e, d, ht, he, hd⟩ := (hP.kp0 k1).get hv
      have hi : i < fs.length := (List.getElem?_eq_some_iff.mp hf).1
      obtain ⟨b1, b2, b3, b4⟩ := hB p (List.mem_of_getElem? hf)
      dsimp only [wipe, List.set]
      refine Z.gtup (tupT ht) rfl ?_
      walk_at "z"
      refine ⟨rfl, ?_⟩
      walk_at "z"
      refine ⟨e, d, p.1, p.2, rfl, he, hd, b1, b3, ⟨150, 90, b2, b4, by decide⟩, fun H2 c2 n2 k2 e2 => ?_⟩
      have e2D := k2.get nin0 e1
      refine ⟨_, e2D, Z.szl (m := 1000) (by rw [List.length_map, F1.len, List.length_map, List.length_take]; omega), as ++ [c2], (k1.trans k2).mut nD rfl, by rw [upd_same, List.map_append]; rfl, ?_⟩
      rw [List.take_add_one, hf, List.map_append]
      exact ((F1.kp0 k2).snoc e2).kpl (Kp.put (by simp)) e2D
    · rintro D H1 nD ⟨as, k1, e1, F1⟩
      rw [List.length_map, hP.len, List.take_length] at F1
      have htB : ∀ z ∈ fs.map (fun p => ftimes p.1 p.2), 1 ≤ z.2 ∧ FrB 900 z := fun z hz => by
        obtain ⟨p, hp, rfl⟩ := List.mem_map.mp hz
        obtain ⟨b1, b2, b3, b4⟩ := hB p hp
        exact ⟨lo_pos (Int.mul_ne_zero (by omega) (by omega)), (ftimes_B (n := 150) (m := 90) b2 b4 (by omega) (by omega)).mono (by decide)⟩
      walk_at "z"
      refine ⟨D, as, _, rfl, lstL e1, F1, htB, hpre, fun H2 m k2 e2 => ?_⟩
      have hs := rv_fsum (fs := fs.map fun p => ftimes p.1 p.2) low_zero fun f hf => by have := (htB f hf).1; omega
      have hmid : fsum (0, 1) (fs.map fun p => ftimes p.1 p.2) = (M, 1) := by
        refine low_eq hs.2 ⟨show (1 : Int) ≤ 1 by decide, by simp⟩ ?_
        rw [hs.1, rv_zero, rv_int, List.map_map, ← hmean]
        have e9 : fs.map (rv ∘ fun p => ftimes p.1 p.2) = fs.map fun p => rv p.1 * rv p.2 := List.map_congr_left fun p hp => by
          obtain ⟨b1, b2, b3, b4⟩ := hB p hp
          simp only [Function.comp_apply]
          rw [rv_ftimes (by omega) (by omega)]
        rw [e9]
        grind
      rw [hmid] at e2
      have hmL : Low (M, 1) := ⟨show (1 : Int) ≤ 1 by decide, by simp⟩
      have hmB : FrB 6 (M, 1) := ⟨by show M.natAbs < 64; omega, by show 1 < 64; decide⟩
      have k12 := k1.trans k2
      walk_at "z"
      refine Z.tupK (fun z0 H3 nz k3 e3 => ?_)
      have k13 := k12.trans k3
      walk_at "z"
      refine Z.forl (ts.map V.ref) (lstL (k13.get nin0 hl)) (fun i σ' H' => ∃ (y3 y4 y5 : Option V) (s : Addr) (g : Fr), σ' = [some (.ref l), some (.ref m), some (.ref s), y3, y4, y5] ∧ Kp [] H3 H' ∧ FrAt K H' s g ∧ Low g ∧ rv g = spreadP (M : Rat) (fs.take i)) ?_ ?_ ?_ ?_
      · exact ⟨_, _, _, z0, (0, 1), rfl, Kp.refl _, tupT e3, low_zero, by rw [rv_zero]; rfl⟩
      · rintro i σ' H4 _ ⟨y3, y4, y5, s, g, rfl, k4, _⟩
        exact lstL ((k13.trans k4).get nin0 hl)
      · rintro i v σ' H4 hv ⟨y3, y4, y5, s, g, rfl, k4, e4, hgL, hg⟩
        have hgB := hsp i g hgL hg
        have k14 := k13.trans k4
        obtain ⟨t, p, rfl, hf, e, d, ht, he, hd⟩ := (hP.kp0 k14).get hv
        have hi : i < fs.length := (List.getElem?_eq_some_iff.mp hf).1
        obtain ⟨b1, b2, b3, b4⟩ := hB p (List.mem_of_getElem? hf)
        have e4m := (e2.kp0 k3).kp0 k4
        refine Z.gtup (tupT ht) rfl ?_
        walk_at "z"
        refine ⟨e, m, p.1, (M, 1), rfl, he, e4m, b1, hmL.1, ⟨150, 6, b2, hmB, by decide⟩, fun H5 c5 n5 k5 e5 => ?_⟩
        have aL : Low (fminus p.1 (M, 1)) := lo_low (Int.mul_ne_zero (by omega) hmL.ne)
        have aB : FrB 157 (fminus p.1 (M, 1)) := fminus_B (n := 150) (m := 6) b2 hmB (by omega) hmL.ne
        walk_at "z"
        refine ⟨c5, c5, _, _, rfl, e5, e5, aL.1, aL.1, ⟨157, 157, aB, aB, by decide⟩, fun H6 c6 n6 k6 e6 => ?_⟩
        have qL : Low (ftimes (fminus p.1 (M, 1)) (fminus p.1 (M, 1))) := lo_low (Int.mul_ne_zero aL.ne aL.ne)
        have qB : FrB 314 (ftimes (fminus p.1 (M, 1)) (fminus p.1 (M, 1))) := ftimes_B (n := 157) (m := 157) aB aB aL.ne aL.ne
        walk_at "z"
        refine ⟨d, c6, p.2, _, rfl, (hd.kp0 k5).kp0 k6, e6, b3, qL.1, ⟨90, 314, b4, qB, by decide⟩, fun H7 c7 n7 k7 e7 => ?_⟩
        have pL : Low (ftimes p.2 (ftimes (fminus p.1 (M, 1)) (fminus p.1 (M, 1)))) := lo_low (Int.mul_ne_zero (by omega) qL.ne)
        have pB : FrB 404 (ftimes p.2 (ftimes (fminus p.1 (M, 1)) (fminus p.1 (M, 1)))) := ftimes_B (n := 90) (m := 314) b4 qB (by omega) qL.ne
        walk_at "z"
        refine ⟨s, c7, g, _, rfl, (((e4.kp0 k5).kp0 k6).kp0 k7), e7, hgL.1, pL.1, ⟨1480, 404, hgB, pB, by decide⟩, fun H8 c8 n8 k8 e8 => ?_⟩
        walk_at "z"
        refine ⟨_, _, _, c8, _, rfl, (((k4.trans k5).trans k6).trans k7).trans k8, e8, fplus_low hgL.ne pL.ne, ?_⟩
        rw [rv_fplus hgL.ne pL.ne, rv_ftimes (by omega) qL.ne, rv_ftimes aL.ne aL.ne, rv_fminus (by omega) hmL.ne, rv_int, hg, spreadP_take hf]
      · rintro σ' H4 ⟨y3, y4, y5, s, g, rfl, k4, e4, hgL, hg⟩
        rw [List.length_map, hP.len, List.take_length] at hg
        walk_at "z"
        refine Z.tupK (fun t H5 nt k5 e5 => ?_)
        exact q H5 t m s g ((k13.trans k4).trans k5) e5 (((e2.kp0 k3).kp0 k4).kp0 k5) (e4.kp0 k5) hgL hg

theorem tyTup {K : PySem.W.Frag} {H : Hp} {a : Addr} {xs : List V} (h : SqT K H a xs) : TyX K H (.ref a) (.type "tuple") := by
  rcases h with (h | ⟨o, h⟩) | ⟨o, its, n, h1, h2, _⟩
  · exact .base (.tup h)
  · exact .fTuple h
  · exact .kTuple h1 h2

/-! ### sets of so many, and their moments -/
def stepS {α : Type} (many : Nat) (fs : List (List α)) (x : α) : List (List α) := fs ++ (fs.filter fun o => decide (o.length < many)).map (· ++ [x])
def allS {α : Type} (many : Nat) (xs : List α) : List (List α) := xs.foldl (stepS many) [[]]
def famS {α : Type} (many j : Nat) (xs : List α) : List (List α) := (allS many xs).filter fun o => decide (o.length = j)
theorem allS_snoc {α : Type} (many : Nat) (xs : List α) (x : α) : allS many (xs ++ [x]) = stepS many (allS many xs) x := by
  unfold allS
  rw [List.foldl_append]; rfl
theorem allS_map {α β : Type} (f : α → β) (many : Nat) (xs : List α) : (allS many xs).map (List.map f) = allS many (xs.map f) := by
  have h : ∀ (xs : List α) (fs : List (List α)), (xs.foldl (stepS many) fs).map (List.map f) = (xs.map f).foldl (stepS many) (fs.map (List.map f)) := by
    intro xs
    induction xs with
    | nil => intro fs; rfl
    | cons x r ih =>
      intro fs
      rw [List.foldl_cons, ih, List.map_cons, List.foldl_cons]
      congr 1
      unfold stepS
      rw [List.map_append, List.filter_map, List.map_map, List.map_map]
      congr 1
      have e1 : ((fun o : List β => decide (o.length < many)) ∘ List.map f) = fun o : List α => decide (o.length < many) := by funext o; simp
      rw [e1]
      refine List.map_congr_left fun o _ => ?_
      simp
  exact h xs [[]]
theorem famS_map {α β : Type} (f : α → β) (many j : Nat) (xs : List α) : (famS many j xs).map (List.map f) = famS many j (xs.map f) := by
  unfold famS
  rw [← allS_map, List.filter_map]
  congr 1
  congr 1
  funext o
  simp
theorem filt_len {α : Type} {many j : Nat} (hj : j + 1 ≤ many) (x : α) : ∀ fs : List (List α), ((fs.filter fun o => decide (o.length < many)).map (· ++ [x])).filter (fun o => decide (o.length = j + 1)) = (fs.filter fun o => decide (o.length = j)).map (· ++ [x])
  | [] => rfl
  | o :: r => by
    have ih := filt_len hj x r
    by_cases h1 : o.length = j
    · rw [List.filter_cons_of_pos (by simp; omega), List.filter_cons_of_pos (p := fun o : List α => decide (o.length = j)) (by simp [h1]), List.map_cons, List.map_cons, List.filter_cons_of_pos (by simp [h1]), ih]
    · rw [List.filter_cons_of_neg (p := fun o : List α => decide (o.length = j)) (by simp [h1]), ← ih]
      by_cases h2 : o.length < many
      · rw [List.filter_cons_of_pos (by simp [h2]), List.map_cons, List.filter_cons_of_neg (by simp [h1])]
      · rw [List.filter_cons_of_neg (by simp [h2])]
theorem famS_succ {α : Type} {many j : Nat} (hj : j + 1 ≤ many) (xs : List α) (x : α) : famS many (j + 1) (xs ++ [x]) = famS many (j + 1) xs ++ (famS many j xs).map (· ++ [x]) := by
  unfold famS
  rw [allS_snoc]
  unfold stepS
  rw [List.filter_append, filt_len hj]
theorem filt_zero {α : Type} (x : α) : ∀ fs : List (List α), (fs.map (· ++ [x])).filter (fun o => decide (o.length = 0)) = []
  | [] => rfl
  | o :: r => by
    rw [List.map_cons, List.filter_cons_of_neg (by simp), filt_zero x r]
theorem famS_zero {α : Type} {many : Nat} (xs : List α) (x : α) : famS many 0 (xs ++ [x]) = famS many 0 xs := by
  unfold famS
  rw [allS_snoc]
  unfold stepS
  rw [List.filter_append, filt_zero, List.append_nil]

/-! ### _law_sets -/
theorem alike_row (a b : Row) : PySem.W.alike (rowD a) (rowD b) = true := by
  unfold rowD
  simp [PySem.W.alike, PySem.W.alikeAll]
theorem allS_len {α : Type} (many : Nat) (x : α) (fs : List (List α)) : (stepS many fs x).length ≤ 2 * fs.length := by
  unfold stepS
  rw [List.length_append, List.length_map]
  have := List.length_filter_le (fun o : List α => decide (o.length < many)) fs
  omega
def spSets (K : PySem.W.Frag) : Sp := fun vs H Q _ => ∃ (l : Addr) (many : Nat) (ps : List (Addr × Row)), vs = [.ref l, .int (many : Int)] ∧ H l = some (.lst (refs ps)) ∧ RowsAt H ps ∧ (∀ x ∈ ps, RowS x.2) ∧ ps.length ≤ 6 ∧
  ∀ H' F L qs, qs.Perm ps → Kp [] H H' → H' F = some (.lst (srefs L)) → SetsAt H' L → L.map (fun o => o.2) = famS many many qs → Q (.ref F) H'
theorem ok__law_sets {P : Program} {w : World} {K : PySem.W.Frag} {mg : Str → Option Value} {base : Heap} (T : T P K mg) : FnOk P w K mg base CX0 1 T.a__law_sets T.fd__law_sets ["things", "many"] (spSets K) := by
  refine T.F__law_sets.ok sc__law_sets (fun vs H Q E h => ?_) (fun cdv A outer s H vs Q E hr h => ?_)
  · obtain ⟨l, many, ps, rfl, _⟩ := h
    rfl
  · obtain ⟨l, many, ps, rfl, hl, hps, hS, hn, q⟩ := h
    refine ⟨_, (pss_cons (ps_set (i := 2) sc__law_sets.nd rfl (by first | exact Or.inl rfl | exact Or.inr rfl) (pe_lst (pa_cons (pe_lst pa_nil) pa_nil)))
      (pss_cons (ps_for PassesOwn.never rfl (pi_list (pe_callB ((RL.cr_sortedD hr.units) : CallR _ _ (RL.rSortedD K)) (by rfl) T.z_sorted (by decide +kernel) (pa_cons (pv 0) pa_nil))) (pg_name (i := 3) sc__law_sets.nd rfl (by first | exact Or.inl rfl | exact Or.inr rfl)) (pss_one (ps_set (i := 2) sc__law_sets.nd rfl (by first | exact Or.inl rfl | exact Or.inr rfl) (pe_op op_cat (pv 2) (pe_lc (own := [("one", 4)]) (g := gName 4) rfl sc__law_sets.nd (pi_list (pv 2)) (blkOk_by (own := [("one", 4)]) (N := N__law_sets) (sc := defScope s__law_sets) (by decide +kernel)) (fun _ _ _ _ _ => (pg_name (i := 4) sc__law_sets.nd rfl (by first | exact Or.inl rfl | exact Or.inr rfl))) (fun _ _ _ _ _ => (pts_one (pt_cmpR op_lt (pe_callB (c_len : CallR _ _ (Z.rLenN K)) (by rfl) T.z_len (by decide +kernel) (pa_cons (pv 4) pa_nil)) (pv 1) (nomark _)))) (fun _ _ _ _ _ => (pe_op op_cat (pv 4) (pe_lst (pa_cons (pv 3) pa_nil)))))))))
      (pss_one (ps_ret (pe_lc (own := [("one", 4)]) (g := gName 4) rfl sc__law_sets.nd (pi_list (pv 2)) (blkOk_by (own := [("one", 4)]) (N := N__law_sets) (sc := defScope s__law_sets) (by decide +kernel)) (fun _ _ _ _ _ => (pg_name (i := 4) sc__law_sets.nd rfl (by first | exact Or.inl rfl | exact Or.inr rfl))) (fun _ _ _ _ _ => (pts_one (pt_cmpR op_eq (pe_callB (c_len : CallR _ _ (Z.rLenN K)) (by rfl) T.z_len (by decide +kernel) (pa_cons (pv 4) pa_nil)) (pv 1) (nomark _)))) (fun _ _ _ _ _ => (pv 4))))))), ?_⟩
    walk_at "z0"
    walk_at "z"
    refine Z.lstK (fun E1 H1 nE1 k1 e1 => ?_)
    walk_at "z"
    refine Z.lstK (fun F H2 nF k2 e2 => ?_)
    have k12 := k1.trans k2
    have e2E := k2.get nin0 e1
    have e2l := k12.get nin0 hl
    walk_at "z"
    refine ⟨l, ps.map fun x => (V.ref x.1, rowD x.2), rfl, by rw [List.map_map]; exact lstL e2l, ?_, ?_, ?_, ?_, fun p np => ?_⟩
    · intro b hb
      obtain ⟨x, hx, rfl⟩ := List.mem_map.mp hb
      exact dpRow ((hps.kp0 k12) x hx)
    · intro d hd d' hd'
      rw [List.map_map] at hd hd'
      obtain ⟨x, hx, rfl⟩ := List.mem_map.mp hd
      obtain ⟨y, hy, rfl⟩ := List.mem_map.mp hd'
      exact alike_row x.2 y.2
    · refine .inl fun d hd => ?_
      rw [List.map_map] at hd
      obtain ⟨x, hx, rfl⟩ := List.mem_map.mp hd
      exact ⟨_, _, rfl⟩
    · intro b hb
      obtain ⟨x, hx, rfl⟩ := List.mem_map.mp hb
      show (rowD x.2).depth ≤ 60
      rw [rowD_depth]; decide
    · obtain ⟨qs, hqs, hqp⟩ : ∃ qs : List (Addr × Row), ((ps.map fun x => (V.ref x.1, rowD x.2)).mergeSort (PySem.W.dataLe false Prod.snd)).map Prod.fst = refs qs ∧ qs.Perm ps := by
        refine ⟨ps.mergeSort fun a b => PySem.W.dataLe false (Prod.snd : V × PyData → PyData) (V.ref a.1, rowD a.2) (V.ref b.1, rowD b.2), ?_, List.mergeSort_perm _ _⟩
        rw [← PySem.W.sort_maps (r := fun a b : Addr × Row => PySem.W.dataLe false (Prod.snd : V × PyData → PyData) (V.ref a.1, rowD a.2) (V.ref b.1, rowD b.2)) (fun x : Addr × Row => (V.ref x.1, rowD x.2)) (fun a _ b _ => rfl), List.map_map]
        rfl
      rw [hqs]
      have k3 : Kp [] H2 (upd H2 p (.lst (refs qs))) := Kp.new np
      have e3 : upd H2 p (.lst (refs qs)) p = some (.lst (refs qs)) := upd_same
      generalize upd H2 p (.lst (refs qs)) = H3 at k3 e3 ⊢
      have k13 := k12.trans k3
      have hql : qs.length = ps.length := hqp.length_eq
      walk_at "z"
      refine Z.forl (refs qs) (lstL e3) (fun i σ' H' => ∃ (y3 : Option V) (F' : Addr) (L : List (Addr × List (Addr × Row))), σ' = [some (.ref l), some (.int (many : Int)), some (.ref F'), y3, none] ∧ Kp [] H3 H' ∧ H' F' = some (.lst (srefs L)) ∧ SetsAt H' L ∧ L.map (fun o => o.2) = allS many (qs.take i) ∧ L.length ≤ 2 ^ i ∧ ∀ o ∈ L, o.2.length ≤ i) ?_ ?_ ?_ ?_
      · refine ⟨none, F, [(E1, [])], rfl, Kp.refl _, k3.get nin0 e2, fun o ho => ?_, rfl, by simp, fun o ho => ?_⟩
        · rw [List.mem_singleton.mp ho]; exact k3.get nin0 e2E
        · rw [List.mem_singleton.mp ho]; simp
      · rintro i σ' H' _ ⟨y3, F', L, rfl, k4, _⟩
        exact lstL (k4.get nin0 e3)
      · rintro i v σ' H4 hv ⟨y3, F', L, rfl, k4, e4, S4, hL, hLn, hLz⟩
        obtain ⟨x, hx, rfl⟩ := refs_of hv
        have hi : i < qs.length := (List.getElem?_eq_some_iff.mp hx).1
        have h64 : 2 ^ i ≤ 2 ^ 6 := Nat.pow_le_pow_right (by decide) (by omega)
        walk_at "z"
        refine Z.lcl (srefs L) (lstL e4) (fun D j H' => ∃ L2 : List (Addr × List (Addr × Row)), Kp [] H4 H' ∧ H' D = some (.lst (srefs L2)) ∧ SetsAt H' L2 ∧ (∀ o ∈ L2, o.1 ≠ D) ∧ L2.length ≤ j ∧ L2.map (fun o => o.2) = ((((L.take j).map fun o => o.2).filter fun o => decide (o.length < many)).map (· ++ [x])) ∧ ∀ o ∈ L2, o.2.length ≤ i + 1) ?_ ?_ ?_ ?_
        · intro D H5 nD k5 e5
          exact ⟨[], k5, e5, (fun o ho => by cases ho), (fun o ho => by cases ho), by simp, rfl, fun o ho => by cases ho⟩
        · rintro D j H5 nD hj ⟨L2, k5, _⟩
          exact lstL (k5.get nin0 e4)
        · rintro D j v H5 nD hv ⟨L2, k5, e5, S5, n5, hl5, hL5, hz5⟩
          obtain ⟨o, ho, rfl⟩ := srefs_of hv
          have hj : j < L.length := (List.getElem?_eq_some_iff.mp ho).1
          have hom := List.mem_of_getElem? ho
          have hoa := (S4.kp0 k5) o hom
          have hoz := hLz o hom
          dsimp only [wipe, List.set]
          walk_at "z"
          refine ⟨rfl, ?_⟩
          walk_at "z"
          refine Z.lenL (lstL hoa) ?_
          rw [refs_len]
          walk_at "z"
          rw [List.take_add_one, ho, List.map_append, List.filter_append, List.map_append]
          refine Z.ite (fun h1 => ?_) (fun h1 => ?_)
          · walk_at "z"
            refine Z.lstK (fun g H6 ng k6 e6 => ?_)
            refine Z.cat (k6.get nin0 hoa) e6 (by rw [refs_len]; simp; omega) (fun c H7 nc k7 e7 => ?_)
            have k57 := k6.trans k7
            have e7D := k57.get nin0 e5
            have e7c : H7 c = some (.lst (refs (o.2 ++ [x]))) := by rw [e7, refs_snoc]
            have ncD : c ≠ D := fun z => by rw [z] at nc; rw [k6.get nin0 e5] at nc; cases nc
            refine ⟨_, e7D, Z.szl (m := 1000) (by rw [srefs_len]; omega), L2 ++ [(c, o.2 ++ [x])], (k5.trans k57).mut nD rfl, by rw [upd_same]; unfold srefs; rw [List.map_append]; rfl, ?_, mem_append_one n5 ncD, by rw [List.length_append]; simp; omega, ?_, mem_append_one hz5 (by rw [List.length_append]; simp; omega)⟩
            · exact ((S5.kp0 k57).snoc (o := (c, o.2 ++ [x])) e7c).put (mem_append_one n5 ncD)
            · rw [List.map_append, hL5]
              congr 1
              simp only [Option.toList_some, List.map_cons, List.map_nil, List.filter_cons, List.filter_nil]
              rw [if_pos (by simp; omega)]; rfl
          · walk_at "z"
            refine ⟨L2, k5, e5, S5, n5, by omega, ?_, hz5⟩
            rw [hL5]
            simp only [Option.toList_some, List.map_cons, List.map_nil, List.filter_cons, List.filter_nil]
            rw [if_neg (by simp; omega)]
            simp
        · rintro D H5 nD ⟨L2, k5, e5, S5, n5, hl5, hL5, hz5⟩
          rw [srefs_len, List.take_length] at hL5
          rw [srefs_len] at hl5
          refine Z.cat (k5.get nin0 e4) e5 (by rw [srefs_len, srefs_len]; omega) (fun F2 H6 nF2 k6 e6 => ?_)
          walk_at "z"
          refine ⟨_, F2, L ++ L2, rfl, (k4.trans k5).trans k6, by rw [e6]; unfold srefs; rw [List.map_append], fun o ho => ?_, ?_, ?_, fun o ho => ?_⟩
          · rcases List.mem_append.mp ho with z | z
            · exact ((S4.kp0 k5).kp0 k6) o z
            · exact (S5.kp0 k6) o z
          · rw [List.map_append, hL5, hL, List.take_add_one, hx]
            show _ = allS many (qs.take i ++ [x])
            rw [allS_snoc]; rfl
          · rw [List.length_append, Nat.pow_succ]
            omega
          · rcases List.mem_append.mp ho with z | z
            · have := hLz o z; omega
            · exact hz5 o z
      · rintro σ' H4 ⟨y3, F', L, rfl, k4, e4, S4, hL, hLn, hLz⟩
        rw [refs_len] at hL hLn
        rw [List.take_length] at hL
        have h64 : 2 ^ qs.length ≤ 2 ^ 6 := Nat.pow_le_pow_right (by decide) (by omega)
        walk_at "z"
        refine Z.lcl (srefs L) (lstL e4) (fun D j H' => ∃ L3 : List (Addr × List (Addr × Row)), Kp [] H4 H' ∧ H' D = some (.lst (srefs L3)) ∧ L3.length ≤ j ∧ L3 = (L.take j).filter fun o => decide (o.2.length = many)) ?_ ?_ ?_ ?_
        · intro D H5 nD k5 e5
          exact ⟨[], k5, e5, by simp, rfl⟩
        · rintro D j H5 nD hj ⟨L3, k5, _⟩
          exact lstL (k5.get nin0 e4)
        · rintro D j v H5 nD hv ⟨L3, k5, e5, hl5, hL5⟩
          obtain ⟨o, ho, rfl⟩ := srefs_of hv
          have hj : j < L.length := (List.getElem?_eq_some_iff.mp ho).1
          have hoa := (S4.kp0 k5) o (List.mem_of_getElem? ho)
          dsimp only [wipe, List.set]
          walk_at "z"
          refine ⟨rfl, ?_⟩
          walk_at "z"
          refine Z.lenL (lstL hoa) ?_
          rw [refs_len]
          walk_at "z"
          rw [List.take_add_one, ho, List.filter_append, ← hL5]
          refine Z.ite (fun h1 => ?_) (fun h1 => ?_)
          · walk_at "z"
            refine ⟨_, e5, Z.szl (m := 1000) (by rw [srefs_len]; omega), L3 ++ [o], k5.mut nD rfl, by rw [upd_same]; unfold srefs; rw [List.map_append]; rfl, by rw [List.length_append]; simp; omega, ?_⟩
            congr 1
            simp only [Option.toList_some, List.filter_cons, List.filter_nil]
            rw [if_pos (by simp; omega)]
          · walk_at "z"
            refine ⟨L3, k5, e5, by omega, ?_⟩
            simp only [Option.toList_some, List.filter_cons, List.filter_nil]
            rw [if_neg (by simp; omega)]
            simp
        · rintro D H5 nD ⟨L3, k5, e5, hl5, hL5⟩
          rw [srefs_len, List.take_length] at hL5
          refine q H5 D L3 qs hqp ((k13.trans k4).trans k5) e5 (fun o ho => ?_) ?_
          · rw [hL5] at ho
            exact (S4.kp0 k5) o (List.mem_filter.mp ho).1
          · unfold famS
            rw [← hL, hL5, List.filter_map]
            rfl

theorem app_len (a b : Str) : (a ++ b).length = a.length + b.length := by
  show (a.cps ++ b.cps).size = _
  rw [Array.size_append]; rfl

/-! ### errors of samphire.errors with fields -/
/-- what an own __init__ with fields does: ok says what it is called with, fl which fields it keeps -/
def spErr (C : Addr) (ok : List V → Prop) (fl : List V → List (Str × V)) : Sp := fun vs H Q _ => ∃ (a : Addr) (ws : List V), vs = .ref a :: ws ∧ ok ws ∧ H a = some (exo a C none) ∧
  ∀ d H', H d = none → d ≠ a → H' a = some (exo a C (some d)) → H' d = some (exd d (fl ws)) → (∀ b, b ≠ a → b ≠ d → H' b = H b) → Q .non H'
theorem err_heap {H H' : Hp} {a d : Addr} {o : HO} (ha : H a = none) (h : ∀ b, b ≠ a → b ≠ d → H' b = H b) : upd (del H' a) d o = upd H d o := by
  funext b
  by_cases hd : b = d
  · rw [hd, upd_same, upd_same]
  · rw [upd_ne hd, upd_ne hd]
    by_cases hb : b = a
    · rw [hb, del_same, ha]
    · rw [del_ne hb, h b hb hd]
/-- raise C(..) -/
theorem mkErr {C : Addr} {ok : List V → Prop} {fl : List V → List (Str × V)} {ta : TA} {σ : L2.St} {H : Hp} {Q : XK} (h : ta σ H fun vs H1 => vs.length ≤ 1000 ∧ ok vs ∧ ∀ d, H1 d = none → Q (.ref C) (some d) (upd H1 d (.xd (fl vs)))) (mono : ∀ {R S : List V → Hp → Prop}, (∀ v u, R v u → S v u) → ta σ H R → ta σ H S) : tMkO C (spErr C ok fl) [] ta σ H Q := by
  refine mono ?_ h
  rintro vs H1 ⟨hz, hok, q⟩
  refine ⟨hz, fun a ha => ⟨a, vs, by rw [List.append_nil], hok, upd_same, fun d H' hd hda h1 h2 h3 => ⟨rfl, d, fl vs, h1, h2, ?_, ?_⟩⟩⟩
  · rwa [upd_ne hda] at hd
  · rw [err_heap ha fun b hb hd => by rw [h3 b hb hd, upd_ne hb]]
    refine q d ?_
    rwa [upd_ne hda] at hd
def okWord (ws : List V) : Prop := ∃ s : Str, ws = [.str s] ∧ s.length ≤ 1000
def flOne (f : Str) : List V → List (Str × V)
  | [v] => [(f, v)]
  | _ => []
theorem ok_TooLarge_init {P : Program} {w : World} {K : PySem.W.Frag} {mg : Str → Option Value} {base : Heap} (T : T P K mg) : FnOk P w K mg base CX0 1 T.a_TooLarge_init ((NF_TooLarge T.cc_TooLarge T.c_TooLarge).fd T.doc_TooLarge T.pm_TooLarge T.ctv_TooLarge) ["self", "limit"] (spErr T.C_TooLarge okWord (flOne "limit")) := by
  refine Sup.fn_super (F := NF_TooLarge T.cc_TooLarge T.c_TooLarge) (p := "self") (ps' := ["limit"]) T.x_TooLarge.S T.lk_TooLarge rfl T.hc_TooLarge sc_TooLarge_init rfl ⟨_, rfl, rfl⟩ rfl rfl (fun _ => rfl) (fun _ => ⟨_, rfl⟩) (fun _ => rfl) (fun vs H Q E h => ?_) (fun A outer s H vs Q E hr h => ?_)
  · obtain ⟨a, ws, rfl, ⟨s, rfl, _⟩, _⟩ := h
    rfl
  · obtain ⟨a, ws, rfl, ⟨s, rfl, hz⟩, ha, q⟩ := h
    refine ⟨a, [.str s], _, _, rfl, ha, pa_cons (pe_joined (.cons pe_str (.cons (pe_fmt (pv 1)) .nil))) pa_nil, pss_one (ps_ost (pv 0) (pv 1)), ?_⟩
    refine ⟨_, rfl, ?_, V.str s, rfl, .inl ⟨s, rfl, Nat.le_trans hz (by decide), s, rfl, ?_, ?_⟩⟩
    · decide +kernel
    · rw [app_len]
      refine Nat.le_trans (Nat.add_le_add (Nat.le_of_eq (show _ = 11 by decide +kernel)) hz) (by decide)
    refine ⟨by show 1 ≤ 1000; decide, ha, V.str s, rfl, V.ref a, rfl, a, T.C_TooLarge, rfl, T.x_TooLarge.S.T, T.nf_TooLarge_limit, .inl ⟨ha, fun d hd hda => ?_⟩⟩
    exact q d _ hd hda upd_same (by rw [upd_ne hda]; exact upd_same) (fun b hb hb2 => by rw [upd_ne hb, upd_ne hb2])

/-! ### the unordered estimate -/
theorem nin2 {a b c : Addr} (h1 : a ≠ b) (h2 : a ≠ c) : a ∉ [b, c] := fun z => by
  rcases List.mem_cons.mp z with z | z
  · exact h1 z
  · exact h2 (List.mem_singleton.mp z)
def PosL (T : Int) (o : List (Addr × Row)) : Prop := ∀ i, i < o.length → 1 ≤ T - (wts (o.take i)).sum
theorem ch_pos {T : Int} : ∀ (n : Nat) (o : List (Addr × Row)), o.length = n → (∀ x ∈ o, RowW x.2) → 0 < ch T o
  | 0, o, h, _ => by
    rw [List.length_eq_zero_iff.mp h]
    show (0 : Rat) < rv (1, 1)
    rw [rv_int]; decide
  | n + 1, o, h, hW => by
    have hne : o ≠ [] := fun z => by rw [z] at h; simp at h
    have e := (List.dropLast_concat_getLast hne).symm
    have hl : o.dropLast.length = n := by rw [List.length_dropLast]; omega
    rw [e] at hW ⊢
    generalize o.getLast hne = x at hW ⊢
    generalize o.dropLast = us at hl hW ⊢
    have ih := ch_pos (T := T) n us hl fun z hz => hW z (by simp [hz])
    have h0 := (hW x (by simp)).w0
    have h2 := mx_pos (T - (wts us).sum)
    unfold ch at ih ⊢
    rw [chF_snoc]
    generalize (if T - (wts us).sum < 1 then 1 else T - (wts us).sum) = mx at h2 ⊢
    rw [rv_ftimes (chF_low T _ us rfl).ne (lo_low (by omega)).ne, rv_lo (by omega)]
    have a1 : (0 : Rat) < (x.2.w : Rat) := by exact_mod_cast (show (0 : Int) < x.2.w by omega)
    have a2 : (0 : Rat) < (mx : Rat) := by exact_mod_cast (show (0 : Int) < mx by omega)
    have a3 : (0 : Rat) < (x.2.w : Rat) / (mx : Rat) := by
      rw [Rat.div_def]
      exact Rat.mul_pos a1 (Rat.inv_pos.mpr a2)
    exact Rat.mul_pos ih a3
def spOCh (K : PySem.W.Frag) : Sp := fun vs H Q _ => ∃ (l : Addr) (T : Int) (o : List (Addr × Row)), vs = [.int T, .ref l] ∧ H l = some (.lst (refs o)) ∧ RowsAt H o ∧ (∀ x ∈ o, RowW x.2) ∧ 0 ≤ T ∧ T ≤ 5000 ∧ o.length ≤ 3 ∧ PosL T o ∧ ∀ H' c, Kp [] H H' → FrAt K H' c (chF T o) → Q (.ref c) H'
theorem ok_order_chance {P : Program} {w : World} {K : PySem.W.Frag} {mg : Str → Option Value} {base : Heap} (T : T P K mg) : FnOk P w K mg base CX0 5 T.a_order_chance T.fd_order_chance ["total", "kept"] (spOCh K) := by
  refine T.F_order_chance.ok sc_order_chance (fun vs H Q E h => ?_) (fun cdv A outer s H vs Q E hr h => ?_)
  · obtain ⟨l, T, o, rfl, _⟩ := h
    rfl
  · obtain ⟨l, t, o, rfl, hl, hps, hW, ht0, ht1, h3, hpos, q⟩ := h
    refine ⟨_, (pss_cons (ps_set (i := 2) sc_order_chance.nd rfl (by first | exact Or.inl rfl | exact Or.inr rfl) (pe_glob (v := .ref T.k_ONE) (by rfl) T.g_ONE rfl))
      (pss_cons (ps_set (i := 3) sc_order_chance.nd rfl (by first | exact Or.inl rfl | exact Or.inr rfl) (pv 0))
      (pss_cons (ps_for PassesOwn.never rfl (pi_list (pv 1)) (pg_name (i := 4) sc_order_chance.nd rfl (by first | exact Or.inl rfl | exact Or.inr rfl)) (pss_cons (ps_set (i := 2) sc_order_chance.nd rfl (by first | exact Or.inl rfl | exact Or.inr rfl) (pe_call (ok_times T) (hr.mono (by decide)) (by rfl) T.g_times T.F_times.kp T.b_times .nil pass0 (pa_cons (pv 2) (pa_cons (pe_call (ok_lowest T) (hr.mono (by decide)) (by rfl) T.g_lowest T.F_lowest.kp T.b_lowest .nil passL (pa_cons (pe_ix ix_tup (pv 4) pe_int (fun _ _ => rfl)) (pa_cons (pv 3) pa_nil))) pa_nil))))
      (pss_one (ps_aug (i := 3) sc_order_chance.nd rfl (by first | exact Or.inl rfl | exact Or.inr rfl) (pe_ix ix_tup (pv 4) pe_int (fun _ _ => rfl)) ip_sub))))
      (pss_one (ps_ret (pv 2)))))), ?_⟩
    walk_at "z0"
    walk_at "z"
    refine Z.forl (refs o) (lstL hl) (fun i σ' H' => ∃ (y4 : Option V) (c : Addr), σ' = [some (.int t), some (.ref l), some (.ref c), some (.int (t - (wts (o.take i)).sum)), y4] ∧ Kp [] H H' ∧ FrAt K H' c (chF t (o.take i))) ?_ ?_ ?_ ?_
    · exact ⟨none, T.k_ONE, by show _ = [_, _, _, some (V.int (t - 0)), _]; rw [Int.sub_zero], Kp.refl _, T.q_ONE H⟩
    · rintro i σ' H' _ ⟨y4, c, rfl, k2, _⟩
      exact lstL (k2.get nin0 hl)
    · rintro i v σ' H2 hv ⟨y4, c, rfl, k2, e2⟩
      obtain ⟨x, hx, rfl⟩ := refs_of hv
      have hxm := List.mem_of_getElem? hx
      have hi : i < o.length := (List.getElem?_eq_some_iff.mp hx).1
      have htk : ∀ y ∈ o.take i, RowW y.2 := fun y hy => hW y (List.mem_of_mem_take hy)
      have hw := wts_B htk (by rw [List.length_take]; omega)
      have hx0 := (hW x hxm).w0
      have hx1 := (hW x hxm).w1
      have hcL := chF_low t _ (o.take i) rfl
      have hcB := (chF_B (T := t) (by omega) _ (o.take i) rfl htk).mono (show 1 + 13 * (o.take i).length ≤ 40 by rw [List.length_take]; omega)
      have ewi : (wts (o.take (i + 1))).sum = (wts (o.take i)).sum + x.2.w := by
        rw [List.take_add_one, hx]
        unfold wts
        rw [List.map_append, List.sum_append]
        simp
      have hlf := hpos i hi
      have hmx2 : t - (wts (o.take i)).sum = (if t - (wts (o.take i)).sum < 1 then 1 else t - (wts (o.take i)).sum) := by rw [if_neg (by omega)]
      walk_at "z"
      refine RowAt.w2 ((hps.kp0 k2) x hxm) ?_
      walk_at "z"
      have hne : t - (wts (o.take i)).sum ≠ 0 := by omega
      have hnB : (t - (wts (o.take i)).sum).natAbs < 2 ^ 13 := by omega
      refine ⟨_, _, rfl, up_B (n := 13) hnB (by decide), fun z => absurd z hne, fun _ H3 c3 n3 k3 e3 => ?_⟩
      walk_at "z"
      have hL3 := lo_low (p := x.2.w) hne
      have hB3 : FrB 13 (lo x.2.w (t - (wts (o.take i)).sum)) := lo_B hne (Nat.lt_of_le_of_lt (show x.2.w.natAbs ≤ 1000 by omega) (by decide)) hnB
      refine ⟨c, c3, chF t (o.take i), _, rfl, e2.kp0 k3, e3, hcL.ne, hL3.ne, hcB.mono (by decide), hB3.mono (by decide), fun H4 c4 n4 k4 e4 => ?_⟩
      have k24 := (k2.trans k3).trans k4
      walk_at "z"
      refine RowAt.w2 ((hps.kp0 k24) x hxm) ?_
      walk_at "z"
      refine ⟨some (.ref x.1), c4, ?_, k24, ?_⟩
      · rw [ewi, ← Int.sub_sub]; rfl
      · rw [List.take_add_one, hx]
        show FrAt K H4 c4 (chF t (o.take i ++ [x]))
        rw [chF_snoc, ← hmx2]
        exact e4
    · rintro σ' H2 ⟨y4, c, rfl, k2, e2⟩
      rw [refs_len, List.take_length] at e2
      walk_at "z"
      exact q H2 c k2 e2
/-- the orders of at most three, as permutations has them -/
def prm3 {α : Type} : List α → List (List α)
  | [] => [[]]
  | [x] => [[x]]
  | [x, y] => [[x, y], [y, x]]
  | [x, y, z] => [[x, y, z], [x, z, y], [y, x, z], [y, z, x], [z, x, y], [z, y, x]]
  | _ => []
theorem prm3_perm {α : Type} : ∀ {l : List α}, l.length ≤ 3 → ∀ o ∈ prm3 l, o.Perm l
  | [], _, o, h => by rw [List.mem_singleton.mp h]
  | [x], _, o, h => by rw [List.mem_singleton.mp h]
  | [x, y], _, o, h => by
    simp only [prm3, List.mem_cons, List.not_mem_nil, or_false] at h
    rcases h with rfl | rfl
    · exact .refl _
    · exact .swap _ _ _
  | [x, y, z], _, o, h => by
    simp only [prm3, List.mem_cons, List.not_mem_nil, or_false] at h
    rcases h with rfl | rfl | rfl | rfl | rfl | rfl
    · exact .refl _
    · exact .cons _ (.swap _ _ _)
    · exact .swap _ _ _
    · exact (List.Perm.cons y (.swap _ _ _)).trans (.swap _ _ _)
    · exact (List.Perm.swap _ _ _).trans (.cons _ (.swap _ _ _))
    · exact ((List.Perm.swap _ _ _).trans (.cons _ (.swap _ _ _))).trans (.swap _ _ _)
  | _ :: _ :: _ :: _ :: r, h, _, _ => by simp at h
theorem prm3_len {α : Type} : ∀ {l : List α}, l.length ≤ 3 → (prm3 l).length ≤ 6 ∧ 1 ≤ (prm3 l).length
  | [], _ => by simp [prm3]
  | [x], _ => by simp [prm3]
  | [x, y], _ => by simp [prm3]
  | [x, y, z], _ => by simp [prm3]
  | _ :: _ :: _ :: _ :: r, h => by simp at h
/-- what a turn of permutations gives is an order -/
theorem prm_turn : ∀ {ps : List (Addr × Row)}, ps.length ≤ 3 → ∀ {i : Nat} {p : List Nat × List Nat}, (Prm.stP ps.length)[i]? = some p → ∃ o, (prm3 ps)[i]? = some o ∧ Prm.pickV (refs ps) (p.1.take (refs ps).length) = refs o
  | [], _, i, p, h => by
    match i, h with
    | 0, h => cases h; exact ⟨_, rfl, rfl⟩
  | [x], _, i, p, h => by
    match i, h with
    | 0, h => cases h; exact ⟨_, rfl, rfl⟩
  | [x, y], _, i, p, h => by
    match i, h with
    | 0, h => cases h; exact ⟨_, rfl, rfl⟩
    | 1, h => cases h; exact ⟨_, rfl, rfl⟩
  | [x, y, z], _, i, p, h => by
    match i, h with
    | 0, h => cases h; exact ⟨_, rfl, rfl⟩
    | 1, h => cases h; exact ⟨_, rfl, rfl⟩
    | 2, h => cases h; exact ⟨_, rfl, rfl⟩
    | 3, h => cases h; exact ⟨_, rfl, rfl⟩
    | 4, h => cases h; exact ⟨_, rfl, rfl⟩
    | 5, h => cases h; exact ⟨_, rfl, rfl⟩
  | _ :: _ :: _ :: _ :: r, h, _, _, _ => by simp at h
theorem stP_len : ∀ {ps : List (Addr × Row)}, ps.length ≤ 3 → (Prm.stP ps.length).length = (prm3 ps).length
  | [], _ => rfl
  | [x], _ => rfl
  | [x, y], _ => rfl
  | [x, y, z], _ => rfl
  | _ :: _ :: _ :: _ :: r, h => by simp at h

theorem listT {K : PySem.W.Frag} {H : Hp} {Q : VK} {a : Addr} {xs : List V} (h : SqT K H a xs) (q : ∀ p H1, H p = none → Kp [] H H1 → H1 p = some (.lst xs) → Q (.ref p) H1) : rListN K [.ref a] H Q := ⟨a, xs, rfl, .inr h, mk q⟩
theorem ex_pos {T : Int} : ∀ {L : List (List (Addr × Row))}, 1 ≤ L.length → (∀ o ∈ L, 0 < ch T o) → 0 < ex T L fun _ => 1
  | [], h, _ => by simp at h
  | [o], _, h => by
    have := h o (by simp)
    show 0 < 1 * ch T o + 0
    grind
  | o :: o2 :: r, _, h => by
    have h1 := h o (by simp)
    have h2 := ex_pos (L := o2 :: r) (by simp) fun z hz => h z (by simp [hz])
    show 0 < 1 * ch T o + ex T (o2 :: r) fun _ => 1
    grind
def unR (kvs : List (Key × V)) (T : Int) (L : List (List (Addr × Row))) : Rat := ex T L (fun o => meanR (nums kvs T o)) / ex T L (fun _ => 1)
def spUn (K : PySem.W.Frag) (C CE : Addr) : Sp := fun vs H Q E => ∃ (x k d : Addr) (size t : Int) (ps : List (Addr × Row)) (kvs : List (Key × V)), vs = [.ref x, .ref d] ∧ WtAt C H x k size t ps ∧ RowsAt H ps ∧ ps.length ≤ 1000 ∧ H d = some (.dK kvs) ∧ AmtOk kvs ∧
  ((wts ps).sum = t → ∀ H' c, Kp [] H H' → FrAt K H' c ((amts kvs ps).sum, 1) → Q (.ref c) H') ∧
  ((wts ps).sum ≠ t → 6 < ps.length → ∀ H' d, H' d = none → Kp [] H H' → E (.ref CE) (some d) (upd H' d (.xd [("limit", .str "orders")]))) ∧
  ((wts ps).sum ≠ t → ps.length ≤ 6 → (1 ≤ ps.length ∧ ps.length ≤ 3 ∧ (∀ x ∈ ps, RowW x.2) ∧ 0 ≤ t ∧ t ≤ 5000 ∧ (∀ o ∈ prm3 ps, PosL t o)) ∧ ∀ H' c g, Kp [] H H' → FrAt K H' c g → Low g → rv g = unR kvs t (prm3 ps) → Q (.ref c) H')
theorem ok_unordered {P : Program} {w : World} {K : PySem.W.Frag} {mg : Str → Option Value} {base : Heap} (T : T P K mg) : FnOk P w K mg base (L2.CX P w) 7 T.a_unordered T.fd_unordered ["sample", "amounts"] (spUn K T.C_Weighted T.C_TooLarge) := by
  refine T.F_unordered.okX sc_unordered (fun vs H Q E h => ?_) (fun cdv A outer s H vs Q E hr h => ?_)
  · obtain ⟨x, k, d, size, t, ps, kvs, rfl, _⟩ := h
    rfl
  · obtain ⟨x, k, d, size, t, ps, kvs, rfl, hU, hps, hn, hd, ho, q1, q2, q3⟩ := h
    obtain ⟨⟨dx, hx⟩, hk⟩ := id hU
    refine ⟨_, (pss_cons (ps_if (pt_val (pe_call (ok_is_whole T) (hr.mono (by decide)) (by rfl) T.g_is_whole T.F_is_whole.kp T.b_is_whole .nil pass0 (pa_cons (pv 0) pa_nil))) (pss_one (ps_ret (pe_tup (pa_cons (pe_call (ok_true_sum T) (hr.mono (by decide)) (by rfl) T.g_true_sum T.F_true_sum.kp T.b_true_sum .nil pass0 (pa_cons (pe_fld (pv 0) rfl) (pa_cons (pv 1) pa_nil))) (pa_cons pe_int pa_nil))))) pss_nil)
      (pss_cons (ps_if (pt_cmpR op_gt (pe_callB c_len (by rfl) T.z_len (by decide +kernel) (pa_cons (pe_fld (pv 0) rfl) pa_nil)) (pe_glob (by rfl) T.g_MOST_ORDERED T.r_MOST_ORDERED) (nomark _)) (pss_one (ps_raise rfl (takes_of rfl rfl rfl rfl) (pmk_oex T.x_TooLarge.S.T T.x_TooLarge.iC T.x_TooLarge.tI (ok_TooLarge_init T) (hr.mono (by decide)) (T.bx_TooLarge) .nil pass0 (by rfl) T.x_TooLarge.g (pa_cons pe_str pa_nil)))) pss_nil)
      (pss_cons (ps_set (i := 2) sc_unordered.nd rfl (by first | exact Or.inl rfl | exact Or.inr rfl) (pe_lst pa_nil))
      (pss_cons (ps_set (i := 3) sc_unordered.nd rfl (by first | exact Or.inl rfl | exact Or.inr rfl) (pe_lst pa_nil))
      (pss_cons (ps_for (passes_of rfl) rfl (pi_list (pe_lc (own := [("row", 6)]) (g := gName 6) rfl sc_unordered.nd ((Prm.pi_prm1 (by rfl) T.g_permutations (pa_cons (pe_fld (pv 0) rfl) pa_nil)) : L2.PI _ _ _ (Prm.iPrm1 K _)) (blkOk_by (own := [("row", 6)]) (N := N_unordered) (sc := defScope s_unordered) (by decide +kernel)) (fun _ _ _ _ _ => (pg_name (i := 6) sc_unordered.nd rfl (by first | exact Or.inl rfl | exact Or.inr rfl))) (fun _ _ _ _ _ => pts_nil) (fun _ _ _ _ _ => (pe_callTy (c_list : CallR _ _ (Z.rListN K)) (by rfl) T.z_list (by decide +kernel) (pa_cons (pv 6) pa_nil))))) (pg_name (i := 4) sc_unordered.nd rfl (by first | exact Or.inl rfl | exact Or.inr rfl)) (pss_cons (ps_set (i := 5) sc_unordered.nd rfl (by first | exact Or.inl rfl | exact Or.inr rfl) (pe_call (ok_order_chance T) (hr.mono (by decide)) (by rfl) T.g_order_chance T.F_order_chance.kp T.b_order_chance .nil pass0 (pa_cons (pe_fld (pv 0) rfl) (pa_cons (pv 4) pa_nil))))
      (pss_cons (ps_expr (pe_bm PySem.F.plainAttrs_list PySem.F.slot_list_append PySem.F.type_list_append mt_append (pv 2) (pa_cons (pv 5) pa_nil)))
      (pss_one (ps_expr (pe_bm PySem.F.plainAttrs_list PySem.F.slot_list_append PySem.F.type_list_append mt_append (pv 3) (pa_cons (pe_call (ok_times T) (hr.mono (by decide)) (by rfl) T.g_times T.F_times.kp T.b_times .nil pass0 (pa_cons (pv 5) (pa_cons (pe_call (ok_mean_of T) (hr.mono (by decide)) (by rfl) T.g_mean_of T.F_mean_of.kp T.b_mean_of .nil pass0 (pa_cons (pe_call (ok_ordered_estimates T) (hr.mono (by decide)) (by rfl) T.g_ordered_estimates T.F_ordered_estimates.kp T.b_ordered_estimates .nil pass0 (pa_cons (pe_fld (pv 0) rfl) (pa_cons (pv 4) (pa_cons (pv 1) pa_nil)))) pa_nil)) pa_nil))) pa_nil)))))))
      (pss_one (ps_ret (pe_call (ok_over T) (hr.mono (by decide)) (by rfl) T.g_over T.F_over.kp T.b_over .nil (passes_call (takes_of rfl rfl rfl rfl) (fun _ _ _ _ h => h)) (pa_cons (pe_call (ok_sum_of T) (hr.mono (by decide)) (by rfl) T.g_sum_of T.F_sum_of.kp T.b_sum_of .nil pass0 (pa_cons (pv 3) pa_nil)) (pa_cons (pe_call (ok_sum_of T) (hr.mono (by decide)) (by rfl) T.g_sum_of T.F_sum_of.kp T.b_sum_of .nil pass0 (pa_cons (pv 2) pa_nil)) pa_nil)))))))))), ?_⟩
    walk_at "z0"
    walk_at "z"
    refine ⟨x, k, size, t, ps, rfl, hU, hps, hn, fun H0 k0 => ?_⟩
    have hx0 := k0.get nin0 hx
    have hk0 := k0.get nin0 hk
    have hd0 := k0.get nin0 hd
    have r0 := hps.kp0 k0
    walk_at "z"
    refine Z.ite (fun h1 => ?_) (fun h1 => ?_)
    · walk_at "z"
      refine ⟨x, _, dx, _, _, rfl, hx0, T.cl_Weighted, T.na_Weighted_kept, wf_kept size t k, ?_⟩
      walk_at "z"
      refine ⟨k, d, ps, kvs, rfl, hk0, r0, hn, hd0, ho, fun H1 k1 => ?_⟩
      walk_at "z"
      refine Z.tupK (fun e H2 ne k2 e2 => ?_)
      exact q1 h1 H2 e ((k0.trans k1).trans k2) (tupT e2)
    · walk_at "z"
      refine ⟨x, _, dx, _, _, rfl, hx0, T.cl_Weighted, T.na_Weighted_kept, wf_kept size t k, ?_⟩
      walk_at "z"
      refine Z.lenL (lstL hk0) ?_
      rw [refs_len]
      walk_at "z"
      refine Z.ite (fun h2 => ?_) (fun h2 => ?_)
      · refine mkErr ?_ (fun hRS h => ?_)
        · walk_at "z"
          exact ⟨by simp, ⟨_, rfl, by decide⟩, fun d hd => q2 h1 (by omega) H0 d hd k0⟩
        · exact hRS _ _ h
      · obtain ⟨⟨n1, n3, hW, ht0, ht1, hPos⟩, q⟩ := q3 h1 (by omega)
        obtain ⟨hP6, hP1⟩ := prm3_len n3
        have hPp : ∀ o ∈ prm3 ps, o.Perm ps := prm3_perm n3
        walk_at "z"
        refine Z.lstK (fun D1 H1 nD1 k1 e1 => ?_)
        walk_at "z"
        refine Z.lstK (fun D2 H2 nD2 k2 e2 => ?_)
        have k02 := k1.trans k2
        walk_at "z"
        refine Prm.iprm1 ?_
        walk_at "z"
        refine ⟨x, _, dx, _, _, rfl, k02.get nin0 hx0, T.cl_Weighted, T.na_Weighted_kept, wf_kept size t k, ?_⟩
        walk_at "z"
        refine Prm.lcp1 (refs ps) (Prm.stP ps.length) (lstL (k02.get nin0 hk0)) (by rw [refs_len]; exact Prm.stP_ok n3) (fun D i H' => ∃ L : List (Addr × List (Addr × Row)), Kp [] H2 H' ∧ H' D = some (.lst (srefs L)) ∧ SetsAt H' L ∧ (∀ o ∈ L, o.1 ≠ D) ∧ L.map (fun o => o.2) = (prm3 ps).take i) ?_ ?_ ?_
        · intro D H3 nD k3 e3
          exact ⟨[], k3, e3, (fun o ho => by cases ho), (fun o ho => by cases ho), rfl⟩
        · rintro D i p H3 H4 tt nD hp ⟨L, k3, e3, S3, n3', hL⟩ ntt k4 e4
          obtain ⟨o, hoi, hpo⟩ := prm_turn n3 hp
          rw [hpo] at e4
          dsimp only [wipe, List.set]
          walk_at "z"
          refine ⟨rfl, ?_⟩
          walk_at "z"
          refine listT (tupT e4) (fun g H5 ng k5 e5 => ?_)
          have k35 := k4.trans k5
          have e5D := k35.get nin0 e3
          have ngD : g ≠ D := ne_of_none (k4.get nin0 e3) ng |>.symm
          refine ⟨_, e5D, Z.szl (m := 1000) (by rw [srefs_len, ← List.length_map (f := fun o : Addr × List (Addr × Row) => o.2), hL, List.length_take]; omega), L ++ [(g, o)], (k3.trans k35).mut nD rfl, by rw [upd_same]; unfold srefs; rw [List.map_append]; rfl, ?_, mem_append_one n3' ngD, ?_⟩
          · exact ((S3.kp0 k35).snoc (o := (g, o)) e5).put (mem_append_one n3' ngD)
          · rw [List.map_append, hL, List.take_add_one, hoi]; rfl
        rintro D H3 nD ⟨L, k3, e3, S3, n3', hL⟩
        rw [stP_len n3, List.take_length] at hL
        have hLl : L.length = (prm3 ps).length := by rw [← hL, List.length_map]
        have k03 := k02.trans k3
        have e3x := k03.get nin0 hx0
        have e3d := k03.get nin0 hd0
        have r3 := r0.kp0 k03
        have e31 := (k2.trans k3).get nin0 e1
        have e32 := k3.get nin0 e2
        have n12 : D1 ≠ D2 := ne_of_none e1 nD2
        have nx1 : x ≠ D1 := ne_of_none hx0 nD1
        have nx2 : x ≠ D2 := ne_of_none (k1.get nin0 hx0) nD2
        have nd1 : d ≠ D1 := ne_of_none hd0 nD1
        have nd2 : d ≠ D2 := ne_of_none (k1.get nin0 hd0) nD2
        have hoL : ∀ {i : Nat} {o : Addr × List (Addr × Row)}, L[i]? = some o → (prm3 ps)[i]? = some o.2 := fun {i o} h => by rw [← hL, List.getElem?_map, h]; rfl
        have nDs : ∀ o ∈ L, o.1 ≠ D1 ∧ o.1 ≠ D2 := fun o hom => by
          have h5 := S3 o hom
          have h6 : o.2.length = ps.length := (hPp o.2 (by rw [← hL]; exact List.mem_map.mpr ⟨o, hom, rfl⟩)).length_eq
          have h7 : refs o.2 ≠ [] := fun z => by
            have := congrArg List.length z
            rw [refs_len] at this
            exact absurd (show o.2.length = 0 from this) (by omega)
          constructor
          · intro z
            rw [z, e31] at h5
            exact h7 (by injection h5 with h5; injection h5 with h5; exact h5.symm)
          · intro z
            rw [z, e32] at h5
            exact h7 (by injection h5 with h5; injection h5 with h5; exact h5.symm)
        have n20 : H0 D2 = none := k1.none (by simp) nD2
        walk_at "z"
        refine Z.forl (srefs L) (lstL e3) (fun i σ' H' => ∃ (y4 y5 : Option V) (as bs : List Addr) (gs : List Fr), σ' = [some (.ref x), some (.ref d), some (.ref D1), some (.ref D2), y4, y5, none] ∧ Kp [D1, D2] H3 H' ∧ Kp [] H0 H' ∧ H' D1 = some (.lst (as.map V.ref)) ∧ H' D2 = some (.lst (bs.map V.ref)) ∧ FrsAt K H' as (((prm3 ps).take i).map (chF t)) ∧ FrsAt K H' bs gs ∧ gs.length = i ∧ (∀ g ∈ gs, FrB 140 g ∧ g.2 ≠ 0) ∧ gs.map rv = ((prm3 ps).take i).map fun o => meanR (nums kvs t o) * ch t o) ?_ ?_ ?_ ?_
        · exact ⟨none, none, [], [], [], rfl, Kp.refl _, k03, e31, e32, .nil, .nil, rfl, (fun g hg => by cases hg), rfl⟩
        · rintro i σ' H' _ ⟨y4, y5, as, bs, gs, rfl, kk, _⟩
          refine lstL (kk.get (nin2 ?_ ?_) e3)
          · exact fun z => ne_of_none (k2.get nin0 e1) nD z.symm
          · exact fun z => ne_of_none e2 nD z.symm
        · rintro i v σ' H4 hv ⟨y4, y5, as, bs, gs, rfl, kk, k04, e41, e42, Fa, Fb, hgl, hgB, hgv⟩
          obtain ⟨o, hoi, rfl⟩ := srefs_of hv
          have hom := List.mem_of_getElem? hoi
          have hoi2 := hoL hoi
          have hoP := List.mem_of_getElem? hoi2
          have hop := hPp _ hoP
          have hol : o.2.length = ps.length := hop.length_eq
          have hoW : ∀ x ∈ o.2, RowW x.2 := fun x hx => hW x (hop.mem_iff.mp hx)
          have r4o : RowsAt H4 o.2 := fun x hx => (r0.kp0 k04) x (hop.mem_iff.mp hx)
          have e4o := kk.get (nin2 (nDs o hom).1 (nDs o hom).2) (S3 o hom)
          have hi : i < (prm3 ps).length := (List.getElem?_eq_some_iff.mp hoi2).1
          walk_at "z"
          refine ⟨x, _, dx, _, _, rfl, k04.get nin0 hx0, T.cl_Weighted, T.na_Weighted_total, wf_total size t k, ?_⟩
          walk_at "z"
          refine ⟨o.1, t, o.2, rfl, e4o, r4o, hoW, ht0, ht1, by omega, hPos _ hoP, fun H5 c k5 e5 => ?_⟩
          have hcL := chF_low t _ o.2 rfl
          have hcB : FrB 40 (chF t o.2) := (chF_B (T := t) (by omega) _ o.2 rfl hoW).mono (by omega)
          have e51 := k5.get nin0 e41
          walk_at "z"
          refine ⟨Z.tyL e51, ?_⟩
          walk_at "z"
          refine Z.app e51 (Z.szl (m := 1000) (by rw [List.length_map, Fa.len, List.length_map, List.length_take]; omega)) ?_
          have k6 : Kp [D1] H5 (upd H5 D1 (.lst (as.map V.ref ++ [.ref c]))) := Kp.put (by simp)
          have k06 : Kp [] H0 (upd H5 D1 (.lst (as.map V.ref ++ [.ref c]))) := (k04.trans k5).mut nD1 rfl
          have e61 : upd H5 D1 (.lst (as.map V.ref ++ [.ref c])) D1 = some (.lst ((as ++ [c]).map V.ref)) := by rw [upd_same, List.map_append]; rfl
          generalize upd H5 D1 (.lst (as.map V.ref ++ [.ref c])) = H6 at k6 k06 e61 ⊢
          have e6o := k6.get (nin1 (nDs o hom).1) (k5.get nin0 e4o)
          have r6o : RowsAt H6 o.2 := fun x hx => (r0.kp0 k06) x (hop.mem_iff.mp hx)
          have Fa6 := ((Fa.kp0 k5).snoc e5).kpl k6 e51
          have Fb6 := (Fb.kp0 k5).kpl k6 e51
          have e6c : FrAt K H6 c (chF t o.2) := e5.kpl k6 e51
          have e62 := k6.get (nin1 n12.symm) (k5.get nin0 e42)
          walk_at "z"
          refine ⟨Z.tyL e62, ?_⟩
          walk_at "z"
          refine ⟨x, _, dx, _, _, rfl, k06.get nin0 hx0, T.cl_Weighted, T.na_Weighted_total, wf_total size t k, ?_⟩
          walk_at "z"
          refine ⟨o.1, d, t, o.2, kvs, rfl, e6o, r6o, by omega, hoW, ht0, ht1, k06.get nin0 hd0, ho, fun H7 D7 cs nD7 k7 e7 F7 => ?_⟩
          walk_at "z"
          refine ⟨D7, cs, _, rfl, lstL e7, F7, ordF_B ho ht0 ht1 _ o.2 rfl (by omega) hoW, by rw [ordF_len]; omega, by rw [ordF_len]; omega, fun H8 c8 g8 k8 e8 g8L g8B g8v => ?_⟩
          walk_at "z"
          refine ⟨c, c8, chF t o.2, g8, rfl, (e6c.kp0 k7).kp0 k8, e8, hcL.ne, g8L.ne, hcB.mono (by decide), g8B.mono (by decide), fun H9 c9 n9 k9 e9 => ?_⟩
          have k69 := (k7.trans k8).trans k9
          have e92 := k69.get nin0 e62
          have e91 := k69.get nin0 e61
          walk_at "z"
          refine Z.app e92 (Z.szl (m := 1000) (by rw [List.length_map, Fb.len]; omega)) ?_
          have kp9 : Kp [D2] H9 (upd H9 D2 (.lst (bs.map V.ref ++ [.ref c9]))) := Kp.put (by simp)
          have k5s : Kp [D1, D2] H4 H5 := k5.sub (by simp)
          have k6s : Kp [D1, D2] H5 H6 := k6.sub (by simp)
          have k69s : Kp [D1, D2] H6 H9 := k69.sub (by simp)
          have kp9s : Kp [D1, D2] H9 (upd H9 D2 (.lst (bs.map V.ref ++ [.ref c9]))) := Kp.put (by simp)
          walk_at "z"
          refine ⟨_, _, as ++ [c], bs ++ [c9], gs ++ [ftimes (chF t o.2) g8], rfl, (((kk.trans k5s).trans k6s).trans k69s).trans kp9s, (k06.trans k69).mut n20 rfl, (upd_ne n12).trans e91, by rw [upd_same, List.map_append]; rfl, ?_, (((Fb6.kp0 k69).snoc e9).kpl kp9 e92), by rw [List.length_append, hgl]; rfl, mem_append_one hgB ⟨ftimes_B (n := 40) (m := 100) hcB g8B hcL.ne g8L.ne, by show (lo _ _).2 ≠ 0; exact (lo_low (Int.mul_ne_zero hcL.ne g8L.ne)).ne⟩, ?_⟩
          · rw [List.take_add_one, hoi2, List.map_append]
            exact (Fa6.kp0 k69).kpl kp9 e92
          · rw [List.map_append, hgv, List.take_add_one, hoi2, List.map_append]
            congr 1
            show [rv (ftimes (chF t o.2) g8)] = [meanR (nums kvs t o.2) * ch t o.2]
            rw [rv_ftimes hcL.ne g8L.ne, g8v, Rat.mul_comm]
            rfl
        · rintro σ' H4 ⟨y4, y5, as, bs, gs, rfl, kk, k04, e41, e42, Fa, Fb, hgl, hgB, hgv⟩
          rw [srefs_len, hLl] at hgl
          rw [srefs_len, hLl, List.take_length] at Fa hgv
          have hcB : ∀ g ∈ (prm3 ps).map (chF t), FrB 40 g ∧ g.2 ≠ 0 := fun g hg => by
            obtain ⟨o, hoP, rfl⟩ := List.mem_map.mp hg
            have hop := hPp _ hoP
            have hol := hop.length_eq
            exact ⟨(chF_B (T := t) (by omega) _ o rfl fun x hx => hW x (hop.mem_iff.mp hx)).mono (by omega), (chF_low t _ o rfl).ne⟩
          walk_at "z"
          refine ⟨(140, 6), ⟨by decide, by decide⟩, D2, bs, gs, rfl, lstL e42, Fb, hgB, by show _ ≤ 6; omega, fun H5 c5 k5 e5 => ?_⟩
          walk_at "z"
          refine ⟨(40, 6), ⟨by decide, by decide⟩, D1, as, _, rfl, lstL (k5.get nin0 e41), Fa.kp0 k5, hcB, by rw [List.length_map]; exact hP6, fun H6 c6 k6 e6 => ?_⟩
          have s1 := rv_fsum (fs := gs) low_zero fun f hf => (hgB f hf).2
          have s2 := rv_fsum (fs := (prm3 ps).map (chF t)) low_zero fun f hf => (hcB f hf).2
          have b1 := fsum_B (fs := gs) (t := (0, 1)) (n := 1) (m := 140) ⟨by decide, by decide⟩ (by decide) hgB
          have b2 := fsum_B (fs := (prm3 ps).map (chF t)) (t := (0, 1)) (n := 1) (m := 40) ⟨by decide, by decide⟩ (by decide) hcB
          have v1 : rv (fsum (0, 1) gs) = ex t (prm3 ps) fun o => meanR (nums kvs t o) := by
            rw [s1.1, rv_zero, hgv]
            unfold ex
            grind
          have v2 : rv (fsum (0, 1) ((prm3 ps).map (chF t))) = ex t (prm3 ps) fun _ => 1 := by
            rw [s2.1, rv_zero, List.map_map]
            unfold ex
            rw [show ((prm3 ps).map fun o => 1 * ch t o) = (prm3 ps).map (rv ∘ chF t) from List.map_congr_left fun o _ => by show 1 * ch t o = rv (chF t o); unfold ch; grind]
            grind
          have hpos : 0 < ex t (prm3 ps) fun _ => 1 := ex_pos hP1 fun o ho => ch_pos _ o rfl fun x hx => hW x ((hPp o ho).mem_iff.mp hx)
          have hg0 : (fsum (0, 1) ((prm3 ps).map (chF t))).1 ≠ 0 := fun z => by
            rw [← v2] at hpos
            unfold rv at hpos
            rw [z] at hpos
            have : ((0 : Int) : Rat) / (((fsum (0, 1) ((prm3 ps).map (chF t))).2 : Int) : Rat) = 0 := by rw [Rat.div_def]; exact Rat.zero_mul _
            rw [this] at hpos
            exact absurd hpos (by decide)
          walk_at "z"
          refine ⟨c5, c6, _, _, rfl, e5.kp0 k6, e6, s1.2.ne, b1.1.mono (by omega), b2.1.mono (by rw [List.length_map]; omega), fun z => absurd z hg0, fun _ H7 c7 n7 k7 e7 => ?_⟩
          refine q H7 c7 _ ((((k0.trans k04).trans k5).trans k6).trans k7) e7 (lo_low (Int.mul_ne_zero s1.2.ne hg0)) ?_
          rw [rv_fover s1.2.ne s2.2.ne hg0, v1, v2]
          rfl

def spTold (K : PySem.W.Frag) (C : Addr) : Sp := fun vs H Q _ => ∃ (x k d : Addr) (size t : Int) (ps : List (Addr × Row)) (kvs : List (Key × V)), vs = [.ref x, .ref d] ∧ WtAt C H x k size t ps ∧ RowsAt H ps ∧ ps.length ≤ 1000 ∧ H d = some (.dK kvs) ∧ AmtOk kvs ∧
  ((wts ps).sum = t → ∀ H' c, Kp [] H H' → FrAt K H' c ((amts kvs ps).sum, 1) → Q (.ref c) H') ∧
  ((wts ps).sum ≠ t → 6 < ps.length → ∀ H' c, Kp [] H H' → H' c = some (.tup [.str "refused", .str "orders"]) → Q (.ref c) H') ∧
  ((wts ps).sum ≠ t → ps.length ≤ 6 → (1 ≤ ps.length ∧ ps.length ≤ 3 ∧ (∀ x ∈ ps, RowW x.2) ∧ 0 ≤ t ∧ t ≤ 5000 ∧ (∀ o ∈ prm3 ps, PosL t o)) ∧ ∀ H' c g, Kp [] H H' → FrAt K H' c g → Low g → rv g = unR kvs t (prm3 ps) → Q (.ref c) H')
theorem ok__law_told {P : Program} {w : World} {K : PySem.W.Frag} {mg : Str → Option Value} {base : Heap} (T : T P K mg) : FnOk P w K mg base CX0 8 T.a__law_told T.fd__law_told ["sample", "amounts"] (spTold K T.C_Weighted) := by
  refine T.F__law_told.ok sc__law_told (fun vs H Q E h => ?_) (fun cdv A outer s H vs Q E hr h => ?_)
  · obtain ⟨x, k, d, size, t, ps, kvs, rfl, _⟩ := h
    rfl
  · obtain ⟨x, k, d, size, t, ps, kvs, rfl, hU, hps, hn, hd, ho, q1, q2, q3⟩ := h
    refine ⟨_, (pss_one (Many.ps_try_named rfl rfl takes0 (fun W pn xe tk po => (pss_one (ps_ret (pe_callS (ok_unordered T) (hr.mono (by decide)) (by rfl) T.g_unordered T.F_unordered.kp T.b_unordered (fun σ => passAt tk σ) (pa_cons (pv 0) (pa_cons (pv 1) pa_nil)))))) (.named (i := 2) sc__law_told.nd rfl rfl ⟨by rfl, by decide, .inl T.x_TooLarge.g⟩ (fun a oe cls d pn hz hf => (pss_one (ps_ret (pe_tup (pa_cons pe_str (pa_cons (pe_xf T.x_TooLarge.xf T.nf_TooLarge_limit hz hf (pv 2)) pa_nil)))))) (.bare ⟨by rfl, by decide, .inl T.mg_SamphireError⟩ (fun a oe cls d pn hz hf => (pss_one (ps_ret (pe_tup (pa_cons pe_str (pa_cons pe_str pa_nil)))))) .nil)))), ?_⟩
    walk_at "z0"
    walk_at "z"
    unfold tCallS
    walk_at "z"
    refine ⟨x, k, d, size, t, ps, kvs, rfl, hU, hps, hn, hd, ho, q1, fun h1 h2 H' d nd k1 => ?_, q3⟩
    refine Many.wish_yes T.x_TooLarge.te fun a na => ?_
    simp only [Many.ends, Many.bound, List.set]
    walk_at "z"
    refine ⟨_, rfl, rfl, rfl, d, _, .str "orders", rfl, upd_same, rfl, ?_⟩
    walk_at "z"
    refine Z.tupK (fun c H2 nc k2 e2 => ?_)
    exact q2 h1 h2 H2 c ((k1.trans (Kp.new nd)).trans k2) e2

/-! ### orders, sets of so many, permutations -/
def KD (o : List (Addr × Row)) : Prop := o.Pairwise fun a b => a.2.k ≠ b.2.k
theorem KD.nodup {o : List (Addr × Row)} (h : KD o) : o.Nodup := List.Pairwise.imp (fun h e => h (by rw [e])) h
theorem KD.sub {o u : List (Addr × Row)} (h : KD o) (s : u.Sublist o) : KD u := List.Pairwise.sublist s h
theorem KD.perm {o u : List (Addr × Row)} (h : KD o) (s : u.Perm o) : KD u := (s.pairwise_iff fun h => Ne.symm h).mpr h
theorem nin_iff {o : List (Addr × Row)} {x : Addr × Row} : nin o x = true ↔ ∀ z ∈ o, z.2.k ≠ x.2.k := by unfold nin; exact decide_eq_true_iff
theorem mem_ordS {xs : List (Addr × Row)} (hx : KD xs) : ∀ (m : Nat) (o : List (Addr × Row)), o ∈ ordS xs m ↔ o.length = m ∧ (∀ x ∈ o, x ∈ xs) ∧ KD o
  | 0, o => by
    constructor
    · intro h
      rw [List.mem_singleton.mp h]
      exact ⟨rfl, fun x hx => (by cases hx), .nil⟩
    · rintro ⟨h, _⟩
      rw [List.length_eq_zero_iff.mp h]
      exact List.mem_singleton.mpr rfl
  | m + 1, o => by
    constructor
    · intro h
      obtain ⟨o', h1, h2⟩ := List.mem_flatMap.mp h
      obtain ⟨x, hx', rfl⟩ := List.mem_map.mp h2
      obtain ⟨hx1, hx2⟩ := List.mem_filter.mp hx'
      obtain ⟨a, b, c⟩ := (mem_ordS hx m o').mp h1
      refine ⟨by rw [List.length_append, a]; rfl, fun y hy => ?_, ?_⟩
      · rcases List.mem_append.mp hy with z | z
        · exact b y z
        · rw [List.mem_singleton.mp z]; exact hx1
      · unfold KD
        rw [List.pairwise_append]
        refine ⟨c, List.pairwise_singleton .., fun y hy z hz => ?_⟩
        rw [List.mem_singleton.mp hz]
        exact nin_iff.mp hx2 y hy
    · rintro ⟨a, b, c⟩
      have hne : o ≠ [] := fun z => by rw [z] at a; simp at a
      have e := (List.dropLast_concat_getLast hne).symm
      have hl : o.dropLast.length = m := by rw [List.length_dropLast]; omega
      rw [e] at b c ⊢
      generalize o.getLast hne = x at b c ⊢
      generalize o.dropLast = us at hl b c ⊢
      unfold KD at c
      rw [List.pairwise_append] at c
      exact List.mem_flatMap.mpr ⟨us, (mem_ordS hx m us).mpr ⟨hl, fun y hy => b y (by simp [hy]), c.1⟩, List.mem_map.mpr ⟨x, List.mem_filter.mpr ⟨b x (by simp), nin_iff.mpr fun z hz => c.2.2 z hz x (by simp)⟩, rfl⟩⟩
theorem nodup_ordS {xs : List (Addr × Row)} (hx : KD xs) : ∀ m, (ordS xs m).Nodup
  | 0 => List.pairwise_singleton ..
  | m + 1 => by
    show List.Pairwise _ ((ordS xs m).flatMap fun o => (rem xs o).map fun x => o ++ [x])
    rw [List.pairwise_flatMap]
    refine ⟨fun o ho => ?_, List.Pairwise.imp (fun {o o'} hne x hx1 y hy1 e => ?_) (nodup_ordS hx m)⟩
    · rw [List.pairwise_map]
      refine List.Pairwise.imp (fun {a b} (hab : a ≠ b) => ?_) (hx.sub List.filter_sublist : KD (rem xs o)).nodup
      intro e
      exact hab ((List.cons.inj (List.append_inj' e rfl).2).1)
    · obtain ⟨a, _, rfl⟩ := List.mem_map.mp hx1
      obtain ⟨b, _, rfl⟩ := List.mem_map.mp hy1
      exact hne (List.append_inj' e rfl).1
theorem perm_sumR {α : Type} (f : α → Rat) {L L' : List α} (h : L.Perm L') : (L.map f).sum = (L'.map f).sum := by
  induction h with
  | nil => rfl
  | cons x _ ih => rw [List.map_cons, List.map_cons, List.sum_cons, List.sum_cons, ih]
  | swap x y l =>
    simp only [List.map_cons, List.sum_cons]
    grind
  | trans _ _ a b => rw [a, b]
theorem ex_perm {T : Int} {f : List (Addr × Row) → Rat} {L L' : List (List (Addr × Row))} (h : L.Perm L') : ex T L f = ex T L' f := perm_sumR _ h
theorem mem_famS {α : Type} {many : Nat} : ∀ (n : Nat) (xs : List α), xs.length = n → ∀ j, j ≤ many → ∀ o, o ∈ famS many j xs ↔ o.Sublist xs ∧ o.length = j
  | 0, xs, h, j, hj, o => by
    rw [List.length_eq_zero_iff.mp h]
    show o ∈ List.filter _ [[]] ↔ _
    rw [List.mem_filter, List.mem_singleton, decide_eq_true_iff, List.sublist_nil]
  | n + 1, xs, h, j, hj, o => by
    have hne : xs ≠ [] := fun z => by rw [z] at h; simp at h
    have e := (List.dropLast_concat_getLast hne).symm
    have hl : xs.dropLast.length = n := by rw [List.length_dropLast]; omega
    rw [e]
    generalize xs.getLast hne = x
    generalize xs.dropLast = us at hl
    have ih := mem_famS (many := many) n us hl
    match j, hj with
    | 0, _ =>
      rw [famS_zero, ih 0 (Nat.zero_le _)]
      constructor
      · rintro ⟨_, h2⟩
        rw [List.length_eq_zero_iff.mp h2]
        exact ⟨List.nil_sublist _, rfl⟩
      · rintro ⟨_, h2⟩
        rw [List.length_eq_zero_iff.mp h2]
        exact ⟨List.nil_sublist _, rfl⟩
    | j + 1, hj =>
      rw [famS_succ hj, List.mem_append, ih (j + 1) hj, List.mem_map]
      constructor
      · rintro (⟨h1, h2⟩ | ⟨o', h1, rfl⟩)
        · exact ⟨h1.trans (List.sublist_append_left _ _), h2⟩
        · obtain ⟨h2, h3⟩ := (ih j (by omega) o').mp h1
          exact ⟨h2.append (List.Sublist.refl _), by rw [List.length_append, h3]; rfl⟩
      · rintro ⟨h1, h2⟩
        obtain ⟨l1, l2, rfl, s1, s2⟩ := List.sublist_append_iff.mp h1
        rcases List.sublist_cons_iff.mp s2 with s3 | ⟨r, rfl, s3⟩
        · rw [List.sublist_nil.mp s3] at h2 ⊢
          rw [List.append_nil] at h2 ⊢
          exact .inl ⟨s1, h2⟩
        · rw [List.sublist_nil.mp s3] at h2 ⊢
          exact .inr ⟨l1, (ih j (by omega) l1).mpr ⟨s1, by rw [List.length_append] at h2; simpa using h2⟩, rfl⟩
theorem nodup_famS {α : Type} {many : Nat} : ∀ (n : Nat) (xs : List α), xs.length = n → xs.Nodup → ∀ j, j ≤ many → (famS many j xs).Nodup
  | 0, xs, h, _, j, hj => by
    rw [List.length_eq_zero_iff.mp h]
    exact List.Pairwise.sublist List.filter_sublist (List.pairwise_singleton ..)
  | n + 1, xs, h, hd, j, hj => by
    have hne : xs ≠ [] := fun z => by rw [z] at h; simp at h
    have e := (List.dropLast_concat_getLast hne).symm
    have hl : xs.dropLast.length = n := by rw [List.length_dropLast]; omega
    rw [e] at hd ⊢
    generalize xs.getLast hne = x at hd ⊢
    generalize xs.dropLast = us at hl hd ⊢
    rw [List.nodup_append] at hd
    obtain ⟨h1, _, h3⟩ := hd
    have ih := nodup_famS (many := many) n us hl h1
    match j, hj with
    | 0, _ => rw [famS_zero]; exact ih 0 (Nat.zero_le _)
    | j + 1, hj =>
      rw [famS_succ hj, List.nodup_append]
      refine ⟨ih (j + 1) hj, ?_, fun a ha b hb e => ?_⟩
      · unfold List.Nodup
        rw [List.pairwise_map]
        exact List.Pairwise.imp (fun {a b} hab e => hab (List.append_inj' e rfl).1) (ih j (by omega))
      · obtain ⟨o', ho', rfl⟩ := List.mem_map.mp hb
        have s := ((mem_famS n us hl (j + 1) hj a).mp ha).1
        rw [e] at s
        exact h3 x (s.subset (by simp)) x (by simp) rfl
theorem sub_filter {p : Addr × Row → Bool} {S qs : List (Addr × Row)} (s : S.Sublist qs) (hd : qs.Nodup) (h : ∀ x ∈ qs, p x = true ↔ x ∈ S) : qs.filter p = S := by
  induction s with
  | slnil => rfl
  | @cons l1 l2 a s ih =>
    obtain ⟨h1, h2⟩ := List.nodup_cons.mp hd
    have ha : ¬ p a = true := fun z => h1 (s.subset ((h a (by simp)).mp z))
    rw [List.filter_cons_of_neg ha]
    exact ih h2 fun x hx => h x (by simp [hx])
  | @cons_cons l1 l2 a s ih =>
    obtain ⟨h1, h2⟩ := List.nodup_cons.mp hd
    rw [List.filter_cons_of_pos ((h a (by simp)).mpr (by simp))]
    congr 1
    refine ih h2 fun x hx => ?_
    rw [h x (by simp [hx]), List.mem_cons]
    constructor
    · rintro (rfl | z)
      · exact absurd hx h1
      · exact z
    · exact .inr
theorem full_mem {S o : List (Addr × Row)} (hS : KD S) (ho : o ∈ ordS S S.length) (x : Addr × Row) : x ∈ o ↔ x ∈ S := by
  obtain ⟨g, hl⟩ := ordS_good hS _ o ho
  constructor
  · exact g.sub x
  · intro hx
    have h1 := g.len
    have e : rem S o = [] := List.length_eq_zero_iff.mp (by omega)
    have h2 : ¬ nin o x = true := fun z => by
      have : x ∈ rem S o := List.mem_filter.mpr ⟨hx, z⟩
      rw [e] at this
      cases this
    rw [nin_iff] at h2
    have h3 : ∃ z ∈ o, z.2.k = x.2.k := by
      refine Classical.byContradiction fun z => h2 fun y hy e => z ⟨y, hy, e⟩
    obtain ⟨z, hz, e2⟩ := h3
    rw [← key_inj hS (g.sub z hz) hx e2]
    exact hz
theorem filt_perm {qs o : List (Addr × Row)} (hq : KD qs) (ho : KD o) (hs : ∀ x ∈ o, x ∈ qs) : (qs.filter fun x => !nin o x).Perm o := by
  rw [List.perm_ext_iff_of_nodup (hq.sub List.filter_sublist).nodup ho.nodup]
  intro x
  rw [List.mem_filter, Bool.not_eq_true', ← Bool.not_eq_true, nin_iff]
  constructor
  · rintro ⟨h1, h2⟩
    have h3 : ∃ z ∈ o, z.2.k = x.2.k := Classical.byContradiction fun z => h2 fun y hy e => z ⟨y, hy, e⟩
    obtain ⟨z, hz, e2⟩ := h3
    rw [← key_inj hq (hs z hz) h1 e2]
    exact hz
  · intro hx
    exact ⟨hs x hx, fun z => z x hx rfl⟩
theorem sets_perm {ps qs : List (Addr × Row)} (hx : KD ps) (hq : qs.Perm ps) (m : Nat) : ((famS m m qs).flatMap fun S => ordS S m).Perm (ordS ps m) := by
  have hqK : KD qs := hx.perm hq
  have hm : ∀ S, S ∈ famS m m qs ↔ S.Sublist qs ∧ S.length = m := mem_famS _ qs rfl m (Nat.le_refl _)
  have hfl : ((famS m m qs).flatMap fun S => ordS S m).Nodup := by
    unfold List.Nodup
    rw [List.pairwise_flatMap]
    refine ⟨fun S hS => nodup_ordS (hqK.sub ((hm S).mp hS).1) m, List.Pairwise.imp_of_mem (fun {S S'} hS hS' hne o ho o' ho' e => ?_) (nodup_famS _ qs rfl hqK.nodup m (Nat.le_refl _))⟩
    subst e
    obtain ⟨s1, s2⟩ := (hm S).mp hS
    obtain ⟨t1, t2⟩ := (hm S').mp hS'
    have f1 := full_mem (hqK.sub s1) (o := o) (by rw [s2]; exact ho)
    have f2 := full_mem (hqK.sub t1) (o := o) (by rw [t2]; exact ho')
    refine hne ?_
    have g1 := sub_filter (p := fun x => !nin o x) s1 hqK.nodup fun x hx => ?_
    · rw [← g1]
      refine sub_filter t1 hqK.nodup fun x hx => ?_
      rw [← f2, Bool.not_eq_true', ← Bool.not_eq_true, nin_iff]
      constructor
      · intro h2
        have h3 : ∃ z ∈ o, z.2.k = x.2.k := Classical.byContradiction fun z => h2 fun y hy e => z ⟨y, hy, e⟩
        obtain ⟨z, hz, e2⟩ := h3
        rw [← key_inj hqK (s1.subset ((f1 z).mp hz)) hx e2]
        exact hz
      · intro h2 h3
        exact h3 x h2 rfl
    · rw [← f1, Bool.not_eq_true', ← Bool.not_eq_true, nin_iff]
      constructor
      · intro h2
        have h3 : ∃ z ∈ o, z.2.k = x.2.k := Classical.byContradiction fun z => h2 fun y hy e => z ⟨y, hy, e⟩
        obtain ⟨z, hz, e2⟩ := h3
        rw [← key_inj hqK (s1.subset ((f1 z).mp hz)) hx e2]
        exact hz
      · intro h2 h3
        exact h3 x h2 rfl
  rw [List.perm_ext_iff_of_nodup hfl (nodup_ordS hx m)]
  intro o
  rw [List.mem_flatMap, mem_ordS hx]
  constructor
  · rintro ⟨S, hS, ho⟩
    obtain ⟨s1, s2⟩ := (hm S).mp hS
    obtain ⟨a, b, c⟩ := (mem_ordS (hqK.sub s1) m o).mp ho
    exact ⟨a, fun x hx => hq.mem_iff.mp (s1.subset (b x hx)), c⟩
  · rintro ⟨a, b, c⟩
    have hp := filt_perm hqK c fun x hx => hq.mem_iff.mpr (b x hx)
    exact ⟨_, (hm _).mpr ⟨List.filter_sublist, hp.length_eq.trans a⟩, (mem_ordS (hqK.sub List.filter_sublist) m o).mpr ⟨a, fun x hx => hp.mem_iff.mpr hx, c⟩⟩
/-- the sums over all sets -/
theorem sum_sets {T : Int} (f : List (Addr × Row) → Rat) (m : Nat) : ∀ L : List (List (Addr × Row)), ex T (L.flatMap fun S => ordS S m) f = (L.map fun S => ex T (ordS S m) f).sum
  | [] => rfl
  | S :: r => by
    have ih := sum_sets (T := T) f m r
    unfold ex at ih ⊢
    rw [List.flatMap_cons, List.map_append, List.sum_append, ih]
    rfl
theorem prm3_mem : ∀ {l : List (Addr × Row)}, l.length ≤ 3 → KD l → ∀ o, o ∈ prm3 l ↔ o.length = l.length ∧ (∀ x ∈ o, x ∈ l) ∧ KD o := fun {l} h3 hk o => by
  constructor
  · intro h
    have hp := prm3_perm h3 o h
    exact ⟨hp.length_eq, fun x hx => hp.mem_iff.mp hx, hk.perm hp⟩
  · rintro ⟨h1, h2, h4⟩
    match l, h3 with
    | [], _ => rw [List.length_eq_zero_iff.mp h1]; exact List.mem_singleton.mpr rfl
    | [x], _ =>
      match o, h1 with
      | [a], _ =>
        rw [List.mem_singleton.mp (h2 a (by simp))]
        exact List.mem_singleton.mpr rfl
    | [x, y], _ =>
      match o, h1 with
      | [a, b], _ =>
        have n1 : a ≠ b := fun e => by
          have := (List.pairwise_cons.mp h4).1 b (by simp)
          exact this (by rw [e])
        have ha := h2 a (by simp)
        have hb := h2 b (by simp)
        simp only [List.mem_cons, List.not_mem_nil, or_false] at ha hb
        rcases ha with rfl | rfl <;> rcases hb with rfl | rfl <;> first | exact absurd rfl n1 | simp [prm3]
    | [x, y, z], _ =>
      match o, h1 with
      | [a, b, c], _ =>
        have n1 : a ≠ b := fun e => by
          have := (List.pairwise_cons.mp h4).1 b (by simp)
          exact this (by rw [e])
        have n2 : a ≠ c := fun e => by
          have := (List.pairwise_cons.mp h4).1 c (by simp)
          exact this (by rw [e])
        have n3 : b ≠ c := fun e => by
          have := (List.pairwise_cons.mp (List.pairwise_cons.mp h4).2).1 c (by simp)
          exact this (by rw [e])
        have ha := h2 a (by simp)
        have hb := h2 b (by simp)
        have hc := h2 c (by simp)
        simp only [List.mem_cons, List.not_mem_nil, or_false] at ha hb hc
        rcases ha with rfl | rfl | rfl <;> rcases hb with rfl | rfl | rfl <;> first | exact absurd rfl n1 | (rcases hc with rfl | rfl | rfl <;> first | exact absurd rfl n2 | exact absurd rfl n3 | simp [prm3])
    | _ :: _ :: _ :: _ :: r, h => simp at h
theorem prm3_nodup : ∀ {l : List (Addr × Row)}, l.length ≤ 3 → KD l → (prm3 l).Nodup
  | [], _, _ => List.pairwise_singleton ..
  | [x], _, _ => List.pairwise_singleton ..
  | [x, y], _, h4 => by
    have n1 : x ≠ y := fun e => by
      have := (List.pairwise_cons.mp h4).1 y (by simp)
      exact this (by rw [e])
    simp [prm3, n1, n1.symm]
  | [x, y, z], _, h4 => by
    have n1 : x ≠ y := fun e => by
      have := (List.pairwise_cons.mp h4).1 y (by simp)
      exact this (by rw [e])
    have n2 : x ≠ z := fun e => by
      have := (List.pairwise_cons.mp h4).1 z (by simp)
      exact this (by rw [e])
    have n3 : y ≠ z := fun e => by
      have := (List.pairwise_cons.mp (List.pairwise_cons.mp h4).2).1 z (by simp)
      exact this (by rw [e])
    simp [prm3, n1, n1.symm, n2, n2.symm, n3, n3.symm]
  | _ :: _ :: _ :: _ :: r, h, _ => by simp at h
/-- permutations of one order are all orders -/
theorem prm3_ord {S o : List (Addr × Row)} (hS : KD S) (h3 : S.length ≤ 3) (ho : o ∈ ordS S S.length) : (prm3 o).Perm (ordS S S.length) := by
  obtain ⟨a, b, c⟩ := (mem_ordS hS _ o).mp ho
  rw [List.perm_ext_iff_of_nodup (prm3_nodup (by omega) c) (nodup_ordS hS _)]
  intro u
  rw [prm3_mem (by omega) c, mem_ordS hS, a]
  have f := full_mem hS ho
  constructor
  · rintro ⟨h1, h2, h4⟩
    exact ⟨h1, fun x hx => (f x).mp (h2 x hx), h4⟩
  · rintro ⟨h1, h2, h4⟩
    exact ⟨h1, fun x hx => (f x).mpr (h2 x hx), h4⟩
/-! the spread of means is no more than the spread -/
theorem ex_nonneg {T : Int} {f : List (Addr × Row) → Rat} : ∀ {L : List (List (Addr × Row))}, (∀ o ∈ L, 0 ≤ f o * ch T o) → 0 ≤ ex T L f
  | [], _ => by show (0 : Rat) ≤ 0; decide
  | o :: r, h => by
    have h1 := h o (by simp)
    have h2 := ex_nonneg (L := r) fun z hz => h z (by simp [hz])
    show 0 ≤ f o * ch T o + ex T r f
    grind
theorem sq_nonneg (x : Rat) : 0 ≤ x * x := by
  rcases Rat.le_total (a := 0) (b := x) with h | h
  · exact Rat.mul_nonneg h h
  · have := Rat.mul_nonneg (a := -x) (b := -x) (by grind) (by grind)
    grind
theorem jensen {T : Int} {L : List (List (Addr × Row))} (hc : ∀ o ∈ L, 0 < ch T o) (hC : 0 < ex T L fun _ => 1) (a : List (Addr × Row) → Rat) (M : Rat) :
    (ex T L fun _ => 1) * ((ex T L a / (ex T L fun _ => 1) - M) * (ex T L a / (ex T L fun _ => 1) - M)) ≤ ex T L fun o => (a o - M) * (a o - M) := by
  generalize hCC : (ex T L fun _ => 1) = C at *
  generalize hW : ex T L a = W at *
  have hC0 : C ≠ 0 := fun z => by rw [z] at hC; exact absurd hC (by decide)
  have h1 : 0 ≤ ex T L fun o => (a o - W / C) * (a o - W / C) := ex_nonneg fun o ho => Rat.mul_nonneg (sq_nonneg _) (Rat.le_of_lt (hc o ho))
  have e2 := ex_lin T 1 1 (fun o => a o * a o) (fun o => (-2 * (W / C)) * a o + (W / C * (W / C)) * 1) L
  have e3 := ex_lin T (-2 * (W / C)) (W / C * (W / C)) a (fun _ => 1) L
  have e4 := ex_lin T 1 1 (fun o => a o * a o) (fun o => (-2 * M) * a o + (M * M) * 1) L
  have e5 := ex_lin T (-2 * M) (M * M) a (fun _ => 1) L
  rw [e3, hW, hCC] at e2
  rw [e5, hW, hCC] at e4
  rw [show (fun o => (a o - W / C) * (a o - W / C)) = fun o => 1 * (a o * a o) + 1 * ((-2 * (W / C)) * a o + (W / C * (W / C)) * 1) by funext o; grind, e2] at h1
  rw [show (fun o => (a o - M) * (a o - M)) = fun o => 1 * (a o * a o) + 1 * ((-2 * M) * a o + (M * M) * 1) by funext o; grind, e4]
  generalize (ex T L fun o => a o * a o) = A at *
  have e6 : C * (W / C) = W := by grind
  clear e2 e3 e4 e5 hCC hW
  generalize W / C = d at *
  subst e6
  have h2 : C * (d * d) ≤ A := by grind
  have h3 : C * ((d - M) * (d - M)) = C * (d * d) + (-2 * M * (C * d) + M * M * C) := by grind
  rw [h3]
  grind

/-! ### whole numbers behind denominators -/
def DenI (D : Nat) (x : Rat) : Prop := ∃ z : Int, x * (D : Rat) = (z : Rat)
theorem DenI.add {D : Nat} {x y : Rat} (h : DenI D x) (g : DenI D y) : DenI D (x + y) := by
  obtain ⟨z, h1⟩ := h
  obtain ⟨t, g1⟩ := g
  refine ⟨z + t, ?_⟩
  have e : ((z + t : Int) : Rat) = (z : Rat) + (t : Rat) := by exact_mod_cast rfl
  rw [e, ← h1, ← g1]; grind
theorem DenI.mul {D E : Nat} {x y : Rat} (h : DenI D x) (g : DenI E y) : DenI (D * E) (x * y) := by
  obtain ⟨z, h1⟩ := h
  obtain ⟨t, g1⟩ := g
  refine ⟨z * t, ?_⟩
  have e : ((z * t : Int) : Rat) = (z : Rat) * (t : Rat) := by exact_mod_cast rfl
  have e2 : ((D * E : Nat) : Rat) = (D : Rat) * (E : Rat) := by exact_mod_cast rfl
  rw [e, e2, ← h1, ← g1]; grind
theorem DenI.int (D : Nat) (z : Int) : DenI D (z : Rat) := ⟨z * (D : Int), by exact_mod_cast rfl⟩
theorem DenI.scale {D : Nat} {x : Rat} (h : DenI D x) (k : Int) : DenI D ((k : Rat) * x) := by
  obtain ⟨z, h1⟩ := h
  refine ⟨k * z, ?_⟩
  have e : ((k * z : Int) : Rat) = (k : Rat) * (z : Rat) := by exact_mod_cast rfl
  rw [e, ← h1]; grind
theorem DenI.dvd {A B : Nat} {x : Rat} (h : DenI A x) (d : A ∣ B) : DenI B x := by
  obtain ⟨z, h1⟩ := h
  obtain ⟨c, rfl⟩ := d
  refine ⟨z * (c : Int), ?_⟩
  have e : ((z * (c : Int) : Int) : Rat) = (z : Rat) * (c : Rat) := by exact_mod_cast rfl
  have e2 : ((A * c : Nat) : Rat) = (A : Rat) * (c : Rat) := by exact_mod_cast rfl
  rw [e, e2, ← h1]; grind
theorem DenI.sum {D : Nat} : ∀ {l : List Rat}, (∀ x ∈ l, DenI D x) → DenI D l.sum
  | [], _ => ⟨0, by show (0 : Rat) * _ = ((0 : Int) : Rat); grind⟩
  | x :: r, h => by
    rw [List.sum_cons]
    exact (h x (by simp)).add (DenI.sum fun z hz => h z (by simp [hz]))
theorem denI_frac {D : Nat} {p x : Int} (hx : 1 ≤ x) (h : x.natAbs ∣ D) : DenI D ((p : Rat) / (x : Rat)) := by
  refine DenI.dvd (A := x.natAbs) ⟨p, ?_⟩ h
  have e : ((x.natAbs : Nat) : Rat) = (x : Rat) := by
    have : ((x.natAbs : Nat) : Int) = x := by omega
    exact_mod_cast congrArg (fun z : Int => (z : Rat)) this
  have := ratNe (show x ≠ 0 by omega)
  rw [e]; grind
theorem DenI.div6 {D k : Nat} {x : Rat} (h : DenI D x) (hk : k = 1 ∨ k = 2 ∨ k = 3) : DenI (D * 6) (x / (k : Rat)) := by
  obtain ⟨z, h1⟩ := h
  obtain ⟨q, hq⟩ : ∃ q : Nat, k * q = 6 := by
    rcases hk with rfl | rfl | rfl
    · exact ⟨6, rfl⟩
    · exact ⟨3, rfl⟩
    · exact ⟨2, rfl⟩
  refine ⟨z * (q : Int), ?_⟩
  have e : ((z * (q : Int) : Int) : Rat) = (z : Rat) * (q : Rat) := by exact_mod_cast rfl
  have e2 : ((D * 6 : Nat) : Rat) = (D : Rat) * ((k : Rat) * (q : Rat)) := by rw [← hq]; exact_mod_cast rfl
  have hk0 := castNe (n := k) (by omega)
  rw [e, e2, ← h1]; grind
/-! how large -/
def AbsB (v : Nat) (x : Rat) : Prop := -((2 ^ v : Nat) : Rat) ≤ x ∧ x ≤ ((2 ^ v : Nat) : Rat)
theorem pow_nonneg' (v : Nat) : (0 : Rat) ≤ ((2 ^ v : Nat) : Rat) := by exact_mod_cast Nat.zero_le _
theorem AbsB.mono {v w : Nat} {x : Rat} (h : AbsB v x) (l : v ≤ w) : AbsB w x := by
  have h2 : ((2 ^ v : Nat) : Rat) ≤ ((2 ^ w : Nat) : Rat) := by exact_mod_cast Nat.pow_le_pow_right (by decide) l
  obtain ⟨a, b⟩ := h
  exact ⟨by grind, by grind⟩
theorem AbsB.sub {v : Nat} {x y : Rat} (h : AbsB v x) (g : AbsB v y) : AbsB (v + 1) (x - y) := by
  have e : ((2 ^ (v + 1) : Nat) : Rat) = ((2 ^ v : Nat) : Rat) * 2 := by rw [Nat.pow_succ]; exact_mod_cast rfl
  obtain ⟨a, b⟩ := h
  obtain ⟨c, d⟩ := g
  unfold AbsB
  rw [e]
  exact ⟨by grind, by grind⟩
theorem neg_cast {z : Int} {P : Nat} (h : -(P : Int) ≤ z) : -((P : Nat) : Rat) ≤ (z : Rat) := by
  have h1 : ((0 : Int) : Rat) ≤ ((z + (P : Int) : Int) : Rat) := by exact_mod_cast (show (0 : Int) ≤ z + (P : Int) by omega)
  have e : ((z + (P : Int) : Int) : Rat) = (z : Rat) + (P : Rat) := by exact_mod_cast rfl
  rw [e] at h1
  have e0 : ((0 : Int) : Rat) = 0 := rfl
  grind
theorem AbsB.int {v : Nat} {z : Int} (h : z.natAbs ≤ 2 ^ v) : AbsB v (z : Rat) := by
  unfold AbsB
  generalize 2 ^ v = P at h ⊢
  constructor
  · exact neg_cast (by omega)
  · have : z ≤ (P : Int) := by omega
    exact_mod_cast this
theorem AbsB.sq {v : Nat} {x : Rat} (h : AbsB v x) : 0 ≤ x * x ∧ x * x ≤ ((2 ^ (v + v) : Nat) : Rat) := by
  refine ⟨sq_nonneg x, ?_⟩
  have e : ((2 ^ (v + v) : Nat) : Rat) = ((2 ^ v : Nat) : Rat) * ((2 ^ v : Nat) : Rat) := by rw [Nat.pow_add]; exact_mod_cast rfl
  rw [e]
  obtain ⟨a, b⟩ := h
  generalize ((2 ^ v : Nat) : Rat) = P at a b
  have h1 : 0 ≤ (P - x) * (P + x) := Rat.mul_nonneg (by grind) (by grind)
  grind
theorem DenI.toB {D d v : Nat} {x : Rat} (h : DenI D x) (hD : D ≤ 2 ^ d) (a : AbsB v x) : DenB D (v + d) x := by
  obtain ⟨z, h1⟩ := h
  refine ⟨z, h1, ?_⟩
  obtain ⟨a1, a2⟩ := a
  have hD0 : (0 : Rat) ≤ (D : Rat) := by exact_mod_cast Nat.zero_le _
  have b1 : x * (D : Rat) ≤ ((2 ^ v : Nat) : Rat) * (D : Rat) := Rat.mul_le_mul_of_nonneg_right a2 hD0
  have b2 : -((2 ^ v : Nat) : Rat) * (D : Rat) ≤ x * (D : Rat) := Rat.mul_le_mul_of_nonneg_right a1 hD0
  rw [h1] at b1 b2
  have c1 : z ≤ ((2 ^ v * D : Nat) : Int) := by
    have : (z : Rat) ≤ ((2 ^ v * D : Nat) : Rat) := by
      have e : ((2 ^ v * D : Nat) : Rat) = ((2 ^ v : Nat) : Rat) * (D : Rat) := by exact_mod_cast rfl
      rw [e]; exact b1
    exact_mod_cast this
  have c2 : -((2 ^ v * D : Nat) : Int) ≤ z := by
    have : ((-((2 ^ v * D : Nat) : Int) : Int) : Rat) ≤ (z : Rat) := by
      have e : ((-((2 ^ v * D : Nat) : Int) : Int) : Rat) = -((2 ^ v : Nat) : Rat) * (D : Rat) := by
        have : ((-((2 ^ v * D : Nat) : Int) : Int) : Rat) = -(((2 ^ v * D : Nat) : Rat)) := by exact_mod_cast rfl
        rw [this]
        have e : ((2 ^ v * D : Nat) : Rat) = ((2 ^ v : Nat) : Rat) * (D : Rat) := by exact_mod_cast rfl
        rw [e]; grind
      rw [e]; exact b2
    exact_mod_cast this
  have h3 : 2 ^ v * D ≤ 2 ^ (v + d) := by
    rw [Nat.pow_add]
    exact Nat.mul_le_mul (Nat.le_refl _) hD
  omega
theorem fr_abs {n : Nat} {f : Fr} (h : 1 ≤ f.2) (hB : FrB n f) : AbsB n (rv f) := by
  have hq : (0 : Rat) < (f.2 : Rat) := by exact_mod_cast (show (0 : Int) < f.2 by omega)
  have h1 : (f.1.natAbs : Int) ≤ ((2 ^ n : Nat) : Int) := by exact_mod_cast Nat.le_of_lt hB.1
  have e : rv f * (f.2 : Rat) = (f.1 : Rat) := by
    unfold rv
    have := ratNe (show f.2 ≠ 0 by omega)
    grind
  have hq1 : (1 : Rat) ≤ (f.2 : Rat) := by exact_mod_cast h
  have p0 := pow_nonneg' n
  have b1 : ((f.1 : Int) : Rat) ≤ ((2 ^ n : Nat) : Rat) := by
    have : f.1 ≤ ((2 ^ n : Nat) : Int) := by omega
    exact_mod_cast this
  have b2 : -((2 ^ n : Nat) : Rat) ≤ ((f.1 : Int) : Rat) := neg_cast (by omega)
  unfold AbsB
  generalize ((2 ^ n : Nat) : Rat) = P at p0 b1 b2 ⊢
  generalize rv f = x at e ⊢
  generalize ((f.1 : Int) : Rat) = p at e b1 b2
  generalize ((f.2 : Int) : Rat) = q at e hq hq1
  constructor
  · refine Rat.not_lt.mp fun hlt => ?_
    have h1 : 0 ≤ (-x) * (q - 1) := Rat.mul_nonneg (by grind) (by grind)
    grind
  · refine Rat.not_lt.mp fun hlt => ?_
    have h1 : 0 ≤ x * (q - 1) := Rat.mul_nonneg (by grind) (by grind)
    grind

/-! the denominators of a set of orders -/
def prs (T : Int) : List (Addr × Row) → List Nat
  | [] => []
  | x :: r => (r.map fun y => mx1 (T - (x.2.w + y.2.w))) ++ prs T r
def tri : Nat → Nat
  | 0 => 0
  | n + 1 => n + tri n
theorem prs_len (T : Int) : ∀ l : List (Addr × Row), (prs T l).length = tri l.length
  | [] => rfl
  | x :: r => by
    show (_ ++ prs T r).length = r.length + tri r.length
    rw [List.length_append, List.length_map, prs_len T r]
theorem mem_prs {T : Int} {a b : Addr × Row} (hn : a ≠ b) : ∀ {l : List (Addr × Row)}, a ∈ l → b ∈ l → mx1 (T - (a.2.w + b.2.w)) ∈ prs T l
  | [], h, _ => by cases h
  | x :: r, ha, hb => by
    rcases List.mem_cons.mp ha with rfl | ha'
    · rcases List.mem_cons.mp hb with rfl | hb'
      · exact absurd rfl hn
      · exact List.mem_append_left _ (List.mem_map.mpr ⟨b, hb', rfl⟩)
    · rcases List.mem_cons.mp hb with rfl | hb'
      · exact List.mem_append_left _ (List.mem_map.mpr ⟨a, ha', by rw [Int.add_comm]⟩)
      · exact List.mem_append_right _ (mem_prs hn ha' hb')
def uC (T : Int) (l : List (Addr × Row)) : Nat := mx1 T * (d1 T l * prodN (prs T l))
def dF (T : Int) (l : List (Addr × Row)) : Nat := dE l * uC T l
theorem mx1_pos (z : Int) : 1 ≤ mx1 z := by unfold mx1; split <;> omega
theorem mx_abs (z : Int) : (if z < 1 then 1 else z).natAbs = mx1 z := by unfold mx1; split <;> rfl
theorem ch_snoc (T : Int) (o : List (Addr × Row)) (x : Addr × Row) : ch T (o ++ [x]) = ch T o * ((x.2.w : Rat) / (((if T - (wts o).sum < 1 then 1 else T - (wts o).sum) : Int) : Rat)) := by
  have h2 := mx_pos (T - (wts o).sum)
  unfold ch
  rw [chF_snoc]
  generalize (if T - (wts o).sum < 1 then 1 else T - (wts o).sum) = mx at h2 ⊢
  rw [rv_ftimes (chF_low T _ o rfl).ne (lo_low (by omega)).ne, rv_lo (by omega)]
theorem ch_nil (T : Int) : ch T [] = 1 := by show rv (1, 1) = 1; rw [rv_int]; rfl
theorem one_I (D : Nat) : DenI D 1 := by
  have := DenI.int D 1
  exact this
theorem ch_I {T : Int} {l o : List (Addr × Row)} (h3 : o.length ≤ 3) (hs : ∀ x ∈ o, x ∈ l) (hk : KD o) : DenI (uC T l) (ch T o) := by
  have frac : ∀ (u : List (Addr × Row)) (x : Addr × Row) (D : Nat), mx1 (T - (wts u).sum) ∣ D → DenI D ((x.2.w : Rat) / (((if T - (wts u).sum < 1 then 1 else T - (wts u).sum) : Int) : Rat)) := fun u x D h => denI_frac (mx_pos _) (by rw [mx_abs]; exact h)
  have w1 : ∀ a : Addr × Row, (wts [a]).sum = a.2.w := fun a => by show a.2.w + 0 = _; omega
  have w2 : ∀ a b : Addr × Row, (wts [a, b]).sum = a.2.w + b.2.w := fun a b => by show a.2.w + (b.2.w + 0) = _; omega
  have p1 : ∀ a ∈ l, mx1 (T - (wts [a]).sum) ∣ d1 T l := fun a ha => by
    rw [w1]
    obtain ⟨c, hc⟩ := prodN_mem (l := l.map fun x => mx1 (T - x.2.w)) (x := mx1 (T - a.2.w)) (List.mem_map.mpr ⟨a, ha, rfl⟩)
    exact ⟨c, hc⟩
  have p2 : ∀ a ∈ l, ∀ b ∈ l, a ≠ b → mx1 (T - (wts [a, b]).sum) ∣ prodN (prs T l) := fun a ha b hb hn => by
    rw [w2]
    obtain ⟨c, hc⟩ := prodN_mem (mem_prs (T := T) hn ha hb)
    exact ⟨c, hc⟩
  have t1 : ∀ a : Addr × Row, DenI (mx1 T) ((a.2.w : Rat) / (((if T - (wts []).sum < 1 then 1 else T - (wts []).sum) : Int) : Rat)) := fun a => frac [] a _ (by show mx1 (T - 0) ∣ _; rw [Int.sub_zero]; exact Nat.dvd_refl _)
  unfold uC
  match o, h3 with
  | [], _ => rw [ch_nil]; exact one_I _
  | [a], _ =>
    rw [show [a] = [] ++ [a] from rfl, ch_snoc, ch_nil]
    rw [Rat.one_mul]
    exact (t1 a).dvd ⟨_, rfl⟩
  | [a, b], _ =>
    rw [show [a, b] = ([] ++ [a]) ++ [b] from rfl, ch_snoc, ch_snoc, ch_nil, Rat.one_mul]
    exact (t1 a).mul ((frac [a] b _ (p1 a (hs a (by simp)))).dvd ⟨_, rfl⟩)
  | [a, b, c], _ =>
    have hn : a ≠ b := fun e => (List.pairwise_cons.mp hk).1 b (by simp) (by rw [e])
    rw [show [a, b, c] = (([] ++ [a]) ++ [b]) ++ [c] from rfl, ch_snoc, ch_snoc, ch_snoc, ch_nil, Rat.one_mul, Rat.mul_assoc]
    exact (t1 a).mul ((frac [a] b _ (p1 a (hs a (by simp)))).mul (frac [a, b] c _ (p2 a (hs a (by simp)) b (hs b (by simp)) hn)))
  | _ :: _ :: _ :: _ :: r, h => simp at h
theorem nums_I {kvs : List (Key × V)} {T : Int} {l : List (Addr × Row)} (hW : ∀ x ∈ l, RowW x.2) : ∀ (m : Nat) (o : List (Addr × Row)), o.length = m → (∀ x ∈ o, x ∈ l) → ∀ v ∈ nums kvs T o, DenI (dW l) v
  | 0, o, h, _ => by
    rw [List.length_eq_zero_iff.mp h]
    intro v hv; cases hv
  | m + 1, o, h, hs => by
    have hne : o ≠ [] := fun z => by rw [z] at h; simp at h
    have e := (List.dropLast_concat_getLast hne).symm
    have hl : o.dropLast.length = m := by rw [List.length_dropLast]; omega
    rw [e] at hs ⊢
    generalize o.getLast hne = x at hs ⊢
    generalize o.dropLast = us at hl hs ⊢
    have hxm := hs x (by simp)
    have hu : ∀ x ∈ us, x ∈ l := fun z hz => hs z (by simp [hz])
    rw [nums_snoc kvs T us (hW x hxm)]
    refine mem_append_one (nums_I hW m us hl hu) ?_
    obtain ⟨c, hc⟩ := prodN_mem (l := l.map fun x => x.2.w.natAbs) (x := x.2.w.natAbs) (List.mem_map.mpr ⟨x, hxm, rfl⟩)
    have e2 : qE kvs T us x = (((amts kvs us).sum : Int) : Rat) + ((amt kvs x.2.k * (T - (wts us).sum) : Int) : Rat) / ((x.2.w : Int) : Rat) := by
      unfold qE
      have : ((amt kvs x.2.k * (T - (wts us).sum) : Int) : Rat) = ((amt kvs x.2.k : Int) : Rat) * ((T : Rat) - (((wts us).sum : Int) : Rat)) := by exact_mod_cast rfl
      rw [this]
    rw [e2]
    exact (DenI.int _ _).add (denI_frac (hW x hxm).w0 ⟨c, hc⟩)
/-- an order's estimate -/
def est (kvs : List (Key × V)) (T : Int) (o : List (Addr × Row)) : Rat := meanR (numsR kvs T o)
theorem est_I {kvs : List (Key × V)} {T : Int} {l o : List (Addr × Row)} (hW : ∀ x ∈ l, RowW x.2) (hs : ∀ x ∈ o, x ∈ l) (h1 : 1 ≤ o.length) (h3 : o.length ≤ 3) : DenI (dE l) (est kvs T o) := by
  have hv : ∀ v ∈ numsR kvs T o, DenI (dW l) v := by
    unfold numsR
    split
    · intro v hv
      rw [List.mem_singleton.mp hv]
      exact DenI.int _ _
    · exact nums_I hW _ o rfl hs
  have hl : (numsR kvs T o).length = 1 ∨ (numsR kvs T o).length = 2 ∨ (numsR kvs T o).length = 3 := by
    unfold numsR
    split
    · exact .inl rfl
    · rw [List.length_map, ordF_len]; omega
  unfold est meanR dE
  exact (DenI.sum hv).div6 hl
theorem sum_abs {P : Rat} (hP : 0 ≤ P) : ∀ {l : List Rat}, (∀ x ∈ l, -P ≤ x ∧ x ≤ P) → -((l.length : Rat) * P) ≤ l.sum ∧ l.sum ≤ (l.length : Rat) * P
  | [], _ => by
    have e : ((([] : List Rat).length : Nat) : Rat) = 0 := rfl
    rw [e]
    show -(0 * P) ≤ 0 ∧ 0 ≤ 0 * P
    exact ⟨by grind, by grind⟩
  | x :: r, h => by
    have h1 := h x (by simp)
    have h2 := sum_abs hP (l := r) fun z hz => h z (by simp [hz])
    have e : ((r.length + 1 : Nat) : Rat) = (r.length : Rat) + 1 := by exact_mod_cast rfl
    rw [List.sum_cons, List.length_cons, e]
    exact ⟨by grind, by grind⟩
theorem est_A {kvs : List (Key × V)} (ho : AmtOk kvs) {T : Int} (hT0 : 0 ≤ T) (hT : T ≤ 5000) {o : List (Addr × Row)} (hW : ∀ x ∈ o, RowW x.2) (h1 : 1 ≤ o.length) (h3 : o.length ≤ 3) : AbsB 30 (est kvs T o) := by
  have hv : ∀ v ∈ numsR kvs T o, AbsB 30 v := by
    unfold numsR
    split
    · intro v hv
      rw [List.mem_singleton.mp hv]
      have := amts_S ho (ps := o) h3
      exact AbsB.int (Nat.le_trans this (by decide))
    · intro v hv
      obtain ⟨f, hf, rfl⟩ := List.mem_map.mp hv
      have := ordF_B ho hT0 hT _ o rfl h3 hW f hf
      exact fr_abs this.1 this.2
  have hl : 1 ≤ (numsR kvs T o).length := by
    unfold numsR
    split
    · exact Nat.le_refl 1
    · rw [List.length_map, ordF_len]; exact h1
  have hs := sum_abs (pow_nonneg' 30) hv
  unfold est meanR AbsB
  have hk : (0 : Rat) < (((numsR kvs T o).length : Nat) : Rat) := by exact_mod_cast hl
  generalize (((numsR kvs T o).length : Nat) : Rat) = k at hs hk ⊢
  generalize (numsR kvs T o).sum = s at hs ⊢
  generalize ((2 ^ 30 : Nat) : Rat) = P at hs ⊢
  have e : s / k * k = s := by grind
  generalize s / k = y at e ⊢
  constructor
  · refine Rat.not_lt.mp fun hlt => ?_
    have h1 : 0 < (-P - y) * k := Rat.mul_pos (by grind) hk
    grind
  · refine Rat.not_lt.mp fun hlt => ?_
    have h1 : 0 < (y - P) * k := Rat.mul_pos (by grind) hk
    grind

/-! ### what a set of items tells -/
theorem mx12 {ps : List (Addr × Row)} {T : Int} (S : Sit5 ps T) {x : Addr × Row} (hx : x ∈ ps) : T - x.2.w ≤ 4000 := by
  have g : GoodO ps [x] := (ordS_good S.nd 1 [x] ((mem_ordS S.nd 1 [x]).mpr ⟨rfl, fun y hy => by rw [List.mem_singleton.mp hy]; exact hx, List.pairwise_singleton ..⟩)).1
  have h1 := S.left g
  have h2 := sum_leI (c := 1000) (l := wts (rem ps [x])) fun z hz => by
    obtain ⟨y, hy, rfl⟩ := List.mem_map.mp hz
    have := S.ws y (List.mem_filter.mp hy).1
    exact ⟨by have := this.w0; omega, this.w1⟩
  have hl : (wts (rem ps [x])).length = (rem ps [x]).length := by unfold wts; rw [List.length_map]
  have h3 := g.len
  have h4 := S.n5
  rw [hl] at h2
  have e : (wts [x]).sum = x.2.w := by show x.2.w + 0 = _; omega
  rw [e] at h1
  have h5 : [x].length = 1 := rfl
  omega
theorem uC_B {ps : List (Addr × Row)} {T : Int} (S : Sit5 ps T) {l : List (Addr × Row)} (hl : ∀ x ∈ l, x ∈ ps) : 1 ≤ uC T l ∧ uC T l ≤ 2 ^ (13 + (12 * l.length + 12 * tri l.length)) := by
  have hT := S.T1
  have h0 := mx1_B (z := T) (by omega)
  have m12 : ∀ z : Int, z ≤ 4000 → 1 ≤ mx1 z ∧ mx1 z ≤ 2 ^ 12 := fun z hz => by
    unfold mx1
    split
    · exact ⟨by decide, by decide⟩
    · exact ⟨by omega, by omega⟩
  have h1 := prodN_le (b := 12) (l := l.map fun x => mx1 (T - x.2.w)) fun z hz => by
    obtain ⟨x, hx, rfl⟩ := List.mem_map.mp hz
    exact m12 _ (mx12 S (hl x hx))
  have h2 : ∀ z ∈ prs T l, 1 ≤ z ∧ z ≤ 2 ^ 12 := by
    have : ∀ u : List (Addr × Row), (∀ x ∈ u, x ∈ ps) → ∀ z ∈ prs T u, 1 ≤ z ∧ z ≤ 2 ^ 12 := by
      intro u
      induction u with
      | nil => intro _ z hz; cases hz
      | cons x r ih =>
        intro hu z hz
        rcases List.mem_append.mp hz with hz | hz
        · obtain ⟨y, hy, rfl⟩ := List.mem_map.mp hz
          have := mx12 S (hu x (by simp))
          have := (S.ws y (hu y (by simp [hy]))).w0
          exact m12 _ (by omega)
        · exact ih (fun x hx => hu x (by simp [hx])) z hz
    exact this l hl
  have h3 := prodN_le h2
  rw [List.length_map] at h1
  rw [prs_len] at h3
  unfold uC
  refine ⟨Nat.mul_le_mul h0.1 (Nat.mul_le_mul h1.1 h3.1), ?_⟩
  rw [Nat.pow_add, Nat.pow_add]
  exact Nat.mul_le_mul h0.2 (Nat.mul_le_mul h1.2 h3.2)
theorem tri_mono {n m : Nat} (h : n ≤ m) : tri n ≤ tri m := by
  induction h with
  | refl => exact Nat.le_refl _
  | step h ih => exact Nat.le_trans ih (Nat.le_add_left _ _)
def CS (T : Int) (m : Nat) (S : List (Addr × Row)) : Rat := ex T (ordS S m) fun _ => 1
def WS (kvs : List (Key × V)) (T : Int) (m : Nat) (S : List (Addr × Row)) : Rat := ex T (ordS S m) (est kvs T)
def dueS (kvs : List (Key × V)) (T : Int) (m : Nat) (S : List (Addr × Row)) : Rat := WS kvs T m S / CS T m S
def trmS (kvs : List (Key × V)) (T : Int) (M : Rat) (m : Nat) (S : List (Addr × Row)) : Rat := CS T m S * ((dueS kvs T m S - M) * (dueS kvs T m S - M))
def zc (T : Int) (m : Nat) (S : List (Addr × Row)) : Nat := (CS T m S * (uC T S : Rat)).num.natAbs
structure SetF (kvs : List (Key × V)) (T : Int) (ps : List (Addr × Row)) (m : Nat) (S : List (Addr × Row)) : Prop where
  sub : ∀ x ∈ S, x ∈ ps
  len : S.length = m
  kd : KD S
  pos : 0 < CS T m S
  cI : DenI (uC T S) (CS T m S)
  z1 : 1 ≤ zc T m S
  zv : CS T m S * (uC T S : Rat) = (zc T m S : Rat)
  uB : uC T S ≤ 2 ^ 85
  dA : AbsB 30 (dueS kvs T m S)
  dI : DenI (dE S * zc T m S) (dueS kvs T m S)
  e1 : 1 ≤ dE S
  eB : dE S ≤ 2 ^ 33
  wP : DenI (dF T ps) (WS kvs T m S)
  cP : DenI (dF T ps) (CS T m S)
  wc : WS kvs T m S = dueS kvs T m S * CS T m S
theorem ex_I {T : Int} {D : Nat} {f : List (Addr × Row) → Rat} {L : List (List (Addr × Row))} (h : ∀ o ∈ L, DenI D (f o * ch T o)) : DenI D (ex T L f) := by
  unfold ex
  refine DenI.sum fun z hz => ?_
  obtain ⟨o, ho, rfl⟩ := List.mem_map.mp hz
  exact h o ho
theorem ex_abs {T : Int} {a : List (Addr × Row) → Rat} {P : Rat} : ∀ {L : List (List (Addr × Row))}, (∀ o ∈ L, 0 < ch T o) → (∀ o ∈ L, -P ≤ a o ∧ a o ≤ P) → -(P * ex T L fun _ => 1) ≤ ex T L a ∧ ex T L a ≤ P * ex T L fun _ => 1
  | [], _, _ => by
    show -(P * 0) ≤ 0 ∧ 0 ≤ P * 0
    exact ⟨by grind, by grind⟩
  | o :: r, hc, h => by
    have h1 := h o (by simp)
    have h2 := ex_abs (L := r) (fun z hz => hc z (by simp [hz])) fun z hz => h z (by simp [hz])
    have h3 := hc o (by simp)
    have g1 : 0 ≤ (a o + P) * ch T o := Rat.mul_nonneg (by grind) (Rat.le_of_lt h3)
    have g2 : 0 ≤ (P - a o) * ch T o := Rat.mul_nonneg (by grind) (Rat.le_of_lt h3)
    show -(P * (1 * ch T o + ex T r fun _ => 1)) ≤ a o * ch T o + ex T r a ∧ a o * ch T o + ex T r a ≤ P * (1 * ch T o + ex T r fun _ => 1)
    exact ⟨by grind, by grind⟩
theorem set_f {kvs : List (Key × V)} (ho : AmtOk kvs) {ps qs : List (Addr × Row)} {T : Int} (S5 : Sit5 ps T) (hq : qs.Perm ps) {m : Nat} (h1 : 1 ≤ m) (h3 : m ≤ 3) {S : List (Addr × Row)} (hS : S ∈ famS m m qs) : SetF kvs T ps m S := by
  have hT := S5.T1
  have hqK : KD qs := KD.perm S5.nd hq
  obtain ⟨s1, s2⟩ := (mem_famS _ qs rfl m (Nat.le_refl _) S).mp hS
  have hk : KD S := hqK.sub s1
  have hsub : ∀ x ∈ S, x ∈ ps := fun x hx => hq.mem_iff.mp (s1.subset hx)
  have hsW : ∀ x ∈ S, RowW x.2 := fun x hx => S5.ws x (hsub x hx)
  have hmem := mem_ordS hk m
  have hsW2 : ∀ o ∈ ordS S m, o.length = m ∧ (∀ x ∈ o, x ∈ S) ∧ KD o := fun o ho => (hmem o).mp ho
  have hpos : ∀ o ∈ ordS S m, 0 < ch T o := fun o ho => ch_pos _ o rfl fun x hx => hsW x ((hsW2 o ho).2.1 x hx)
  have hin : S ∈ ordS S m := (hmem S).mpr ⟨s2, fun x hx => hx, hk⟩
  have hne : 1 ≤ (ordS S m).length := List.length_pos_of_mem hin
  have pos : 0 < CS T m S := ex_pos hne hpos
  have cI : DenI (uC T S) (CS T m S) := ex_I fun o ho => by
    obtain ⟨a, b, c⟩ := hsW2 o ho
    rw [Rat.one_mul]
    exact ch_I (by omega) b c
  have uB := uC_B S5 hsub
  have u0 : (0 : Rat) < (uC T S : Rat) := by exact_mod_cast uB.1
  have zz : ∃ z : Nat, 1 ≤ z ∧ CS T m S * (uC T S : Rat) = (z : Rat) := by
    obtain ⟨z, hz⟩ := cI
    have hp : 0 < CS T m S * (uC T S : Rat) := Rat.mul_pos pos u0
    rw [hz] at hp
    have hz0 : 0 < z := by exact_mod_cast hp
    refine ⟨z.natAbs, by omega, ?_⟩
    rw [hz]
    have : ((z.natAbs : Nat) : Int) = z := by omega
    exact_mod_cast congrArg (fun z : Int => (z : Rat)) this.symm
  have zv : CS T m S * (uC T S : Rat) = (zc T m S : Rat) ∧ 1 ≤ zc T m S := by
    obtain ⟨z, z1, hz⟩ := zz
    unfold zc
    rw [hz]
    have : ((z : Rat).num.natAbs) = z := by simp
    rw [this]
    exact ⟨rfl, z1⟩
  have pos0 : CS T m S ≠ 0 := fun z => by rw [z] at pos; exact absurd pos (by decide)
  have wc : WS kvs T m S = dueS kvs T m S * CS T m S := by unfold dueS; grind
  have wI : DenI (dE S * uC T S) (WS kvs T m S) := ex_I fun o ho' => by
    obtain ⟨a, b, c⟩ := hsW2 o ho'
    exact (est_I hsW b (by omega) (by omega)).mul (ch_I (by omega) b c)
  have hE : 1 ≤ dE S ∧ dE S ≤ 2 ^ 33 := by
    have h := prodN_le (b := 10) (l := S.map fun x => x.2.w.natAbs) fun z hz => by
      obtain ⟨x, hx, rfl⟩ := List.mem_map.mp hz
      have := (hsW x hx).w0
      have := (hsW x hx).w1
      exact ⟨by omega, by omega⟩
    rw [List.length_map, s2] at h
    have : 2 ^ (10 * m) ≤ 2 ^ 30 := Nat.pow_le_pow_right (by decide) (by omega)
    unfold dE dW
    have := Nat.le_trans h.2 this
    have := h.1
    omega
  have ea : ∀ o ∈ ordS S m, AbsB 30 (est kvs T o) := fun o ho' => by
    obtain ⟨a, b, c⟩ := hsW2 o ho'
    exact est_A ho (by omega) hT.2 (fun x hx => hsW x (b x hx)) (by omega) (by omega)
  refine ⟨hsub, s2, hk, pos, cI, zv.2, zv.1, ?_, ?_, ?_, hE.1, hE.2, ?_, ?_, wc⟩
  · refine Nat.le_trans uB.2 (Nat.pow_le_pow_right (by decide) ?_)
    have : tri S.length ≤ tri 3 := tri_mono (by omega)
    have e3 : tri 3 = 3 := rfl
    omega
  · have h := ex_abs hpos ea
    have e1 : WS kvs T m S = ex T (ordS S m) (est kvs T) := rfl
    have e2 : CS T m S = ex T (ordS S m) fun _ => 1 := rfl
    rw [← e1, ← e2, wc] at h
    unfold AbsB
    generalize dueS kvs T m S = y at h ⊢
    generalize CS T m S = C at h pos
    generalize ((2 ^ 30 : Nat) : Rat) = P at h ⊢
    constructor
    · refine Rat.not_lt.mp fun hlt => ?_
      have h1 : 0 < (-P - y) * C := Rat.mul_pos (by grind) pos
      grind
    · refine Rat.not_lt.mp fun hlt => ?_
      have h1 : 0 < (y - P) * C := Rat.mul_pos (by grind) pos
      grind
  · obtain ⟨z, hz⟩ := wI
    refine ⟨z, ?_⟩
    have e1 : ((dE S * zc T m S : Nat) : Rat) = (dE S : Rat) * (zc T m S : Rat) := by exact_mod_cast rfl
    have e2 : ((dE S * uC T S : Nat) : Rat) = (dE S : Rat) * (uC T S : Rat) := by exact_mod_cast rfl
    rw [e2, wc] at hz
    rw [e1, ← zv.1, ← hz]
    grind
  · exact ex_I fun o ho' => by
      obtain ⟨a, b, c⟩ := hsW2 o ho'
      exact (est_I S5.ws (fun x hx => hsub x (b x hx)) (by omega) (by omega)).mul (ch_I (by omega) (fun x hx => hsub x (b x hx)) c)
  · exact ex_I fun o ho' => by
      obtain ⟨a, b, c⟩ := hsW2 o ho'
      rw [Rat.one_mul]
      exact (ch_I (by omega) (fun x hx => hsub x (b x hx)) c).dvd ⟨dE ps, Nat.mul_comm _ _⟩

/-! all sets together -/
theorem fam_len {ps : List (Addr × Row)} (hn : ps.length ≤ 5) {m : Nat} (h1 : 1 ≤ m) (h3 : m ≤ 3) : (famS m m ps).length ≤ 10 := by
  have e : (famS m m ps).length = (famS m m (ps.map fun _ => ())).length := by
    rw [← famS_map, List.length_map]
  rw [e]
  have hr : ps.map (fun _ => ()) = List.replicate ps.length () := by
    rw [List.eq_replicate_iff]
    exact ⟨by rw [List.length_map], fun _ _ => rfl⟩
  rw [hr]
  have a : m = 1 ∨ m = 2 ∨ m = 3 := by omega
  have b : ps.length = 0 ∨ ps.length = 1 ∨ ps.length = 2 ∨ ps.length = 3 ∨ ps.length = 4 ∨ ps.length = 5 := by omega
  rcases b with b | b | b | b | b | b <;> rw [b] <;> rcases a with rfl | rfl | rfl <;> decide
theorem mem_le_sum : ∀ {l : List Rat} {x : Rat}, (∀ y ∈ l, 0 ≤ y) → x ∈ l → x ≤ l.sum
  | [], _, _, h => by cases h
  | y :: r, x, h, hx => by
    have h1 := h y (by simp)
    have h2 : 0 ≤ r.sum := by
      have : ∀ l : List Rat, (∀ y ∈ l, 0 ≤ y) → 0 ≤ l.sum := by
        intro l
        induction l with
        | nil => intro _; decide
        | cons a b ih =>
          intro hh
          have g1 := hh a (by simp)
          have g2 := ih fun z hz => hh z (by simp [hz])
          rw [List.sum_cons]; grind
      exact this r fun z hz => h z (by simp [hz])
    rw [List.sum_cons]
    rcases List.mem_cons.mp hx with rfl | hx
    · grind
    · have := mem_le_sum (fun z hz => h z (by simp [hz])) hx
      grind
structure AllF (kvs : List (Key × V)) (T : Int) (ps qs : List (Addr × Row)) (m : Nat) (M : Int) : Prop where
  f : ∀ S ∈ famS m m qs, SetF kvs T ps m S
  c1 : ∀ S ∈ famS m m qs, CS T m S ≤ 1
  z85 : ∀ S ∈ famS m m qs, zc T m S ≤ 2 ^ 85
  n10 : (famS m m qs).length ≤ 10
  sW : ((famS m m qs).map (WS kvs T m)).sum = (M : Rat)
  sT : ((famS m m qs).map (trmS kvs T (M : Rat) m)).sum ≤ ex T (ordS ps m) fun o => (est kvs T o - (M : Rat)) * (est kvs T o - (M : Rat))
theorem all_f {kvs : List (Key × V)} (ho : AmtOk kvs) {ps qs : List (Addr × Row)} {T : Int} (S5 : Sit5 ps T) (hq : qs.Perm ps) {m : Nat} (h1 : 1 ≤ m) (h3 : m ≤ 3) (hm : m ≤ ps.length) : AllF kvs T ps qs m (amts kvs ps).sum := by
  have hf : ∀ S ∈ famS m m qs, SetF kvs T ps m S := fun S hS => set_f ho S5 hq h1 h3 hS
  have hp := sets_perm S5.nd hq m
  have sC : ((famS m m qs).map (CS T m)).sum = 1 := by
    rw [← ex_one S5.toSit m hm, ← ex_perm hp, sum_sets]
    rfl
  have c1 : ∀ S ∈ famS m m qs, CS T m S ≤ 1 := fun S hS => by
    rw [← sC]
    refine mem_le_sum (fun y hy => ?_) (List.mem_map.mpr ⟨S, hS, rfl⟩)
    obtain ⟨S', hS', rfl⟩ := List.mem_map.mp hy
    exact Rat.le_of_lt (hf S' hS').pos
  have z85 : ∀ S ∈ famS m m qs, zc T m S ≤ 2 ^ 85 := fun S hS => by
    have F := hf S hS
    refine Nat.le_trans ?_ F.uB
    have u0 : (0 : Rat) ≤ (uC T S : Rat) := by exact_mod_cast Nat.zero_le _
    have h := Rat.mul_le_mul_of_nonneg_right (c1 S hS) u0
    rw [F.zv, Rat.one_mul] at h
    exact_mod_cast h
  refine ⟨hf, c1, z85, fam_len (by rw [hq.length_eq]; exact S5.n5) h1 h3, ?_, ?_⟩
  · have := (fin_o S5 kvs h1 hm).mean
    rw [← this, ← ex_perm hp, sum_sets]
    rfl
  · rw [← ex_perm hp, sum_sets]
    have key : ∀ L : List (List (Addr × Row)), (∀ S ∈ L, S ∈ famS m m qs) → (L.map (trmS kvs T (((amts kvs ps).sum : Int) : Rat) m)).sum ≤ (L.map fun S => ex T (ordS S m) fun o => (est kvs T o - (((amts kvs ps).sum : Int) : Rat)) * (est kvs T o - (((amts kvs ps).sum : Int) : Rat))).sum := by
      intro L
      induction L with
      | nil => intro _; show (0 : Rat) ≤ 0; decide
      | cons S r ih =>
        intro hL
        have g1 := ih fun z hz => hL z (by simp [hz])
        have F := hf S (hL S (by simp))
        have g2 := jensen (T := T) (L := ordS S m) (fun o ho' => by
          obtain ⟨a, b, c⟩ := (mem_ordS F.kd m o).mp ho'
          exact ch_pos _ o rfl fun x hx => S5.ws x (F.sub x (b x hx))) F.pos (est kvs T) (((amts kvs ps).sum : Int) : Rat)
        rw [List.map_cons, List.map_cons, List.sum_cons, List.sum_cons]
        have g3 : trmS kvs T (((amts kvs ps).sum : Int) : Rat) m S ≤ ex T (ordS S m) fun o => (est kvs T o - (((amts kvs ps).sum : Int) : Rat)) * (est kvs T o - (((amts kvs ps).sum : Int) : Rat)) := g2
        grind
    exact key _ fun S hS => hS
theorem due_fr {kvs : List (Key × V)} {T : Int} {ps qs : List (Addr × Row)} {m : Nat} {M : Int} (A : AllF kvs T ps qs m M) {S : List (Addr × Row)} (hS : S ∈ famS m m qs) {f : Fr} (hL : Low f) (hf : rv f = dueS kvs T m S) : FrB 150 f := by
  have F := A.f S hS
  have hD : dE S * zc T m S ≤ 2 ^ (33 + 85) := by rw [Nat.pow_add]; exact Nat.mul_le_mul F.eB (A.z85 S hS)
  have hI := F.dI.toB hD F.dA
  exact den_B (D := dE S * zc T m S) (d := 33 + 85) hL (by rw [hf]; exact hI) (Nat.mul_le_mul F.e1 F.z1) hD (by decide) (by decide)
theorem c_abs {kvs : List (Key × V)} {T : Int} {ps qs : List (Addr × Row)} {m : Nat} {M : Int} (A : AllF kvs T ps qs m M) {S : List (Addr × Row)} (hS : S ∈ famS m m qs) : AbsB 0 (CS T m S) := by
  have h1 := (A.f S hS).pos
  have h2 := A.c1 S hS
  have e : ((2 ^ 0 : Nat) : Rat) = 1 := rfl
  unfold AbsB
  rw [e]
  exact ⟨by grind, h2⟩
theorem ch_fr {kvs : List (Key × V)} {T : Int} {ps qs : List (Addr × Row)} {m : Nat} {M : Int} (A : AllF kvs T ps qs m M) {S : List (Addr × Row)} (hS : S ∈ famS m m qs) (hu : 1 ≤ uC T S) {f : Fr} (hL : Low f) (hf : rv f = CS T m S) : FrB 90 f := by
  have F := A.f S hS
  have hI := F.cI.toB F.uB (c_abs A hS)
  exact den_B (D := uC T S) (d := 85) hL (by rw [hf]; exact hI) hu F.uB (by decide) (by decide)
theorem ten_abs {v : Nat} {l : List Rat} (hl : l.length ≤ 10) (h : ∀ x ∈ l, AbsB v x) : AbsB (v + 4) l.sum := by
  have hs := sum_abs (pow_nonneg' v) h
  have e : ((2 ^ (v + 4) : Nat) : Rat) = ((2 ^ v : Nat) : Rat) * 16 := by rw [Nat.pow_add]; exact_mod_cast rfl
  have h10 : ((l.length : Nat) : Rat) ≤ 10 := by exact_mod_cast hl
  have hp := pow_nonneg' v
  unfold AbsB
  rw [e]
  generalize ((2 ^ v : Nat) : Rat) = P at hs hp ⊢
  generalize ((l.length : Nat) : Rat) = n at hs h10
  have h2 : 0 ≤ (10 - n) * P := Rat.mul_nonneg (by grind) hp
  exact ⟨by grind, by grind⟩
theorem dF_B {ps : List (Addr × Row)} {T : Int} (S5 : Sit5 ps T) : 1 ≤ dF T ps ∧ dF T ps ≤ 2 ^ 246 := by
  have h1 := dE_B S5
  have h2 := uC_B S5 (l := ps) fun x hx => hx
  have h3 : tri ps.length ≤ tri 5 := tri_mono S5.n5
  have e3 : tri 5 = 10 := rfl
  have h4 : uC T ps ≤ 2 ^ 193 := Nat.le_trans h2.2 (Nat.pow_le_pow_right (by decide) (by have := S5.n5; omega))
  unfold dF
  refine ⟨Nat.mul_le_mul h1.1 h2.1, ?_⟩
  have := Nat.mul_le_mul h1.2 h4
  rwa [← Nat.pow_add] at this
theorem part_W {kvs : List (Key × V)} {T : Int} {ps qs : List (Addr × Row)} {m : Nat} {M : Int} (S5 : Sit5 ps T) (A : AllF kvs T ps qs m M) (j : Nat) {g : Fr} (hL : Low g) (hg : rv g = (((famS m m qs).take j).map (WS kvs T m)).sum) : FrB 900 g := by
  have hD := dF_B S5
  have hI : DenI (dF T ps) (rv g) := by
    rw [hg]
    refine DenI.sum fun z hz => ?_
    obtain ⟨S, hS, rfl⟩ := List.mem_map.mp hz
    exact (A.f S (List.mem_of_mem_take hS)).wP
  have hA : AbsB (30 + 4) (rv g) := by
    rw [hg]
    refine ten_abs (by rw [List.length_map, List.length_take]; have := A.n10; omega) fun z hz => ?_
    obtain ⟨S, hS, rfl⟩ := List.mem_map.mp hz
    have hS' := List.mem_of_mem_take hS
    have F := A.f S hS'
    have h1 := F.pos
    have h2 := A.c1 S hS'
    have h3 := F.dA
    rw [F.wc]
    unfold AbsB at h3 ⊢
    have hp := pow_nonneg' 30
    generalize dueS kvs T m S = y at h3 ⊢
    generalize CS T m S = C at h1 h2 ⊢
    generalize ((2 ^ 30 : Nat) : Rat) = P at h3 hp ⊢
    have g1 : 0 ≤ (P - y) * C := Rat.mul_nonneg (by grind) (Rat.le_of_lt h1)
    have g2 : 0 ≤ (y + P) * C := Rat.mul_nonneg (by grind) (Rat.le_of_lt h1)
    have g3 : 0 ≤ P * (1 - C) := Rat.mul_nonneg hp (by grind)
    exact ⟨by grind, by grind⟩
  exact den_B hL (hI.toB hD.2 hA) hD.1 hD.2 (by decide) (by decide)
theorem trm_I {kvs : List (Key × V)} {T : Int} {ps qs : List (Addr × Row)} {m : Nat} {M : Int} (A : AllF kvs T ps qs m M) {S : List (Addr × Row)} (hS : S ∈ famS m m qs) : DenI (dF T ps * dF T ps * zc T m S) (trmS kvs T (M : Rat) m S) := by
  have F := A.f S hS
  have hy : DenI (dF T ps) (WS kvs T m S + ((-M : Int) : Rat) * CS T m S) := F.wP.add (F.cP.scale (-M))
  obtain ⟨y, hy⟩ := hy
  refine ⟨y * y * (uC T S : Int), ?_⟩
  have e0 : ((-M : Int) : Rat) = -(M : Rat) := by exact_mod_cast rfl
  have e1 : ((y * y * (uC T S : Int) : Int) : Rat) = (y : Rat) * (y : Rat) * (uC T S : Rat) := by exact_mod_cast rfl
  have e2 : ((dF T ps * dF T ps * zc T m S : Nat) : Rat) = (dF T ps : Rat) * (dF T ps : Rat) * (zc T m S : Rat) := by exact_mod_cast rfl
  rw [e1, e2, ← hy, ← F.zv, e0, F.wc]
  unfold trmS
  grind
theorem trm_A {kvs : List (Key × V)} {T : Int} {ps qs : List (Addr × Row)} {m : Nat} {M : Int} (hM : M.natAbs ≤ 60) (A : AllF kvs T ps qs m M) {S : List (Addr × Row)} (hS : S ∈ famS m m qs) : AbsB 62 (trmS kvs T (M : Rat) m S) := by
  have F := A.f S hS
  have h1 := F.pos
  have h2 := A.c1 S hS
  have h3 := (F.dA.sub (AbsB.int (v := 30) (Nat.le_trans hM (by decide)))).sq
  have e : (30 + 1 + (30 + 1)) = 62 := rfl
  rw [e] at h3
  unfold trmS AbsB
  have hp := pow_nonneg' 62
  generalize ((2 ^ 62 : Nat) : Rat) = P at h3 hp ⊢
  generalize (dueS kvs T m S - (M : Rat)) * (dueS kvs T m S - (M : Rat)) = q at h3 ⊢
  generalize CS T m S = C at h1 h2 ⊢
  have g1 : 0 ≤ C * q := Rat.mul_nonneg (Rat.le_of_lt h1) h3.1
  have g2 : 0 ≤ (1 - C) * q := Rat.mul_nonneg (by grind) h3.1
  exact ⟨by grind, by grind⟩
theorem part_t {kvs : List (Key × V)} {T : Int} {ps qs : List (Addr × Row)} {m : Nat} {M : Int} (hM : M.natAbs ≤ 60) (S5 : Sit5 ps T) (A : AllF kvs T ps qs m M) (j : Nat) {g : Fr} (hL : Low g) (hg : rv g = (((famS m m qs).take j).map (trmS kvs T (M : Rat) m)).sum) : FrB 1480 g := by
  have hF := dF_B S5
  have hz := prodN_le (b := 85) (l := (famS m m qs).map (zc T m)) fun z hz => by
    obtain ⟨S, hS, rfl⟩ := List.mem_map.mp hz
    exact ⟨(A.f S hS).z1, A.z85 S hS⟩
  rw [List.length_map] at hz
  have hz2 : prodN ((famS m m qs).map (zc T m)) ≤ 2 ^ 850 := Nat.le_trans hz.2 (Nat.pow_le_pow_right (by decide) (by have := A.n10; omega))
  have hD1 : 1 ≤ dF T ps * dF T ps * prodN ((famS m m qs).map (zc T m)) := Nat.mul_le_mul (Nat.mul_le_mul hF.1 hF.1) hz.1
  have hD2 : dF T ps * dF T ps * prodN ((famS m m qs).map (zc T m)) ≤ 2 ^ (246 + 246 + 850) := by
    rw [Nat.pow_add, Nat.pow_add]
    exact Nat.mul_le_mul (Nat.mul_le_mul hF.2 hF.2) hz2
  have hI : DenI (dF T ps * dF T ps * prodN ((famS m m qs).map (zc T m))) (rv g) := by
    rw [hg]
    refine DenI.sum fun z hz => ?_
    obtain ⟨S, hS, rfl⟩ := List.mem_map.mp hz
    have hS' := List.mem_of_mem_take hS
    refine (trm_I A hS').dvd (Nat.mul_dvd_mul_left _ ?_)
    obtain ⟨c, hc⟩ := prodN_mem (l := (famS m m qs).map (zc T m)) (x := zc T m S) (List.mem_map.mpr ⟨S, hS', rfl⟩)
    exact ⟨c, hc⟩
  have hA : AbsB (62 + 4) (rv g) := by
    rw [hg]
    refine ten_abs (by rw [List.length_map, List.length_take]; have := A.n10; omega) fun z hz => ?_
    obtain ⟨S, hS, rfl⟩ := List.mem_map.mp hz
    exact trm_A hM A (List.mem_of_mem_take hS)
  exact den_B hL (hI.toB hD2 hA) hD1 hD2 (by decide) (by decide)

def spLessG (K : PySem.W.Frag) : Sp := fun vs H Q _ => ∃ (a b : Addr) (f g : Fr), vs = [.ref a, .ref b] ∧ FrAt K H a f ∧ FrAt K H b g ∧ FrB 8000 f ∧ FrB 8000 g ∧ Q (.bl (fless f g)) H
theorem ok__law_less {P : Program} {w : World} {K : PySem.W.Frag} {mg : Str → Option Value} {base : Heap} (T : T P K mg) : FnOk P w K mg base CX0 1 T.a__law_less T.fd__law_less ["one", "other"] (spLessG K) := by
  refine T.F__law_less.ok sc__law_less (fun vs H Q E h => ?_) (fun cdv A outer s H vs Q E hr h => ?_)
  · obtain ⟨a, b, f, g, rfl, _⟩ := h
    rfl
  · obtain ⟨a, b, f, g, rfl, ha, hb, Bf, Bg, q⟩ := h
    refine ⟨_, (pss_one (ps_ret (pe_cmpR op_lt (pe_op op_mulW (pe_ix ix_tup (pv 0) pe_int (fun _ _ => rfl)) (pe_ix ix_tup (pv 1) pe_int (fun _ _ => rfl))) (pe_op op_mulW (pe_ix ix_tup (pv 1) pe_int (fun _ _ => rfl)) (pe_ix ix_tup (pv 0) pe_int (fun _ _ => rfl))) (nomark _)))), ?_⟩
    walk_at "z0"
    walk_at "z"
    refine Z.ixT ha (fr0 f) ?_
    walk_at "z"
    refine Z.ixT hb (fr1 g) ?_
    walk_at "z"
    refine Z.iC (mul_ok Bf.1 Bg.2) ?_
    walk_at "z"
    refine Z.ixT hb (fr0 g) ?_
    walk_at "z"
    refine Z.ixT ha (fr1 f) ?_
    walk_at "z"
    refine Z.iC (mul_ok Bg.1 Bf.2) ?_
    walk_at "z"
    exact q

/-! ### k35: the law -/
def spLaw (K : PySem.W.Frag) : Sp := fun vs H Q _ => ∃ (a : Addr) (ns : List Int), vs = [.ref a] ∧ SqL K H a (ns.map V.int) ∧ ns.length ≤ 63 ∧ (∀ z ∈ ns, Builtin.Int.intBits z ≤ 1048576) ∧ ∀ H', Q (.bl true) H'
theorem items_nd {ps : List (Addr × Row)} (hl : ps.length ≤ 7) (h : ∀ (i : Nat) (x : Addr × Row), ps[i]? = some x → Row7 i x.2) : ps.Pairwise fun a b => a.2.k ≠ b.2.k := by
  rw [List.pairwise_iff_getElem]
  intro i j hi hj hij e
  have h1 := (h i ps[i] (List.getElem?_eq_getElem hi)).k
  have h2 := (h j ps[j] (List.getElem?_eq_getElem hj)).k
  rw [h1, h2] at e
  have := key7_inj (by omega) (by omega) e
  omega
theorem ex_take {T : Int} {O : List (List (Addr × Row))} {i : Nat} {o : List (Addr × Row)} (f : List (Addr × Row) → Rat) (h : O[i]? = some o) : ex T (O.take (i + 1)) f = ex T (O.take i) f + f o * ch T o := by
  unfold ex
  rw [List.take_add_one, h, List.map_append, List.sum_append]
  show _ + (f o * ch T o + 0) = _
  grind
theorem pre_B {xs : List (Addr × Row)} {T : Int} (S : Sit5 xs T) {O : List (List (Addr × Row))} (hO : O.length ≤ 60) {f : List (Addr × Row) → Rat} (h : ∀ o ∈ O, DenB (dA T xs) 650 (f o * ch T o)) (i : Nat) {g : Fr} (hL : Low g) (hg : rv g = ex T (O.take i) f) : FrB 900 g := by
  have hd := dA_B S
  refine den_B (D := dA T xs) (n := 656) (d := 512) hL ?_ hd.1 hd.2 (by decide) (by decide)
  rw [hg]
  unfold ex
  refine DenB.sum64 (n := 650) (by rw [List.length_map, List.length_take]; omega) fun z hz => ?_
  obtain ⟨o, ho, rfl⟩ := List.mem_map.mp hz
  exact h o (List.mem_of_mem_take ho)
theorem take_nd {α : Type} {l : List α} {i : Nat} {x : α} (h : l[i]? = some x) : l.take (i + 1) = l.take i ++ [x] := by rw [List.take_add_one, h]; rfl
theorem zip_map {c : List (Addr × Row) → Fr} {f : List (Addr × Row) → Rat} (G : Rat → Fr → Rat) : ∀ {fcs : List (Fr × Fr)} {O : List (List (Addr × Row))}, fcs.map (fun p => rv p.1) = O.map f → fcs.map (fun p => p.2) = O.map c → fcs.map (fun p => G (rv p.1) p.2) = O.map (fun o => G (f o) (c o))
  | [], [], _, _ => rfl
  | [], o :: r, h, _ => by simp at h
  | p :: q, [], h, _ => by simp at h
  | p :: q, o :: r, h1, h2 => by
    rw [List.map_cons, List.map_cons] at h1 h2
    obtain ⟨a1, b1⟩ := List.cons.inj h1
    obtain ⟨a2, b2⟩ := List.cons.inj h2
    rw [List.map_cons, List.map_cons, a1, a2, zip_map G b1 b2]

def refT : HO := .tup [.str "refused", .str "orders"]
theorem cut_takeA {xs : List V} (k : Nat) : cutV xs none (some (k : Int)) = xs.take k := by
  unfold cutV
  rw [HT.sIx_none, HT.sIx_nat, List.drop_zero, Nat.sub_zero]
  rcases Nat.le_total k xs.length with h | h
  · rw [Nat.min_eq_left h]
  · rw [Nat.min_eq_right h, List.take_length, List.take_of_length_le h]
theorem refs_take (ps : List (Addr × Row)) (k : Nat) : (refs ps).take k = refs (ps.take k) := by unfold refs; rw [List.map_take]
theorem srefs_take (ps : List (Addr × List (Addr × Row))) (k : Nat) : (srefs ps).take k = srefs (ps.take k) := by unfold srefs; rw [List.map_take]
/-- what _law_told tells -/
def TellOk (K : PySem.W.Frag) (kvs : List (Key × V)) (t : Int) (ps : List (Addr × Row)) (H : Hp) (c : Addr) : Prop := ((wts ps).sum = t ∧ FrAt K H c ((amts kvs ps).sum, 1)) ∨ ((wts ps).sum ≠ t ∧ 6 < ps.length ∧ H c = some refT) ∨ ((wts ps).sum ≠ t ∧ ps.length ≤ 6 ∧ ∃ g, FrAt K H c g ∧ Low g ∧ rv g = unR kvs t (prm3 ps))
theorem told_use {K : PySem.W.Frag} {C : Addr} {H : Hp} {Q : VK} {E : XK} {x k d : Addr} {size t : Int} {ps : List (Addr × Row)} {kvs : List (Key × V)} (hU : WtAt C H x k size t ps) (r : RowsAt H ps) (hn : ps.length ≤ 1000) (hd : H d = some (.dK kvs)) (ho : AmtOk kvs) (pre : (wts ps).sum ≠ t → ps.length ≤ 6 → 1 ≤ ps.length ∧ ps.length ≤ 3 ∧ (∀ x ∈ ps, RowW x.2) ∧ 0 ≤ t ∧ t ≤ 5000 ∧ (∀ o ∈ prm3 ps, PosL t o)) (q : ∀ H' c, Kp [] H H' → TellOk K kvs t ps H' c → Q (.ref c) H') : spTold K C [.ref x, .ref d] H Q E :=
  ⟨x, k, d, size, t, ps, kvs, rfl, hU, r, hn, hd, ho, fun h H' c k e => q H' c k (.inl ⟨h, e⟩), fun h h2 H' c k e => q H' c k (.inr (.inl ⟨h, h2, e⟩)), fun h h2 => ⟨pre h h2, fun H' c g k e l v => q H' c k (.inr (.inr ⟨h, h2, g, e, l, v⟩))⟩⟩
def DueOk (K : PySem.W.Frag) (kvs : List (Key × V)) (t : Int) (ps : List (Addr × Row)) (H : Hp) (c : Addr) : Prop := ((wts ps).sum = t ∧ FrAt K H c ((amts kvs ps).sum, 1)) ∨ ((wts ps).sum ≠ t ∧ H c = some refT)
theorem DueOk.kp0 {K : PySem.W.Frag} {kvs : List (Key × V)} {t : Int} {ps : List (Addr × Row)} {H H' : Hp} {c : Addr} (h : DueOk K kvs t ps H c) (k : Kp [] H H') : DueOk K kvs t ps H' c := by
  rcases h with ⟨a, b⟩ | ⟨a, b⟩
  · exact .inl ⟨a, b.kp0 k⟩
  · exact .inr ⟨a, k.get nin0 b⟩
theorem neRef {K : PySem.W.Frag} {H : Hp} {Q : VK} {a b : Addr} (h1 : H a = some refT) (h2 : H b = some refT) (q : Q (.bl false) H) : rNeD K (.ref a) (.ref b) H Q :=
  ⟨_, _, .tup (tupT h1) (.cons (.str _) (.cons (.str _) .nil)), .tup (tupT h2) (.cons (.str _) (.cons (.str _) .nil)), by decide +kernel, by decide +kernel, by rw [SeqAt.eqv_refl _ (by decide +kernel)]; exact q⟩
theorem neTell {K : PySem.W.Frag} {kvs : List (Key × V)} {t : Int} {ps : List (Addr × Row)} {H : Hp} {Q : VK} {a b : Addr} (hl : ps.length = 7) (h1 : TellOk K kvs t ps H a) (h2 : DueOk K kvs t ps H b) (q : Q (.bl false) H) : rNeD K (.ref a) (.ref b) H Q := by
  rcases h1 with ⟨a1, b1⟩ | ⟨a1, b1, c1⟩ | ⟨a1, b1, _⟩
  · rcases h2 with ⟨a2, b2⟩ | ⟨a2, b2⟩
    · exact neFF b1 b2 q
    · exact absurd a1 a2
  · rcases h2 with ⟨a2, b2⟩ | ⟨a2, b2⟩
    · exact absurd a2 a1
    · exact neRef c1 b2 q
  · omega

/-! ### what is told of an order of a set -/
theorem set_ord {kvs : List (Key × V)} {T : Int} {ps S o : List (Addr × Row)} {m : Nat} (F : SetF kvs T ps m S) (h3 : m ≤ 3) (ho : o ∈ ordS S m) : (prm3 o).Perm (ordS S m) := by
  have := F.len
  subst this
  exact prm3_ord F.kd h3 ho
theorem posL_of {ps u : List (Addr × Row)} {T : Int} (S5 : Sit5 ps T) (hs : ∀ x ∈ u, x ∈ ps) (hk : KD u) (hl : u.length ≤ ps.length) : PosL T u := fun i hi => by
  have g := (ordS_good S5.nd (u.take i).length (u.take i) ((mem_ordS S5.nd _ _).mpr ⟨rfl, fun x hx => hs x (List.mem_of_mem_take hx), hk.sub (List.take_sublist _ _)⟩)).1
  exact S5.left_pos g (by rw [List.length_take]; omega)
theorem wts_perm {o u : List (Addr × Row)} (h : o.Perm u) : (wts o).sum = (wts u).sum := by
  unfold wts
  induction h with
  | nil => rfl
  | cons x _ ih => rw [List.map_cons, List.map_cons, List.sum_cons, List.sum_cons, ih]
  | swap x y l => simp only [List.map_cons, List.sum_cons]; omega
  | trans _ _ a b => rw [a, b]
theorem amts_perm {kvs : List (Key × V)} {o u : List (Addr × Row)} (h : o.Perm u) : (amts kvs o).sum = (amts kvs u).sum := by
  unfold amts
  induction h with
  | nil => rfl
  | cons x _ ih => rw [List.map_cons, List.map_cons, List.sum_cons, List.sum_cons, ih]
  | swap x y l => simp only [List.map_cons, List.sum_cons]; omega
  | trans _ _ a b => rw [a, b]
theorem tell_due {K : PySem.W.Frag} {kvs : List (Key × V)} {T : Int} {ps S o : List (Addr × Row)} {m : Nat} {H : Hp} {c : Addr} (F : SetF kvs T ps m S) (h3 : m ≤ 3) (ho : o ∈ ordS S m) (h : TellOk K kvs T o H c) : ∃ g, FrAt K H c g ∧ Low g ∧ rv g = dueS kvs T m S := by
  obtain ⟨a, b, k⟩ := (mem_ordS F.kd m o).mp ho
  have hp := set_ord F h3 ho
  have hpo : ∀ u ∈ ordS S m, u.Perm o := fun u hu => prm3_perm (by omega) u (hp.mem_iff.mpr hu)
  have pos0 : CS T m S ≠ 0 := fun z => by have := F.pos; rw [z] at this; exact absurd this (by decide)
  rcases h with ⟨a1, b1⟩ | ⟨a1, b1, c1⟩ | ⟨a1, b1, g, c1, c2, c3⟩
  · refine ⟨_, b1, ⟨show (1 : Int) ≤ 1 by decide, by simp⟩, ?_⟩
    rw [rv_int]
    have e : WS kvs T m S = (((amts kvs o).sum : Int) : Rat) * CS T m S := by
      unfold WS CS
      rw [← ex_scale]
      refine ex_congr fun u hu => ?_
      unfold est numsR
      rw [if_pos (by rw [wts_perm (hpo u hu)]; exact a1), amts_perm (hpo u hu)]
      show (_ + 0) / ((1 : Nat) : Rat) = _
      grind
    unfold dueS
    rw [e]
    grind
  · omega
  · refine ⟨g, c1, c2, ?_⟩
    rw [c3]
    unfold unR dueS WS CS
    rw [ex_perm hp, ex_perm hp]
    congr 1
    refine ex_congr fun u hu => ?_
    unfold est numsR
    rw [if_neg (by rw [wts_perm (hpo u hu)]; exact a1)]
    rfl

theorem fsum_snoc (t : Fr) (l : List Fr) (x : Fr) : fsum t (l ++ [x]) = fplus (fsum t l) x := by unfold fsum; rw [List.foldl_append]; rfl
structure SumF (kvs : List (Key × V)) (T : Int) (O : List (List (Addr × Row))) (cf wf : Fr) : Prop where
  cL : Low cf
  cB : FrB 300 cf
  cv : rv cf = ex T O fun _ => 1
  wL : Low wf
  wB : FrB 900 wf
  wv : rv wf = ex T O (est kvs T)
theorem sums_of {kvs : List (Key × V)} {T : Int} {nw : List (Fr × Fr)} {O : List (List (Addr × Row))} (h1 : nw.map (fun p => rv p.1) = O.map (est kvs T)) (h2 : nw.map (fun p => p.2) = O.map (chF T)) (hB : ∀ p ∈ nw, 1 ≤ p.1.2 ∧ FrB 100 p.1 ∧ 1 ≤ p.2.2 ∧ FrB 40 p.2) (hl : nw.length ≤ 6) :
    SumF kvs T O (fsum (0, 1) (nw.map fun p => p.2)) (fsum (0, 1) (nw.map fun p => ftimes p.2 p.1)) := by
  have hc : ∀ f ∈ nw.map (fun p => p.2), FrB 40 f ∧ f.2 ≠ 0 := fun f hf => by
    obtain ⟨p, hp, rfl⟩ := List.mem_map.mp hf
    obtain ⟨b1, b2, b3, b4⟩ := hB p hp
    exact ⟨b4, by omega⟩
  have hw : ∀ f ∈ nw.map (fun p => ftimes p.2 p.1), FrB 140 f ∧ f.2 ≠ 0 := fun f hf => by
    obtain ⟨p, hp, rfl⟩ := List.mem_map.mp hf
    obtain ⟨b1, b2, b3, b4⟩ := hB p hp
    exact ⟨ftimes_B (n := 40) (m := 100) b4 b2 (by omega) (by omega), (lo_low (Int.mul_ne_zero (by omega) (by omega))).ne⟩
  have s1 := rv_fsum (fs := nw.map fun p => p.2) low_zero fun f hf => (hc f hf).2
  have s2 := rv_fsum (fs := nw.map fun p => ftimes p.2 p.1) low_zero fun f hf => (hw f hf).2
  have b1 := fsum_B (fs := nw.map fun p => p.2) (t := (0, 1)) (n := 1) (m := 40) ⟨by decide, by decide⟩ (by decide) hc
  have b2 := fsum_B (fs := nw.map fun p => ftimes p.2 p.1) (t := (0, 1)) (n := 1) (m := 140) ⟨by decide, by decide⟩ (by decide) hw
  rw [List.length_map] at b1 b2
  refine ⟨s1.2, b1.1.mono (by omega), ?_, s2.2, b2.1.mono (by omega), ?_⟩
  · rw [s1.1, rv_zero, h2, List.map_map]
    unfold ex
    rw [show (O.map fun o => 1 * ch T o) = O.map (rv ∘ chF T) from List.map_congr_left fun o _ => by show 1 * ch T o = rv (chF T o); unfold ch; grind]
    grind
  · have hz := zip_map (fun r c => rv c * r) h1 h2
    have e1 : (nw.map fun p => ftimes p.2 p.1).map rv = nw.map fun p => rv p.2 * rv p.1 := by
      rw [List.map_map]
      refine List.map_congr_left fun p hp => ?_
      obtain ⟨b1, b2, b3, b4⟩ := hB p hp
      simp only [Function.comp_apply]
      rw [rv_ftimes (by omega) (by omega)]
    rw [s2.1, rv_zero, e1, hz]
    unfold ex
    rw [show (O.map fun o => est kvs T o * ch T o) = O.map fun o => rv (chF T o) * est kvs T o from List.map_congr_left fun o _ => by unfold ch; grind]
    grind
theorem ord_len {S : List (Addr × Row)} {m : Nat} (hk : KD S) (hl : S.length = m) (h3 : m ≤ 3) : (ordS S m).length ≤ 6 := by
  have hin : S ∈ ordS S S.length := (mem_ordS hk _ S).mpr ⟨rfl, fun x hx => hx, hk⟩
  have h := prm3_ord hk (by omega) hin
  subst hl
  rw [← h.length_eq]
  exact (prm3_len (by omega)).1
theorem flat_take {α β : Type} (f : α → List β) {l : List α} {i : Nat} {x : α} (h : l[i]? = some x) : (l.take (i + 1)).flatMap f = (l.take i).flatMap f ++ f x := by
  rw [List.take_add_one, h, List.flatMap_append]
  simp
theorem fam_ne {qs : List (Addr × Row)} {m : Nat} (h : m ≤ qs.length) : famS m m qs ≠ [] := fun z => by
  have : qs.take m ∈ famS m m qs := (mem_famS _ qs rfl m (Nat.le_refl _) _).mpr ⟨List.take_sublist _ _, by rw [List.length_take]; omega⟩
  rw [z] at this
  cases this
theorem flat_le {α β : Type} {f : α → List β} {l : List α} (i : Nat) : ((l.take i).flatMap f).length ≤ (l.flatMap f).length := by
  have h : l.flatMap f = (l.take i).flatMap f ++ (l.drop i).flatMap f := by rw [← List.flatMap_append, List.take_append_drop]
  rw [h, List.length_append]
  omega
theorem zip2 {α : Type} {f g : α → Rat} (G : Rat → Rat → Rat) : ∀ {gds : List (Fr × Fr)} {L : List α}, gds.map (fun p => rv p.1) = L.map f → gds.map (fun p => rv p.2) = L.map g → gds.map (fun p => G (rv p.1) (rv p.2)) = L.map (fun o => G (f o) (g o))
  | [], [], _, _ => rfl
  | [], o :: r, h, _ => by simp at h
  | p :: q, [], h, _ => by simp at h
  | p :: q, o :: r, h1, h2 => by
    rw [List.map_cons, List.map_cons] at h1 h2
    obtain ⟨a1, b1⟩ := List.cons.inj h1
    obtain ⟨a2, b2⟩ := List.cons.inj h2
    rw [List.map_cons, List.map_cons, a1, a2, zip2 G b1 b2]

set_option maxHeartbeats 4000000 in
theorem ok_law {P : Program} {w : World} {K : PySem.W.Frag} {mg : Str → Option Value} {base : Heap} (T : T P K mg) : FnOk P w K mg base CX0 10 T.a_law T.fd_law ["script"] (spLaw K) := by
  refine T.F_law.ok sc_law (fun vs H Q E h => ?_) (fun cdv A outer s H vs Q E hr h => ?_)
  · obtain ⟨a, ns, rfl, _⟩ := h
    rfl
  · obtain ⟨c, ns, rfl, hS, hlen, hb, q⟩ := h
    refine ⟨_, (pss_cons (ps_set (i := 1) sc_law.nd rfl (by first | exact Or.inl rfl | exact Or.inr rfl) (pe_call (ok__law_numbers T) (hr.mono (by decide)) (by rfl) T.g__law_numbers T.F__law_numbers.kp T.b__law_numbers .nil pass0 (pa_cons (pv 0) (pa_cons pe_int pa_nil))))
      (pss_cons (ps_set (i := 2) sc_law.nd rfl (by first | exact Or.inl rfl | exact Or.inr rfl) (pe_op op_add pe_int (pe_call (ok__law_take T) (hr.mono (by decide)) (by rfl) T.g__law_take T.F__law_take.kp T.b__law_take .nil pass0 (pa_cons (pv 1) (pa_cons pe_int pa_nil)))))
      (pss_cons (ps_set (i := 3) sc_law.nd rfl (by first | exact Or.inl rfl | exact Or.inr rfl) (pe_call (ok__law_items T) (hr.mono (by decide)) (by rfl) T.g__law_items T.F__law_items.kp T.b__law_items .nil pass0 (pa_cons (pv 1) (pa_cons pe_int pa_nil))))
      (pss_cons (ps_set (i := 4) sc_law.nd rfl (by first | exact Or.inl rfl | exact Or.inr rfl) (pe_call (ok__law_amounts T) (hr.mono (by decide)) (by rfl) T.g__law_amounts T.F__law_amounts.kp T.b__law_amounts .nil pass0 (pa_cons (pv 1) (pa_cons (pv 3) pa_nil))))
      (pss_cons (ps_set (i := 5) sc_law.nd rfl (by first | exact Or.inl rfl | exact Or.inr rfl) (pe_make T.mk_Weighted (ok_Weighted_init T) (hr.mono (by decide)) (by rfl) T.mg_Weighted T.b_Weighted_init .nil pass0 (pa_cons pe_int (pa_cons (pe_op op_add (pe_callB (cr_sum rfl) (by rfl) T.z_sum (by decide +kernel) (pa_cons (pe_lc (own := [("item", 17)]) (g := gName 17) rfl sc_law.nd (pi_list (pv 3)) (blkOk_by (own := [("item", 17)]) (N := N_law) (sc := defScope s_law) (by decide +kernel)) (fun _ _ _ _ _ => (pg_name (i := 17) sc_law.nd rfl (by first | exact Or.inl rfl | exact Or.inr rfl))) (fun _ _ _ _ _ => pts_nil) (fun _ _ _ _ _ => (pe_ix (ix_tup : IxR _ (rIxT K)) (pv 17) pe_int (fun _ _ => rfl)))) pa_nil)) (pe_ix ix_list (pe_lst (pa_cons pe_int (pa_cons pe_int pa_nil))) (pe_call (ok__law_take T) (hr.mono (by decide)) (by rfl) T.g__law_take T.F__law_take.kp T.b__law_take .nil pass0 (pa_cons (pv 1) (pa_cons pe_int pa_nil))) (fun _ _ => rfl))) (pa_cons (pe_callTy c_list (by rfl) T.z_list (by decide +kernel) (pa_cons (pv 3) pa_nil)) pa_nil)))))
      (pss_cons (ps_set (i := 6) sc_law.nd rfl (by first | exact Or.inl rfl | exact Or.inr rfl) (pe_tup (pa_cons pe_str (pa_cons pe_str pa_nil))))
      (Z.pss_consJ (ps_if (pt_cmpR op_eq (pe_fld (pv 5) rfl) (pe_callB (cr_sum rfl) (by rfl) T.z_sum (by decide +kernel) (pa_cons (pe_lc (own := [("item", 17)]) (g := gName 17) rfl sc_law.nd (pi_list (pv 3)) (blkOk_by (own := [("item", 17)]) (N := N_law) (sc := defScope s_law) (by decide +kernel)) (fun _ _ _ _ _ => (pg_name (i := 17) sc_law.nd rfl (by first | exact Or.inl rfl | exact Or.inr rfl))) (fun _ _ _ _ _ => pts_nil) (fun _ _ _ _ _ => (pe_ix (ix_tup : IxR _ (rIxT K)) (pv 17) pe_int (fun _ _ => rfl)))) pa_nil)) (nomark _)) (pss_one (ps_set (i := 6) sc_law.nd rfl (by first | exact Or.inl rfl | exact Or.inr rfl) (pe_tup (pa_cons (pe_call (ok__law_true T) (hr.mono (by decide)) (by rfl) T.g__law_true T.F__law_true.kp T.b__law_true .nil pass0 (pa_cons (pv 3) (pa_cons (pv 4) pa_nil))) (pa_cons pe_int pa_nil))))) pss_nil)
      (pss_cons (ps_if (pt_cmpR (op_neD hr.units) (pe_call (ok__law_told T) (hr.mono (by decide)) (by rfl) T.g__law_told T.F__law_told.kp T.b__law_told .nil pass0 (pa_cons (pv 5) (pa_cons (pe_callTy call_dictD (by rfl) T.z_dict (by decide +kernel) (pa_cons (pv 4) pa_nil)) pa_nil))) (pv 6) (nomark _)) (pss_one (ps_ret pe_bl)) pss_nil)
      (pss_cons (ps_set (i := 3) sc_law.nd rfl (by first | exact Or.inl rfl | exact Or.inr rfl) (pe_slice sl_list (pv 3) po_none (po_some (pv 2))))
      (pss_cons (ps_set (i := 7) sc_law.nd rfl (by first | exact Or.inl rfl | exact Or.inr rfl) (pe_op op_add pe_int (pe_call (ok__law_take T) (hr.mono (by decide)) (by rfl) T.g__law_take T.F__law_take.kp T.b__law_take .nil pass0 (pa_cons (pv 1) (pa_cons pe_int pa_nil)))))
      (pss_cons (ps_set (i := 8) sc_law.nd rfl (by first | exact Or.inl rfl | exact Or.inr rfl) (pe_callB (cr_sum rfl) (by rfl) T.z_sum (by decide +kernel) (pa_cons (pe_lc (own := [("item", 17)]) (g := gName 17) rfl sc_law.nd (pi_list (pv 3)) (blkOk_by (own := [("item", 17)]) (N := N_law) (sc := defScope s_law) (by decide +kernel)) (fun _ _ _ _ _ => (pg_name (i := 17) sc_law.nd rfl (by first | exact Or.inl rfl | exact Or.inr rfl))) (fun _ _ _ _ _ => pts_nil) (fun _ _ _ _ _ => (pe_ix (ix_tup : IxR _ (rIxT K)) (pv 17) pe_int (fun _ _ => rfl)))) pa_nil)))
      (pss_cons (ps_set (i := 9) sc_law.nd rfl (by first | exact Or.inl rfl | exact Or.inr rfl) (pe_lst pa_nil))
      (pss_cons (ps_set (i := 10) sc_law.nd rfl (by first | exact Or.inl rfl | exact Or.inr rfl) (pe_lst pa_nil))
      (pss_cons (ps_for PassesOwn.never rfl (pi_list (pe_call (ok__law_sets T) (hr.mono (by decide)) (by rfl) T.g__law_sets T.F__law_sets.kp T.b__law_sets .nil pass0 (pa_cons (pv 3) (pa_cons (pe_callB (call_min2 rfl) (by rfl) T.z_min (by decide +kernel) (pa_cons (pv 7) (pa_cons (pe_callB c_len (by rfl) T.z_len (by decide +kernel) (pa_cons (pv 3) pa_nil)) pa_nil))) pa_nil)))) (pg_name (i := 11) sc_law.nd rfl (by first | exact Or.inl rfl | exact Or.inr rfl)) (pss_cons (ps_set (i := 12) sc_law.nd rfl (by first | exact Or.inl rfl | exact Or.inr rfl) (pe_tup (pa_cons pe_int (pa_cons pe_int pa_nil))))
      (pss_cons (ps_set (i := 13) sc_law.nd rfl (by first | exact Or.inl rfl | exact Or.inr rfl) (pe_tup (pa_cons pe_int (pa_cons pe_int pa_nil))))
      (pss_cons (ps_for PassesOwn.never rfl (pi_list (pe_call (ok__law_orders T) (hr.mono (by decide)) (by rfl) T.g__law_orders T.F__law_orders.kp T.b__law_orders .nil pass0 (pa_cons (pv 11) (pa_cons (pe_callB c_len (by rfl) T.z_len (by decide +kernel) (pa_cons (pv 11) pa_nil)) pa_nil)))) (pg_name (i := 14) sc_law.nd rfl (by first | exact Or.inl rfl | exact Or.inr rfl)) (pss_cons (ps_set (i := 15) sc_law.nd rfl (by first | exact Or.inl rfl | exact Or.inr rfl) (pe_call (ok__law_order_chance T) (hr.mono (by decide)) (by rfl) T.g__law_order_chance T.F__law_order_chance.kp T.b__law_order_chance .nil pass0 (pa_cons (pv 8) (pa_cons (pv 14) pa_nil))))
      (pss_cons (ps_set (i := 16) sc_law.nd rfl (by first | exact Or.inl rfl | exact Or.inr rfl) (pe_ix ix_tup (pe_call (ok_estimate T) (hr.mono (by decide)) (by rfl) T.g_estimate T.F_estimate.kp T.b_estimate .nil pass0 (pa_cons (pe_make T.mk_Weighted (ok_Weighted_init T) (hr.mono (by decide)) (by rfl) T.mg_Weighted T.b_Weighted_init .nil pass0 (pa_cons (pv 7) (pa_cons (pv 8) (pa_cons (pv 14) pa_nil)))) (pa_cons (pe_callTy call_dictD (by rfl) T.z_dict (by decide +kernel) (pa_cons (pv 4) pa_nil)) pa_nil))) pe_int (fun _ _ => rfl)))
      (pss_cons (ps_set (i := 12) sc_law.nd rfl (by first | exact Or.inl rfl | exact Or.inr rfl) (pe_call (ok__law_plus T) (hr.mono (by decide)) (by rfl) T.g__law_plus T.F__law_plus.kp T.b__law_plus .nil pass0 (pa_cons (pv 12) (pa_cons (pv 15) pa_nil))))
      (pss_cons (ps_set (i := 13) sc_law.nd rfl (by first | exact Or.inl rfl | exact Or.inr rfl) (pe_call (ok__law_plus T) (hr.mono (by decide)) (by rfl) T.g__law_plus T.F__law_plus.kp T.b__law_plus .nil pass0 (pa_cons (pv 13) (pa_cons (pe_call (ok__law_times T) (hr.mono (by decide)) (by rfl) T.g__law_times T.F__law_times.kp T.b__law_times .nil pass0 (pa_cons (pv 15) (pa_cons (pv 16) pa_nil))) pa_nil))))
      (pss_one (ps_expr (pe_bm PySem.F.plainAttrs_list PySem.F.slot_list_append PySem.F.type_list_append mt_append (pv 9) (pa_cons (pe_tup (pa_cons (pv 16) (pa_cons (pv 15) pa_nil))) pa_nil)))))))))
      (pss_cons (ps_set (i := 6) sc_law.nd rfl (by first | exact Or.inl rfl | exact Or.inr rfl) (pe_call (ok__law_low T) (hr.mono (by decide)) (by rfl) T.g__law_low T.F__law_low.kp T.b__law_low .nil pass0 (pa_cons (pe_op op_mulW (pe_ix ix_tup (pv 13) pe_int (fun _ _ => rfl)) (pe_ix ix_tup (pv 12) pe_int (fun _ _ => rfl))) (pa_cons (pe_op op_mulW (pe_ix ix_tup (pv 13) pe_int (fun _ _ => rfl)) (pe_ix ix_tup (pv 12) pe_int (fun _ _ => rfl))) pa_nil))))
      (pss_cons (ps_for PassesOwn.never rfl (pi_list (pe_slice sl_list (pe_call (ok__law_orders T) (hr.mono (by decide)) (by rfl) T.g__law_orders T.F__law_orders.kp T.b__law_orders .nil pass0 (pa_cons (pv 11) (pa_cons (pe_callB c_len (by rfl) T.z_len (by decide +kernel) (pa_cons (pv 11) pa_nil)) pa_nil))) po_none (po_some pe_int))) (pg_name (i := 14) sc_law.nd rfl (by first | exact Or.inl rfl | exact Or.inr rfl)) (pss_one (ps_if (pt_cmpR (op_neD hr.units) (pe_call (ok__law_told T) (hr.mono (by decide)) (by rfl) T.g__law_told T.F__law_told.kp T.b__law_told .nil pass0 (pa_cons (pe_make T.mk_Weighted (ok_Weighted_init T) (hr.mono (by decide)) (by rfl) T.mg_Weighted T.b_Weighted_init .nil pass0 (pa_cons (pv 7) (pa_cons (pv 8) (pa_cons (pe_callTy c_list (by rfl) T.z_list (by decide +kernel) (pa_cons (pv 14) pa_nil)) pa_nil)))) (pa_cons (pe_callTy call_dictD (by rfl) T.z_dict (by decide +kernel) (pa_cons (pv 4) pa_nil)) pa_nil))) (pv 6) (nomark _)) (pss_one (ps_ret pe_bl)) pss_nil)))
      (pss_one (ps_expr (pe_bm PySem.F.plainAttrs_list PySem.F.slot_list_append PySem.F.type_list_append mt_append (pv 10) (pa_cons (pe_tup (pa_cons (pv 6) (pa_cons (pv 12) pa_nil))) pa_nil))))))))))
      (pss_cons (ps_if (pt_cmpR (op_neD hr.units) (pe_ix ix_tup (pe_call (ok__law_moments T) (hr.mono (by decide)) (by rfl) T.g__law_moments T.F__law_moments.kp T.b__law_moments .nil pass0 (pa_cons (pv 10) pa_nil)) pe_int (fun _ _ => rfl)) (pe_tup (pa_cons (pe_call (ok__law_true T) (hr.mono (by decide)) (by rfl) T.g__law_true T.F__law_true.kp T.b__law_true .nil pass0 (pa_cons (pv 3) (pa_cons (pv 4) pa_nil))) (pa_cons pe_int pa_nil))) (nomark _)) (pss_one (ps_ret pe_bl)) pss_nil)
      (pss_one (ps_ret (pe_not (pe_call (ok__law_less T) (hr.mono (by decide)) (by rfl) T.g__law_less T.F__law_less.kp T.b__law_less .nil pass0 (pa_cons (pe_ix ix_tup (pe_call (ok__law_moments T) (hr.mono (by decide)) (by rfl) T.g__law_moments T.F__law_moments.kp T.b__law_moments .nil pass0 (pa_cons (pv 9) pa_nil)) pe_int (fun _ _ => rfl)) (pa_cons (pe_ix ix_tup (pe_call (ok__law_moments T) (hr.mono (by decide)) (by rfl) T.g__law_moments T.F__law_moments.kp T.b__law_moments .nil pass0 (pa_cons (pv 10) pa_nil)) pe_int (fun _ _ => rfl)) pa_nil))))))))))))))))))))), ?_⟩
    walk_at "z0"
    walk_at "z"
    refine ⟨c, ns, 90, rfl, hS, by decide, hb, fun a H1 na k1 d1 => ?_⟩
    walk_at "z"
    refine ⟨a, 5, rfl, d1, by decide, by decide, fun H2 n2 hn0 hn1 k2 d2 => ?_⟩
    obtain ⟨n, hn⟩ : ∃ n : Nat, 1 + n2 = (n : Int) := ⟨(1 + n2).toNat, by omega⟩
    have hnn1 : 1 ≤ n := by omega
    have hnn5 : n ≤ 5 := by omega
    walk_at "z"
    rw [hn]
    refine ⟨a, 7, rfl, d2, by decide, fun H3 p p7 np I => ?_⟩
    have hpl : p7.length = 7 := I.len
    have hpS : ∀ x ∈ p7, RowS x.2 := fun x hx => by
      obtain ⟨j, hj, he⟩ := List.getElem_of_mem hx
      exact (I.ok j x (by rw [List.getElem?_eq_getElem hj, he])).s (by omega)
    have hpW : ∀ x ∈ p7, RowW x.2 := fun x hx => by
      obtain ⟨j, hj, he⟩ := List.getElem_of_mem hx
      have := I.ok j x (by rw [List.getElem?_eq_getElem hj, he])
      exact ⟨this.w0, this.w1⟩
    have hnd7 := items_nd (by omega) I.ok
    have npa : p ≠ a := fun z => by obtain ⟨ns2, h2⟩ := d2; rw [← z, np] at h2; cases h2
    walk_at "z"
    refine ⟨a, p, p7, rfl, I.dr, I.at_, I.rows, npa, by omega, fun H4 d kvs nd k4 d4 e4 ho_amt => ?_⟩
    have e4p := k4.get (nin1 npa) I.at_
    have r4 := I.rows.kpd k4 I.dr
    have nda : d ≠ a := fun z => by obtain ⟨ns2, h2⟩ := I.dr; rw [← z, nd] at h2; cases h2
    walk_at "z"
    refine Z.lcl (refs p7) (lstL e4p) (fun D i H' => Kp [] H4 H' ∧ H' D = some (.lst ((wts (p7.take i)).map V.int))) ?_ ?_ ?_ ?_
    · intro D H6 nD k6 e6
      exact ⟨k6, e6⟩
    · rintro D i H6 nD hi ⟨k6, e6⟩
      exact lstL (k6.get nin0 e4p)
    · rintro D i v H6 nD hv ⟨k6, e6⟩
      obtain ⟨x, hx, rfl⟩ := refs_of hv
      have hi : i < p7.length := (List.getElem?_eq_some_iff.mp hx).1
      dsimp only [wipe, List.set]
      walk_at "z"
      refine ⟨rfl, ?_⟩
      walk_at "z"
      refine RowAt.w2 ((r4.kp0 k6) x (List.mem_of_getElem? hx)) ?_
      refine ⟨_, e6, Z.szl (m := 1000) (by unfold wts; rw [List.length_map, List.length_map, List.length_take]; omega), k6.mut nD rfl, ?_⟩
      rw [upd_same, List.take_add_one, hx]
      unfold wts
      rw [List.map_append, List.map_append]; rfl
    rintro D5 H5 nD5 ⟨k5, e5⟩
    rw [refs_len, List.take_length] at e5
    walk_at "z"
    refine Z.sumL (lstL e5) ?_
    have d5 := d4.kp0 k5
    have e5p := k5.get nin0 e4p
    have e5d := k5.get nin0 e4
    have r5 := r4.kp0 k5
    walk_at "z"
    refine Z.lstK (fun L6 H6 nL6 k6 e6 => ?_)
    have d6 := d5.kp0 k6
    walk_at "z"
    refine ⟨a, 2, rfl, d6, by decide, by decide, fun H7 z7 hz0 hz1 k7 d7 => ?_⟩
    have nL6a : L6 ≠ a := fun z => by obtain ⟨ns2, h2⟩ := d5; rw [← z, nL6] at h2; cases h2
    have e7p := k7.get (nin1 npa) (k6.get nin0 e5p)
    have e7d := k7.get (nin1 nda) (k6.get nin0 e5d)
    have r7 := (r5.kp0 k6).kpd k7 d6
    walk_at "z"
    obtain ⟨s7, hs7, es7⟩ := pickI [0, 3] hz0 (by simpa using hz1)
    have hs70 : s7 = 0 ∨ s7 = 3 := by simpa using hs7
    refine Z.ixL (lstL (k7.get (nin1 nL6a) e6)) es7 ?_
    walk_at "z"
    refine Z.listL (lstL e7p) (fun g8 H8 ng8 k8 e8 => ?_)
    walk_at "z"
    intro x dx nx ndx nxd
    refine ⟨x, g8, dx, 7, (wts p7).sum + s7, p7, rfl, upd_same, ?_, fun H9 kk nk k9 hU => ⟨rfl, ?_⟩⟩
    · rw [upd_ne (ne_of_none e8 nx), upd_ne (ne_of_none e8 ndx)]; exact e8
    have k89 : Kp [] H8 H9 := (Kp.made (M := []) nx ndx).then1 k9 nx
    have k79 := k8.trans k89
    have d9 := d7.kp0 k79
    have e9p := k79.get nin0 e7p
    have e9d := k79.get nin0 e7d
    have r9 := r7.kp0 k79
    walk_at "z"
    refine Z.tupK (fun u0 H10 nu0 k10 e10 => ?_)
    walk_at "z"
    have k710 := k79.trans k10
    have e10p := k10.get nin0 e9p
    have e10d := k10.get nin0 e9d
    have r10 := r9.kp0 k10
    have d10 := d9.kp0 k10
    have hU10 := hU.kp0 k10
    refine Z.seqJ (fun σ' H' => ∃ du : Addr, σ' = [some (.ref c), some (.ref a), some (.int (n : Int)), some (.ref p), some (.ref d), some (.ref x), some (.ref du), none, none, none, none, none, none, none, none, none, none, none] ∧ Kp [] H10 H' ∧ DueOk K kvs ((wts p7).sum + s7) p7 H' du) ?_ ?_
    · rintro σ' H11 ⟨du, rfl, k11, hdu⟩
      walk_at "z"
      refine ⟨d, kvs, rfl, .inl (k11.get nin0 e10d), fun d2 nd2 => ?_⟩
      have k12 : Kp [] H11 (upd H11 d2 (.dK kvs)) := Kp.new nd2
      have e12 : upd H11 d2 (.dK kvs) d2 = some (.dK kvs) := upd_same
      generalize upd H11 d2 (.dK kvs) = H12 at k12 e12 ⊢
      have k1012 := k11.trans k12
      walk_at "z"
      refine told_use (hU10.kp0 k1012) (r10.kp0 k1012) (by omega) e12 ho_amt (fun _ h6 => absurd h6 (by omega)) (fun H13 c13 k13 ok13 => ?_)
      have k1013 := k1012.trans k13
      walk_at "z"
      refine neTell hpl ok13 (hdu.kp0 (k12.trans k13)) ?_
      have e13p := k1013.get nin0 e10p
      have e13d := k1013.get nin0 e10d
      have r13 := r10.kp0 k1013
      have d13 := d10.kp0 k1013
      walk_at "z"
      refine Z.slL (lstL e13p) (fun p2 H14 np2 k14 e14 => ?_)
      rw [cut_takeA, refs_take] at e14
      have hpn : (p7.take n).length = n := by rw [List.length_take]; omega
      have hsub7 : ∀ x ∈ p7.take n, x ∈ p7 := fun x hx => List.mem_of_mem_take hx
      have r14 : RowsAt H14 (p7.take n) := fun x hx => (r13.kp0 k14) x (hsub7 x hx)
      have hpS' : ∀ x ∈ p7.take n, RowS x.2 := fun x hx => hpS x (hsub7 x hx)
      have hpW' : ∀ x ∈ p7.take n, RowW x.2 := fun x hx => hpW x (hsub7 x hx)
      have hnd' : KD (p7.take n) := List.Pairwise.sublist (List.take_sublist _ _) hnd7
      have e14d := k14.get nin0 e13d
      have d14 := d13.kp0 k14
      have np2a : p2 ≠ a := fun z => by obtain ⟨ns2, h2⟩ := d13; rw [← z, np2] at h2; cases h2
      generalize p7.take n = ps at e14 hpn hsub7 r14 hpS' hpW' hnd'
      have S5 : Sit5 ps (wts ps).sum := { nd := hnd', ws := hpW', tot := rfl, n1 := by omega, n5 := by omega }
      have hT := S5.T1
      walk_at "z"
      refine ⟨a, 3, rfl, d14, by decide, by decide, fun H15 s5 hs0 hs1 k15 d15 => ?_⟩
      obtain ⟨size, hsz⟩ : ∃ n : Nat, 1 + s5 = (n : Int) := ⟨(1 + s5).toNat, by omega⟩
      have e15p := k15.get (nin1 np2a) e14
      have r15 := r14.kpd k15 d14
      have e15d := k15.get (nin1 nda) e14d
      walk_at "z"
      rw [hsz]
      refine Z.lcl (refs ps) (lstL e15p) (fun D i H' => Kp [] H15 H' ∧ H' D = some (.lst ((wts (ps.take i)).map V.int))) ?_ ?_ ?_ ?_
      · intro D H6 nD k6 e6
        exact ⟨k6, e6⟩
      · rintro D i H6 nD hi ⟨k6, e6⟩
        exact lstL (k6.get nin0 e15p)
      · rintro D i v H6 nD hv ⟨k6, e6⟩
        obtain ⟨x, hx, rfl⟩ := refs_of hv
        have hi : i < ps.length := (List.getElem?_eq_some_iff.mp hx).1
        dsimp only [wipe, List.set]
        walk_at "z"
        refine ⟨rfl, ?_⟩
        walk_at "z"
        refine RowAt.w2 ((r15.kp0 k6) x (List.mem_of_getElem? hx)) ?_
        refine ⟨_, e6, Z.szl (m := 1000) (by unfold wts; rw [List.length_map, List.length_map, List.length_take]; omega), k6.mut nD rfl, ?_⟩
        rw [upd_same, List.take_add_one, hx]
        unfold wts
        rw [List.map_append, List.map_append]; rfl
      rintro D16 H16 nD16 ⟨k16, e16⟩
      rw [refs_len, List.take_length] at e16
      walk_at "z"
      refine Z.sumL (lstL e16) ?_
      have e16p := k16.get nin0 e15p
      have e16d := k16.get nin0 e15d
      have r16 := r15.kp0 k16
      walk_at "z"
      refine Z.lstK (fun R1 H17 nR1 k17 e17 => ?_)
      walk_at "z"
      refine Z.lstK (fun R2 H18 nR2 k18 e18 => ?_)
      walk_at "z"
      have k1618 := k17.trans k18
      refine Z.lenL (lstL (k1618.get nin0 e16p)) ?_
      rw [refs_len, hpn]
      walk_at "z"
      refine ⟨_, _, rfl, ?_⟩
      obtain ⟨m, hm, hmeq⟩ : ∃ m : Nat, (if (n : Int) < (size : Int) then (n : Int) else (size : Int)) = (m : Int) ∧ m = min size n := by
        refine ⟨min size n, ?_, rfl⟩
        split <;> omega
      rw [hm]
      have hm1 : 1 ≤ m := by omega
      have hm3 : m ≤ 3 := by omega
      have hmn : m ≤ n := by omega
      walk_at "z"
      refine ⟨p2, m, ps, rfl, k1618.get nin0 e16p, r16.kp0 k1618, hpS', by omega, fun H19 F L qs hqp k19 e19 SL hL => ?_⟩
      walk_at "z"
      have hAll := all_f ho_amt S5 hqp hm1 hm3 (by omega)
      have hFin := fin_o S5 kvs hm1 (by omega : m ≤ ps.length)
      have hTerm : ∀ o ∈ ordS ps m, TermD kvs (wts ps).sum ps o := fun o ho => term_D S5 ho_amt hm1 hm3 (by omega) ho
      have hOl : (ordS ps m).length ≤ 60 := by
        have h1 := ordS_len S5.nd (by omega) m hm3
        have : m = 1 ∨ m = 2 ∨ m = 3 := by omega
        rcases this with rfl | rfl | rfl
        · exact Nat.le_trans h1 (by decide)
        · exact Nat.le_trans h1 (by decide)
        · exact Nat.le_trans h1 (by decide)
      have hql : qs.length = n := by rw [hqp.length_eq, hpn]
      generalize hTt : (wts ps).sum = t at *
      have e19_1 := (k18.trans k19).get nin0 e17
      have e19_2 := k19.get nin0 e18
      have nR20 : H16 R2 = none := k17.none (by simp) nR2
      have n12 : R1 ≠ R2 := ne_of_none e17 nR2
      have k1619 := k1618.trans k19
      have hLne : L ≠ [] := fun z => by
        rw [z] at hL
        exact fam_ne (by omega) hL.symm
      have nF1 : F ≠ R1 := fun z => by
        rw [z, e19_1] at e19
        cases L with
        | nil => exact hLne rfl
        | cons o r => simp [srefs] at e19
      have nF2 : F ≠ R2 := fun z => by
        rw [z, e19_2] at e19
        cases L with
        | nil => exact hLne rfl
        | cons o r => simp [srefs] at e19
      have hoL : ∀ {i : Nat} {o : Addr × List (Addr × Row)}, L[i]? = some o → (famS m m qs)[i]? = some o.2 := fun {i o} h => by rw [← hL, List.getElem?_map, h]; rfl
      have hLl : L.length = (famS m m qs).length := by rw [← hL, List.length_map]
      have nSs : ∀ o ∈ L, o.1 ≠ R1 ∧ o.1 ≠ R2 := fun o hom => by
        have h5 := SL o hom
        have h6 : o.2.length = m := (hAll.f o.2 (by rw [← hL]; exact List.mem_map.mpr ⟨o, hom, rfl⟩)).len
        have h7 : refs o.2 ≠ [] := fun z => by
          have := congrArg List.length z
          rw [refs_len] at this
          exact absurd (show o.2.length = 0 from this) (by omega)
        constructor
        · intro z
          rw [z, e19_1] at h5
          exact h7 (by injection h5 with h5; injection h5 with h5; exact h5.symm)
        · intro z
          rw [z, e19_2] at h5
          exact h7 (by injection h5 with h5; injection h5 with h5; exact h5.symm)
      refine Z.forl (srefs L) (lstL e19) (fun i σ' H' => ∃ (y6 y11 y12 y13 y14 y15 y16 : Option V) (ts us : List Addr) (fcs gds : List (Fr × Fr)), σ' = [some (.ref c), some (.ref a), some (.int (n : Int)), some (.ref p2), some (.ref d), some (.ref x), y6, some (.int (size : Int)), some (.int t), some (.ref R1), some (.ref R2), y11, y12, y13, y14, y15, y16, none] ∧ Kp [R1, R2] H19 H' ∧ Kp [] H16 H' ∧
        H' R1 = some (.lst (ts.map V.ref)) ∧ PrsAt K H' ts fcs ∧ H' R2 = some (.lst (us.map V.ref)) ∧ PrsAt K H' us gds ∧
        fcs.map (fun p => rv p.1) = (((famS m m qs).take i).flatMap fun S => ordS S m).map (est kvs t) ∧ fcs.map (fun p => p.2) = (((famS m m qs).take i).flatMap fun S => ordS S m).map (chF t) ∧ (∀ p ∈ fcs, 1 ≤ p.1.2 ∧ FrB 100 p.1 ∧ 1 ≤ p.2.2 ∧ FrB 40 p.2) ∧
        gds.map (fun p => rv p.1) = ((famS m m qs).take i).map (dueS kvs t m) ∧ gds.map (fun p => rv p.2) = ((famS m m qs).take i).map (CS t m) ∧ (∀ p ∈ gds, Low p.1 ∧ FrB 150 p.1 ∧ Low p.2 ∧ FrB 90 p.2)) ?_ ?_ ?_ ?_
      · exact ⟨_, none, none, none, none, none, none, [], [], [], [], rfl, Kp.refl _, k1619, e19_1, .nil, e19_2, .nil, rfl, rfl, (fun p hp => by cases hp), rfl, rfl, fun p hp => by cases hp⟩
      · rintro i σ' H' _ ⟨y6, y11, y12, y13, y14, y15, y16, ts, us, fcs, gds, rfl, kk, _⟩
        exact lstL (kk.get (nin2 nF1 nF2) e19)
      · rintro i v σ' H20 hv ⟨y6, y11, y12, y13, y14, y15, y16, ts, us, fcs, gds, rfl, kk20, k20, e20_1, P20, e20_2, G20, hfm, hfc, hfB, hgm, hgc, hgB⟩
        obtain ⟨S, hoS, rfl⟩ := srefs_of hv
        have hSom := List.mem_of_getElem? hoS
        have hSf := hoL hoS
        have hSm := List.mem_of_getElem? hSf
        have SF := hAll.f S.2 hSm
        have e20S := kk20.get (nin2 (nSs S hSom).1 (nSs S hSom).2) (SL S hSom)
        have hSl : S.2.length = m := SF.len
        have hSS : ∀ y ∈ S.2, RowS y.2 := fun y hy => hpS' y (SF.sub y hy)
        have hSW : ∀ y ∈ S.2, RowW y.2 := fun y hy => hpW' y (SF.sub y hy)
        have hO6 := ord_len SF.kd SF.len hm3
        have hOm := mem_ordS SF.kd m
        have hfl60 : fcs.length ≤ 60 := by
          have h1 := congrArg List.length hfm
          rw [List.length_map, List.length_map] at h1
          have h2 := flat_le (f := fun S => ordS S m) (l := famS m m qs) i
          have h3 := (sets_perm S5.nd hqp m).length_eq
          omega
        walk_at "z"
        refine Z.tupK (fun C0 H21 nC0 k21 e21 => ?_)
        walk_at "z"
        refine Z.tupK (fun W0 H22 nW0 k22 e22 => ?_)
        walk_at "z"
        have k2022 := k21.trans k22
        refine Z.lenL (lstL (k2022.get nin0 e20S)) ?_
        rw [refs_len, hSl]
        walk_at "z"
        refine ⟨S.1, m, S.2, rfl, k2022.get nin0 e20S, fun y hy => (r16.kp0 (k20.trans k2022)) y (SF.sub y hy), hSS, SF.kd, by omega, hm3, fun H23 F1 L1 k23 e23 SL1 hL1 => ?_⟩
        have k2023 := k2022.trans k23
        have k1623 := k20.trans k2023
        have e23_1 := k2023.get nin0 e20_1
        have P23 := P20.kp0 k2023
        have hoL1 : ∀ {j : Nat} {o : Addr × List (Addr × Row)}, L1[j]? = some o → (ordS S.2 m)[j]? = some o.2 := fun {j o} h => by rw [← hL1, List.getElem?_map, h]; rfl
        have hL1l : L1.length = (ordS S.2 m).length := by rw [← hL1, List.length_map]
        have nL1 : ∀ o ∈ L1, o.1 ≠ R1 := fun o hom => by
          have h5 := SL1 o hom
          intro z
          rw [z, e23_1] at h5
          have h6 : o.2.length = m := ((hOm o.2).mp (by rw [← hL1]; exact List.mem_map.mpr ⟨o, hom, rfl⟩)).1
          have h8 : ts.map V.ref = refs o.2 := by injection h5 with h5; injection h5
          have h9 : ts.map V.ref = o.2.map (fun z => V.ref z.1) := h8
          have hmem : ∃ w ∈ o.2, True := by
            cases ho2 : o.2 with
            | nil => rw [ho2] at h6; simp at h6; omega
            | cons w r => exact ⟨w, by simp, trivial⟩
          obtain ⟨w, hw, _⟩ := hmem
          have hr := (r16.kp0 k1623) w (SF.sub w (((hOm o.2).mp (by rw [← hL1]; exact List.mem_map.mpr ⟨o, hom, rfl⟩)).2.1 w hw))
          have hin : V.ref w.1 ∈ ts.map V.ref := by rw [h9]; exact List.mem_map.mpr ⟨w, hw, rfl⟩
          obtain ⟨jj, hjj⟩ := List.getElem?_of_mem hin
          obtain ⟨tt, pp, e1, _, ee, dd, h10, _⟩ := P23.get hjj
          have e2 : w.1 = tt := by injection e1
          have h11 : H23 w.1 = some (.tup _) := hr
          rw [e2, h10] at h11
          have h12 := congrArg (fun u => match u with | some (HO.tup xs) => xs.length | _ => 0) h11
          have h13 : (2 : Nat) = 4 := h12
          omega
        have nF1R : F1 ≠ R1 := fun z => by
          rw [z, e23_1] at e23
          have h8 : ts.map V.ref = srefs L1 := by injection e23 with h5; injection h5
          cases hL1c : L1 with
          | nil => rw [hL1c] at hL1; have : S.2 ∈ ordS S.2 m := (hOm S.2).mpr ⟨hSl, fun y hy => hy, SF.kd⟩; rw [← hL1] at this; cases this
          | cons o r =>
            have hom : o ∈ L1 := by rw [hL1c]; simp
            have h5 := SL1 o hom
            have hin : V.ref o.1 ∈ ts.map V.ref := by rw [h8]; exact List.mem_map.mpr ⟨o, hom, rfl⟩
            obtain ⟨jj, hjj⟩ := List.getElem?_of_mem hin
            obtain ⟨tt, pp, e1, _, ee, dd, h10, _⟩ := P23.get hjj
            have e2 : o.1 = tt := by injection e1
            rw [e2, h10] at h5
            cases h5
        walk_at "z"
        refine Z.forl (srefs L1) (lstL e23) (fun j σ' H' => ∃ (y14 y15 y16 : Option V) (ts1 : List Addr) (nw : List (Fr × Fr)) (cc ff : Addr), σ' = [some (.ref c), some (.ref a), some (.int (n : Int)), some (.ref p2), some (.ref d), some (.ref x), y6, some (.int (size : Int)), some (.int t), some (.ref R1), some (.ref R2), some (.ref S.1), some (.ref cc), some (.ref ff), y14, y15, y16, none] ∧ Kp [R1] H23 H' ∧ Kp [] H16 H' ∧
          H' R1 = some (.lst (ts1.map V.ref)) ∧ PrsAt K H' ts1 (fcs ++ nw) ∧ nw.map (fun p => rv p.1) = ((ordS S.2 m).take j).map (est kvs t) ∧ nw.map (fun p => p.2) = ((ordS S.2 m).take j).map (chF t) ∧ (∀ p ∈ nw, 1 ≤ p.1.2 ∧ FrB 100 p.1 ∧ 1 ≤ p.2.2 ∧ FrB 40 p.2) ∧
          FrAt K H' cc (fsum (0, 1) (nw.map fun p => p.2)) ∧ FrAt K H' ff (fsum (0, 1) (nw.map fun p => ftimes p.2 p.1))) ?_ ?_ ?_ ?_
        · exact ⟨_, _, _, ts, [], C0, W0, rfl, Kp.refl _, k1623, e23_1, by rw [List.append_nil]; exact P23, rfl, rfl, (fun p hp => by cases hp), (show FrAt K H21 C0 (0, 1) from tupT e21).kp0 (k22.trans k23), (show FrAt K H22 W0 (0, 1) from tupT e22).kp0 k23⟩
        · rintro j σ' H' _ ⟨y14, y15, y16, ts1, nw, cc, ff, rfl, kk, _⟩
          exact lstL (kk.get (nin1 nF1R) e23)
        · rintro j v σ' H24 hv ⟨y14, y15, y16, ts1, nw, cc, ff, rfl, kk24, k24, e24_1, P24, hnm, hnc, hnB, e24c, e24w⟩
          obtain ⟨o, hoi, rfl⟩ := srefs_of hv
          have hom := List.mem_of_getElem? hoi
          have hoO := hoL1 hoi
          have hoM := List.mem_of_getElem? hoO
          obtain ⟨hol, hos, hok⟩ := (hOm o.2).mp hoM
          have hj : j < (ordS S.2 m).length := (List.getElem?_eq_some_iff.mp hoO).1
          have hoW : ∀ y ∈ o.2, RowW y.2 := fun y hy => hSW y (hos y hy)
          have e24o := kk24.get (nin1 (nL1 o hom)) (SL1 o hom)
          have r24o : RowsAt H24 o.2 := fun y hy => (r16.kp0 k24) y (SF.sub y (hos y hy))
          have hnl : nw.length ≤ 6 := by
            have := congrArg List.length hnm
            rw [List.length_map, List.length_map, List.length_take] at this
            omega
          have hsf := sums_of hnm hnc hnB hnl
          walk_at "z"
          refine ⟨o.1, t, o.2, rfl, e24o, r24o, hoW, by omega, by omega, by omega, fun H25 c25 k25 e25 => ?_⟩
          have hcL := chF_low t _ o.2 rfl
          have hcB : FrB 40 (chF t o.2) := (chF_B (T := t) (by omega) _ o.2 rfl hoW).mono (by omega)
          walk_at "z"
          intro x2 dx2 nx2 ndx2 nxd2
          refine ⟨x2, o.1, dx2, (size : Int), t, o.2, rfl, upd_same, ?_, fun H26 kk2 nk2 k26 hU2 => ⟨rfl, ?_⟩⟩
          · rw [upd_ne (ne_of_none (k25.get nin0 e24o) nx2), upd_ne (ne_of_none (k25.get nin0 e24o) ndx2)]; exact k25.get nin0 e24o
          have k2526 : Kp [] H25 H26 := (Kp.made (M := []) nx2 ndx2).then1 k26 nx2
          have k2426 := k25.trans k2526
          walk_at "z"
          refine ⟨d, kvs, rfl, .inl ((k24.trans k2426).get nin0 e16d), fun d2 nd2 => ?_⟩
          have k27 : Kp [] H26 (upd H26 d2 (.dK kvs)) := Kp.new nd2
          have e27 : upd H26 d2 (.dK kvs) d2 = some (.dK kvs) := upd_same
          generalize upd H26 d2 (.dK kvs) = H27 at k27 e27 ⊢
          have k2427 := k2426.trans k27
          walk_at "z"
          refine ⟨x2, kk2, d2, (size : Int), t, o.2, kvs, rfl, hU2.kp0 k27, r24o.kp0 k2427, by omega, by omega, hoW, by omega, by omega, trivial, e27, ho_amt, fun H28 t2 e ef av k28 A28 => ?_⟩
          have k2428 := k2427.trans k28
          walk_at "z"
          refine Z.ixT (tupT A28.at_) (show atI [V.ref e, av] 0 = some (.ref e) from rfl) ?_
          walk_at "z"
          refine ⟨cc, c25, _, chF t o.2, rfl, e24c.kp0 k2428, e25.kp0 ((k2526.trans k27).trans k28), hsf.cL.1, hcL.1, ⟨300, 40, hsf.cB, hcB, by decide⟩, fun H29 c29 n29 k29 e29 => ?_⟩
          have k2429 := k2428.trans k29
          have eef := A28.est.kp0 k29
          have hefL := A28.low
          have hefB := A28.B
          walk_at "z"
          refine ⟨c25, e, chF t o.2, ef, rfl, e25.kp0 (((k2526.trans k27).trans k28).trans k29), eef, hcL.1, hefL.1, ⟨40, 100, hcB, hefB, by decide⟩, fun H30 c30 n30 k30 e30 => ?_⟩
          walk_at "z"
          have tL : Low (ftimes (chF t o.2) ef) := lo_low (Int.mul_ne_zero hcL.ne hefL.ne)
          have tB : FrB 140 (ftimes (chF t o.2) ef) := ftimes_B (n := 40) (m := 100) hcB hefB hcL.ne hefL.ne
          refine ⟨ff, c30, _, _, rfl, e24w.kp0 (k2429.trans k30), e30, hsf.wL.1, tL.1, ⟨900, 140, hsf.wB, tB, by decide⟩, fun H31 c31 n31 k31 e31 => ?_⟩
          have k2431 := (k2429.trans k30).trans k31
          have e31_1 := k2431.get nin0 e24_1
          walk_at "z"
          refine ⟨Z.tyL e31_1, ?_⟩
          walk_at "z"
          refine Z.tupK (fun u32 H32 nu32 k32 e32 => ?_)
          have k2432 := k2431.trans k32
          have e32_1 := k32.get nin0 e31_1
          walk_at "z"
          refine Z.app e32_1 (Z.szl (m := 1000) (by rw [List.length_map, P24.len, List.length_append]; omega)) ?_
          have kp32 : Kp [R1] H32 (upd H32 R1 (.lst (ts1.map V.ref ++ [.ref u32]))) := Kp.put (by simp)
          walk_at "z"
          refine ⟨_, _, _, ts1 ++ [u32], nw ++ [(ef, chF t o.2)], c29, c31, rfl, (kk24.trans (k2432.sub (by simp))).trans kp32, (k24.trans k2432).mut nR1 rfl, by rw [upd_same, List.map_append]; rfl, ?_, ?_, ?_, mem_append_one hnB ⟨hefL.1, hefB, hcL.1, hcB⟩, ?_, ?_⟩
          · rw [← List.append_assoc]
            refine ((P24.kp0 k2432).snoc (p := (ef, chF t o.2)) ⟨e, c25, e32, eef.kp0 ((k30.trans k31).trans k32), ?_⟩).kpl kp32 e32_1
            exact e25.kp0 ((((((k2526.trans k27).trans k28).trans k29).trans k30).trans k31).trans k32)
          · rw [List.map_append, hnm, List.take_add_one, hoO, List.map_append]
            congr 1
            show [rv ef] = [est kvs t o.2]
            rw [A28.rv]
            rfl
          · rw [List.map_append, hnc, List.take_add_one, hoO, List.map_append]; rfl
          · rw [List.map_append]
            show FrAt K _ c29 (fsum (0, 1) (_ ++ [chF t o.2]))
            rw [fsum_snoc]
            exact (e29.kp0 ((k30.trans k31).trans k32)).kpl kp32 e32_1
          · rw [List.map_append]
            show FrAt K _ c31 (fsum (0, 1) (_ ++ [ftimes (chF t o.2) ef]))
            rw [fsum_snoc]
            exact (e31.kp0 k32).kpl kp32 e32_1
        · rintro σ' H24 ⟨y14, y15, y16, ts1, nw, cc, ff, rfl, kk24, k24, e24_1, P24, hnm, hnc, hnB, e24c, e24w⟩
          rw [srefs_len, hL1l, List.take_length] at hnm hnc
          have hnl : nw.length ≤ 6 := by
            have := congrArg List.length hnm
            rw [List.length_map, List.length_map] at this
            omega
          have hsf := sums_of hnm hnc hnB hnl
          generalize hcf : fsum (0, 1) (nw.map fun p => p.2) = cf at e24c hsf
          generalize hwf : fsum (0, 1) (nw.map fun p => ftimes p.2 p.1) = wf at e24w hsf
          have hcv : rv cf = CS t m S.2 := hsf.cv
          have hwv : rv wf = WS kvs t m S.2 := hsf.wv
          have hc1 : 1 ≤ cf.1 := by
            have h1 := SF.pos
            rw [← hcv] at h1
            have h2 : (0, 1).1 * cf.2 < cf.1 * (0, 1).2 := (rv_lt (f := (0, 1)) (by decide) hsf.cL.1).mpr (by rw [rv_zero]; exact h1)
            have h3 : (0 : Int) * cf.2 < cf.1 * 1 := h2
            omega
          have hw2 := hsf.wL.1
          have hq1 : 1 ≤ wf.2 * cf.1 := Int.mul_pos (by omega) (by omega)
          have hqB : (wf.2 * cf.1).natAbs < 2 ^ 1900 := up_B (mul_B hsf.wB.2 hsf.cB.1) (by decide)
          walk_at "z"
          refine Z.ixT e24w (fr0 wf) ?_
          walk_at "z"
          refine Z.ixT e24c (fr1 cf) ?_
          walk_at "z"
          refine Z.iC (mul_ok (hsf.wB.mono (show 900 ≤ 1900 by decide)).1 (hsf.cB.mono (show 300 ≤ 1900 by decide)).2) ?_
          walk_at "z"
          refine Z.ixT e24w (fr1 wf) ?_
          walk_at "z"
          refine Z.ixT e24c (fr0 cf) ?_
          walk_at "z"
          refine Z.iC (mul_ok (hsf.wB.mono (show 900 ≤ 1900 by decide)).2 (hsf.cB.mono (show 300 ≤ 1900 by decide)).1) ?_
          walk_at "z"
          refine ⟨_, _, rfl, hq1, hqB, fun H25 b25 n25 k25 e25 => ?_⟩
          have hne : wf.2 * cf.1 ≠ 0 := by omega
          have hdL : Low (lo (wf.1 * cf.2) (wf.2 * cf.1)) := lo_low hne
          have hdv : rv (lo (wf.1 * cf.2) (wf.2 * cf.1)) = dueS kvs t m S.2 := by
            have h1 : rv (fover wf cf) = rv wf / rv cf := rv_fover (by omega) hsf.cL.ne (by omega)
            rw [hwv, hcv] at h1
            exact h1
          generalize lo (wf.1 * cf.2) (wf.2 * cf.1) = gd at e25 hdL hdv
          have k1625 := k24.trans k25
          have kk25 : Kp [R1] H23 H25 := kk24.trans (k25.sub (by simp))
          have e25S : H25 S.1 = some (.lst (refs S.2)) := kk25.get (nin1 (nSs S hSom).1) (k2023.get nin0 e20S)
          walk_at "z"
          refine Z.lenL (lstL e25S) ?_
          rw [refs_len, hSl]
          walk_at "z"
          refine ⟨S.1, m, S.2, rfl, e25S, fun y hy => (r16.kp0 k1625) y (SF.sub y hy), hSS, SF.kd, by omega, hm3, fun H26 F2 L2 k26 e26 SL2 hL2 => ?_⟩
          walk_at "z"
          refine Z.slL (lstL e26) (fun g27 H27 ng27 k27 e27 => ?_)
          rw [show (some (3 : Int)) = some ((3 : Nat) : Int) from rfl, cut_takeA, srefs_take] at e27
          have k1627 := (k1625.trans k26).trans k27
          walk_at "z"
          refine Z.forl (srefs (L2.take 3)) (lstL e27) (fun j σ' H' => ∃ y14 : Option V, σ' = [some (.ref c), some (.ref a), some (.int (n : Int)), some (.ref p2), some (.ref d), some (.ref x), some (.ref b25), some (.int (size : Int)), some (.int t), some (.ref R1), some (.ref R2), some (.ref S.1), some (.ref cc), some (.ref ff), y14, y15, y16, none] ∧ Kp [] H27 H') ?_ ?_ ?_ ?_
          · exact ⟨_, rfl, Kp.refl _⟩
          · rintro j σ' H' _ ⟨y14', rfl, kk⟩
            exact lstL (kk.get nin0 e27)
          · rintro j v σ' H28 hv ⟨y14', rfl, k28⟩
            obtain ⟨o, hoi, rfl⟩ := srefs_of hv
            have hom : o ∈ L2 := List.mem_of_mem_take (List.mem_of_getElem? hoi)
            have hoM : o.2 ∈ ordS S.2 m := by rw [← hL2]; exact List.mem_map.mpr ⟨o, hom, rfl⟩
            obtain ⟨hol, hos, hok⟩ := (hOm o.2).mp hoM
            have hoW : ∀ y ∈ o.2, RowW y.2 := fun y hy => hSW y (hos y hy)
            have k1628 := k1627.trans k28
            have e28o := (k27.trans k28).get nin0 (SL2 o hom)
            walk_at "z"
            refine Z.listL (lstL e28o) (fun g29 H29 ng29 k29 e29 => ?_)
            walk_at "z"
            intro x2 dx2 nx2 ndx2 nxd2
            refine ⟨x2, g29, dx2, (size : Int), t, o.2, rfl, upd_same, ?_, fun H30 kk2 nk2 k30 hU2 => ⟨rfl, ?_⟩⟩
            · rw [upd_ne (ne_of_none e29 nx2), upd_ne (ne_of_none e29 ndx2)]; exact e29
            have k2930 : Kp [] H29 H30 := (Kp.made (M := []) nx2 ndx2).then1 k30 nx2
            have k2830 := k29.trans k2930
            walk_at "z"
            refine ⟨d, kvs, rfl, .inl ((k1628.trans k2830).get nin0 e16d), fun d2 nd2 => ?_⟩
            have k31 : Kp [] H30 (upd H30 d2 (.dK kvs)) := Kp.new nd2
            have e31 : upd H30 d2 (.dK kvs) d2 = some (.dK kvs) := upd_same
            generalize upd H30 d2 (.dK kvs) = H31 at k31 e31 ⊢
            have k2831 := k2830.trans k31
            walk_at "z"
            refine told_use (hU2.kp0 k31) (fun y hy => (r16.kp0 (k1628.trans k2831)) y (SF.sub y (hos y hy))) (by omega) e31 ho_amt (fun _ _ => ⟨by omega, by omega, hoW, by omega, by omega, fun u hu => ?_⟩) (fun H32 c32 k32 ok32 => ?_)
            · have hup := prm3_perm (by omega) u hu
              exact posL_of S5 (fun y hy => SF.sub y (hos y (hup.mem_iff.mp hy))) (hok.perm hup) (by rw [hup.length_eq]; omega)
            · walk_at "z"
              obtain ⟨g, hg1, hgL, hgv⟩ := tell_due SF hm3 hoM ok32
              have hgd : g = gd := low_eq hgL hdL (by rw [hgv, hdv])
              subst hgd
              refine neFF hg1 (e25.kp0 ((((k26.trans k27).trans k28).trans k2831).trans k32)) ?_
              walk_at "z"
              exact ⟨_, rfl, (k28.trans k2831).trans k32⟩
          · rintro σ' H28 ⟨y14', rfl, k28⟩
            have k2528 := (k26.trans k27).trans k28
            have kk28 : Kp [R1] H23 H28 := kk25.trans (k2528.sub (by simp))
            have e28_2 : H28 R2 = some (.lst (us.map V.ref)) := kk28.get (nin1 n12.symm) (k2023.get nin0 e20_2)
            have e28_1 : H28 R1 = some (.lst (ts1.map V.ref)) := (k25.trans k2528).get nin0 e24_1
            walk_at "z"
            refine ⟨Z.tyL e28_2, ?_⟩
            walk_at "z"
            refine Z.tupK (fun u32 H32 nu32 k32 e32 => ?_)
            have e32_2 := k32.get nin0 e28_2
            walk_at "z"
            have hgl : gds.length ≤ 10 := by
              have h1 := congrArg List.length hgm
              rw [List.length_map, List.length_map, List.length_take] at h1
              have := hAll.n10
              omega
            refine Z.app e32_2 (Z.szl (m := 1000) (by rw [List.length_map, G20.len]; omega)) ?_
            have kp32 : Kp [R2] H32 (upd H32 R2 (.lst (us.map V.ref ++ [.ref u32]))) := Kp.put (by simp)
            have G23 : PrsAt K H23 us gds := G20.kp0 k2023
            have G28 : PrsAt K H28 us gds := (G23.kpl kk24 e23_1).kp0 (k25.trans k2528)
            walk_at "z"
            have k2432 := (k25.trans k2528).trans k32
            refine ⟨_, _, _, _, _, _, _, ts1, us ++ [u32], fcs ++ nw, gds ++ [(gd, cf)], rfl, (((kk20.trans (k2023.sub (by simp))).trans (kk24.sub (by simp))).trans (k2432.sub (by simp))).trans (kp32.sub (by simp)), (k24.trans k2432).mut nR20 rfl, (upd_ne n12).trans (k32.get nin0 e28_1), ?_, by rw [upd_same, List.map_append]; rfl, ?_, ?_, ?_, ?_, ?_, ?_, ?_⟩
            · exact (P24.kp0 k2432).kpl kp32 e32_2
            · exact ((G28.kp0 k32).snoc (p := (gd, cf)) ⟨b25, cc, e32, e25.kp0 (k2528.trans k32), e24c.kp0 k2432⟩).kpl kp32 e32_2
            · rw [flat_take _ hSf, List.map_append, List.map_append, hfm, hnm]
            · rw [flat_take _ hSf, List.map_append, List.map_append, hfc, hnc]
            · intro p hp
              rcases List.mem_append.mp hp with hp | hp
              · exact hfB p hp
              · exact hnB p hp
            · rw [List.map_append, hgm, take_nd hSf, List.map_append]
              congr 1
              show [rv gd] = [dueS kvs t m S.2]
              rw [hdv]
            · rw [List.map_append, hgc, take_nd hSf, List.map_append]
              congr 1
              show [rv cf] = [CS t m S.2]
              rw [hcv]
            · exact mem_append_one hgB ⟨hdL, due_fr hAll hSm hdL hdv, hsf.cL, ch_fr hAll hSm (by have := (uC_B S5 SF.sub).1; exact this) hsf.cL hcv⟩
      · rintro σ' H20 ⟨y6, y11, y12, y13, y14, y15, y16, ts, us, fcs, gds, rfl, kk20, k20, e20_1, P20, e20_2, G20, hfm, hfc, hfB, hgm, hgc, hgB⟩
        rw [srefs_len, hLl, List.take_length] at hfm hfc hgm hgc
        have hp := sets_perm S5.nd hqp m
        have hMabs : (amts kvs ps).sum.natAbs ≤ 60 := by
          have h1 := sum_absI (c := 10) (l := amts kvs ps) (amts_B ho_amt)
          have h2 : (amts kvs ps).length = n := by unfold amts; rw [List.length_map]; exact hpn
          rw [h2] at h1
          omega
        have hOl2 : ((famS m m qs).flatMap fun S => ordS S m).length ≤ 60 := by rw [hp.length_eq]; exact hOl
        have hTerm2 : ∀ o ∈ (famS m m qs).flatMap fun S => ordS S m, TermD kvs t ps o := fun o ho => hTerm o (hp.mem_iff.mp ho)
        have hmean1 : ex t ((famS m m qs).flatMap fun S => ordS S m) (fun o => meanR (numsR kvs t o)) = (((amts kvs ps).sum : Int) : Rat) := by rw [ex_perm hp]; exact hFin.mean
        have hsum2 := hAll.sT
        rw [← ex_perm hp] at hsum2
        generalize (famS m m qs).flatMap (fun S => ordS S m) = O at hfm hfc hp hOl2 hTerm2 hmean1 hsum2
        have hfl : fcs.length ≤ 60 := by
          have h1 := congrArg List.length hfm
          rw [List.length_map, List.length_map] at h1
          omega
        have hgl : gds.length ≤ 60 := by
          have h1 := congrArg List.length hgm
          rw [List.length_map, List.length_map] at h1
          have := hAll.n10
          omega
        have hz := zip_map (fun r c => r * rv c) hfm hfc
        have hzs := zip_map (fun r c => rv c * ((r - (((amts kvs ps).sum : Int) : Rat)) * (r - (((amts kvs ps).sum : Int) : Rat)))) hfm hfc
        have hsprd : ∀ j, spreadP (((amts kvs ps).sum : Int) : Rat) (fcs.take j) = ex t (O.take j) fun o => (est kvs t o - (((amts kvs ps).sum : Int) : Rat)) * (est kvs t o - (((amts kvs ps).sum : Int) : Rat)) := fun j => by
          unfold spreadP ex
          rw [List.map_take, hzs, List.map_take]
          congr 2
          exact List.map_congr_left fun o _ => Rat.mul_comm _ _
        have hpre1 : ∀ j, FrB 900 (fsum (0, 1) ((fcs.map fun p => ftimes p.1 p.2).take j)) := fun j => by
          have hs := rv_fsum (fs := (fcs.map fun p => ftimes p.1 p.2).take j) low_zero fun f hf => by
            obtain ⟨p', hp', rfl⟩ := List.mem_map.mp (List.mem_of_mem_take hf)
            have h1 := hfB p' hp'
            exact (lo_low (Int.mul_ne_zero (by omega) (by omega))).ne
          refine pre_B S5 hOl2 (f := fun o => meanR (numsR kvs t o)) (fun o ho => (hTerm2 o ho).est) j hs.2 ?_
          rw [hs.1, rv_zero]
          unfold ex
          have e1 : ((fcs.map fun p => ftimes p.1 p.2).take j).map rv = (O.take j).map fun o => meanR (numsR kvs t o) * ch t o := by
            rw [List.map_take, List.map_map, List.map_take]
            congr 1
            rw [← show (fcs.map fun p => rv p.1 * rv p.2) = O.map fun o => meanR (numsR kvs t o) * ch t o from hz]
            refine List.map_congr_left fun p' hp' => ?_
            have h1 := hfB p' hp'
            simp only [Function.comp_apply]
            rw [rv_ftimes (by omega) (by omega)]
          rw [e1]
          grind
        have hspr1 : ∀ j g, Low g → rv g = spreadP (((amts kvs ps).sum : Int) : Rat) (fcs.take j) → FrB 1480 g := fun j g hgL hg => by
          refine (pre_B S5 hOl2 (f := fun o => (meanR (numsR kvs t o) - (((amts kvs ps).sum : Int) : Rat)) * (meanR (numsR kvs t o) - (((amts kvs ps).sum : Int) : Rat))) (fun o ho => by rw [Rat.mul_comm]; exact (hTerm2 o ho).sp) j hgL ?_).mono (by decide)
          rw [hg, hsprd]
          rfl
        have hmn1 : (fcs.map fun p => rv p.1 * rv p.2).sum = (((amts kvs ps).sum : Int) : Rat) := by
          rw [← hmean1]
          unfold ex
          rw [show (fcs.map fun p => rv p.1 * rv p.2) = O.map fun o => meanR (numsR kvs t o) * ch t o from hz]
        have hB1 : ∀ p ∈ fcs, 1 ≤ p.1.2 ∧ FrB 150 p.1 ∧ 1 ≤ p.2.2 ∧ FrB 90 p.2 := fun p hp => by
          obtain ⟨b1, b2, b3, b4⟩ := hfB p hp
          exact ⟨b1, b2.mono (by decide), b3, b4.mono (by decide)⟩
        have hw1 : gds.map (fun p => rv p.1 * rv p.2) = (famS m m qs).map (WS kvs t m) := by
          rw [zip2 (fun a b => a * b) hgm hgc]
          exact List.map_congr_left fun S hS => ((hAll.f S hS).wc).symm
        have hw2 : gds.map (fun p => rv p.2 * ((rv p.1 - (((amts kvs ps).sum : Int) : Rat)) * (rv p.1 - (((amts kvs ps).sum : Int) : Rat)))) = (famS m m qs).map (trmS kvs t (((amts kvs ps).sum : Int) : Rat) m) :=
          zip2 (fun a b => b * ((a - (((amts kvs ps).sum : Int) : Rat)) * (a - (((amts kvs ps).sum : Int) : Rat)))) hgm hgc
        have hB2 : ∀ p ∈ gds, 1 ≤ p.1.2 ∧ FrB 150 p.1 ∧ 1 ≤ p.2.2 ∧ FrB 90 p.2 := fun p hp => by
          obtain ⟨b1, b2, b3, b4⟩ := hgB p hp
          exact ⟨b1.1, b2, b3.1, b4⟩
        have hpre2 : ∀ j, FrB 900 (fsum (0, 1) ((gds.map fun p => ftimes p.1 p.2).take j)) := fun j => by
          have hs := rv_fsum (fs := (gds.map fun p => ftimes p.1 p.2).take j) low_zero fun f hf => by
            obtain ⟨p', hp', rfl⟩ := List.mem_map.mp (List.mem_of_mem_take hf)
            have h1 := hB2 p' hp'
            exact (lo_low (Int.mul_ne_zero (by omega) (by omega))).ne
          refine part_W S5 hAll j hs.2 ?_
          rw [hs.1, rv_zero]
          have e1 : ((gds.map fun p => ftimes p.1 p.2).take j).map rv = ((famS m m qs).take j).map (WS kvs t m) := by
            rw [List.map_take, List.map_map, List.map_take]
            congr 1
            rw [← hw1]
            refine List.map_congr_left fun p' hp' => ?_
            have h1 := hB2 p' hp'
            simp only [Function.comp_apply]
            rw [rv_ftimes (by omega) (by omega)]
          rw [e1]
          grind
        have hspd2 : ∀ j, spreadP (((amts kvs ps).sum : Int) : Rat) (gds.take j) = (((famS m m qs).take j).map (trmS kvs t (((amts kvs ps).sum : Int) : Rat) m)).sum := fun j => by
          unfold spreadP
          rw [List.map_take, hw2, List.map_take]
        have hspr2 : ∀ j g, Low g → rv g = spreadP (((amts kvs ps).sum : Int) : Rat) (gds.take j) → FrB 1480 g := fun j g hgL hg => part_t hMabs S5 hAll j hgL (by rw [hg, hspd2])
        have hmn2 : (gds.map fun p => rv p.1 * rv p.2).sum = (((amts kvs ps).sum : Int) : Rat) := by rw [hw1]; exact hAll.sW
        walk_at "z"
        refine ⟨R2, us, gds, (amts kvs ps).sum, rfl, e20_2, G20, hB2, hgl, hMabs, hpre2, hspr2, hmn2, fun H21 t21 m21 s21 g21 k21 et21 em21 es21 gL21 gv21 => ?_⟩
        walk_at "z"
        refine Z.ixT (tupT et21) (show atI [V.ref m21, V.ref s21] 0 = some (.ref m21) from rfl) ?_
        walk_at "z"
        refine ⟨p2, d, ps, kvs, rfl, (k20.trans k21).get nin0 e16p, r16.kp0 (k20.trans k21), by omega, (k20.trans k21).get nin0 e16d, ho_amt, fun H22 k22 => ?_⟩
        walk_at "z"
        refine Z.tupK (fun u23 H23 nu23 k23 e23 => ?_)
        walk_at "z"
        have k2023 := (k21.trans k22).trans k23
        refine neFF (em21.kp0 (k22.trans k23)) (tupT e23) ?_
        walk_at "z"
        refine ⟨R1, ts, fcs, (amts kvs ps).sum, rfl, k2023.get nin0 e20_1, P20.kp0 k2023, hB1, hfl, hMabs, hpre1, hspr1, hmn1, fun H24 t24 m24 s24 g24 k24 et24 em24 es24 gL24 gv24 => ?_⟩
        walk_at "z"
        refine Z.ixT (tupT et24) (show atI [V.ref m24, V.ref s24] 1 = some (.ref s24) from rfl) ?_
        walk_at "z"
        have k2024 := k2023.trans k24
        refine ⟨R2, us, gds, (amts kvs ps).sum, rfl, k2024.get nin0 e20_2, G20.kp0 k2024, hB2, hgl, hMabs, hpre2, hspr2, hmn2, fun H25 t25 m25 s25 g25 k25 et25 em25 es25 gL25 gv25 => ?_⟩
        walk_at "z"
        refine Z.ixT (tupT et25) (show atI [V.ref m25, V.ref s25] 1 = some (.ref s25) from rfl) ?_
        walk_at "z"
        have b24 := hspr1 fcs.length g24 gL24 (by rw [List.take_length]; exact gv24)
        have b25 := hspr2 gds.length g25 gL25 (by rw [List.take_length]; exact gv25)
        refine ⟨s24, s25, g24, g25, rfl, es24.kp0 k25, es25, b24.mono (by decide), b25.mono (by decide), ?_⟩
        have hle : rv g25 ≤ rv g24 := by
          have h1 := hspd2 gds.length
          rw [List.take_length] at h1
          have h2 := hsprd fcs.length
          rw [List.take_length, List.take_of_length_le (by have h3 := congrArg List.length hfm; rw [List.length_map, List.length_map] at h3; omega)] at h2
          rw [gv24, gv25, h1, h2]
          have h4 := congrArg List.length hgm
          rw [List.length_map, List.length_map] at h4
          rw [h4, List.take_length]
          exact hsum2
        have hfless : fless g24 g25 = false := by
          rw [fless_iff gL24.1 gL25.1, decide_eq_false_iff_not]
          exact Rat.not_lt.mpr hle
        rw [hfless]
        walk_at "z"
        exact q H25
    · intro N jn
      walk_at "z"
      obtain ⟨⟨dx9, hx9⟩, hk9⟩ := id hU10
      refine ⟨x, _, dx9, _, _, rfl, hx9, T.cl_Weighted, T.na_Weighted_total, wf_total 7 _ kk, ?_⟩
      walk_at "z"
      refine Z.lcl (refs p7) (lstL e10p) (fun D i H' => Kp [] H10 H' ∧ H' D = some (.lst ((wts (p7.take i)).map V.int))) ?_ ?_ ?_ ?_
      · intro D H6 nD k6 e6
        exact ⟨k6, e6⟩
      · rintro D i H6 nD hi ⟨k6, e6⟩
        exact lstL (k6.get nin0 e10p)
      · rintro D i v H6 nD hv ⟨k6, e6⟩
        obtain ⟨x, hx, rfl⟩ := refs_of hv
        have hi : i < p7.length := (List.getElem?_eq_some_iff.mp hx).1
        dsimp only [wipe, List.set]
        walk_at "z"
        refine ⟨rfl, ?_⟩
        walk_at "z"
        refine RowAt.w2 ((r10.kp0 k6) x (List.mem_of_getElem? hx)) ?_
        refine ⟨_, e6, Z.szl (m := 1000) (by unfold wts; rw [List.length_map, List.length_map, List.length_take]; omega), k6.mut nD rfl, ?_⟩
        rw [upd_same, List.take_add_one, hx]
        unfold wts
        rw [List.map_append, List.map_append]; rfl
      rintro D11 H11 nD11 ⟨k11, e11⟩
      rw [refs_len, List.take_length] at e11
      walk_at "z"
      refine Z.sumL (lstL e11) ?_
      walk_at "z"
      refine Z.ite (fun h1 => ?_) (fun h1 => ?_)
      · walk_at "z"
        refine ⟨p, d, p7, kvs, rfl, k11.get nin0 e10p, r10.kp0 k11, by omega, k11.get nin0 e10d, ho_amt, fun H12 k12 => ?_⟩
        walk_at "z"
        refine Z.tupK (fun du H13 ndu k13 e13 => ?_)
        walk_at "z"
        exact jn _ _ ⟨du, rfl, (k11.trans k12).trans k13, .inl ⟨h1.symm, tupT e13⟩⟩
      · walk_at "z"
        exact jn _ _ ⟨u0, rfl, k11, .inr ⟨fun z => h1 z.symm, k11.get nin0 e10⟩⟩

set_option maxHeartbeats 2000000 in
set_option maxHeartbeats 4000000 in
theorem all_mk {l : PySem.W.OpenLaw} {w : World} {K : PySem.W.Frag} {h : Heap} {mg : Str → Option Value} {fa : Addr} (X : K.In h) (G : h.Ns mainGlobals mg) (hfa : mg "law" = some (.ref fa))
    {CSamphireError : Addr}
    {CTooLarge fTooLarge cTooLarge ccTooLarge : Addr}
    {CZeroDenominator fZeroDenominator cZeroDenominator ccZeroDenominator : Addr}
    {CUniform : Addr}
    {CWeighted : Addr}
    {od1 an1 : Option Addr} {sl1 : Array (Option Value)} {oc1 kV1 dc1 pm1 cd1 ct1 : Value} {f1 : Addr}
    {od2 an2 : Option Addr} {sl2 : Array (Option Value)} {oc2 kV2 dc2 pm2 cd2 ct2 : Value} {f2 : Addr}
    {od3 an3 : Option Addr} {sl3 : Array (Option Value)} {oc3 kV3 dc3 pm3 cd3 ct3 : Value} {f3 : Addr}
    {od4 an4 : Option Addr} {sl4 : Array (Option Value)} {oc4 kV4 dc4 pm4 cd4 ct4 : Value} {f4 : Addr}
    {od5 an5 : Option Addr} {sl5 : Array (Option Value)} {oc5 kV5 dc5 pm5 cd5 ct5 : Value} {f5 : Addr}
    {od6 an6 : Option Addr} {sl6 : Array (Option Value)} {oc6 kV6 dc6 pm6 cd6 ct6 : Value} {f6 : Addr}
    {od7 an7 : Option Addr} {sl7 : Array (Option Value)} {oc7 kV7 dc7 pm7 cd7 ct7 : Value} {f7 : Addr}
    {od8 an8 : Option Addr} {sl8 : Array (Option Value)} {oc8 kV8 dc8 pm8 cd8 ct8 : Value} {f8 : Addr}
    {od9 an9 : Option Addr} {sl9 : Array (Option Value)} {oc9 kV9 dc9 pm9 cd9 ct9 : Value} {f9 : Addr}
    {od10 an10 : Option Addr} {sl10 : Array (Option Value)} {oc10 kV10 dc10 pm10 cd10 ct10 : Value} {f10 : Addr}
    {od11 an11 : Option Addr} {sl11 : Array (Option Value)} {oc11 kV11 dc11 pm11 cd11 ct11 : Value} {f11 : Addr}
    {od12 an12 : Option Addr} {sl12 : Array (Option Value)} {oc12 kV12 dc12 pm12 cd12 ct12 : Value} {f12 : Addr}
    {od13 an13 : Option Addr} {sl13 : Array (Option Value)} {oc13 kV13 dc13 pm13 cd13 ct13 : Value} {f13 : Addr}
    {od14 an14 : Option Addr} {sl14 : Array (Option Value)} {oc14 kV14 dc14 pm14 cd14 ct14 : Value} {f14 : Addr}
    {od15 an15 : Option Addr} {sl15 : Array (Option Value)} {oc15 kV15 dc15 pm15 cd15 ct15 : Value} {f15 : Addr}
    {od16 an16 : Option Addr} {sl16 : Array (Option Value)} {oc16 kV16 dc16 pm16 cd16 ct16 : Value} {f16 : Addr}
    {od17 an17 : Option Addr} {sl17 : Array (Option Value)} {oc17 kV17 dc17 pm17 cd17 ct17 : Value} {f17 : Addr}
    {od18 an18 : Option Addr} {sl18 : Array (Option Value)} {oc18 kV18 dc18 pm18 cd18 ct18 : Value} {f18 : Addr}
    {od19 an19 : Option Addr} {sl19 : Array (Option Value)} {oc19 kV19 dc19 pm19 cd19 ct19 : Value} {f19 : Addr}
    {od20 an20 : Option Addr} {sl20 : Array (Option Value)} {oc20 kV20 dc20 pm20 cd20 ct20 : Value} {f20 : Addr}
    {od21 an21 : Option Addr} {sl21 : Array (Option Value)} {oc21 kV21 dc21 pm21 cd21 ct21 : Value} {f21 : Addr}
    {od22 an22 : Option Addr} {sl22 : Array (Option Value)} {oc22 kV22 dc22 pm22 cd22 ct22 : Value} {f22 : Addr}
    {od23 an23 : Option Addr} {sl23 : Array (Option Value)} {oc23 kV23 dc23 pm23 cd23 ct23 : Value} {f23 : Addr}
    {od24 an24 : Option Addr} {sl24 : Array (Option Value)} {oc24 kV24 dc24 pm24 cd24 ct24 : Value} {f24 : Addr}
    {od25 an25 : Option Addr} {sl25 : Array (Option Value)} {oc25 kV25 dc25 pm25 cd25 ct25 : Value} {f25 : Addr}
    {od26 an26 : Option Addr} {sl26 : Array (Option Value)} {oc26 kV26 dc26 pm26 cd26 ct26 : Value} {f26 : Addr}
    {od27 an27 : Option Addr} {sl27 : Array (Option Value)} {oc27 kV27 dc27 pm27 cd27 ct27 : Value} {f27 : Addr}
    {od28 an28 : Option Addr} {sl28 : Array (Option Value)} {oc28 kV28 dc28 pm28 cd28 ct28 : Value} {f28 : Addr}
    {od29 an29 : Option Addr} {sl29 : Array (Option Value)} {oc29 kV29 dc29 pm29 cd29 ct29 : Value} {f29 : Addr}
    {od30 an30 : Option Addr} {sl30 : Array (Option Value)} {oc30 kV30 dc30 pm30 cd30 ct30 : Value} {f30 : Addr}
    {od31 an31 : Option Addr} {sl31 : Array (Option Value)} {oc31 kV31 dc31 pm31 cd31 ct31 : Value} {f31 : Addr}
    {od32 an32 : Option Addr} {sl32 : Array (Option Value)} {oc32 kV32 dc32 pm32 cd32 ct32 : Value} {f32 : Addr}
    {od33 an33 : Option Addr} {sl33 : Array (Option Value)} {oc33 kV33 dc33 pm33 cd33 ct33 : Value} {f33 : Addr}
    {od34 an34 : Option Addr} {sl34 : Array (Option Value)} {oc34 kV34 dc34 pm34 cd34 ct34 : Value} {f34 : Addr}
    {od35 an35 : Option Addr} {sl35 : Array (Option Value)} {oc35 kV35 dc35 pm35 cd35 ct35 : Value} {f35 : Addr}
    {od36 an36 : Option Addr} {sl36 : Array (Option Value)} {oc36 kV36 dc36 pm36 cd36 ct36 : Value} {f36 : Addr}
    {od37 an37 : Option Addr} {sl37 : Array (Option Value)} {oc37 kV37 dc37 pm37 cd37 ct37 : Value} {f37 : Addr}
    {nmTooLarge qTooLarge : Str} {NTooLarge : Addr} {bsTooLarge : List Value} {snTooLarge : List Str} {subTooLarge : List Value} {abTooLarge : Bool} {colTooLarge : Option Bool} {ddTooLarge : Option Addr} {m0TooLarge m1TooLarge m2TooLarge m3TooLarge m5TooLarge : Option Value} {occTooLarge : Value} {cddTooLarge : Option Addr} {cvsTooLarge : List Value} {cslTooLarge : Array (Option Value)} {cclTooLarge : Value} {ccdTooLarge : Option Addr} {ccsTooLarge : Array (Option Value)} {ocTooLarge : Value} {odTooLarge : Option Addr} {oslTooLarge : Array (Option Value)} {docTooLarge pmTooLarge ctvTooLarge : Value}
    {nmZeroDenominator qZeroDenominator : Str} {NZeroDenominator : Addr} {bsZeroDenominator : List Value} {snZeroDenominator : List Str} {subZeroDenominator : List Value} {abZeroDenominator : Bool} {colZeroDenominator : Option Bool} {ddZeroDenominator : Option Addr} {m0ZeroDenominator m1ZeroDenominator m2ZeroDenominator m3ZeroDenominator m5ZeroDenominator : Option Value} {occZeroDenominator : Value} {cddZeroDenominator : Option Addr} {cvsZeroDenominator : List Value} {cslZeroDenominator : Array (Option Value)} {cclZeroDenominator : Value} {ccdZeroDenominator : Option Addr} {ccsZeroDenominator : Array (Option Value)} {ocZeroDenominator : Value} {odZeroDenominator : Option Addr} {oslZeroDenominator : Array (Option Value)} {docZeroDenominator pmZeroDenominator ctvZeroDenominator : Value}
    {t_MOST_ORDERED : Tok}
    {k_ZERO : Addr} {od_ZERO : Option Addr} {nn_ZERO : Nat} {sl_ZERO : Array (Option Value)} {t0_ZERO t1_ZERO : Tok}
    {k_ONE : Addr} {od_ONE : Option Addr} {nn_ONE : Nat} {sl_ONE : Array (Option Value)} {t0_ONE t1_ONE : Tok}
    (a1 : PySem.W.nsIn K mainGlobals "lowest" = some (some (.ref f1)))
    (l1 : K.lookup f1 = some ⟨oc1, od1, .func (PySem.W.fnOf "lowest" "lowest" (defArgs s_lowest) (defBody s_lowest) (defScope s_lowest) .none kV1 dc1 pm1 an1 cd1 ct1), sl1⟩)
    (c1 : PySem.W.codeIn K cd1 "lowest" = true)
    (k1 : PySem.W.keepIn K (.ref f1) = true)
    (a2 : PySem.W.nsIn K mainGlobals "plus" = some (some (.ref f2)))
    (l2 : K.lookup f2 = some ⟨oc2, od2, .func (PySem.W.fnOf "plus" "plus" (defArgs s_plus) (defBody s_plus) (defScope s_plus) .none kV2 dc2 pm2 an2 cd2 ct2), sl2⟩)
    (c2 : PySem.W.codeIn K cd2 "plus" = true)
    (k2 : PySem.W.keepIn K (.ref f2) = true)
    (a3 : PySem.W.nsIn K mainGlobals "minus" = some (some (.ref f3)))
    (l3 : K.lookup f3 = some ⟨oc3, od3, .func (PySem.W.fnOf "minus" "minus" (defArgs s_minus) (defBody s_minus) (defScope s_minus) .none kV3 dc3 pm3 an3 cd3 ct3), sl3⟩)
    (c3 : PySem.W.codeIn K cd3 "minus" = true)
    (k3 : PySem.W.keepIn K (.ref f3) = true)
    (a4 : PySem.W.nsIn K mainGlobals "times" = some (some (.ref f4)))
    (l4 : K.lookup f4 = some ⟨oc4, od4, .func (PySem.W.fnOf "times" "times" (defArgs s_times) (defBody s_times) (defScope s_times) .none kV4 dc4 pm4 an4 cd4 ct4), sl4⟩)
    (c4 : PySem.W.codeIn K cd4 "times" = true)
    (k4 : PySem.W.keepIn K (.ref f4) = true)
    (a5 : PySem.W.nsIn K mainGlobals "over" = some (some (.ref f5)))
    (l5 : K.lookup f5 = some ⟨oc5, od5, .func (PySem.W.fnOf "over" "over" (defArgs s_over) (defBody s_over) (defScope s_over) .none kV5 dc5 pm5 an5 cd5 ct5), sl5⟩)
    (c5 : PySem.W.codeIn K cd5 "over" = true)
    (k5 : PySem.W.keepIn K (.ref f5) = true)
    (a6 : PySem.W.nsIn K mainGlobals "sum_of" = some (some (.ref f6)))
    (l6 : K.lookup f6 = some ⟨oc6, od6, .func (PySem.W.fnOf "sum_of" "sum_of" (defArgs s_sum_of) (defBody s_sum_of) (defScope s_sum_of) .none kV6 dc6 pm6 an6 cd6 ct6), sl6⟩)
    (c6 : PySem.W.codeIn K cd6 "sum_of" = true)
    (k6 : PySem.W.keepIn K (.ref f6) = true)
    (a7 : PySem.W.nsIn K mainGlobals "weight_of" = some (some (.ref f7)))
    (l7 : K.lookup f7 = some ⟨oc7, od7, .func (PySem.W.fnOf "weight_of" "weight_of" (defArgs s_weight_of) (defBody s_weight_of) (defScope s_weight_of) .none kV7 dc7 pm7 an7 cd7 ct7), sl7⟩)
    (c7 : PySem.W.codeIn K cd7 "weight_of" = true)
    (k7 : PySem.W.keepIn K (.ref f7) = true)
    (a8 : PySem.W.findIn K (.ref CUniform) "__init__" = some (some (.ref f8)))
    (i8 : PySem.W.isFn K (.ref f8) = true)
    (l8 : K.lookup f8 = some ⟨oc8, od8, .func (PySem.W.fnOf "__init__" "Uniform.__init__" (defArgs s_Uniform_init) (defBody s_Uniform_init) (defScope s_Uniform_init) .none kV8 dc8 pm8 an8 cd8 ct8), sl8⟩)
    (c8 : PySem.W.codeIn K cd8 "Uniform.__init__" = true)
    (k8 : PySem.W.keepIn K (.ref f8) = true)
    (a9 : PySem.W.findIn K (.ref CWeighted) "__init__" = some (some (.ref f9)))
    (i9 : PySem.W.isFn K (.ref f9) = true)
    (l9 : K.lookup f9 = some ⟨oc9, od9, .func (PySem.W.fnOf "__init__" "Weighted.__init__" (defArgs s_Weighted_init) (defBody s_Weighted_init) (defScope s_Weighted_init) .none kV9 dc9 pm9 an9 cd9 ct9), sl9⟩)
    (c9 : PySem.W.codeIn K cd9 "Weighted.__init__" = true)
    (k9 : PySem.W.keepIn K (.ref f9) = true)
    (a10 : PySem.W.nsIn K mainGlobals "order_chance" = some (some (.ref f10)))
    (l10 : K.lookup f10 = some ⟨oc10, od10, .func (PySem.W.fnOf "order_chance" "order_chance" (defArgs s_order_chance) (defBody s_order_chance) (defScope s_order_chance) .none kV10 dc10 pm10 an10 cd10 ct10), sl10⟩)
    (c10 : PySem.W.codeIn K cd10 "order_chance" = true)
    (k10 : PySem.W.keepIn K (.ref f10) = true)
    (a11 : PySem.W.nsIn K mainGlobals "is_whole" = some (some (.ref f11)))
    (l11 : K.lookup f11 = some ⟨oc11, od11, .func (PySem.W.fnOf "is_whole" "is_whole" (defArgs s_is_whole) (defBody s_is_whole) (defScope s_is_whole) .none kV11 dc11 pm11 an11 cd11 ct11), sl11⟩)
    (c11 : PySem.W.codeIn K cd11 "is_whole" = true)
    (k11 : PySem.W.keepIn K (.ref f11) = true)
    (a12 : PySem.W.nsIn K mainGlobals "amount_of" = some (some (.ref f12)))
    (l12 : K.lookup f12 = some ⟨oc12, od12, .func (PySem.W.fnOf "amount_of" "amount_of" (defArgs s_amount_of) (defBody s_amount_of) (defScope s_amount_of) .none kV12 dc12 pm12 an12 cd12 ct12), sl12⟩)
    (c12 : PySem.W.codeIn K cd12 "amount_of" = true)
    (k12 : PySem.W.keepIn K (.ref f12) = true)
    (a13 : PySem.W.nsIn K mainGlobals "true_sum" = some (some (.ref f13)))
    (l13 : K.lookup f13 = some ⟨oc13, od13, .func (PySem.W.fnOf "true_sum" "true_sum" (defArgs s_true_sum) (defBody s_true_sum) (defScope s_true_sum) .none kV13 dc13 pm13 an13 cd13 ct13), sl13⟩)
    (c13 : PySem.W.codeIn K cd13 "true_sum" = true)
    (k13 : PySem.W.keepIn K (.ref f13) = true)
    (a14 : PySem.W.nsIn K mainGlobals "mean_of" = some (some (.ref f14)))
    (l14 : K.lookup f14 = some ⟨oc14, od14, .func (PySem.W.fnOf "mean_of" "mean_of" (defArgs s_mean_of) (defBody s_mean_of) (defScope s_mean_of) .none kV14 dc14 pm14 an14 cd14 ct14), sl14⟩)
    (c14 : PySem.W.codeIn K cd14 "mean_of" = true)
    (k14 : PySem.W.keepIn K (.ref f14) = true)
    (a15 : PySem.W.nsIn K mainGlobals "squares_around" = some (some (.ref f15)))
    (l15 : K.lookup f15 = some ⟨oc15, od15, .func (PySem.W.fnOf "squares_around" "squares_around" (defArgs s_squares_around) (defBody s_squares_around) (defScope s_squares_around) .none kV15 dc15 pm15 an15 cd15 ct15), sl15⟩)
    (c15 : PySem.W.codeIn K cd15 "squares_around" = true)
    (k15 : PySem.W.keepIn K (.ref f15) = true)
    (a16 : PySem.W.nsIn K mainGlobals "ordered_estimates" = some (some (.ref f16)))
    (l16 : K.lookup f16 = some ⟨oc16, od16, .func (PySem.W.fnOf "ordered_estimates" "ordered_estimates" (defArgs s_ordered_estimates) (defBody s_ordered_estimates) (defScope s_ordered_estimates) .none kV16 dc16 pm16 an16 cd16 ct16), sl16⟩)
    (c16 : PySem.W.codeIn K cd16 "ordered_estimates" = true)
    (k16 : PySem.W.keepIn K (.ref f16) = true)
    (a17 : PySem.W.nsIn K mainGlobals "weighted_estimate" = some (some (.ref f17)))
    (l17 : K.lookup f17 = some ⟨oc17, od17, .func (PySem.W.fnOf "weighted_estimate" "weighted_estimate" (defArgs s_weighted_estimate) (defBody s_weighted_estimate) (defScope s_weighted_estimate) .none kV17 dc17 pm17 an17 cd17 ct17), sl17⟩)
    (c17 : PySem.W.codeIn K cd17 "weighted_estimate" = true)
    (k17 : PySem.W.keepIn K (.ref f17) = true)
    (a18 : PySem.W.nsIn K mainGlobals "estimate" = some (some (.ref f18)))
    (l18 : K.lookup f18 = some ⟨oc18, od18, .func (PySem.W.fnOf "estimate" "estimate" (defArgs s_estimate) (defBody s_estimate) (defScope s_estimate) .none kV18 dc18 pm18 an18 cd18 ct18), sl18⟩)
    (c18 : PySem.W.codeIn K cd18 "estimate" = true)
    (k18 : PySem.W.keepIn K (.ref f18) = true)
    (a19 : PySem.W.nsIn K mainGlobals "unordered" = some (some (.ref f19)))
    (l19 : K.lookup f19 = some ⟨oc19, od19, .func (PySem.W.fnOf "unordered" "unordered" (defArgs s_unordered) (defBody s_unordered) (defScope s_unordered) .none kV19 dc19 pm19 an19 cd19 ct19), sl19⟩)
    (c19 : PySem.W.codeIn K cd19 "unordered" = true)
    (k19 : PySem.W.keepIn K (.ref f19) = true)
    (a20 : PySem.W.nsIn K mainGlobals "_law_mix" = some (some (.ref f20)))
    (l20 : K.lookup f20 = some ⟨oc20, od20, .func (PySem.W.fnOf "_law_mix" "_law_mix" (defArgs s__law_mix) (defBody s__law_mix) (defScope s__law_mix) .none kV20 dc20 pm20 an20 cd20 ct20), sl20⟩)
    (c20 : PySem.W.codeIn K cd20 "_law_mix" = true)
    (k20 : PySem.W.keepIn K (.ref f20) = true)
    (a21 : PySem.W.nsIn K mainGlobals "_law_numbers" = some (some (.ref f21)))
    (l21 : K.lookup f21 = some ⟨oc21, od21, .func (PySem.W.fnOf "_law_numbers" "_law_numbers" (defArgs s__law_numbers) (defBody s__law_numbers) (defScope s__law_numbers) .none kV21 dc21 pm21 an21 cd21 ct21), sl21⟩)
    (c21 : PySem.W.codeIn K cd21 "_law_numbers" = true)
    (k21 : PySem.W.keepIn K (.ref f21) = true)
    (a22 : PySem.W.nsIn K mainGlobals "_law_take" = some (some (.ref f22)))
    (l22 : K.lookup f22 = some ⟨oc22, od22, .func (PySem.W.fnOf "_law_take" "_law_take" (defArgs s__law_take) (defBody s__law_take) (defScope s__law_take) .none kV22 dc22 pm22 an22 cd22 ct22), sl22⟩)
    (c22 : PySem.W.codeIn K cd22 "_law_take" = true)
    (k22 : PySem.W.keepIn K (.ref f22) = true)
    (a23 : PySem.W.nsIn K mainGlobals "_law_low" = some (some (.ref f23)))
    (l23 : K.lookup f23 = some ⟨oc23, od23, .func (PySem.W.fnOf "_law_low" "_law_low" (defArgs s__law_low) (defBody s__law_low) (defScope s__law_low) .none kV23 dc23 pm23 an23 cd23 ct23), sl23⟩)
    (c23 : PySem.W.codeIn K cd23 "_law_low" = true)
    (k23 : PySem.W.keepIn K (.ref f23) = true)
    (a24 : PySem.W.nsIn K mainGlobals "_law_plus" = some (some (.ref f24)))
    (l24 : K.lookup f24 = some ⟨oc24, od24, .func (PySem.W.fnOf "_law_plus" "_law_plus" (defArgs s__law_plus) (defBody s__law_plus) (defScope s__law_plus) .none kV24 dc24 pm24 an24 cd24 ct24), sl24⟩)
    (c24 : PySem.W.codeIn K cd24 "_law_plus" = true)
    (k24 : PySem.W.keepIn K (.ref f24) = true)
    (a25 : PySem.W.nsIn K mainGlobals "_law_minus" = some (some (.ref f25)))
    (l25 : K.lookup f25 = some ⟨oc25, od25, .func (PySem.W.fnOf "_law_minus" "_law_minus" (defArgs s__law_minus) (defBody s__law_minus) (defScope s__law_minus) .none kV25 dc25 pm25 an25 cd25 ct25), sl25⟩)
    (c25 : PySem.W.codeIn K cd25 "_law_minus" = true)
    (k25 : PySem.W.keepIn K (.ref f25) = true)
    (a26 : PySem.W.nsIn K mainGlobals "_law_times" = some (some (.ref f26)))
    (l26 : K.lookup f26 = some ⟨oc26, od26, .func (PySem.W.fnOf "_law_times" "_law_times" (defArgs s__law_times) (defBody s__law_times) (defScope s__law_times) .none kV26 dc26 pm26 an26 cd26 ct26), sl26⟩)
    (c26 : PySem.W.codeIn K cd26 "_law_times" = true)
    (k26 : PySem.W.keepIn K (.ref f26) = true)
    (a27 : PySem.W.nsIn K mainGlobals "_law_less" = some (some (.ref f27)))
    (l27 : K.lookup f27 = some ⟨oc27, od27, .func (PySem.W.fnOf "_law_less" "_law_less" (defArgs s__law_less) (defBody s__law_less) (defScope s__law_less) .none kV27 dc27 pm27 an27 cd27 ct27), sl27⟩)
    (c27 : PySem.W.codeIn K cd27 "_law_less" = true)
    (k27 : PySem.W.keepIn K (.ref f27) = true)
    (a28 : PySem.W.nsIn K mainGlobals "_law_sum" = some (some (.ref f28)))
    (l28 : K.lookup f28 = some ⟨oc28, od28, .func (PySem.W.fnOf "_law_sum" "_law_sum" (defArgs s__law_sum) (defBody s__law_sum) (defScope s__law_sum) .none kV28 dc28 pm28 an28 cd28 ct28), sl28⟩)
    (c28 : PySem.W.codeIn K cd28 "_law_sum" = true)
    (k28 : PySem.W.keepIn K (.ref f28) = true)
    (a29 : PySem.W.nsIn K mainGlobals "_law_items" = some (some (.ref f29)))
    (l29 : K.lookup f29 = some ⟨oc29, od29, .func (PySem.W.fnOf "_law_items" "_law_items" (defArgs s__law_items) (defBody s__law_items) (defScope s__law_items) .none kV29 dc29 pm29 an29 cd29 ct29), sl29⟩)
    (c29 : PySem.W.codeIn K cd29 "_law_items" = true)
    (k29 : PySem.W.keepIn K (.ref f29) = true)
    (a30 : PySem.W.nsIn K mainGlobals "_law_amounts" = some (some (.ref f30)))
    (l30 : K.lookup f30 = some ⟨oc30, od30, .func (PySem.W.fnOf "_law_amounts" "_law_amounts" (defArgs s__law_amounts) (defBody s__law_amounts) (defScope s__law_amounts) .none kV30 dc30 pm30 an30 cd30 ct30), sl30⟩)
    (c30 : PySem.W.codeIn K cd30 "_law_amounts" = true)
    (k30 : PySem.W.keepIn K (.ref f30) = true)
    (a31 : PySem.W.nsIn K mainGlobals "_law_true" = some (some (.ref f31)))
    (l31 : K.lookup f31 = some ⟨oc31, od31, .func (PySem.W.fnOf "_law_true" "_law_true" (defArgs s__law_true) (defBody s__law_true) (defScope s__law_true) .none kV31 dc31 pm31 an31 cd31 ct31), sl31⟩)
    (c31 : PySem.W.codeIn K cd31 "_law_true" = true)
    (k31 : PySem.W.keepIn K (.ref f31) = true)
    (a32 : PySem.W.nsIn K mainGlobals "_law_moments" = some (some (.ref f32)))
    (l32 : K.lookup f32 = some ⟨oc32, od32, .func (PySem.W.fnOf "_law_moments" "_law_moments" (defArgs s__law_moments) (defBody s__law_moments) (defScope s__law_moments) .none kV32 dc32 pm32 an32 cd32 ct32), sl32⟩)
    (c32 : PySem.W.codeIn K cd32 "_law_moments" = true)
    (k32 : PySem.W.keepIn K (.ref f32) = true)
    (a33 : PySem.W.nsIn K mainGlobals "_law_orders" = some (some (.ref f33)))
    (l33 : K.lookup f33 = some ⟨oc33, od33, .func (PySem.W.fnOf "_law_orders" "_law_orders" (defArgs s__law_orders) (defBody s__law_orders) (defScope s__law_orders) .none kV33 dc33 pm33 an33 cd33 ct33), sl33⟩)
    (c33 : PySem.W.codeIn K cd33 "_law_orders" = true)
    (k33 : PySem.W.keepIn K (.ref f33) = true)
    (a34 : PySem.W.nsIn K mainGlobals "_law_order_chance" = some (some (.ref f34)))
    (l34 : K.lookup f34 = some ⟨oc34, od34, .func (PySem.W.fnOf "_law_order_chance" "_law_order_chance" (defArgs s__law_order_chance) (defBody s__law_order_chance) (defScope s__law_order_chance) .none kV34 dc34 pm34 an34 cd34 ct34), sl34⟩)
    (c34 : PySem.W.codeIn K cd34 "_law_order_chance" = true)
    (k34 : PySem.W.keepIn K (.ref f34) = true)
    (a35 : PySem.W.nsIn K mainGlobals "_law_sets" = some (some (.ref f35)))
    (l35 : K.lookup f35 = some ⟨oc35, od35, .func (PySem.W.fnOf "_law_sets" "_law_sets" (defArgs s__law_sets) (defBody s__law_sets) (defScope s__law_sets) .none kV35 dc35 pm35 an35 cd35 ct35), sl35⟩)
    (c35 : PySem.W.codeIn K cd35 "_law_sets" = true)
    (k35 : PySem.W.keepIn K (.ref f35) = true)
    (a36 : PySem.W.nsIn K mainGlobals "_law_told" = some (some (.ref f36)))
    (l36 : K.lookup f36 = some ⟨oc36, od36, .func (PySem.W.fnOf "_law_told" "_law_told" (defArgs s__law_told) (defBody s__law_told) (defScope s__law_told) .none kV36 dc36 pm36 an36 cd36 ct36), sl36⟩)
    (c36 : PySem.W.codeIn K cd36 "_law_told" = true)
    (k36 : PySem.W.keepIn K (.ref f36) = true)
    (a37 : PySem.W.nsIn K mainGlobals "law" = some (some (.ref f37)))
    (l37 : K.lookup f37 = some ⟨oc37, od37, .func (PySem.W.fnOf "law" "law" (defArgs s_law) (defBody s_law) (defScope s_law) .none kV37 dc37 pm37 an37 cd37 ct37), sl37⟩)
    (c37 : PySem.W.codeIn K cd37 "law" = true)
    (k37 : PySem.W.keepIn K (.ref f37) = true)
    (aCSamphireError : PySem.W.nsIn K mainGlobals "SamphireError" = some (some (.ref CSamphireError)))
    (aCTooLarge : PySem.W.nsIn K mainGlobals "TooLarge" = some (some (.ref CTooLarge)))
    (iCTooLarge : PySem.W.findIn K (.ref CTooLarge) "__init__" = some (some (.ref fTooLarge)))
    (tITooLarge : PySem.W.typeIn K (.ref fTooLarge) = some (.type "function"))
    (lkTooLarge : K.lookup fTooLarge = some ⟨ocTooLarge, odTooLarge, .func ((NF_TooLarge ccTooLarge cTooLarge).fd docTooLarge pmTooLarge ctvTooLarge), oslTooLarge⟩)
    (hcTooLarge : PySem.W.codeIn K (.ref cTooLarge) "TooLarge.__init__" = true)
    (xLTooLarge : K.lookup CTooLarge = some (excClassObj nmTooLarge qTooLarge CTooLarge NTooLarge bsTooLarge [.ref CSamphireError, .type "ValueError", .type "Exception", .type "BaseException", .type "object"] true snTooLarge subTooLarge abTooLarge colTooLarge ddTooLarge m0TooLarge m1TooLarge m2TooLarge m3TooLarge m5TooLarge "ValueError.__new__"))
    (saTooLarge : PySem.W.findIn K (.ref CTooLarge) "__setattr__" = some (some (.builtin "object.__setattr__")))
    (sBTooLarge : PySem.W.subIn K (.ref CTooLarge) (.type "BaseException") = some true)
    (tCTooLarge : PySem.W.typeIn K (.ref CTooLarge) = some (.type "type"))
    (kCTooLarge : PySem.W.keepIn K (.ref CTooLarge) = true)
    (coTooLarge : K.lookup cTooLarge = some ⟨occTooLarge, cddTooLarge, .fields cvsTooLarge.toArray, cslTooLarge⟩)
    (flTooLarge : Sup.flIs cvsTooLarge l.prog.main.file = true)
    (ceTooLarge : K.lookup ccTooLarge = some ⟨cclTooLarge, ccdTooLarge, .cell (some (.ref CTooLarge)), ccsTooLarge⟩)
    (mrTooLarge : PySem.W.mroIn K CTooLarge (.ref CTooLarge) = some true)
    (sVTooLarge : PySem.W.subIn K (.ref CTooLarge) (.type "ValueError") = some true)
    (anTooLarge : PySem.W.nsIn K PySem.cStatics "thirdparty.any" = some none)
    (suTooLarge : PySem.W.ks_superIn K CTooLarge CTooLarge "__init__" = some (some (.builtin "ValueError.__init__")))
    (tpTooLarge : (l.prog.main.scope.names.lookup ("super" : Str)).isSome = false)
    (hgTooLarge : PySem.W.findIn K (.ref CTooLarge) "__getattribute__" = some (some (.builtin "BaseException.__getattribute__")))
    (hkTooLarge : PySem.W.findIn K (.ref CTooLarge) "__getattr__" = some none)
    (hdTooLarge : PySem.W.hasDictIn K CTooLarge = true)
    (haTooLarge : PySem.W.findIn K (.ref CTooLarge) "__class__" = some (some (.builtin "object.__class__")))
    (hnTooLarge : PySem.W.specialIn K (.builtin "object.__class__") "__get__" = some (some (.builtin "getset_descriptor.__get__")))
    (htTooLarge : PySem.W.takesIn K (.builtin "object.__class__") = some true)
    (hmTooLarge : PySem.W.mroIn K CTooLarge (.type "object") = some true)
    (icTooLarge : PySem.W.isClsIn K CTooLarge = true)
    (sCTooLarge : PySem.W.subIn K (.ref CTooLarge) (.ref CTooLarge) = some true)
    (nf_limit_TooLarge : PySem.W.findIn K (.ref CTooLarge) "limit" = some none)
    (aCZeroDenominator : PySem.W.nsIn K mainGlobals "ZeroDenominator" = some (some (.ref CZeroDenominator)))
    (iCZeroDenominator : PySem.W.findIn K (.ref CZeroDenominator) "__init__" = some (some (.ref fZeroDenominator)))
    (tIZeroDenominator : PySem.W.typeIn K (.ref fZeroDenominator) = some (.type "function"))
    (lkZeroDenominator : K.lookup fZeroDenominator = some ⟨ocZeroDenominator, odZeroDenominator, .func ((NF_ZeroDenominator ccZeroDenominator cZeroDenominator).fd docZeroDenominator pmZeroDenominator ctvZeroDenominator), oslZeroDenominator⟩)
    (hcZeroDenominator : PySem.W.codeIn K (.ref cZeroDenominator) "ZeroDenominator.__init__" = true)
    (xLZeroDenominator : K.lookup CZeroDenominator = some (excClassObj nmZeroDenominator qZeroDenominator CZeroDenominator NZeroDenominator bsZeroDenominator [.ref CSamphireError, .type "ValueError", .type "Exception", .type "BaseException", .type "object"] true snZeroDenominator subZeroDenominator abZeroDenominator colZeroDenominator ddZeroDenominator m0ZeroDenominator m1ZeroDenominator m2ZeroDenominator m3ZeroDenominator m5ZeroDenominator "ValueError.__new__"))
    (saZeroDenominator : PySem.W.findIn K (.ref CZeroDenominator) "__setattr__" = some (some (.builtin "object.__setattr__")))
    (sBZeroDenominator : PySem.W.subIn K (.ref CZeroDenominator) (.type "BaseException") = some true)
    (tCZeroDenominator : PySem.W.typeIn K (.ref CZeroDenominator) = some (.type "type"))
    (kCZeroDenominator : PySem.W.keepIn K (.ref CZeroDenominator) = true)
    (coZeroDenominator : K.lookup cZeroDenominator = some ⟨occZeroDenominator, cddZeroDenominator, .fields cvsZeroDenominator.toArray, cslZeroDenominator⟩)
    (flZeroDenominator : Sup.flIs cvsZeroDenominator l.prog.main.file = true)
    (ceZeroDenominator : K.lookup ccZeroDenominator = some ⟨cclZeroDenominator, ccdZeroDenominator, .cell (some (.ref CZeroDenominator)), ccsZeroDenominator⟩)
    (mrZeroDenominator : PySem.W.mroIn K CZeroDenominator (.ref CZeroDenominator) = some true)
    (sVZeroDenominator : PySem.W.subIn K (.ref CZeroDenominator) (.type "ValueError") = some true)
    (anZeroDenominator : PySem.W.nsIn K PySem.cStatics "thirdparty.any" = some none)
    (suZeroDenominator : PySem.W.ks_superIn K CZeroDenominator CZeroDenominator "__init__" = some (some (.builtin "ValueError.__init__")))
    (tpZeroDenominator : (l.prog.main.scope.names.lookup ("super" : Str)).isSome = false)
    (hgZeroDenominator : PySem.W.findIn K (.ref CZeroDenominator) "__getattribute__" = some (some (.builtin "BaseException.__getattribute__")))
    (hkZeroDenominator : PySem.W.findIn K (.ref CZeroDenominator) "__getattr__" = some none)
    (hdZeroDenominator : PySem.W.hasDictIn K CZeroDenominator = true)
    (haZeroDenominator : PySem.W.findIn K (.ref CZeroDenominator) "__class__" = some (some (.builtin "object.__class__")))
    (hnZeroDenominator : PySem.W.specialIn K (.builtin "object.__class__") "__get__" = some (some (.builtin "getset_descriptor.__get__")))
    (htZeroDenominator : PySem.W.takesIn K (.builtin "object.__class__") = some true)
    (hmZeroDenominator : PySem.W.mroIn K CZeroDenominator (.type "object") = some true)
    (icZeroDenominator : PySem.W.isClsIn K CZeroDenominator = true)
    (sCZeroDenominator : PySem.W.subIn K (.ref CZeroDenominator) (.ref CZeroDenominator) = some true)
    (kitWeightedWeighted : PySem.W.kitOne K (.ref CWeighted) (.ref CWeighted) = some true)
    (kitTooLargeSamphireError : PySem.W.kitOne K (.ref CTooLarge) (.ref CSamphireError) = some true)
    (aCUniform : PySem.W.nsIn K mainGlobals "Uniform" = some (some (.ref CUniform)))
    (pgUniform : PySem.W.plainGet K CUniform Str.empty = true) (hdUniform : PySem.W.hasDictIn K CUniform = true) (poUniform : PySem.W.plainOver K CUniform = true) (saUniform : PySem.W.findIn K (.ref CUniform) "__setattr__" = some (some (.builtin "object.__setattr__"))) (mkUniform : PySem.W.makesIn K CUniform = true) (kcUniform : PySem.W.keepIn K (.ref CUniform) = true)
    (nUniform_size : PySem.W.findIn K (.ref CUniform) "size" = some none)
    (nUniform_seen : PySem.W.findIn K (.ref CUniform) "seen" = some none)
    (nUniform_kept : PySem.W.findIn K (.ref CUniform) "kept" = some none)
    (aCWeighted : PySem.W.nsIn K mainGlobals "Weighted" = some (some (.ref CWeighted)))
    (pgWeighted : PySem.W.plainGet K CWeighted Str.empty = true) (hdWeighted : PySem.W.hasDictIn K CWeighted = true) (poWeighted : PySem.W.plainOver K CWeighted = true) (saWeighted : PySem.W.findIn K (.ref CWeighted) "__setattr__" = some (some (.builtin "object.__setattr__"))) (mkWeighted : PySem.W.makesIn K CWeighted = true) (kcWeighted : PySem.W.keepIn K (.ref CWeighted) = true)
    (nWeighted_size : PySem.W.findIn K (.ref CWeighted) "size" = some none)
    (nWeighted_total : PySem.W.findIn K (.ref CWeighted) "total" = some none)
    (nWeighted_kept : PySem.W.findIn K (.ref CWeighted) "kept" = some none)
    (isaUniform : PySem.W.findIn K (.ref CUniform) "__class__" = some (some (.builtin "object.__class__")))
    (isgUniform : PySem.W.specialIn K (.builtin "object.__class__") "__get__" = some (some (.builtin "getset_descriptor.__get__")))
    (istUniform : PySem.W.takesIn K (.builtin "object.__class__") = some true)
    (ismUniform : PySem.W.mroIn K CUniform (.type "object") = some true)
    (isaWeighted : PySem.W.findIn K (.ref CWeighted) "__class__" = some (some (.builtin "object.__class__")))
    (isgWeighted : PySem.W.specialIn K (.builtin "object.__class__") "__get__" = some (some (.builtin "getset_descriptor.__get__")))
    (istWeighted : PySem.W.takesIn K (.builtin "object.__class__") = some true)
    (ismWeighted : PySem.W.mroIn K CWeighted (.type "object") = some true)
    (kitWeightedUniform : PySem.W.kitOne K (.ref CWeighted) (.ref CUniform) = some false)
    (z_abs : PySem.W.nsIn K mainGlobals "abs" = some none)
    (z_dict : PySem.W.nsIn K mainGlobals "dict" = some none)
    (z_int : PySem.W.nsIn K mainGlobals "int" = some none)
    (z_isinstance : PySem.W.nsIn K mainGlobals "isinstance" = some none)
    (z_len : PySem.W.nsIn K mainGlobals "len" = some none)
    (z_list : PySem.W.nsIn K mainGlobals "list" = some none)
    (z_max : PySem.W.nsIn K mainGlobals "max" = some none)
    (z_min : PySem.W.nsIn K mainGlobals "min" = some none)
    (z_range : PySem.W.nsIn K mainGlobals "range" = some none)
    (z_sorted : PySem.W.nsIn K mainGlobals "sorted" = some none)
    (z_sum : PySem.W.nsIn K mainGlobals "sum" = some none)
    (z_super : PySem.W.nsIn K mainGlobals "super" = some none)
    (v_MOST_ORDERED : PySem.W.nsIn K mainGlobals "MOST_ORDERED" = some (some (.int (6) t_MOST_ORDERED)))
    (v_ZERO : PySem.W.nsIn K mainGlobals "ZERO" = some (some (.ref k_ZERO)))
    (l_ZERO : K.lookup k_ZERO = some ⟨.type "tuple", od_ZERO, .seq #[.int (0) t0_ZERO, .int (1) t1_ZERO] nn_ZERO, sl_ZERO⟩)
    (v_ONE : PySem.W.nsIn K mainGlobals "ONE" = some (some (.ref k_ONE)))
    (l_ONE : K.lookup k_ONE = some ⟨.type "tuple", od_ONE, .seq #[.int (1) t0_ONE, .int (1) t1_ONE] nn_ONE, sl_ONE⟩)
    (g_permutations : PySem.W.nsIn K mainGlobals "permutations" = some (some (.type "itertools.permutations")))
    (g_gcd : PySem.W.nsIn K mainGlobals "gcd" = some (some (.builtin "math.gcd"))) :
    ∃ fd : FuncData, (∀ (s : Shared) (v : Value), BindsTo s fd ⟨[v], []⟩ [("script", v)]) ∧ ∀ base : Heap, K.In base → base.Ns mainGlobals mg → FnOk l.prog w K mg base CX0 10 fa fd ["script"] (spLaw K) := by
  have e : f37 = fa := by
    have e := hfa.symm.trans (PySem.W.mg_of X G a37)
    cases e
    rfl
  subst e
  let t : T l.prog K mg := {
    a_lowest := f1, fd_lowest := _, F_lowest := fun_mk (st := s_lowest) l1 c1 k1, b_lowest := (fun_mk (st := s_lowest) l1 c1 k1).binds (ps := ["p", "q"]) (fun _ _ _ _ _ _ us hl => match us, hl with | [_, _], _ => rfl),
    g_lowest := PySem.W.mg_of X G a1,
    a_plus := f2, fd_plus := _, F_plus := fun_mk (st := s_plus) l2 c2 k2, b_plus := (fun_mk (st := s_plus) l2 c2 k2).binds (ps := ["a", "b"]) (fun _ _ _ _ _ _ us hl => match us, hl with | [_, _], _ => rfl),
    g_plus := PySem.W.mg_of X G a2,
    a_minus := f3, fd_minus := _, F_minus := fun_mk (st := s_minus) l3 c3 k3, b_minus := (fun_mk (st := s_minus) l3 c3 k3).binds (ps := ["a", "b"]) (fun _ _ _ _ _ _ us hl => match us, hl with | [_, _], _ => rfl),
    g_minus := PySem.W.mg_of X G a3,
    a_times := f4, fd_times := _, F_times := fun_mk (st := s_times) l4 c4 k4, b_times := (fun_mk (st := s_times) l4 c4 k4).binds (ps := ["a", "b"]) (fun _ _ _ _ _ _ us hl => match us, hl with | [_, _], _ => rfl),
    g_times := PySem.W.mg_of X G a4,
    a_over := f5, fd_over := _, F_over := fun_mk (st := s_over) l5 c5 k5, b_over := (fun_mk (st := s_over) l5 c5 k5).binds (ps := ["a", "b"]) (fun _ _ _ _ _ _ us hl => match us, hl with | [_, _], _ => rfl),
    g_over := PySem.W.mg_of X G a5,
    a_sum_of := f6, fd_sum_of := _, F_sum_of := fun_mk (st := s_sum_of) l6 c6 k6, b_sum_of := (fun_mk (st := s_sum_of) l6 c6 k6).binds (ps := ["fractions"]) (fun _ _ _ _ _ _ us hl => match us, hl with | [_], _ => rfl),
    g_sum_of := PySem.W.mg_of X G a6,
    a_weight_of := f7, fd_weight_of := _, F_weight_of := fun_mk (st := s_weight_of) l7 c7 k7, b_weight_of := (fun_mk (st := s_weight_of) l7 c7 k7).binds (ps := ["things"]) (fun _ _ _ _ _ _ us hl => match us, hl with | [_], _ => rfl),
    g_weight_of := PySem.W.mg_of X G a7,
    a_Uniform_init := f8, fd_Uniform_init := _, F_Uniform_init := fun_mk (st := s_Uniform_init) l8 c8 k8, b_Uniform_init := (fun_mk (st := s_Uniform_init) l8 c8 k8).binds (ps := ["self", "size", "seen", "kept"]) (fun _ _ _ _ _ _ us hl => match us, hl with | [_, _, _, _], _ => rfl),
    a_Weighted_init := f9, fd_Weighted_init := _, F_Weighted_init := fun_mk (st := s_Weighted_init) l9 c9 k9, b_Weighted_init := (fun_mk (st := s_Weighted_init) l9 c9 k9).binds (ps := ["self", "size", "total", "kept"]) (fun _ _ _ _ _ _ us hl => match us, hl with | [_, _, _, _], _ => rfl),
    a_order_chance := f10, fd_order_chance := _, F_order_chance := fun_mk (st := s_order_chance) l10 c10 k10, b_order_chance := (fun_mk (st := s_order_chance) l10 c10 k10).binds (ps := ["total", "kept"]) (fun _ _ _ _ _ _ us hl => match us, hl with | [_, _], _ => rfl),
    g_order_chance := PySem.W.mg_of X G a10,
    a_is_whole := f11, fd_is_whole := _, F_is_whole := fun_mk (st := s_is_whole) l11 c11 k11, b_is_whole := (fun_mk (st := s_is_whole) l11 c11 k11).binds (ps := ["sample"]) (fun _ _ _ _ _ _ us hl => match us, hl with | [_], _ => rfl),
    g_is_whole := PySem.W.mg_of X G a11,
    a_amount_of := f12, fd_amount_of := _, F_amount_of := fun_mk (st := s_amount_of) l12 c12 k12, b_amount_of := (fun_mk (st := s_amount_of) l12 c12 k12).binds (ps := ["amounts", "item"]) (fun _ _ _ _ _ _ us hl => match us, hl with | [_, _], _ => rfl),
    g_amount_of := PySem.W.mg_of X G a12,
    a_true_sum := f13, fd_true_sum := _, F_true_sum := fun_mk (st := s_true_sum) l13 c13 k13, b_true_sum := (fun_mk (st := s_true_sum) l13 c13 k13).binds (ps := ["things", "amounts"]) (fun _ _ _ _ _ _ us hl => match us, hl with | [_, _], _ => rfl),
    g_true_sum := PySem.W.mg_of X G a13,
    a_mean_of := f14, fd_mean_of := _, F_mean_of := fun_mk (st := s_mean_of) l14 c14 k14, b_mean_of := (fun_mk (st := s_mean_of) l14 c14 k14).binds (ps := ["numbers"]) (fun _ _ _ _ _ _ us hl => match us, hl with | [_], _ => rfl),
    g_mean_of := PySem.W.mg_of X G a14,
    a_squares_around := f15, fd_squares_around := _, F_squares_around := fun_mk (st := s_squares_around) l15 c15 k15, b_squares_around := (fun_mk (st := s_squares_around) l15 c15 k15).binds (ps := ["numbers"]) (fun _ _ _ _ _ _ us hl => match us, hl with | [_], _ => rfl),
    g_squares_around := PySem.W.mg_of X G a15,
    a_ordered_estimates := f16, fd_ordered_estimates := _, F_ordered_estimates := fun_mk (st := s_ordered_estimates) l16 c16 k16, b_ordered_estimates := (fun_mk (st := s_ordered_estimates) l16 c16 k16).binds (ps := ["total", "kept", "amounts"]) (fun _ _ _ _ _ _ us hl => match us, hl with | [_, _, _], _ => rfl),
    g_ordered_estimates := PySem.W.mg_of X G a16,
    a_weighted_estimate := f17, fd_weighted_estimate := _, F_weighted_estimate := fun_mk (st := s_weighted_estimate) l17 c17 k17, b_weighted_estimate := (fun_mk (st := s_weighted_estimate) l17 c17 k17).binds (ps := ["sample", "amounts"]) (fun _ _ _ _ _ _ us hl => match us, hl with | [_, _], _ => rfl),
    g_weighted_estimate := PySem.W.mg_of X G a17,
    a_estimate := f18, fd_estimate := _, F_estimate := fun_mk (st := s_estimate) l18 c18 k18, b_estimate := (fun_mk (st := s_estimate) l18 c18 k18).binds (ps := ["sample", "amounts"]) (fun _ _ _ _ _ _ us hl => match us, hl with | [_, _], _ => rfl),
    g_estimate := PySem.W.mg_of X G a18,
    a_unordered := f19, fd_unordered := _, F_unordered := fun_mk (st := s_unordered) l19 c19 k19, b_unordered := (fun_mk (st := s_unordered) l19 c19 k19).binds (ps := ["sample", "amounts"]) (fun _ _ _ _ _ _ us hl => match us, hl with | [_, _], _ => rfl),
    g_unordered := PySem.W.mg_of X G a19,
    a__law_mix := f20, fd__law_mix := _, F__law_mix := fun_mk (st := s__law_mix) l20 c20 k20, b__law_mix := (fun_mk (st := s__law_mix) l20 c20 k20).binds (ps := ["number", "k"]) (fun _ _ _ _ _ _ us hl => match us, hl with | [_, _], _ => rfl),
    g__law_mix := PySem.W.mg_of X G a20,
    a__law_numbers := f21, fd__law_numbers := _, F__law_numbers := fun_mk (st := s__law_numbers) l21 c21 k21, b__law_numbers := (fun_mk (st := s__law_numbers) l21 c21 k21).binds (ps := ["script", "count"]) (fun _ _ _ _ _ _ us hl => match us, hl with | [_, _], _ => rfl),
    g__law_numbers := PySem.W.mg_of X G a21,
    a__law_take := f22, fd__law_take := _, F__law_take := fun_mk (st := s__law_take) l22 c22 k22, b__law_take := (fun_mk (st := s__law_take) l22 c22 k22).binds (ps := ["row", "bound"]) (fun _ _ _ _ _ _ us hl => match us, hl with | [_, _], _ => rfl),
    g__law_take := PySem.W.mg_of X G a22,
    a__law_low := f23, fd__law_low := _, F__law_low := fun_mk (st := s__law_low) l23 c23 k23, b__law_low := (fun_mk (st := s__law_low) l23 c23 k23).binds (ps := ["p", "q"]) (fun _ _ _ _ _ _ us hl => match us, hl with | [_, _], _ => rfl),
    g__law_low := PySem.W.mg_of X G a23,
    a__law_plus := f24, fd__law_plus := _, F__law_plus := fun_mk (st := s__law_plus) l24 c24 k24, b__law_plus := (fun_mk (st := s__law_plus) l24 c24 k24).binds (ps := ["one", "other"]) (fun _ _ _ _ _ _ us hl => match us, hl with | [_, _], _ => rfl),
    g__law_plus := PySem.W.mg_of X G a24,
    a__law_minus := f25, fd__law_minus := _, F__law_minus := fun_mk (st := s__law_minus) l25 c25 k25, b__law_minus := (fun_mk (st := s__law_minus) l25 c25 k25).binds (ps := ["one", "other"]) (fun _ _ _ _ _ _ us hl => match us, hl with | [_, _], _ => rfl),
    g__law_minus := PySem.W.mg_of X G a25,
    a__law_times := f26, fd__law_times := _, F__law_times := fun_mk (st := s__law_times) l26 c26 k26, b__law_times := (fun_mk (st := s__law_times) l26 c26 k26).binds (ps := ["one", "other"]) (fun _ _ _ _ _ _ us hl => match us, hl with | [_, _], _ => rfl),
    g__law_times := PySem.W.mg_of X G a26,
    a__law_less := f27, fd__law_less := _, F__law_less := fun_mk (st := s__law_less) l27 c27 k27, b__law_less := (fun_mk (st := s__law_less) l27 c27 k27).binds (ps := ["one", "other"]) (fun _ _ _ _ _ _ us hl => match us, hl with | [_, _], _ => rfl),
    g__law_less := PySem.W.mg_of X G a27,
    a__law_sum := f28, fd__law_sum := _, F__law_sum := fun_mk (st := s__law_sum) l28 c28 k28, b__law_sum := (fun_mk (st := s__law_sum) l28 c28 k28).binds (ps := ["rows"]) (fun _ _ _ _ _ _ us hl => match us, hl with | [_], _ => rfl),
    g__law_sum := PySem.W.mg_of X G a28,
    a__law_items := f29, fd__law_items := _, F__law_items := fun_mk (st := s__law_items) l29 c29 k29, b__law_items := (fun_mk (st := s__law_items) l29 c29 k29).binds (ps := ["row", "many"]) (fun _ _ _ _ _ _ us hl => match us, hl with | [_, _], _ => rfl),
    g__law_items := PySem.W.mg_of X G a29,
    a__law_amounts := f30, fd__law_amounts := _, F__law_amounts := fun_mk (st := s__law_amounts) l30 c30 k30, b__law_amounts := (fun_mk (st := s__law_amounts) l30 c30 k30).binds (ps := ["row", "things"]) (fun _ _ _ _ _ _ us hl => match us, hl with | [_, _], _ => rfl),
    g__law_amounts := PySem.W.mg_of X G a30,
    a__law_true := f31, fd__law_true := _, F__law_true := fun_mk (st := s__law_true) l31 c31 k31, b__law_true := (fun_mk (st := s__law_true) l31 c31 k31).binds (ps := ["things", "amounts"]) (fun _ _ _ _ _ _ us hl => match us, hl with | [_, _], _ => rfl),
    g__law_true := PySem.W.mg_of X G a31,
    a__law_moments := f32, fd__law_moments := _, F__law_moments := fun_mk (st := s__law_moments) l32 c32 k32, b__law_moments := (fun_mk (st := s__law_moments) l32 c32 k32).binds (ps := ["rows"]) (fun _ _ _ _ _ _ us hl => match us, hl with | [_], _ => rfl),
    g__law_moments := PySem.W.mg_of X G a32,
    a__law_orders := f33, fd__law_orders := _, F__law_orders := fun_mk (st := s__law_orders) l33 c33 k33, b__law_orders := (fun_mk (st := s__law_orders) l33 c33 k33).binds (ps := ["things", "many"]) (fun _ _ _ _ _ _ us hl => match us, hl with | [_, _], _ => rfl),
    g__law_orders := PySem.W.mg_of X G a33,
    a__law_order_chance := f34, fd__law_order_chance := _, F__law_order_chance := fun_mk (st := s__law_order_chance) l34 c34 k34, b__law_order_chance := (fun_mk (st := s__law_order_chance) l34 c34 k34).binds (ps := ["total", "things"]) (fun _ _ _ _ _ _ us hl => match us, hl with | [_, _], _ => rfl),
    g__law_order_chance := PySem.W.mg_of X G a34,
    a__law_sets := f35, fd__law_sets := _, F__law_sets := fun_mk (st := s__law_sets) l35 c35 k35, b__law_sets := (fun_mk (st := s__law_sets) l35 c35 k35).binds (ps := ["things", "many"]) (fun _ _ _ _ _ _ us hl => match us, hl with | [_, _], _ => rfl),
    g__law_sets := PySem.W.mg_of X G a35,
    a__law_told := f36, fd__law_told := _, F__law_told := fun_mk (st := s__law_told) l36 c36 k36, b__law_told := (fun_mk (st := s__law_told) l36 c36 k36).binds (ps := ["sample", "amounts"]) (fun _ _ _ _ _ _ us hl => match us, hl with | [_, _], _ => rfl),
    g__law_told := PySem.W.mg_of X G a36,
    a_law := f37, fd_law := _, F_law := fun_mk (st := s_law) l37 c37 k37, b_law := (fun_mk (st := s_law) l37 c37 k37).binds (ps := ["script"]) (fun _ _ _ _ _ _ us hl => match us, hl with | [_], _ => rfl),
    g_law := PySem.W.mg_of X G a37,
    C_SamphireError := CSamphireError, mg_SamphireError := PySem.W.mg_of X G aCSamphireError,
    C_TooLarge := CTooLarge, a_TooLarge_init := fTooLarge, c_TooLarge := cTooLarge, cc_TooLarge := ccTooLarge, doc_TooLarge := docTooLarge, pm_TooLarge := pmTooLarge, ctv_TooLarge := ctvTooLarge, oc_TooLarge := ocTooLarge, od_TooLarge := odTooLarge, osl_TooLarge := oslTooLarge, lk_TooLarge := lkTooLarge, hc_TooLarge := hcTooLarge,
    x_TooLarge := Sup.excT_mk xLTooLarge rfl saTooLarge sBTooLarge tCTooLarge kCTooLarge coTooLarge flTooLarge ceTooLarge mrTooLarge sVTooLarge (PySem.W.mg_none_of X G z_super) anTooLarge suTooLarge tpTooLarge (PySem.W.mg_of X G aCTooLarge) iCTooLarge tITooLarge ⟨hgTooLarge, hkTooLarge, sBTooLarge, hdTooLarge, haTooLarge, hnTooLarge, htTooLarge, hmTooLarge⟩ icTooLarge sCTooLarge,
    bx_TooLarge := .all (fun us hl => match us, hl with | [_, _], _ => rfl),
    nf_TooLarge_limit := nf_limit_TooLarge,
    C_ZeroDenominator := CZeroDenominator, a_ZeroDenominator_init := fZeroDenominator, c_ZeroDenominator := cZeroDenominator, cc_ZeroDenominator := ccZeroDenominator, doc_ZeroDenominator := docZeroDenominator, pm_ZeroDenominator := pmZeroDenominator, ctv_ZeroDenominator := ctvZeroDenominator, oc_ZeroDenominator := ocZeroDenominator, od_ZeroDenominator := odZeroDenominator, osl_ZeroDenominator := oslZeroDenominator, lk_ZeroDenominator := lkZeroDenominator, hc_ZeroDenominator := hcZeroDenominator,
    x_ZeroDenominator := Sup.excT_mk xLZeroDenominator rfl saZeroDenominator sBZeroDenominator tCZeroDenominator kCZeroDenominator coZeroDenominator flZeroDenominator ceZeroDenominator mrZeroDenominator sVZeroDenominator (PySem.W.mg_none_of X G z_super) anZeroDenominator suZeroDenominator tpZeroDenominator (PySem.W.mg_of X G aCZeroDenominator) iCZeroDenominator tIZeroDenominator ⟨hgZeroDenominator, hkZeroDenominator, sBZeroDenominator, hdZeroDenominator, haZeroDenominator, hnZeroDenominator, htZeroDenominator, hmZeroDenominator⟩ icZeroDenominator sCZeroDenominator,
    bx_ZeroDenominator := .all (fun us hl => match us, hl with | [_], _ => rfl),
    kit_Weighted_Weighted := kitWeightedWeighted,
    kit_TooLarge_SamphireError := kitTooLargeSamphireError,
    C_Uniform := CUniform, cl_Uniform := ⟨pgUniform, hdUniform, poUniform, saUniform⟩, mg_Uniform := PySem.W.mg_of X G aCUniform,
    mk_Uniform := ⟨mkUniform, a8, i8, kcUniform⟩,
    na_Uniform_size := nUniform_size,
    na_Uniform_seen := nUniform_seen,
    na_Uniform_kept := nUniform_kept,
    C_Weighted := CWeighted, cl_Weighted := ⟨pgWeighted, hdWeighted, poWeighted, saWeighted⟩, mg_Weighted := PySem.W.mg_of X G aCWeighted,
    mk_Weighted := ⟨mkWeighted, a9, i9, kcWeighted⟩,
    na_Weighted_size := nWeighted_size,
    na_Weighted_total := nWeighted_total,
    na_Weighted_kept := nWeighted_kept,
    isa_Uniform := isaUniform,
    isg_Uniform := isgUniform,
    ist_Uniform := istUniform,
    ism_Uniform := ismUniform,
    isa_Weighted := isaWeighted,
    isg_Weighted := isgWeighted,
    ist_Weighted := istWeighted,
    ism_Weighted := ismWeighted,
    kit_Weighted_Uniform := kitWeightedUniform,
    z_abs := PySem.W.mg_none_of X G z_abs,
    z_dict := PySem.W.mg_none_of X G z_dict,
    z_int := PySem.W.mg_none_of X G z_int,
    z_isinstance := PySem.W.mg_none_of X G z_isinstance,
    z_len := PySem.W.mg_none_of X G z_len,
    z_list := PySem.W.mg_none_of X G z_list,
    z_max := PySem.W.mg_none_of X G z_max,
    z_min := PySem.W.mg_none_of X G z_min,
    z_range := PySem.W.mg_none_of X G z_range,
    z_sorted := PySem.W.mg_none_of X G z_sorted,
    z_sum := PySem.W.mg_none_of X G z_sum,
    z_super := PySem.W.mg_none_of X G z_super,
    v_MOST_ORDERED := _, g_MOST_ORDERED := PySem.W.mg_of X G v_MOST_ORDERED, r_MOST_ORDERED := ⟨_, rfl⟩,
    k_ZERO := k_ZERO, g_ZERO := PySem.W.mg_of X G v_ZERO, q_ZERO := fun H => .inr ⟨_, _, _, l_ZERO, rfl, rfl, (show 2 ≤ sizeLine by decide), (.cons ⟨_, rfl⟩ (.cons ⟨_, rfl⟩ .nil))⟩,
    k_ONE := k_ONE, g_ONE := PySem.W.mg_of X G v_ONE, q_ONE := fun H => .inr ⟨_, _, _, l_ONE, rfl, rfl, (show 2 ≤ sizeLine by decide), (.cons ⟨_, rfl⟩ (.cons ⟨_, rfl⟩ .nil))⟩,
    g_permutations := PySem.W.mg_of X G g_permutations,
    g_gcd := PySem.W.mg_of X G g_gcd }
  exact ⟨t.fd_law, fun s v => .of_eq rfl, fun base _ _ => ok_law t⟩

end K35
def PySem.W.Fast.tw11256527519927085289 : Nat := 0
def PySem.W.Fast.tw1261169395148100245 : Nat := 0
def PySem.W.Fast.tw15689056921855416089 : Nat := 0
def PySem.W.Fast.tw10382049967457029300 : Nat := 0
def PySem.W.Fast.tw3187826123373785248 : Nat := 0
def PySem.W.Fast.tw12197650287863971869 : Nat := 0
def PySem.W.Fast.tw10002247745416941478 : Nat := 0
def PySem.W.Fast.tw4759595738847249193 : Nat := 0
def PySem.W.Fast.tw9101987652064928285 : Nat := 0
def PySem.W.Fast.tw9071521458449159245 : Nat := 0
def PySem.W.Fast.tw17620647580698025963 : Nat := 0
def PySem.W.Fast.tw520733059062765461 : Nat := 0
def PySem.W.Fast.tw7277763844076769345 : Nat := 0
def PySem.W.Fast.tw6018365142728531288 : Nat := 0
def PySem.W.Fast.tw8741778094436694144 : Nat := 0
def PySem.W.Fast.tw13451058723618396640 : Nat := 0
def PySem.W.Fast.tw11032483770751497923 : Nat := 0
def PySem.W.Fast.tw4533522444284820828 : Nat := 0
def PySem.W.Fast.tw6256521680840428152 : Nat := 0
def PySem.W.Fast.tw1927300034868758294 : Nat := 0
def PySem.W.Fast.tw10484944647726523994 : Nat := 0
def PySem.W.Fast.tw8267008920192340074 : Nat := 0
def PySem.W.Fast.tw1787370233872081484 : Nat := 0
def PySem.W.Fast.tw9674572247893898267 : Nat := 0
def PySem.W.Fast.tw14292835587412284056 : Nat := 0
def PySem.W.Fast.tw3788047018270095816 : Nat := 0
def PySem.W.Fast.tw16884209277297612135 : Nat := 0
def PySem.W.Fast.tw13598749841310251141 : Nat := 0
def PySem.W.Fast.tw9919136724116604641 : Nat := 0
def PySem.W.Fast.tw1247425169731607617 : Nat := 0
def PySem.W.Fast.tw13269840372494955700 : Nat := 0
def PySem.W.Fast.tw9956347455994443273 : Nat := 0
def PySem.W.Fast.tw16176911766591670189 : Nat := 0
def PySem.W.Fast.tw9125292789565531391 : Nat := 0
def PySem.W.Fast.tw10057473316696431516 : Nat := 0
def PySem.W.Fast.tw7928859969307872571 : Nat := 0
def PySem.W.Fast.tw9615594477286704039 : Nat := 0
def PySem.W.Fast.tw17681065349130772596 : Nat := 0
def PySem.W.Fast.tw11535156365670667344 : Nat := 0
def PySem.W.Fast.tw7979603153395741576 : Nat := 0
def PySem.W.Fast.tw5103436028437850092 : Nat := 0
def PySem.W.Fast.tw10016534597052080181 : Nat := 0
def PySem.W.Fast.tw5725899679106951282 : Nat := 0
def PySem.W.Fast.tw17916979556437532813 : Nat := 0
def PySem.W.Fast.tw8133839256038224454 : Nat := 0
def PySem.W.Fast.tw16588023786864873017 : Nat := 0
def PySem.W.Fast.tw4163854684861563088 : Nat := 0
def PySem.W.Fast.tw317101494988268667 : Nat := 0
def PySem.W.Fast.tw11691865118876231189 : Nat := 0
def PySem.W.Fast.tw12107974837380972927 : Nat := 0
def PySem.W.Fast.tw10631586087991564673 : Nat := 0
def PySem.W.Fast.tw7068608064137378772 : Nat := 0
def PySem.W.Fast.tw14900739065390370149 : Nat := 0
def PySem.W.Fast.tw6406176992181885674 : Nat := 0
def PySem.W.Fast.tw2979658458272737569 : Nat := 0
def PySem.W.Fast.tw5140910854949285446 : Nat := 0
def PySem.W.Fast.tw14465224031522166204 : Nat := 0
def PySem.W.Fast.tw4185050512643753401 : Nat := 0
def PySem.W.Fast.tw17102547844336716812 : Nat := 0
def PySem.W.Fast.tw3168050717207685562 : Nat := 0
def PySem.W.Fast.tw13819758129769384697 : Nat := 0
def PySem.W.Fast.tw16737197817749392363 : Nat := 0
def PySem.W.Fast.tw4834714754819764179 : Nat := 0
def PySem.W.Fast.tw15850448269277749482 : Nat := 0
def PySem.W.Fast.tw17918016657712438120 : Nat := 0
def PySem.W.Fast.tw7836999219561267540 : Nat := 0
def PySem.W.Fast.tw3677494075893041989 : Nat := 0
def PySem.W.Fast.tw4169847844650142775 : Nat := 0
def PySem.W.Fast.tw16065238570387128487 : Nat := 0
def PySem.W.Fast.tw6278705846894114493 : Nat := 0
def PySem.W.Fast.tw16344610568115536292 : Nat := 0
def PySem.W.Fast.tw789667343653371606 : Nat := 0
def PySem.W.Fast.tw15607204010807376971 : Nat := 0
def PySem.W.Fast.tw2991115197957855452 : Nat := 0
def PySem.W.Fast.tw5308105554530380394 : Nat := 0
def PySem.W.Fast.tw10503096375995869184 : Nat := 0
def PySem.W.Fast.tw3989412847852146719 : Nat := 0
def PySem.W.Fast.tw934943340475393209 : Nat := 0
def PySem.W.Fast.tw957692595935367530 : Nat := 0
def PySem.W.Fast.tw4655004356995296077 : Nat := 0
def PySem.W.Fast.tw16798592143128092136 : Nat := 0
def PySem.W.Fast.tw8051752124219241242 : Nat := 0
def PySem.W.Fast.tw12864444255090670367 : Nat := 0
def PySem.W.Fast.tw16502811439519773601 : Nat := 0
def PySem.W.Fast.tw8432372174839973120 : Nat := 0
def PySem.W.Fast.tw16797974554934245285 : Nat := 0
def PySem.W.Fast.tw15425934750061712412 : Nat := 0
def PySem.W.Fast.tw11650391739339079908 : Nat := 0
def PySem.W.Fast.tw16571251580398019754 : Nat := 0
def PySem.W.Fast.tw15689556329298929421 : Nat := 0
def PySem.W.Fast.tw16957397610613921869 : Nat := 0
def PySem.W.Fast.tw12289734988521489519 : Nat := 0
def PySem.W.Fast.tw12239988996268864453 : Nat := 0
def PySem.W.Fast.tw6996157510589116620 : Nat := 0
def PySem.W.Fast.tw9517257036031094314 : Nat := 0
def PySem.W.Fast.tw5732338659175497592 : Nat := 0
def PySem.W.Fast.tw639615037714934076 : Nat := 0
def PySem.W.Fast.tw6581901230175363781 : Nat := 0
def PySem.W.Fast.tw123037147404088777 : Nat := 0
def PySem.W.Fast.tw4026547870212326320 : Nat := 0
def PySem.W.Fast.tw4343609344632682743 : Nat := 0
def PySem.W.Fast.tw10441478663677851565 : Nat := 0
def PySem.W.Fast.tw11220477920042914002 : Nat := 0
def PySem.W.Fast.tw5560112007835138651 : Nat := 0
def PySem.W.Fast.tw11697116934082788778 : Nat := 0
def PySem.W.Fast.tw4351874969647578217 : Nat := 0
def PySem.W.Fast.tw3817328540325913693 : Nat := 0
def PySem.W.Fast.tw6860143867667733956 : Nat := 0
def PySem.W.Fast.tw14852086411334745638 : Nat := 0
def PySem.W.Fast.tw17136371567131263869 : Nat := 0
def PySem.W.Fast.tw15475870437405441071 : Nat := 0
def PySem.W.Fast.tw6043532838088019170 : Nat := 0
def PySem.W.Fast.tw548209225675704293 : Nat := 0
def PySem.W.Fast.tw10412900798981902645 : Nat := 0
def PySem.W.Fast.tw11832249965309068297 : Nat := 0
def PySem.W.Fast.tw16764053634393176198 : Nat := 0
def PySem.W.Fast.tw15637858139016508183 : Nat := 0
def PySem.W.Fast.tw2192266294433928993 : Nat := 0
def PySem.W.Fast.tw2623306922768546028 : Nat := 0
def PySem.W.Fast.tw8739965117732369997 : Nat := 0
def PySem.W.Fast.tw6034601225448108868 : Nat := 0
def PySem.W.Fast.tw217357611200413532 : Nat := 0
def PySem.W.Fast.tw11237874975831336026 : Nat := 0
def PySem.W.Fast.tw11489495090051322620 : Nat := 0
def PySem.W.Fast.tw13678329287158624177 : Nat := 0
def PySem.W.Fast.tw6944229509819553642 : Nat := 0
def PySem.W.Fast.tw9537130383206423436 : Nat := 0
def PySem.W.Fast.tw15629521510071255787 : Nat := 0
def PySem.W.Fast.tw11568218221675641039 : Nat := 0
def PySem.W.Fast.tw16916554994547847428 : Nat := 0
def PySem.W.Fast.tw14012136678160812886 : Nat := 0
def PySem.W.Fast.tw9037628346638894057 : Nat := 0
def PySem.W.Fast.tw9449329953945780919 : Nat := 0
def PySem.W.Fast.tw2859518143521479884 : Nat := 0
def PySem.W.Fast.tw5884794960538167433 : Nat := 0
def PySem.W.Fast.tw543711132840283012 : Nat := 0
def PySem.W.Fast.tw1606898314482760271 : Nat := 0
def PySem.W.Fast.tw18356475332078502107 : Nat := 0
def PySem.W.Fast.tw6660336717109103595 : Nat := 0
def PySem.W.Fast.tw18363824046334134188 : Nat := 0
def PySem.W.Fast.tw1099504028434203006 : Nat := 0
def PySem.W.Fast.tw5560728437598020065 : Nat := 0
def PySem.W.Fast.tw3792650394248855262 : Nat := 0
def PySem.W.Fast.tw10161429119871674118 : Nat := 0
def PySem.W.Fast.tw15814783937669215241 : Nat := 0
def PySem.W.Fast.tw12488657896139503489 : Nat := 0
def PySem.W.Fast.tw11049979705006271153 : Nat := 0
def PySem.W.Fast.tw17346503899122554685 : Nat := 0
def PySem.W.Fast.tw3050019582875636305 : Nat := 0
def PySem.W.Fast.tw13685536424015893636 : Nat := 0
def PySem.W.Fast.tw2664207315921491188 : Nat := 0
def PySem.W.Fast.tw16869691548339463249 : Nat := 0
def PySem.W.Fast.tw2866801420662905868 : Nat := 0
def PySem.W.Fast.tw15606310058807334475 : Nat := 0
def PySem.W.Fast.tw14565034857191349903 : Nat := 0
def PySem.W.Fast.tw17128037918094641308 : Nat := 0
def PySem.W.Fast.tw11400527118878491640 : Nat := 0
def PySem.W.Fast.tw7419767932542366527 : Nat := 0
def PySem.W.Fast.tw8617106454379315036 : Nat := 0
def PySem.W.Fast.tw10607585024675024897 : Nat := 0
def PySem.W.Fast.tw7866952491134826829 : Nat := 0
def PySem.W.Fast.tw13035276544928976666 : Nat := 0
def PySem.W.Fast.tw1173635440908677247 : Nat := 0
def PySem.W.Fast.tw959982533824084664 : Nat := 0
def PySem.W.Fast.tw9718434517233961651 : Nat := 0
def PySem.W.Fast.tw65470871068351412 : Nat := 0
def PySem.W.Fast.tw8773044566100200034 : Nat := 0
def PySem.W.Fast.tw15071739246602472360 : Nat := 0
def PySem.W.Fast.tw7599165200374095270 : Nat := 0
def PySem.W.Fast.tw6578032262100436827 : Nat := 0
def PySem.W.Fast.tw11754473845644338682 : Nat := 0
def PySem.W.Fast.tw13712321300137041079 : Nat := 0
def PySem.W.Fast.tw17554100091312787154 : Nat := 0
def PySem.W.Fast.tw4398188372238680894 : Nat := 0
def PySem.W.Fast.tw13287242974532344202 : Nat := 0
def PySem.W.Fast.tw10735275578385942848 : Nat := 0
def PySem.W.Fast.tw6255471461546911241 : Nat := 0
def PySem.W.Fast.tw14979803902904484338 : Nat := 0
def PySem.W.Fast.tw11238259032183682544 : Nat := 0
def PySem.W.Fast.tw5410425336291952411 : Nat := 0
def PySem.W.Fast.tw12814459531999618551 : Nat := 0
def PySem.W.Fast.tw11240625216038568443 : Nat := 0
def PySem.W.Fast.tw15308001404156532640 : Nat := 0
def PySem.W.Fast.tw12751240122883026128 : Nat := 0
def PySem.W.Fast.tw12819064507444781533 : Nat := 0
def PySem.W.Fast.tw8805304859759714851 : Nat := 0
def PySem.W.Fast.tw10576459281682989712 : Nat := 0
def PySem.W.Fast.tw12746490284704311085 : Nat := 0
def PySem.W.Fast.tw5125032750699112602 : Nat := 0
def PySem.W.Fast.tw12214158416598640078 : Nat := 0
def PySem.W.Fast.tw9092162205387826511 : Nat := 0
def PySem.W.Fast.tw16891507611132787407 : Nat := 0
def PySem.W.Fast.tw15122123018101336930 : Nat := 0
def PySem.W.Fast.tw15783343018528612313 : Nat := 0
def PySem.W.Fast.tw723107194725985438 : Nat := 0
def PySem.W.Fast.tw14689197082666759194 : Nat := 0
def PySem.W.Fast.tw9125672109181291793 : Nat := 0
def PySem.W.Fast.tw9099432606423932626 : Nat := 0
def PySem.W.Fast.tw16727267388689685953 : Nat := 0
def PySem.W.Fast.tw10947062036099332528 : Nat := 0
def PySem.W.Fast.tw12869003746322272764 : Nat := 0
def PySem.W.Fast.tw4007194239390857392 : Nat := 0
def PySem.W.Fast.tw11459921638487700654 : Nat := 0
def PySem.W.Fast.tw12761006947892376182 : Nat := 0
def PySem.W.Fast.tw17672922888775865839 : Nat := 0
def PySem.W.Fast.tw6738445570470627959 : Nat := 0
def PySem.W.Fast.tw6388958138771974447 : Nat := 0
def PySem.W.Fast.tw9358540031695210370 : Nat := 0
def PySem.W.Fast.tw3090196093428294933 : Nat := 0
def PySem.W.Fast.tw1590850433135047468 : Nat := 0
def PySem.W.Fast.tw3079517211392647897 : Nat := 0
def PySem.W.Fast.tw5682185056408127016 : Nat := 0
def PySem.W.Fast.tw14545073456009261590 : Nat := 0
def PySem.W.Fast.tw481391691209662810 : Nat := 0
def PySem.W.Fast.tw5096245294299315771 : Nat := 0
def PySem.W.Fast.tw5145355844255936803 : Nat := 0
def PySem.W.Fast.tw13803808720823656994 : Nat := 0
def PySem.W.Fast.tw16414638566213038772 : Nat := 0
def PySem.W.Fast.tw11243641856571218682 : Nat := 0
def PySem.W.Fast.tw6721625951076773222 : Nat := 0
def PySem.W.Fast.tw6361015800798574643 : Nat := 0
def PySem.W.Fast.tw7737758747048958636 : Nat := 0
def PySem.W.Fast.tw14067852115160752147 : Nat := 0
def PySem.W.Fast.tw15710529476559154757 : Nat := 0
def PySem.W.Fast.tw16974879424488384643 : Nat := 0
def PySem.W.Fast.tw7978961409857441424 : Nat := 0
def PySem.W.Fast.tw6670890274262203710 : Nat := 0
def PySem.W.Fast.tw6577465049458212198 : Nat := 0
def PySem.W.Fast.tw14521476992982489641 : Nat := 0
def PySem.W.Fast.tw564787706896244745 : Nat := 0
def PySem.W.Fast.tw6490687116651422703 : Nat := 0
def PySem.W.Fast.tw871139424327292949 : Nat := 0
def PySem.W.Fast.tw18339273630393512766 : Nat := 0
def PySem.W.Fast.tw15937428271993729687 : Nat := 0
def PySem.W.Fast.tw16003231886878074846 : Nat := 0
def PySem.W.Fast.tw4139628049869786895 : Nat := 0
def PySem.W.Fast.tw1637885384372632832 : Nat := 0
def PySem.W.Fast.tw2167733888977652004 : Nat := 0
def PySem.W.Fast.tw13370786963355871876 : Nat := 0
def PySem.W.Fast.tw13994709754762690651 : Nat := 0
def PySem.W.Fast.tw5988205282644203101 : Nat := 0
def PySem.W.Fast.tw964482745059146982 : Nat := 0
def PySem.W.Fast.tw15191135042372607990 : Nat := 0
def PySem.W.Fast.tw15601939892499768069 : Nat := 0
def PySem.W.Fast.tw5015616249635262333 : Nat := 0
def PySem.W.Fast.tw3759308706937273325 : Nat := 0
def PySem.W.Fast.tw4847747900453209371 : Nat := 0
def PySem.W.Fast.tw16011557606884665764 : Nat := 0
def PySem.W.Fast.tw5104244136221368435 : Nat := 0
def PySem.W.Fast.tw8545714744380951047 : Nat := 0
def PySem.W.Fast.tw14345110310184227421 : Nat := 0
def PySem.W.Fast.tw8811027505636875367 : Nat := 0
def PySem.W.Fast.tw17826868171743232719 : Nat := 0
def PySem.W.Fast.tw13786874365372496257 : Nat := 0
def PySem.W.Fast.tw9072987203632059204 : Nat := 0
def PySem.W.Fast.tw1040869117435230858 : Nat := 0
def PySem.W.Fast.tw10101583436725307376 : Nat := 0
def PySem.W.Fast.tw6928866638094653604 : Nat := 0
def PySem.W.Fast.tw4916647732179008875 : Nat := 0
def PySem.W.Fast.tw15309915883633036367 : Nat := 0
def PySem.W.Fast.tw4959219081931087812 : Nat := 0
def PySem.W.Fast.tw16211848006547439943 : Nat := 0
def PySem.W.Fast.tw3720832408856913795 : Nat := 0
def PySem.W.Fast.tw7044134964638045523 : Nat := 0
def PySem.W.Fast.tw16748019751015898404 : Nat := 0
def PySem.W.Fast.tw7212151445478307319 : Nat := 0
def PySem.W.Fast.tw2090492793161361670 : Nat := 0
def PySem.W.Fast.tw15575660622408429203 : Nat := 0
def PySem.W.Fast.tw7004399062458629117 : Nat := 0
def PySem.W.Fast.tw6069093614128904453 : Nat := 0
def PySem.W.Fast.tw9159789216126437721 : Nat := 0
def PySem.W.Fast.tw6465181079846969251 : Nat := 0
def PySem.W.Fast.tw11616798122337795309 : Nat := 0
def PySem.W.Fast.tw16350575866533459430 : Nat := 0
def PySem.W.Fast.tw4285623870115458733 : Nat := 0
def PySem.W.Fast.tw2437878333113301334 : Nat := 0
def PySem.W.Fast.tw14276789031578318404 : Nat := 0
def PySem.W.Fast.tw12378677562240278702 : Nat := 0
def PySem.W.Fast.tw12235320781018127114 : Nat := 0
def PySem.W.Fast.tw9441926285247099405 : Nat := 0
def PySem.W.Fast.tw17762344395371417961 : Nat := 0
def PySem.W.Fast.tw7108649602288744720 : Nat := 0
def PySem.W.Fast.tw10105814846975872810 : Nat := 0
def PySem.W.Fast.tw8232999494939334869 : Nat := 0
def PySem.W.Fast.tw6405741370939481098 : Nat := 0
def PySem.W.Fast.tw2789988663704914294 : Nat := 0
def PySem.W.Fast.tw11670219893028748112 : Nat := 0
def PySem.W.Fast.tw472825254419614181 : Nat := 0
def PySem.W.Fast.tw23281462338742937 : Nat := 0
def PySem.W.Fast.tw5787884972277647839 : Nat := 0
def PySem.W.Fast.tw13258928708294837096 : Nat := 0
def PySem.W.Fast.tw15088481996953527634 : Nat := 0
def PySem.W.Fast.tw14853890408577315981 : Nat := 0
def PySem.W.Fast.tw12372915761964293252 : Nat := 0
def PySem.W.Fast.tw15253452457840089934 : Nat := 0
def PySem.W.Fast.tw7372234129165751026 : Nat := 0
def PySem.W.Fast.tw5960253708485561115 : Nat := 0
def PySem.W.Fast.tw17133901960502884003 : Nat := 0
def PySem.W.Fast.tw17121974531076360117 : Nat := 0
def PySem.W.Fast.tw3372466828210833267 : Nat := 0
def PySem.W.Fast.tw3817833785206267998 : Nat := 0
def PySem.W.Fast.tw12736069738858062921 : Nat := 0
def PySem.W.Fast.tw7386723085948094864 : Nat := 0
def PySem.W.Fast.tw743738719911669463 : Nat := 0
def PySem.W.Fast.tw12794226808449997439 : Nat := 0
def PySem.W.Fast.tw13417821581126803985 : Nat := 0
def PySem.W.Fast.tw13236700434491645021 : Nat := 0
def PySem.W.Fast.tw6311108011689936268 : Nat := 0
def PySem.W.Fast.tw6827418594906183588 : Nat := 0
def PySem.W.Fast.tw10797204820028105892 : Nat := 0
def PySem.W.Fast.tw11779476389130043070 : Nat := 0
def PySem.W.Fast.tw8310954815591560722 : Nat := 0
def PySem.W.Fast.tw8701676331657388882 : Nat := 0
def PySem.W.Fast.tw7761711326003048580 : Nat := 0
def PySem.W.Fast.tw10931928891471829928 : Nat := 0
def PySem.W.Fast.tw16504777449530051330 : Nat := 0
def PySem.W.Fast.tw8218147301079942137 : Nat := 0
def PySem.W.Fast.tw15772508606101914799 : Nat := 0
def PySem.W.Fast.tw2553002201195541213 : Nat := 0
def PySem.W.Fast.tw12036375882487691269 : Nat := 0
def PySem.W.Fast.tw5713971655389462629 : Nat := 0
def PySem.W.Fast.tw12776222182283977066 : Nat := 0
def PySem.W.Fast.tw5510201442112168373 : Nat := 0
def PySem.W.Fast.tw2255860684267765418 : Nat := 0
def PySem.W.Fast.tw13408851238508879854 : Nat := 0
def PySem.W.Fast.tw95566661956198773 : Nat := 0
def PySem.W.Fast.tw4934868972694607451 : Nat := 0
def PySem.W.Fast.tw16565018340732813980 : Nat := 0
def PySem.W.Fast.tw14601962837611028967 : Nat := 0
def PySem.W.Fast.tw8773387445105142569 : Nat := 0
def PySem.W.Fast.tw2625256258703443600 : Nat := 0
def PySem.W.Fast.tw150638834084908406 : Nat := 0
def PySem.W.Fast.tw16563889019387477317 : Nat := 0
def PySem.W.Fast.tw8351733425582632207 : Nat := 0
def PySem.W.Fast.tw15116013178494117008 : Nat := 0
def PySem.W.Fast.tw6885998156137966294 : Nat := 0
def PySem.W.Fast.tw14799206979310372168 : Nat := 0
def PySem.W.Fast.tw11841613696171184761 : Nat := 0
def PySem.W.Fast.tw16358368720631499449 : Nat := 0
def PySem.W.Fast.tw3756994796756577876 : Nat := 0
def PySem.W.Fast.tw7115398731671290077 : Nat := 0
def PySem.W.Fast.tw13702896557651569286 : Nat := 0
def PySem.W.Fast.tw3405370910097008127 : Nat := 0
def PySem.W.Fast.tw3919839859737100586 : Nat := 0
def PySem.W.Fast.tw5818116448564403085 : Nat := 0
def PySem.W.Fast.tw7886849431493909973 : Nat := 0
def PySem.W.Fast.tw1696404522872276240 : Nat := 0
def PySem.W.Fast.tw7046357637244757094 : Nat := 0
def PySem.W.Fast.tw7784579993021066325 : Nat := 0
def PySem.W.Fast.tw10303950369282322709 : Nat := 0
def PySem.W.Fast.tw13463986077320761322 : Nat := 0
def PySem.W.Fast.tw15501240126699338455 : Nat := 0
def PySem.W.Fast.tw16917932408604105118 : Nat := 0
def PySem.W.Fast.tw15708750541900126582 : Nat := 0
def PySem.W.Fast.tw10491900743701994060 : Nat := 0
def PySem.W.Fast.tw8158905541235172084 : Nat := 0
def PySem.W.Fast.tw10569765444481965773 : Nat := 0
def PySem.W.Fast.tw10292681064803758532 : Nat := 0
def PySem.W.Fast.tw5552882003359287975 : Nat := 0
def PySem.W.Fast.tw15211796866940367253 : Nat := 0
def PySem.W.Fast.tw3336372974778960256 : Nat := 0
def PySem.W.Fast.tw7123761393734965266 : Nat := 0
def PySem.W.Fast.tw17598187178204855109 : Nat := 0
def PySem.W.Fast.tw5680785191402473025 : Nat := 0
def PySem.W.Fast.tw11772437447288456135 : Nat := 0
def PySem.W.Fast.tw11965603835871130490 : Nat := 0
def PySem.W.Fast.tw15880381853455615764 : Nat := 0
def PySem.W.Fast.tw8365714614471394927 : Nat := 0
def PySem.W.Fast.tw1081250959800661340 : Nat := 0
def PySem.W.Fast.tw12530638245021938674 : Nat := 0
def PySem.W.Fast.tw6878093636812024989 : Nat := 0
def PySem.W.Fast.tw13024099735931229021 : Nat := 0
def PySem.W.Fast.tw13531101989224529452 : Nat := 0
def PySem.W.Fast.tw1028861768667821157 : Nat := 0
def PySem.W.Fast.tw17314851375256781331 : Nat := 0
def PySem.W.Fast.tw5864055227219143664 : Nat := 0
def PySem.W.Fast.tw2506908150795847302 : Nat := 0
def PySem.W.Fast.tw7996277215394383923 : Nat := 0
def PySem.W.Fast.tw8575759535501110717 : Nat := 0
def PySem.W.Fast.tw17226419763299327944 : Nat := 0
def PySem.W.Fast.tw15570029348278855438 : Nat := 0
def PySem.W.Fast.tw8021937816788851730 : Nat := 0
def PySem.W.Fast.tw2202205732539467681 : Nat := 0
def PySem.W.Fast.tw13976603470467216241 : Nat := 0
def PySem.W.Fast.tw8454500504073989620 : Nat := 0
def PySem.W.Fast.tw3779695897158166880 : Nat := 0
def PySem.W.Fast.tw2152636474436994504 : Nat := 0
def PySem.W.Fast.tw3322902446591445626 : Nat := 0
def PySem.W.Fast.tw6159969965053106831 : Nat := 0
def PySem.W.Fast.tw3065368912037837290 : Nat := 0
def PySem.W.Fast.tw282080820889200561 : Nat := 0
def PySem.W.Fast.tw7527576359016351768 : Nat := 0
def PySem.W.Fast.tw16988684231055620211 : Nat := 0
def PySem.W.Fast.tw8041938839875276869 : Nat := 0
def PySem.W.Fast.tw15171337037489042704 : Nat := 0
def PySem.W.Fast.tw1602288682144051778 : Nat := 0
def PySem.W.Fast.tw4363266947417689386 : Nat := 0
def PySem.W.Fast.tw5629011064852822520 : Nat := 0
def PySem.W.Fast.tw401012861510919413 : Nat := 0
def PySem.W.Fast.tw7677478173610753913 : Nat := 0
def PySem.W.Fast.tw13932174633583973755 : Nat := 0
def PySem.W.Fast.tw1237762274868429611 : Nat := 0
def PySem.W.Fast.tw17168015112372893638 : Nat := 0
def PySem.W.Fast.tw12286198003007846524 : Nat := 0
def PySem.W.Fast.tw15980626659972561850 : Nat := 0
def PySem.W.Fast.tw17758573290509244464 : Nat := 0
def PySem.W.Fast.tw11470195814044076057 : Nat := 0
def PySem.W.Fast.tw2870270363571126588 : Nat := 0
def PySem.W.Fast.tw4654808334382629220 : Nat := 0
def PySem.W.Fast.tw17684339584698980243 : Nat := 0
def PySem.W.Fast.tw9467190600530177935 : Nat := 0
def PySem.W.Fast.tw16747361905072117022 : Nat := 0
def PySem.W.Fast.tw3320319998759296491 : Nat := 0
def PySem.W.Fast.tw14457146280752978684 : Nat := 0
def PySem.W.Fast.tw1697517657742601394 : Nat := 0
def PySem.W.Fast.tw2790600123308291428 : Nat := 0
def PySem.W.Fast.tw9361260871576760700 : Nat := 0
def PySem.W.Fast.tw3196098993315857433 : Nat := 0
def PySem.W.Fast.tw5937183696183705773 : Nat := 0
def PySem.W.Fast.tw7475948141911787169 : Nat := 0
def PySem.W.Fast.tw8714637331358389028 : Nat := 0
def PySem.W.Fast.tw4966480925460655100 : Nat := 0
def PySem.W.Fast.tw13071934405517975020 : Nat := 0
def PySem.W.Fast.tw18391982041041943828 : Nat := 0
def PySem.W.Fast.tw10506122616212162267 : Nat := 0
def PySem.W.Fast.tw8043963314680333511 : Nat := 0
def PySem.W.Fast.tw5218987904817403236 : Nat := 0
def PySem.W.Fast.tw14985215683441165057 : Nat := 0
def PySem.W.Fast.tw12471549128656190902 : Nat := 0
def PySem.W.Fast.tw13320829707510181817 : Nat := 0
def PySem.W.Fast.tw15076978448732693329 : Nat := 0
def PySem.W.Fast.tw1751402128276304235 : Nat := 0
def PySem.W.Fast.tw7407074835674062923 : Nat := 0
def PySem.W.Fast.tw4219537498817728331 : Nat := 0
def PySem.W.Fast.tw1969880626048993834 : Nat := 0
def PySem.W.Fast.tw11451168514352688292 : Nat := 0
def PySem.W.Fast.tw16421912468388600576 : Nat := 0
def PySem.W.Fast.tw5555868129623258936 : Nat := 0
def PySem.W.Fast.tw14030965375329164580 : Nat := 0
def PySem.W.Fast.tw2231124411131897304 : Nat := 0
def PySem.W.Fast.tw13746824465745457350 : Nat := 0
def PySem.W.Fast.tw14937870642075517849 : Nat := 0
def PySem.W.Fast.tw8386321920370483463 : Nat := 0
def PySem.W.Fast.tw10587456824754935943 : Nat := 0
def PySem.W.Fast.tw9240458752468175611 : Nat := 0
def PySem.W.Fast.tw3974232819653455093 : Nat := 0
def PySem.W.Fast.tw10959347530128343701 : Nat := 0
def PySem.W.Fast.tw16865305698966357739 : Nat := 0
def PySem.W.Fast.tw12027851638038720826 : Nat := 0
def PySem.W.Fast.tw12397635397969060372 : Nat := 0
def PySem.W.Fast.tw12833193670646153195 : Nat := 0
def PySem.W.Fast.tw10653539555366965023 : Nat := 0
def PySem.W.Fast.tw15322506314794477875 : Nat := 0
def PySem.W.Fast.tw2436258565100064623 : Nat := 0
def PySem.W.Fast.tw8612211152008283280 : Nat := 0
def PySem.W.Fast.tw5902092832329077977 : Nat := 0
def PySem.W.Fast.tw11130720037741035371 : Nat := 0
def PySem.W.Fast.tw4525443991500833812 : Nat := 0
def PySem.W.Fast.tw13542264533026542125 : Nat := 0
def PySem.W.Fast.tw921409011373293080 : Nat := 0
def PySem.W.Fast.tw16976641421074416530 : Nat := 0
def PySem.W.Fast.tw5387205519534023697 : Nat := 0
def PySem.W.Fast.tw7732653860316278036 : Nat := 0
def PySem.W.Fast.tw13077372297069152111 : Nat := 0
def PySem.W.Fast.tw3544223536981008858 : Nat := 0
def PySem.W.Fast.tw5309203212313769303 : Nat := 0
def PySem.W.Fast.tw2152141257617092418 : Nat := 0
def PySem.W.Fast.tw4582882004497591182 : Nat := 0
def PySem.W.Fast.tw784827792514359401 : Nat := 0
def PySem.W.Fast.tw13683849958432535785 : Nat := 0
def PySem.W.Fast.tw3120476451461487369 : Nat := 0
def PySem.W.Fast.tw8614888358463432017 : Nat := 0
def PySem.W.Fast.tw5818474877971193457 : Nat := 0
def PySem.W.Fast.tw14041839738562010612 : Nat := 0
def PySem.W.Fast.tw13500657547775064285 : Nat := 0
def PySem.W.Fast.tw7160400551122152654 : Nat := 0
def PySem.W.Fast.tw15286729608525360676 : Nat := 0
def PySem.W.Fast.tw16051308645417075052 : Nat := 0
def PySem.W.Fast.tw16300739885878823903 : Nat := 0
def PySem.W.Fast.tw12992269632779684952 : Nat := 0
def PySem.W.Fast.tw11172522427416927298 : Nat := 0
def PySem.W.Fast.tw5298069353126040595 : Nat := 0
def PySem.W.Fast.tw5008236775092603785 : Nat := 0
def PySem.W.Fast.tw15587741186374397683 : Nat := 0
def PySem.W.Fast.tw3644102784903491140 : Nat := 0
def PySem.W.Fast.tw18021903790031272066 : Nat := 0
def PySem.W.Fast.tw2600975478221788927 : Nat := 0
def PySem.W.Fast.tw6917017039060964093 : Nat := 0
def PySem.W.Fast.tw6372388982455511500 : Nat := 0
def PySem.W.Fast.tw5861396784242191606 : Nat := 0
def PySem.W.Fast.tw15129155423835352473 : Nat := 0
def PySem.W.Fast.tw3073076249899818741 : Nat := 0
def PySem.W.Fast.tw4168157853566037529 : Nat := 0
def PySem.W.Fast.tw1092498365374999657 : Nat := 0
def PySem.W.Fast.tw13601559731490543579 : Nat := 0
def PySem.W.Fast.tw12462182353002102023 : Nat := 0
def PySem.W.Fast.tw13696124751275427789 : Nat := 0
def PySem.W.Fast.tw5472234441550026587 : Nat := 0
def PySem.W.Fast.tw13342967511880056361 : Nat := 0
def PySem.W.Fast.tw785286921278809516 : Nat := 0
def PySem.W.Fast.tw7834133347807895065 : Nat := 0
def PySem.W.Fast.tw15125518350279618925 : Nat := 0
def PySem.W.Fast.tw17162387334926149038 : Nat := 0
def PySem.W.Fast.tw14298992380567407071 : Nat := 0
def PySem.W.Fast.tw8641740028816577780 : Nat := 0
def PySem.W.Fast.tw8369014691698188857 : Nat := 0
def PySem.W.Fast.tw2160480200134146172 : Nat := 0
def PySem.W.Fast.tw10037649061831021685 : Nat := 0
def PySem.W.Fast.tw16903847180382793797 : Nat := 0
def PySem.W.Fast.tw14967701386838362279 : Nat := 0
def PySem.W.Fast.tw5918281459146854399 : Nat := 0
def PySem.W.Fast.tw3004222626828101160 : Nat := 0
def PySem.W.Fast.tw18014126281117148857 : Nat := 0
def PySem.W.Fast.tw8933429169146832453 : Nat := 0
def PySem.W.Fast.tw16905391807063965538 : Nat := 0
def PySem.W.Fast.tw332843805710776058 : Nat := 0
def PySem.W.Fast.tw4219826437638962736 : Nat := 0
def PySem.W.Fast.tw11058784897432228412 : Nat := 0
def PySem.W.Fast.tw7253380012553334657 : Nat := 0
def PySem.W.Fast.tw8274395503895504396 : Nat := 0
def PySem.W.Fast.tw16436961714567370239 : Nat := 0
def PySem.W.Fast.tw17151443698418465411 : Nat := 0
def PySem.W.Fast.tw7685441772599111707 : Nat := 0
def PySem.W.Fast.tw2581795499852400434 : Nat := 0
def PySem.W.Fast.tw10231079072187475029 : Nat := 0
def PySem.W.Fast.tw12630935589154128211 : Nat := 0
def PySem.W.Fast.tw15615212559858401160 : Nat := 0
def PySem.W.Fast.tw2546267944932859554 : Nat := 0
def PySem.W.Fast.tw17227481859532844123 : Nat := 0
def PySem.W.Fast.tw4639082120777744634 : Nat := 0
def PySem.W.Fast.tw1464606183130763000 : Nat := 0
def PySem.W.Fast.tw2039407642605581962 : Nat := 0
def PySem.W.Fast.tw3708156458230991404 : Nat := 0
def PySem.W.Fast.tw12074439043837983025 : Nat := 0
def PySem.W.Fast.tw12919528630971377360 : Nat := 0
def PySem.W.Fast.tw7343371705272346460 : Nat := 0
def PySem.W.Fast.tw3160855531292859110 : Nat := 0
def PySem.W.Fast.tw18189360624847982437 : Nat := 0
def PySem.W.Fast.tw2914223685253107674 : Nat := 0
def PySem.W.Fast.tw6641901940465129387 : Nat := 0
def PySem.W.Fast.tw13259899844156630522 : Nat := 0
def PySem.W.Fast.tw734493230882136302 : Nat := 0
def PySem.W.Fast.tw4352241886045617744 : Nat := 0
def PySem.W.Fast.tw9072822804580782247 : Nat := 0
def PySem.W.Fast.tw14299001228968205395 : Nat := 0
def PySem.W.Fast.tw9714324273439129414 : Nat := 0
def PySem.W.Fast.tw2113380055467405056 : Nat := 0
def PySem.W.Fast.tw898934107850079276 : Nat := 0
def PySem.W.Fast.tw16872964325769196396 : Nat := 0
def PySem.W.Fast.tw13368913728500400415 : Nat := 0
def PySem.W.Fast.tw8190159334144929541 : Nat := 0
def PySem.W.Fast.tw13529355005593653185 : Nat := 0
def PySem.W.Fast.tw3070437530083680359 : Nat := 0
def PySem.W.Fast.tw7602168651523208249 : Nat := 0
def PySem.W.Fast.tw1956803134079003623 : Nat := 0
def PySem.W.Fast.tw5276019292988720259 : Nat := 0
def PySem.W.Fast.tw8599749209682376412 : Nat := 0
def PySem.W.Fast.tw12104912898513716925 : Nat := 0
def PySem.W.Fast.tw7232347484032987840 : Nat := 0
def PySem.W.Fast.tw13723121718778894997 : Nat := 0
def PySem.W.Fast.tw10484493736423961491 : Nat := 0
def PySem.W.Fast.tw18029383330714977158 : Nat := 0
def PySem.W.Fast.tw7407614363325432866 : Nat := 0
def PySem.W.Fast.tw3850548723670802495 : Nat := 0
def PySem.W.Fast.tw7831533524616023645 : Nat := 0
def PySem.W.Fast.tw15774750560742278168 : Nat := 0
def PySem.W.Fast.tw7152260742753518958 : Nat := 0
def PySem.W.Fast.tw7634727293432402556 : Nat := 0
def PySem.W.Fast.tw7796587354453329640 : Nat := 0
def PySem.W.Fast.tw985102184660139083 : Nat := 0
def PySem.W.Fast.tw12164434667538533633 : Nat := 0
def PySem.W.Fast.tw9785795590541482887 : Nat := 0
def PySem.W.Fast.tw2437827357790400203 : Nat := 0
def PySem.W.Fast.tw8816433804782660304 : Nat := 0
def PySem.W.Fast.tw2937412235286703746 : Nat := 0
def PySem.W.Fast.tw16249719584914777639 : Nat := 0
def PySem.W.Fast.tw10908286013318732814 : Nat := 0
def PySem.W.Fast.tw15494342312921373513 : Nat := 0
def PySem.W.Fast.tw5273372576232421894 : Nat := 0
def PySem.W.Fast.tw11881287889419808058 : Nat := 0
def PySem.W.Fast.tw4494267620916490679 : Nat := 0
def PySem.W.Fast.tw699121862463050011 : Nat := 0
def PySem.W.Fast.tw7722527734722727555 : Nat := 0
def PySem.W.Fast.tw4699660560340529281 : Nat := 0
def PySem.W.Fast.tw8783309455717766552 : Nat := 0
def PySem.W.Fast.tw11031911327542168534 : Nat := 0
def PySem.W.Fast.tw3946246027855444308 : Nat := 0
def PySem.W.Fast.tw1220207039582544166 : Nat := 0
def PySem.W.Fast.tw6238671551643822879 : Nat := 0
def PySem.W.Fast.tw10253602139620426241 : Nat := 0
def PySem.W.Fast.tw9213784721229371737 : Nat := 0
def PySem.W.Fast.tw9518135349412693029 : Nat := 0
def PySem.W.Fast.tw4509725006425489619 : Nat := 0
def PySem.W.Fast.tw15120530995902661643 : Nat := 0
def PySem.W.Fast.tw9596276001625503171 : Nat := 0
def PySem.W.Fast.tw9659919183444172770 : Nat := 0
def PySem.W.Fast.tw16807293317794282094 : Nat := 0
def PySem.W.Fast.tw5678041974065425251 : Nat := 0
def PySem.W.Fast.tw14273538633903167154 : Nat := 0
def PySem.W.Fast.tw5245484322090395108 : Nat := 0
def PySem.W.Fast.tw8311374955111193426 : Nat := 0
def PySem.W.Fast.tw15390318340964136096 : Nat := 0
def PySem.W.Fast.tw7788511070066707768 : Nat := 0
def PySem.W.Fast.tw12196582664773145068 : Nat := 0
def PySem.W.Fast.tw6605074093233518911 : Nat := 0
def PySem.W.Fast.tw17511744959608820831 : Nat := 0
def PySem.W.Fast.tw7900680274328309480 : Nat := 0
def PySem.W.Fast.tw1461500258774448760 : Nat := 0
def PySem.W.Fast.tw1355723653255104246 : Nat := 0
def PySem.W.Fast.tw267318806231139102 : Nat := 0
def PySem.W.Fast.tw16809752541742367795 : Nat := 0
def PySem.W.Fast.tw10982006766475193765 : Nat := 0
def PySem.W.Fast.tw14850659932115699434 : Nat := 0
def PySem.W.Fast.tw15714123132097902293 : Nat := 0
def PySem.W.Fast.tw6809519463253496430 : Nat := 0
def PySem.W.Fast.tw5043902300411350938 : Nat := 0
def PySem.W.Fast.tw8343564122101898991 : Nat := 0
def PySem.W.Fast.tw896921717094152555 : Nat := 0
def PySem.W.Fast.tw8828931593338009543 : Nat := 0
def PySem.W.Fast.tw4489957191736247993 : Nat := 0
def PySem.W.Fast.tw17801804372090476694 : Nat := 0
def PySem.W.Fast.tw1906484823445616073 : Nat := 0
def PySem.W.Fast.tw12836121289590185132 : Nat := 0
def PySem.W.Fast.tw78839656795012384 : Nat := 0
def PySem.W.Fast.tw11406591767742772987 : Nat := 0
def PySem.W.Fast.tw1282953068264590227 : Nat := 0
def PySem.W.Fast.tw4070539387755931993 : Nat := 0
def PySem.W.Fast.tw9116267531659984657 : Nat := 0
def PySem.W.Fast.tw4741616526572045852 : Nat := 0
def PySem.W.Fast.tw14767289536143940977 : Nat := 0
def PySem.W.Fast.tw31531790855014505 : Nat := 0
def PySem.W.Fast.tw3327758574981304056 : Nat := 0
def PySem.W.Fast.tw11798744804291011839 : Nat := 0
def PySem.W.Fast.tw5989743051726645099 : Nat := 0
def PySem.W.Fast.tw8768533946775687237 : Nat := 0
def PySem.W.Fast.tw10961505439455643033 : Nat := 0
def PySem.W.Fast.tw4796618595083052282 : Nat := 0
def PySem.W.Fast.tw11710864276193798672 : Nat := 0
def PySem.W.Fast.tw8330874163184643775 : Nat := 0
def PySem.W.Fast.tw14564283252921144452 : Nat := 0
def PySem.W.Fast.tw11002232348289065217 : Nat := 0
def PySem.W.Fast.tw15109542236853198886 : Nat := 0
def PySem.W.Fast.tw1391680982166863594 : Nat := 0
def PySem.W.Fast.tw6837519334855045351 : Nat := 0
def PySem.W.Fast.tw11490341533573467474 : Nat := 0
def PySem.W.Fast.tw18319995438150118234 : Nat := 0
def PySem.W.Fast.tw492377761904708744 : Nat := 0
def PySem.W.Fast.tw16551407876408623321 : Nat := 0
def PySem.W.Fast.tw4933402130626771067 : Nat := 0
def PySem.W.Fast.tw12751227282649351202 : Nat := 0
def PySem.W.Fast.tw36142004600450046 : Nat := 0
def PySem.W.Fast.tw12709410809226223784 : Nat := 0
def PySem.W.Fast.tw2826237453436290829 : Nat := 0
def PySem.W.Fast.tw6024409791103827332 : Nat := 0
def PySem.W.Fast.tw11400309163062865673 : Nat := 0
def PySem.W.Fast.tw18292106214800291849 : Nat := 0
def PySem.W.Fast.tw8890642079668472704 : Nat := 0
def PySem.W.Fast.tw4320407223997999667 : Nat := 0
def PySem.W.Fast.tw8368403051089735607 : Nat := 0
def PySem.W.Fast.tw146519749244688147 : Nat := 0
def PySem.W.Fast.tw16584778043499232695 : Nat := 0
def PySem.W.Fast.tw5061398840633645643 : Nat := 0
def PySem.W.Fast.tw18008223334965433067 : Nat := 0
def PySem.W.Fast.tw8258319241039264198 : Nat := 0
def PySem.W.Fast.tw1991470420314953598 : Nat := 0
def PySem.W.Fast.tw11120932342767918076 : Nat := 0
def PySem.W.Fast.tw9277871826959437671 : Nat := 0
def PySem.W.Fast.tw10547457510254453603 : Nat := 0
def PySem.W.Fast.tw16436889324039572453 : Nat := 0
def PySem.W.Fast.tw6760043232301607774 : Nat := 0
def PySem.W.Fast.tw11664144842526321195 : Nat := 0
def PySem.W.Fast.tw18225155386140422399 : Nat := 0
def PySem.W.Fast.tw5135587890494809720 : Nat := 0
def PySem.W.Fast.tw10288368471813613982 : Nat := 0
def PySem.W.Fast.tw5806303859073840136 : Nat := 0
def PySem.W.Fast.tw18242032611250897341 : Nat := 0
def PySem.W.Fast.tw2293384571034480000 : Nat := 0
def PySem.W.Fast.tw13174316596154507712 : Nat := 0
def PySem.W.Fast.tw11450584301866244360 : Nat := 0
def PySem.W.Fast.tw11897602173897583546 : Nat := 0
def PySem.W.Fast.tw9689808927340584863 : Nat := 0
def PySem.W.Fast.tw4031983623004699659 : Nat := 0
def PySem.W.Fast.tw4428301637729092784 : Nat := 0
def PySem.W.Fast.tw10508765147275429450 : Nat := 0
def PySem.W.Fast.tw18305425828439177673 : Nat := 0
def PySem.W.Fast.tw7132781530725013480 : Nat := 0
def PySem.W.Fast.tw9045700210602275348 : Nat := 0
def PySem.W.Fast.tw229792241529975273 : Nat := 0
def PySem.W.Fast.tw8988860581672767378 : Nat := 0
def PySem.W.Fast.tw5353174915082544817 : Nat := 0
def PySem.W.Fast.tw15170399919844292644 : Nat := 0
def PySem.W.Fast.tw115869556250838555 : Nat := 0
def PySem.W.Fast.tw13292156880958540556 : Nat := 0
def PySem.W.Fast.tw3077171443357789775 : Nat := 0
def PySem.W.Fast.tw675394011465183762 : Nat := 0
def PySem.W.Fast.tw8037002892947447080 : Nat := 0
def PySem.W.Fast.tw16418735473458641671 : Nat := 0
def PySem.W.Fast.tw9736972330478861864 : Nat := 0
def PySem.W.Fast.tw7012314781702267768 : Nat := 0
def PySem.W.Fast.tw194498668244874068 : Nat := 0
def PySem.W.Fast.tw5753281863521454381 : Nat := 0
def PySem.W.Fast.tw7933688063619166345 : Nat := 0
def PySem.W.Fast.tw14794742863408140981 : Nat := 0
def PySem.W.Fast.tw16287291771426639391 : Nat := 0
def PySem.W.Fast.tw2250434162965687365 : Nat := 0
def PySem.W.Fast.tw1739828845757141876 : Nat := 0
def PySem.W.Fast.tw3800058160564048141 : Nat := 0
def PySem.W.Fast.tw5933661829361388654 : Nat := 0
def PySem.W.Fast.tw12461342243898327377 : Nat := 0
def PySem.W.Fast.tw3650219661276903515 : Nat := 0
def PySem.W.Fast.tw5676770037291109531 : Nat := 0
def PySem.W.Fast.tw1234718509275912617 : Nat := 0
def PySem.W.Fast.tw5560922326950573729 : Nat := 0
def PySem.W.Fast.tw16955316108755388327 : Nat := 0
def PySem.W.Fast.tw1454876004132488955 : Nat := 0
def PySem.W.Fast.tw15998226817964264790 : Nat := 0
def PySem.W.Fast.tw14127201665806983813 : Nat := 0
def PySem.W.Fast.tw8536304056790225468 : Nat := 0
def PySem.W.Fast.tw15465642760161341820 : Nat := 0
def PySem.W.Fast.tw4743962561126346669 : Nat := 0
def PySem.W.Fast.tw13239157559740897914 : Nat := 0
def PySem.W.Fast.tw1264740445293379357 : Nat := 0
def PySem.W.Fast.tw12521473726520856611 : Nat := 0
def PySem.W.Fast.tw4368509364053807830 : Nat := 0
def PySem.W.Fast.tw4768426570780355630 : Nat := 0
def PySem.W.Fast.tw2561721504156418899 : Nat := 0
def PySem.W.Fast.tw4286379683729750370 : Nat := 0
def PySem.W.Fast.tw8337955044727470350 : Nat := 0
def PySem.W.Fast.tw17006158848068912863 : Nat := 0
def PySem.W.Fast.tw85206444646304100 : Nat := 0
def PySem.W.Fast.tw6046199914438475636 : Nat := 0
def PySem.W.Fast.tw1644417219808255012 : Nat := 0
def PySem.W.Fast.tw13676724254376092971 : Nat := 0
def PySem.W.Fast.tw14449457322403178288 : Nat := 0
def PySem.W.Fast.tw17515282737271155841 : Nat := 0
def PySem.W.Fast.tw15531015010076393301 : Nat := 0
def PySem.W.Fast.tw16597762005107942502 : Nat := 0
def PySem.W.Fast.tw1624766785244924124 : Nat := 0
def PySem.W.Fast.tw10141714723035643598 : Nat := 0
def PySem.W.Fast.tw3356654691458956879 : Nat := 0
def PySem.W.Fast.tw8925019923123608845 : Nat := 0
def PySem.W.Fast.tw990398962185535083 : Nat := 0
def PySem.W.Fast.tw1533844884438276360 : Nat := 0
def PySem.W.Fast.tw8055646365865962734 : Nat := 0
def PySem.W.Fast.tw17080661023787501961 : Nat := 0
def PySem.W.Fast.tw5764286183049704868 : Nat := 0
def PySem.W.Fast.tw281555587137384102 : Nat := 0
def PySem.W.Fast.tw710074862885382836 : Nat := 0
def PySem.W.Fast.tw13888091545840823478 : Nat := 0
def PySem.W.Fast.tw4532020250998635027 : Nat := 0
def PySem.W.Fast.tw7891848887686776153 : Nat := 0
def PySem.W.Fast.tw5436347246020486819 : Nat := 0
def PySem.W.Fast.tw891151658826481486 : Nat := 0
def PySem.W.Fast.tw15504848267785996398 : Nat := 0
def PySem.W.Fast.tw3021849838281756910 : Nat := 0
def PySem.W.Fast.tw14873281027586121147 : Nat := 0
def PySem.W.Fast.tw4967683304137875724 : Nat := 0
def PySem.W.Fast.tw10982966720363537791 : Nat := 0
def PySem.W.Fast.tw17503115317087407175 : Nat := 0
def PySem.W.Fast.tw846761350388779877 : Nat := 0
def PySem.W.Fast.tw1519384766210324399 : Nat := 0
def PySem.W.Fast.tw6274729004310044425 : Nat := 0
def PySem.W.Fast.tw243302787189699402 : Nat := 0
def PySem.W.Fast.tw7822517327458149582 : Nat := 0
def PySem.W.Fast.tw7157220202028763282 : Nat := 0
def PySem.W.Fast.tw1565303929988888983 : Nat := 0
def PySem.W.Fast.tw2312975985364693964 : Nat := 0
def PySem.W.Fast.tw1431609374822383162 : Nat := 0
def PySem.W.Fast.tw1502154406030443771 : Nat := 0
def PySem.W.Fast.tw14773235840876338266 : Nat := 0
def PySem.W.Fast.tw17666482959548517797 : Nat := 0
def PySem.W.Fast.tw17067761633766696563 : Nat := 0
def PySem.W.Fast.tw8524771290604091414 : Nat := 0
def PySem.W.Fast.tw9746511049099696885 : Nat := 0
def PySem.W.Fast.tw9102513636369530045 : Nat := 0
def PySem.W.Fast.tw7886954183763213703 : Nat := 0
def PySem.W.Fast.tw15742658739774824674 : Nat := 0
def PySem.W.Fast.tw3608325090129906694 : Nat := 0
def PySem.W.Fast.tw14306168803919557154 : Nat := 0
def PySem.W.Fast.tw14939416556380026194 : Nat := 0
def PySem.W.Fast.tw13573518155065725799 : Nat := 0
def PySem.W.Fast.tw8474835719345547556 : Nat := 0
def PySem.W.Fast.tw16843522923683411206 : Nat := 0
def PySem.W.Fast.tw5593419418480244106 : Nat := 0
def PySem.W.Fast.tw15782871717286914269 : Nat := 0
def PySem.W.Fast.tw2604730125025224693 : Nat := 0
def PySem.W.Fast.tw16570647339678534906 : Nat := 0
def PySem.W.Fast.tw11306137647114152136 : Nat := 0
def PySem.W.Fast.tw11852246583337540125 : Nat := 0
def PySem.W.Fast.tw8845025005711168523 : Nat := 0
def PySem.W.Fast.tw8256015928593799408 : Nat := 0
def PySem.W.Fast.tw2720798582007805625 : Nat := 0
def PySem.W.Fast.tw3612978078666692625 : Nat := 0
def PySem.W.Fast.tw5227809810745502868 : Nat := 0
def PySem.W.Fast.tw16213049726349988729 : Nat := 0
def PySem.W.Fast.tw10454080152917057378 : Nat := 0
def PySem.W.Fast.tw10661551375545633483 : Nat := 0
def PySem.W.Fast.tw1310990571075227943 : Nat := 0
def PySem.W.Fast.tw6291599582120908984 : Nat := 0
def PySem.W.Fast.tw1790681537960357494 : Nat := 0
def PySem.W.Fast.tw4217536525719405464 : Nat := 0
def PySem.W.Fast.tw9397623546658944586 : Nat := 0
def PySem.W.Fast.tw7395508463289401427 : Nat := 0
def PySem.W.Fast.tw1157504347432742472 : Nat := 0
def PySem.W.Fast.tw9401182696759083091 : Nat := 0
def PySem.W.Fast.tw3730812584803652516 : Nat := 0
def PySem.W.Fast.tw8815319701727034578 : Nat := 0
def PySem.W.Fast.tw17801525698896896287 : Nat := 0
def PySem.W.Fast.tw5997929353536439518 : Nat := 0
def PySem.W.Fast.tw2941375448509647253 : Nat := 0
def PySem.W.Fast.tw6098211022486286200 : Nat := 0
def PySem.W.Fast.tw9367381277339191526 : Nat := 0
def PySem.W.Fast.tw4342535545884028979 : Nat := 0
def PySem.W.Fast.tw15734097657885442445 : Nat := 0
def PySem.W.Fast.tw13719363193926928542 : Nat := 0
def PySem.W.Fast.tw14583523808235153572 : Nat := 0
def PySem.W.Fast.tw12346112563895351033 : Nat := 0
def PySem.W.Fast.tw5312275568866750778 : Nat := 0
def PySem.W.Fast.tw18368703134386250759 : Nat := 0
def PySem.W.Fast.tw11793093772096026750 : Nat := 0
def PySem.W.Fast.tw11647779873371154714 : Nat := 0
def PySem.W.Fast.tw13751899848256970994 : Nat := 0
def PySem.W.Fast.tw5190134481584114187 : Nat := 0
def PySem.W.Fast.tw5095538309802459707 : Nat := 0
def PySem.W.Fast.tw16181376705460093062 : Nat := 0
def PySem.W.Fast.tw8986056531261265678 : Nat := 0
def PySem.W.Fast.tw14888503055713466376 : Nat := 0
def PySem.W.Fast.tw11737878133785543310 : Nat := 0
def PySem.W.Fast.tw4574295480905686785 : Nat := 0
def PySem.W.Fast.tw5300170956844605908 : Nat := 0
def PySem.W.Fast.tw11048606764194458926 : Nat := 0
def PySem.W.Fast.tw17154246777365244984 : Nat := 0
def PySem.W.Fast.tw12000104956022437691 : Nat := 0
def PySem.W.Fast.tw14256646379539576004 : Nat := 0
def PySem.W.Fast.tw8411122884146115497 : Nat := 0
def PySem.W.Fast.tw15185656017365746912 : Nat := 0
def PySem.W.Fast.tw3431044124630660397 : Nat := 0
def PySem.W.Fast.tw4727816700060633348 : Nat := 0
def PySem.W.Fast.tw3941118768405830690 : Nat := 0
def PySem.W.Fast.tw11497872122703814466 : Nat := 0
def PySem.W.Fast.tw917037745309114324 : Nat := 0
def PySem.W.Fast.tw17163525547654775567 : Nat := 0
def PySem.W.Fast.tw16715835054318154864 : Nat := 0
def PySem.W.Fast.tw4683392609361818798 : Nat := 0
def PySem.W.Fast.tw3715473513796245570 : Nat := 0
def PySem.W.Fast.tw12017724466223942504 : Nat := 0
def PySem.W.Fast.tw1772173529991988672 : Nat := 0
def PySem.W.Fast.tw7014743232661943255 : Nat := 0
def PySem.W.Fast.tw18154502863148699251 : Nat := 0
def PySem.W.Fast.tw5692593225869903705 : Nat := 0
def PySem.W.Fast.tw11524990682760220217 : Nat := 0
def PySem.W.Fast.tw6356451136196840281 : Nat := 0
def PySem.W.Fast.tw6932087529573388434 : Nat := 0
def PySem.W.Fast.tw14331731825286812283 : Nat := 0
def PySem.W.Fast.tw12712203710775211034 : Nat := 0
def PySem.W.Fast.tw14369969243122388831 : Nat := 0
def PySem.W.Fast.tw9206249335431828730 : Nat := 0
def PySem.W.Fast.tw2767797450719870114 : Nat := 0
def PySem.W.Fast.tw15853326454387486340 : Nat := 0
def PySem.W.Fast.tw12992864097841352082 : Nat := 0
def PySem.W.Fast.tw16720050056181124752 : Nat := 0
def PySem.W.Fast.tw5963160498159076117 : Nat := 0
def PySem.W.Fast.tw1208546543642104060 : Nat := 0
def PySem.W.Fast.tw6340005110464258956 : Nat := 0
def PySem.W.Fast.tw351482626805167062 : Nat := 0
def PySem.W.Fast.tw8456862639468491621 : Nat := 0
def PySem.W.Fast.tw6659419631949426778 : Nat := 0
def PySem.W.Fast.tw12938912455829594628 : Nat := 0
def PySem.W.Fast.tw12076382748372930657 : Nat := 0
def PySem.W.Fast.tw16707928198203621827 : Nat := 0
def PySem.W.Fast.tw13016178242410603702 : Nat := 0
def PySem.W.Fast.tw16377738867006099240 : Nat := 0
def PySem.W.Fast.tw11629258964662379413 : Nat := 0
def PySem.W.Fast.tw7252932766701622821 : Nat := 0
def PySem.W.Fast.tw1935929937733975262 : Nat := 0
def PySem.W.Fast.tw1846089766407560896 : Nat := 0
def PySem.W.Fast.tw8675628322916816996 : Nat := 0
def PySem.W.Fast.tw12386816533762509977 : Nat := 0
def PySem.W.Fast.tw10685598540143762954 : Nat := 0
def PySem.W.Fast.tw9462187514707433547 : Nat := 0
def PySem.W.Fast.tw15011335820403487236 : Nat := 0
def PySem.W.Fast.tw3702260475022189239 : Nat := 0
def PySem.W.Fast.tw13788339277073467314 : Nat := 0
def PySem.W.Fast.tw11496207242997821616 : Nat := 0
def PySem.W.Fast.tw12384647261388168220 : Nat := 0
def PySem.W.Fast.tw15360727396347860037 : Nat := 0
def PySem.W.Fast.tw8125350713912998239 : Nat := 0
def PySem.W.Fast.tw12949083519646249233 : Nat := 0
def PySem.W.Fast.tw11757236732656161652 : Nat := 0
def PySem.W.Fast.tw9930096905199491809 : Nat := 0
def PySem.W.Fast.tw17475851243951680127 : Nat := 0
def PySem.W.Fast.tw8975770390515852475 : Nat := 0
def PySem.W.Fast.tw801158177937941865 : Nat := 0
def PySem.W.Fast.tw14761732804931601283 : Nat := 0
def PySem.W.Fast.tw18238791720352548531 : Nat := 0
def PySem.W.Fast.tw1724540485246681425 : Nat := 0
def PySem.W.Fast.tw6519575547489751974 : Nat := 0
def PySem.W.Fast.tw7548894099854221988 : Nat := 0
def PySem.W.Fast.tw8082109412036397159 : Nat := 0
def PySem.W.Fast.tw450351075615396002 : Nat := 0
def PySem.W.Fast.tw3413755128405163627 : Nat := 0
def PySem.W.Fast.tw17339290981261839103 : Nat := 0
def PySem.W.Fast.tw5907786114982550963 : Nat := 0
def PySem.W.Fast.tw7427184945372232230 : Nat := 0
def PySem.W.Fast.tw3593677238501679914 : Nat := 0
def PySem.W.Fast.tw4051539102580535990 : Nat := 0
def PySem.W.Fast.tw1067361274147079476 : Nat := 0
def PySem.W.Fast.tw7838445514575782254 : Nat := 0
def PySem.W.Fast.tw14309679486252226237 : Nat := 0
def PySem.W.Fast.tw11936002557459862668 : Nat := 0
def PySem.W.Fast.tw4946577746324336227 : Nat := 0
def PySem.W.Fast.tw7917502254798482025 : Nat := 0
def PySem.W.Fast.tw14594669491533876402 : Nat := 0
def PySem.W.Fast.tw13754461425296640598 : Nat := 0
def PySem.W.Fast.tw11764177086746018094 : Nat := 0
def PySem.W.Fast.tw12106481882368188942 : Nat := 0
def PySem.W.Fast.tw9609786307186997894 : Nat := 0
def PySem.W.Fast.tw7656506870063174724 : Nat := 0
def PySem.W.Fast.tw5327796054679889593 : Nat := 0
def PySem.W.Fast.tw7514760250044510011 : Nat := 0
def PySem.W.Fast.tw10030386541947007106 : Nat := 0
def PySem.W.Fast.tw5323678888183490965 : Nat := 0
def PySem.W.Fast.tw9928077078693746148 : Nat := 0
def PySem.W.Fast.tw6524798378913621307 : Nat := 0
def PySem.W.Fast.tw10008970061236937071 : Nat := 0
def PySem.W.Fast.tw7303115164018940090 : Nat := 0
def PySem.W.Fast.tw5029597460028111741 : Nat := 0
def PySem.W.Fast.tw1604878762790470275 : Nat := 0
def PySem.W.Fast.tw14247928237911831600 : Nat := 0
def PySem.W.Fast.tw1241474608936756100 : Nat := 0
def PySem.W.Fast.tw16016336579433712205 : Nat := 0
def PySem.W.Fast.tw1989214698750049901 : Nat := 0
def PySem.W.Fast.tw8698801662034980345 : Nat := 0
def PySem.W.Fast.tw9475216090916171765 : Nat := 0
def PySem.W.Fast.tw1771453429190886860 : Nat := 0
def PySem.W.Fast.tw14449697861794410992 : Nat := 0
def PySem.W.Fast.tw10907927201944851855 : Nat := 0
def PySem.W.Fast.tw4782930833410794106 : Nat := 0
def PySem.W.Fast.tw16314604574559398986 : Nat := 0
def PySem.W.Fast.tw12592424114867259037 : Nat := 0
def PySem.W.Fast.tw540648769577880771 : Nat := 0
def PySem.W.Fast.tw17727943298217305119 : Nat := 0
def PySem.W.Fast.tw11757777335658737077 : Nat := 0
def PySem.W.Fast.tw585371422914733608 : Nat := 0
def PySem.W.Fast.tw2757435491070319739 : Nat := 0
def PySem.W.Fast.tw11337909928238402977 : Nat := 0
def PySem.W.Fast.tw11571626263229037259 : Nat := 0
def PySem.W.Fast.tw14669369733487078409 : Nat := 0
def PySem.W.Fast.tw7566563099638669141 : Nat := 0
def PySem.W.Fast.tw1376625681938571743 : Nat := 0
def PySem.W.Fast.tw9704142931147814018 : Nat := 0
def PySem.W.Fast.tw11502653521164769975 : Nat := 0
def PySem.W.Fast.tw7093971855552181324 : Nat := 0
def PySem.W.Fast.tw2700444364128548714 : Nat := 0
def PySem.W.Fast.tw1444988090040484099 : Nat := 0
def PySem.W.Fast.tw2952646162205592602 : Nat := 0
def PySem.W.Fast.tw5740680464146311963 : Nat := 0
def PySem.W.Fast.tw11109191241903268857 : Nat := 0
def PySem.W.Fast.tw17294658478883046689 : Nat := 0
def PySem.W.Fast.tw584522707215983377 : Nat := 0
def PySem.W.Fast.tw9948116366732042222 : Nat := 0
def PySem.W.Fast.tw16132979493093711984 : Nat := 0
def PySem.W.Fast.tw3347826392193859523 : Nat := 0
def PySem.W.Fast.tw14819083841080893333 : Nat := 0
def PySem.W.Fast.tw10819520597304454662 : Nat := 0
def PySem.W.Fast.tw17998243372392331212 : Nat := 0
def PySem.W.Fast.tw6098083686780807720 : Nat := 0
def PySem.W.Fast.tw18444664151525090388 : Nat := 0
def PySem.W.Fast.tw15332559382063466571 : Nat := 0
def PySem.W.Fast.tw3833084129934451055 : Nat := 0
def PySem.W.Fast.tw12978258785171217174 : Nat := 0
def PySem.W.Fast.tw13086811999512344434 : Nat := 0
def PySem.W.Fast.tw11325702828677339438 : Nat := 0
def PySem.W.Fast.tw8623110436979831461 : Nat := 0
def PySem.W.Fast.tw15221549455772255280 : Nat := 0
def PySem.W.Fast.tw10254696928631038031 : Nat := 0
def PySem.W.Fast.tw5437518828095946942 : Nat := 0
def PySem.W.Fast.tw3358484089285617785 : Nat := 0
def PySem.W.Fast.tw15708702644620055740 : Nat := 0
def PySem.W.Fast.tw15446957969684944871 : Nat := 0
def PySem.W.Fast.tw9373435591485488089 : Nat := 0
def PySem.W.Fast.tw3004697705955495435 : Nat := 0
def PySem.W.Fast.tw7989842571378389168 : Nat := 0
def PySem.W.Fast.tw17946473825630461854 : Nat := 0
def PySem.W.Fast.tw17185199948435856954 : Nat := 0
def PySem.W.Fast.tw9863294974960236575 : Nat := 0
def PySem.W.Fast.tw14113474826537450975 : Nat := 0
def PySem.W.Fast.tw11900591146356544251 : Nat := 0
def PySem.W.Fast.tw4202738003342438386 : Nat := 0
def PySem.W.Fast.tw6025356065201007463 : Nat := 0
def PySem.W.Fast.tw6003739238146984038 : Nat := 0
def PySem.W.Fast.tw14427524853000161604 : Nat := 0
def PySem.W.Fast.tw6776240145990808050 : Nat := 0
def PySem.W.Fast.tw12876157915833167011 : Nat := 0
def PySem.W.Fast.tw1331369992414271022 : Nat := 0
def PySem.W.Fast.tw17448244112466728660 : Nat := 0
def PySem.W.Fast.tw2721201569849980518 : Nat := 0
def PySem.W.Fast.tw11008632037738748232 : Nat := 0
def PySem.W.Fast.tw9965961328188171330 : Nat := 0
def PySem.W.Fast.tw16830366897875130830 : Nat := 0
def PySem.W.Fast.tw4468581596376237971 : Nat := 0
def PySem.W.Fast.tw12463507276042836477 : Nat := 0
def PySem.W.Fast.tw14195831966638172964 : Nat := 0
def PySem.W.Fast.tw10770005028153042192 : Nat := 0
def PySem.W.Fast.tw9322617403584097690 : Nat := 0
def PySem.W.Fast.tw966742792244306192 : Nat := 0
def PySem.W.Fast.tw6097195964124674442 : Nat := 0
def PySem.W.Fast.tw12829483439620004849 : Nat := 0
def PySem.W.Fast.tw14734106216596024570 : Nat := 0
def PySem.W.Fast.tw3248684810862522977 : Nat := 0
def PySem.W.Fast.tw2190474362847436747 : Nat := 0
def PySem.W.Fast.tw7020157116157476822 : Nat := 0
def PySem.W.Fast.tw4977257176522852140 : Nat := 0
def PySem.W.Fast.tw13996363275737314618 : Nat := 0
def PySem.W.Fast.tw13962027607080107443 : Nat := 0
def PySem.W.Fast.tw8385214016168556976 : Nat := 0
def PySem.W.Fast.tw2864857444729045814 : Nat := 0
def PySem.W.Fast.tw15729088982211398293 : Nat := 0
def PySem.W.Fast.tw3057772613991616854 : Nat := 0
def PySem.W.Fast.tw8149068980184397811 : Nat := 0
def PySem.W.Fast.tw2481152680307086091 : Nat := 0
def PySem.W.Fast.tw13411425937640349036 : Nat := 0
def PySem.W.Fast.tw14311792826289849331 : Nat := 0
def PySem.W.Fast.tw7664945200339763345 : Nat := 0
def PySem.W.Fast.tw10001511916279851810 : Nat := 0
def PySem.W.Fast.tw10402475632900603720 : Nat := 0
def PySem.W.Fast.tw18190734653790853177 : Nat := 0
def PySem.W.Fast.tw8857546601915124989 : Nat := 0
def PySem.W.Fast.tw18043425192694426119 : Nat := 0
def PySem.W.Fast.tw3020460723763201317 : Nat := 0
def PySem.W.Fast.tw1042416290789169347 : Nat := 0
def PySem.W.Fast.tw18272300397637418525 : Nat := 0
def PySem.W.Fast.tw13312781952029123237 : Nat := 0
def PySem.W.Fast.tw8536670297569623587 : Nat := 0
def PySem.W.Fast.tw3337653091691425275 : Nat := 0
def PySem.W.Fast.tw10845072297509891097 : Nat := 0
def PySem.W.Fast.tw978379879153182059 : Nat := 0
def PySem.W.Fast.tw120987730248482286 : Nat := 0
def PySem.W.Fast.tw3159171326707487241 : Nat := 0
def PySem.W.Fast.tw2451686146345416293 : Nat := 0
def PySem.W.Fast.tw1185015508200423279 : Nat := 0
def PySem.W.Fast.tw8700931605712930548 : Nat := 0
def PySem.W.Fast.tw18271104380665506947 : Nat := 0
def PySem.W.Fast.tw6020046469165413831 : Nat := 0
def PySem.W.Fast.tw4968936028054877210 : Nat := 0
def PySem.W.Fast.tw618457477881256084 : Nat := 0
def PySem.W.Fast.tw5882436663206342105 : Nat := 0
def PySem.W.Fast.tw8877428156291320648 : Nat := 0
def PySem.W.Fast.tw1186520356513981994 : Nat := 0
def PySem.W.Fast.tw4336059857426357786 : Nat := 0
def PySem.W.Fast.tw15878307994760941698 : Nat := 0
def PySem.W.Fast.tw18244924989150731001 : Nat := 0
def PySem.W.Fast.tw7588393052166213319 : Nat := 0
def PySem.W.Fast.tw1217280153056636466 : Nat := 0
def PySem.W.Fast.tw15354594598560221267 : Nat := 0
def PySem.W.Fast.tw13966957552765347532 : Nat := 0
def PySem.W.Fast.tw3201430204790884583 : Nat := 0
def PySem.W.Fast.tw15010704497822252612 : Nat := 0
def PySem.W.Fast.tw10102429009941863590 : Nat := 0
def PySem.W.Fast.tw15418103047953983557 : Nat := 0
def PySem.W.Fast.tw13069436811113539173 : Nat := 0
def PySem.W.Fast.tw11742884178040648376 : Nat := 0
def PySem.W.Fast.tw9323420397050250440 : Nat := 0
def PySem.W.Fast.tw10978259169415645243 : Nat := 0
def PySem.W.Fast.tw4799531748013508311 : Nat := 0
def PySem.W.Fast.tw10134256541633886507 : Nat := 0
def PySem.W.Fast.tw307191469470662485 : Nat := 0
def PySem.W.Fast.tw1929074158283134879 : Nat := 0
def PySem.W.Fast.tw9491313074986734305 : Nat := 0
def PySem.W.Fast.tw2477889957159097830 : Nat := 0
def PySem.W.Fast.tw15366035678425691239 : Nat := 0
def PySem.W.Fast.tw16572225147290630296 : Nat := 0
def PySem.W.Fast.tw2018378274300277186 : Nat := 0
def PySem.W.Fast.tw4814097509589244840 : Nat := 0
def PySem.W.Fast.tw14661936211646898473 : Nat := 0
def PySem.W.Fast.tw11865856089030053451 : Nat := 0
def PySem.W.Fast.tw2634701727531086157 : Nat := 0
def PySem.W.Fast.tw14291227383717732326 : Nat := 0
def PySem.W.Fast.tw273921879816163441 : Nat := 0
def PySem.W.Fast.tw1399158059887315274 : Nat := 0
def PySem.W.Fast.tw9671222415469322002 : Nat := 0
def PySem.W.Fast.tw3261940739769347516 : Nat := 0
def PySem.W.Fast.tw14360439558581153676 : Nat := 0
def PySem.W.Fast.tw1074123316596809271 : Nat := 0
def PySem.W.Fast.tw8568123603811744965 : Nat := 0
def PySem.W.Fast.tw15037240284159740953 : Nat := 0
def PySem.W.Fast.tw13905001201087642458 : Nat := 0
def PySem.W.Fast.tw11344600811345974086 : Nat := 0
def PySem.W.Fast.tw10919231625769725467 : Nat := 0
def PySem.W.Fast.tw302101963132176573 : Nat := 0
def PySem.W.Fast.tw554884602672811931 : Nat := 0
def PySem.W.Fast.tw11728478682811270622 : Nat := 0
def PySem.W.Fast.tw13707023838013638639 : Nat := 0
def PySem.W.Fast.tw18123508290740707669 : Nat := 0
def PySem.W.Fast.tw4665738249275100832 : Nat := 0
def PySem.W.Fast.tw3229113357213823751 : Nat := 0
def PySem.W.Fast.tw13267914440184108905 : Nat := 0
def PySem.W.Fast.tw15205133268621096570 : Nat := 0
def PySem.W.Fast.tw5928730963997222308 : Nat := 0
def PySem.W.Fast.tw1126507886239323279 : Nat := 0
def PySem.W.Fast.tw11240659206046563511 : Nat := 0
def PySem.W.Fast.tw7832715126202372632 : Nat := 0
def PySem.W.Fast.tw7230343201211414347 : Nat := 0
def PySem.W.Fast.tw3668389269403797590 : Nat := 0
def PySem.W.Fast.tw15318922398871624047 : Nat := 0
def PySem.W.Fast.tw832943935188217663 : Nat := 0
def PySem.W.Fast.tw8223839907901469432 : Nat := 0
def PySem.W.Fast.tw16028676812408183773 : Nat := 0
def PySem.W.Fast.tw3261859920747300895 : Nat := 0
def PySem.W.Fast.tw13681668437483501343 : Nat := 0
def PySem.W.Fast.tw9808504672216554846 : Nat := 0
def PySem.W.Fast.tw15581909594822835261 : Nat := 0
def PySem.W.Fast.tw2390293587276555850 : Nat := 0
def PySem.W.Fast.tw3937331671038254789 : Nat := 0
def PySem.W.Fast.tw12671535790275104221 : Nat := 0
def PySem.W.Fast.tw16265264867550751482 : Nat := 0
def PySem.W.Fast.tw12740670319370398028 : Nat := 0
def PySem.W.Fast.tw4073580048037054213 : Nat := 0
def PySem.W.Fast.tw1836560105391620455 : Nat := 0
def PySem.W.Fast.tw16252650998298369514 : Nat := 0
def PySem.W.Fast.tw10147955588850405849 : Nat := 0
def PySem.W.Fast.tw1374352040349787372 : Nat := 0
def PySem.W.Fast.tw16832288532090203821 : Nat := 0
def PySem.W.Fast.tw16584590533010899952 : Nat := 0
def PySem.W.Fast.tw14289172796477150787 : Nat := 0
def PySem.W.Fast.tw443215944696714169 : Nat := 0
def PySem.W.Fast.tw13219208802070604905 : Nat := 0
def PySem.W.Fast.tw2883164529287854381 : Nat := 0
def PySem.W.Fast.tw3774284565072950834 : Nat := 0
def PySem.W.Fast.tw6903813431205080909 : Nat := 0
def PySem.W.Fast.tw12929739708340464250 : Nat := 0
def PySem.W.Fast.tw17341494803952948534 : Nat := 0
def PySem.W.Fast.tw14440874686501509698 : Nat := 0
def PySem.W.Fast.tw8654929010832412682 : Nat := 0
def PySem.W.Fast.tw6537573531194023810 : Nat := 0
def PySem.W.Fast.tw9206917778096263918 : Nat := 0
def PySem.W.Fast.tw9020549678430610791 : Nat := 0
def PySem.W.Fast.tw5911781325507151776 : Nat := 0
def PySem.W.Fast.tw16577881267923234353 : Nat := 0
def PySem.W.Fast.tw9354113668323103697 : Nat := 0
def PySem.W.Fast.tw4233754692623862433 : Nat := 0
def PySem.W.Fast.tw16485359710773728162 : Nat := 0
def PySem.W.Fast.tw3179172305718799547 : Nat := 0
def PySem.W.Fast.tw11605330979914944741 : Nat := 0
def PySem.W.Fast.tw12625810326917973715 : Nat := 0
def PySem.W.Fast.tw1610726965298341028 : Nat := 0
def PySem.W.Fast.tw9357131664189659880 : Nat := 0
def PySem.W.Fast.tw10566716219380341204 : Nat := 0
def PySem.W.Fast.tw9794634005716900532 : Nat := 0
def PySem.W.Fast.tw9815929266850241207 : Nat := 0
def PySem.W.Fast.tw5791346305963667891 : Nat := 0
def PySem.W.Fast.tw6040340360620122682 : Nat := 0
def PySem.W.Fast.tw16546113548547076721 : Nat := 0
def PySem.W.Fast.tw3912881185934291096 : Nat := 0
def PySem.W.Fast.tw8400494920274287501 : Nat := 0
def PySem.W.Fast.tw14132454123868822793 : Nat := 0
def PySem.W.Fast.tw6756444738055677544 : Nat := 0
def PySem.W.Fast.tw7952843450309863245 : Nat := 0
def PySem.W.Fast.tw9839419083966249913 : Nat := 0
def PySem.W.Fast.tw4747896040275655944 : Nat := 0
def PySem.W.Fast.tw8870252365624859392 : Nat := 0
def PySem.W.Fast.tw13532671306840306347 : Nat := 0
def PySem.W.Fast.tw7719835656346575408 : Nat := 0
def PySem.W.Fast.tw4473932876369305548 : Nat := 0
def PySem.W.Fast.tw10250381436586733335 : Nat := 0
def PySem.W.Fast.tw7501535373024073492 : Nat := 0
def PySem.W.Fast.tw9467664809546169245 : Nat := 0
def PySem.W.Fast.tw12317146082247800321 : Nat := 0
def PySem.W.Fast.tw3730451151246122622 : Nat := 0
def PySem.W.Fast.tw12226646169560516147 : Nat := 0
def PySem.W.Fast.tw13016441640474965101 : Nat := 0
def PySem.W.Fast.tw11086172241269999889 : Nat := 0
def PySem.W.Fast.tw12920709711593996788 : Nat := 0
def PySem.W.Fast.tw2406553627247685650 : Nat := 0
def PySem.W.Fast.tw2745001853361302205 : Nat := 0
def PySem.W.Fast.tw9586624412524977845 : Nat := 0
def PySem.W.Fast.tw830736939950108044 : Nat := 0
def PySem.W.Fast.tw15196849941550949961 : Nat := 0
def PySem.W.Fast.tw2214315855452129680 : Nat := 0
def PySem.W.Fast.tw13831442948984272484 : Nat := 0
def PySem.W.Fast.tw446972027101676081 : Nat := 0
def PySem.W.Fast.tw14583161066705153819 : Nat := 0
def PySem.W.Fast.tw12959247237896896871 : Nat := 0
def PySem.W.Fast.tw4184752870139267033 : Nat := 0
def PySem.W.Fast.tw13413798374025462077 : Nat := 0
def PySem.W.Fast.tw3750789142171054221 : Nat := 0
def PySem.W.Fast.tw210996256689109369 : Nat := 0
def PySem.W.Fast.tw6085742470120803702 : Nat := 0
def PySem.W.Fast.tw342736599802422741 : Nat := 0
def PySem.W.Fast.tw9715976933302516657 : Nat := 0
def PySem.W.Fast.tw4448088801351150438 : Nat := 0
def PySem.W.Fast.tw5391131971319262660 : Nat := 0
def PySem.W.Fast.tw13616105622049915514 : Nat := 0
def PySem.W.Fast.tw9562564597729817722 : Nat := 0
def PySem.W.Fast.tw3296323084069702172 : Nat := 0
def PySem.W.Fast.tw14690816987708632343 : Nat := 0
def PySem.W.Fast.tw13360859369527180885 : Nat := 0
def PySem.W.Fast.tw4209977417236608964 : Nat := 0
def PySem.W.Fast.tw15973118143414624211 : Nat := 0
def PySem.W.Fast.tw403150556648531550 : Nat := 0
def PySem.W.Fast.tw2480467074954524287 : Nat := 0
def PySem.W.Fast.tw15255424824871301140 : Nat := 0
def PySem.W.Fast.tw16863630185559585885 : Nat := 0
def PySem.W.Fast.tw11134361550431857181 : Nat := 0
def PySem.W.Fast.tw10999533317499005927 : Nat := 0
def PySem.W.Fast.tw5036410685882984661 : Nat := 0
def PySem.W.Fast.tw14403905171182008037 : Nat := 0
def PySem.W.Fast.tw8029551615760488174 : Nat := 0
def PySem.W.Fast.tw6674622915114976564 : Nat := 0
def PySem.W.Fast.tw11557233153233208068 : Nat := 0
def PySem.W.Fast.tw6840528673367658057 : Nat := 0
def PySem.W.Fast.tw13317662516072460056 : Nat := 0
def PySem.W.Fast.tw1339027072745932617 : Nat := 0
def PySem.W.Fast.tw9036895371148466450 : Nat := 0
def PySem.W.Fast.tw1317738984822763533 : Nat := 0
def PySem.W.Fast.tw3685216854979596920 : Nat := 0
def PySem.W.Fast.tw6225541606671759699 : Nat := 0
def PySem.W.Fast.tw17596032597563180432 : Nat := 0
def PySem.W.Fast.tw6463650285460064332 : Nat := 0
def PySem.W.Fast.tw9219430662371051482 : Nat := 0
def PySem.W.Fast.tw16765851254334042092 : Nat := 0
def PySem.W.Fast.tw18420168101096228098 : Nat := 0
def PySem.W.Fast.tw17992620066814668902 : Nat := 0
def PySem.W.Fast.tw6695536453341212861 : Nat := 0
def PySem.W.Fast.tw11017300570406916222 : Nat := 0
def PySem.W.Fast.tw1341521577836258138 : Nat := 0
def PySem.W.Fast.tw13758214434347172109 : Nat := 0
def PySem.W.Fast.tw3510199179272318419 : Nat := 0
def PySem.W.Fast.tw15305489527330131166 : Nat := 0
def PySem.W.Fast.tw10099610929830121901 : Nat := 0
def PySem.W.Fast.tw11408391213669772370 : Nat := 0
def PySem.W.Fast.tw17761125094911289566 : Nat := 0
def PySem.W.Fast.tw4369930365504135089 : Nat := 0
def PySem.W.Fast.tw14448124094568760969 : Nat := 0
def PySem.W.Fast.tw249458931763487376 : Nat := 0
def PySem.W.Fast.tw8197092198821621247 : Nat := 0
def PySem.W.Fast.tw3659839317256107233 : Nat := 0
def PySem.W.Fast.tw15031723923323013328 : Nat := 0
def PySem.W.Fast.tw985226395669238170 : Nat := 0
def PySem.W.Fast.tw5350432129549422607 : Nat := 0
def PySem.W.Fast.tw13173441954132732381 : Nat := 0
def PySem.W.Fast.tw16194653996916314248 : Nat := 0
def PySem.W.Fast.tw9427216707755979394 : Nat := 0
def PySem.W.Fast.tw4391682167303625773 : Nat := 0
def PySem.W.Fast.tw17282606424281302869 : Nat := 0
def PySem.W.Fast.tw17312297365748941458 : Nat := 0
def PySem.W.Fast.tw4251213530996789507 : Nat := 0
def PySem.W.Fast.tw8009803409533679670 : Nat := 0
def PySem.W.Fast.tw8138176416688966376 : Nat := 0
def PySem.W.Fast.tw14822932697392294090 : Nat := 0
def PySem.W.Fast.tw198818301422702614 : Nat := 0
def PySem.W.Fast.tw4563491593201048244 : Nat := 0
def PySem.W.Fast.tw1016026553649053706 : Nat := 0
def PySem.W.Fast.tw3908591837779586692 : Nat := 0
def PySem.W.Fast.tw15511809455776957232 : Nat := 0
def PySem.W.Fast.tw4290427566910465571 : Nat := 0
def PySem.W.Fast.tw5942310545999968621 : Nat := 0
def PySem.W.Fast.tw16437591878117954207 : Nat := 0
def PySem.W.Fast.tw11816557816370734023 : Nat := 0
def PySem.W.Fast.tw6358062242768679640 : Nat := 0
def PySem.W.Fast.tw5918508521061038610 : Nat := 0
def PySem.W.Fast.tw18087964371173908407 : Nat := 0
def PySem.W.Fast.tw2629673395545322148 : Nat := 0
def PySem.W.Fast.tw17789029563404406994 : Nat := 0
def PySem.W.Fast.tw15093485768233389091 : Nat := 0
def PySem.W.Fast.tw15279082868798879977 : Nat := 0
def PySem.W.Fast.tw3782588754349163125 : Nat := 0
def PySem.W.Fast.tw13450537545495141313 : Nat := 0
def PySem.W.Fast.tw3282657515015597629 : Nat := 0
def PySem.W.Fast.tw764863262258867840 : Nat := 0
def PySem.W.Fast.tw13147458043000484508 : Nat := 0
def PySem.W.Fast.tw2854272690037733685 : Nat := 0
def PySem.W.Fast.tw1870672682489076014 : Nat := 0
def PySem.W.Fast.tw10601523206966753808 : Nat := 0
def PySem.W.Fast.tw8261664084998819626 : Nat := 0
def PySem.W.Fast.tw2429872011427744060 : Nat := 0
def PySem.W.Fast.tw288338505304775288 : Nat := 0
def PySem.W.Fast.tw12306234751794697748 : Nat := 0
def PySem.W.Fast.tw7594771119601213019 : Nat := 0
def PySem.W.Fast.tw1948922819143521519 : Nat := 0
def PySem.W.Fast.tw6401020700287687952 : Nat := 0
def PySem.W.Fast.tw18304038758094711275 : Nat := 0
def PySem.W.Fast.tw1555192524450854316 : Nat := 0
def PySem.W.Fast.tw9025343970484725122 : Nat := 0
def PySem.W.Fast.tw3118132572137113525 : Nat := 0
def PySem.W.Fast.tw16830286081447275938 : Nat := 0
def PySem.W.Fast.tw18366089585478536069 : Nat := 0
def PySem.W.Fast.tw26060669467538580 : Nat := 0
def PySem.W.Fast.tw1986966149758706897 : Nat := 0
def PySem.W.Fast.tw14552471731801663890 : Nat := 0
def PySem.W.Fast.tw7040023856356232375 : Nat := 0
def PySem.W.Fast.tw16940215349797624315 : Nat := 0
def PySem.W.Fast.tw10569127331606206491 : Nat := 0
def PySem.W.Fast.tw1497107571622670902 : Nat := 0
def PySem.W.Fast.tw891652349524203099 : Nat := 0
def PySem.W.Fast.tw9101507946606819359 : Nat := 0
def PySem.W.Fast.tw176336542985301251 : Nat := 0
def PySem.W.Fast.tw448081794361506573 : Nat := 0
def PySem.W.Fast.tw14043462116381892944 : Nat := 0
def PySem.W.Fast.tw15884275208584847880 : Nat := 0
def PySem.W.Fast.tw12373841189065958679 : Nat := 0
def PySem.W.Fast.tw10479151901088977302 : Nat := 0
def PySem.W.Fast.tw14733099695690780895 : Nat := 0
def PySem.W.Fast.tw7535250998277843180 : Nat := 0
def PySem.W.Fast.tw13554821142627368246 : Nat := 0
def PySem.W.Fast.tw3814320958313979082 : Nat := 0
def PySem.W.Fast.tw4317211752579071944 : Nat := 0
def PySem.W.Fast.tw7359424280954841178 : Nat := 0
def PySem.W.Fast.tw4846370934636035428 : Nat := 0
def PySem.W.Fast.tw9622617203419380086 : Nat := 0
def PySem.W.Fast.tw5878873511886829600 : Nat := 0
def PySem.W.Fast.tw5954940559489377921 : Nat := 0
def PySem.W.Fast.tw1603919179608161709 : Nat := 0
def PySem.W.Fast.tw9051165654166400175 : Nat := 0
def PySem.W.Fast.tw2140345350262395541 : Nat := 0
def PySem.W.Fast.tw3744863889171602296 : Nat := 0
def PySem.W.Fast.tw17532078908553053405 : Nat := 0
def PySem.W.Fast.tw15986588357946943625 : Nat := 0
def PySem.W.Fast.tw10695119163676666293 : Nat := 0
def PySem.W.Fast.tw13962994885276227080 : Nat := 0
def PySem.W.Fast.tw551427955196853153 : Nat := 0
def PySem.W.Fast.tw12473817343839212850 : Nat := 0
def PySem.W.Fast.tw3555770354103617002 : Nat := 0
def PySem.W.Fast.tw1542708237288687779 : Nat := 0
def PySem.W.Fast.tw17835770945761829168 : Nat := 0
def PySem.W.Fast.tw6025596719382700933 : Nat := 0
def PySem.W.Fast.tw10029168217121051731 : Nat := 0
def PySem.W.Fast.tw16497755200770778287 : Nat := 0
def PySem.W.Fast.tw2938756684235608261 : Nat := 0
def PySem.W.Fast.tw14808499474873362812 : Nat := 0
def PySem.W.Fast.tw3473772040061944543 : Nat := 0
def PySem.W.Fast.tw1462266545145617304 : Nat := 0
def PySem.W.Fast.tw749358434177698464 : Nat := 0
def PySem.W.Fast.tw3169688780981358544 : Nat := 0
def PySem.W.Fast.tw7694497768557165465 : Nat := 0
def PySem.W.Fast.tw18385386782902921814 : Nat := 0
def PySem.W.Fast.tw7351687501485736712 : Nat := 0
def PySem.W.Fast.tw3312618208525419506 : Nat := 0
def PySem.W.Fast.tw3144788488117014330 : Nat := 0
def PySem.W.Fast.tw18132731271608970387 : Nat := 0
def PySem.W.Fast.tw983709602810656505 : Nat := 0
def PySem.W.Fast.tw17025416825000693490 : Nat := 0
def PySem.W.Fast.tw4432938757017315841 : Nat := 0
def PySem.W.Fast.tw12630707454530233026 : Nat := 0
def PySem.W.Fast.tw3538020108317697572 : Nat := 0
def PySem.W.Fast.tw889097935338695720 : Nat := 0
def PySem.W.Fast.tw11189096321549358364 : Nat := 0
def PySem.W.Fast.tw11790645881533058249 : Nat := 0
def PySem.W.Fast.tw3266526525576031776 : Nat := 0
def PySem.W.Fast.tw7064379119724219974 : Nat := 0
def PySem.W.Fast.tw10516683890335566340 : Nat := 0
def PySem.W.Fast.tw18188336554909763063 : Nat := 0
def PySem.W.Fast.tw2721484160893412936 : Nat := 0
def PySem.W.Fast.tw5258117930088194537 : Nat := 0
def PySem.W.Fast.tw2981753111734450162 : Nat := 0
def PySem.W.Fast.tw1268598806414539918 : Nat := 0
def PySem.W.Fast.tw5190744504803840494 : Nat := 0
def PySem.W.Fast.tw14130049764647813098 : Nat := 0
def PySem.W.Fast.tw4214306431178931504 : Nat := 0
def PySem.W.Fast.tw18216172190272664173 : Nat := 0
def PySem.W.Fast.tw13784772411567391440 : Nat := 0
def PySem.W.Fast.tw9531117631689007040 : Nat := 0
def PySem.W.Fast.tw7979234170031040783 : Nat := 0
def PySem.W.Fast.tw3952608283513066369 : Nat := 0
def PySem.W.Fast.tw1992466864077931921 : Nat := 0
def PySem.W.Fast.tw2890297046262620159 : Nat := 0
def PySem.W.Fast.tw7376903156864773966 : Nat := 0
def PySem.W.Fast.tw1502720308148649572 : Nat := 0
def PySem.W.Fast.tw8300783196621440235 : Nat := 0
def PySem.W.Fast.tw3017617871533610913 : Nat := 0
def PySem.W.Fast.tw9296544148073792122 : Nat := 0
def PySem.W.Fast.tw17313074627520913093 : Nat := 0
def PySem.W.Fast.tw17892617767360963328 : Nat := 0
def PySem.W.Fast.tw10697860480999329267 : Nat := 0
def PySem.W.Fast.tw13542089978615695224 : Nat := 0
def PySem.W.Fast.tw2561013749875891896 : Nat := 0
def PySem.W.Fast.tw11280787537892933628 : Nat := 0
def PySem.W.Fast.tw13752377727352622981 : Nat := 0
def PySem.W.Fast.tw12468844144656795863 : Nat := 0
def PySem.W.Fast.tw14242563904603371398 : Nat := 0
def PySem.W.Fast.tw18097808770467715070 : Nat := 0
def PySem.W.Fast.tw2722367930207661974 : Nat := 0
def PySem.W.Fast.tw5399017180474039248 : Nat := 0
def PySem.W.Fast.tw8969301116157808625 : Nat := 0
def PySem.W.Fast.tw18331017106315194433 : Nat := 0
def PySem.W.Fast.tw2425786263840772301 : Nat := 0
def PySem.W.Fast.tw5494241305211552464 : Nat := 0
def PySem.W.Fast.tw12301305923230373611 : Nat := 0
def PySem.W.Fast.tw9472647194728810776 : Nat := 0
def PySem.W.Fast.tw17226513480952070306 : Nat := 0
def PySem.W.Fast.tw17334186504467632850 : Nat := 0
def PySem.W.Fast.tw10653220681027520368 : Nat := 0
def PySem.W.Fast.tw5011736881686628404 : Nat := 0
def PySem.W.Fast.tw2073159578147825468 : Nat := 0
def PySem.W.Fast.tw9465933315640687351 : Nat := 0
def PySem.W.Fast.tw12091842750868384467 : Nat := 0
def PySem.W.Fast.tw14953208791154018752 : Nat := 0
def PySem.W.Fast.tw16036797891173331205 : Nat := 0
def PySem.W.Fast.tw13107773512472131157 : Nat := 0
def PySem.W.Fast.tw16521350949661094112 : Nat := 0

open PySem PySem.W PyProof.Rows in
set_option maxRecDepth 100000 in
set_option maxHeartbeats 0 in
theorem PySem.Challenge.cw_samphire_k35_whole_unordered_estimates_holds : PySem.Challenge.rw_samphire_k35_whole_unordered_estimates.Holds := by
  w_on; o_law; k_head; (case hw => w_witness2)
  k_fill
  refine L2.walk_ofB (l := PySem.Challenge.rw_samphire_k35_whole_unordered_estimates) (n := 63) (k := 10) (x := "script") (CX := fun w => L2.CX0) (sp := fun w => K35.spLaw _) rfl (by decide) rfl ⟨rfl, by decide, by decide⟩ (fun w h Y => PySem.W.kIn_of Y) ?F (fun _ H a ns hl hb _ hS => ⟨a, ns, rfl, hS, hl, hb, fun _ => rfl⟩) (fun _ _ _ _ _ h => h)
  case F =>
    intro w mg fa h KX G hmg
    refine' K35.all_mk KX G hmg ?a1 ?l1 ?c1 ?k1 ?a2 ?l2 ?c2 ?k2 ?a3 ?l3 ?c3 ?k3 ?a4 ?l4 ?c4 ?k4 ?a5 ?l5 ?c5 ?k5 ?a6 ?l6 ?c6 ?k6 ?a7 ?l7 ?c7 ?k7 ?a8 ?i8 ?l8 ?c8 ?k8 ?a9 ?i9 ?l9 ?c9 ?k9 ?a10 ?l10 ?c10 ?k10 ?a11 ?l11 ?c11 ?k11 ?a12 ?l12 ?c12 ?k12 ?a13 ?l13 ?c13 ?k13 ?a14 ?l14 ?c14 ?k14 ?a15 ?l15 ?c15 ?k15 ?a16 ?l16 ?c16 ?k16 ?a17 ?l17 ?c17 ?k17 ?a18 ?l18 ?c18 ?k18 ?a19 ?l19 ?c19 ?k19 ?a20 ?l20 ?c20 ?k20 ?a21 ?l21 ?c21 ?k21 ?a22 ?l22 ?c22 ?k22 ?a23 ?l23 ?c23 ?k23 ?a24 ?l24 ?c24 ?k24 ?a25 ?l25 ?c25 ?k25 ?a26 ?l26 ?c26 ?k26 ?a27 ?l27 ?c27 ?k27 ?a28 ?l28 ?c28 ?k28 ?a29 ?l29 ?c29 ?k29 ?a30 ?l30 ?c30 ?k30 ?a31 ?l31 ?c31 ?k31 ?a32 ?l32 ?c32 ?k32 ?a33 ?l33 ?c33 ?k33 ?a34 ?l34 ?c34 ?k34 ?a35 ?l35 ?c35 ?k35 ?a36 ?l36 ?c36 ?k36 ?a37 ?l37 ?c37 ?k37 ?aCSamphireError ?aCTooLarge ?iCTooLarge ?tITooLarge ?lkTooLarge ?hcTooLarge ?xLTooLarge ?saTooLarge ?sBTooLarge ?tCTooLarge ?kCTooLarge ?coTooLarge ?flTooLarge ?ceTooLarge ?mrTooLarge ?sVTooLarge ?anTooLarge ?suTooLarge ?tpTooLarge ?hgTooLarge ?hkTooLarge ?hdTooLarge ?haTooLarge ?hnTooLarge ?htTooLarge ?hmTooLarge ?icTooLarge ?sCTooLarge ?nf_limit_TooLarge ?aCZeroDenominator ?iCZeroDenominator ?tIZeroDenominator ?lkZeroDenominator ?hcZeroDenominator ?xLZeroDenominator ?saZeroDenominator ?sBZeroDenominator ?tCZeroDenominator ?kCZeroDenominator ?coZeroDenominator ?flZeroDenominator ?ceZeroDenominator ?mrZeroDenominator ?sVZeroDenominator ?anZeroDenominator ?suZeroDenominator ?tpZeroDenominator ?hgZeroDenominator ?hkZeroDenominator ?hdZeroDenominator ?haZeroDenominator ?hnZeroDenominator ?htZeroDenominator ?hmZeroDenominator ?icZeroDenominator ?sCZeroDenominator ?kitWeightedWeighted ?kitTooLargeSamphireError ?aCUniform ?pgUniform ?hdUniform ?poUniform ?saUniform ?mkUniform ?kcUniform ?nUniform_size ?nUniform_seen ?nUniform_kept ?aCWeighted ?pgWeighted ?hdWeighted ?poWeighted ?saWeighted ?mkWeighted ?kcWeighted ?nWeighted_size ?nWeighted_total ?nWeighted_kept ?isaUniform ?isgUniform ?istUniform ?ismUniform ?isaWeighted ?isgWeighted ?istWeighted ?ismWeighted ?kitWeightedUniform ?z_abs ?z_dict ?z_int ?z_isinstance ?z_len ?z_list ?z_max ?z_min ?z_range ?z_sorted ?z_sum ?z_super ?v_MOST_ORDERED ?v_ZERO ?l_ZERO ?v_ONE ?l_ONE ?g_permutations ?g_gcd
    (case aCSamphireError => k_is)
    (case aCTooLarge => k_is)
    (case aCZeroDenominator => k_is)
    (case aCUniform => k_is)
    (case aCWeighted => k_is)
    (case a1 => k_is)
    (case l1 => k_is)
    (case c1 => k_is)
    (case k1 => k_is)
    (case a2 => k_is)
    (case l2 => k_is)
    (case c2 => k_is)
    (case k2 => k_is)
    (case a3 => k_is)
    (case l3 => k_is)
    (case c3 => k_is)
    (case k3 => k_is)
    (case a4 => k_is)
    (case l4 => k_is)
    (case c4 => k_is)
    (case k4 => k_is)
    (case a5 => k_is)
    (case l5 => k_is)
    (case c5 => k_is)
    (case k5 => k_is)
    (case a6 => k_is)
    (case l6 => k_is)
    (case c6 => k_is)
    (case k6 => k_is)
    (case a7 => k_is)
    (case l7 => k_is)
    (case c7 => k_is)
    (case k7 => k_is)
    (case a8 => k_is)
    (case i8 => k_is)
    (case l8 => k_is)
    (case c8 => k_is)
    (case k8 => k_is)
    (case a9 => k_is)
    (case i9 => k_is)
    (case l9 => k_is)
    (case c9 => k_is)
    (case k9 => k_is)
    (case a10 => k_is)
    (case l10 => k_is)
    (case c10 => k_is)
    (case k10 => k_is)
    (case a11 => k_is)
    (case l11 => k_is)
    (case c11 => k_is)
    (case k11 => k_is)
    (case a12 => k_is)
    (case l12 => k_is)
    (case c12 => k_is)
    (case k12 => k_is)
    (case a13 => k_is)
    (case l13 => k_is)
    (case c13 => k_is)
    (case k13 => k_is)
    (case a14 => k_is)
    (case l14 => k_is)
    (case c14 => k_is)
    (case k14 => k_is)
    (case a15 => k_is)
    (case l15 => k_is)
    (case c15 => k_is)
    (case k15 => k_is)
    (case a16 => k_is)
    (case l16 => k_is)
    (case c16 => k_is)
    (case k16 => k_is)
    (case a17 => k_is)
    (case l17 => k_is)
    (case c17 => k_is)
    (case k17 => k_is)
    (case a18 => k_is)
    (case l18 => k_is)
    (case c18 => k_is)
    (case k18 => k_is)
    (case a19 => k_is)
    (case l19 => k_is)
    (case c19 => k_is)
    (case k19 => k_is)
    (case a20 => k_is)
    (case l20 => k_is)
    (case c20 => k_is)
    (case k20 => k_is)
    (case a21 => k_is)
    (case l21 => k_is)
    (case c21 => k_is)
    (case k21 => k_is)
    (case a22 => k_is)
    (case l22 => k_is)
    (case c22 => k_is)
    (case k22 => k_is)
    (case a23 => k_is)
    (case l23 => k_is)
    (case c23 => k_is)
    (case k23 => k_is)
    (case a24 => k_is)
    (case l24 => k_is)
    (case c24 => k_is)
    (case k24 => k_is)
    (case a25 => k_is)
    (case l25 => k_is)
    (case c25 => k_is)
    (case k25 => k_is)
    (case a26 => k_is)
    (case l26 => k_is)
    (case c26 => k_is)
    (case k26 => k_is)
    (case a27 => k_is)
    (case l27 => k_is)
    (case c27 => k_is)
    (case k27 => k_is)
    (case a28 => k_is)
    (case l28 => k_is)
    (case c28 => k_is)
    (case k28 => k_is)
    (case a29 => k_is)
    (case l29 => k_is)
    (case c29 => k_is)
    (case k29 => k_is)
    (case a30 => k_is)
    (case l30 => k_is)
    (case c30 => k_is)
    (case k30 => k_is)
    (case a31 => k_is)
    (case l31 => k_is)
    (case c31 => k_is)
    (case k31 => k_is)
    (case a32 => k_is)
    (case l32 => k_is)
    (case c32 => k_is)
    (case k32 => k_is)
    (case a33 => k_is)
    (case l33 => k_is)
    (case c33 => k_is)
    (case k33 => k_is)
    (case a34 => k_is)
    (case l34 => k_is)
    (case c34 => k_is)
    (case k34 => k_is)
    (case a35 => k_is)
    (case l35 => k_is)
    (case c35 => k_is)
    (case k35 => k_is)
    (case a36 => k_is)
    (case l36 => k_is)
    (case c36 => k_is)
    (case k36 => k_is)
    (case a37 => k_is)
    (case l37 => k_is)
    (case c37 => k_is)
    (case k37 => k_is)
    (case iCTooLarge => k_is)
    (case tITooLarge => k_is)
    (case lkTooLarge => k_is)
    (case hcTooLarge => k_is)
    (case xLTooLarge => k_is)
    (case saTooLarge => k_is)
    (case sBTooLarge => k_is)
    (case tCTooLarge => k_is)
    (case kCTooLarge => k_is)
    (case coTooLarge => k_is)
    (case flTooLarge => first | rfl | decide +kernel)
    (case ceTooLarge => k_is)
    (case mrTooLarge => first | rfl | k_is)
    (case sVTooLarge => k_is)
    (case anTooLarge => k_is)
    (case suTooLarge => ks_is)
    (case tpTooLarge => first | rfl | decide +kernel)
    (case hgTooLarge => k_is)
    (case hkTooLarge => k_is)
    (case hdTooLarge => k_is)
    (case haTooLarge => k_is)
    (case hnTooLarge => k_is)
    (case htTooLarge => k_is)
    (case hmTooLarge => k_is)
    (case icTooLarge => k_is)
    (case sCTooLarge => first | rfl | k_is)
    (case nf_limit_TooLarge => k_is)
    (case iCZeroDenominator => k_is)
    (case tIZeroDenominator => k_is)
    (case lkZeroDenominator => k_is)
    (case hcZeroDenominator => k_is)
    (case xLZeroDenominator => k_is)
    (case saZeroDenominator => k_is)
    (case sBZeroDenominator => k_is)
    (case tCZeroDenominator => k_is)
    (case kCZeroDenominator => k_is)
    (case coZeroDenominator => k_is)
    (case flZeroDenominator => first | rfl | decide +kernel)
    (case ceZeroDenominator => k_is)
    (case mrZeroDenominator => first | rfl | k_is)
    (case sVZeroDenominator => k_is)
    (case anZeroDenominator => k_is)
    (case suZeroDenominator => ks_is)
    (case tpZeroDenominator => first | rfl | decide +kernel)
    (case hgZeroDenominator => k_is)
    (case hkZeroDenominator => k_is)
    (case hdZeroDenominator => k_is)
    (case haZeroDenominator => k_is)
    (case hnZeroDenominator => k_is)
    (case htZeroDenominator => k_is)
    (case hmZeroDenominator => k_is)
    (case icZeroDenominator => k_is)
    (case sCZeroDenominator => first | rfl | k_is)
    (case kitWeightedWeighted => first | rfl | k_is | decide +kernel)
    (case kitTooLargeSamphireError => first | rfl | k_is | decide +kernel)
    (case pgUniform => k_is)
    (case hdUniform => k_is)
    (case poUniform => k_is)
    (case saUniform => k_is)
    (case mkUniform => k_is)
    (case kcUniform => k_is)
    (case nUniform_size => k_is)
    (case nUniform_seen => k_is)
    (case nUniform_kept => k_is)
    (case pgWeighted => k_is)
    (case hdWeighted => k_is)
    (case poWeighted => k_is)
    (case saWeighted => k_is)
    (case mkWeighted => k_is)
    (case kcWeighted => k_is)
    (case nWeighted_size => k_is)
    (case nWeighted_total => k_is)
    (case nWeighted_kept => k_is)
    (case isaUniform => k_is)
    (case isgUniform => k_is)
    (case istUniform => k_is)
    (case ismUniform => k_is)
    (case isaWeighted => k_is)
    (case isgWeighted => k_is)
    (case istWeighted => k_is)
    (case ismWeighted => k_is)
    (case kitWeightedUniform => first | rfl | k_is | decide +kernel)
    (case z_abs => k_is)
    (case z_dict => k_is)
    (case z_int => k_is)
    (case z_isinstance => k_is)
    (case z_len => k_is)
    (case z_list => k_is)
    (case z_max => k_is)
    (case z_min => k_is)
    (case z_range => k_is)
    (case z_sorted => k_is)
    (case z_sum => k_is)
    (case z_super => k_is)
    (case v_MOST_ORDERED => k_is)
    (case v_ZERO => k_is)
    (case l_ZERO => k_is)
    (case v_ONE => k_is)
    (case l_ONE => k_is)
    (case g_permutations => k_is)
    (case g_gcd => k_is)
