import PyProof.Rows.All
import Wide.All
import OpenK.AllK
import Wide.FinOn
import HandS.ForMost
import HandS.ForExc
import HandS.EndBits
import HandS.Wide
import HandS.IsInst
import HandS.ExcInit
import HandS.Nested
import KE.KExcSuper
import HandS.ExcIs
import HandS.ExcField
import HandS.ClsMeth
import HandS.WordsExc
import HandS.Gcd
import HandS.Rev
import HandS.Walk
import HandS.Style
import HandS.FStr
import HandS.TryOnly
import KE.GoesEnumKw
import HandS.Text
import HandS.SortInts
import HandS.More
import HandS.Deep
import HandS.StrMore
import HandS.TryMany
import KE.SortData
import KE.SortKeyHeap
import HandS.RevRange
import HandS.Lambda
import HandS.EndTab
import PyProof.Rows.TupSub
import HandS.SortKw
import KE.KDictKeyed
import KE.KSortKey
import HandS.DictComp
import PySem.Challenge.RW_samphire_k46_whole_shifted_means
set_option Elab.async false
set_option linter.all false
set_option maxRecDepth 100000

set_option exponentiation.threshold 100000
/-! ### an own exception whose __init__ begins with super().__init__(..) -/
namespace Sup
open PySem PySem.Spec PyProof.Rows L2 NdefX
/-- what the written part says of such a class (at C), of its __init__ (at f; its code at c, its cell of the class at cc) -/
structure SupC (P : Program) (K : PySem.W.Frag) (mg : Str → Option Value) (C f c cc : Addr) : Prop where
  T : OexC K C
  cd : ∃ cd, PySem.W.clsIn K C = some cd
  code : ∃ occ cdd vs sl file tf, K.lookup c = some ⟨occ, cdd, .fields vs, sl⟩ ∧ vs[2]? = some (.str file tf) ∧ ((P.main.file : Str) == file) = true
  cell : ∃ cl cld sl, K.lookup cc = some ⟨cl, cld, .cell (some (.ref C)), sl⟩
  sub : PySem.W.mroIn K C (.ref C) = some true
  subV : PySem.W.subIn K (.ref C) (.type "ValueError") = some true
  zs : mg "super" = none
  any : PySem.W.nsIn K PySem.cStatics "thirdparty.any" = some none
  sup : PySem.W.ks_superIn K C C "__init__" = some (some (.builtin "ValueError.__init__"))
  top : (P.main.scope.names.lookup ("super" : Str)).isSome = false
section
variable {CX : CXT} {P : Program} {w : World} {K : PySem.W.Frag} {mg : Str → Option Value} {base : Heap} {N ps : List Str} {F : NF} {f C cc : Addr} {k : Nat} {sp : Sp}
/-- the body's first statement -/
abbrev supSt (arg : Expr) (p0 p1 p2 p3 p4 : Pos) : Stmt := .Expr (.Call (.Attribute (.Call (.Name "super" p0) [] [] p1) "__init__" p2) [arg] [] p3) p4
theorem callW {M : Model} {A : Around} {E : Value → Shared → Prop} {s : Shared} {i : String} {u x : Addr} {pos : Pos} {env : Env} {e : Expr} {Q : Value → Shared → Prop} (he : starEach [e] env = (false, eval e env) :: starEach [] env)
    (h : wpAny M A (spliced (backTo pos (starEach [e] env))) (fun vs s₁ => PySem.W.KxsAt i u x s₁.heap ∧ wpAny M A (call (.ref u) vs) Q E s₁) E s) : wpAny M A (callWith pos (.ref u) [] (backTo pos (starEach [e] env)) []) Q E s := by
  rw [he] at h ⊢
  refine PySem.W.kxs_callWith (i := i) (x := x) rfl ?_
  exact PySem.Calls.evalArgs_plain h
theorem fn_super {oc : Value} {od : Option Addr} {osl : Array (Option Value)} {doc pm ctv : Value} {arg : Expr} {rest : List Stmt} {p0 p1 p2 p3 p4 : Pos} {p : Str} {ps' : List Str}
    (T : SupC P K mg C f F.c cc) (lk : K.lookup f = some ⟨oc, od, .func (F.fd doc pm ctv), osl⟩) (hcl : F.cl = [(("__class__" : Str), cc)]) (hcd : PySem.W.codeIn K (.ref F.c) F.qual = true) (S : NScope N ps ["__class__"] F.scope) (hps : ps = p :: ps')
    (hpar : ∃ ar, (F.params.posonlyargs ++ F.params.args).head? = some ar ∧ ar.arg = p) (hsu : F.scope.names.lookup ("super" : Str) = some .globalImplicit) (hbd : F.body = supSt arg p0 p1 p2 p3 p4 :: rest)
    (hsw : ∀ L : Addr, swapsWith (.Call (.Attribute (.Call (.Name "super" p0) [] [] p1) "__init__" p2) [arg] [] p3) none p4.line (envF F f L) = pure false)
    (hev : ∀ L : Addr, ∃ pl, eval (.Call (.Attribute (.Call (.Name "super" p0) [] [] p1) "__init__" p2) [arg] [] p3) (envF F f L) = (do
        let ov ← attributeBase (.Call (.Name "super" p0) [] [] p1) "__init__" (envF F f L) (eval (.Call (.Name "super" p0) [] [] p1) (envF F f L))
        standAt p2.atName
        let (f', first) ← holding [ov] (getMethod ov "__init__" pl)
        callWith p3 f' first (backTo p3 (starEach [arg] (envF F f L))) []))
    (hst : ∀ L : Addr, starEach [arg] (envF F f L) = (false, eval arg (envF F f L)) :: starEach [] (envF F f L))
    (len : ∀ vs H Q E, sp vs H Q E → vs.length = ps.length)
    (hbody : ∀ (A : Around) (outer : List Env) (s : Shared) (H : Hp) (vs : List V) (Q : VK) (E : XK), Room k (A.deeper (envF F f s.heap.objs.size)) → sp vs H Q E →
      ∃ a vs' ta t, vs = .ref a :: vs' ∧ H a = some (exo a C none) ∧ PA (ncx CX P w K mg base N F f A outer s H E) [arg] ta ∧ PSs (ncx CX P w K mg base N F f A outer s H E) rest t ∧
        ta (startF N vs [none]) H (fun ws H1 => ws.length ≤ 1000 ∧ H1 a = some (exo a C none) ∧ t { nx := fun _ H' => Q .non H', rt := Q } (startF N vs [none]) H1)) :
    FnOk P w K mg base CX (k + 1) f (F.fd doc pm ctv) ps sp := by
  refine ⟨len, fun A outer s H args us vs Q E hr e0 hb r hsp => ?_⟩
  have KX : K.In s.heap := e0.mod.kin.keeps fun b o e => (e0.bs b o e).1
  have hl := len _ _ _ _ hsp
  have lim : s.heap.NoLimit := e0.mod.nolimit.keeps fun b o e => (e0.bs b o e).1
  refine codeAny_call_function hr.depth (KX _ _ lk) rfl S.co S.gen rfl (PySem.W.codeRec_of KX hcd) (hb _ _ _ _ ?_)
  refine wpAny_newFunctionEnv S.nocell (fun ⟨n, _⟩ hy => S.par n (List.of_mem_zip hy).1) (fun h₁ hns hsb => ⟨lim.fresh _ hsb, ?_⟩) S.kind
  show codeAny _ _ (.func F.body (envF F f s.heap.objs.size)) _ _
  refine PySem.ks_codeAny_funcAt ?_
  have kp : ∀ b o, s.heap.get? b = some o → h₁.get? b = some o := fun b o e => hsb.extBut b o (Nat.ne_of_lt (Heap.lt_size e)) (Heap.get?_push_of_some _ e)
  obtain ⟨a, vs', ta, t, hvs, ha, hta, ht, hq⟩ := hbody A outer s H vs Q E (hr.deeper _) hsp
  obtain ⟨cl, cld, csl, hcell⟩ := T.cell
  have hbc : base.get? cc = some ⟨cl, cld, .cell (some (.ref C)), csl⟩ := e0.mod.kin _ _ hcell
  have hlook : ∀ {y : Str} {c : Addr}, F.cl.lookup y = some c → y = "__class__" ∧ c = cc := fun {y c} e => by
    rw [hcl] at e
    by_cases hy : y = "__class__"
    · subst hy
      rw [show List.lookup ("__class__" : Str) [(("__class__" : Str), cc)] = some cc by simp [List.lookup]] at e
      exact ⟨rfl, (Option.some.inj e).symm⟩
    · have hb : (y == ("__class__" : Str)) = false := by simpa using hy
      rw [show List.lookup y [(("__class__" : Str), cc)] = none by simp [List.lookup, hb]] at e
      cases e
  have hlk : F.cl.lookup ("__class__" : Str) = some cc := by rw [hcl]; simp [List.lookup]
  have CA : CellsAt F.cl ["__class__"] [none] s.heap H := {
    len := rfl
    all := fun y c e => by
      obtain ⟨_, rfl⟩ := hlook e
      exact ⟨(e0.bs _ _ hbc).2, _, ⟨_, (e0.bs _ _ hbc).1, rfl⟩⟩
    inj := fun x y c e1 e2 => (hlook e1).1.trans (hlook e2).1.symm
    has := fun i y e => by
      match i, e with
      | 0, e =>
        have ey : ("__class__" : Str) = y := Option.some.inj e
        subst ey
        exact ⟨cc, hlk, fun v hv => by simp at hv⟩ }
  have I : Inv (ncx CX P w K mg base N F f A outer s H E) [] (startF N vs [none]) H { s with heap := h₁, toks := s.toks + (ps.zip us).length } := inv_startN S hr.hd e0 hl r CA hns kp
  have kI : K.In h₁ := KX.keeps kp
  have hN0 : N[0]? = some p := by
    have q := S.pre
    rw [hps] at q
    have z : (N.take ((p :: ps').length + 1))[0]? = some p := by
      have z := congrArg (fun l : List Str => l[0]?) q
      exact z
    rw [List.getElem?_take_of_lt (by simp)] at z
    exact z
  have hs0 : (startF N vs [none])[0]? = some (some (.ref a)) := by rw [hvs]; rfl
  have hploc : F.scope.names.lookup p = some .local := S.par p (by rw [hps]; exact List.mem_cons_self)
  obtain ⟨m, hnm, hlm⟩ := id I.loc
  obtain ⟨u0, ru0, hu0⟩ := hlm 0 p (.ref a) hN0 hs0 (.inl hploc)
  have eu0 : u0 = Value.ref a := ru0
  subst eu0
  have hself : m p = some (.ref a) := by
    rcases hu0 with ⟨_, z⟩ | ⟨z, _⟩
    · exact z
    · have z' : F.scope.names.lookup p = some .cell ∨ F.scope.names.lookup p = some .free := z
      rw [hploc] at z'
      rcases z' with z' | z' <;> cases z'
  obtain ⟨occ, cdd, cvs, csl2, file, tf, hcode, hvs2, hfile⟩ := T.code
  obtain ⟨cdD, hcdD⟩ := T.cd
  have hD : ∃ oD, h₁.get? C = some oD ∧ oD.data = .cls cdD := by
    have hD := hcdD
    unfold PySem.W.clsIn at hD
    split at hD
    · rename_i c d cd' sl ho
      cases hD
      exact ⟨_, kI _ _ ho, rfl⟩
    · cases hD
  obtain ⟨oD, hD1, hD2⟩ := hD
  obtain ⟨nm, q, N', bs, bm, sn, sub, ab, col, dd, k0, k1, k2, k3, k5, hC, hbm⟩ := T.T.cls
  obtain ⟨ar, har1, har2⟩ := hpar
  have hkc : F.scope.names.lookup ("__class__" : Str) = some .free := S.frk _ (by simp)
  obtain ⟨mb, hb1, hb2⟩ := I.mod.blt
  rw [hbd]
  obtain ⟨pl, he⟩ := hev s.heap.objs.size
  refine PySem.ks_wpAt_execs_cons (PySem.ks_wpAt_Expr_any (PySem.ks_wpAt_MethodCall (pl := pl) (PySem.ks_wpAt_super_base (fd := F.fd doc pm ctv) hsu hkc (by decide) rfl (kI _ _ lk) rfl har1 rfl (kI _ _ hcode) rfl hvs2 hfile T.top ?_) he) I.quiet (hsw _))
  -- the names
  refine PySem.W.ks_loadName_global S.kind hsu (Calls.loadGlobal_builtin (by exact I.mod.glob.keeps I.bk) T.zs (by exact hb1.keeps I.bk) ((hb2 _ (by decide)).trans (by decide +kernel)) ⟨rfl, ?_⟩)
  refine wpAny_loadName_free S.kind hkc hlk ⟨_, kI _ _ hcell, rfl⟩ ?_
  refine wpAny_loadName_local S.kind (by rw [har2]; exact hploc) hnm (by rw [har2]; exact hself) ?_
  refine PySem.ks_wpAny_isType_cls hD1 hD2 ⟨rfl, ?_⟩
  obtain ⟨t1, hox⟩ := exo_at I.hok ha
  refine PySem.ks_wpAny_call_super hD1 hD2 hox rfl (fun c e => by cases e) (PySem.W.looks_mroIn kI T.sub) (fun h' hso k' => ?_)
  have I2 : Inv (ncx CX P w K mg base N F f A outer s H E) [] (startF N vs [none]) H { s with heap := h', toks := s.toks + (ps.zip us).length } := I.kept (t' := s.toks + (ps.zip us).length) k'
  have kI2 : K.In h' := kI.keeps k'
  have hox2 : h'.get? a = some ({ cls := .ref C, dict := none, data := .fields #[.ref t1, .none, .none, .none, .bool false, .none] } : Obj) := k' _ _ hox
  have IA : PySem.W.InstAt h' a ({ cls := .ref C, dict := none, data := .fields #[.ref t1, .none, .none, .none, .bool false, .none] } : Obj) C none := ⟨hox2, rfl, rfl, trivial⟩
  have hal : PySem.W.alongIn K "__init__" ((cdD.mro.dropWhile (· != .ref C)).drop 1) = some (some (.builtin "ValueError.__init__")) := by
    have z := T.sup
    unfold PySem.W.ks_superIn at z
    rw [hcdD] at z
    exact z
  refine PySem.W.kxs_getMethod PySem.W.kxs_ValueError hso (PySem.W.looks_opaque kI2 T.any) (l₀ := cdD.mro) (fun A Q E s k q => wpAny_bind ((PySem.W.looks_clsIn kI2 hcdD) A _ E s k (wpAny_pure q))) rfl kI2 hal (IA.type.andThen (PySem.W.looks_subIn kI2 T.subV)) (PySem.W.ks_ne kI2 IA hcdD) (by decide) ?_
  -- the bound __init__ at u
  have ku : ∀ b o, h'.get? b = some o → (h'.push (PySem.W.kxs_mw "ValueError.__init__" a)).get? b = some o := fun b o e => Heap.get?_push_of_some _ e
  have I3 : Inv (ncx CX P w K mg base N F f A outer s H E) [] (startF N vs [none]) H { s with heap := h'.push (PySem.W.kxs_mw "ValueError.__init__" a), toks := s.toks + (ps.zip us).length + 1 } := I2.kept (t' := s.toks + (ps.zip us).length + 1) ku
  have hu : (h'.push (PySem.W.kxs_mw "ValueError.__init__" a)).get? h'.objs.size = some (PySem.W.kxs_mw "ValueError.__init__" a) := Heap.get?_push_at rfl rfl
  have I4 : Inv (ncx CX P w K mg base N F f A outer s H E) [(h'.objs.size, PySem.W.kxs_mw "ValueError.__init__" a)] (startF N vs [none]) H { s with heap := h'.push (PySem.W.kxs_mw "ValueError.__init__" a), toks := s.toks + (ps.zip us).length + 1 } := I3.pins_of fun p hp => by
    have hp1 := List.mem_singleton.mp hp
    subst hp1
    exact ⟨hu, I2.hok.fresh (Nat.le_refl _), fun z => absurd (z ▸ I2.lt) (Nat.lt_irrefl _), I2.nofs (Nat.le_refl _), fun v z => by cases z⟩
  refine callW (i := "ValueError.__init__") (x := a) (hst _) ?_
  refine thn (hta.run p3 _ _ _ H _ I4 hq) fun ws' s5 ⟨ws, H5, I5, r5, hlen, ha5, ht5⟩ => ?_
  have hu5 : s5.heap.get? h'.objs.size = some (PySem.W.kxs_mw "ValueError.__init__" a) := (I5.pin _ (List.mem_append_right _ (List.mem_singleton.mpr rfl))).1
  refine ⟨hu5, ?_⟩
  obtain ⟨t5, hox5⟩ := exo_at I5.hok ha5
  have hws : ws'.length ≤ sizeLine := by
    rw [← Paired.length r5, sizeLine_eq]
    omega
  have I6 : Inv (ncx CX P w K mg base N F f A outer s H E) [] (startF N vs [none]) H5 s5 := I5.pins_of fun p hp => absurd hp (by simp)
  obtain ⟨h5, g5, d5, k5', os5⟩ := s5
  have hC5 := I5.kIn _ _ hC
  show wpAny _ _ (call (.ref h'.objs.size) ws') _ _ _
  refine wpAny_call (codeAny_of_tree ?_)
  show wpAny _ _ (callAny (.ref h'.objs.size) ⟨ws', []⟩) _ _ _
  simp only [callAny]
  refine wpAny_bind (wpAny_load hu5 ?_)
  simp only [PySem.W.kxs_mw, show (Value.type "method-wrapper" == Value.type "method" || Value.type "method-wrapper" == Value.type "builtin_function_or_method" || Value.type "method-wrapper" == Value.type "method-wrapper") = true by decide, if_true]
  refine PySem.W.KFB.if_so (by decide) ?_
  refine wpAny_bind (PySem.W.check_bound_init PySem.F.excBase_ValueError.toExcCallFacts hC5 hox5 rfl ?_)
  refine wpAny_bind (wpAny_pure (wpAny_pure ?_))
  refine ⟨plainId_quiet PySem.F.excBase_ValueError.init.plain _, codeAny_builtin PySem.F.excBase_ValueError.initEntry ?_⟩
  refine PySem.W.exc_init_tree (cls := .ref C) (t0 := t5) (dv := none) (c2 := .none) (c3 := .none) (b4 := .bool false) hox5 hws (fun h6 k6 e6 _ => ?_)
  have J := I6.write (t' := k5') (x := a) (e := a) (o := exo a C none) (by rw [ha5]; exact True.intro) (.inl rfl) k6 ⟨_, e6⟩ (exo_ok e6)
  have eu : upd H5 a (exo a C none) = H5 := by
    funext b
    by_cases hb : b = a
    · rw [hb, upd_same, ha5]
    · rw [upd_ne hb]
  rw [eu] at J
  refine PySem.wpAt_of_wpAny (wpAny_mono (ht.run [] _ (startF N vs [none]) H5 _ J ht5) (fun fl s' hs => ?_) fun e s' hs => hs)
  have fin : ∀ {σ' : L2.St} {H' : Hp} {v : V} {u : Value}, Inv (ncx CX P w K mg base N F f A outer s H E) [] σ' H' s' → L2.RelV v u → Q v H' → CE outer P w H s Q u s' :=
    fun {σ' H' v u} J rv q => ⟨v, H', J.os, J.bare, J.base, J.hok, rv, q⟩
  cases fl with
  | ret u =>
    obtain ⟨v, σ', H', J, rv, q⟩ := hs
    exact fin J rv q
  | next =>
    obtain ⟨σ', H', J, q⟩ := hs
    exact fin (v := V.non) (u := Value.none) J rfl q
  | brk =>
    obtain ⟨_, _, _, q⟩ := hs
    exact False.elim q
  | cont =>
    obtain ⟨_, _, _, q⟩ := hs
    exact False.elim q
end
/-! ### an exception without fields, made -/
section
variable {X : Cx}
theorem mk_endN {pins : List (Addr × Obj)} {σ : L2.St} {H1 H2 : Hp} {Q : XK} {hp hp2 h2 : Heap} {g1 g2 : Array GenState} {d1 d2 : Drawn} {t1 t2 : Nat} {os1 os2 : OsState} {a C : Addr} (T : Raises X (.ref C)) (I1 : Inv X pins σ H1 ⟨hp, g1, d1, t1, os1⟩)
    (ha : hp.objs.size ≤ a) (k : ∀ b o, hp.get? b = some o → hp2.get? b = some o) (un : Un (frs X.stack) [] (upd H1 a (exo a C none)) H2 hp2 h2) (hok : HOk X.prog X.w H2 h2) (ho : os2 = os1) (hb : AllBare g2)
    (ea : H2 a = some (exo a C none)) (q : Q (.ref C) none (del H2 a)) : MkP X pins σ Q (.ref a) ⟨h2, g2, d2, t2, os2⟩ := by
  obtain ⟨t0, hoe⟩ := exo_at hok ea
  have hn : H1 a = none := I1.hok.fresh ha
  obtain ⟨G, g1', g2'⟩ := restrict h2 fun b => decide (b ≠ a)
  have gk : ∀ b, b ≠ a → G.get? b = h2.get? b := fun b hb => g1' b (decide_eq_true hb)
  have ge : G.get? a = none := g2' a (by simp)
  have nha : ∀ {b : Addr} {o : Obj}, hp.get? b = some o → b ≠ a := fun {b o} z => Nat.ne_of_lt (Nat.lt_of_lt_of_le (Heap.lt_size z) ha)
  have up : ∀ {b : Addr}, b ≠ a → H1 b = none → upd H1 a (exo a C none) b = none := fun {b} hb n => by rw [upd_ne hb]; exact n
  have U : Un (frs X.stack) [] H1 (del H2 a) hp G := {
    keep := fun b o z n hf hx => by
      rw [gk b (nha z)]
      exact un.keep b o (k b o z) (up (nha z) n) hf hx
    slot := fun b o z n hf hx => by
      rw [gk b (nha z)]
      exact un.slot b o (k b o z) (up (nha z) n) hf hx
    free := fun b o z n hx => by
      rw [del_ne (nha z)]
      exact un.free b o (k b o z) (up (nha z) n) hx
    there := fun b o z hx => by
      rw [gk b (nha z)]
      exact un.there b o (k b o z) hx
    tups := fun b xs z => by
      rw [del_ne (ne_of_none z hn)]
      exact un.tups b xs (by rw [upd_ne (ne_of_none z hn)]; exact z)
    frzs := fun b o v z => by
      rw [del_ne (ne_of_none z hn)]
      exact un.frzs b o v (by rw [upd_ne (ne_of_none z hn)]; exact z)
    tbls := fun b ps z => by
      rw [del_ne (ne_of_none z hn)]
      exact un.tbls b ps (by rw [upd_ne (ne_of_none z hn)]; exact z) }
  have hok3 : HOk X.prog X.w (del H2 a) G := fun b o z => by
    have hba : b ≠ a := fun e => by
      rw [e, del_same] at z
      cases z
    rw [del_ne hba] at z
    have noa : ∀ {c : Addr}, H2 c = some (.own b) → c ≠ a := fun {c} hc => at_ne ea hc exo_own
    exact (hok b o z).stay (fun c v hc y => by
        have hca : c ≠ a := by
          rcases hc with hc | hc
          · rw [hc]
            exact hba
          · exact noa hc
        rw [gk c hca]
        exact y)
      (fun c hc => by rw [del_ne (noa hc)]; exact hc) (fun c xs hc => by rw [del_ne (at_ne ea hc exo_tup)]; exact hc)
  have J : Inv X pins σ (del H2 a) ⟨G, g2, d2, t2, os2⟩ := I1.call' (ch := []) ho U hok3 hb (fun b z => absurd z (by simp))
  refine ⟨a, _, _, ⟨G, g2, d2, t2, os2⟩, _, .ref C, none, rfl, J, fun b o z => ?_, ge, hoe, ⟨rfl, rfl⟩, rfl, rfl, del_same, rfl, hb, T, q⟩
  by_cases hba : b = a
  · rw [hba, ge] at z
    cases z
  · exact (gk b hba).symm.trans z
/-- C(), C's own __init__ keeping sp and making no field -/
def tMkN (C : Addr) (sp : Sp) : L2.St → Hp → XK → Prop := fun _ H Q => ∀ a, H a = none → sp [.ref a] (upd H a (exo a C none)) (fun v H2 => v = .non ∧ H2 a = some (exo a C none) ∧ Q (.ref C) none (del H2 a)) (fun _ _ _ => False)
theorem pmk_oexN {CX : CXT} {x : Str} {C fI : Addr} {k : Nat} {fd : FuncData} {ps : List Str} {sp : Sp} {p pos : Pos} (T : OexC X.K C) (iC : PySem.W.findIn X.K (.ref C) "__init__" = some (some (.ref fI))) (tI : PySem.W.typeIn X.K (.ref fI) = some (.type "function"))
    (F1 : FnOk X.prog X.w X.K X.mg X.base CX k fI fd ps sp) (hr : Room (k + 1) X.A) (hb : Binds X.K fd ps []) (hx : Passes CX X (fun _ _ _ => False)) (hg : Gl X x) (hm : X.mg x = some (.ref C))
    (hdb : (x == ("__debug__" : Str)) = false := by decide) : PMk X (.Call (.Name x p) [] [] pos) (tMkN C sp) := by
  intro pins s σ H1 Q I1 q1
  obtain ⟨nm, q, N, bs, bm, sn, sub, ab, col, dd, k0, k1, k2, k3, k5, hC, hbm⟩ := T.cls
  refine wpAny_Call_Name_kw (ld_glob I1 hg hm ?_ hdb)
  refine PySem.W.callWith_K0 I1.kIn T.kC ?_
  show wpAny _ _ (call (.ref C) []) _ _ _
  obtain ⟨hp, g, dr, tk, os⟩ := s
  have hsz : hp.objs.size ≤ hp.objs.size + 1 := Nat.le_succ _
  have hn : H1 (hp.objs.size + 1) = none := I1.hok.fresh hsz
  have hq := q1 (hp.objs.size + 1) hn
  have kk : ∀ b o, hp.get? b = some o → ((hp.push (PySem.W.kdv_tup [])).push (PySem.HandSPX.excO C hp.objs.size)).get? b = some o := fun b o e => Heap.get?_push_of_some _ (Heap.get?_push_of_some _ e)
  have hget : ((hp.push (PySem.W.kdv_tup [])).push (PySem.HandSPX.excO C hp.objs.size)).get? (hp.objs.size + 1) = some (PySem.HandSPX.excO C hp.objs.size) := by heap_get
  have I2 : Inv X pins σ (upd H1 (hp.objs.size + 1) (exo (hp.objs.size + 1) C none)) ⟨(hp.push (PySem.W.kdv_tup [])).push (PySem.HandSPX.excO C hp.objs.size), g, dr, tk, os⟩ :=
    I1.laid (t' := tk) (a := hp.objs.size + 1) (o := exo (hp.objs.size + 1) C none) (h' := (hp.push (PySem.W.kdv_tup [])).push (PySem.HandSPX.excO C hp.objs.size)) kk hsz (exo_ok hget)
  have r2 : Vals [V.ref (hp.objs.size + 1)] [Value.ref (hp.objs.size + 1)] := .cons rfl .nil
  have hl : ([Value.ref (hp.objs.size + 1)] ++ []).length = ps.length := by
    have e := r2.length
    rw [F1.len _ _ _ _ hq] at e
    exact e.symm
  refine wpAny_call (PySem.HandSPX.call_own PySem.F.excBase_ValueError (fun Y => PySem.HandSPX.refsVE_contains Y bm hbm) (I1.kIn _ _ hC) (PySem.W.looks_findIn I1.kIn iC) (fun self => PySem.W.bind_fn I1.kIn self tI) (Nat.zero_le _)
    (codeAny_mono (F1.run _ X.stack _ _ ⟨[Value.ref (hp.objs.size + 1)], []⟩ [Value.ref (hp.objs.size + 1)] _ _ (fun _ _ _ => False) (hr.make C [] []) (I2.env0.make C [] []) (hb _ [Value.ref (hp.objs.size + 1)] I2.kIn hl) r2 hq) fun r s' hq' => ?_))
  cases r with
  | error er => exact hx pins σ _ _ er s' I2 hq'
  | ok fl =>
    cases fl with
    | ret u =>
      obtain ⟨v, H2, os2, bare2, un2, hok2, rv, ev, ea, q2⟩ := hq'
      subst ev
      obtain ⟨h2, g2, d2, t2, os'⟩ := s'
      exact ⟨rv, mk_endN (raises_own T.exC T.tyC) I1 hsz kk un2 hok2 os2 bare2 ea q2⟩
    | next => exact False.elim hq'
    | brk => exact False.elim hq'
    | cont => exact False.elim hq'
end
/-! ### a call of a local name that holds a def, which may raise -/
section
variable {X : Cx} {CX : CXT} {k i : Nat} {f : Addr} {fd : FuncData} {ps : List Str} {sp : Sp} {E : L2.St → XK} {x : Str} {p pos : Pos} {e : Expr} {es : List Expr} {t : TA}
def tCallLS (i : Nat) (f : Addr) (sp : Sp) (E : L2.St → XK) (t : TA) : TE := fun σ H Q => σ[i]? = some (some (.ref f)) ∧ t σ H fun vs H1 => sp vs H1 Q (E σ)
theorem pe_callLS (F : FnOk X.prog X.w X.K X.mg X.base CX k f fd ps sp) (hr : Room k X.A) (hN : X.N[i]? = some x) (hv : Vis X.env.scope x) (hk : PySem.W.keepIn X.K (.ref f) = true) (hb : Binds X.K fd ps []) (hx : ∀ σ, PassesAt CX X σ (E σ)) (ha : PA X (e :: es) t)
    (hdb : (x == ("__debug__" : Str)) = false := by decide) (hcd : (x == ("__classdict__" : Str)) = false := by decide)
    (he : starEach (e :: es) X.env = (false, eval e X.env) :: starEach es X.env := by rfl) (hpl : (backTo pos (starEach es X.env)).any (·.1) = false := by rfl) : PE X (.Call (.Name x p) (e :: es) [] pos) (tCallLS i f sp E t) := by
  refine ⟨fun pins s σ H Q I h => ?_⟩
  obtain ⟨hs, ht⟩ := h
  refine wpAny_Call_Name_kw (thn ((pe_var (pos := p) hN hv hdb hcd).run pins s σ H (fun v H1 => v = .ref f ∧ H1 = H) I ⟨.ref f, hs, rfl, rfl⟩) fun u s1 ⟨v, H1, I1, r1, q1⟩ => ?_)
  obtain ⟨rfl, rfl⟩ := q1
  cases r1
  refine PySem.W.callWith_K (h₀ := X.base) I.ok.mod.kin hk (thn (ha.run pos pins s1 σ _ _ I1 ht) fun us s2 ⟨vs, H2, I2, r, q⟩ => ⟨I2.kIn, ?_⟩) he hpl
  exact run_fnS F hr hb (hx σ) I2 r q
end
/-! ### isinstance of a caught error of an own class without fields -/
def rIsX (K : PySem.W.Frag) (a : Addr) (cls : Value) (d : Option Addr) : List V → Hp → VK → Prop := fun xs H Q => ∃ (D : Addr) (c : V) (cv : Value) (b : Bool), cls = .ref D ∧ d = none ∧ ExcC K D ∧ xs = [.ref a, c] ∧ (∀ u, L2.RelV c u → u = cv) ∧ PySem.W.kitOne K (.ref D) cv = some b ∧ Q (.bl b) H
theorem call_isX {X : Cx} {a : Addr} {oe : Obj} {cls : Value} {d : Option Addr} {pn : List (Addr × Obj)} (hz : Zc cls d oe) (hf : ∃ vs, oe.data = .fields vs) : CallR (X.suite a ((a, oe) :: pn)) (.builtin "isinstance") (rIsX X.K a cls d) := by
  intro pins s σ H xs us Q I r h
  obtain ⟨D, c, cv, b, rfl, rfl, C, rfl, hc, e, q⟩ := h
  exact call_isE C hz hf pins s σ H [.ref a, c] us Q I r ⟨c, cv, b, rfl, hc, e, q⟩
/-! ### what a law's text says of an own exception -/
/-- ExcT C f c cc: the class at C over SamphireError .. over ValueError, with its own __init__ at f -/
structure ExcT (P : Program) (K : PySem.W.Frag) (mg : Str → Option Value) (name : Str) (C f c cc : Addr) : Prop where
  S : SupC P K mg C f c cc
  g : mg name = some (.ref C)
  iC : PySem.W.findIn K (.ref C) "__init__" = some (some (.ref f))
  tI : PySem.W.typeIn K (.ref f) = some (.type "function")
  is : ExcC K C
  te : PySem.W.exmOne K (.ref C) (.ref C) = some true
theorem ExcT.xf {P : Program} {K : PySem.W.Frag} {mg : Str → Option Value} {name : Str} {C f c cc : Addr} (T : ExcT P K mg name C f c cc) : XfC K C := ⟨T.is.hg, T.is.hk, T.is.hs, T.is.hd⟩
/-- the file that a code object tells -/
def flIs (cvs : List Value) (f : Str) : Bool := match cvs with | _ :: _ :: .str file _ :: _ => f == file | _ => false
/-- what k_is finds, put together -/
theorem excT_mk {P : Program} {K : PySem.W.Frag} {mg : Str → Option Value} {name : Str} {C f c cc : Addr} {nm q : Str} {N : Addr} {bs bm : List Value} {sn : List Str} {sub : List Value} {ab : Bool} {col : Option Bool} {dd : Option Addr} {m0 m1 m2 m3 m5 : Option Value}
    {occ : Value} {cdd : Option Addr} {cvs : List Value} {csl : Array (Option Value)} {ccl : Value} {ccd : Option Addr} {ccs : Array (Option Value)}
    (xL : K.lookup C = some (excClassObj nm q C N bs bm true sn sub ab col dd m0 m1 m2 m3 m5 "ValueError.__new__")) (rv : PySem.HandSPX.refsVE bm = true)
    (sa : PySem.W.findIn K (.ref C) "__setattr__" = some (some (.builtin "object.__setattr__"))) (sB : PySem.W.subIn K (.ref C) (.type "BaseException") = some true) (tC : PySem.W.typeIn K (.ref C) = some (.type "type")) (kC : PySem.W.keepIn K (.ref C) = true)
    (code : K.lookup c = some ⟨occ, cdd, .fields cvs.toArray, csl⟩) (hfile : flIs cvs P.main.file = true)
    (cell : K.lookup cc = some ⟨ccl, ccd, .cell (some (.ref C)), ccs⟩) (mro : PySem.W.mroIn K C (.ref C) = some true) (sV : PySem.W.subIn K (.ref C) (.type "ValueError") = some true) (zs : mg "super" = none)
    (any : PySem.W.nsIn K PySem.cStatics "thirdparty.any" = some none) (sup : PySem.W.ks_superIn K C C "__init__" = some (some (.builtin "ValueError.__init__"))) (top : (P.main.scope.names.lookup ("super" : Str)).isSome = false)
    (g : mg name = some (.ref C)) (iC : PySem.W.findIn K (.ref C) "__init__" = some (some (.ref f))) (tI : PySem.W.typeIn K (.ref f) = some (.type "function")) (is : ExcC K C) (isc : PySem.W.isClsIn K C = true) (sC : PySem.W.subIn K (.ref C) (.ref C) = some true) : ExcT P K mg name C f c cc where
  S := {
    T := ⟨⟨nm, q, N, bs, bm, sn, sub, ab, col, dd, m0, m1, m2, m3, m5, xL, rv⟩, sa, sB, tC, kC⟩
    cd := ⟨_, by unfold PySem.W.clsIn; rw [xL] <;> rfl⟩
    code := by
      match cvs, code, hfile with
      | a :: b :: .str file tf :: r, code, hfile => exact ⟨_, _, _, _, file, tf, code, rfl, hfile⟩
    cell := ⟨_, _, _, cell⟩
    sub := mro
    subV := sV
    zs := zs
    any := any
    sup := sup
    top := top }
  g := g
  iC := iC
  tI := tI
  is := is
  te := PySem.W.exm_ref sB is.hd tC sC
end Sup

/-! ### list(reversed(a list)) -/
namespace RL
open PySem PySem.Spec PyProof.Rows RT L2
section
variable {prog : Program} {w : World} {A : Around} {E : Value → Shared → Prop} {s : Shared}
theorem extend_rev {R : Result → Shared → Prop} {S it l : Addr} {items : Array Value} {res : Value} {c₀ : Nat} (hh : A.handled = none) (hit : s.heap.IsRevIter it l ((items.size : Int) - 1)) (hl : s.heap.IsList l items) (hne : l ≠ it) (hSi : S ≠ it) (hSl : S ≠ l) (hn : items.size ≤ sizeLine)
    (hS : s.heap.get? S = some { cls := .type "list", data := .seq #[] c₀ })
    (hR : ∀ s' acc' c', Moved (S :: [it]) (fun a b => b = a) s s' → s'.heap.get? S = some { cls := .type "list", dict := none, data := .seq acc' c', slots := #[] } → ItemsOf (fun i v => items[items.size - 1 - i]? = some v) acc' items.size → R (.ok (.ret res)) s') :
    wpAny (model prog w) A.in1 (Builtin.List.listExtendWith (.ref S) (.ref it) res)
      (fun fin s' => match fin with | .done f => R (.ok f) s' | .again c' => c'.quiet = true ∧ codeAny (model prog w) A c' R s') (fun e s' => R (.error e) s') s := by
  have W := (Walks.listRev (prog := prog) (w := w) (A := A.in1) hh it l hne items).toS
  have hSf : S ∉ [it, l] := by simp only [List.mem_cons, List.not_mem_nil, or_false, not_or]; exact ⟨hSi, hSl⟩
  have hT : s.TypeIs (.ref it) "list_reverseiterator" := Heap.IsRevIter.typeIs hit
  have h1 : Builtin.List.listSameRef (.ref S) (.ref it) = false := by simp [Builtin.List.listSameRef, hSi]
  unfold Builtin.List.listExtendWith
  refine wpAny_bind (wpAny_typeOf hT ?_)
  rw [if_neg (by rw [h1]; decide)]
  refine wpAny_bind (wpAny_pyIter_revIter hit ?_)
  refine wpAny_bind (wpAny_holding ?_)
  unfold Builtin.List.listLengthHint
  refine wpAny_bind (wpAny_specialOf hT nolen_lri ?_)
  show wpAny _ A.in1 (specialOf (Value.ref it) (Str.ofString "__length_hint__") >>= _) _ _ _
  refine wpAny_bind (wpAny_specialOf hT hint_lri ?_)
  generalize hid : ("list_reverseiterator.__length_hint__" : String) = id0
  wp_delta
  rw [show splitId id0 = some ("list_reverseiterator", "__length_hint__") from by subst hid; decide +kernel]
  subst hid
  refine wpAny_bind (wpAny_isInstance (b := true) hT (by rw [isSubtype_type]; kernel_rfl) ?_)
  refine wpAny_pure ?_
  rw [if_neg (by decide)]
  have e0 : ((items.size : Nat) : Int) - 1 - ((0 : Nat) : Int) = (items.size : Int) - 1 := by omega
  refine wpAny_pure ⟨plainId_quiet F.plain_extend_loop _, codeAny_extend_loopS W hn _ hSf _ items.size 0 _ _ _ rfl (Nat.zero_le _) ⟨Nat.zero_le _, by rw [e0]; exact hit, hl⟩ hS (ItemsOf.nil _) fun s' acc' c' hm hS' hacc => ?_⟩
  exact hR s' acc' c' hm hS' hacc
theorem init_rev {R : Result → Shared → Prop} {S it l : Addr} {items : Array Value} (hh : A.handled = none) (hit : s.heap.IsRevIter it l ((items.size : Int) - 1)) (hl : s.heap.IsList l items) (hne : l ≠ it) (hSi : S ≠ it) (hSl : S ≠ l) (hn : items.size ≤ sizeLine)
    (hS : s.heap.get? S = some { cls := .type "list", data := .seq #[] })
    (hR : ∀ (h' : Heap) (tk : Nat) (acc : Array Value) (c' : Nat), (∀ b o, b ≠ S → b ≠ it → s.heap.get? b = some o → h'.get? b = some o) → h'.get? S = some { cls := .type "list", dict := none, data := .seq acc c', slots := #[] } → ItemsOf (fun i v => items[items.size - 1 - i]? = some v) acc items.size → R (.ok (.ret .none)) { s with heap := h', toks := tk }) :
    wpAny (model prog w) A.in1 (Builtin.«list.__init__» ⟨[.ref S, .ref it], []⟩)
      (fun fin s' => match fin with | .done f => R (.ok f) s' | .again c' => c'.quiet = true ∧ codeAny (model prog w) A c' R s') (fun e s' => R (.error e) s') s := by
  show wpAny _ A.in1 (do let old ← Builtin.List.listItems (.ref S); Builtin.List.listUpdate (.ref S) (fun _ => #[]); letGo old.toList.reverse; Builtin.List.listExtendWith (.ref S) (.ref it) .none) _ _ s
  refine wpAny_bind ?_
  unfold Builtin.List.listItems
  refine wpAny_bind (wpAny_seqItems hS rfl (wpAny_pure ?_))
  show wpAny _ A.in1 (updateSeq S (fun _ => #[]) >>= fun _ => letGo (#[] : Array Value).toList.reverse >>= fun _ => Builtin.List.listExtendWith (.ref S) (.ref it) .none) _ _ s
  refine wpAny_bind (wpAny_updateSeq hS rfl ?_)
  have hS₂ := Heap.get?_update_self (Obj.mapSeq (fun _ => (#[] : Array Value))) hS rfl
  have oth : ∀ b o, b ≠ S → s.heap.get? b = some o → (s.heap.update S (Obj.mapSeq (fun _ => (#[] : Array Value)))).get? b = some o :=
    fun b o hb e => (Heap.get?_update_other _ _ (Ne.symm hb)).trans e
  refine wpAny_bind (wpAny_letGo ?_)
  refine extend_rev (s := { s with heap := s.heap.update S (Obj.mapSeq (fun _ => (#[] : Array Value))) }) hh (hit.at fun o e => oth it o hSi.symm e) (by obtain ⟨o, ho, x⟩ := hl; exact ⟨o, oth l o hSl.symm ho, x⟩) hne hSi hSl hn hS₂ fun s' acc' c' hm hS' hacc => ?_
  rw [Moved.eq_with hm]
  exact hR s'.heap s'.toks acc' c' (fun b o hb hb2 e => hm.heap b o (by simp [hb, hb2]) (oth b o hb e)) hS' hacc
theorem call_list_rev {it l : Addr} {items : Array Value} {Q : Value → Shared → Prop} (hh : A.handled = none) (hit : s.heap.IsRevIter it l ((items.size : Int) - 1)) (hl : s.heap.IsList l items) (hne : l ≠ it) (hn : items.size ≤ sizeLine)
    (hQ : ∀ (h' : Heap) (tk : Nat) (acc : Array Value) (c' : Nat), (∀ b o, b ≠ it → s.heap.get? b = some o → h'.get? b = some o) → h'.get? s.heap.objs.size = some { cls := .type "list", dict := none, data := .seq acc c', slots := #[] } → ItemsOf (fun i v => items[items.size - 1 - i]? = some v) acc items.size → Q (.ref s.heap.objs.size) { s with heap := h', toks := tk }) :
    wpAny (model prog w) A (call (.type "list") [.ref it]) Q E s := by
  refine callType_codes (Q₁ := fun obj s₁ => obj = .ref s.heap.objs.size ∧ s₁ = { s with heap := s.heap.push { cls := .type "list", data := .seq #[] } }) F.called_list (F.typeCall_list_1 _) F.entry_list_init
    (code_list_new _ ⟨rfl, rfl⟩) fun obj s₁ h₁ => ?_
  obtain ⟨rfl, rfl⟩ := h₁
  have hS : (s.heap.push { cls := .type "list", data := .seq #[] }).get? s.heap.objs.size = some { cls := .type "list", data := .seq #[] } := Heap.get?_push_size _ rfl
  obtain ⟨oi, hoi, _⟩ := id hit
  obtain ⟨ol, hol, _⟩ := id hl
  refine ⟨⟨_, hS, rfl⟩, F.args_list_init_2 _ _, init_rev (A := A.in1) (s := { s with heap := s.heap.push { cls := .type "list", data := .seq #[] } }) hh (hit.at fun o e => Heap.get?_push_of_some _ e) (hl.push _) hne (Nat.ne_of_gt (Heap.lt_size hoi)) (Nat.ne_of_gt (Heap.lt_size hol)) hn hS fun h' tk acc c' hk hS' hacc => ?_⟩
  exact ⟨rfl, hQ h' tk acc c' (fun b o hb e => hk b o (Nat.ne_of_lt (Heap.lt_size e)) hb (Heap.get?_push_of_some _ e)) hS' hacc⟩
end
section
variable {X : Cx}
/-- list(reversed(xs)): a new list -/
def tListRev (K : PySem.W.Frag) (te : TE) : TE := fun σ H Q => te σ H fun x H1 => ∃ a xs, x = .ref a ∧ SqL K H1 a xs ∧ ∀ p, H1 p = none → Q (.ref p) (upd H1 p (.lst xs.reverse))
theorem pe_listRev {e : Expr} {te : TE} {p p2 pos pos2 : Pos} (hc : X.calm = true) (hg : Gl X "list") (hm : X.mg "list" = none) (hg2 : Gl X "reversed") (hm2 : X.mg "reversed" = none) (he : PE X e te)
    (hs : starEach [e] X.env = (false, eval e X.env) :: starEach [] X.env := by rfl)
    (hs2 : starEach [.Call (.Name "reversed" p2) [e] [] pos2] X.env = (false, eval (.Call (.Name "reversed" p2) [e] [] pos2) X.env) :: starEach [] X.env := by rfl) :
    PE X (.Call (.Name "list" p) [.Call (.Name "reversed" p2) [e] [] pos2] [] pos) (tListRev X.K te) := by
  refine ⟨fun pins s σ H Q I h => ?_⟩
  refine Call_ (ld_blt I hg hm boot_list (PyProof.Rows.callWith_type1 (args_cons (Call_ (ld_blt I hg2 hm2 PyProof.Rows.boot_reversed (PyProof.Rows.callWith_type1 (args_cons (thn (he.run pins s σ H _ I h) fun u s1 ⟨v, H1, I1, r1, q1⟩ => args_nil ?_) hs) hs rfl))) hs2) hs2 rfl))
  obtain ⟨a, xs, ev, hq, q⟩ := q1
  subst ev
  obtain rfl : u = Value.ref a := r1
  obtain ⟨its, rv, p', hz⟩ := I1.list hq
  refine call_reversed_list p'.isList (args_nil ?_)
  have k0 : ∀ b o, s1.heap.get? b = some o → (s1.heap.push (revObj a ((its.toArray.size : Int) - 1))).get? b = some o := fun b o e => Heap.get?_push_of_some _ e
  have hl := p'.isList
  obtain ⟨ol, hol, _⟩ := id hl
  have hne : a ≠ s1.heap.objs.size := Nat.ne_of_lt (Heap.lt_size hol)
  have hn : its.toArray.size ≤ sizeLine := by rw [List.size_toArray, ← rv.length]; exact hz
  refine call_list_rev (s := { s1 with heap := s1.heap.push (revObj a ((its.toArray.size : Int) - 1)) }) (I1.ok.hd hc) ⟨_, Heap.get?_push_size _ rfl, rfl, rfl⟩ (hl.push _) hne hn fun h' tk acc c' hk hS' hi => ?_
  have hle : s1.heap.objs.size ≤ (s1.heap.push (revObj a ((its.toArray.size : Int) - 1))).objs.size := by simp [Heap.push]
  have ea : acc.toList.toArray = acc := by simp
  exact ⟨.ref (s1.heap.push (revObj a ((its.toArray.size : Int) - 1))).objs.size, upd H1 (s1.heap.push (revObj a ((its.toArray.size : Int) - 1))).objs.size (.lst xs.reverse), I1.laid (t' := tk) (fun c o e => hk c o (Nat.ne_of_lt (Heap.lt_size e)) (k0 c o e)) hle (show ObjOk X.prog X.w _ _ _ (.lst xs.reverse) from ⟨by rw [List.length_reverse]; exact hz, acc.toList, c', vals_rev rv hi, by rw [ea]; exact hS'⟩), rfl, q _ (I1.hok.fresh hle)⟩
end
end RL
/-! ### xs.extend(a tuple) -/
namespace RL
open PySem PySem.Spec PyProof.Rows RT L2
theorem meets_extend_tup (l : Addr) (items : Array Value) (n : Nat) (b : Addr) (items2 : Array Value) (n2 : Nat) (o : Obj) (hc : o.cls = .type "tuple") (hd : o.data = .seq items2 n2) (hs1 : items.size + items2.size ≤ sizeLine) :
    Meets (Builtin.«list.extend» ⟨[.ref l, .ref b], []⟩) (fun _ R s => s.heap.get? l = some { cls := .type "list", dict := none, data := .seq items n, slots := #[] } ∧ s.heap.get? b = some o ∧ R (.ok (.ret Value.none)) { s with heap := s.heap.update l (Obj.mapSeq fun x => x ++ items2), toks := s.toks }) :=
  .of_wp fun prog w A R s h => by
    obtain ⟨hl, hb, h⟩ := h
    show wpAny _ _ (Builtin.List.listExtendWith (.ref l) (.ref b) .none) _ _ _
    unfold Builtin.List.listExtendWith
    refine wpAny_bind (wpAny_typeOf ⟨o, hb, hc⟩ ?_)
    have h1 : (Builtin.List.listSameRef (.ref l) (.ref b) || Value.type "tuple" == Value.type "list" || Value.type "tuple" == Value.type "tuple") = true := by simp
    simp only [h1, if_true]
    refine wpAny_bind ?_
    unfold Builtin.List.listItems
    refine wpAny_bind (wpAny_seqItems hb hd (wpAny_pure ?_))
    refine wpAny_bind ?_
    refine wpAny_bind (wpAny_seqItems hl rfl (wpAny_pure ?_))
    have hlong : ¬ (!items.isEmpty && Builtin.List.listTooLong (items.size + items2.size)) = true := by
      rw [notLongL hs1, Bool.and_false]
      exact Bool.false_ne_true
    rw [if_neg hlong]
    show wpAny _ _ (updateSeq l (· ++ items2) >>= fun _ => ret .none) _ _ s
    refine wpAny_bind (wpAny_updateSeq hl rfl (hz := by omega) (_hz' := by rw [Array.size_append]; omega) ?_)
    exact wpAny_pure ⟨_, rfl, h⟩
section
variable {X : Cx}
def rExtT : V → List V → Hp → VK → Prop := fun x vs H Q => ∃ l b xs zs, x = .ref l ∧ vs = [.ref b] ∧ H l = some (.lst xs) ∧ H b = some (.tup zs) ∧ xs.length + zs.length ≤ sizeLine ∧ Q .non (upd H l (.lst (xs ++ zs)))
theorem mt_extendT : MtM X "list.extend" rExtT := by
  intro pins s σ H x vs v us Q I rx rv h
  obtain ⟨l, b, xs, zs, rfl, rfl, hH, hB, hz, q⟩ := h
  cases rx
  obtain ⟨u, rfl, ru⟩ := rv.one
  cases ru
  obtain ⟨z, its, n, r, hl, e⟩ := I.lstM hH
  obtain ⟨its2, r2, ⟨o, ho, hc, n2, hd⟩, hz2⟩ := I.tuple (SqT.of hB)
  have hl2 := r2.length
  refine call_meets PySem.F.slot_list_extend ⟨_, e, rfl⟩ PySem.F.entry_list_extend (PySem.F.args_list_extend_2 _ _)
    (meets_extend_tup l its.toArray n b its2.toArray n2 o hc hd (by rw [List.size_toArray, List.size_toArray]; omega)) ⟨e, ho, ?_⟩
  refine ⟨.non, _, I.lset (its' := its ++ its2) hH e (by simp) (r.append r2) ?_, rfl, q⟩
  rw [List.length_append]
  omega
end
end RL
/-! ### enumerate(a list, start=k) -/
namespace RL
open PySem PySem.Spec PyProof.Rows L2
section
variable {M : Model} {A : Around} {E : Value → Shared → Prop} {s : Shared} {env : Env}
theorem callWith_type_kwB {pos : Pos} {T : String} {first : List Value} {args : List (Bool × Sem Value)} {keywords : List (Option Str × Sem Value)} {Q : Value → Shared → Prop}
    (hplain : args.any (·.1) = false) (hkw : keywords.any (·.1.isNone) = false)
    (h : wpAny M A (evalArgs (.type T) true args keywords) (fun a s₁ => wpAny M A (call (.type T) (first ++ a.pos) a.kw) Q E s₁) E s) :
    wpAny M A (callWith pos (.type T) first args keywords) Q E s := by
  unfold callWith
  refine wpAny_bind (wpAny_holding (wpAny_mono h (fun a s₁ h₁ => wpAny_bind (wpAny_standAt ?_)) fun _ _ x => x))
  simp only [hplain, hkw, Bool.or_false]
  refine wpAny_bind (wpAny_pure ?_)
  exact wpAny_bind (wpAny_mono h₁ (fun r s₂ hr => wpAny_bind (wpAny_holding (wpAny_point (wpAny_pure hr)))) fun _ _ x => x)
theorem callWith_type_kw {pos : Pos} {T : String} {e : Expr} {rest : List Expr} {kws : List Keyword} {Q : Value → Shared → Prop}
    (h : wpAny M A (spliced (backTo pos (starEach (e :: rest) env))) (fun vs s₁ => wpAny M A (evalAll ((backToKw pos (keywordEach kws env)).map (·.2)))
      (fun kvs s₂ => wpAny M A (call (.type T) vs (((backToKw pos (keywordEach kws env)).filterMap (·.1)).zip kvs)) Q E s₂) E s₁) E s)
    (he : backTo pos (starEach (e :: rest) env) = (false, eval e env) :: backTo pos (starEach rest env))
    (hplain : (backTo pos (starEach (e :: rest) env)).any (·.1) = false)
    (hall : (backToKw pos (keywordEach kws env)).all (·.1.isSome) = true)
    (hkw : (backToKw pos (keywordEach kws env)).any (·.1.isNone) = false) :
    wpAny M A (callWith pos (.type T) [] (backTo pos (starEach (e :: rest) env)) (backToKw pos (keywordEach kws env))) Q E s := by
  refine callWith_type_kwB hplain hkw ?_
  rw [he] at h ⊢
  exact evalArgs_kwB hall h
end
/-- the list at a as it stands at each turn, each item in a new pair, counted from k -/
def IteS (K : PySem.W.Frag) (a : Addr) (k : Int) : It :=
  ⟨fun i H => ∃ (xs : List V) (x : V), SqL K H a xs ∧ xs[i]? = some x, fun i H v H' => ∃ T x, v = .ref T ∧ H T = none ∧ H' = upd H T (.tup [.int (k + (i : Nat)), x]) ∧ ∀ xs, SqL K H a xs → xs[i]? = some x, fun i H => ∃ xs : List V, SqL K H a xs ∧ xs.length = i⟩
theorem turn_enumS {P : Program} {w : World} {K : PySem.W.Frag} {elts : List Expr} {kk : Nat} {tpos : Pos} (a e it : Addr) (k : Int) :
    Turn P w K (.Tuple elts kk tpos) (IteS K a k) [e, it] e (fun i h => (∃ old, IsEnum h e it (k + ((i : Nat) : Int)) old) ∧ h.IsListIter it a i ∧ e ≠ it ∧ e ≠ a ∧ a ≠ it) where
  mem := by simp
  obj := fun i h st b hb => by
    obtain ⟨⟨old, he⟩, ⟨o, ho, hc, hd⟩, _⟩ := st
    have e' : b = e ∨ b = it := by simpa using hb
    rcases e' with z | z
    · rw [z]; exact ⟨_, he, fun v q => nomatch q⟩
    · rw [z]; exact ⟨o, ho, fun v q => by rw [hd] at q; cases q⟩
  keep := fun i h h' st k => let ⟨⟨old, he⟩, hi, hne⟩ := st; ⟨⟨old, k e (by simp) _ he⟩, hi.at fun o q => k it (by simp) o q, hne⟩
  item := by
    intro X hP hw hK hc i pins s σ H E I hf st hg
    subst hP hw hK
    obtain ⟨⟨old, he⟩, hit, hne, hea, hai⟩ := st
    obtain ⟨xs, x, hq, hx⟩ := hg
    obtain ⟨its, rv, p, hz⟩ := I.list hq
    obtain ⟨u, hu, ru⟩ := rv.get hx
    have hel : e < s.heap.objs.size := Heap.lt_size he
    have hil : it < s.heap.objs.size := by obtain ⟨_, q, _⟩ := hit; exact Heap.lt_size q
    have D := Draws.list (prog := X.prog) (w := X.w) (A := X.A.in1) (I.ok.hd hc) it a hai its.toArray
    have hlt : i < its.toArray.size := by
      have := (List.getElem?_eq_some_iff.mp hu).1
      simpa using this
    refine wpAny_pyNext_enum_itemC D he ⟨hit, p.isList⟩ hlt hne (by simp [hne, hea]) fun u' h' tk hu' ho hst' hT hsz hk => ?_
    have euu : u' = u := by
      have z : its.toArray[i]? = some u := by simpa using hu
      rw [z] at hu'
      exact (Option.some.inj hu').symm
    subst euu
    refine ⟨_, rfl, wpAny_letOwnedTupleGo_enum (s := { s with heap := h', toks := tk + 1 }) ho fun h'' he' sb => ?_⟩
    have hT2 : h''.get? s.heap.objs.size = some { cls := .type "tuple", data := .seq #[.int (k + (i : Nat)) tk, u'] } := (sb.2 _ (Nat.ne_of_gt hel)).trans hT
    have new : ObjOk X.prog X.w (upd H s.heap.objs.size (.tup [.int (k + (i : Nat)), x])) h'' s.heap.objs.size (.tup [.int (k + (i : Nat)), x]) :=
      ⟨by show 2 ≤ sizeLine; decide, [.int (k + (i : Nat)) tk, u'], .cons ⟨_, rfl⟩ (.cons ru .nil), ⟨_, hT2, rfl, _, rfl⟩⟩
    have I1 : Inv X pins σ (upd H s.heap.objs.size (.tup [.int (k + (i : Nat)), x])) { s with heap := h'', toks := tk + 1 } :=
      I.turnedNew (ch := [e, it]) (fun b ob hb q => (sb.2 b (fun z => hb (by simp [z]))).trans (hk b ob (fun z => hb (by simp [z])) (fun z => hb (by simp [z])) q)) hf (Nat.le_refl _) new
    refine ⟨.ref s.heap.objs.size, _, I1, rfl, ⟨_, x, rfl, I.hok.fresh (Nat.le_refl _), rfl, fun ys hy => by rw [I.list_inj hy hq]; exact hx⟩, ⟨⟨u', ?_⟩, hst'.1.at fun o q => (sb.2 it (Ne.symm hne)).trans q, hne, hea, hai⟩, fun b hb => ?_⟩
    · have e1 : k + ((i + 1 : Nat) : Int) = k + (i : Int) + 1 := by omega
      rw [e1]; exact he'
    · have hb' : b < s.heap.objs.size := by
        have e' : b = e ∨ b = it := by simpa using hb
        rcases e' with z | z
        · rw [z]; exact hel
        · rw [z]; exact hil
      rw [upd_ne (Nat.ne_of_lt hb')]
      exact (hf b hb).1
  done := by
    intro X hP hw hK hc i pins s σ H E I hf st hg
    subst hP hw hK
    obtain ⟨⟨old, he⟩, hit, hne, hea, hai⟩ := st
    obtain ⟨xs, hq, hx⟩ := hg
    obtain ⟨its, rv, p, hz⟩ := I.list hq
    obtain ⟨f0, f1, f2, f3, f4, f5⟩ := hf it (by simp)
    have hl := rv.length
    have D := Draws.list (prog := X.prog) (w := X.w) (A := X.A.in1) (I.ok.hd hc) it a hai its.toArray
    have en : i = its.toArray.size := by rw [List.size_toArray]; omega
    subst en
    exact wpAny_pyNext_enum_endD D he ⟨hit, p.isList⟩ fun h' eb => ⟨rfl, I.turned (t' := s.toks) (fun b o hb q => eb b o hb q) f0 f1 f3 f4 f5⟩
  self := fun A i s Q E st h => let ⟨⟨_, he⟩, _⟩ := st; wpAny_pyIter_enum he h
def iEnumS (K : PySem.W.Frag) (ta : TA) (tk : TA) : TI := fun σ H R => ta σ H fun vs H1 => tk σ H1 fun zs H2 => ∃ a xs k, vs = [.ref a] ∧ zs = [.int k] ∧ -(2 ^ 63) ≤ k ∧ k < 2 ^ 63 ∧ SqL K H2 a xs ∧ R (IteS K a k) H2
theorem pi_enumS {X : Cx} {e e2 : Expr} {ta tk : TA} {p pos tpos kp : Pos} {elts : List Expr} {kk : Nat} (hg : Gl X "enumerate") (hm : X.mg "enumerate" = none) (ha : PA X [e] ta) (hkw : PK X [⟨some ("start" : Str), e2, kp⟩] tk)
    (he : backTo pos (starEach [e] X.env) = (false, eval e X.env) :: backTo pos (starEach [] X.env) := by rfl) (hpl : (backTo pos (starEach [e] X.env)).any (·.1) = false := by rfl)
    (hall : (backToKw pos (keywordEach [⟨some ("start" : Str), e2, kp⟩] X.env)).all (·.1.isSome) = true := by rfl) (hnone : (backToKw pos (keywordEach [⟨some ("start" : Str), e2, kp⟩] X.env)).any (·.1.isNone) = false := by rfl)
    (hks : (backToKw pos (keywordEach [⟨some ("start" : Str), e2, kp⟩] X.env)).filterMap (·.1) = [("start" : Str)] := by rfl) :
    PI X (.Tuple elts kk tpos) (.Call (.Name "enumerate" p) [e] [⟨some ("start" : Str), e2, kp⟩] pos) (iEnumS X.K ta tk) := by
  refine ⟨fun pins s σ H R I h => ?_⟩
  refine wpAny_Call_Name_kw (ld_blt I hg hm boot_enumerate (callWith_type_kw (thn (ha.run pos pins s σ H _ I h) fun us s0 ⟨vs, H0, I0, r0, q0⟩ => thn (hkw.run pos pins s0 σ H0 _ I0 q0) fun ws s1 ⟨zs, H1, I1, r2, q1⟩ => ?_) he hpl hall hnone))
  rw [hks]
  obtain ⟨a, xs, k, ex, ez, hk0, hk1, hq, q⟩ := q1
  subst ex ez
  cases r0 with
  | cons r rr =>
    cases rr
    cases r
    cases r2 with
    | cons r3 rr3 =>
      cases rr3
      obtain ⟨t, rfl⟩ := r3
      obtain ⟨its, rv, p', hz⟩ := I1.list hq
      have hal : a < s1.heap.objs.size := by obtain ⟨_, z, _⟩ := p'.isList; exact Heap.lt_size z
      refine enum_begins_start (begins_list a its.toArray) p'.isList hk0 hk1 fun h' he' hit hsz hk => wpAny_pyIter_enum he' ?_
      have I2 : Inv X pins σ H1 { s1 with heap := h' } := I1.kept (t' := s1.toks) hk
      refine ⟨s1.heap.objs.size + 1, [s1.heap.objs.size + 1, s1.heap.objs.size], _, _, H1, rfl, I2, turn_enumS a (s1.heap.objs.size + 1) s1.heap.objs.size k, ⟨⟨.none, ?_⟩, ⟨_, hit, rfl, ?_⟩, Nat.succ_ne_self _, Nat.ne_of_gt (Nat.lt_succ_of_lt hal), Nat.ne_of_lt hal⟩, fun b hb => ?_, q⟩
      · rw [show k + ((0 : Nat) : Int) = k by omega]
        exact he'
      · rfl
      · have e' : b = s1.heap.objs.size + 1 ∨ b = s1.heap.objs.size := by simpa using hb
        have hle : s1.heap.objs.size ≤ b := by
          rcases e' with z | z
          · rw [z]; exact Nat.le_add_right _ _
          · rw [z]; exact Nat.le_refl _
        exact I1.fpOk hle (I1.hok.fresh hle)
end RL
/-! ### a text times an int -/
namespace RL
open PySem PySem.Spec PyProof.Rows L2
def repS (z : Str) (k : Nat) : Str := ⟨(List.replicate k z.cps).foldl (· ++ ·) #[]⟩
theorem foldl_size : ∀ (l : List (Array Nat)) (a : Array Nat), (l.foldl (· ++ ·) a).toList = a.toList ++ (l.map Array.toList).flatten
  | [], a => by simp
  | x :: r, a => by
    rw [List.foldl_cons, foldl_size r (a ++ x), Array.toList_append, List.map_cons, List.flatten_cons, List.append_assoc]
theorem repS_tl (z : Str) (k : Nat) : TL.tl (repS z k) = (List.replicate k z.cps.toList).flatten := by
  show ((List.replicate k z.cps).foldl (· ++ ·) #[]).toList = _
  rw [foldl_size, List.map_replicate]
  rfl
theorem repS_len (z : Str) (k : Nat) : (repS z k).length = k * z.length := by
  show (repS z k).cps.size = _
  rw [← Array.length_toList]
  have h := repS_tl z k
  unfold TL.tl at h
  rw [h]
  simp [List.length_flatten]
  rfl
def rMulS : R2 := fun x y H Q => ∃ (z : Str) (k : Nat), x = .str z ∧ y = .int (k : Int) ∧ 2 ≤ k ∧ k ≤ 100000 ∧ 1 ≤ z.length ∧ z.length ≤ 100 ∧ Q (.str (repS z k)) H
theorem op_mulS {X : Cx} : OpR X (binaryOp .Mult) rMulS := by
  intro pins s σ H x y v u Q I rx ry h
  obtain ⟨z, k, rfl, rfl, hk, hk2, hz, hz2, q⟩ := h
  obtain ⟨t, rfl⟩ := rx
  obtain ⟨t', rfl⟩ := ry
  have hle : z.length * k ≤ 10000000 := by
    have h1 : z.length * k ≤ 100 * k := Nat.mul_le_mul_right k hz2
    omega
  have hno : ((((k : Nat) : Int) == 1) || z.length == 0) = false := by
    have h1 : (((k : Nat) : Int) == 1) = false := by
      apply beq_false_of_ne
      omega
    have h2 : (z.length == 0) = false := by
      apply beq_false_of_ne
      omega
    rw [h1, h2]; rfl
  refine PySem.P.mul_str ?_ ?_ ?_ ?_
  · have h1 : ¬ (k : Int) < -(2 ^ 63 : Int) := by omega
    have h2 : ¬ (k : Int) ≥ 2 ^ 63 := by omega
    rw [decide_eq_false h1, decide_eq_false h2]; rfl
  · intro _ _
    have h3 : (1000 : Int) ≤ (2 ^ 63 - 1) / (k : Int) := by
      rw [Int.le_ediv_iff_mul_le (by omega)]
      omega
    omega
  · intro _ _
    rw [Int.toNat_natCast]
    have hs : 10000000 ≤ sizeLine := by decide
    unfold Builtin.Str.tooLong
    exact decide_eq_false (by omega)
  · rw [if_neg (by omega), if_neg (by rw [hno]; decide)]
    rw [Int.toNat_natCast]
    have hl := repS_len z k
    have hs : 10000000 ≤ sizeLine := by decide
    have hc : k * z.length = z.length * k := Nat.mul_comm _ _
    refine ⟨?_, ⟨.str (repS z k), H, I.tok _, ⟨_, rfl⟩, q⟩⟩
    show (repS z k).length ≤ sizeLine
    omega
end RL

/-! ### Z: single steps of readings, for walking by with_reducible refine -/
namespace Z
open PySem L2
/-- all but what stands at M is as it was -/
def Kp (M : List Addr) (H H' : Hp) : Prop := ∀ b o, b ∉ M → H b = some o → H' b = some o
theorem Kp.refl {M : List Addr} (H : Hp) : Kp M H H := fun _ _ _ h => h
theorem Kp.trans {M : List Addr} {H H1 H2 : Hp} (a : Kp M H H1) (b : Kp M H1 H2) : Kp M H H2 := fun c o n h => b c o n (a c o n h)
theorem Kp.new {M : List Addr} {H : Hp} {p : Addr} {o : HO} (h : H p = none) : Kp M H (upd H p o) := fun b u _ e => by
  rw [upd_ne (ne_of_none e h)]
  exact e
theorem Kp.put {M : List Addr} {H : Hp} {p : Addr} {o : HO} (h : p ∈ M) : Kp M H (upd H p o) := fun b u n e => by
  rw [upd_ne (fun q => n (by rw [q]; exact h))]
  exact e
theorem Kp.sub {M M' : List Addr} {H H' : Hp} (a : Kp M H H') (h : ∀ x, x ∈ M → x ∈ M') : Kp M' H H' := fun b o n e => a b o (fun z => n (h b z)) e
theorem Kp.same {H H' : Hp} (a : Kp [] H H') : Same H H' := fun b o e => a b o (by simp) e
theorem Kp.of_same {M : List Addr} {H H' : Hp} (a : Same H H') : Kp M H H' := fun b o _ e => a b o e
theorem Kp.none {M : List Addr} {H H' : Hp} (a : Kp M H H') {p : Addr} (n : p ∉ M) (h : H' p = Option.none) : H p = Option.none := by
  cases q : H p with
  | none => rfl
  | some o =>
    rw [a p o n q] at h
    cases h
/-- what was not there may be forgotten from M -/
theorem Kp.drop {M : List Addr} {H H' : Hp} {p : Addr} (a : Kp (p :: M) H H') (h : H p = Option.none) : Kp M H H' := fun b o n e => a b o (by
  intro z
  rcases List.mem_cons.mp z with z | z
  · rw [z, h] at e
    cases e
  · exact n z) e
theorem Kp.get {M : List Addr} {H H' : Hp} (a : Kp M H H') {b : Addr} {o : HO} (n : b ∉ M) (e : H b = some o) : H' b = some o := a b o n e
theorem Kp.seq {M : List Addr} {K : PySem.W.Frag} {H H' : Hp} (e : Kp M H H') {a : Addr} {xs : List V} (n : a ∉ M) (h : SqL K H a xs) : SqL K H' a xs := by
  rcases h with (h | ⟨o, h⟩) | h
  · exact .inl (.inl (e _ _ n h))
  · exact .inl (.inr ⟨o, e _ _ n h⟩)
  · exact .inr h
theorem Kp.tup {M : List Addr} {K : PySem.W.Frag} {H H' : Hp} (e : Kp M H H') {a : Addr} {xs : List V} (n : a ∉ M) (h : SqT K H a xs) : SqT K H' a xs := by
  rcases h with (h | ⟨o, h⟩) | h
  · exact .inl (.inl (e _ _ n h))
  · exact .inl (.inr ⟨o, e _ _ n h⟩)
  · exact .inr h
/-- what H0 does not know may change -/
theorem Kp.mut {M : List Addr} {H0 H H' : Hp} {l : Addr} {o : HO} (a : Kp M H0 H) (h : H0 l = Option.none) (e : H' = upd H l o) : Kp M H0 H' := fun b u n z => by
  rw [e, upd_ne (ne_of_none z h)]
  exact a b u n z
theorem Kp.then1 {M : List Addr} {H0 H H' : Hp} {l : Addr} (a : Kp M H0 H) (b : Kp [l] H H') (h : H0 l = Option.none) : Kp M H0 H' := fun c o n e => b c o (by
  intro z
  rw [List.mem_singleton.mp z, h] at e
  cases e) (a c o n e)
/-- a new instance and its dict -/
theorem Kp.made {M : List Addr} {H : Hp} {x dx : Addr} {o u : HO} (nx : H x = Option.none) (nd : H dx = Option.none) : Kp M H (upd (upd H dx u) x o) := fun c o n e => by
  rw [upd_ne (ne_of_none e nx), upd_ne (ne_of_none e nd)]
  exact e
theorem none2 {H : Hp} {x dx l : Addr} {o u : HO} (h : upd (upd H dx u) x o l = Option.none) : H l = Option.none := by
  unfold upd at h
  split at h
  · cases h
  · split at h
    · cases h
    · exact h
theorem nin1 {a b : Addr} (h : b ≠ a) : b ∉ [a] := by simpa using h
theorem nin0 {b : Addr} : b ∉ ([] : List Addr) := by simp
theorem lstL {K : PySem.W.Frag} {H : Hp} {a : Addr} {xs : List V} (h : H a = some (.lst xs)) : SqL K H a xs := .inl (.inl h)
theorem tupT {K : PySem.W.Frag} {H : Hp} {a : Addr} {xs : List V} (h : H a = some (.tup xs)) : SqT K H a xs := .inl (.inl h)

theorem cxK {CX : CXT} {P : Program} {w : World} {K : PySem.W.Frag} {mg : Str → Option Value} {base : Heap} {N : List Str} {qual : Str} {scope : Scope} {f : Addr} {cd : Value} {A : Around} {outer : List Env} {s : Shared} {H : Hp} {E : XK} : (cxOf CX P w K mg base N qual scope f cd A outer s H E).K = K := rfl
/-! named readings of rules -/
def rLenN (K : PySem.W.Frag) : List V → Hp → VK → Prop := fun xs H Q => ∃ p ys, xs = [.ref p] ∧ (SqL K H p ys ∨ SqT K H p ys) ∧ Q (.int ys.length) H
theorem c_len {X : Cx} : CallR X (.builtin "len") (rLenN X.K) := call_len_seq
def rListN (K : PySem.W.Frag) : List V → Hp → VK → Prop := fun xs H Q => ∃ p ys, xs = [.ref p] ∧ (SqL K H p ys ∨ SqT K H p ys) ∧ ∀ l, H l = none → Q (.ref l) (upd H l (.lst ys))
theorem c_list {X : Cx} : CallR X (.type "list") (rListN X.K) := call_list_of
def rTupN (K : PySem.W.Frag) : List V → Hp → VK → Prop := fun xs H Q => ∃ p ys, xs = [.ref p] ∧ ((SqL K H p ys ∧ ∀ l, H l = none → Q (.ref l) (upd H l (.tup ys))) ∨ (SqT K H p ys ∧ Q (.ref p) H))
theorem c_tuple {X : Cx} : CallR X (.type "tuple") (rTupN X.K) := call_tuple_of
def rInt1 : List V → Hp → VK → Prop := fun xs H Q => (∃ i, xs = [.int i] ∧ Q (.int i) H) ∨ ∃ k, xs = [.bl k] ∧ Q (.int (if k then 1 else 0)) H
theorem c_int {X : Cx} : CallR X (.type "int") rInt1 := call_int1
def rAbs : List V → Hp → VK → Prop := fun xs H Q => ∃ i, xs = [.int i] ∧ Q (.int (if i < 0 then -i else i)) H
theorem c_abs {X : Cx} : CallR X (.builtin "abs") rAbs := call_abs
def rIsN : R2 := fun x y H Q => y = .non ∧ Q (.bl (decide (x = .non))) H
theorem o_isN {X : Cx} : OpR X (compareOp .Is) rIsN := op_isN
def rNotN : R2 := fun x y H Q => y = .non ∧ Q (.bl (!decide (x = .non))) H
theorem o_notN {X : Cx} : OpR X (compareOp .IsNot) rNotN := op_notN
def rAddS : R2 := fun x y H Q => ∃ i j, x = .str i ∧ y = .str j ∧ i.length + j.length ≤ sizeLine ∧ Q (.str (i ++ j)) H
theorem o_addS {X : Cx} : OpR X (binaryOp .Add) rAddS := op_add_str
def rInSg : R2 := fun x y H Q => ∃ (c : Nat) (z : Str), x = .str ⟨#[c]⟩ ∧ y = .str z ∧ Q (.bl (decide (c ∈ z.cps.toList))) H
theorem o_inSg {X : Cx} : OpR X (compareOp .In) rInSg := op_in_sign
def rNinSg : R2 := fun x y H Q => ∃ (c : Nat) (z : Str), x = .str ⟨#[c]⟩ ∧ y = .str z ∧ Q (.bl (!decide (c ∈ z.cps.toList))) H
theorem o_ninSg {X : Cx} : OpR X (compareOp .NotIn) rNinSg := op_notIn_sign
/-- // by a divisor of any sign -/
def CDivA (_ j : Int) : Prop := j ≠ 0 ∧ j.natAbs.log2 < 9000
theorem op_fdivA {X : Cx} : OpR X (binaryOp .FloorDiv) (rI CDivA fun i j => .int (i.fdiv j)) := opI fun i j _ _ _ _ _ hc q => PyProof.Rows.floordiv_int hc.1 q (.inl (PyProof.noPylong_of_log2 hc.2))
theorem divA {i j : Int} {b : Nat} (h : j ≠ 0) (hb : j.natAbs < 2 ^ b) (h0 : 0 < b) (h9 : b ≤ 9000) : CDivA i j := ⟨h, Nat.lt_of_lt_of_le (PySem.Flt.log2_lt_of h0 hb) h9⟩
def rLenS : List V → Hp → VK → Prop := fun xs H Q => ∃ x : Str, xs = [.str x] ∧ x.cps.size ≤ 10000000 ∧ Q (.int (x.cps.size : Nat)) H
theorem c_lens {X : Cx} : CallR X (.builtin "len") rLenS := fun pins s σ H xs us Q I r h => call_len pins s σ H xs us Q I r (by obtain ⟨x, rfl, hz, q⟩ := h; exact ⟨.str x, _, rfl, ⟨Nat.le_trans hz (by decide), rfl⟩, q⟩)
def rPopQ : V → List V → Hp → VK → Prop := rPop
section
variable {σ : St} {H : Hp} {Q : VK} {v x y : V} {ta tb tc te : TE} {tA : TT} {D : Ends} {t u ts : TS} {r : R2} {K : PySem.W.Frag} {i : Nat} {A B : Prop}
/-! values -/
theorem var (h : σ[i]? = some (some v)) (q : Q v H) : tVar i σ H Q := ⟨v, h, q⟩
theorem cst (q : Q v H) : tC v σ H Q := q
theorem op (h : ta σ H fun x H1 => tb σ H1 fun y H2 => r x y H2 Q) : tOp r ta tb σ H Q := h
theorem un {r : V → Hp → VK → Prop} (h : ta σ H fun x H1 => r x H1 Q) : tUn r ta σ H Q := h
theorem i0 {g : Int → Int → V} {a b : Int} (q : Q (g a b) H) : rI0 g (.int a) (.int b) H Q := ⟨a, b, rfl, rfl, q⟩
theorem iC {C : Int → Int → Prop} {g : Int → Int → V} {a b : Int} (c : C a b) (q : Q (g a b) H) : rI C g (.int a) (.int b) H Q := ⟨a, b, rfl, rfl, c, q⟩
theorem iU {g : Int → V} {a : Int} (q : Q (g a) H) : rU g (.int a) H Q := ⟨a, rfl, q⟩
theorem eqII {a b : Int} (q : Q (.bl (decide (a = b))) H) : rEq (.int a) (.int b) H Q := ⟨rfl, by
  have e : decide (V.int a = V.int b) = decide (a = b) := by simp
  rw [e]; exact q⟩
theorem neII {a b : Int} (q : Q (.bl (!decide (a = b))) H) : rNe (.int a) (.int b) H Q := ⟨rfl, by
  have e : decide (V.int a = V.int b) = decide (a = b) := by simp
  rw [e]; exact q⟩
theorem eqSS {a b : Str} (q : Q (.bl (decide (a = b))) H) : rEq (.str a) (.str b) H Q := ⟨rfl, by
  have e : decide (V.str a = V.str b) = decide (a = b) := by simp
  rw [e]; exact q⟩
theorem neSS {a b : Str} (q : Q (.bl (!decide (a = b))) H) : rNe (.str a) (.str b) H Q := ⟨rfl, by
  have e : decide (V.str a = V.str b) = decide (a = b) := by simp
  rw [e]; exact q⟩
theorem eqBB {a b : Bool} (q : Q (.bl (decide (a = b))) H) : rEq (.bl a) (.bl b) H Q := ⟨rfl, by
  have e : decide (V.bl a = V.bl b) = decide (a = b) := by simp
  rw [e]; exact q⟩
theorem neBB {a b : Bool} (q : Q (.bl (!decide (a = b))) H) : rNe (.bl a) (.bl b) H Q := ⟨rfl, by
  have e : decide (V.bl a = V.bl b) = decide (a = b) := by simp
  rw [e]; exact q⟩
theorem bl {b : Bool} {q : Bool → Hp → Prop} (h : q b H) : ∃ k, V.bl b = .bl k ∧ q k H := ⟨b, rfl, h⟩
theorem bl' {b : Bool} {q : Bool → Prop} (h : q b) : ∃ k, V.bl b = .bl k ∧ q k := ⟨b, rfl, h⟩
theorem test {Q : Bool → Hp → Prop} (h : te σ H fun x H' => ∃ k, x = .bl k ∧ Q k H') : tTest te σ H Q := h
theorem tbb {Q : Bool → Hp → Prop} (h : te σ H fun x H' => ∃ k, x = .bl k ∧ Q k H') : tB te σ H Q := h
theorem tand {a b : TT} {Q : Bool → Hp → Prop} (h : a σ H fun c H1 => if c = true then b σ H1 Q else Q false H1) : tAnd a b σ H Q := h
theorem tor {a b : TT} {Q : Bool → Hp → Prop} (h : a σ H fun c H1 => if c = true then Q true H1 else b σ H1 Q) : tOr a b σ H Q := h
theorem tnot {a : TT} {Q : Bool → Hp → Prop} (h : a σ H fun c H1 => Q (!c) H1) : tNot a σ H Q := h
theorem tyes {Q : Bool → Hp → Prop} (h : Q true H) : tYes σ H Q := h
theorem andV (h : ta σ H fun x H1 => ∃ c, x = .bl c ∧ if c = true then tb σ H1 Q else Q (.bl false) H1) : tAndV ta tb σ H Q := h
theorem orV (h : ta σ H fun x H1 => ∃ c, x = .bl c ∧ if c = true then Q (.bl true) H1 else tb σ H1 Q) : tOrV ta tb σ H Q := h
theorem notV (h : ta σ H fun x H1 => ∃ c, x = .bl c ∧ Q (.bl (!c)) H1) : tNotV ta σ H Q := h
theorem ifE (h : tA σ H fun c H1 => if c = true then ta σ H1 Q else tb σ H1 Q) : L2.tIf tA ta tb σ H Q := h
theorem chain {r r' : R2} (h : ta σ H fun x H1 => tb σ H1 fun y H2 => r x y H2 fun z H3 => ∃ k, z = .bl k ∧ (if k = true then tc σ H3 fun w' H4 => r' y w' H4 Q else Q (.bl false) H3)) : tChain r r' ta tb tc σ H Q := h
/-! branches -/
theorem ite {p : Prop} [Decidable p] (h1 : p → A) (h2 : ¬p → B) : if decide p = true then A else B := by
  by_cases h : p
  · rw [decide_eq_true h, if_pos rfl]; exact h1 h
  · rw [decide_eq_false h, if_neg Bool.false_ne_true]; exact h2 h
theorem iteN {p : Prop} [Decidable p] (h1 : ¬p → A) (h2 : p → B) : if (!decide p) = true then A else B := by
  by_cases h : p
  · rw [decide_eq_true h]; exact h2 h
  · rw [decide_eq_false h]; exact h1 h
theorem iteB {b : Bool} (h1 : b = true → A) (h2 : b = false → B) : if b = true then A else B := by
  cases b with
  | true => exact h1 rfl
  | false => exact h2 rfl
theorem yes {p : Prop} [Decidable p] (h : p) (q : A) : if decide p = true then A else B := by rw [decide_eq_true h, if_pos rfl]; exact q
theorem no {p : Prop} [Decidable p] (h : ¬p) (q : B) : if decide p = true then A else B := by rw [decide_eq_false h, if_neg Bool.false_ne_true]; exact q
theorem yesN {p : Prop} [Decidable p] (h : ¬p) (q : A) : if (!decide p) = true then A else B := by rw [decide_eq_false h]; exact q
theorem noN {p : Prop} [Decidable p] (h : p) (q : B) : if (!decide p) = true then A else B := by rw [decide_eq_true h]; exact q
theorem yesB (q : A) : if true = true then A else B := q
theorem noNB (q : B) : if (!true) = true then A else B := q
theorem yesNB (q : A) : if (!false) = true then A else B := q
theorem noB (q : B) : if false = true then A else B := q
/-! calls -/
theorem nil {Q : List V → Hp → Prop} (q : Q [] H) : tNil σ H Q := q
theorem cons {Q : List V → Hp → Prop} {tr : TA} (h : ta σ H fun x H1 => tr σ H1 fun xs H2 => Q (x :: xs) H2) : tCons ta tr σ H Q := h
theorem cb {r : List V → Hp → VK → Prop} {a : TA} (h : a σ H fun vs H1 => r vs H1 Q) : tCB r a σ H Q := h
theorem call {sp : Sp} {dvs : List V} {E : XK} {a : TA} (h : a σ H fun vs H1 => sp (vs ++ dvs) H1 Q E) : tCall sp dvs E a σ H Q := h
theorem meth {C : Addr} {m : Str} {sp : Sp} {dvs : List V} {E : XK} {a : TA} (h : ta σ H fun x H1 => ∃ p dx fs, x = .ref p ∧ H1 p = some (.ins C dx fs) ∧ fs.lookup m = none ∧ a σ H1 fun vs H2 => sp (x :: (vs ++ dvs)) H2 Q E) : tMeth C m sp dvs E ta a σ H Q := h
theorem fld {f : Str} (h : ta σ H fun x H1 => ∃ a C dx fs v, x = .ref a ∧ H1 a = some (.ins C dx fs) ∧ Cls K C ∧ NoAttr K C f ∧ fs.lookup f = some v ∧ Q v H1) : tFld K ta f σ H Q := h
theorem int1 {a : Int} (q : Q (.int a) H) : rInt1 [.int a] H Q := .inl ⟨a, rfl, q⟩
theorem intb {b : Bool} (q : Q (.int (if b then 1 else 0)) H) : rInt1 [.bl b] H Q := .inr ⟨b, rfl, q⟩
theorem abs1 {a : Int} (q : Q (.int (if a < 0 then -a else a)) H) : rAbs [.int a] H Q := ⟨a, rfl, q⟩
theorem isN (q : Q (.bl (decide (x = .non))) H) : rIsN x .non H Q := ⟨rfl, q⟩
theorem notN (q : Q (.bl (!decide (x = .non))) H) : rNotN x .non H Q := ⟨rfl, q⟩
theorem addS {a b : Str} (h : a.length + b.length ≤ sizeLine) (q : Q (.str (a ++ b)) H) : rAddS (.str a) (.str b) H Q := ⟨a, b, rfl, rfl, h, q⟩
theorem inSg {c : Nat} {z : Str} (q : Q (.bl (decide (c ∈ z.cps.toList))) H) : rInSg (.str ⟨#[c]⟩) (.str z) H Q := ⟨c, z, rfl, rfl, q⟩
theorem ninSg {c : Nat} {z : Str} (q : Q (.bl (!decide (c ∈ z.cps.toList))) H) : rNinSg (.str ⟨#[c]⟩) (.str z) H Q := ⟨c, z, rfl, rfl, q⟩
/-- a new object -/
theorem new {o : HO} (h : ∀ p, H p = none → Q (.ref p) (upd H p o)) : ∀ p, H p = none → Q (.ref p) (upd H p o) := h
def TupN (Q : VK) (xs : List V) (H1 : Hp) : Prop := xs.length ≤ sizeLine ∧ ∀ p, H1 p = none → Q (.ref p) (upd H1 p (.tup xs))
def LstN (Q : VK) (xs : List V) (H1 : Hp) : Prop := xs.length ≤ sizeLine ∧ ∀ p, H1 p = none → Q (.ref p) (upd H1 p (.lst xs))
theorem tup {a : TA} (h : a σ H (TupN Q)) : tTup a σ H Q := h
theorem lst {a : TA} (h : a σ H (LstN Q)) : tLst a σ H Q := h
/-- a new object, the heap behind it a letter -/
theorem mk {o : HO} {H0 : Hp} {R : Addr → Hp → Prop} (h : ∀ p H1, H0 p = none → Kp [] H0 H1 → H1 p = some o → R p H1) : ∀ p, H0 p = none → R p (upd H0 p o) := fun p n => h p _ n (Kp.new n) upd_same
theorem tupK {xs : List V} (q : ∀ p H1, H p = none → Kp [] H H1 → H1 p = some (.tup xs) → Q (.ref p) H1) (h : xs.length ≤ 100000 := by simp) : TupN Q xs H := ⟨Nat.le_trans h (by decide), mk q⟩
theorem lstK {xs : List V} (q : ∀ p H1, H p = none → Kp [] H H1 → H1 p = some (.lst xs) → Q (.ref p) H1) (h : xs.length ≤ 100000 := by simp) : LstN Q xs H := ⟨Nat.le_trans h (by decide), mk q⟩
theorem sz {n m : Nat} (h : n ≤ m) (hm : m ≤ 10000000 := by decide) : n ≤ sizeLine := Nat.le_trans h (Nat.le_trans hm (by decide))
theorem szl {n m : Nat} (h : n ≤ m) (hm : m ≤ 10000000 := by decide) : n < sizeLine := Nat.lt_of_le_of_lt (Nat.le_trans h hm) (by decide)
/-! subscripts -/
theorem ixL {p : Addr} {xs : List V} {j : Int} (h : SqL K H p xs) (e : atI xs j = some v) (q : Q v H) : rIxL K (.ref p) (.int j) H Q := ⟨p, xs, j, v, rfl, rfl, h, e, q⟩
theorem ixT {p : Addr} {xs : List V} {j : Int} (h : SqT K H p xs) (e : atI xs j = some v) (q : Q v H) : rIxT K (.ref p) (.int j) H Q := ⟨p, xs, j, v, rfl, rfl, h, e, q⟩
theorem setL {p : Addr} {xs : List V} {k : Int} {j : Nat} {v : V} {q : Hp → Prop} (h : H p = some (.lst xs)) (e : ixN xs.length k = some j) (hq : q (upd H p (.lst (xs.set j v)))) : rSetL (.ref p) (.int k) v H q := ⟨p, xs, k, j, rfl, rfl, h, e, hq⟩
theorem gsub {to ti : TE} {t : TSet} {Q : St → Hp → Prop} (h : to σ H fun o H1 => ti σ H1 fun i H2 => t o i v H2 fun H3 => Q σ H3) : gSub to ti t v σ H Q := h
/-! statements -/
/-- a statement whose ways join ahead of the rest -/
def tSeqJ (t u : TS) : TS := tSeq t u
theorem pss_consJ {X : Cx} {st : Stmt} {rest : List Stmt} {t u : TS} (h1 : PS X st t) (h2 : PSs X rest u) : PSs X (st :: rest) (tSeqJ t u) := pss_cons h1 h2
theorem seqJ (J : St → Hp → Prop) (h2 : ∀ σ H, J σ H → u D σ H) (h1 : ∀ N : St → Hp → Prop, (∀ σ H, J σ H → N σ H) → t { D with nx := N } σ H) : tSeqJ t u D σ H := h1 (u D) h2
theorem seqJ' (h : tSeq t u D σ H) : tSeqJ t u D σ H := h
theorem seq (h : t { D with nx := u D } σ H) : tSeq t u D σ H := h
theorem asg {g : TG} (h : te σ H fun x H1 => g x σ H1 D.nx) : tAsg te g D σ H := h
theorem gname {Q : St → Hp → Prop} {σ' : St} (e : σ.set i (some v) = σ') (h : Q σ' H) : gName i v σ H Q := by
  subst e; exact h
def ParK (i j : Nat) (D : Ends) (σ : St) (vs : List V) (H1 : Hp) : Prop := ∃ v w, vs = [v, w] ∧ D.nx ((σ.set i (some v)).set j (some w)) H1
theorem par {i j : Nat} {a : TA} (h : a σ H (ParK i j D σ)) : tPar i j a D σ H := h
theorem par2 {i j : Nat} {v w : V} {σ' : St} (e : (σ.set i (some v)).set j (some w) = σ') (h : D.nx σ' H) : ParK i j D σ [v, w] H := ⟨v, w, rfl, by rw [e]; exact h⟩
theorem aug {ti : TIp} {x : V} (e : σ[i]? = some (some x)) (h : te σ H fun y H1 => ti x y H1 fun z H2 => D.nx (σ.set i (some z)) H2) : tAug i te ti D σ H := ⟨x, e, h⟩
theorem ipI' {f : Int → Int → Int} {a b : Int} (q : Q (.int (f a b)) H) : ipI f (.int a) (.int b) H Q := ⟨a, b, rfl, rfl, q⟩
theorem ifs {c : TT} (h : c σ H fun b H1 => if b = true then t D σ H1 else u D σ H1) : tIfS c t u D σ H := h
theorem ret (h : te σ H D.rt) : tRet te D σ H := h
theorem retN (h : D.rt .non H) : tRetN D σ H := h
theorem next (h : D.nx σ H) : tNext D σ H := h
theorem brk (h : D.bk σ H) : tBreak D σ H := h
theorem drop (h : te σ H fun _ H1 => D.nx σ H1) : tDrop te D σ H := h
theorem bm {T : String} {r : V → List V → Hp → VK → Prop} {to : TE} {a : TA} (h : to σ H fun x H1 => tyV K T x H1 ∧ a σ H1 fun xs H2 => r x xs H2 Q) : tBM K T r to a σ H Q := h
theorem bm0 {T : String} {r : V → List V → Hp → VK → Prop} {to : TE} (h : to σ H fun x H1 => tyV K T x H1 ∧ r x [] H1 Q) : tBM0 K T r to σ H Q := h
theorem app {l : Addr} {xs : List V} {y : V} (h : H l = some (.lst xs)) (z : xs.length < sizeLine) (q : Q .non (upd H l (.lst (xs ++ [y])))) : rAppend (.ref l) [y] H Q := ⟨l, xs, y, rfl, rfl, h, z, q⟩
theorem tyL {p : Addr} {xs : List V} (h : H p = some (.lst xs)) : tyV K "list" (.ref p) H := .inl ⟨rfl, _, SqL.of h⟩
theorem sfld {tv : TE} {f : Str} (h : tv σ H fun y H1 => ta σ H1 fun x H2 => ∃ a C dx fs, x = .ref a ∧ H2 a = some (.ins C dx fs) ∧ Cls K C ∧ NoAttr K C f ∧ fs.length < 1000 ∧ D.nx σ (upd H2 a (.ins C dx (putF f y fs)))) : sFld K ta tv f D σ H := h
theorem sfldaug {tv : TE} {rd : V → V → Hp → VK → Prop} {f : Str} (h : ta σ H fun x H1 => ∃ a C dx fs v, x = .ref a ∧ H1 a = some (.ins C dx fs) ∧ Cls K C ∧ NoAttr K C f ∧ fs.lookup f = some v ∧ tv σ H1 fun y H2 => rd v y H2 fun z H3 => ∃ dx' fs', H3 a = some (.ins C dx' fs') ∧ fs'.length < 1000 ∧ D.nx σ (upd H3 a (.ins C dx' (putF f z fs')))) : sFldAug K ta tv rd f D σ H := h
theorem radd {a b : Int} (q : Q (.int (a + b)) H) : rAdd (.int a) (.int b) H Q := ⟨a, b, rfl, rfl, q⟩
theorem make {C : Addr} {sp : Sp} {dvs : List V} {E : XK} {a : TA} (h : a σ H fun vs H1 => ∀ x dx, H1 x = none → H1 dx = none → dx ≠ x → sp (.ref x :: (vs ++ dvs)) (upd (upd H1 dx (.own x)) x (.ins C dx [])) (fun v H2 => v = .non ∧ Q (.ref x) H2) E) : tMake C sp dvs E a σ H Q := h
/-- while -/
def WhB (W : Nat → St → Hp → Prop) (m : Nat) (tb : TS) (D : Ends) (σ : St) (H1 : Hp) : Prop := ∃ N : St → Hp → Prop, (∀ σ' H', N σ' H' → ∃ m', m' < m ∧ W m' σ' H') ∧ tb { D with nx := N, ct := N, bk := D.nx } σ H1
theorem whb {W : Nat → St → Hp → Prop} {m : Nat} {tb : TS} (h : tb { D with nx := fun σ' H' => ∃ m', m' < m ∧ W m' σ' H', ct := fun σ' H' => ∃ m', m' < m ∧ W m' σ' H', bk := D.nx } σ H) : WhB W m tb D σ H := ⟨_, fun _ _ z => z, h⟩
theorem wh {c : TT} {tb : TS} (W : Nat → St → Hp → Prop) (m : Nat) (h0 : W m σ H) (hs : ∀ m σ H, W m σ H → c σ H fun b H1 => if b = true then WhB W m tb D σ H1 else D.nx σ H1) : tWhile c tb D σ H := ⟨W, ⟨m, h0⟩, hs⟩
/-- calls by values -/
theorem sumL {a : Addr} {ns : List Int} (h : SqL K H a (ns.map V.int)) (q : Q (.int ns.sum) H) : rSum K [.ref a] H Q := ⟨a, ns, rfl, h, q⟩
theorem gcd {a b : Int} (q : Q (.int ((Nat.gcd a.natAbs b.natAbs : Nat) : Int)) H) : rGcd [.int a, .int b] H Q := ⟨a, b, rfl, q⟩
theorem mkN {C : Addr} {sp : Sp} {Q : XK} (h : ∀ a, H a = none → sp [.ref a] (upd H a (exo a C none)) (fun v H2 => v = .non ∧ H2 a = some (exo a C none) ∧ Q (.ref C) none (del H2 a)) (fun _ _ _ => False)) : Sup.tMkN C sp σ H Q := h
theorem gtup {n : Nat} {t : TGs} {a : Addr} {xs : List V} {Q : St → Hp → Prop} (h : SqT K H a xs) (e : xs.length = n) (q : t xs σ H Q) : gTup K n t (.ref a) σ H Q := ⟨a, xs, rfl, h, e, q⟩
theorem gcons {t : TG} {u : TGs} {v : V} {r : List V} {Q : St → Hp → Prop} (q : t v σ H fun σ' H' => u r σ' H' Q) : gCons t u (v :: r) σ H Q := ⟨v, r, rfl, q⟩
theorem gnil {Q : St → Hp → Prop} (q : Q σ H) : gNil [] σ H Q := ⟨rfl, q⟩
theorem lenL {a : Addr} {xs : List V} (h : SqL K H a xs) (q : Q (.int xs.length) H) : rLenN K [.ref a] H Q := ⟨a, xs, rfl, .inl h, q⟩
theorem lenT {a : Addr} {xs : List V} (h : SqT K H a xs) (q : Q (.int xs.length) H) : rLenN K [.ref a] H Q := ⟨a, xs, rfl, .inr h, q⟩
theorem listL {a : Addr} {xs : List V} (h : SqL K H a xs) (q : ∀ p H1, H p = none → Kp [] H H1 → H1 p = some (.lst xs) → Q (.ref p) H1) : rListN K [.ref a] H Q := ⟨a, xs, rfl, .inl h, mk q⟩
theorem isi {A B : String} {x : V} {b : Bool} (ht : TyX K H x (.type A)) (hk : kitB A B = some b) (q : Q (.bl b) H) : rIsi K [x, .ty B] H Q := ⟨x, _, _, _, b, rfl, .ty _, ht, kit_ty hk, q⟩
theorem isiI {B : String} {a : Int} {b : Bool} (hk : kitB "int" B = some b) (q : Q (.bl b) H) : rIsi K [.int a, .ty B] H Q := isi (.base (.int _)) hk q
theorem atM {ns : List Int} {j : Nat} {x : Int} (h : ns[j]? = some x) : atI (ns.map V.int) (j : Int) = some (.int x) := atI_nat (by rw [List.getElem?_map, h]; rfl)
theorem ixN_nat {n j : Nat} (hj : j < n) : ixN n (j : Int) = some j := by
  unfold ixN
  rw [if_pos (by omega), if_pos (by omega)]
  simp
/-- a comprehension, a loop over range(n), over a list -/
def ForK (g : TG) (tb : TS) (D : Ends) (σ : St) (J : It) (H1 : Hp) : Prop := ∃ W : Nat → Nat → St → Hp → Prop, (∃ m, W 0 m σ H1) ∧ ∀ i m σ H, W i m σ H →
  (J.stop i H ∧ D.nx σ H) ∨ (J.go i H ∧ ∃ N : St → Hp → Prop, (∀ σ' H', N σ' H' → ∃ m', m' < m ∧ W (i + 1) m' σ' H') ∧ ∀ x H', J.yld i H x H' → g x σ H' fun σ2 H2 => tb { D with nx := N, ct := N, bk := D.nx } σ2 H2)
def LcK (g : TG) (tt : TT) (te : TE) (vs : List Nat) (σ : St) (Q : VK) (J : It) (H1 : Hp) : Prop := ∀ D, H1 D = none → ∃ W : Nat → Nat → Hp → Prop, (∃ m, W 0 m (upd H1 D (.lst []))) ∧ ∀ i m H, W i m H →
      (J.stop i H ∧ Q (.ref D) H) ∨ (J.go i H ∧ ∃ Nx : Hp → Prop, (∀ H', Nx H' → ∃ m', m' < m ∧ W (i + 1) m' H') ∧ ∀ x H', J.yld i H x H' → g x (wipe σ vs) H' fun σ2 H2 => wipe σ2 vs = wipe σ vs ∧ tt σ2 H2 fun b H3 => if b = true then te σ2 H3 fun y H4 => ∃ acc, H4 D = some (.lst acc) ∧ acc.length < sizeLine ∧ Nx (upd H4 D (.lst (acc ++ [y]))) else Nx H3)
def Rng1K (R : It → Hp → Prop) (vs : List V) (H1 : Hp) : Prop := ∃ j : Int, vs = [.int j] ∧ -(2 ^ 62) ≤ j ∧ j < 2 ^ 62 ∧ R (Itr 0 j.toNat) H1
def ListK (K : PySem.W.Frag) (R : It → Hp → Prop) (x : V) (H1 : Hp) : Prop := ∃ a, x = .ref a ∧ (∃ xs, SqL K H1 a xs) ∧ R (Itl K a) H1
theorem lc {wi : TI} {g : TG} {tt : TT} {vs : List Nat} (h : wi σ H (LcK g tt te vs σ Q)) : tLc wi g tt te vs σ H Q := h
theorem rng1 {a : TA} {R : It → Hp → Prop} (h : a σ H (Rng1K R)) : iRng1 a σ H R := h
theorem ilist {R : It → Hp → Prop} (h : ta σ H (ListK K R)) : iList K ta σ H R := h
theorem for_ {wi : TI} {g : TG} {tb : TS} (h : wi σ H (ForK g tb D σ)) : tFor wi g tb D σ H := h
/-- what one turn of a comprehension asks -/
def LcT (g : TG) (tt : TT) (te : TE) (vs : List Nat) (σ : St) (D : Addr) (P : Hp → Prop) (x : V) (H1 : Hp) : Prop := g x (wipe σ vs) H1 fun σ2 H2 => wipe σ2 vs = wipe σ vs ∧ tt σ2 H2 fun b H3 => if b = true then te σ2 H3 fun y H4 => ∃ acc, H4 D = some (.lst acc) ∧ acc.length < sizeLine ∧ P (upd H4 D (.lst (acc ++ [y]))) else P H3
theorem lcr {g : TG} {tt : TT} {vs : List Nat} {e : Int} (n : Nat) (he : e = (n : Int)) (hb : n < 4611686018427387904) (Pv : Addr → Nat → Hp → Prop) (h0 : ∀ D H1, H D = none → Kp [] H H1 → H1 D = some (.lst []) → Pv D 0 H1)
    (hs : ∀ D i H1, H D = none → i < n → Pv D i H1 → g (.int (i : Int)) (wipe σ vs) H1 fun σ2 H2 => wipe σ2 vs = wipe σ vs ∧ tt σ2 H2 fun b H3 => if b = true then te σ2 H3 fun y H4 => ∃ acc, H4 D = some (.lst acc) ∧ acc.length < sizeLine ∧ Pv D (i + 1) (upd H4 D (.lst (acc ++ [y]))) else Pv D (i + 1) H3)
    (hd : ∀ D H1, H D = none → Pv D n H1 → Q (.ref D) H1) : Rng1K (LcK g tt te vs σ Q) [.int e] H := by
  subst he
  refine ⟨(n : Int), rfl, by omega, by omega, fun D hD => ?_⟩
  rw [show ((n : Int)).toNat = n by simp]
  refine lc_range (lo := 0) (n := n) (Pv D) (h0 D _ hD (Kp.new hD) upd_same) (fun i H1 hi p => ?_) fun H1 p => hd D H1 hD p
  rw [show (0 : Int) + (i : Int) = (i : Int) by omega]
  exact hs D i H1 hD hi p
theorem lcl {g : TG} {tt : TT} {vs : List Nat} {a : Addr} (xs : List V) (hS : SqL K H a xs) (Pv : Addr → Nat → Hp → Prop) (h0 : ∀ D H1, H D = none → Kp [] H H1 → H1 D = some (.lst []) → Pv D 0 H1)
    (hl : ∀ D i H1, H D = none → i ≤ xs.length → Pv D i H1 → SqL K H1 a xs)
    (hs : ∀ D i x H1, H D = none → xs[i]? = some x → Pv D i H1 → g x (wipe σ vs) H1 fun σ2 H2 => wipe σ2 vs = wipe σ vs ∧ tt σ2 H2 fun b H3 => if b = true then te σ2 H3 fun y H4 => ∃ acc, H4 D = some (.lst acc) ∧ acc.length < sizeLine ∧ Pv D (i + 1) (upd H4 D (.lst (acc ++ [y]))) else Pv D (i + 1) H3)
    (hd : ∀ D H1, H D = none → Pv D xs.length H1 → Q (.ref D) H1) : ListK K (LcK g tt te vs σ Q) (.ref a) H :=
  ⟨a, rfl, ⟨xs, hS⟩, fun D hD => lc_list (K := K) (a := a) (xs := xs) (Pv D) (h0 D _ hD (Kp.new hD) upd_same) (fun i H1 hi p => hl D i H1 hD hi p) (fun i x H1 hx p => hs D i x H1 hD hx p) fun H1 p => hd D H1 hD p⟩
/-- over a tuple -/
def TupK (K : PySem.W.Frag) (R : It → Hp → Prop) (x : V) (H1 : Hp) : Prop := ∃ a, x = .ref a ∧ (∃ xs, SqT K H1 a xs) ∧ R (Itt K a) H1
theorem itup {R : It → Hp → Prop} (h : ta σ H (TupK K R)) : iTup K ta σ H R := h
theorem lct {g : TG} {tt : TT} {vs : List Nat} {a : Addr} (xs : List V) (hS : SqT K H a xs) (Pv : Addr → Nat → Hp → Prop) (h0 : ∀ D H1, H D = none → Kp [] H H1 → H1 D = some (.lst []) → Pv D 0 H1)
    (hl : ∀ D i H1, H D = none → i ≤ xs.length → Pv D i H1 → SqT K H1 a xs)
    (hs : ∀ D i x H1, H D = none → xs[i]? = some x → Pv D i H1 → g x (wipe σ vs) H1 fun σ2 H2 => wipe σ2 vs = wipe σ vs ∧ tt σ2 H2 fun b H3 => if b = true then te σ2 H3 fun y H4 => ∃ acc, H4 D = some (.lst acc) ∧ acc.length < sizeLine ∧ Pv D (i + 1) (upd H4 D (.lst (acc ++ [y]))) else Pv D (i + 1) H3)
    (hd : ∀ D H1, H D = none → Pv D xs.length H1 → Q (.ref D) H1) : TupK K (LcK g tt te vs σ Q) (.ref a) H :=
  ⟨a, rfl, ⟨xs, hS⟩, fun D hD => lc_tup (K := K) (a := a) (xs := xs) (Pv D) (h0 D _ hD (Kp.new hD) upd_same) (fun i H1 hi p => hl D i H1 hD hi p) (fun i x H1 hx p => hs D i x H1 hD hx p) fun H1 p => hd D H1 hD p⟩
theorem allL {a : Addr} {bs : List Bool} (h : SqL K H a (bs.map V.bl)) (q : Q (.bl (bs.all id)) H) : rAll K [.ref a] H Q := ⟨a, bs, rfl, h, q⟩
theorem anyL {a : Addr} {bs : List Bool} (h : SqL K H a (bs.map V.bl)) (q : Q (.bl (bs.any id)) H) : rAny K [.ref a] H Q := ⟨a, bs, rfl, h, q⟩
theorem forr {g : TG} {tb : TS} {e : Int} (n : Nat) (he : e = (n : Int)) (hb : n < 4611686018427387904) (Pv : Nat → St → Hp → Prop) (h0 : Pv 0 σ H)
    (hs : ∀ i σ H, i < n → Pv i σ H → g (.int (i : Int)) σ H fun σ2 H2 => tb { D with nx := Pv (i + 1), ct := Pv (i + 1), bk := D.nx } σ2 H2) (hd : ∀ σ H, Pv n σ H → D.nx σ H) : Rng1K (ForK g tb D σ) [.int e] H := by
  subst he
  refine ⟨(n : Int), rfl, by omega, by omega, ?_⟩
  rw [show ((n : Int)).toNat = n by simp]
  refine for_range (lo := 0) (n := n) Pv h0 (fun i σ H1 hi p => ?_) hd
  rw [show (0 : Int) + (i : Int) = (i : Int) by omega]
  exact hs i σ H1 hi p
theorem forl {g : TG} {tb : TS} {a : Addr} (xs : List V) (hS : SqL K H a xs) (Pv : Nat → St → Hp → Prop) (h0 : Pv 0 σ H) (hl : ∀ i σ H, i ≤ xs.length → Pv i σ H → SqL K H a xs)
    (hs : ∀ i x σ H, xs[i]? = some x → Pv i σ H → g x σ H fun σ2 H2 => tb { D with nx := Pv (i + 1), ct := Pv (i + 1), bk := D.nx } σ2 H2) (hd : ∀ σ H, Pv xs.length σ H → D.nx σ H) : ListK K (ForK g tb D σ) (.ref a) H :=
  ⟨a, rfl, ⟨xs, hS⟩, for_list (K := K) (a := a) (xs := xs) Pv h0 hl hs hd⟩
/-! texts -/
def StrK (R : It → Hp → Prop) (v : V) (H1 : Hp) : Prop := ∃ x, v = .str x ∧ R (Its x) H1
theorem istr {R : It → Hp → Prop} (h : ta σ H (StrK R)) : iStr ta σ H R := h
theorem fors {g : TG} {tb : TS} {x : Str} (Pv : Nat → St → Hp → Prop) (h0 : Pv 0 σ H)
    (hs : ∀ i c σ H, x.cps[i]? = some c → Pv i σ H → g (.str ⟨#[c]⟩) σ H fun σ2 H2 => tb { D with nx := Pv (i + 1), ct := Pv (i + 1), bk := D.nx } σ2 H2) (hd : ∀ σ H, Pv x.cps.size σ H → D.nx σ H) : StrK (ForK g tb D σ) (.str x) H :=
  ⟨x, rfl, for_it walk_str Pv h0 (fun _ _ _ _ _ => trivial) (fun i v σ H H' hi p y => by obtain ⟨rfl, c, hc, rfl⟩ := y; exact hs i c σ _ hc p) hd⟩
theorem lcs {g : TG} {tt : TT} {vs : List Nat} {x : Str} (Pv : Addr → Nat → Hp → Prop) (h0 : ∀ D H1, H D = none → Kp [] H H1 → H1 D = some (.lst []) → Pv D 0 H1)
    (hs : ∀ D i c H1, H D = none → x.cps[i]? = some c → Pv D i H1 → g (.str ⟨#[c]⟩) (wipe σ vs) H1 fun σ2 H2 => wipe σ2 vs = wipe σ vs ∧ tt σ2 H2 fun b H3 => if b = true then te σ2 H3 fun y H4 => ∃ acc, H4 D = some (.lst acc) ∧ acc.length < sizeLine ∧ Pv D (i + 1) (upd H4 D (.lst (acc ++ [y]))) else Pv D (i + 1) H3)
    (hd : ∀ D H1, H D = none → Pv D x.cps.size H1 → Q (.ref D) H1) : StrK (LcK g tt te vs σ Q) (.str x) H :=
  ⟨x, rfl, fun D hD => lc_it walk_str (Pv D) (h0 D _ hD (Kp.new hD) upd_same) (fun _ _ _ _ => trivial) (fun i v H H' hi p y => by obtain ⟨rfl, c, hc, rfl⟩ := y; exact hs D i c _ hD hc p) fun H1 p => hd D H1 hD p⟩
theorem lenS {x : Str} (hz : x.cps.size ≤ 10000000) (q : Q (.int (x.cps.size : Nat)) H) : rLenS [.str x] H Q := ⟨x, rfl, hz, q⟩
/-! enumerate -/
def EnumK (K : PySem.W.Frag) (R : It → Hp → Prop) (vs : List V) (H1 : Hp) : Prop := ∃ a xs, vs = [.ref a] ∧ SqL K H1 a xs ∧ R (Ite K a) H1
theorem ienum {a : TA} {R : It → Hp → Prop} (h : a σ H (EnumK K R)) : iEnum K a σ H R := h
theorem fore {g : TG} {tb : TS} {a : Addr} (xs : List V) (hS : SqL K H a xs) (Pv : Nat → St → Hp → Prop) (h0 : Pv 0 σ H) (hl : ∀ i σ H, i ≤ xs.length → Pv i σ H → SqL K H a xs)
    (hs : ∀ i x σ H H' T, xs[i]? = some x → Pv i σ H → H T = none → Kp [] H H' → H' T = some (.tup [.int (i : Nat), x]) → g (.ref T) σ H' fun σ2 H2 => tb { D with nx := Pv (i + 1), ct := Pv (i + 1), bk := D.nx } σ2 H2) (hd : ∀ σ H, Pv xs.length σ H → D.nx σ H) : EnumK K (ForK g tb D σ) [.ref a] H :=
  ⟨a, xs, rfl, hS, for_it (walk_enum (K := K) (a := a) (xs := xs)) Pv h0 hl (fun i v σ H H' hi p y => by
    obtain ⟨T, x, z, rfl, h1, rfl, h2, h3⟩ := y
    cases h2
    exact hs i z σ H _ T h3 p h1 (Kp.new h1) upd_same) hd⟩
/-! dicts -/
theorem dnew (h : ∀ p H1, H p = none → Kp [] H H1 → H1 p = some (.dK []) → Q (.ref p) H1) : tDNewK σ H Q := mk h
theorem din {ty td : TE} (h : ty σ H fun y H1 => td σ H1 fun x H2 => ∃ a o, x = .ref a ∧ DGet H2 a y o ∧ Q (.bl o.isSome) H2) : tDIn ty td σ H Q := h
theorem dput {td ty tv : TE} (h : tv σ H fun v H1 => td σ H1 fun x H2 => ty σ H2 fun y H3 => ∃ a H4, x = .ref a ∧ DPut H3 a y v H4 ∧ D.nx σ H4) : sDPut td ty tv D σ H := h
theorem dget2 {td ty tx : TE} (h : td σ H fun x H1 => ∃ a, x = .ref a ∧ IsD H1 a ∧ ty σ H1 fun y H2 => tx σ H2 fun z H3 => ∃ o, DGet H3 a y o ∧ Q (o.getD z) H3) : tDGet2 td ty tx σ H Q := h
theorem dget {td ty : TE} (h : td σ H fun x H1 => ty σ H1 fun y H2 => ∃ a v, x = .ref a ∧ DGet H2 a y (some v) ∧ Q v H2) : tDGet td ty σ H Q := h
/-! lists and tuples -/
theorem ixA {p : Addr} {xs : List V} {j : Int} (h : SqL K H p xs ∨ SqT K H p xs) (e : atI xs j = some v) (q : Q v H) : rIx K (.ref p) (.int j) H Q := h.elim (fun h => .inl (ixL h e q)) (fun h => .inr (.inl (ixT h e q)))
theorem lenA {a : Addr} {xs : List V} (h : SqL K H a xs ∨ SqT K H a xs) (q : Q (.int xs.length) H) : rLenN K [.ref a] H Q := ⟨a, xs, rfl, h, q⟩
theorem sl {r : V → Option Int → Option Int → Hp → VK → Prop} {tl th : TO} (h : ta σ H fun x H1 => tl σ H1 fun l H2 => th σ H2 fun u H3 => r x l u H3 Q) : tSl r ta tl th σ H Q := h
theorem slno {Q : Option Int → Hp → Prop} (h : Q none H) : tNoPart σ H Q := h
theorem slpart {Q : Option Int → Hp → Prop} (h : ta σ H fun x H1 => ∃ i, x = .int i ∧ Q (some i) H1) : tPart ta σ H Q := h
theorem bint {i : Int} {q : Int → Prop} (h : q i) : ∃ k, V.int i = .int k ∧ q k := ⟨i, rfl, h⟩
theorem slL {p : Addr} {xs : List V} {lo hi : Option Int} (h : SqL K H p xs) (q : ∀ d H1, H d = none → Kp [] H H1 → H1 d = some (.lst (cutV xs lo hi)) → Q (.ref d) H1) : rSlL K (.ref p) lo hi H Q := ⟨p, xs, rfl, h, mk q⟩
theorem cut_take {xs : List V} {k : Nat} (h : k ≤ xs.length) : cutV xs none (some (k : Int)) = xs.take k := by
  unfold cutV
  rw [HT.sIx_none, HT.sIx_nat, List.drop_zero, Nat.sub_zero, Nat.min_eq_left h]
theorem cut_drop {xs : List V} {k : Nat} (h : k ≤ xs.length) : cutV xs (some (k : Int)) none = xs.drop k := by
  unfold cutV
  rw [HT.sIx_none, HT.sIx_nat, Nat.min_eq_left h]
  exact List.take_of_length_le (by rw [List.length_drop] <;> omega)
theorem inq {neg : Bool} {p : Addr} {xs : List V} (h : SqL K H p xs ∨ SqT K H p xs) (fx : flatV x = true) (fs : xs.all flatV = true) (q : Q (.bl (if neg then !inV x xs else inV x xs)) H) : rIn K neg x (.ref p) H Q := ⟨p, xs, rfl, h, fx, fs, q⟩
theorem inV_strs {a : Str} {l : List Str} : inV (.str a) (l.map V.str) = decide (a ∈ l) := by
  unfold inV
  induction l with
  | nil => simp
  | cons b r ih =>
    rw [List.map_cons, List.any_cons, ih]
    show ((b == a) || _) = _
    by_cases e : b = a
    · subst e; simp
    · have e' : ¬ a = b := fun z => e z.symm
      simp [e, e']
theorem strs_flat {l : List Str} : (l.map V.str).all flatV = true := by simp [flatV]
theorem pop {l : Addr} {xs : List V} {y : V} (h : H l = some (.lst xs)) (e : xs[xs.length - 1]? = some y) (q : Q y (upd H l (.lst xs.dropLast))) : rPop (.ref l) [] H Q := ⟨l, xs, y, rfl, rfl, h, e, q⟩
def LRK (K : PySem.W.Frag) (Q : VK) (x : V) (H1 : Hp) : Prop := ∃ a xs, x = .ref a ∧ SqL K H1 a xs ∧ ∀ p, H1 p = none → Q (.ref p) (upd H1 p (.lst xs.reverse))
theorem listrev (h : ta σ H (LRK K Q)) : RL.tListRev K ta σ H Q := h
theorem lrk {a : Addr} {xs : List V} (hS : SqL K H a xs) (q : ∀ p H1, H p = none → Kp [] H H1 → H1 p = some (.lst xs.reverse) → Q (.ref p) H1) : LRK K Q (.ref a) H := ⟨a, xs, rfl, hS, mk q⟩
theorem popS {l : Addr} {xs : List V} {y : V} (h : H l = some (.lst (xs ++ [y]))) (q : Q y (upd H l (.lst xs))) : rPop (.ref l) [] H Q := ⟨l, _, y, rfl, rfl, h, by simp, by rw [List.dropLast_concat]; exact q⟩
theorem extT {l b : Addr} {xs zs : List V} (h : H l = some (.lst xs)) (h2 : H b = some (.tup zs)) (hz : xs.length + zs.length ≤ 10000000) (q : Q .non (upd H l (.lst (xs ++ zs)))) : RL.rExtT (.ref l) [.ref b] H Q := ⟨l, b, xs, zs, rfl, rfl, h, h2, Nat.le_trans hz (by decide), q⟩
theorem slT {p : Addr} {xs : List V} {k : Nat} (h : SqT K H p xs) (h0 : 0 < k) (h1 : k ≤ xs.length) (q : ∀ d H1, H d = none → Kp [] H H1 → H1 d = some (.tup (xs.drop k)) → Q (.ref d) H1) : rSlT K (.ref p) (some (k : Int)) none H Q := ⟨p, xs, rfl, h, fun z => by
  rw [HT.sIx_nat, Nat.min_eq_left h1] at z
  omega, mk (by rw [cut_drop h1]; exact q)⟩
theorem revl (h : ta σ H (LRK K Q)) : tRevL K ta σ H Q := h
theorem idx {a : Addr} {ys : List V} {y : V} (j : Nat) {z : V} (hS : SqL K H a ys) (fy : flatV y = true) (fs : ys.all flatV = true) (hz : ys[j]? = some z) (hy : eqV z y = true) (hn : ∀ (m : Nat) (z' : V), m < j → ys[m]? = some z' → eqV z' y = false) (q : Q (.int (j : Nat)) H) : rIndex K (.ref a) [y] H Q := ⟨a, ys, y, j, z, rfl, rfl, hS, fy, fs, hz, hy, hn, q⟩
theorem truL {p : Addr} {xs : List V} {q : Bool → Prop} (h : H p = some (.lst xs)) (hq : q (!xs.isEmpty)) : ∃ k, TruV K (.ref p) H k ∧ q k := ⟨_, .inl ⟨xs, lstL h, rfl⟩, hq⟩
theorem glst {n : Nat} {t : TGs} {a : Addr} {xs : List V} {Q : St → Hp → Prop} (h : SqL K H a xs) (e : xs.length = n) (q : t xs σ H Q) : gLst K n t (.ref a) σ H Q := ⟨a, xs, rfl, h, e, q⟩
def rSplitQ : V → List V → Hp → VK → Prop := fun x xs H Q => ∃ a b, x = .str a ∧ xs = [.str b] ∧ (b.length == 0) = false ∧ a.length + 2 ≤ sizeLine ∧ rNewStrs (Txt.split a b) H Q
theorem m_split {X : Cx} : MtR X "str.split" rSplitQ := mt_split
theorem split {a b : Str} (hb : (b.length == 0) = false) (hz : a.length ≤ 10000000) (q : ∀ p H1, H p = none → Kp [] H H1 → H1 p = some (.lst ((Txt.split a b).map V.str)) → Q (.ref p) H1) : rSplitQ (.str a) [.str b] H Q := ⟨a, b, rfl, rfl, hb, Nat.le_trans (Nat.add_le_add_right hz 2) (by decide), mk q⟩
def EnSK (K : PySem.W.Frag) (R : It → Hp → Prop) (vs zs : List V) (H2 : Hp) : Prop := ∃ a xs k, vs = [.ref a] ∧ zs = [.int k] ∧ -(2 ^ 63) ≤ k ∧ k < 2 ^ 63 ∧ SqL K H2 a xs ∧ R (RL.IteS K a k) H2
theorem ienumS {a b : TA} {R : It → Hp → Prop} (h : a σ H fun vs H1 => b σ H1 fun zs H2 => EnSK K R vs zs H2) : RL.iEnumS K a b σ H R := h
theorem walk_enumS {a : Addr} {xs : List V} {k : Int} : Walk (RL.IteS K a k) xs.length (fun H => SqL K H a xs) (YPair (fun i => some (.int (k + (i : Nat)))) (fun i => xs[i]?)) := by
  refine ⟨fun i _ hi q => ⟨xs, xs[i], q, by simp [hi]⟩, fun _ q => ⟨xs, q, rfl⟩, fun i H v H' _ q y => ?_⟩
  obtain ⟨T, x, h1, h2, h3, h4⟩ := y
  exact ⟨T, .int (k + (i : Nat)), x, h1, h2, h3, rfl, h4 xs q⟩
theorem fores {g : TG} {tb : TS} {a : Addr} {k : Int} (xs : List V) (hk0 : -(2 ^ 63) ≤ k) (hk1 : k < 2 ^ 63) (hS : SqL K H a xs) (Pv : Nat → St → Hp → Prop) (h0 : Pv 0 σ H) (hl : ∀ i σ H, i ≤ xs.length → Pv i σ H → SqL K H a xs)
    (hs : ∀ i x σ H H' T, xs[i]? = some x → Pv i σ H → H T = none → Kp [] H H' → H' T = some (.tup [.int (k + (i : Nat)), x]) → g (.ref T) σ H' fun σ2 H2 => tb { D with nx := Pv (i + 1), ct := Pv (i + 1), bk := D.nx } σ2 H2) (hd : ∀ σ H, Pv xs.length σ H → D.nx σ H) : EnSK K (ForK g tb D σ) [.ref a] [.int k] H :=
  ⟨a, xs, k, rfl, rfl, hk0, hk1, hS, for_it (walk_enumS (K := K) (a := a) (xs := xs) (k := k)) Pv h0 hl (fun i v σ H H' hi p y => by
    obtain ⟨T, x, z, rfl, h1, rfl, h2, h3⟩ := y
    cases h2
    exact hs i z σ H _ T h3 p h1 (Kp.new h1) upd_same) hd⟩
/-- an f-string of two parts or more -/
def tJoin (ts : List TE) : TE := fun σ H Q => tJs ts Str.empty σ H fun out H1 => Q (.str out) H1
theorem pe_joinedN {X : Cx} {v1 v2 : Expr} {rest : List Expr} {ts : List TE} {pos : Pos} (h : PJ X (v1 :: v2 :: rest) ts) : PE X (.JoinedStr (v1 :: v2 :: rest) pos) (tJoin ts) := pe_joined h
def rJoinQ (K : PySem.W.Frag) : V → List V → Hp → VK → Prop := fun x xs H Q => ∃ a p, ∃ ys : List Str, x = .str a ∧ xs = [.ref p] ∧ (SqL K H p (ys.map V.str) ∨ SqT K H p (ys.map V.str)) ∧ (ys.map (·.length)).sum + ys.length * a.length ≤ 16777216 ∧ Q (.str (Txt.join a ys)) H
theorem m_join {X : Cx} : MtR X "str.join" (rJoinQ X.K) := mt_join
theorem join {a : Str} {p : Addr} {ys : List Str} (h : SqL K H p (ys.map V.str)) (hz : (ys.map (·.length)).sum + ys.length * a.length ≤ 16777216) (q : Q (.str (Txt.join a ys)) H) : rJoinQ K (.str a) [.ref p] H Q := ⟨a, p, ys, rfl, rfl, .inl h, hz, q⟩
theorem lens_le {n : Nat} : ∀ {ys : List Str}, (∀ y ∈ ys, y.length ≤ n) → (ys.map (·.length)).sum ≤ n * ys.length
  | [], _ => by simp
  | y :: r, h => by
    have h1 := h y (by simp)
    have h2 := lens_le (n := n) (ys := r) fun z hz => h z (by simp [hz])
    rw [List.map_cons, List.sum_cons, List.length_cons, Nat.mul_add]
    omega
theorem mulS {x : Str} {k : Nat} (h1 : 2 ≤ k) (h2 : k ≤ 100000) (h3 : 1 ≤ x.length) (h4 : x.length ≤ 100) (q : Q (.str (RL.repS x k)) H) : RL.rMulS (.str x) (.int (k : Int)) H Q := ⟨x, k, rfl, rfl, h1, h2, h3, h4, q⟩
theorem cat {l b : Addr} {xs zs : List V} (h : H l = some (.lst xs)) (h2 : H b = some (.lst zs)) (hz : xs.length + zs.length ≤ 100000) (q : ∀ p H1, H p = none → Kp [] H H1 → H1 p = some (.lst (xs ++ zs)) → Q (.ref p) H1) : rCat (.ref l) (.ref b) H Q := ⟨l, b, xs, zs, rfl, rfl, h, h2, Nat.le_trans hz (by decide), mk q⟩
end
end Z

/-! ### zip of two lists of one length -/
namespace Z
open PySem L2
section
variable {σ : St} {H : Hp} {Q : VK} {te : TE} {D : Ends} {K : PySem.W.Frag}
def ZipK (K : PySem.W.Frag) (R : It → Hp → Prop) (vs : List V) (H1 : Hp) : Prop := ∃ a b xs ys, vs = [.ref a, .ref b] ∧ SqL K H1 a xs ∧ SqL K H1 b ys ∧ R (Itz K a b) H1
theorem izip {a : TA} {R : It → Hp → Prop} (h : a σ H (ZipK K R)) : iZip K a σ H R := h
theorem forz {g : TG} {tb : TS} {a b : Addr} (xs ys : List V) (hn : xs.length = ys.length) (hS : SqL K H a xs) (hS2 : SqL K H b ys) (Pv : Nat → St → Hp → Prop) (h0 : Pv 0 σ H) (hl : ∀ i σ H, i ≤ xs.length → Pv i σ H → SqL K H a xs ∧ SqL K H b ys)
    (hs : ∀ i x y σ H H' T, xs[i]? = some x → ys[i]? = some y → Pv i σ H → H T = none → Kp [] H H' → H' T = some (.tup [x, y]) → g (.ref T) σ H' fun σ2 H2 => tb { D with nx := Pv (i + 1), ct := Pv (i + 1), bk := D.nx } σ2 H2) (hd : ∀ σ H, Pv xs.length σ H → D.nx σ H) : ZipK K (ForK g tb D σ) [.ref a, .ref b] H :=
  ⟨a, b, xs, ys, rfl, hS, hS2, for_it (walk_zip (K := K) (a := a) (b := b) (xs := xs) (ys := ys) (n := xs.length) (by omega)) Pv h0 hl (fun i v σ H H' hi p y => by
    obtain ⟨T, x, z, rfl, h1, rfl, h2, h3⟩ := y
    exact hs i x z σ H _ T h2 h3 p h1 (Kp.new h1) upd_same) hd⟩
theorem lcz {g : TG} {tt : TT} {vs : List Nat} {a b : Addr} (xs ys : List V) (hn : xs.length = ys.length) (hS : SqL K H a xs) (hS2 : SqL K H b ys) (Pv : Addr → Nat → Hp → Prop) (h0 : ∀ D H1, H D = none → Kp [] H H1 → H1 D = some (.lst []) → Pv D 0 H1)
    (hl : ∀ D i H1, H D = none → Pv D i H1 → SqL K H1 a xs ∧ SqL K H1 b ys)
    (hs : ∀ D i x y H1 H1' T, H D = none → xs[i]? = some x → ys[i]? = some y → Pv D i H1 → H1 T = none → Kp [] H1 H1' → H1' T = some (.tup [x, y]) → g (.ref T) (wipe σ vs) H1' fun σ2 H2 => wipe σ2 vs = wipe σ vs ∧ tt σ2 H2 fun b H3 => if b = true then te σ2 H3 fun y H4 => ∃ acc, H4 D = some (.lst acc) ∧ acc.length < sizeLine ∧ Pv D (i + 1) (upd H4 D (.lst (acc ++ [y]))) else Pv D (i + 1) H3)
    (hd : ∀ D H1, H D = none → Pv D xs.length H1 → Q (.ref D) H1) : ZipK K (LcK g tt te vs σ Q) [.ref a, .ref b] H :=
  ⟨a, b, xs, ys, rfl, hS, hS2, fun D hD => lc_it (walk_zip (K := K) (a := a) (b := b) (xs := xs) (ys := ys) (n := xs.length) (by omega)) (Pv D) (h0 D _ hD (Kp.new hD) upd_same) (fun _ _ _ p => hl D _ _ hD p) (fun i v H H' hi p y => by
    obtain ⟨T, x, z, rfl, h1, rfl, h2, h3⟩ := y
    exact hs D i x z H _ T hD h2 h3 p h1 (Kp.new h1) upd_same) fun H1 p => hd D H1 hD p⟩
end
end Z

namespace Z
open PySem L2
/-- what is never reached -/
def tDead : TS := fun _ _ _ => False
theorem ps_dead {X : Cx} {s : Stmt} : PS X s tDead := ⟨fun _ _ _ _ _ _ h => h.elim⟩
theorem u65 {k : Nat} {A : Around} (hr : Room k A) : A.units + 65 < cLine := by have := hr.un; omega
end Z

namespace Z
open PySem L2
/-! comprehensions of two clauses, both over lists -/
theorem it_list {K : PySem.W.Frag} {a : Addr} {xs : List V} {H0 : Hp} {R : Hp → Prop} {B : V → (Hp → Prop) → Hp → Prop} (Pv : Nat → Hp → Prop) (h0 : Pv 0 H0) (hl : ∀ i H, i ≤ xs.length → Pv i H → SqL K H a xs)
    (hs : ∀ i x H, xs[i]? = some x → Pv i H → B x (Pv (i + 1)) H) (hd : ∀ H, Pv xs.length H → R H) :
    ∃ W : Nat → Nat → Hp → Prop, (∃ m, W 0 m H0) ∧ ∀ i m H, W i m H →
      ((Itl K a).stop i H ∧ R H) ∨ ((Itl K a).go i H ∧ ∃ Nx : Hp → Prop, (∀ H', Nx H' → ∃ m', m' < m ∧ W (i + 1) m' H') ∧ ∀ x H', (Itl K a).yld i H x H' → B x Nx H') := by
  refine ⟨fun i m H => m = xs.length - i ∧ i ≤ xs.length ∧ Pv i H, ⟨xs.length, by simp, Nat.zero_le _, h0⟩, ?_⟩
  rintro i m H ⟨rfl, hi, p⟩
  have q := hl i H hi p
  by_cases hlt : i < xs.length
  · refine .inr ⟨⟨xs, xs[i], q, by simp [hlt]⟩, Pv (i + 1), fun H' p' => ⟨xs.length - (i + 1), by omega, rfl, hlt, p'⟩, fun x H' y => ?_⟩
    obtain ⟨e, y⟩ := y
    subst e
    exact hs i x _ (y xs q) p
  · have e : i = xs.length := by omega
    subst e
    exact .inl ⟨⟨xs, q, Nat.le_refl _⟩, hd H p⟩
def In2K (g1 : TG) (tt1 : TT) (te : TE) (vs1 : List Nat) (σ2 : L2.St) (D : Addr) (Nx : Hp → Prop) (J1 : It) (H4 : Hp) : Prop := ∃ W1 : Nat → Nat → Hp → Prop, (∃ m, W1 0 m H4) ∧ ∀ j k H, W1 j k H →
      (J1.stop j H ∧ Nx H) ∨ (J1.go j H ∧ ∃ Nx1 : Hp → Prop, (∀ H', Nx1 H' → ∃ k', k' < k ∧ W1 (j + 1) k' H') ∧ ∀ x H', J1.yld j H x H' → g1 x (wipe σ2 vs1) H' fun σ3 H5 => wipe σ3 vs1 = wipe σ2 vs1 ∧ tt1 σ3 H5 fun b H6 =>
        if b = true then te σ3 H6 fun y H7 => ∃ acc, H7 D = some (.lst acc) ∧ acc.length < sizeLine ∧ Nx1 (upd H7 D (.lst (acc ++ [y]))) else Nx1 H6)
def Lc2K (g : TG) (tt : TT) (wi1 : TI) (g1 : TG) (tt1 : TT) (te : TE) (vs vs1 : List Nat) (σ : L2.St) (Q : VK) (J : It) (H1 : Hp) : Prop := ∀ D, H1 D = none → ∃ W : Nat → Nat → Hp → Prop, (∃ m, W 0 m (upd H1 D (.lst []))) ∧ ∀ i m H, W i m H →
  (J.stop i H ∧ Q (.ref D) H) ∨ (J.go i H ∧ ∃ Nx : Hp → Prop, (∀ H', Nx H' → ∃ m', m' < m ∧ W (i + 1) m' H') ∧ ∀ x H', J.yld i H x H' → g x (wipe σ vs) H' fun σ2 H2 => wipe σ2 vs = wipe σ vs ∧ tt σ2 H2 fun b H3 =>
    if b = true then wi1 σ2 H3 (In2K g1 tt1 te vs1 σ2 D Nx) else Nx H3)
theorem lc2 {wi wi1 : TI} {g g1 : TG} {tt tt1 : TT} {te : TE} {vs vs1 : List Nat} {σ : L2.St} {H : Hp} {Q : VK} (h : wi σ H (Lc2K g tt wi1 g1 tt1 te vs vs1 σ Q)) : tLc2 wi g tt wi1 g1 tt1 te vs vs1 σ H Q := h
theorem lc2l {K : PySem.W.Frag} {wi1 : TI} {g g1 : TG} {tt tt1 : TT} {te : TE} {vs vs1 : List Nat} {σ : L2.St} {H : Hp} {Q : VK} {a : Addr} (xs : List V) (hS : SqL K H a xs) (Pv : Addr → Nat → Hp → Prop) (h0 : ∀ D H1, H D = none → Kp [] H H1 → H1 D = some (.lst []) → Pv D 0 H1)
    (hl : ∀ D i H1, H D = none → i ≤ xs.length → Pv D i H1 → SqL K H1 a xs)
    (hs : ∀ D i x H1, H D = none → xs[i]? = some x → Pv D i H1 → g x (wipe σ vs) H1 fun σ2 H2 => wipe σ2 vs = wipe σ vs ∧ tt σ2 H2 fun b H3 => if b = true then wi1 σ2 H3 (In2K g1 tt1 te vs1 σ2 D (Pv D (i + 1))) else Pv D (i + 1) H3)
    (hd : ∀ D H1, H D = none → Pv D xs.length H1 → Q (.ref D) H1) : ListK K (Lc2K g tt wi1 g1 tt1 te vs vs1 σ Q) (.ref a) H :=
  ⟨a, rfl, ⟨xs, hS⟩, fun D hD => it_list (K := K) (a := a) (xs := xs) (R := fun H1 => Q (.ref D) H1) (B := fun x Nx H' => g x (wipe σ vs) H' fun σ2 H2 => wipe σ2 vs = wipe σ vs ∧ tt σ2 H2 fun b H3 => if b = true then wi1 σ2 H3 (In2K g1 tt1 te vs1 σ2 D Nx) else Nx H3) (Pv D) (h0 D _ hD (Kp.new hD) upd_same) (fun i H1 hi p => hl D i H1 hD hi p) (fun i x H1 hx p => hs D i x H1 hD hx p) fun H1 p => hd D H1 hD p⟩
theorem in2l {K : PySem.W.Frag} {g1 : TG} {tt1 : TT} {te : TE} {vs1 : List Nat} {σ2 : L2.St} {H : Hp} {D : Addr} {Nx : Hp → Prop} {a : Addr} (ys : List V) (hS : SqL K H a ys) (Pv : Nat → Hp → Prop) (h0 : Pv 0 H) (hl : ∀ i H1, i ≤ ys.length → Pv i H1 → SqL K H1 a ys)
    (hs : ∀ j y H1, ys[j]? = some y → Pv j H1 → g1 y (wipe σ2 vs1) H1 fun σ3 H5 => wipe σ3 vs1 = wipe σ2 vs1 ∧ tt1 σ3 H5 fun b H6 => if b = true then te σ3 H6 fun z H7 => ∃ acc, H7 D = some (.lst acc) ∧ acc.length < sizeLine ∧ Pv (j + 1) (upd H7 D (.lst (acc ++ [z]))) else Pv (j + 1) H6)
    (hd : ∀ H1, Pv ys.length H1 → Nx H1) : ListK K (In2K g1 tt1 te vs1 σ2 D Nx) (.ref a) H :=
  ⟨a, rfl, ⟨ys, hS⟩, it_list (K := K) (a := a) (xs := ys) (R := Nx) (B := fun x Nx1 H' => g1 x (wipe σ2 vs1) H' fun σ3 H5 => wipe σ3 vs1 = wipe σ2 vs1 ∧ tt1 σ3 H5 fun b H6 => if b = true then te σ3 H6 fun y H7 => ∃ acc, H7 D = some (.lst acc) ∧ acc.length < sizeLine ∧ Nx1 (upd H7 D (.lst (acc ++ [y]))) else Nx1 H6) Pv h0 hl hs hd⟩
end Z

namespace Z
open PySem L2
/-! range(lo, e) -/
def Rng2K (R : It → Hp → Prop) (vs : List V) (H1 : Hp) : Prop := ∃ i j : Int, vs = [.int i, .int j] ∧ (-(2 ^ 62) ≤ i ∧ i < 2 ^ 62 ∧ -(2 ^ 62) ≤ j ∧ j < 2 ^ 62) ∧ R (Itr i (j - i).toNat) H1
theorem irng2 {a : TA} {σ : L2.St} {H : Hp} {R : It → Hp → Prop} (h : a σ H (Rng2K R)) : iRng2 a σ H R := h
theorem forr2 {σ : L2.St} {H : Hp} {D : Ends} {g : TG} {tb : TS} {lo e : Int} (n : Nat) (he : (e - lo).toNat = n) (hb : -1000000 ≤ lo ∧ lo ≤ 1000000 ∧ -1000000 ≤ e ∧ e ≤ 1000000) (Pv : Nat → L2.St → Hp → Prop) (h0 : Pv 0 σ H)
    (hs : ∀ i σ H, i < n → Pv i σ H → g (.int (lo + (i : Int))) σ H fun σ2 H2 => tb { D with nx := Pv (i + 1), ct := Pv (i + 1), bk := D.nx } σ2 H2) (hd : ∀ σ H, Pv n σ H → D.nx σ H) : Rng2K (ForK g tb D σ) [.int lo, .int e] H := by
  refine ⟨lo, e, rfl, ⟨by omega, by omega, by omega, by omega⟩, ?_⟩
  rw [he]
  exact for_range (lo := lo) (n := n) Pv h0 (fun i σ H1 hi p => hs i σ H1 hi p) hd
end Z

namespace Z
open PySem L2
/-! comprehensions of two clauses over any walks; comprehensions over enumerate -/
theorem it_any {J : It} {n : Nat} {G : Hp → Prop} {Y : Nat → Hp → V → Hp → Prop} (w : Walk J n G Y) {H0 : Hp} {R : Hp → Prop} {B : V → (Hp → Prop) → Hp → Prop} (Pv : Nat → Hp → Prop) (h0 : Pv 0 H0) (hl : ∀ i H, i ≤ n → Pv i H → G H)
    (hs : ∀ i x H H', i < n → Pv i H → Y i H x H' → B x (Pv (i + 1)) H') (hd : ∀ H, Pv n H → R H) :
    ∃ W : Nat → Nat → Hp → Prop, (∃ m, W 0 m H0) ∧ ∀ i m H, W i m H →
      (J.stop i H ∧ R H) ∨ (J.go i H ∧ ∃ Nx : Hp → Prop, (∀ H', Nx H' → ∃ m', m' < m ∧ W (i + 1) m' H') ∧ ∀ x H', J.yld i H x H' → B x Nx H') := by
  refine ⟨fun i m H => m = n - i ∧ i ≤ n ∧ Pv i H, ⟨n, by simp, Nat.zero_le _, h0⟩, ?_⟩
  rintro i m H ⟨rfl, hi, p⟩
  have q := hl i H hi p
  by_cases hlt : i < n
  · exact .inr ⟨w.goes i H hlt q, Pv (i + 1), fun H' p' => ⟨n - (i + 1), by omega, rfl, hlt, p'⟩, fun x H' y => hs i x H H' hlt p (w.yields i H x H' hlt q y)⟩
  · have e : i = n := by omega
    subst e
    exact .inl ⟨w.stops H q, hd H p⟩
theorem lc2r {wi1 : TI} {g g1 : TG} {tt tt1 : TT} {te : TE} {vs vs1 : List Nat} {σ : L2.St} {H : Hp} {Q : VK} {e : Int} (n : Nat) (he : e = (n : Int)) (hb : n < 1000000) (Pv : Addr → Nat → Hp → Prop) (h0 : ∀ D H1, H D = none → Kp [] H H1 → H1 D = some (.lst []) → Pv D 0 H1)
    (hs : ∀ D i H1, H D = none → i < n → Pv D i H1 → g (.int (i : Int)) (wipe σ vs) H1 fun σ2 H2 => wipe σ2 vs = wipe σ vs ∧ tt σ2 H2 fun b H3 => if b = true then wi1 σ2 H3 (In2K g1 tt1 te vs1 σ2 D (Pv D (i + 1))) else Pv D (i + 1) H3)
    (hd : ∀ D H1, H D = none → Pv D n H1 → Q (.ref D) H1) : Rng1K (Lc2K g tt wi1 g1 tt1 te vs vs1 σ Q) [.int e] H := by
  subst he
  refine ⟨(n : Int), rfl, by omega, by omega, fun D hD => ?_⟩
  rw [show ((n : Int)).toNat = n by simp]
  exact it_any (walk_range (lo := 0) (n := n)) (R := fun H1 => Q (.ref D) H1) (B := fun x Nx H' => g x (wipe σ vs) H' fun σ2 H2 => wipe σ2 vs = wipe σ vs ∧ tt σ2 H2 fun b H3 => if b = true then wi1 σ2 H3 (In2K g1 tt1 te vs1 σ2 D Nx) else Nx H3) (Pv D) (h0 D _ hD (Kp.new hD) upd_same) (fun _ _ _ _ => trivial) (fun i x H1 H2 hi p y => by
    obtain ⟨rfl, rfl⟩ := y
    have ei : (fun j : Nat => V.int (0 + (j : Int))) i = V.int (i : Int) := by
      show V.int (0 + (i : Int)) = _
      rw [Int.zero_add]
    rw [ei]
    exact hs D i _ hD hi p) fun H1 p => hd D H1 hD p
abbrev In2B (g1 : TG) (tt1 : TT) (te : TE) (vs1 : List Nat) (σ2 : L2.St) (D : Addr) (x : V) (Nx1 : Hp → Prop) (H' : Hp) : Prop := g1 x (wipe σ2 vs1) H' fun σ3 H5 => wipe σ3 vs1 = wipe σ2 vs1 ∧ tt1 σ3 H5 fun b H6 => if b = true then te σ3 H6 fun y H7 => ∃ acc, H7 D = some (.lst acc) ∧ acc.length < sizeLine ∧ Nx1 (upd H7 D (.lst (acc ++ [y]))) else Nx1 H6
theorem in2r {g1 : TG} {tt1 : TT} {te : TE} {vs1 : List Nat} {σ2 : L2.St} {H : Hp} {D : Addr} {Nx : Hp → Prop} {lo e : Int} (n : Nat) (he : (e - lo).toNat = n) (hb : -1000000 ≤ lo ∧ lo ≤ 1000000 ∧ -1000000 ≤ e ∧ e ≤ 1000000) (Pv : Nat → Hp → Prop) (h0 : Pv 0 H)
    (hs : ∀ j H1, j < n → Pv j H1 → In2B g1 tt1 te vs1 σ2 D (.int (lo + (j : Int))) (Pv (j + 1)) H1)
    (hd : ∀ H1, Pv n H1 → Nx H1) : Rng2K (In2K g1 tt1 te vs1 σ2 D Nx) [.int lo, .int e] H := by
  refine ⟨lo, e, rfl, ⟨by omega, by omega, by omega, by omega⟩, ?_⟩
  rw [he]
  exact it_any (walk_range (lo := lo) (n := n)) (R := Nx) (B := In2B g1 tt1 te vs1 σ2 D) Pv h0 (fun _ _ _ _ => trivial) (fun i x H1 H2 hi p y => by
    obtain ⟨rfl, rfl⟩ := y
    exact hs i _ hi p) hd
theorem in2t {K : PySem.W.Frag} {g1 : TG} {tt1 : TT} {te : TE} {vs1 : List Nat} {σ2 : L2.St} {H : Hp} {D : Addr} {Nx : Hp → Prop} {a : Addr} (ys : List V) (hS : SqT K H a ys) (Pv : Nat → Hp → Prop) (h0 : Pv 0 H) (hl : ∀ i H1, i ≤ ys.length → Pv i H1 → SqT K H1 a ys)
    (hs : ∀ j y H1, ys[j]? = some y → Pv j H1 → In2B g1 tt1 te vs1 σ2 D y (Pv (j + 1)) H1)
    (hd : ∀ H1, Pv ys.length H1 → Nx H1) : TupK K (In2K g1 tt1 te vs1 σ2 D Nx) (.ref a) H :=
  ⟨a, rfl, ⟨ys, hS⟩, it_any (walk_tup (K := K) (a := a) (xs := ys)) (R := Nx) (B := In2B g1 tt1 te vs1 σ2 D) Pv h0 hl (fun i x H1 H2 hi p y => by
    obtain ⟨rfl, hx⟩ := y
    exact hs i x _ hx p) hd⟩
theorem lce {K : PySem.W.Frag} {g : TG} {tt : TT} {te : TE} {vs : List Nat} {σ : L2.St} {H : Hp} {Q : VK} {a : Addr} (xs : List V) (hS : SqL K H a xs) (Pv : Addr → Nat → Hp → Prop) (h0 : ∀ D H1, H D = none → Kp [] H H1 → H1 D = some (.lst []) → Pv D 0 H1)
    (hl : ∀ D i H1, H D = none → Pv D i H1 → SqL K H1 a xs)
    (hs : ∀ D i x H1 H1' T, H D = none → xs[i]? = some x → Pv D i H1 → H1 T = none → Kp [] H1 H1' → H1' T = some (.tup [.int (i : Nat), x]) → g (.ref T) (wipe σ vs) H1' fun σ2 H2 => wipe σ2 vs = wipe σ vs ∧ tt σ2 H2 fun b H3 => if b = true then te σ2 H3 fun y H4 => ∃ acc, H4 D = some (.lst acc) ∧ acc.length < sizeLine ∧ Pv D (i + 1) (upd H4 D (.lst (acc ++ [y]))) else Pv D (i + 1) H3)
    (hd : ∀ D H1, H D = none → Pv D xs.length H1 → Q (.ref D) H1) : EnumK K (LcK g tt te vs σ Q) [.ref a] H :=
  ⟨a, xs, rfl, hS, fun D hD => lc_it (walk_enum (K := K) (a := a) (xs := xs)) (Pv D) (h0 D _ hD (Kp.new hD) upd_same) (fun _ _ _ p => hl D _ _ hD p) (fun i v H H' hi p y => by
    obtain ⟨T, x, z, rfl, h1, rfl, h2, h3⟩ := y
    cases h2
    exact hs D i z H _ T hD h3 p h1 (Kp.new h1) upd_same) fun H1 p => hd D H1 hD p⟩
end Z

namespace Z
open PySem L2
/-! reversed(range(n)) -/
def RevRK (R : It → Hp → Prop) (a b : Int) (H1 : Hp) : Prop := -(2 ^ 62) ≤ a ∧ a < 2 ^ 62 ∧ -(2 ^ 62) ≤ b ∧ b < 2 ^ 62 ∧ R (Itc (a + (((b - a).toNat : Nat) : Int) - 1) (-1) (b - a).toNat) H1
theorem irevr {tr : L2.St → Hp → (Int → Int → Hp → Prop) → Prop} {σ : L2.St} {H : Hp} {R : It → Hp → Prop} (h : tr σ H (RevRK R)) : iRevR tr σ H R := h
def Rg1K (R : Int → Int → Hp → Prop) (x : V) (H1 : Hp) : Prop := ∃ n : Int, x = .int n ∧ R 0 n H1
theorem rg1 {ta : TE} {σ : L2.St} {H : Hp} {R : Int → Int → Hp → Prop} (h : ta σ H (Rg1K R)) : tRg1 ta σ H R := h
theorem forrv {σ : L2.St} {H : Hp} {D : Ends} {g : TG} {tb : TS} {e : Int} (n : Nat) (he : e = (n : Int)) (hb : n < 4611686018427387904) (Pv : Nat → L2.St → Hp → Prop) (h0 : Pv 0 σ H)
    (hs : ∀ i σ H, i < n → Pv i σ H → g (.int ((n - 1 - i : Nat) : Int)) σ H fun σ2 H2 => tb { D with nx := Pv (i + 1), ct := Pv (i + 1), bk := D.nx } σ2 H2) (hd : ∀ σ H, Pv n σ H → D.nx σ H) : Rg1K (RevRK (ForK g tb D σ)) (.int e) H := by
  subst he
  refine ⟨(n : Int), rfl, by omega, by omega, by omega, by omega, ?_⟩
  rw [show ((n : Int) - 0).toNat = n by omega]
  refine for_rangeC Pv h0 (fun i σ H1 hi p => ?_) hd
  rw [show (0 + (n : Int) - 1 + (i : Int) * -1) = ((n - 1 - i : Nat) : Int) by omega]
  exact hs i σ H1 hi p
end Z

/-! ### sorted of data that are alike -/
namespace RL
open PySem PySem.Spec PyProof.Rows L2 PySem.W
def DBs := List (V × PyData)
def rSortedD (K : PySem.W.Frag) : List V → Hp → VK → Prop := fun vs H Q => ∃ (a : Addr) (bs : List (V × PyData)), vs = [V.ref a] ∧ SqL K H a (bs.map Prod.fst) ∧ (∀ b ∈ bs, Dp K H b.1 b.2) ∧ AllAlike (bs.map Prod.snd) ∧ Sortable (bs.map Prod.snd) ∧ (∀ b ∈ bs, b.2.depth ≤ 60) ∧
  ∀ p, H p = none → Q (.ref p) (upd H p (.lst ((bs.mergeSort (dataLe false Prod.snd)).map Prod.fst)))
theorem each_vals : ∀ {bs : List (V × PyData)} {us : List Value}, Vals (bs.map Prod.fst) us → EachIs (fun (v : Value) (b : V × PyData) => RelV b.1 v) us bs
  | [], us, h => by cases h; exact .nil
  | b :: r, us, h => by
    cases h with
    | cons h1 h2 => exact .cons h1 (each_vals h2)
theorem vals_each : ∀ {bs : List (V × PyData)} {us : List Value}, EachIs (fun (v : Value) (b : V × PyData) => RelV b.1 v) us bs → Vals (bs.map Prod.fst) us
  | _, _, .nil => .nil
  | _, _, .cons h1 h2 => .cons h1 (vals_each h2)
theorem each_and {α β : Type} {R : α → β → Prop} {P : β → Prop} {S : α → β → Prop} (hS : ∀ a b, R a b → P b → S a b) : ∀ {as : List α} {bs : List β}, EachIs R as bs → (∀ b ∈ bs, P b) → EachIs S as bs
  | _, _, .nil, _ => .nil
  | _, _, .cons h1 h2, hp => .cons (hS _ _ h1 (hp _ (by simp))) (each_and hS h2 fun b hb => hp b (by simp [hb]))
theorem cr_sortedD {X : Cx} (hu : X.A.units + 64 < cLine) : CallR X (.builtin "sorted") (rSortedD X.K) := by
  intro pins s σ H vs us Q I r h
  obtain ⟨a, bs, rfl, hs, hD, hal, hk, hd, q⟩ := h
  obtain ⟨its, rv, hl, hz⟩ := I.list hs
  rw [Vals.ref1 r]
  have e := each_vals rv
  have er : EachIs (fun (v : Value) (b : V × PyData) => ∃ as, Reads s.heap v b.2 as) its bs := each_and (P := fun (b : V × PyData) => Dp X.K H b.1 b.2) (fun v b h1 h2 => Dp.reads I _ _ _ h2 h1) e hD
  have hL : bs.length ≤ sizeLine := by rw [List.length_map] at hz; exact hz
  refine sorted_data (enc := Prod.snd) (R := fun (v : Value) (b : V × PyData) => RelV b.1 v) hl.isList e er hal hk hL (fun b hb => by have := hd b hb; omega) fun out hlen ho => ?_
  obtain ⟨ep, he'⟩ := PyProof.Rows.sortedAll_at s.heap its out.toArray
  have hlen2 : ((bs.mergeSort (dataLe false Prod.snd)).map Prod.fst).length ≤ sizeLine := by rw [List.length_map, List.length_mergeSort]; exact hL
  exact ⟨.ref _, upd H (s.heap.objs.size + 1) (.lst ((bs.mergeSort (dataLe false Prod.snd)).map Prod.fst)), I.laid (t' := s.toks) (fun _ _ => PyProof.Rows.sortedAll_old) (Nat.le_succ _) ⟨hlen2, out, ep, vals_each ho, he'⟩, rfl, q _ (I.hok.fresh (Nat.le_succ _))⟩
end RL

/-! ### sorted(xs, key=lambda x: x[0]) -/
namespace LamK
open PySem PySem.Spec PyProof.Rows L2 LamX PySem.W
/-- a lambda's names: its parameter alone, and globals -/
structure KeyS (scope : Scope) (x : Str) : Prop where
  kind : scope.kind = .function
  co : scope.isCoroutine = false
  gen : scope.isGenerator = false
  own : ∀ y ∈ scope.names, y.2 ≠ .cell ∧ y.2 ≠ .free
  loc : scope.names.lookup x = some .local
def keySB (scope : Scope) (x : Str) : Bool := decide (scope.kind = .function) && !scope.isCoroutine && !scope.isGenerator && (scope.names.all fun y => !decide (y.2 = .cell) && !decide (y.2 = .free)) && decide (scope.names.lookup x = some .local)
theorem keyS_by {scope : Scope} {x : Str} (h : keySB scope x = true) : KeyS scope x := by
  unfold keySB at h
  simp only [Bool.and_eq_true, Bool.not_eq_true', decide_eq_true_eq, decide_eq_false_iff_not, List.all_eq_true] at h
  obtain ⟨⟨⟨⟨h1, h2⟩, h3⟩, h4⟩, h5⟩ := h
  exact ⟨h1, h2, h3, h4, h5⟩
section
variable {prog : Program} {w : World} {A : Around} {s : Shared}
theorem key_call {f c' t : Addr} {name qual : Str} {params : Arguments} {scope : Scope} {cl : List (Str × Addr)} {pm ctv : Value} {x : Str} {j : Nat} {p1 p2 p3 : Pos} {its : Array Value} {u : Value} {k : PyData}
    (ho : s.heap.get? f = some (PySem.W.kla_obj name qual params (.Subscript (.Name x p1) (.Constant (.int 0) j p2) p3) scope cl pm c' ctv)) (hcd : s.heap.CodeRec (.ref c') qual) (hroom : A.depth < recursionLimit) (hl : s.heap.NoLimit)
    (hbind : bindArgs (PySem.W.kla_fn name qual params (.Subscript (.Name x p1) (.Constant (.int 0) j p2) p3) scope cl pm (.ref c') ctv) ⟨[.ref t], []⟩ = pure [(x, .ref t)])
    (S : KeyS scope x) (ht : IsTup s.heap t its) (hu : its[0]? = some u) (hk : Reads s.heap u k []) (hd : (x == ("__debug__" : Str)) = false) :
    wpAny (model prog w) A (call (.ref f) [.ref t]) (PySem.W.KeyPure k s) (fun _ _ => False) s := by
  refine wpAny_call (codeAny_mono (R := fun r s' => ∃ v, r = .ok (.ret v) ∧ PySem.W.KeyPure k s v s') ?_ fun r s' hq => ?_)
  · refine PySem.W.kla_callFunE hroom ho rfl S.co S.gen rfl hcd ?_
    rw [hbind]
    refine wpAny_pure (wpAny_newFunctionEnv (fun y hy => (S.own y hy).1) (fun y hy => ?_) (fun h₁ hns hsb => ⟨hl.fresh _ hsb, ?_⟩) S.kind)
    · rw [List.mem_singleton.mp hy]
      exact S.loc
    · have kp : ∀ b o, s.heap.get? b = some o → h₁.get? b = some o := fun b o e => hsb.extBut b o (Nat.ne_of_lt (Heap.lt_size e)) (Heap.get?_push_of_some _ e)
      have ht1 : IsTup h₁ t its := ht.keeps kp
      refine PySem.W.kla_codeExpr ?_
      refine Subscript_ ?_
      refine wpAny_Name (wpAny_loadName_local (v := .ref t) S.kind S.loc hns (by simp) ?_) hd
      refine wpAny_Constant_int ?_
      refine subscriptTail_builtinR (x := u) ht1.typeIs slot_tuple_getitem.lookup (getItem_tuple (j := 0) ht1 (by decide) (by decide) (seqIndex_of (by decide) (by have := (Array.getElem?_eq_some_iff.mp hu).1; omega)) hu ⟨rfl, ?_⟩)
      refine ⟨u, rfl, h₁, _, rfl, kp, PyProof.Rows.Reads.keeps kp hk⟩
  · obtain ⟨v, rfl, h⟩ := hq
    exact h
end
mutual
/-- data without lists and dicts -/
def noLst : PyData → Bool
  | .list _ => false
  | .dict _ => false
  | .tuple xs => noLstAll xs
  | .none => true
  | .bool _ => true
  | .int _ => true
  | .str _ => true
def noLstAll : List PyData → Bool
  | [] => true
  | d :: ds => noLst d && noLstAll ds
end
mutual
theorem reads_flat {h : Heap} : ∀ (d : PyData) {v : Value} {as : List Addr}, noLst d = true → Reads h v d as → as = []
  | .none, _, _, _, .none => rfl
  | .bool _, _, _, _, .bool _ => rfl
  | .int _, _, _, _, .int _ _ => rfl
  | .str _, _, _, _, .str _ _ => rfl
  | .list _, _, _, z, _ => by simp [noLst] at z
  | .dict _, _, _, z, _ => by simp [noLst] at z
  | .tuple xs, _, _, z, .tuple _ _ _ r => reads_flatAll xs (by simpa [noLst] using z) r
theorem reads_flatAll {h : Heap} : ∀ (ds : List PyData) {vs : List Value} {as : List Addr}, noLstAll ds = true → ReadsAll h vs ds as → as = []
  | [], _, _, _, .nil => rfl
  | d :: ds, _, _, z, .cons r rs => by
    have z' : noLst d = true ∧ noLstAll ds = true := by simpa [noLstAll] using z
    rw [reads_flat d z'.1 r, reads_flatAll ds z'.2 rs]
    rfl
end
/-- the rows at ts are tuples, the first items the keys ds -/
def KeyRows (K : PySem.W.Frag) (H : Hp) (bs : List (Addr × PyData)) : Prop := ∀ b ∈ bs, noLst b.2 = true ∧ b.2.depth ≤ 60 ∧ ∃ xs y, SqT K H b.1 xs ∧ xs[0]? = some y ∧ Dp K H y b.2
def KeyOk (ds : List PyData) : Prop := PySem.W.AllAlike ds ∧ PySem.W.Sortable ds
def tSortLam (K : PySem.W.Frag) (T : List (Addr × Str)) (t : TA) : TE := fun σ H Q => t σ H fun vs H1 => Tabs T H1 ∧ ∃ (a : Addr) (bs : List (Addr × PyData)), vs = [.ref a] ∧ SqL K H1 a (bs.map fun b => V.ref b.1) ∧ KeyRows K H1 bs ∧ KeyOk (bs.map Prod.snd) ∧
  ∀ H2 l, ExtN H1 H2 → Tabs T H2 → H2 l = none → Q (.ref l) (upd H2 l (.lst ((bs.mergeSort (PySem.W.dataLe false Prod.snd)).map fun b => V.ref b.1)))
theorem ext_rd {H H' : Hp} (e : ExtN H H') {a : Addr} {u : HO} (n : ∀ ps, u ≠ .tbl ps) (h : Rd H a u) : Rd H' a u := by
  rcases h with h | ⟨o, h⟩
  · exact .inl (e _ _ h n)
  · exact .inr ⟨o, e _ _ h fun ps z => by cases z⟩
theorem ext_seq {K : PySem.W.Frag} {H H' : Hp} (e : ExtN H H') {a : Addr} {xs : List V} (h : SqL K H a xs) : SqL K H' a xs := h.elim (fun h => .inl (ext_rd e (fun ps z => by cases z) h)) .inr
theorem ext_tup {K : PySem.W.Frag} {H H' : Hp} (e : ExtN H H') {a : Addr} {xs : List V} (h : SqT K H a xs) : SqT K H' a xs := h.elim (fun h => .inl (ext_rd e (fun ps z => by cases z) h)) .inr
mutual
theorem ext_dp {K : PySem.W.Frag} {H H' : Hp} (e : ExtN H H') : ∀ (d : PyData) {v : V}, Dp K H v d → Dp K H' v d
  | .none, _, .non => .non
  | .bool _, _, .bl b => .bl b
  | .int _, _, .int i => .int i
  | .str _, _, .str x => .str x
  | .list ds, _, .lst h r => .lst (ext_seq e h) (ext_dpAll e ds r)
  | .tuple ds, _, .tup h r => .tup (ext_tup e h) (ext_dpAll e ds r)
theorem ext_dpAll {K : PySem.W.Frag} {H H' : Hp} (e : ExtN H H') : ∀ (ds : List PyData) {vs : List V}, DpAll K H vs ds → DpAll K H' vs ds
  | [], _, .nil => .nil
  | d :: ds, _, .cons h r => .cons (ext_dp e d h) (ext_dpAll e ds r)
end
theorem ext_rows {K : PySem.W.Frag} {H H' : Hp} (e : ExtN H H') {bs : List (Addr × PyData)} (h : KeyRows K H bs) : KeyRows K H' bs := fun b hb => by
  obtain ⟨h1, h2, xs, y, h3, h4, h5⟩ := h b hb
  exact ⟨h1, h2, xs, y, ext_tup e h3, h4, ext_dp e _ h5⟩
theorem vals_refs : ∀ {bs : List (Addr × PyData)} {us : List Value}, Vals (bs.map fun b => V.ref b.1) us → us = bs.map fun b => Value.ref b.1
  | [], _, .nil => rfl
  | b :: bs, _, .cons r rs => by
    obtain rfl : _ = Value.ref b.1 := r
    rw [vals_refs rs]
    rfl
theorem refs_vals : ∀ bs : List (Addr × PyData), Vals (bs.map fun b => V.ref b.1) (bs.map fun b => Value.ref b.1)
  | [] => .nil
  | _ :: bs => .cons rfl (refs_vals bs)
def KeyAt (h : Heap) (v : Value) (b : Addr × PyData) : Prop := v = .ref b.1 ∧ ∃ its u, IsTup h b.1 its ∧ its[0]? = some u ∧ Reads h u b.2 []
theorem each_at {h : Heap} : ∀ {bs : List (Addr × PyData)}, (∀ b ∈ bs, KeyAt h (.ref b.1) b) → PySem.W.EachIs (KeyAt h) (bs.map fun b => Value.ref b.1) bs
  | [], _ => .nil
  | b :: bs, z => .cons (z b (by simp)) (each_at (bs := bs) fun x hx => z x (by simp [hx]))
theorem each_refs {h : Heap} : ∀ {us : List Value} {bs : List (Addr × PyData)}, PySem.W.EachIs (KeyAt h) us bs → us = bs.map fun b => Value.ref b.1
  | _, _, .nil => rfl
  | _, _, .cons r rs => by rw [r.1, each_refs rs]; rfl
theorem pe_sortLam {X : Cx} {T : List (Addr × Str)} {c P : Addr} {e : Expr} {t : TA} {x : Str} {j k : Nat} {params : Arguments} {scope : Scope} {lpos p1 p2 p3 kpos p pos : Pos} (hg : Gl X "sorted") (hm : X.mg "sorted" = none) (ha : PA X [e] t)
    (TB : TabB X.base X.mg c P) (hcode : X.env.code = .ref c) (hmT : (P, X.env.qual ++ "<lambda>") ∈ T) (hu : ∀ q ∈ T, q.1 = P → q.2 = X.env.qual ++ "<lambda>") (hr : Room k X.A) (S : KeyS scope x) (hdef : defaultsOf params X.env = ([], []))
    (hbind : ∀ (q : Str) (cl : List (Str × Addr)) (pm cv ctv v : Value), bindArgs (PySem.W.kla_fn "<lambda>" q params (.Subscript (.Name x p1) (.Constant (.int 0) j p2) p3) scope cl pm cv ctv) ⟨[v], []⟩ = pure [(x, v)])
    (hd : (x == ("__debug__" : Str)) = false := by decide) (hst : starEach [e] X.env = (false, eval e X.env) :: starEach [] X.env := by rfl) :
    PE X (.Call (.Name "sorted" p) [e] [⟨some "key", .Lambda params (.Subscript (.Name x p1) (.Constant (.int 0) j p2) p3) scope lpos, kpos⟩] pos) (tSortLam X.K T t) := by
  refine ⟨fun pins s σ H Q I h => ?_⟩
  refine wpAny_Call_Name_kw (ld_blt I hg hm PyProof.Rows.boot_sorted ?_ (by decide) (by decide))
  refine PyProof.Rows.callWith_kw ?_ (by rw [hst]; rfl) (by rw [hst]; rfl) (by rfl) (by rfl)
  refine thn (ha.run pos pins s σ H _ I h) fun us s1 ⟨vs, H1, I1, r1, q1⟩ => ?_
  obtain ⟨hT, a, bs, rfl, hS, hK, hO, q⟩ := q1
  obtain rfl := Vals.ref1 r1
  show wpAny _ _ (evalAll ((do let v ← eval (.Lambda params (.Subscript (.Name x p1) (.Constant (.int 0) j p2) p3) scope lpos) X.env; standAt pos; pure v) :: [])) _ _ s1
  refine wpAny_evalAll_cons (wpAny_bind (lam_make2 I1 TB hcode hmT hu hT hdef (fun y hy z => absurd z (S.own y hy).2) fun f c' pm ctv H2 s2 I2 eN T2 hf hfn hfr hco => ?_))
  refine wpAny_bind (wpAny_standAt (wpAny_pure ?_))
  refine wpAny_evalAll_nil ?_
  obtain ⟨⟨oc, us, t, hoc, hdc, hvc⟩, _, _⟩ := I2.hok c' _ hco
  have kS := ext_seq eN hS
  have kR := ext_rows eN hK
  obtain ⟨its, rv, hl, hz⟩ := I2.list kS
  obtain rfl := vals_refs rv
  rw [List.length_map] at hz
  have room := hr.dp
  have roomU := hr.un
  have dpt : X.A.in1.in1.depth = X.A.depth := rfl
  have lim := I2.nolimit
  refine PySem.W.sorted_key_data (b := false) (R := KeyAt s2.heap) (bs := bs) (f := .ref f) (fun b : Addr × PyData => b.2) hl.isList (each_at fun b hb => ⟨rfl, ?_⟩) hO.1 hO.2 hz (fun b hb => ?_) (ksk_s1 _ _) (fun _ => ksk_l1 _ _) (fun _ => ksk_t1 _ _) (fun v b ⟨ev, its, u, ht, hu, hk⟩ hb h tk kp => ?_) fun out cc h' tk kp fresh hD hlen eo => ?_
  · obtain ⟨h1, h2, xs, y, h3, h4, h5⟩ := kR b hb
    obtain ⟨its, rv, pt, _⟩ := I2.tuple h3
    obtain ⟨u, hu, ru⟩ := rv.get h4
    obtain ⟨as, rd⟩ := Dp.reads I2 _ _ _ h5 ru
    rw [reads_flat _ h1 rd] at rd
    exact ⟨_, u, pt, by simpa using hu, rd⟩
  · have := (kR b hb).2.1
    omega
  · subst ev
    refine key_call (s := { s2 with heap := h, toks := tk }) (kp _ _ hf) ⟨c', oc, us, t, rfl, kp _ _ hoc, hdc, hvc⟩ (by rw [dpt]; omega) (lim.keeps kp) (hbind _ _ _ _ _ _) S (ht.keeps kp) hu (PyProof.Rows.Reads.keeps kp hk) hd
  · obtain rfl := each_refs eo
    refine ⟨.ref (s2.heap.objs.size + 1), _, I2.laid (t' := tk) kp (Nat.le_succ _) (o := .lst ((bs.mergeSort (PySem.W.dataLe false Prod.snd)).map fun b => V.ref b.1)) ⟨?_, _, cc, refs_vals _, hD⟩, rfl, q _ _ eN T2 (I2.hok.fresh (Nat.le_succ _))⟩
    rw [List.length_map, List.length_mergeSort]
    exact hz
end LamK
namespace LamK
open PySem PySem.Spec PyProof.Rows L2 LamX
/-- a def that makes lambdas: its code object stands at c -/
def CodeFn (K : PySem.W.Frag) (f : Addr) (fd : FuncData) (st : Stmt) (x : Str) (c : Addr) : Prop :=
  ∃ (oc : Value) (od : Option Addr) (kV doc pm : Value) (an : Option Addr) (ct : Value) (osl : Array (Option Value)),
    fd = PySem.W.fnOf x x (defArgs st) (defBody st) (defScope st) .none kV doc pm an (.ref c) ct ∧ K.lookup f = some ⟨oc, od, .func fd, osl⟩ ∧ PySem.W.codeIn K (.ref c) x = true
/-- at l nothing is tracked, but for a table -/
def Nw (H : Hp) (l : Addr) : Prop := ∀ o, H l = some o → ∃ ps, o = .tbl ps
theorem Nw.of {H : Hp} {l : Addr} (h : H l = none) : Nw H l := fun o e => by rw [h] at e; cases e
theorem Nw.back {H H1 : Hp} {l : Addr} (h : Nw H1 l) (e : ExtN H H1) : Nw H l := fun o ho => by
  by_cases z : ∀ ps, o ≠ .tbl ps
  · obtain ⟨ps, q⟩ := h o (e l o ho z)
    exact absurd q (z ps)
  · simp only [Classical.not_forall, Classical.not_not, ne_eq] at z
    exact z
theorem Nw.ne {H : Hp} {l b : Addr} {o : HO} (h : Nw H l) (e : H b = some o) (n : ∀ ps, o ≠ .tbl ps) : b ≠ l := fun z => by
  rw [z] at e
  obtain ⟨ps, q⟩ := h o e
  exact n ps q
/-- what srt asks where the rows are read -/
def SrtK (K : PySem.W.Frag) (T : List (Addr × Str)) (Q : VK) : List V → Hp → Prop := fun vs H1 => Tabs T H1 ∧ ∃ (a : Addr) (bs : List (Addr × PyData)), vs = [.ref a] ∧ SqL K H1 a (bs.map fun b => V.ref b.1) ∧ KeyRows K H1 bs ∧ KeyOk (bs.map Prod.snd) ∧
  ∀ H2 l, ExtN H1 H2 → Tabs T H2 → H2 l = none → Q (.ref l) (upd H2 l (.lst ((bs.mergeSort (PySem.W.dataLe false Prod.snd)).map fun b => V.ref b.1)))
theorem srt {K : PySem.W.Frag} {T : List (Addr × Str)} {t : TA} {σ : L2.St} {H : Hp} {Q : VK} (h : t σ H (SrtK K T Q)) : tSortLam K T t σ H Q := h
theorem tabs_none {T : List (Addr × Str)} {H : Hp} {l : Addr} {o : HO} (t : Tabs T H) (h : H l = none) : Tabs T (upd H l o) := t.ext fun b u e => by rw [upd_ne (fun z => by rw [z, h] at e; cases e)]; exact e
theorem srtK {K : PySem.W.Frag} {T : List (Addr × Str)} {H : Hp} {Q : VK} {a : Addr} {bs : List (Addr × PyData)} (hT : Tabs T H) (hS : SqL K H a (bs.map fun b => V.ref b.1)) (hK : KeyRows K H bs) (hO : KeyOk (bs.map Prod.snd))
    (q : ∀ H3 l, ExtN H H3 → Tabs T H3 → Nw H l → H3 l = some (.lst ((bs.mergeSort (PySem.W.dataLe false Prod.snd)).map fun b => V.ref b.1)) → Q (.ref l) H3) : SrtK K T Q [.ref a] H :=
  ⟨hT, a, bs, rfl, hS, hK, hO, fun H2 l e t n => q _ l (fun b o h z => by
      have h2 := e b o h z
      rw [upd_ne (fun z => by rw [z, n] at h2; cases h2)]
      exact h2) (tabs_none t n) (Nw.back (Nw.of n) e) upd_same⟩
theorem ext_kp {H H' : Hp} (k : Z.Kp [] H H') : ExtN H H' := fun b o h _ => k b o (by simp) h
theorem ext_put {H H1 H2 : Hp} {l : Addr} (e : ExtN H H1) (k : Z.Kp [l] H1 H2) (n : Nw H l) : ExtN H H2 := fun b o h z => k b o (by
  intro y
  exact n.ne h z (List.mem_singleton.mp y)) (e b o h z)
theorem tabs_kp {T : List (Addr × Str)} {H H' : Hp} (t : Tabs T H) (k : Z.Kp [] H H') : Tabs T H' := t.ext fun b o h => k b o (by simp) h
/-- a list at l is written: tables stay -/
theorem tabs_put {T : List (Addr × Str)} {H H' : Hp} {l : Addr} {xs : List V} (t : Tabs T H) (k : Z.Kp [l] H H') (h : H l = some (.lst xs)) : Tabs T H' := fun p hp => by
  obtain ⟨ps, h1, h2, h3⟩ := t p hp
  have at' : ∀ {b : Addr} {o : HO}, H b = some o → o ≠ .lst xs → H' b = some o := fun {b o} e n => k b o (by
    intro y
    rw [List.mem_singleton.mp y, h] at e
    exact n (Option.some.inj e).symm) e
  exact ⟨ps, at' h1 (by simp), h2, fun pos cv hc => let ⟨c, e1, e2⟩ := h3 pos cv hc; ⟨c, e1, at' e2 (by unfold CodeO; simp)⟩⟩
theorem ext_get {H H' : Hp} (e : ExtN H H') {b : Addr} {o : HO} (h : H b = some o) (n : ∀ ps, o ≠ .tbl ps := by intro ps; simp) : H' b = some o := e b o h n
/-- o.m() within a try -/
def tMethX (C : Addr) (m : Str) (sp : Sp) (E : L2.St → XK) (ta : TE) : TE := fun σ H Q => ta σ H fun x H1 => ∃ a dx fs, x = .ref a ∧ H1 a = some (.ins C dx fs) ∧ fs.lookup m = none ∧ sp [x] H1 Q (E σ)
theorem pe_meth0X {X : Cx} {CX : CXT} {k : Nat} {f C : Addr} {fd : FuncData} {ps : List Str} {sp : Sp} {E : L2.St → XK} {m : Str} {pos apos : Pos} {o : Expr} {ta : TE} {pl : Sem Bool} (he : PE X o ta) (c : Cls X.K C) (hm : Meth X.K C m f) (F : FnOk X.prog X.w X.K X.mg X.base CX k f fd ps sp) (hr : Room k X.A) (hb : Binds X.K fd ps []) (hx : ∀ σ, PassesAt CX X σ (E σ))
    (ht : eval (.Call (.Attribute o m apos) [] [] pos) X.env = (do
      let ov ← eval o X.env
      standAt apos.atName
      let (f, first) ← holding [ov] (getMethod ov m pl)
      callWith pos f first (backTo pos (starEach [] X.env)) (backToKw pos (keywordEach [] X.env))) := by rfl) : PE X (.Call (.Attribute o m apos) [] [] pos) (tMethX C m sp E ta) := by
  refine ⟨fun pins s σ H Q I h => PySem.W.methodCall_KW (pl := pl) (thn (he.run pins s σ H _ I h) fun u s1 ⟨x, H1, I1, rx, a, dx, fs, ex, ea, l, q⟩ => ?_) ht⟩
  subst ex
  obtain rfl : u = Value.ref a := rx
  exact getmeth_ok I1 ea c hm l (PySem.W.callWith_K0 (first := [.ref a]) I1.kIn hm.kp (run_fnS (us := [.ref a]) (vs := [.ref a]) F hr hb (hx σ) I1 (.cons rfl .nil) q))
theorem methX {C : Addr} {m : Str} {sp : Sp} {E : L2.St → XK} {ta : TE} {σ : L2.St} {H : Hp} {Q : VK} (h : ta σ H fun x H1 => ∃ a dx fs, x = .ref a ∧ H1 a = some (.ins C dx fs) ∧ fs.lookup m = none ∧ sp [x] H1 Q (E σ)) : tMethX C m sp E ta σ H Q := h
end LamK

namespace GT
open PySem L2 Z
/-! dicts whose keys are tuples -/
def rListT : List V → Hp → VK → Prop := fun xs H Q => ∃ d kvs, xs = [V.ref d] ∧ Rd H d (.dT kvs) ∧ ∀ p bs, H p = none → IsKeys H kvs bs → Q (.ref p) (upd H p (.lst (bs.map V.ref)))
theorem c_listT {X : Cx} (hc : X.calm = true) : CallR X (.type "list") rListT := call_list_dT hc
theorem dnewT {Q : VK} {σ : L2.St} {H : Hp} (h : ∀ p H1, H p = none → Kp [] H H1 → H1 p = some (.dT []) → Q (.ref p) H1) : tDNewT σ H Q := mk h
/-- a key as data -/
def kD : Key → PyData
  | .inl i => .int i
  | .inr s => .str s
def keyD (k : List Key) : PyData := .tuple (k.map kD)
theorem dp_keys {K : PySem.W.Frag} {H : Hp} : ∀ k : List Key, DpAll K H (k.map kV) (k.map kD)
  | [] => .nil
  | .inl i :: r => .cons (.int i) (dp_keys r)
  | .inr s :: r => .cons (.str s) (dp_keys r)
theorem dp_key {K : PySem.W.Frag} {H : Hp} {b : Addr} {k : List Key} (h : H b = some (.tup (k.map kV))) : Dp K H (.ref b) (keyD k) := .tup (tupT h) (dp_keys k)
theorem keys_depth : ∀ k : List Key, PyData.depthAll (k.map kD) ≤ 1
  | [] => by simp [PyData.depthAll]
  | .inl i :: r => by
    have := keys_depth r
    simp [PyData.depthAll, kD, PyData.depth]
    omega
  | .inr s :: r => by
    have := keys_depth r
    simp [PyData.depthAll, kD, PyData.depth]
    omega
theorem keys_lay : ∀ k : List Key, (∀ s, Sum.inr s ∈ k → PyData.strOk s = true) → PyData.canLayAll0 (k.map kD) = true
  | [], _ => by simp [PyData.canLayAll0]
  | .inl i :: r, h => by
    have := keys_lay r fun s hs => h s (by simp [hs])
    simp [PyData.canLayAll0, kD, PyData.canLay0, this]
  | .inr s :: r, h => by
    have := keys_lay r fun s hs => h s (by simp [hs])
    simp [PyData.canLayAll0, kD, PyData.canLay0, this, h s]
theorem keys_flat : ∀ k : List Key, LamK.noLstAll (k.map kD) = true
  | [] => by simp [LamK.noLstAll]
  | .inl i :: r => by
    have := keys_flat r
    simp [LamK.noLstAll, LamK.noLst, kD, this]
  | .inr s :: r => by
    have := keys_flat r
    simp [LamK.noLstAll, LamK.noLst, kD, this]
end GT

/-! ### dicts whose keys are ints and texts, or tuples of them: which, is the proof's choice -/
namespace GU
open PySem L2 Z GT
abbrev OK := Key ⊕ List Key
def okD : OK → PyData
  | .inl k => kD k
  | .inr ks => keyD ks
/-- a key as a value -/
def OkAt (H : Hp) : OK → V → Prop
  | .inl k, v => v = kV k
  | .inr ks, v => ∃ p, v = .ref p ∧ H p = some (.tup (ks.map kV))
def fm : OK → Bool
  | .inl _ => false
  | .inr _ => true
theorem OkAt.kp {M : List Addr} {H H' : Hp} {k : OK} {v : V} (h : OkAt H k v) (e : Kp M H H') (n : ∀ x ∈ M, ∀ vs, H x ≠ some (.tup vs)) : OkAt H' k v := by
  cases k with
  | inl k => exact h
  | inr ks =>
    obtain ⟨p, e1, e2⟩ := h
    exact ⟨p, e1, e.get (fun z => n _ z _ e2) e2⟩
theorem OkAt.kp0 {H H' : Hp} {k : OK} {v : V} (h : OkAt H k v) (e : Kp [] H H') : OkAt H' k v := h.kp e fun _ h => by cases h
theorem OkAt.dp {K : PySem.W.Frag} {H : Hp} {k : OK} {v : V} (h : OkAt H k v) : Dp K H v (okD k) := by
  cases k with
  | inl k =>
    have h : v = kV k := h
    subst h
    cases k with
    | inl i => exact .int i
    | inr s => exact .str s
  | inr ks =>
    obtain ⟨p, rfl, e⟩ := h
    exact dp_key e
def injK (kvs : List (Key × V)) : List (OK × V) := kvs.map fun x => (.inl x.1, x.2)
def injT (kvs : List (List Key × V)) : List (OK × V) := kvs.map fun x => (.inr x.1, x.2)
theorem valV_injK (kvs : List (Key × V)) (k : Key) : valV (injK kvs) (.inl k) = valV kvs k := by
  unfold valV injK
  rw [List.find?_map, Option.map_map]
  have : ((fun kv : OK × V => decide (kv.1 = Sum.inl k)) ∘ fun x : Key × V => ((Sum.inl x.1 : OK), x.2)) = fun x => decide (x.1 = k) := by
    funext x
    show decide ((Sum.inl x.1 : OK) = Sum.inl k) = decide (x.1 = k)
    by_cases h : x.1 = k
    · rw [h]; simp
    · rw [decide_eq_false h, decide_eq_false (fun z => h (Sum.inl.inj z))]
  rw [this]
  rfl
theorem valV_injT (kvs : List (List Key × V)) (k : List Key) : valV (injT kvs) (.inr k) = valV kvs k := by
  unfold valV injT
  rw [List.find?_map, Option.map_map]
  have : ((fun kv : OK × V => decide (kv.1 = Sum.inr k)) ∘ fun x : List Key × V => ((Sum.inr x.1 : OK), x.2)) = fun x => decide (x.1 = k) := by
    funext x
    show decide ((Sum.inr x.1 : OK) = Sum.inr k) = decide (x.1 = k)
    by_cases h : x.1 = k
    · rw [h]; simp
    · rw [decide_eq_false h, decide_eq_false (fun z => h (Sum.inr.inj z))]
  rw [this]
  rfl
theorem putK_injK (kvs : List (Key × V)) (k : Key) (v : V) : putK (injK kvs) (.inl k) v = injK (putK kvs k v) := by
  have ha : ((injK kvs).any fun kv => decide (kv.1 = Sum.inl k)) = kvs.any fun kv => decide (kv.1 = k) := by
    rw [valV_any, valV_any, valV_injK]
  unfold putK
  rw [ha]
  split
  · unfold injK
    rw [List.map_map, List.map_map]
    refine List.map_congr_left fun x _ => ?_
    show (if (Sum.inl x.1 : OK) = Sum.inl k then ((Sum.inl x.1 : OK), v) else (Sum.inl x.1, x.2)) = ((Sum.inl (if x.1 = k then (x.1, v) else x).1 : OK), (if x.1 = k then (x.1, v) else x).2)
    by_cases h : x.1 = k
    · rw [if_pos (congrArg Sum.inl h), if_pos h]
    · rw [if_neg (fun z => h (Sum.inl.inj z)), if_neg h]
  · unfold injK
    rw [List.map_append]; rfl
theorem putK_injT (kvs : List (List Key × V)) (k : List Key) (v : V) : putK (injT kvs) (.inr k) v = injT (putK kvs k v) := by
  have ha : ((injT kvs).any fun kv => decide (kv.1 = Sum.inr k)) = kvs.any fun kv => decide (kv.1 = k) := by
    rw [valV_any, valV_any, valV_injT]
  unfold putK
  rw [ha]
  split
  · unfold injT
    rw [List.map_map, List.map_map]
    refine List.map_congr_left fun x _ => ?_
    show (if (Sum.inr x.1 : OK) = Sum.inr k then ((Sum.inr x.1 : OK), v) else (Sum.inr x.1, x.2)) = ((Sum.inr (if x.1 = k then (x.1, v) else x).1 : OK), (if x.1 = k then (x.1, v) else x).2)
    by_cases h : x.1 = k
    · rw [if_pos (congrArg Sum.inr h), if_pos h]
    · rw [if_neg (fun z => h (Sum.inr.inj z)), if_neg h]
  · unfold injT
    rw [List.map_append]; rfl
/-- a dict at d; f: its keys are tuples -/
def DA (f : Bool) (H : Hp) (d : Addr) (kvs : List (OK × V)) : Prop := (f = false ∧ ∃ ks, H d = some (.dK ks) ∧ kvs = injK ks) ∨ (f = true ∧ ∃ ks, H d = some (.dT ks) ∧ kvs = injT ks)
theorem DA.kp {M : List Addr} {f : Bool} {H H' : Hp} {d : Addr} {kvs : List (OK × V)} (h : DA f H d kvs) (k : Kp M H H') (n : d ∉ M) : DA f H' d kvs := by
  rcases h with ⟨e, ks, h1, h2⟩ | ⟨e, ks, h1, h2⟩
  · exact .inl ⟨e, ks, k.get n h1, h2⟩
  · exact .inr ⟨e, ks, k.get n h1, h2⟩
theorem DA.kp0 {f : Bool} {H H' : Hp} {d : Addr} {kvs : List (OK × V)} (h : DA f H d kvs) (k : Kp [] H H') : DA f H' d kvs := h.kp k (by simp)
theorem DA.notup {f : Bool} {H : Hp} {d : Addr} {kvs : List (OK × V)} (h : DA f H d kvs) : ∀ x ∈ [d], ∀ vs, H x ≠ some (.tup vs) := fun x hx vs z => by
  rw [List.mem_singleton.mp hx] at z
  rcases h with ⟨_, ks, h1, _⟩ | ⟨_, ks, h1, _⟩ <;> rw [h1] at z <;> cases z
theorem DA.NoTup {f : Bool} {H : Hp} {d : Addr} {kvs : List (OK × V)} (h : DA f H d kvs) : ∃ o, H d = some o ∧ ∀ xs, o ≠ .tup xs ∧ ∀ u, o ≠ .frz u (.tup xs) := by
  rcases h with ⟨_, ks, h1, _⟩ | ⟨_, ks, h1, _⟩
  · exact ⟨_, h1, fun xs => ⟨by simp, by simp⟩⟩
  · exact ⟨_, h1, fun xs => ⟨by simp, by simp⟩⟩
theorem DA.isD {f : Bool} {H : Hp} {d : Addr} {kvs : List (OK × V)} (h : DA f H d kvs) : IsD H d := by
  rcases h with ⟨_, ks, h1, _⟩ | ⟨_, ks, h1, _⟩
  · exact .inl ⟨ks, .inl h1⟩
  · exact .inr ⟨ks, .inl h1⟩
theorem DA.ne {f : Bool} {H : Hp} {d l : Addr} {kvs : List (OK × V)} (h : DA f H d kvs) (n : H l = none) : d ≠ l := by
  rcases h with ⟨_, ks, h1, _⟩ | ⟨_, ks, h1, _⟩ <;> exact ne_of_none h1 n
theorem DA.get {f : Bool} {H : Hp} {d : Addr} {kvs : List (OK × V)} {k : OK} {v : V} (h : DA f H d kvs) (hk : fm k = f) (hv : OkAt H k v) : DGet H d v (valV kvs k) := by
  rcases h with ⟨e, ks, h1, rfl⟩ | ⟨e, ks, h1, rfl⟩
  · cases k with
    | inr ks => rw [e] at hk; cases hk
    | inl k =>
      have hv : v = kV k := hv
      rw [hv, valV_injK]
      exact DGet.k h1
  · cases k with
    | inl k => rw [e] at hk; cases hk
    | inr k =>
      obtain ⟨p, rfl, hp⟩ := hv
      rw [valV_injT]
      exact DGet.t h1 hp
theorem DA.put {f : Bool} {H : Hp} {d : Addr} {kvs : List (OK × V)} {k : OK} {v w : V} (h : DA f H d kvs) (hk : fm k = f) (hv : OkAt H k v) (hl : kvs.length < sizeLine) : ∃ H', DPut H d v w H' ∧ Kp [d] H H' ∧ DA f H' d (putK kvs k w) ∧ ∃ o, H' = upd H d o := by
  rcases h with ⟨e, ks, h1, rfl⟩ | ⟨e, ks, h1, rfl⟩
  · cases k with
    | inr ks => rw [e] at hk; cases hk
    | inl k =>
      have hv : v = kV k := hv
      subst hv
      refine ⟨_, DPut.k h1 (by unfold injK at hl; rwa [List.length_map] at hl), Kp.put (by simp), .inl ⟨e, putK ks k w, upd_same, putK_injK ks k w⟩, _, rfl⟩
  · cases k with
    | inl k => rw [e] at hk; cases hk
    | inr k =>
      obtain ⟨p, rfl, hp⟩ := hv
      refine ⟨_, DPut.t h1 hp (by unfold injT at hl; rwa [List.length_map] at hl), Kp.put (by simp), .inr ⟨e, putK ks k w, upd_same, putK_injT ks k w⟩, _, rfl⟩
/-! {} -/
def tDNewA : TE := fun σ H Q => tDNewK σ H Q ∨ tDNewT σ H Q
theorem pe_dnewA {X : Cx} {pos : Pos} : PE X (.Dict [] [] pos) tDNewA := ⟨fun pins s σ H Q I h => h.elim (fun h => pe_dnewK.run pins s σ H Q I h) (fun h => pe_dnewT.run pins s σ H Q I h)⟩
theorem dnewA {Q : VK} {σ : L2.St} {H : Hp} (f : Bool) (h : ∀ p H1, H p = none → Kp [] H H1 → DA f H1 p [] → Q (.ref p) H1) : tDNewA σ H Q := by
  cases f with
  | false => exact .inl (Z.dnew fun p H1 np k1 e1 => h p H1 np k1 (.inl ⟨rfl, [], e1, rfl⟩))
  | true => exact .inr (GT.dnewT fun p H1 np k1 e1 => h p H1 np k1 (.inr ⟨rfl, [], e1, rfl⟩))
/-! list(d) -/
def rListDK : List V → Hp → VK → Prop := fun xs H Q => ∃ (a : Addr) (kvs : List (Key × V)), xs = [.ref a] ∧ Rd H a (.dK kvs) ∧ ∀ p, H p = none → Q (.ref p) (upd H p (.lst (kvs.map fun kv => kV kv.1)))
def rListA : List V → Hp → VK → Prop := fun xs H Q => rListDK xs H Q ∨ rListT xs H Q
theorem c_listA {X : Cx} (hc : X.calm = true) : CallR X (.type "list") rListA := fun pins s σ H xs us Q I r h => h.elim (fun h => call_listD hc pins s σ H xs us Q I r h) (fun h => c_listT hc pins s σ H xs us Q I r h)
/-- values that stand for these keys -/
inductive KeysAt (H : Hp) : List OK → List V → Prop
  | nil : KeysAt H [] []
  | cons {k : OK} {v : V} {ks : List OK} {vs : List V} : OkAt H k v → KeysAt H ks vs → KeysAt H (k :: ks) (v :: vs)
theorem KeysAt.kp0 {H H' : Hp} (e : Kp [] H H') : ∀ {ks : List OK} {vs : List V}, KeysAt H ks vs → KeysAt H' ks vs
  | _, _, .nil => .nil
  | _, _, .cons h t => .cons (h.kp0 e) (KeysAt.kp0 e t)
theorem KeysAt.dp {K : PySem.W.Frag} {H : Hp} : ∀ {ks : List OK} {vs : List V}, KeysAt H ks vs → DpAll K H vs (ks.map okD)
  | _, _, .nil => .nil
  | _, _, .cons h t => .cons h.dp t.dp
theorem KeysAt.len {H : Hp} : ∀ {ks : List OK} {vs : List V}, KeysAt H ks vs → ks.length = vs.length
  | _, _, .nil => rfl
  | _, _, .cons _ t => by rw [List.length_cons, List.length_cons, t.len]
theorem keysK {H : Hp} : ∀ kvs : List (Key × V), KeysAt H ((injK kvs).map (·.1)) (kvs.map fun kv => kV kv.1)
  | [] => .nil
  | kv :: r => .cons rfl (keysK r)
theorem keysT {H : Hp} : ∀ {kvs : List (List Key × V)} {bs : List Addr}, IsKeys H kvs bs → KeysAt H ((injT kvs).map (·.1)) (bs.map V.ref)
  | [], [], .nil => .nil
  | kv :: kvs, b :: bs, .cons h t => .cons ⟨b, rfl, h⟩ (keysT t)
theorem listA {Q : VK} {f : Bool} {H : Hp} {d : Addr} {kvs : List (OK × V)} (h : DA f H d kvs) (q : ∀ p H1 vs, H p = none → Kp [] H H1 → H1 p = some (.lst vs) → KeysAt H1 (kvs.map (·.1)) vs → Q (.ref p) H1) : rListA [.ref d] H Q := by
  rcases h with ⟨e, ks, h1, rfl⟩ | ⟨e, ks, h1, rfl⟩
  · exact .inl ⟨d, ks, rfl, .inl h1, fun p np => q p _ _ np (Kp.new np) upd_same ((keysK ks).kp0 (Kp.new np))⟩
  · exact .inr ⟨d, ks, rfl, .inl h1, fun p bs np hb => q p _ _ np (Kp.new np) upd_same ((keysT hb).kp0 (Kp.new np))⟩
end GU

/-! ### dicts whose keys are tuples of any nesting -/
namespace ND
open PySem L2 Z
abbrev NK := NestedKey
section
variable {X : Cx} {pins : List (Addr × Obj)} {σ : L2.St} {H : Hp} {s : Shared}
mutual
theorem is_of (I : Inv X pins σ H s) : ∀ (k : NK) (v : V) (u : Value), Dp X.K H v k.data → RelV v u → NestedIs s.heap k u
  | .none, _, _, h, r => by
    cases h
    cases r
    exact .none
  | .num i, _, _, h, r => by
    cases h
    obtain ⟨t, rfl⟩ := r
    exact .int i t
  | .text x, _, _, h, r => by
    cases h
    obtain ⟨t, rfl⟩ := r
    exact .text x t
  | .tup ks, v, u, h, r => by
    have h : Dp X.K H v (.tuple (NestedKey.datas ks)) := h
    cases h with
    | tup hs ha =>
      cases r
      obtain ⟨its, rv, ⟨o, ho, hc, n, hd⟩, _⟩ := I.tuple hs
      exact .tup ho hc hd (by simpa using all_of I ks _ its ha rv)
theorem all_of (I : Inv X pins σ H s) : ∀ (ks : List NK) (vs : List V) (us : List Value), DpAll X.K H vs (NestedKey.datas ks) → Vals vs us → NestedAll s.heap ks us
  | [], _, _, h, r => by
    cases h
    cases r
    exact .nil
  | k :: ks, vs, us, h, r => by
    have h : DpAll X.K H vs (k.data :: NestedKey.datas ks) := h
    cases h with
    | cons h1 h2 =>
      cases r with
      | cons r1 r2 => exact .cons (is_of I k _ _ h1 r1) (all_of I ks _ _ h2 r2)
end
end
/-! data with only tuples in it stays where lists and dicts are written -/
def NoTp (H : Hp) (x : Addr) : Prop := ∀ xs, ¬ Rd H x (.tup xs)
theorem tup_kp {M : List Addr} {K : PySem.W.Frag} {H H' : Hp} {a : Addr} {xs : List V} (h : SqT K H a xs) (k : Kp M H H') (n : ∀ x ∈ M, NoTp H x) : SqT K H' a xs := by
  rcases h with h | h
  · have hn : a ∉ M := fun z => n a z xs h
    exact k.tup hn (.inl h)
  · exact .inr h
mutual
theorem nk_kp {M : List Addr} {K : PySem.W.Frag} {H H' : Hp} (e : Kp M H H') (n : ∀ x ∈ M, NoTp H x) : ∀ (k : NK) {v : V}, Dp K H v k.data → Dp K H' v k.data
  | .none, _, h => by
    cases h
    exact .non
  | .num i, _, h => by
    cases h
    exact .int i
  | .text x, _, h => by
    cases h
    exact .str x
  | .tup ks, v, h => by
    have h : Dp K H v (.tuple (NestedKey.datas ks)) := h
    show Dp K H' v (.tuple (NestedKey.datas ks))
    cases h with
    | tup hs ha => exact .tup (tup_kp hs e n) (nk_kpAll e n ks ha)
theorem nk_kpAll {M : List Addr} {K : PySem.W.Frag} {H H' : Hp} (e : Kp M H H') (n : ∀ x ∈ M, NoTp H x) : ∀ (ks : List NK) {vs : List V}, DpAll K H vs (NestedKey.datas ks) → DpAll K H' vs (NestedKey.datas ks)
  | [], _, h => by
    cases h
    exact .nil
  | k :: ks, vs, h => by
    have h : DpAll K H vs (k.data :: NestedKey.datas ks) := h
    show DpAll K H' vs (k.data :: NestedKey.datas ks)
    cases h with
    | cons h1 h2 => exact .cons (nk_kp e n k h1) (nk_kpAll e n ks h2)
end
/-- the value v is the key k -/
def NkAt (K : PySem.W.Frag) (H : Hp) (k : NK) (v : V) : Prop := Dp K H v k.data ∧ k.depth ≤ 8 ∧ ∃ b, v = .ref b
theorem NkAt.kp {M : List Addr} {K : PySem.W.Frag} {H H' : Hp} {k : NK} {v : V} (h : NkAt K H k v) (e : Kp M H H') (n : ∀ x ∈ M, NoTp H x) : NkAt K H' k v := ⟨nk_kp e n k h.1, h.2⟩
theorem NkAt.kp0 {K : PySem.W.Frag} {H H' : Hp} {k : NK} {v : V} (h : NkAt K H k v) (e : Kp [] H H') : NkAt K H' k v := h.kp e fun _ h => by cases h
theorem NkAt.is {X : Cx} {pins : List (Addr × Obj)} {σ : L2.St} {H : Hp} {s : Shared} (I : Inv X pins σ H s) {k : NK} {b : Addr} (h : NkAt X.K H k (.ref b)) : (nestedKind X.prog X.w).is s.heap k b := ⟨is_of I k _ _ h.1 rfl, h.2.1⟩
/-! entries: key, where its tuple stands, value -/
abbrev NX := NK × Addr × V
def kvsX (xs : List NX) : List (NK × V) := xs.map fun x => (x.1, x.2.2)
def RelX (p : NX) (q : NK × Addr × Value) : Prop := p.1 = q.1 ∧ p.2.1 = q.2.1 ∧ RelV p.2.2 q.2.2
abbrev KX : List NX → List (NK × Addr × Value) → Prop := Paired RelX
def putX (xs : List NX) (k : NK) (b : Addr) (v : V) : List NX :=
  if (valV (kvsX xs) k).isSome = true then xs.map (fun x => if x.1 = k then (x.1, x.2.1, v) else x) else xs ++ [(k, b, v)]
theorem kvs_putX (xs : List NX) (k : NK) (b : Addr) (v : V) : kvsX (putX xs k b v) = putK (kvsX xs) k v := by
  unfold putX putK
  rw [valV_any]
  split
  · unfold kvsX
    rw [List.map_map, List.map_map]
    refine List.map_congr_left fun x _ => ?_
    simp only [Function.comp]
    split <;> rfl
  · unfold kvsX
    rw [List.map_append]; rfl
theorem KX.val {xs : List NX} {ys : List (NK × Addr × Value)} (r : KX xs ys) (k : NK) : RelO (valV (kvsX xs) k) ((atKey ys k).map (·.2)) := by
  induction r with
  | nil => exact True.intro
  | @cons p q ps qs h t ih =>
    obtain ⟨h1, _, h2⟩ := h
    show RelO (valV ((p.1, p.2.2) :: kvsX ps) k) _
    by_cases e : p.1 = k
    · have e' : q.1 = k := h1.symm.trans e
      have b : atKey (q :: qs) k = some q.2 := by simp [atKey, List.find?_cons, e']
      rw [valV_pos e, b]; exact h2
    · have e' : ¬ q.1 = k := fun z => e (h1.trans z)
      have b : atKey (q :: qs) k = atKey qs k := by simp [atKey, List.find?_cons, e']
      rw [valV_neg e, b]; exact ih
theorem KX.repl {xs : List NX} {ys : List (NK × Addr × Value)} (r : KX xs ys) (k : NK) {y : V} {u : Value} (ry : RelV y u) :
    KX (xs.map fun x => if x.1 = k then (x.1, x.2.1, y) else x) (ys.map (putAt k u)) := by
  induction r with
  | nil => exact .nil
  | @cons p q ps qs h t ih =>
    rw [List.map_cons, List.map_cons]
    refine .cons ?_ ih
    obtain ⟨h1, h2, h3⟩ := h
    unfold putAt
    by_cases e : p.1 = k
    · rw [if_pos e, if_pos (h1.symm.trans e)]; exact ⟨h1, h2, ry⟩
    · rw [if_neg e, if_neg (fun z => e (h1.trans z))]; exact ⟨h1, h2, h3⟩
theorem KX.put {xs : List NX} {ys : List (NK × Addr × Value)} (r : KX xs ys) (k : NK) {b : Addr} {y : V} {u : Value} (ry : RelV y u) :
    KX (putX xs k b y) (storedH ys k b u) := by
  unfold putX storedH
  rw [show (valV (kvsX xs) k).isSome = (atKey ys k).isSome by rw [(r.val k).isSome_eq, Option.isSome_map]]
  by_cases q : (atKey ys k).isSome = true
  · rw [if_pos q, if_pos q]; exact r.repl k ry
  · rw [if_neg q, if_neg q]; exact Paired.snoc r ⟨rfl, rfl, ry⟩
/-- what is true of the dict's one object -/
def ndP (w : World) (d : Addr) (xs : List NX) (h : Heap) : Prop := xs.length ≤ sizeLine ∧ (d == sysModules) = false ∧ ∃ ys, KX xs ys ∧
  ∃ o es ep, h.get? d = some o ∧ o.ExactDict ∧ o.data = .dict es ep ∧ es.toList = ys.map (fun y => (⟨y.1.hash w, .ref y.2.1, y.2.2⟩ : DictEntry)) ∧ (ys.map (·.1)).Nodup
abbrev ndO (w : World) (d : Addr) (xs : List NX) : HO := .ext (ndP w d xs)
theorem nd_ok {P : Program} {w w' : World} {H : Hp} {h : Heap} {d : Addr} {xs : List NX} (p : ndP w d xs h) : ObjOk P w' H h d (ndO w d xs) := by
  have p' := p
  obtain ⟨_, _, _, _, o, _, _, ho, _⟩ := p'
  refine ⟨p, ⟨o, ho⟩, fun h1 h2 q k => ?_⟩
  obtain ⟨z, y, ys, r, o, es, ep, ho, c⟩ := q
  exact ⟨z, y, ys, r, o, es, ep, k o ho, c⟩
/-- the dict at d -/
def DN (w : World) (K : PySem.W.Frag) (H : Hp) (d : Addr) (kvs : List (NK × V)) : Prop := ∃ xs, H d = some (ndO w d xs) ∧ kvs = kvsX xs ∧ ∀ x ∈ xs, NkAt K H x.1 (.ref x.2.1)
theorem DN.notp {w : World} {K : PySem.W.Frag} {H : Hp} {d : Addr} {kvs : List (NK × V)} (h : DN w K H d kvs) : NoTp H d := fun xs z => by
  obtain ⟨_, h1, _⟩ := h
  rcases z with z | ⟨_, z⟩ <;> rw [h1] at z <;> cases z
theorem DN.kp {w : World} {M : List Addr} {K : PySem.W.Frag} {H H' : Hp} {d : Addr} {kvs : List (NK × V)} (h : DN w K H d kvs) (k : Kp M H H') (hd : d ∉ M) (n : ∀ x ∈ M, NoTp H x) : DN w K H' d kvs := by
  obtain ⟨xs, h1, e, h2⟩ := h
  exact ⟨xs, k.get hd h1, e, fun x hx => (h2 x hx).kp k n⟩
theorem DN.kp0 {w : World} {K : PySem.W.Frag} {H H' : Hp} {d : Addr} {kvs : List (NK × V)} (h : DN w K H d kvs) (k : Kp [] H H') : DN w K H' d kvs := h.kp k (by simp) fun _ h => by cases h
theorem DN.ne {w : World} {K : PySem.W.Frag} {H : Hp} {d l : Addr} {kvs : List (NK × V)} (h : DN w K H d kvs) (n : H l = none) : d ≠ l := by
  obtain ⟨_, h1, _⟩ := h
  exact ne_of_none h1 n
section
variable {X : Cx} {pins : List (Addr × Obj)} {σ : L2.St} {H : Hp} {s : Shared}
theorem dn_of (I : Inv X pins σ H s) {d : Addr} {xs : List NX} (e : H d = some (ndO X.w d xs)) (hk : ∀ x ∈ xs, NkAt X.K H x.1 (.ref x.2.1)) :
    xs.length ≤ sizeLine ∧ (d == sysModules) = false ∧ ∃ ys, KX xs ys ∧ s.heap.DictOfH (nestedKind X.prog X.w) d ys := by
  obtain ⟨z, y, ys, r, o, es, ep, ho, hx, hd, he, hn⟩ := (show ObjOk X.prog X.w H s.heap d (ndO X.w d xs) from I.hok d _ e).1
  refine ⟨z, y, ys, r, o, es, ep, ho, hx, hd, he, ?_, hn⟩
  have all : ∀ {l : List NX} {m : List (NK × Addr × Value)}, KX l m → (∀ x ∈ l, NkAt X.K H x.1 (.ref x.2.1)) → ∀ x ∈ m, (nestedKind X.prog X.w).is s.heap x.1 x.2.1 := by
    intro l m q
    induction q with
    | nil => intro _ x hx; exact nomatch hx
    | @cons p q ps qs hq t ih =>
      intro hl x hx
      rcases List.mem_cons.mp hx with e | hx
      · subst e
        rw [← hq.1, ← hq.2.1]
        exact (hl p (by simp)).is I
      · exact ih (fun y hy => hl y (by simp [hy])) x hx
  exact all r hk
theorem room_in1 {P : Program} {w : World} {A : Around} (hu : A.units + 64 < cLine) : (nestedKind P w).room A.in1 := by
  show A.in1.units + 8 < cLine
  have : A.in1.units = A.units + 1 := rfl
  omega
/-- d[y], there -/
theorem n_getItem {A : Around} {E : Value → Shared → Prop} {Q : Value → Shared → Prop} {a : Addr} {kvs : List (NK × V)} {k : NK} {y v : V} {u : Value} (hu : A.units + 64 < cLine) (I : Inv X pins σ H s) (g : DN X.w X.K H a kvs) (hk : NkAt X.K H k y) (hv : valV kvs k = some v) (ry : RelV y u)
    (h : ∀ w' s', Inv X pins σ H s' → RelV v w' → Q w' s') : wpAny (model X.prog X.w) A (getItem (.ref a) u) Q E s := by
  obtain ⟨xs, e, rfl, hx⟩ := g
  obtain ⟨_, _, b, rfl⟩ := id hk
  cases (show u = Value.ref b from ry)
  obtain ⟨z, hd, ys, rel, dd⟩ := dn_of I e hx
  obtain ⟨w', hw, rw'⟩ := RelO.some_of (v := v) (o := (atKey ys k).map (·.2)) (by rw [← hv]; exact rel.val k)
  obtain ⟨p, hp, hp2⟩ := Option.map_eq_some_iff.mp hw
  refine wpAny_getItem_heap (room_in1 hu) (hk.is I) dd hp ?_
  rw [hp2]
  exact h w' _ (I.tok _) rw'
theorem n_in {A : Around} {E : Value → Shared → Prop} {Q : Value → Shared → Prop} {a : Addr} {kvs : List (NK × V)} {k : NK} {y : V} {u : Value} (hu : A.units + 64 < cLine) (I : Inv X pins σ H s) (g : DN X.w X.K H a kvs) (hk : NkAt X.K H k y) (ry : RelV y u)
    (h : ∀ s', Inv X pins σ H s' → Q (.bool (valV kvs k).isSome) s') : wpAny (model X.prog X.w) A (compareOp .In u (.ref a)) Q E s := by
  obtain ⟨xs, e, rfl, hx⟩ := g
  obtain ⟨_, _, b, rfl⟩ := id hk
  cases (show u = Value.ref b from ry)
  obtain ⟨z, hd, ys, rel, dd⟩ := dn_of I e hx
  refine wpAny_in_heap (room_in1 hu) (hk.is I) hd dd ?_
  have q := (rel.val k).isSome_eq
  rw [Option.isSome_map] at q
  rw [← q]
  exact h _ (I.tok _)
theorem n_notIn {A : Around} {E : Value → Shared → Prop} {Q : Value → Shared → Prop} {a : Addr} {kvs : List (NK × V)} {k : NK} {y : V} {u : Value} (hu : A.units + 64 < cLine) (I : Inv X pins σ H s) (g : DN X.w X.K H a kvs) (hk : NkAt X.K H k y) (ry : RelV y u)
    (h : ∀ s', Inv X pins σ H s' → Q (.bool (!(valV kvs k).isSome)) s') : wpAny (model X.prog X.w) A (compareOp .NotIn u (.ref a)) Q E s := by
  obtain ⟨xs, e, rfl, hx⟩ := g
  obtain ⟨_, _, b, rfl⟩ := id hk
  cases (show u = Value.ref b from ry)
  obtain ⟨z, hd, ys, rel, dd⟩ := dn_of I e hx
  show wpAny _ _ (do return .bool (!(← contains (.ref a) (.ref b)))) Q E s
  refine wpAny_bind (wpAny_contains_heap (room_in1 hu) (hk.is I) hd dd (wpAny_pure ?_))
  have q := (rel.val k).isSome_eq
  rw [Option.isSome_map] at q
  rw [← q]
  exact h _ (I.tok _)
theorem n_get2 {A : Around} {E : Value → Shared → Prop} {Q : Value → Shared → Prop} {a : Addr} {kvs : List (NK × V)} {k : NK} {y z : V} {u r : Value} (hu : A.units + 64 < cLine) (I : Inv X pins σ H s) (g : DN X.w X.K H a kvs) (hk : NkAt X.K H k y) (ry : RelV y u) (rd : RelV z r)
    (h : ∀ w' s', Inv X pins σ H s' → RelV ((valV kvs k).getD z) w' → Q w' s') : wpAny (model X.prog X.w) A (call (.builtin "dict.get") [.ref a, u, r]) Q E s := by
  obtain ⟨xs, e, rfl, hx⟩ := g
  obtain ⟨_, _, b, rfl⟩ := id hk
  cases (show u = Value.ref b from ry)
  obtain ⟨_, hd, ys, rel, dd⟩ := dn_of I e hx
  exact call_meetsIn PySem.F.slot_dict_get dd.typeIs PySem.F.entry_dict_get (PySem.F.args_dict_get_3 _ _ _) (meetsH_dict_get_default (nestedKind X.prog X.w) a b hd r) ⟨room_in1 hu, k, ys, hk.is I, dd, h _ _ (I.tok _) ((rel.val k).getD rd)⟩
theorem n_get1 {A : Around} {E : Value → Shared → Prop} {Q : Value → Shared → Prop} {a : Addr} {kvs : List (NK × V)} {k : NK} {y : V} {u : Value} (hu : A.units + 64 < cLine) (I : Inv X pins σ H s) (g : DN X.w X.K H a kvs) (hk : NkAt X.K H k y) (ry : RelV y u)
    (h : ∀ w' s', Inv X pins σ H s' → RelV ((valV kvs k).getD .non) w' → Q w' s') : wpAny (model X.prog X.w) A (call (.builtin "dict.get") [.ref a, u]) Q E s := by
  obtain ⟨xs, e, rfl, hx⟩ := g
  obtain ⟨_, _, b, rfl⟩ := id hk
  cases (show u = Value.ref b from ry)
  obtain ⟨_, hd, ys, rel, dd⟩ := dn_of I e hx
  exact call_meetsIn PySem.F.slot_dict_get dd.typeIs PySem.F.entry_dict_get (PySem.F.args_dict_get_2 _ _) (meetsH_dict_get (nestedKind X.prog X.w) a b hd) ⟨room_in1 hu, k, ys, hk.is I, dd, h _ _ (I.tok _) ((rel.val k).getD rfl)⟩
/-- the heap behind d[y] = v -/
def DPutN (w : World) (K : PySem.W.Frag) (H : Hp) (a : Addr) (y v : V) (Q : Hp → Prop) : Prop := ∃ kvs k, DN w K H a kvs ∧ NkAt K H k y ∧ kvs.length < sizeLine ∧
  ∀ H', Kp [a] H H' → DN w K H' a (putK kvs k v) → (∃ o, H' = upd H a o) ∧ (∀ c φ, H c = some (.ext φ) → (∀ h o, φ h → h.get? c = some o → ∀ es ep, o.data ≠ .dict es ep) → c ≠ a) → Q H'
theorem n_setItem {A : Around} {E : Value → Shared → Prop} {Q : Unit → Shared → Prop} {a : Addr} {y v : V} {u r : Value} {QH : Hp → Prop} (hu : A.units + 64 < cLine) (I : Inv X pins σ H s) (g : DPutN X.w X.K H a y v QH) (ry : RelV y u) (rv : RelV v r)
    (h : ∀ H' s', Inv X pins σ H' s' → QH H' → Q () s') : wpAny (model X.prog X.w) A (setItem (.ref a) u r) Q E s := by
  obtain ⟨kvs, k, ⟨xs, e, rfl, hx⟩, hk, hl, q⟩ := g
  have hk' := hk
  obtain ⟨_, _, b, rfl⟩ := hk'
  cases (show u = Value.ref b from ry)
  obtain ⟨z, hd, ys, rel, dd⟩ := dn_of I e hx
  have hz : ys.length ≤ sizeLine := by rw [← Paired.length rel]; exact z
  have hlx : xs.length < sizeLine := by unfold kvsX at hl; rwa [List.length_map] at hl
  have hno : ∀ c φ, H c = some (.ext φ) → (∀ h o, φ h → h.get? c = some o → ∀ es ep, o.data ≠ .dict es ep) → c ≠ a := fun c φ hc hφ eca => by
    obtain ⟨o1, es1, ep1, hq1, _, hq3, _⟩ := id dd
    have h1 : ObjOk X.prog X.w H s.heap c (.ext φ) := I.hok c _ hc
    rw [eca] at h1
    exact hφ s.heap o1 h1.1 (by rw [eca]; exact hq1) es1 ep1 hq3
  have hl2 : (putX xs k b v).length ≤ sizeLine := by
    unfold putX
    split
    · rw [List.length_map]; omega
    · rw [List.length_append, List.length_singleton]; omega
  refine wpAny_setItem_heap (hsz := hz) (room_in1 hu) (hk.is I) dd fun h' dd' hs => ?_
  obtain ⟨ob, es, ep, hq, h2, h3, h4, _, h5⟩ := dd'
  have hn : ∀ x ∈ [a], NoTp H x := fun x hx' => by
    rw [List.mem_singleton.mp hx']
    exact DN.notp ⟨xs, e, rfl, hx⟩
  have kp : Kp [a] H (upd H a (ndO X.w a (putX xs k b v))) := Kp.put (by simp)
  refine h (upd H a (ndO X.w a (putX xs k b v))) _ (d_write (t' := _) I (by rw [e]; exact True.intro) hs ⟨ob, hq⟩ (nd_ok ⟨hl2, hd, _, rel.put k rv, ob, es, ep, hq, h2, h3, h4, h5⟩)) (q _ kp ⟨putX xs k b v, upd_same, (kvs_putX xs k b v).symm, fun x hxm => ?_⟩ ⟨⟨_, rfl⟩, hno⟩)
  unfold putX at hxm
  split at hxm
  · obtain ⟨y, hy, ey⟩ := List.mem_map.mp hxm
    have := (hx y hy).kp kp hn
    split at ey
    · subst ey; exact this
    · subst ey; exact this
  · rcases List.mem_append.mp hxm with hy | hy
    · exact (hx x hy).kp kp hn
    · rw [List.mem_singleton.mp hy]
      exact hk.kp kp hn
end
theorem nd_empty {w : World} (h : Heap) (hb : sysModules < h.objs.size) : ndP w h.objs.size [] (h.push { cls := .type "dict", data := .dict #[] }) :=
  ⟨Nat.zero_le _, beq_eq_false_iff_ne.mpr (Ne.symm (Nat.ne_of_lt hb)), [], .nil, _, #[], 0, Heap.get?_push_size _ rfl, ⟨rfl, rfl, rfl⟩, rfl, rfl, List.nodup_nil⟩
/-! ### readings and rules -/
/-- {} -/
def tDNewN (w : World) (K : PySem.W.Frag) : TE := fun _ H Q => ∀ p H1, H p = none → Kp [] H H1 → DN w K H1 p [] → (∃ o, H1 = upd H p o) → Q (.ref p) H1
/-- d[y] -/
def tDGetN (w : World) (K : PySem.W.Frag) (td ty : TE) : TE := fun σ H Q => td σ H fun x H1 => ty σ H1 fun y H2 => ∃ a kvs k v, x = .ref a ∧ DN w K H2 a kvs ∧ NkAt K H2 k y ∧ valV kvs k = some v ∧ Q v H2
def tDInN (w : World) (K : PySem.W.Frag) (ty td : TE) : TE := fun σ H Q => ty σ H fun y H1 => td σ H1 fun x H2 => ∃ a kvs k, x = .ref a ∧ DN w K H2 a kvs ∧ NkAt K H2 k y ∧ Q (.bl (valV kvs k).isSome) H2
def tDNotInN (w : World) (K : PySem.W.Frag) (ty td : TE) : TE := fun σ H Q => ty σ H fun y H1 => td σ H1 fun x H2 => ∃ a kvs k, x = .ref a ∧ DN w K H2 a kvs ∧ NkAt K H2 k y ∧ Q (.bl (!(valV kvs k).isSome)) H2
def tDGet2N (w : World) (K : PySem.W.Frag) (td ty tx : TE) : TE := fun σ H Q => td σ H fun x H1 => ∃ a, x = .ref a ∧ (∃ kvs, DN w K H1 a kvs) ∧ ty σ H1 fun y H2 => tx σ H2 fun z H3 => ∃ kvs k, DN w K H3 a kvs ∧ NkAt K H3 k y ∧ Q ((valV kvs k).getD z) H3
def tDGet1N (w : World) (K : PySem.W.Frag) (td ty : TE) : TE := fun σ H Q => td σ H fun x H1 => ∃ a, x = .ref a ∧ (∃ kvs, DN w K H1 a kvs) ∧ ty σ H1 fun y H2 => ∃ kvs k, DN w K H2 a kvs ∧ NkAt K H2 k y ∧ Q ((valV kvs k).getD .non) H2
def sDPutN (w : World) (K : PySem.W.Frag) (td ty tv : TE) : TS := fun D σ H => tv σ H fun v H1 => td σ H1 fun x H2 => ty σ H2 fun y H3 => ∃ a, x = .ref a ∧ DPutN w K H3 a y v fun H4 => D.nx σ H4
section
variable {X : Cx} {o i e f value : Expr} {pos pos' tpos apos cpos : Pos} {td ty tv tx : TE}
theorem pe_dnewN : PE X (.Dict [] [] pos) (tDNewN X.w X.K) := ⟨fun pins s σ H Q I h => by
  have np : H s.heap.objs.size = none := I.hok.fresh (Nat.le_refl _)
  exact wpAny_Dict_empty ⟨.ref s.heap.objs.size, _, I.laid (a := s.heap.objs.size) (o := ndO X.w s.heap.objs.size []) (t' := s.toks) (fun _ _ q => Heap.get?_push_of_some _ q) (Nat.le_refl _) (nd_ok (nd_empty s.heap I.big)), rfl,
    h _ _ np (Kp.new np) ⟨[], upd_same, rfl, fun _ h => by cases h⟩ ⟨_, rfl⟩⟩⟩
theorem n_typeIs {pins : List (Addr × Obj)} {σ : L2.St} {H : Hp} {s : Shared} {a : Addr} {kvs : List (NK × V)} (I : Inv X pins σ H s) (g : DN X.w X.K H a kvs) :
    s.TypeIs (.ref a) "dict" ∧ (∀ b, Value.ref a = .ref b → ∃ ob, s.heap.get? b = some ob ∧ ob.dict = none) := by
  obtain ⟨xs, e, rfl, hx⟩ := g
  obtain ⟨_, _, ys, _, dd⟩ := dn_of I e hx
  refine ⟨dd.typeIs, fun b q => ?_⟩
  cases q
  obtain ⟨ob, _, _, h1, h2, _⟩ := dd
  exact ⟨ob, h1, h2.2.1⟩
theorem pe_dgetN (hu : X.A.units + 64 < cLine) (ho : PE X o td) (hi : PE X i ty) (hs : NoSl i) : PE X (.Subscript o i pos) (tDGetN X.w X.K td ty) := by
  refine ⟨fun pins s σ H Q I h => ?_⟩
  refine subD_of PySem.F.slot_dict_getitem.lookup hs (thn (ho.run pins s σ H _ I h) fun u s1 ⟨x, H1, I1, rx, q1⟩ => thn (hi.run pins s1 σ H1 _ I1 q1) fun iv s2 ⟨y, H2, I2, ry, a, kvs, k, v, ex, g, hk, hv, q2⟩ => ?_)
  subst ex
  obtain rfl : u = Value.ref a := rx
  exact ⟨(n_typeIs I2 g).1, n_getItem hu I2 g hk hv ry fun w' s3 I3 rw' => ⟨v, H2, I3, rw', q2⟩⟩
theorem pc_dinN (hu : X.A.units + 64 < cLine) (hi : PE X i ty) (ho : PE X o td) : PC X .In i o (tDInN X.w X.K ty td) := by
  refine ⟨fun pins s σ H Q I h => ?_⟩
  refine thn (hi.run pins s σ H _ I h) fun iv s1 ⟨y, H1, I1, ry, q1⟩ => thn (ho.run pins s1 σ H1 _ I1 q1) fun u s2 ⟨x, H2, I2, rx, a, kvs, k, ex, g, hk, q2⟩ => ?_
  subst ex
  obtain rfl : u = Value.ref a := rx
  exact n_in hu I2 g hk ry fun s3 I3 => ⟨.bl (valV kvs k).isSome, H2, I3, rfl, q2⟩
theorem pc_dnotinN (hu : X.A.units + 64 < cLine) (hi : PE X i ty) (ho : PE X o td) : PC X .NotIn i o (tDNotInN X.w X.K ty td) := by
  refine ⟨fun pins s σ H Q I h => ?_⟩
  refine thn (hi.run pins s σ H _ I h) fun iv s1 ⟨y, H1, I1, ry, q1⟩ => thn (ho.run pins s1 σ H1 _ I1 q1) fun u s2 ⟨x, H2, I2, rx, a, kvs, k, ex, g, hk, q2⟩ => ?_
  subst ex
  obtain rfl : u = Value.ref a := rx
  exact n_notIn hu I2 g hk ry fun s3 I3 => ⟨.bl (!(valV kvs k).isSome), H2, I3, rfl, q2⟩
theorem ps_dputN (hu : X.A.units + 64 < cLine) (ho : PE X o td) (hi : PE X i ty) (hv : PE X value tv) (hs : swapsWith value (some (.Subscript o i pos')) pos.line X.env = pure false) :
    PS X (.Assign [.Subscript o i pos'] value pos) (sDPutN X.w X.K td ty tv) := by
  refine ⟨fun pins s σ H D I h => ?_⟩
  refine wpAny_Assign_Subscript (thn (hv.run pins s σ H _ I h) fun r s1 ⟨v, H1, I1, rv, q1⟩ => thn (ho.run pins s1 σ H1 _ I1 q1) fun u s2 ⟨x, H2, I2, rx, q2⟩ => thn (hi.run pins s2 σ H2 _ I2 q2) fun iv s3 ⟨y, H3, I3, ry, a, ex, g⟩ => ?_) hs
  subst ex
  obtain rfl : u = Value.ref a := rx
  exact n_setItem hu I3 g ry rv fun H4 s4 I4 q4 => ⟨σ, H4, I4, q4⟩
theorem pe_dget2N (hu : X.A.units + 64 < cLine) (ho : PE X o td) (he : PE X e ty) (hf : PE X f tx) (m : M2 X o "get" apos e f cpos) : PE X (.Call (.Attribute o "get" apos) [e, f] [] cpos) (tDGet2N X.w X.K td ty tx) := by
  refine ⟨fun pins s σ H Q I h => ?_⟩
  refine wpAny_Call_method m.base m.few m.line PySem.F.plainAttrs_dict PySem.F.slot_dict_get PySem.F.type_dict_get (thn (ho.run pins s σ H _ I h) fun u s1 ⟨x, H1, I1, rx, a, ex, ⟨kvs0, d⟩, q1⟩ => ?_)
  subst ex
  obtain rfl : u = Value.ref a := rx
  obtain ⟨t1, t2⟩ := n_typeIs I1 d
  refine ⟨t1, t2, ?_⟩
  rw [m.trees]
  refine Calls.callWith_builtin rfl (Calls.evalArgs_plain (Calls.spliced_cons (thn (he.run pins s1 σ H1 _ I1 q1) fun iv s2 ⟨y, H2, I2, ry, q2⟩ =>
    Calls.spliced_cons (thn (hf.run pins s2 σ H2 _ I2 q2) fun fv s3 ⟨z, H3, I3, rz, kvs, k, g, hk, q3⟩ => Calls.spliced_nil ?_))))
  exact n_get2 hu I3 g hk ry rz fun w' s4 I4 rw' => ⟨_, H3, I4, rw', q3⟩
theorem pe_dget1N (hu : X.A.units + 64 < cLine) (ho : PE X o td) (he : PE X e ty) (m : M1 X o "get" apos e cpos) : PE X (.Call (.Attribute o "get" apos) [e] [] cpos) (tDGet1N X.w X.K td ty) := by
  refine ⟨fun pins s σ H Q I h => ?_⟩
  refine wpAny_Call_method m.base m.few m.line PySem.F.plainAttrs_dict PySem.F.slot_dict_get PySem.F.type_dict_get (thn (ho.run pins s σ H _ I h) fun u s1 ⟨x, H1, I1, rx, a, ex, ⟨kvs0, d⟩, q1⟩ => ?_)
  subst ex
  obtain rfl : u = Value.ref a := rx
  obtain ⟨t1, t2⟩ := n_typeIs I1 d
  refine ⟨t1, t2, ?_⟩
  rw [m.trees]
  refine Calls.callWith_builtin rfl (Calls.evalArgs_plain (Calls.spliced_cons (thn (he.run pins s1 σ H1 _ I1 q1) fun iv s2 ⟨y, H2, I2, ry, kvs, k, g, hk, q2⟩ => Calls.spliced_nil ?_)))
  exact n_get1 hu I2 g hk ry fun w' s4 I4 rw' => ⟨_, H2, I4, rw', q2⟩
end
/-! list(d) -/
def rListN (w : World) (K : PySem.W.Frag) : List V → Hp → VK → Prop := fun xs H Q => ∃ d kvs, xs = [V.ref d] ∧ DN w K H d kvs ∧
  ∀ p H1 vs, H p = none → Kp [] H H1 → H1 p = some (.lst vs) → DpAll K H1 vs ((kvs.map (·.1)).map NestedKey.data) → (∃ o, H1 = upd H p o) → Q (.ref p) H1
theorem keys_dp {K : PySem.W.Frag} {H : Hp} : ∀ {xs : List NX}, (∀ x ∈ xs, NkAt K H x.1 (.ref x.2.1)) → DpAll K H (xs.map fun x => V.ref x.2.1) (((kvsX xs).map (·.1)).map NestedKey.data)
  | [], _ => .nil
  | x :: xs, h => .cons (h x (by simp)).1 (keys_dp fun y hy => h y (by simp [hy]))
theorem c_listN {X : Cx} (hc : X.calm = true) : CallR X (.type "list") (rListN X.w X.K) := by
  intro pins s σ H xs us Q I r h
  obtain ⟨d, kvs, rfl, ⟨zs, hd, rfl, hx⟩, q⟩ := h
  obtain ⟨u, rfl, rx⟩ := r.one
  cases rx
  obtain ⟨z, hs, ks, pr, o, es, ep, ho, hxx, hdt, he, hn⟩ := (show ObjOk X.prog X.w H s.heap d (ndO X.w d zs) from I.hok d _ hd).1
  have he' : es.toList = ks.map (entryOfKey (nestedKind X.prog X.w)) := he
  have l1 : es.size = ks.length := size_of_entries he'
  have l2 : zs.length = ks.length := Paired.length pr
  refine PySem.W.kdl_call (kdl_raw hs hxx hdt) (I.ok.hd hc) ho (by omega) fun h' tk acc' c' kp e it => ?_
  have ea : acc'.toList = ks.map fun x => Value.ref x.2.1 := by
    have hl : acc'.toList.length = ks.length := by rw [Array.length_toList, it.1]; exact l1
    apply List.ext_getElem?
    intro j
    rw [List.getElem?_map]
    cases hj : acc'.toList[j]? with
    | none =>
      have h1 := List.getElem?_eq_none_iff.mp hj
      rw [List.getElem?_eq_none (by omega)]
      all_goals rfl
    | some v =>
      obtain ⟨en, hen, hv⟩ := it.2 j v (by rw [← Array.getElem?_toList]; exact hj)
      have qe := entry_at he' j
      rw [hen] at qe
      cases hb : ks[j]? with
      | none =>
        rw [hb] at qe
        exact nomatch (show some en = none from qe)
      | some b =>
        rw [hb] at qe
        have e2 : en = entryOfKey (nestedKind X.prog X.w) b := Option.some.inj qe
        rw [hv, e2]
        all_goals rfl
  have eb : acc'.toList = (zs.map fun x => x.2.1).map Value.ref := by
    rw [ea, List.map_map]
    clear ea e it l1 l2 he he' hn q hx hd hs z
    induction pr with
    | nil => rfl
    | cons h t ih => rw [List.map_cons, List.map_cons, ih, ← h.2.1]; rfl
  have rv : Vals (zs.map fun x => V.ref x.2.1) acc'.toList := by
    rw [eb]
    have := vals_refs (zs.map fun x => x.2.1)
    rwa [List.map_map] at this
  have hz : (zs.map fun x => V.ref x.2.1).length ≤ sizeLine := by rw [List.length_map]; omega
  have np : H s.heap.objs.size = none := I.hok.fresh (Nat.le_refl _)
  refine ⟨.ref s.heap.objs.size, _, I.laid (t' := tk) (o := .lst (zs.map fun x => V.ref x.2.1)) kp (Nat.le_refl _) ?_, rfl, q _ _ _ np (Kp.new np) upd_same (keys_dp fun x hxm => (hx x hxm).kp0 (Kp.new np)) ⟨_, rfl⟩⟩
  exact ⟨hz, acc'.toList, c', rv, by rw [Array.toArray_toList]; exact e⟩
end ND

/-! ### dict comprehensions whose keys are nested tuples -/
namespace ND
open PySem PySem.Spec PyProof.Rows L2 Z
theorem room_in0 {P : Program} {w : World} {A : Around} (hu : A.units + 64 < cLine) : (nestedKind P w).room A := by
  show A.units + 8 < cLine
  omega
/-- the comprehension's own way of putting -/
theorem n_dictSet {X : Cx} {pins : List (Addr × Obj)} {σ : L2.St} {H : Hp} {s : Shared} {A : Around} {E : Value → Shared → Prop} {Q : Unit → Shared → Prop} {a : Addr} {y v : V} {u r : Value} {QH : Hp → Prop} (hu : A.units + 64 < cLine) (I : Inv X pins σ H s) (g : DPutN X.w X.K H a y v QH) (ry : RelV y u) (rv : RelV v r)
    (h : ∀ H' s', Inv X pins σ H' s' → QH H' → Q () s') : wpAny (model X.prog X.w) A (dictSet a u r) Q E s := by
  obtain ⟨kvs, k, ⟨xs, e, rfl, hx⟩, hk, hl, q⟩ := g
  obtain ⟨b, rfl⟩ := hk.2.2
  cases (show u = Value.ref b from ry)
  obtain ⟨z, hd, ys, rel, dd⟩ := dn_of I e hx
  have hys : ys.length ≤ sizeLine := (Paired.length rel) ▸ z
  have hxl : xs.length < sizeLine := by
    have := hl
    unfold kvsX at this
    rwa [List.length_map] at this
  have hext : ∀ c φ, H c = some (.ext φ) → (∀ h o, φ h → h.get? c = some o → ∀ es ep, o.data ≠ .dict es ep) → c ≠ a := fun c φ hc hφ eca => by
    obtain ⟨ob1, es1, ep1, g1, _, g3, _⟩ := id dd
    have oc : ObjOk X.prog X.w H s.heap c (.ext φ) := I.hok c _ hc
    rw [eca] at oc
    exact hφ s.heap ob1 oc.1 (by rw [eca]; exact g1) es1 ep1 g3
  have hput : (putX xs k b v).length ≤ sizeLine := by
    unfold putX
    split
    · rw [List.length_map]; exact Nat.le_of_lt hxl
    · rw [List.length_append]; exact hxl
  refine wpAny_dictSet_heap (hsz := hys) (room_in0 hu) (hk.is I) dd fun h' dd' hs => ?_
  obtain ⟨ob, es, ep, g1, g2, g3, g4, _, g5⟩ := dd'
  have ntp : ∀ x ∈ [a], NoTp H x := fun x hxm => by
    rw [List.mem_singleton.mp hxm]
    exact DN.notp ⟨xs, e, rfl, hx⟩
  have kp : Kp [a] H (upd H a (ndO X.w a (putX xs k b v))) := Kp.put (by simp)
  refine h (upd H a (ndO X.w a (putX xs k b v))) _ (d_write (t' := _) I (by rw [e]; exact True.intro) hs ⟨ob, g1⟩ (nd_ok ⟨hput, hd, _, rel.put k rv, ob, es, ep, g1, g2, g3, g4, g5⟩)) (q _ kp ⟨putX xs k b v, upd_same, (kvs_putX xs k b v).symm, fun x hxm => ?_⟩ ⟨⟨_, rfl⟩, hext⟩)
  unfold putX at hxm
  split at hxm
  · obtain ⟨y0, hy0, ey⟩ := List.mem_map.mp hxm
    have hkp := (hx y0 hy0).kp kp ntp
    split at ey <;> (subst ey; exact hkp)
  · rcases List.mem_append.mp hxm with hy0 | hy0
    · exact (hx x hy0).kp kp ntp
    · rw [List.mem_singleton.mp hy0]
      exact hk.kp kp ntp
/-- {k: v for target in iter if ..} with nested keys -/
def tDcN (w : World) (K : PySem.W.Frag) (wi : TI) (g : TG) (tt : TT) (tk tv : TE) (vs : List Nat) : TE := fun σ H Q => wi σ H fun J H1 => ∀ D HD, H1 D = none → Kp [] H1 HD → DN w K HD D [] → (∃ o, HD = upd H1 D o) → ∃ W : Nat → Nat → Hp → Prop, (∃ m, W 0 m HD) ∧ ∀ i m Ha, W i m Ha →
  (J.stop i Ha ∧ Q (.ref D) Ha) ∨ (J.go i Ha ∧ ∃ Nx : Hp → Prop, (∀ Hb, Nx Hb → ∃ m', m' < m ∧ W (i + 1) m' Hb) ∧ ∀ x Hb, J.yld i Ha x Hb → g x (wipe σ vs) Hb fun σ2 H2 => wipe σ2 vs = wipe σ vs ∧ tt σ2 H2 fun b H3 =>
    if b = true then tk σ2 H3 fun y H4 => tv σ2 H4 fun z H5 => DPutN w K H5 D y z Nx else Nx H3)
section
variable {X : Cx}
theorem pe_dcN {kx vx tg iter : Expr} {ifs : List Expr} {scope : Scope} {own : List (Str × Nat)} {pos : Pos} {wi : TI} {g : TG} {tt : TT} {tk tv : TE} (hu : X.A.units + 64 < cLine) (hc : X.calm = true) (hN : X.N.Nodup) (hi : L2.PI X tg iter wi) (ok : BlkOk X.N X.env.scope scope own)
    (hg : ∀ (s : Shared) (H : Hp) (C : Addr) (cl : List (Str × Addr)) (fp : List Addr), PG (X.blk s H scope (compEnvC scope cl C X.env) fp) tg g)
    (ht : ∀ (s : Shared) (H : Hp) (C : Addr) (cl : List (Str × Addr)) (fp : List Addr), PTs (X.blk s H scope (compEnvC scope cl C X.env) fp) ifs tt) (hk : ∀ (s : Shared) (H : Hp) (C : Addr) (cl : List (Str × Addr)) (fp : List Addr), PE (X.blk s H scope (compEnvC scope cl C X.env) fp) kx tk) (he : ∀ (s : Shared) (H : Hp) (C : Addr) (cl : List (Str × Addr)) (fp : List Addr), PE (X.blk s H scope (compEnvC scope cl C X.env) fp) vx tv) (hs : ∀ x, foldedSetIterable iter X.env x = pure x := by intro _; rfl) :
    PE X (.DictComp kx vx [⟨tg, iter, ifs, 0⟩] scope pos) (tDcN X.w X.K wi g tt tk tv (own.map (·.2))) := by
  refine ⟨fun pins s σ H Q I h => ?_⟩; rw [arm_eval_DictComp]
  have hfree : ∀ y ∈ scope.names, y.2 = .free → ∃ c, X.env.cells.lookup y.1 = some c := fun y hy e => (ok.free y hy e).elim (fun q => I.ok.has _ (.inl q)) (fun q => I.ok.has _ (.inr q))
  refine wpAny_comprehension_free rfl hs (closure_ok hfree) ok.kind (fun y hy e => by rw [ok.uniq y hy, e]) (thn (hi.run pins s σ H _ I h) fun xv sa hx => thn hx fun itv sb hb => ?_)
  obtain ⟨it, fp, tn, J, HB, rfl, IB, TB, stB, fB, q⟩ := hb
  refine wpAny_newObj_type (newEnv_comp ?_); generalize eD : sb.heap.objs.size = D
  have nD : HB D = none := IB.hok.fresh (Nat.le_of_eq eD)
  generalize eHC : upd HB D (ndO X.w D []) = HC
  obtain ⟨W, ⟨m0, w0⟩, turn⟩ := q D HC nD (by rw [← eHC]; exact Kp.new nD) ⟨[], by rw [← eHC]; exact upd_same, rfl, fun _ hh => by cases hh⟩ ⟨_, eHC.symm⟩
  generalize esc : ({ sb with heap := sb.heap.push { cls := .type "dict", data := .dict #[] } } : Shared) = sc
  have hsc : sc.heap = sb.heap.push { cls := .type "dict", data := .dict #[] } := by rw [← esc]
  have IC : Inv X pins σ HC sc := by
    rw [← esc, ← eHC, ← eD]
    exact IB.laid (t' := sb.toks) (fun b o e => Heap.get?_push_of_some _ e) (Nat.le_refl _) (nd_ok (nd_empty sb.heap IB.big))
  have old : ∀ b ∈ fp, b < sb.heap.objs.size := fun b hb => let ⟨_, e, _⟩ := TB.obj _ _ stB b hb; Heap.lt_size e
  have fC : ∀ b ∈ fp, FpOk X pins HC b ∧ b < sc.heap.objs.size := fun b hb => by
    have hlt := old b hb
    refine ⟨⟨?_, (fB b hb).2⟩, by rw [hsc, Heap.size_push]; exact Nat.lt_succ_of_lt hlt⟩
    rw [← eHC, upd_ne (by rw [← eD]; exact Nat.ne_of_lt hlt)]
    exact (fB b hb).1
  have stC : tn 0 sc.heap := TB.keep _ _ _ stB fun b _ o e => by rw [hsc]; exact Heap.get?_push_of_some _ e
  have ID := block_start IC ok hN fC
  have pg := hg sc HC sc.heap.objs.size (cellsFrom (sc.heap.objs.size + 1) scope.names (cloFrom X.env.cells scope.names [])) fp
  have pt := ht sc HC sc.heap.objs.size (cellsFrom (sc.heap.objs.size + 1) scope.names (cloFrom X.env.cells scope.names [])) fp
  have pk := hk sc HC sc.heap.objs.size (cellsFrom (sc.heap.objs.size + 1) scope.names (cloFrom X.env.cells scope.names [])) fp
  have pv := he sc HC sc.heap.objs.size (cellsFrom (sc.heap.objs.size + 1) scope.names (cloFrom X.env.cells scope.names [])) fp
  show codeAny _ _ (.compStart (.DictComp kx vx [⟨tg, iter, ifs, 0⟩] scope pos) 0 (.ref it) (.ref D) (compEnvC scope (cellsFrom (sc.heap.objs.size + 1) scope.names (cloFrom X.env.cells scope.names [])) sc.heap.objs.size X.env)) (compPost (model X.prog X.w) X.A X.xe _ _ (.ref D) sc.heap.objs.size) { sc with heap := pushCells (sc.heap.push { cls := .type "dict", data := .dict #[] }) scope.names }
  have nfp : ∀ b ∈ fp, HC b = none := fun b hb => (fC b hb).1.1
  generalize ece : compEnvC scope (cellsFrom (sc.heap.objs.size + 1) scope.names (cloFrom X.env.cells scope.names [])) sc.heap.objs.size X.env = ce at ID pg pt pk pv ⊢
  have cL : ce.locals = sc.heap.objs.size := by subst ece; rfl
  generalize esd : ({ sc with heap := pushCells (sc.heap.push { cls := .type "dict", data := .dict #[] }) scope.names } : Shared) = sd at ID ⊢
  have stD : tn 0 sd.heap := TB.keep _ _ _ stC fun b _ o e => by rw [← esd]; exact pushCells_keeps _ _ _ _ (Heap.get?_push_of_some _ e)
  have free : ∀ {τ : L2.St} {HH : Hp} {t : Shared}, Inv (X.blk sc HC scope ce fp) [] τ HH t → (∀ b ∈ fp, HH b = none) → ∀ b ∈ fp, FpOk (X.blk sc HC scope ce fp) [] HH b := fun {τ HH t} IT nn b hb =>
    ⟨nn b hb, (IT.ok.exf b hb).1, IT.ok.exfs b hb, .inl hb, fun x c e => (IT.ok.exf b hb).2 x c e, fun p hp => absurd (show p ∈ ([] : List (Addr × Obj)) ++ [] from hp) (by simp)⟩
  have loop : codeAny (model X.prog X.w) X.A (.compLoop (.DictComp kx vx [⟨tg, iter, ifs, 0⟩] scope pos) 0 (.ref it) (.ref D) ce) (compPost (model X.prog X.w) X.A X.xe none (EP X pins σ Q) (.ref D) sc.heap.objs.size) sd := by
   refine compLoop_anyD (fun n t => ∃ i HI, Inv (X.blk sc HC scope ce fp) [] (wipe σ (own.map (·.2))) HI t ∧ tn i t.heap ∧ (∀ b ∈ fp, HI b = none) ∧ W i n HI) ?_ m0 ⟨0, HC, ID, stD, nfp, w0⟩
   · rintro n se ⟨i, HE, IE, stE, nE, wE⟩
     rcases turn i n HE wE with ⟨stop, qq⟩ | ⟨go, Nx, hNx, step⟩
     · refine thnF (TB.done (X.blk sc HC scope ce fp) rfl rfl rfl hc i [] se _ HE (fun _ _ => False) IE (free IE nE) stE stop) fun r sf ⟨hr, IF⟩ => ?_
       subst hr
       have IG : Inv X pins σ HE sf := IC.call' (ch := fp) IF.os IF.base IF.hok IF.bare fun b hb => ⟨(fC b hb).1.2.2.2.1, (fC b hb).1.2.1, (fC b hb).1.2.2.2.2.1, (fC b hb).1.2.2.2.2.2⟩
       have nC : HE sc.heap.objs.size = none := by
         rw [← cL]
         exact IF.free
       obtain ⟨m, hm, _⟩ := IF.loc
       have hm : sf.heap.Ns ce.locals m := hm
       rw [cL] at hm
       obtain ⟨g0, g1, g2, g3, g4, g5⟩ := IC.fpOk (Nat.le_refl _) nC
       exact ⟨m, hm, fun h'' sb => ⟨.ref D, HE, IG.turned (t' := sf.toks) (fun b o hb e => (sb.2 b hb).trans e) g0 g1 g3 g4 g5, rfl, qq⟩⟩
     · refine thnF (TB.item (X.blk sc HC scope ce fp) rfl rfl rfl hc i [] se _ HE (fun _ _ => False) IE (free IE nE) stE go) fun r sf ⟨u, hr, hf⟩ => ?_
       subst hr
       refine thnF hf fun _ sg ⟨x, HG, IG, rG, yG, stG, nG⟩ => ?_
       refine thnF (pg.run _ sg _ HG x u _ (IG.pinned (free IG nG) (TB.obj _ _ stG)) rG (step x HG yG)) fun _ sh ⟨τ, HH, IH, hwH, qH⟩ => ?_
       refine thnF (pt.run _ sh τ HH _ IH qH) fun b si ⟨HI, II, qI⟩ => ?_
       have fin : ∀ {t : Shared} {HT : Hp}, Inv (X.blk sc HC scope ce fp) ([] ++ pinsAt fp sg.heap) τ HT t → Nx HT → ∃ m, m < n ∧ ∃ i HT, Inv (X.blk sc HC scope ce fp) [] (wipe σ (own.map (·.2))) HT t ∧ tn i t.heap ∧ (∀ b ∈ fp, HT b = none) ∧ W i m HT := fun {t HT} IT nx => by
         obtain ⟨m', hm, w'⟩ := hNx HT nx
         have pin : ∀ b ∈ fp, ∀ o, sg.heap.get? b = some o → t.heap.get? b = some o ∧ HT b = none := fun b hb o e =>
           let z := IT.pin (b, o) (List.mem_append_right _ (List.mem_append_right _ (mem_pinsAt hb e)))
           ⟨z.1, z.2.1⟩
         have hlen : (wipe σ (own.map (·.2))).length = τ.length := by rw [← hwH, wipe_length]
         refine ⟨m', hm, i + 1, HT, (IT.unpinned (pins := [])).weak hlen (fun j v e => ?_), TB.keep _ _ _ stG fun b hb o e => (pin b hb o e).1, fun b hb => ?_, w'⟩
         · rw [← hwH] at e
           exact (wipe_some e).1
         · obtain ⟨o, e, _⟩ := TB.obj _ _ stG b hb
           exact (pin b hb o e).2
       cases b with
       | false =>
         simp only [Bool.false_eq_true, if_false] at qI ⊢
         exact fin II qI
       | true =>
         simp only [if_true] at qI ⊢
         refine thnF (pk.run _ si τ HI _ II qI) fun z sj ⟨yk, HJ, IJ, rJ, qJ⟩ => ?_
         refine thnF (pv.run _ sj τ HJ _ IJ qJ) fun z2 sk ⟨yv, HK, IK, rK, qK⟩ => ?_
         exact n_dictSet (X := X.blk sc HC scope ce fp) hu IK qK rJ rK fun HL sl IL qL => fin IL qL
  exact codeAny_compStart_dict loop (TB.self X.A 0 _ _ _ stD loop)
end
end ND


namespace K46
open PySem L2 Z
def topS (i : Nat) : Stmt := PySem.Challenge.pw_samphire_k46_whole_shifted_means.main.body.getD i (.Pass ⟨0, 0, 0, 0⟩)
abbrev s_lowest : Stmt := topS 8
abbrev N_lowest : List Str := ["p", "q", "common"]
theorem sc_lowest : FnScope N_lowest ["p", "q"] (defScope s_lowest) := ⟨rfl, rfl, rfl, by decide +kernel, rfl, by decide +kernel, by decide +kernel⟩
abbrev s_plus : Stmt := topS 9
abbrev N_plus : List Str := ["a", "b"]
theorem sc_plus : FnScope N_plus ["a", "b"] (defScope s_plus) := ⟨rfl, rfl, rfl, by decide +kernel, rfl, by decide +kernel, by decide +kernel⟩
abbrev s_minus : Stmt := topS 10
abbrev N_minus : List Str := ["a", "b"]
theorem sc_minus : FnScope N_minus ["a", "b"] (defScope s_minus) := ⟨rfl, rfl, rfl, by decide +kernel, rfl, by decide +kernel, by decide +kernel⟩
abbrev s_times : Stmt := topS 11
abbrev N_times : List Str := ["a", "b"]
theorem sc_times : FnScope N_times ["a", "b"] (defScope s_times) := ⟨rfl, rfl, rfl, by decide +kernel, rfl, by decide +kernel, by decide +kernel⟩
abbrev s_less : Stmt := topS 12
abbrev N_less : List Str := ["a", "b"]
theorem sc_less : FnScope N_less ["a", "b"] (defScope s_less) := ⟨rfl, rfl, rfl, by decide +kernel, rfl, by decide +kernel, by decide +kernel⟩
abbrev s_sum_of : Stmt := topS 13
abbrev N_sum_of : List Str := ["fractions", "total", "fraction"]
theorem sc_sum_of : FnScope N_sum_of ["fractions"] (defScope s_sum_of) := ⟨rfl, rfl, rfl, by decide +kernel, rfl, by decide +kernel, by decide +kernel⟩
abbrev s_check_chances : Stmt := topS 15
abbrev N_check_chances : List Str := ["chances", "chance"]
theorem sc_check_chances : FnScope N_check_chances ["chances"] (defScope s_check_chances) := ⟨rfl, rfl, rfl, by decide +kernel, rfl, by decide +kernel, by decide +kernel⟩
abbrev s_law_from : Stmt := topS 16
abbrev N_law_from : List Str := ["rows", "found", "outcome", "chance"]
theorem sc_law_from : FnScope N_law_from ["rows"] (defScope s_law_from) := ⟨rfl, rfl, rfl, by decide +kernel, rfl, by decide +kernel, by decide +kernel⟩
abbrev s_mean : Stmt := topS 17
abbrev N_mean : List Str := ["rows", "number", "chance"]
theorem sc_mean : FnScope N_mean ["rows"] (defScope s_mean) := ⟨rfl, rfl, rfl, by decide +kernel, rfl, by decide +kernel, by decide +kernel⟩
abbrev s_arrived : Stmt := topS 19
abbrev N_arrived : List Str := ["rows", "retries", "lost", "table", "found", "left", "kept", "again", "pair", "number", "chance"]
theorem sc_arrived : FnScope N_arrived ["rows", "retries", "lost"] (defScope s_arrived) := ⟨rfl, rfl, rfl, by decide +kernel, rfl, by decide +kernel, by decide +kernel⟩
abbrev s_mean_by : Stmt := topS 20
abbrev N_mean_by : List Str := ["rows", "retries", "lost"]
theorem sc_mean_by : FnScope N_mean_by ["rows", "retries", "lost"] (defScope s_mean_by) := ⟨rfl, rfl, rfl, by decide +kernel, rfl, by decide +kernel, by decide +kernel⟩
abbrev s_mean_above : Stmt := topS 21
abbrev N_mean_above : List Str := ["rows", "bound", "number", "chance"]
theorem sc_mean_above : FnScope N_mean_above ["rows", "bound"] (defScope s_mean_above) := ⟨rfl, rfl, rfl, by decide +kernel, rfl, by decide +kernel, by decide +kernel⟩
abbrev s_mean_below : Stmt := topS 22
abbrev N_mean_below : List Str := ["rows", "bound", "number", "chance"]
theorem sc_mean_below : FnScope N_mean_below ["rows", "bound"] (defScope s_mean_below) := ⟨rfl, rfl, rfl, by decide +kernel, rfl, by decide +kernel, by decide +kernel⟩
abbrev s_ceilings : Stmt := topS 23
abbrev N_ceilings : List Str := ["rows", "retries", "found", "_"]
theorem sc_ceilings : FnScope N_ceilings ["rows", "retries"] (defScope s_ceilings) := ⟨rfl, rfl, rfl, by decide +kernel, rfl, by decide +kernel, by decide +kernel⟩
abbrev s_floors : Stmt := topS 24
abbrev N_floors : List Str := ["rows", "retries", "found", "_"]
theorem sc_floors : FnScope N_floors ["rows", "retries"] (defScope s_floors) := ⟨rfl, rfl, rfl, by decide +kernel, rfl, by decide +kernel, by decide +kernel⟩
abbrev s_greatest : Stmt := topS 25
abbrev N_greatest : List Str := ["rows", "retries", "bounds", "lost", "left", "number", "chance"]
theorem sc_greatest : FnScope N_greatest ["rows", "retries"] (defScope s_greatest) := ⟨rfl, rfl, rfl, by decide +kernel, rfl, by decide +kernel, by decide +kernel⟩
abbrev s_least : Stmt := topS 26
abbrev N_least : List Str := ["rows", "retries", "bounds", "lost", "left", "number", "chance"]
theorem sc_least : FnScope N_least ["rows", "retries"] (defScope s_least) := ⟨rfl, rfl, rfl, by decide +kernel, rfl, by decide +kernel, by decide +kernel⟩
abbrev s_accepts_ceilings : Stmt := topS 27
abbrev N_accepts_ceilings : List Str := ["rows", "bounds", "due", "bound", "told"]
theorem sc_accepts_ceilings : FnScope N_accepts_ceilings ["rows", "bounds"] (defScope s_accepts_ceilings) := ⟨rfl, rfl, rfl, by decide +kernel, rfl, by decide +kernel, by decide +kernel⟩
abbrev s_accepts_floors : Stmt := topS 28
abbrev N_accepts_floors : List Str := ["rows", "bounds", "due", "bound", "told"]
theorem sc_accepts_floors : FnScope N_accepts_floors ["rows", "bounds"] (defScope s_accepts_floors) := ⟨rfl, rfl, rfl, by decide +kernel, rfl, by decide +kernel, by decide +kernel⟩
abbrev s__law_deck : Stmt := topS 30
abbrev N__law_deck : List Str := ["script"]
theorem sc__law_deck : FnScope N__law_deck ["script"] (defScope s__law_deck) := ⟨rfl, rfl, rfl, by decide +kernel, rfl, by decide +kernel, by decide +kernel⟩
abbrev s__law_draw : Stmt := topS 31
abbrev N__law_draw : List Str := ["deck", "most", "value", "cell"]
theorem sc__law_draw : FnScope N__law_draw ["deck", "most"] (defScope s__law_draw) := ⟨rfl, rfl, rfl, by decide +kernel, rfl, by decide +kernel, by decide +kernel⟩
abbrev s__law_low : Stmt := topS 32
abbrev N__law_low : List Str := ["p", "q", "first", "second", "turn"]
theorem sc__law_low : FnScope N__law_low ["p", "q"] (defScope s__law_low) := ⟨rfl, rfl, rfl, by decide +kernel, rfl, by decide +kernel, by decide +kernel⟩
abbrev s__law_plus : Stmt := topS 33
abbrev N__law_plus : List Str := ["one", "other"]
theorem sc__law_plus : FnScope N__law_plus ["one", "other"] (defScope s__law_plus) := ⟨rfl, rfl, rfl, by decide +kernel, rfl, by decide +kernel, by decide +kernel⟩
abbrev s__law_times : Stmt := topS 34
abbrev N__law_times : List Str := ["one", "other"]
theorem sc__law_times : FnScope N__law_times ["one", "other"] (defScope s__law_times) := ⟨rfl, rfl, rfl, by decide +kernel, rfl, by decide +kernel, by decide +kernel⟩
abbrev s__law_less : Stmt := topS 35
abbrev N__law_less : List Str := ["one", "other"]
theorem sc__law_less : FnScope N__law_less ["one", "other"] (defScope s__law_less) := ⟨rfl, rfl, rfl, by decide +kernel, rfl, by decide +kernel, by decide +kernel⟩
abbrev s__law_rows : Stmt := topS 36
abbrev N__law_rows : List Str := ["deck", "sums", "numbers", "number", "outcome", "k"]
theorem sc__law_rows : FnScope N__law_rows ["deck"] (defScope s__law_rows) := ⟨rfl, rfl, rfl, by decide +kernel, rfl, by decide +kernel, by decide +kernel⟩
abbrev s__law_gathered : Stmt := topS 37
abbrev N__law_gathered : List Str := ["rows", "sums", "outcome", "chance"]
theorem sc__law_gathered : FnScope N__law_gathered ["rows"] (defScope s__law_gathered) := ⟨rfl, rfl, rfl, by decide +kernel, rfl, by decide +kernel, by decide +kernel⟩
abbrev s__law_arrived : Stmt := topS 38
abbrev N__law_arrived : List Str := ["rows", "retries", "lost", "later", "found", "number", "chance", "other", "share"]
theorem sc__law_arrived : FnScope N__law_arrived ["rows", "retries", "lost"] (defScope s__law_arrived) := ⟨rfl, rfl, rfl, by decide +kernel, rfl, by decide +kernel, by decide +kernel⟩
abbrev s__law_mean : Stmt := topS 39
abbrev N__law_mean : List Str := ["rows", "total", "number", "chance"]
theorem sc__law_mean : FnScope N__law_mean ["rows"] (defScope s__law_mean) := ⟨rfl, rfl, rfl, by decide +kernel, rfl, by decide +kernel, by decide +kernel⟩
abbrev s__law_kept : Stmt := topS 40
abbrev N__law_kept : List Str := ["one", "other", "sign"]
theorem sc__law_kept : FnScope N__law_kept ["one", "other", "sign"] (defScope s__law_kept) := ⟨rfl, rfl, rfl, by decide +kernel, rfl, by decide +kernel, by decide +kernel⟩
abbrev s__law_bounds : Stmt := topS 41
abbrev N__law_bounds : List Str := ["rows", "retries", "sign", "found", "turn", "number", "chance"]
theorem sc__law_bounds : FnScope N__law_bounds ["rows", "retries", "sign"] (defScope s__law_bounds) := ⟨rfl, rfl, rfl, by decide +kernel, rfl, by decide +kernel, by decide +kernel⟩
abbrev s__law_tables : Stmt := topS 42
abbrev N__law_tables : List Str := ["deck", "rows", "retries", "pairs", "left", "found", "pair", "number", "chance", "one", "turn"]
theorem sc__law_tables : FnScope N__law_tables ["deck", "rows", "retries"] (defScope s__law_tables) := ⟨rfl, rfl, rfl, by decide +kernel, rfl, by decide +kernel, by decide +kernel⟩
abbrev s__law_accepts : Stmt := topS 43
abbrev N__law_accepts : List Str := ["rows", "bounds", "sign", "k", "due", "number", "chance"]
theorem sc__law_accepts : FnScope N__law_accepts ["rows", "bounds", "sign"] (defScope s__law_accepts) := ⟨rfl, rfl, rfl, by decide +kernel, rfl, by decide +kernel, by decide +kernel⟩
abbrev s__law_bent : Stmt := topS 44
abbrev N__law_bent : List Str := ["deck", "bounds", "at"]
theorem sc__law_bent : FnScope N__law_bent ["deck", "bounds"] (defScope s__law_bent) := ⟨rfl, rfl, rfl, by decide +kernel, rfl, by decide +kernel, by decide +kernel⟩
abbrev s__law_judged : Stmt := topS 45
abbrev N__law_judged : List Str := ["deck", "rows", "retries", "means", "sign", "bounds", "turn", "kept", "told", "one"]
theorem sc__law_judged : FnScope N__law_judged ["deck", "rows", "retries", "means", "sign"] (defScope s__law_judged) := ⟨rfl, rfl, rfl, by decide +kernel, rfl, by decide +kernel, by decide +kernel⟩
abbrev s_law : Stmt := topS 46
abbrev N_law : List Str := ["script", "deck", "rows", "retries", "tables", "means", "lost", "due", "most", "fewest", "high", "low", "left", "one", "number", "chance"]
theorem sc_law : FnScope N_law ["script"] (defScope s_law) := ⟨rfl, rfl, rfl, by decide +kernel, rfl, by decide +kernel, by decide +kernel⟩
abbrev s_ZeroDenominator_init : Stmt := inClass (topS 3) 0
abbrev N_ZeroDenominator_init : List Str := ["self", "__class__"]
theorem sc_ZeroDenominator_init : NdefX.NScope N_ZeroDenominator_init ["self"] ["__class__"] (defScope s_ZeroDenominator_init) := NdefX.nscope_by (by decide +kernel)
abbrev NF_ZeroDenominator (cc c : Addr) : NdefX.NF := ⟨"__init__", "ZeroDenominator.__init__", defArgs s_ZeroDenominator_init, defBody s_ZeroDenominator_init, defScope s_ZeroDenominator_init, [(("__class__" : Str), cc)], c⟩
abbrev s_InvalidLaw_init : Stmt := inClass (topS 4) 0
abbrev N_InvalidLaw_init : List Str := ["self", "__class__"]
theorem sc_InvalidLaw_init : NdefX.NScope N_InvalidLaw_init ["self"] ["__class__"] (defScope s_InvalidLaw_init) := NdefX.nscope_by (by decide +kernel)
abbrev NF_InvalidLaw (cc c : Addr) : NdefX.NF := ⟨"__init__", "InvalidLaw.__init__", defArgs s_InvalidLaw_init, defBody s_InvalidLaw_init, defScope s_InvalidLaw_init, [(("__class__" : Str), cc)], c⟩
set_option maxHeartbeats 4000000 in
structure T (P : Program) (K : PySem.W.Frag) (mg : Str → Option Value) (base : Heap) where
  a_lowest : Addr
  fd_lowest : FuncData
  F_lowest : Fun K "lowest" "lowest" s_lowest a_lowest fd_lowest
  b_lowest : Binds K fd_lowest ["p", "q"] []
  g_lowest : mg "lowest" = some (.ref a_lowest)
  a_plus : Addr
  fd_plus : FuncData
  F_plus : Fun K "plus" "plus" s_plus a_plus fd_plus
  b_plus : Binds K fd_plus ["a", "b"] []
  g_plus : mg "plus" = some (.ref a_plus)
  a_minus : Addr
  fd_minus : FuncData
  F_minus : Fun K "minus" "minus" s_minus a_minus fd_minus
  b_minus : Binds K fd_minus ["a", "b"] []
  g_minus : mg "minus" = some (.ref a_minus)
  a_times : Addr
  fd_times : FuncData
  F_times : Fun K "times" "times" s_times a_times fd_times
  b_times : Binds K fd_times ["a", "b"] []
  g_times : mg "times" = some (.ref a_times)
  a_less : Addr
  fd_less : FuncData
  F_less : Fun K "less" "less" s_less a_less fd_less
  b_less : Binds K fd_less ["a", "b"] []
  g_less : mg "less" = some (.ref a_less)
  a_sum_of : Addr
  fd_sum_of : FuncData
  F_sum_of : Fun K "sum_of" "sum_of" s_sum_of a_sum_of fd_sum_of
  b_sum_of : Binds K fd_sum_of ["fractions"] []
  g_sum_of : mg "sum_of" = some (.ref a_sum_of)
  a_check_chances : Addr
  fd_check_chances : FuncData
  F_check_chances : Fun K "check_chances" "check_chances" s_check_chances a_check_chances fd_check_chances
  b_check_chances : Binds K fd_check_chances ["chances"] []
  g_check_chances : mg "check_chances" = some (.ref a_check_chances)
  a_law_from : Addr
  fd_law_from : FuncData
  F_law_from : Fun K "law_from" "law_from" s_law_from a_law_from fd_law_from
  b_law_from : Binds K fd_law_from ["rows"] []
  g_law_from : mg "law_from" = some (.ref a_law_from)
  a_mean : Addr
  fd_mean : FuncData
  F_mean : Fun K "mean" "mean" s_mean a_mean fd_mean
  b_mean : Binds K fd_mean ["rows"] []
  g_mean : mg "mean" = some (.ref a_mean)
  a_arrived : Addr
  fd_arrived : FuncData
  F_arrived : Fun K "arrived" "arrived" s_arrived a_arrived fd_arrived
  b_arrived : Binds K fd_arrived ["rows", "retries", "lost"] []
  g_arrived : mg "arrived" = some (.ref a_arrived)
  a_mean_by : Addr
  fd_mean_by : FuncData
  F_mean_by : Fun K "mean_by" "mean_by" s_mean_by a_mean_by fd_mean_by
  b_mean_by : Binds K fd_mean_by ["rows", "retries", "lost"] []
  g_mean_by : mg "mean_by" = some (.ref a_mean_by)
  a_mean_above : Addr
  fd_mean_above : FuncData
  F_mean_above : Fun K "mean_above" "mean_above" s_mean_above a_mean_above fd_mean_above
  b_mean_above : Binds K fd_mean_above ["rows", "bound"] []
  g_mean_above : mg "mean_above" = some (.ref a_mean_above)
  a_mean_below : Addr
  fd_mean_below : FuncData
  F_mean_below : Fun K "mean_below" "mean_below" s_mean_below a_mean_below fd_mean_below
  b_mean_below : Binds K fd_mean_below ["rows", "bound"] []
  g_mean_below : mg "mean_below" = some (.ref a_mean_below)
  a_ceilings : Addr
  fd_ceilings : FuncData
  F_ceilings : Fun K "ceilings" "ceilings" s_ceilings a_ceilings fd_ceilings
  b_ceilings : Binds K fd_ceilings ["rows", "retries"] []
  g_ceilings : mg "ceilings" = some (.ref a_ceilings)
  a_floors : Addr
  fd_floors : FuncData
  F_floors : Fun K "floors" "floors" s_floors a_floors fd_floors
  b_floors : Binds K fd_floors ["rows", "retries"] []
  g_floors : mg "floors" = some (.ref a_floors)
  a_greatest : Addr
  fd_greatest : FuncData
  F_greatest : Fun K "greatest" "greatest" s_greatest a_greatest fd_greatest
  b_greatest : Binds K fd_greatest ["rows", "retries"] []
  g_greatest : mg "greatest" = some (.ref a_greatest)
  a_least : Addr
  fd_least : FuncData
  F_least : Fun K "least" "least" s_least a_least fd_least
  b_least : Binds K fd_least ["rows", "retries"] []
  g_least : mg "least" = some (.ref a_least)
  a_accepts_ceilings : Addr
  fd_accepts_ceilings : FuncData
  F_accepts_ceilings : Fun K "accepts_ceilings" "accepts_ceilings" s_accepts_ceilings a_accepts_ceilings fd_accepts_ceilings
  b_accepts_ceilings : Binds K fd_accepts_ceilings ["rows", "bounds"] []
  g_accepts_ceilings : mg "accepts_ceilings" = some (.ref a_accepts_ceilings)
  a_accepts_floors : Addr
  fd_accepts_floors : FuncData
  F_accepts_floors : Fun K "accepts_floors" "accepts_floors" s_accepts_floors a_accepts_floors fd_accepts_floors
  b_accepts_floors : Binds K fd_accepts_floors ["rows", "bounds"] []
  g_accepts_floors : mg "accepts_floors" = some (.ref a_accepts_floors)
  a__law_deck : Addr
  fd__law_deck : FuncData
  F__law_deck : Fun K "_law_deck" "_law_deck" s__law_deck a__law_deck fd__law_deck
  b__law_deck : Binds K fd__law_deck ["script"] []
  g__law_deck : mg "_law_deck" = some (.ref a__law_deck)
  a__law_draw : Addr
  fd__law_draw : FuncData
  F__law_draw : Fun K "_law_draw" "_law_draw" s__law_draw a__law_draw fd__law_draw
  b__law_draw : Binds K fd__law_draw ["deck", "most"] []
  g__law_draw : mg "_law_draw" = some (.ref a__law_draw)
  a__law_low : Addr
  fd__law_low : FuncData
  F__law_low : Fun K "_law_low" "_law_low" s__law_low a__law_low fd__law_low
  b__law_low : Binds K fd__law_low ["p", "q"] []
  g__law_low : mg "_law_low" = some (.ref a__law_low)
  a__law_plus : Addr
  fd__law_plus : FuncData
  F__law_plus : Fun K "_law_plus" "_law_plus" s__law_plus a__law_plus fd__law_plus
  b__law_plus : Binds K fd__law_plus ["one", "other"] []
  g__law_plus : mg "_law_plus" = some (.ref a__law_plus)
  a__law_times : Addr
  fd__law_times : FuncData
  F__law_times : Fun K "_law_times" "_law_times" s__law_times a__law_times fd__law_times
  b__law_times : Binds K fd__law_times ["one", "other"] []
  g__law_times : mg "_law_times" = some (.ref a__law_times)
  a__law_less : Addr
  fd__law_less : FuncData
  F__law_less : Fun K "_law_less" "_law_less" s__law_less a__law_less fd__law_less
  b__law_less : Binds K fd__law_less ["one", "other"] []
  g__law_less : mg "_law_less" = some (.ref a__law_less)
  a__law_rows : Addr
  fd__law_rows : FuncData
  F__law_rows : Fun K "_law_rows" "_law_rows" s__law_rows a__law_rows fd__law_rows
  b__law_rows : Binds K fd__law_rows ["deck"] []
  g__law_rows : mg "_law_rows" = some (.ref a__law_rows)
  a__law_gathered : Addr
  fd__law_gathered : FuncData
  F__law_gathered : Fun K "_law_gathered" "_law_gathered" s__law_gathered a__law_gathered fd__law_gathered
  b__law_gathered : Binds K fd__law_gathered ["rows"] []
  g__law_gathered : mg "_law_gathered" = some (.ref a__law_gathered)
  a__law_arrived : Addr
  fd__law_arrived : FuncData
  F__law_arrived : Fun K "_law_arrived" "_law_arrived" s__law_arrived a__law_arrived fd__law_arrived
  b__law_arrived : Binds K fd__law_arrived ["rows", "retries", "lost"] []
  g__law_arrived : mg "_law_arrived" = some (.ref a__law_arrived)
  a__law_mean : Addr
  fd__law_mean : FuncData
  F__law_mean : Fun K "_law_mean" "_law_mean" s__law_mean a__law_mean fd__law_mean
  b__law_mean : Binds K fd__law_mean ["rows"] []
  g__law_mean : mg "_law_mean" = some (.ref a__law_mean)
  a__law_kept : Addr
  fd__law_kept : FuncData
  F__law_kept : Fun K "_law_kept" "_law_kept" s__law_kept a__law_kept fd__law_kept
  b__law_kept : Binds K fd__law_kept ["one", "other", "sign"] []
  g__law_kept : mg "_law_kept" = some (.ref a__law_kept)
  a__law_bounds : Addr
  fd__law_bounds : FuncData
  F__law_bounds : Fun K "_law_bounds" "_law_bounds" s__law_bounds a__law_bounds fd__law_bounds
  b__law_bounds : Binds K fd__law_bounds ["rows", "retries", "sign"] []
  g__law_bounds : mg "_law_bounds" = some (.ref a__law_bounds)
  a__law_tables : Addr
  fd__law_tables : FuncData
  F__law_tables : Fun K "_law_tables" "_law_tables" s__law_tables a__law_tables fd__law_tables
  b__law_tables : Binds K fd__law_tables ["deck", "rows", "retries"] []
  g__law_tables : mg "_law_tables" = some (.ref a__law_tables)
  a__law_accepts : Addr
  fd__law_accepts : FuncData
  F__law_accepts : Fun K "_law_accepts" "_law_accepts" s__law_accepts a__law_accepts fd__law_accepts
  b__law_accepts : Binds K fd__law_accepts ["rows", "bounds", "sign"] []
  g__law_accepts : mg "_law_accepts" = some (.ref a__law_accepts)
  a__law_bent : Addr
  fd__law_bent : FuncData
  F__law_bent : Fun K "_law_bent" "_law_bent" s__law_bent a__law_bent fd__law_bent
  b__law_bent : Binds K fd__law_bent ["deck", "bounds"] []
  g__law_bent : mg "_law_bent" = some (.ref a__law_bent)
  a__law_judged : Addr
  fd__law_judged : FuncData
  F__law_judged : Fun K "_law_judged" "_law_judged" s__law_judged a__law_judged fd__law_judged
  b__law_judged : Binds K fd__law_judged ["deck", "rows", "retries", "means", "sign"] []
  g__law_judged : mg "_law_judged" = some (.ref a__law_judged)
  a_law : Addr
  fd_law : FuncData
  F_law : Fun K "law" "law" s_law a_law fd_law
  b_law : Binds K fd_law ["script"] []
  g_law : mg "law" = some (.ref a_law)
  C_SamphireError : Addr
  mg_SamphireError : mg "SamphireError" = some (.ref C_SamphireError)
  C_ZeroDenominator : Addr
  a_ZeroDenominator_init : Addr
  c_ZeroDenominator : Addr
  cc_ZeroDenominator : Addr
  x_ZeroDenominator : Sup.ExcT P K mg "ZeroDenominator" C_ZeroDenominator a_ZeroDenominator_init c_ZeroDenominator cc_ZeroDenominator
  doc_ZeroDenominator : Value
  pm_ZeroDenominator : Value
  ctv_ZeroDenominator : Value
  oc_ZeroDenominator : Value
  od_ZeroDenominator : Option Addr
  osl_ZeroDenominator : Array (Option Value)
  lk_ZeroDenominator : K.lookup a_ZeroDenominator_init = some ⟨oc_ZeroDenominator, od_ZeroDenominator, .func ((NF_ZeroDenominator cc_ZeroDenominator c_ZeroDenominator).fd doc_ZeroDenominator pm_ZeroDenominator ctv_ZeroDenominator), osl_ZeroDenominator⟩
  hc_ZeroDenominator : PySem.W.codeIn K (.ref c_ZeroDenominator) "ZeroDenominator.__init__" = true
  bx_ZeroDenominator : Binds K ((NF_ZeroDenominator cc_ZeroDenominator c_ZeroDenominator).fd doc_ZeroDenominator pm_ZeroDenominator ctv_ZeroDenominator) ["self"] []
  C_InvalidLaw : Addr
  a_InvalidLaw_init : Addr
  c_InvalidLaw : Addr
  cc_InvalidLaw : Addr
  x_InvalidLaw : Sup.ExcT P K mg "InvalidLaw" C_InvalidLaw a_InvalidLaw_init c_InvalidLaw cc_InvalidLaw
  doc_InvalidLaw : Value
  pm_InvalidLaw : Value
  ctv_InvalidLaw : Value
  oc_InvalidLaw : Value
  od_InvalidLaw : Option Addr
  osl_InvalidLaw : Array (Option Value)
  lk_InvalidLaw : K.lookup a_InvalidLaw_init = some ⟨oc_InvalidLaw, od_InvalidLaw, .func ((NF_InvalidLaw cc_InvalidLaw c_InvalidLaw).fd doc_InvalidLaw pm_InvalidLaw ctv_InvalidLaw), osl_InvalidLaw⟩
  hc_InvalidLaw : PySem.W.codeIn K (.ref c_InvalidLaw) "InvalidLaw.__init__" = true
  bx_InvalidLaw : Binds K ((NF_InvalidLaw cc_InvalidLaw c_InvalidLaw).fd doc_InvalidLaw pm_InvalidLaw ctv_InvalidLaw) ["self"] []
  kit_InvalidLaw_SamphireError : PySem.W.kitOne K (.ref C_InvalidLaw) (.ref C_SamphireError) = some true
  z_abs : mg "abs" = none
  z_int : mg "int" = none
  z_len : mg "len" = none
  z_list : mg "list" = none
  z_range : mg "range" = none
  z_sorted : mg "sorted" = none
  z_sum : mg "sum" = none
  z_super : mg "super" = none
  z_zip : mg "zip" = none
  k_ZERO : Addr
  g_ZERO : mg "ZERO" = some (.ref k_ZERO)
  q_ZERO : ∀ H, SqT K H k_ZERO [.int (0), .int (1)]
  k_ONE : Addr
  g_ONE : mg "ONE" = some (.ref k_ONE)
  q_ONE : ∀ H, SqT K H k_ONE [.int (1), .int (1)]
  g_gcd : mg "gcd" = some (.builtin "math.gcd")
  c_law_from : Addr
  P_law_from : Addr
  TB_law_from : LamX.TabB base mg c_law_from P_law_from
  L_law_from : LamK.CodeFn K a_law_from fd_law_from s_law_from "law_from" c_law_from
/-! ### the walk by single steps -/
local macro_rules | `(tactic| walk_at "z1") => `(tactic| first
  | with_reducible refine Z.seq ?_
  | with_reducible refine Z.asg ?_
  | ((with_reducible refine' Z.gname ?zv ?_); (case zv => first | (dsimp only [List.set]; done) | (dsimp only [List.set]; exact rfl)))
  | ((with_reducible refine' Z.var ?zv ?_); (case zv => exact rfl))
  | with_reducible refine Z.cst ?_
  | with_reducible refine Z.op ?_
  | with_reducible refine Z.un ?_
  | with_reducible refine Z.i0 ?_
  | with_reducible refine Z.iU ?_
  | with_reducible refine Z.eqII ?_
  | with_reducible refine Z.neII ?_
  | with_reducible refine Z.eqSS ?_
  | with_reducible refine Z.neSS ?_
  | with_reducible refine Z.eqBB ?_
  | with_reducible refine Z.neBB ?_
  | with_reducible refine Z.bl' ?_
  | with_reducible refine Z.test ?_
  | with_reducible refine Z.tbb ?_
  | with_reducible refine Z.tand ?_
  | with_reducible refine Z.tor ?_
  | with_reducible refine Z.tnot ?_
  | with_reducible refine Z.tyes ?_
  | with_reducible refine Z.andV ?_
  | with_reducible refine Z.orV ?_
  | with_reducible refine Z.notV ?_
  | with_reducible refine Z.ifE ?_
  | with_reducible refine Z.chain ?_
  | with_reducible refine Z.yesB ?_
  | with_reducible refine Z.noB ?_
  | with_reducible refine Z.noNB ?_
  | with_reducible refine Z.yesNB ?_
  | with_reducible refine Z.nil ?_
  | with_reducible refine Z.cons ?_
  | with_reducible refine Z.cb ?_
  | with_reducible refine Z.call ?_
  | with_reducible refine Z.meth ?_
  | with_reducible refine Z.fld ?_
  | with_reducible refine Z.int1 ?_
  | with_reducible refine Z.intb ?_
  | with_reducible refine Z.abs1 ?_
  | with_reducible refine Z.gcons ?_
  | with_reducible refine Z.gnil ?_
  | with_reducible refine Z.gcd ?_
  | ((with_reducible refine' Z.par2 ?zv ?_); (case zv => first | (dsimp only [List.set]; done) | (dsimp only [List.set]; exact rfl)))
  | with_reducible refine Z.isN ?_
  | with_reducible refine Z.notN ?_
  | with_reducible refine Z.inSg ?_
  | with_reducible refine Z.ninSg ?_
  | with_reducible refine Z.tup ?_
  | with_reducible refine Z.lst ?_
  | with_reducible refine Z.gsub ?_
  | with_reducible refine Z.par ?_
  | ((with_reducible refine' Z.aug ?zv ?_); (case zv => exact rfl))
  | with_reducible refine Z.ipI' ?_
  | with_reducible refine Z.ifs ?_
  | with_reducible refine Z.ret ?_
  | with_reducible refine Z.retN ?_
  | with_reducible refine Z.next ?_
  | with_reducible refine Z.brk ?_
  | with_reducible refine Z.drop ?_
  | with_reducible refine Z.bm ?_
  | with_reducible refine Z.bm0 ?_
  | with_reducible refine Z.sfld ?_
  | with_reducible refine Z.sfldaug ?_
  | with_reducible refine Z.radd ?_
  | with_reducible refine Z.make ?_
  | with_reducible refine Z.lc ?_
  | with_reducible refine Z.rng1 ?_
  | with_reducible refine Z.ilist ?_
  | with_reducible refine Z.itup ?_
  | with_reducible refine Z.for_ ?_
  | with_reducible refine Z.istr ?_
  | with_reducible refine Z.ienum ?_
  | with_reducible refine Z.izip ?_
  | with_reducible refine Z.irng2 ?_
  | with_reducible refine LamK.srt ?_
  | with_reducible refine Z.irevr ?_
  | with_reducible refine Z.rg1 ?_
  | with_reducible refine LamK.methX ?_
  | with_reducible refine Z.augs ?_
  | with_reducible refine Z.ienumS ?_
  | with_reducible refine Z.din ?_
  | with_reducible refine Z.dput ?_
  | with_reducible refine Z.dget ?_
  | with_reducible refine Z.dget2 ?_
  | with_reducible refine Z.sl ?_
  | with_reducible refine Z.slno ?_
  | with_reducible refine Z.slpart ?_
  | with_reducible refine Z.bint ?_
  | with_reducible refine Z.listrev ?_
  | with_reducible refine Z.revl ?_
  | dsimp only)
local macro_rules | `(tactic| walk_at "z0") => `(tactic| ((try simp only [Z.cxK]); (try dsimp only [L2.start, List.map, List.length, Nat.reduceAdd, Nat.reduceSub, List.replicate, List.cons_append, List.nil_append])))
local macro_rules | `(tactic| walk_at "z") => `(tactic| (repeat (walk_at "z1")))

/-! ### the deck of a law: _law_deck, _law_draw -/
def DeckOk (H : Hp) (a p : Addr) : Prop := ∃ (ns : List Int) (i : Nat) (r s : Int), H a = some (.lst [.ref p, .int (i : Int), .int r, .int s]) ∧ H p = some (.lst (ns.map V.int)) ∧ p ≠ a
theorem DeckOk.ne {H : Hp} {a p l : Addr} (d : DeckOk H a p) (h : H l = none) : a ≠ l ∧ p ≠ l := by
  obtain ⟨ns, i, r, s, ha, hp, _⟩ := d
  exact ⟨ne_of_none ha h, ne_of_none hp h⟩
theorem DeckOk.kp {M : List Addr} {H H' : Hp} {a p : Addr} (d : DeckOk H a p) (k : Kp M H H') (n1 : a ∉ M) (n2 : p ∉ M) : DeckOk H' a p := by
  obtain ⟨ns, i, r, s, ha, hp, hne⟩ := d
  exact ⟨ns, i, r, s, k _ _ n1 ha, k _ _ n2 hp, hne⟩
theorem DeckOk.kp0 {H H' : Hp} {a p : Addr} (d : DeckOk H a p) (k : Kp [] H H') : DeckOk H' a p := d.kp k nin0 nin0
theorem DeckOk.upd {H : Hp} {a p l : Addr} {o : HO} (d : DeckOk H a p) (n1 : a ≠ l) (n2 : p ≠ l) : DeckOk (upd H l o) a p := by
  obtain ⟨ns, i, r, s, ha, hp, hne⟩ := d
  exact ⟨ns, i, r, s, (upd_ne n1).trans ha, (upd_ne n2).trans hp, hne⟩
def spDeck (K : PySem.W.Frag) : Sp := fun vs H Q _ => ∃ (c : Addr) (ns : List Int), vs = [.ref c] ∧ SqL K H c (ns.map V.int) ∧ ∀ a p H', H a = none → H p = none → Kp [] H H' → DeckOk H' a p → Q (.ref a) H'
theorem ok__law_deck {P : Program} {w : World} {K : PySem.W.Frag} {mg : Str → Option Value} {base : Heap} (T : T P K mg base) : FnOk P w K mg base CX0 1 T.a__law_deck T.fd__law_deck ["script"] (spDeck K) := by
  refine T.F__law_deck.ok sc__law_deck (fun vs H Q E h => ?_) (fun cdv A outer s H vs Q E hr h => ?_)
  · obtain ⟨c, ns, rfl, _⟩ := h
    rfl
  · obtain ⟨c, ns, rfl, hS, q⟩ := h
    refine ⟨_, (pss_one (ps_ret (pe_lst (pa_cons (pe_callTy c_list (by rfl) T.z_list (by decide +kernel) (pa_cons (pv 0) pa_nil)) (pa_cons pe_int (pa_cons pe_int (pa_cons pe_int pa_nil))))))), ?_⟩
    walk_at "z0"
    walk_at "z"
    refine Z.listL hS fun p H1 np k1 e1 => ?_
    walk_at "z"
    refine Z.lstK (fun a H2 na k2 e2 => ?_)
    refine q a p H2 (k1.none nin0 na) np (k1.trans k2) ⟨ns, 0, 0, 7, e2, k2.get nin0 e1, ?_⟩
    exact ne_of_none e1 na
def spDraw (K : PySem.W.Frag) : Sp := fun vs H Q _ => ∃ (a p : Addr) (m : Int), vs = [.ref a, .int m] ∧ DeckOk H a p ∧ 1 ≤ m ∧ m < 18446744073709551616 ∧ ∀ H' v, 0 ≤ v → v < m → Kp [a] H H' → DeckOk H' a p → Q (.int v) H'
theorem at4 {p : Addr} {i r s : Int} (v : V) (j : Nat) (h : [V.ref p, .int i, .int r, .int s][j]? = some v) : atI [V.ref p, .int i, .int r, .int s] (j : Int) = some v := atI_nat h
theorem pow18 : (10 : Int) ^ (18 : Int).toNat = 1000000000000000000 := by decide
theorem ok__law_draw {P : Program} {w : World} {K : PySem.W.Frag} {mg : Str → Option Value} {base : Heap} (T : T P K mg base) : FnOk P w K mg base CX0 1 T.a__law_draw T.fd__law_draw ["deck", "most"] (spDraw K) := by
  refine T.F__law_draw.ok sc__law_draw (fun vs H Q E h => ?_) (fun cdv A outer s H vs Q E hr h => ?_)
  · obtain ⟨a, p, m, rfl, _⟩ := h
    rfl
  · obtain ⟨a, p, m, rfl, ⟨ns, i, r, s, ha, hp, hne⟩, hm1, hm2, q⟩ := h
    have hdiv : CDivW r m := wide_div (b := 64) (by omega) (by omega) (by decide) (by decide)
    refine ⟨_, (pss_cons (ps_if (pt_cmpR op_ge (pe_ix ix_list (pv 0) pe_int (fun _ _ => rfl)) (pv 1) (nomark _)) (pss_cons (ps_set (i := 2) sc__law_draw.nd rfl (by first | exact Or.inl rfl | exact Or.inr rfl) (pe_op op_mod (pe_callTy c_int (by rfl) T.z_int (by decide +kernel) (pa_cons (pe_ix ix_list (pv 0) pe_int (fun _ _ => rfl)) pa_nil)) (pv 1)))
      (pss_cons (ps_asg (pe_op op_fdivW (pe_ix ix_list (pv 0) pe_int (fun _ _ => rfl)) (pv 1)) (pg_sub (pv 0) pe_int set_list))
      (pss_one (ps_ret (pv 2))))) pss_nil)
      (pss_cons (ps_set (i := 3) sc__law_draw.nd rfl (by first | exact Or.inl rfl | exact Or.inr rfl) pe_int)
      (Z.pss_consJ (ps_if (pt_cmpR op_lt (pe_ix ix_list (pv 0) pe_int (fun _ _ => rfl)) (pe_callB c_len (by rfl) T.z_len (by decide +kernel) (pa_cons (pe_ix ix_list (pv 0) pe_int (fun _ _ => rfl)) pa_nil)) (nomark _)) (pss_one (ps_set (i := 3) sc__law_draw.nd rfl (by first | exact Or.inl rfl | exact Or.inr rfl) (pe_ix ix_list (pe_ix ix_list (pv 0) pe_int (fun _ _ => rfl)) (pe_ix ix_list (pv 0) pe_int (fun _ _ => rfl)) (fun _ _ => rfl)))) pss_nil)
      (pss_cons (ps_asg (pe_op op_add (pe_ix ix_list (pv 0) pe_int (fun _ _ => rfl)) pe_int) (pg_sub (pv 0) pe_int set_list))
      (pss_cons (ps_asg pe_int (pg_sub (pv 0) pe_int set_list))
      (pss_cons (ps_if (pt_cmpR op_ge (pv 3) (pe_op op_pow pe_int pe_int) (nomark _)) (pss_cons (ps_asg (pe_op op_fdivW (pv 3) (pv 1)) (pg_sub (pv 0) pe_int set_list))
      (pss_one (ps_ret (pe_op op_mod (pe_callTy c_int (by rfl) T.z_int (by decide +kernel) (pa_cons (pv 3) pa_nil)) (pv 1))))) pss_nil)
      (pss_cons (ps_asg (pe_op op_mod (pe_callTy c_int (by rfl) T.z_int (by decide +kernel) (pa_cons (pe_op op_add (pe_op op_add (pe_op op_mul (pe_ix ix_list (pv 0) pe_int (fun _ _ => rfl)) pe_int) (pe_op op_mul (pv 3) pe_int)) (pe_op op_mul (pe_ix ix_list (pv 0) pe_int (fun _ _ => rfl)) pe_int)) pa_nil)) pe_int) (pg_sub (pv 0) pe_int set_list))
      (pss_cons (ps_asg (pe_op op_mod (pe_callTy c_int (by rfl) T.z_int (by decide +kernel) (pa_cons (pe_op op_add (pe_op op_mul (pe_ix ix_list (pv 0) pe_int (fun _ _ => rfl)) pe_int) pe_int) pa_nil)) pe_int) (pg_sub (pv 0) pe_int set_list))
      (pss_one (ps_ret (pe_op op_mod (pe_callTy c_int (by rfl) T.z_int (by decide +kernel) (pa_cons (pe_op op_fdivW (pe_ix ix_list (pv 0) pe_int (fun _ _ => rfl)) pe_int) pa_nil)) (pv 1)))))))))))), ?_⟩
    walk_at "z0"
    walk_at "z"
    refine Z.ixL (lstL ha) (at4 _ 2 rfl) ?_
    walk_at "z"
    refine Z.ite (fun h1 => ?_) (fun h1 => ?_)
    · walk_at "z"
      refine Z.ixL (lstL ha) (at4 _ 2 rfl) ?_
      walk_at "z"
      refine Z.iC (by omega) ?_
      walk_at "z"
      refine Z.ixL (lstL ha) (at4 _ 2 rfl) ?_
      walk_at "z"
      refine Z.iC hdiv ?_
      walk_at "z"
      refine Z.setL ha (ixN_nat (j := 2) (by simp)) ?_
      walk_at "z"
      exact q _ _ (Int.emod_nonneg _ (by omega)) (Int.emod_lt_of_pos _ (by omega)) (Kp.put (by simp)) ⟨ns, i, r / m, s, upd_same, (upd_ne hne).trans hp, hne⟩
    · walk_at "z"
      refine Z.seqJ (fun σ' H' => ∃ c : Int, σ' = [some (.ref a), some (.int m), none, some (.int c)] ∧ H' = H) ?_ ?_
      · rintro σ' H' ⟨c, rfl, rfl⟩
        walk_at "z"
        refine Z.ixL (lstL ha) (at4 _ 1 rfl) ?_
        walk_at "z"
        refine Z.setL ha (ixN_nat (j := 1) (by simp)) ?_
        have ha1 : (upd H' a (.lst [.ref p, .int ((i + 1 : Nat) : Int), .int r, .int s])) a = some (.lst [.ref p, .int ((i + 1 : Nat) : Int), .int r, .int s]) := upd_same
        have hp1 : (upd H' a (.lst [.ref p, .int ((i + 1 : Nat) : Int), .int r, .int s])) p = some (.lst (ns.map V.int)) := (upd_ne hne).trans hp
        have k1 : Kp [a] H' (upd H' a (.lst [.ref p, .int ((i + 1 : Nat) : Int), .int r, .int s])) := Kp.put (by simp)
        dsimp only [List.set]
        rw [show ((i : Int) + 1) = ((i + 1 : Nat) : Int) by omega]
        revert ha1 hp1 k1
        generalize upd H' a (.lst [.ref p, .int ((i + 1 : Nat) : Int), .int r, .int s]) = H1
        intro ha1 hp1 k1
        walk_at "z"
        refine Z.setL ha1 (ixN_nat (j := 2) (by simp)) ?_
        dsimp only [List.set]
        have ha2 : (upd H1 a (.lst [.ref p, .int ((i + 1 : Nat) : Int), .int 0, .int s])) a = some (.lst [.ref p, .int ((i + 1 : Nat) : Int), .int 0, .int s]) := upd_same
        have hp2 : (upd H1 a (.lst [.ref p, .int ((i + 1 : Nat) : Int), .int 0, .int s])) p = some (.lst (ns.map V.int)) := (upd_ne hne).trans hp1
        have k2 : Kp [a] H' (upd H1 a (.lst [.ref p, .int ((i + 1 : Nat) : Int), .int 0, .int s])) := k1.trans (Kp.put (by simp))
        revert ha2 hp2 k2
        generalize upd H1 a (.lst [.ref p, .int ((i + 1 : Nat) : Int), .int 0, .int s]) = H2
        intro ha2 hp2 k2
        walk_at "z"
        refine Z.iC ⟨by decide, by decide, by decide⟩ ?_
        walk_at "z"
        refine Z.ite (fun h2 => ?_) (fun h2 => ?_)
        · walk_at "z"
          refine Z.iC hdiv ?_
          walk_at "z"
          refine Z.setL ha2 (ixN_nat (j := 2) (by simp)) ?_
          walk_at "z"
          refine Z.iC (by omega) ?_
          exact q _ _ (Int.emod_nonneg _ (by omega)) (Int.emod_lt_of_pos _ (by omega)) (k2.trans (Kp.put (by simp))) ⟨ns, i + 1, c / m, s, upd_same, (upd_ne hne).trans hp2, hne⟩
        · walk_at "z"
          refine Z.ixL (lstL ha2) (at4 _ 3 rfl) ?_
          walk_at "z"
          refine Z.iC (.inr (by decide)) ?_
          walk_at "z"
          refine Z.iC (.inr (by decide)) ?_
          walk_at "z"
          refine Z.ixL (lstL ha2) (at4 _ 1 rfl) ?_
          walk_at "z"
          refine Z.iC (.inr (by decide)) ?_
          walk_at "z"
          refine Z.iC (by decide) ?_
          walk_at "z"
          refine Z.setL ha2 (ixN_nat (j := 3) (by simp)) ?_
          dsimp only [List.set]
          generalize (s * 48271 + c * 69621 + ((i + 1 : Nat) : Int) * 911) % 2147483647 = s1
          have ha3 : (upd H2 a (.lst [.ref p, .int ((i + 1 : Nat) : Int), .int 0, .int s1])) a = some (.lst [.ref p, .int ((i + 1 : Nat) : Int), .int 0, .int s1]) := upd_same
          have hp3 : (upd H2 a (.lst [.ref p, .int ((i + 1 : Nat) : Int), .int 0, .int s1])) p = some (.lst (ns.map V.int)) := (upd_ne hne).trans hp2
          have k3 : Kp [a] H' (upd H2 a (.lst [.ref p, .int ((i + 1 : Nat) : Int), .int 0, .int s1])) := k2.trans (Kp.put (by simp))
          revert ha3 hp3 k3
          generalize upd H2 a (.lst [.ref p, .int ((i + 1 : Nat) : Int), .int 0, .int s1]) = H3
          intro ha3 hp3 k3
          walk_at "z"
          refine Z.ixL (lstL ha3) (at4 _ 3 rfl) ?_
          walk_at "z"
          refine Z.iC (.inr (by decide)) ?_
          walk_at "z"
          refine Z.iC (by decide) ?_
          walk_at "z"
          refine Z.setL ha3 (ixN_nat (j := 3) (by simp)) ?_
          dsimp only [List.set]
          generalize (s1 * 48271 + 12345) % 2147483647 = s2
          walk_at "z"
          refine Z.ixL (lstL upd_same) (at4 _ 3 rfl) ?_
          walk_at "z"
          refine Z.iC (wide_div (b := 64) (by decide) (by decide) (by decide) (by decide)) ?_
          walk_at "z"
          refine Z.iC (by omega) ?_
          exact q _ _ (Int.emod_nonneg _ (by omega)) (Int.emod_lt_of_pos _ (by omega)) (k3.trans (Kp.put (by simp))) ⟨ns, i + 1, 0, s2, upd_same, (upd_ne hne).trans hp3, hne⟩
      · intro N jn
        walk_at "z"
        refine Z.ixL (lstL ha) (at4 _ 1 rfl) ?_
        walk_at "z"
        refine Z.ixL (lstL ha) (at4 _ 0 rfl) ?_
        walk_at "z"
        refine Z.lenL (lstL hp) ?_
        walk_at "z"
        refine Z.ite (fun h2 => ?_) (fun h2 => ?_)
        · walk_at "z"
          refine Z.ixL (lstL ha) (at4 _ 0 rfl) ?_
          walk_at "z"
          refine Z.ixL (lstL ha) (at4 _ 1 rfl) ?_
          walk_at "z"
          have hi : i < ns.length := by
            rw [List.length_map] at h2
            omega
          refine Z.ixL (lstL hp) (atM (List.getElem?_eq_getElem hi)) ?_
          walk_at "z"
          exact jn _ _ ⟨_, rfl, rfl⟩
        · walk_at "z"
          exact jn _ _ ⟨_, rfl, rfl⟩

/-! ### sums of lists of ints -/
theorem sum_nonneg : ∀ {l : List Int}, (∀ n ∈ l, 0 ≤ n) → 0 ≤ l.sum
  | [], _ => by simp
  | a :: r, h => by
    have h1 := h a (by simp)
    have h2 := sum_nonneg (l := r) fun n hn => h n (by simp [hn])
    rw [List.sum_cons]
    omega
theorem sum_le {c : Int} : ∀ {l : List Int}, (∀ n ∈ l, n ≤ c) → l.sum ≤ c * l.length
  | [], _ => by simp
  | a :: r, h => by
    have h1 := h a (by simp)
    have h2 := sum_le (c := c) (l := r) fun n hn => h n (by simp [hn])
    rw [List.sum_cons, List.length_cons, show c * ((r.length + 1 : Nat) : Int) = c * r.length + c by rw [Int.natCast_add, Int.mul_add]; simp]
    omega
theorem sum_ge_mem : ∀ {l : List Int}, (∀ n ∈ l, 0 ≤ n) → ∀ x ∈ l, x ≤ l.sum
  | [], _, x, hx => by simp at hx
  | a :: r, h, x, hx => by
    have h1 := h a (by simp)
    have h3 := sum_nonneg (l := r) fun n hn => h n (by simp [hn])
    rw [List.sum_cons]
    rcases List.mem_cons.mp hx with e | e
    · omega
    · have h2 := sum_ge_mem (l := r) (fun n hn => h n (by simp [hn])) x e
      omega
theorem take_nonneg {l : List Int} (h : ∀ n ∈ l, 0 ≤ n) (i : Nat) : 0 ≤ (l.take i).sum := sum_nonneg fun n hn => h n (List.mem_of_mem_take hn)
/-! ### lists of ints as data -/
theorem layInts : ∀ ws : List Int, PyData.canLayAll0 (ws.map PyData.int) = true
  | [] => by simp [PyData.canLayAll0]
  | w :: r => by simp [PyData.canLayAll0, PyData.canLay0, layInts r]
theorem depthInts : ∀ ws : List Int, PyData.depthAll (ws.map PyData.int) = 0
  | [] => by simp [PyData.depthAll]
  | w :: r => by simp [PyData.depthAll, PyData.depth, depthInts r]
theorem shInts (ws : List Int) : SeqAt.shaped (.list (ws.map PyData.int)) = true := by
  simp [SeqAt.shaped, PyData.canLay0, PyData.depth, layInts, depthInts]
theorem dpInts {K : PySem.W.Frag} {H : Hp} : ∀ ws : List Int, DpAll K H (ws.map V.int) (ws.map PyData.int)
  | [] => .nil
  | w :: r => .cons (.int w) (dpInts r)
theorem dpI {K : PySem.W.Frag} {H : Hp} {a : Addr} {ws : List Int} (h : SqL K H a (ws.map V.int)) : Dp K H (.ref a) (.list (ws.map PyData.int)) := .lst h (dpInts ws)
theorem eqvI (ws : List Int) : PyData.eqv (.list (ws.map PyData.int)) (.list (ws.map PyData.int)) = true := SeqAt.eqv_refl _ (by simp [PyData.canLay0, layInts])
theorem neLL {K : PySem.W.Frag} {H : Hp} {Q : VK} {a b : Addr} {ws : List Int} (h1 : SqL K H a (ws.map V.int)) (h2 : SqL K H b (ws.map V.int)) (q : Q (.bl false) H) : rNeD K (.ref a) (.ref b) H Q :=
  ⟨_, _, dpI h1, dpI h2, shInts _, shInts _, by rw [eqvI]; exact q⟩
theorem eqLL {K : PySem.W.Frag} {H : Hp} {Q : VK} {a b : Addr} {ws : List Int} (h1 : SqL K H a (ws.map V.int)) (h2 : SqL K H b (ws.map V.int)) (q : Q (.bl true) H) : rEqD K (.ref a) (.ref b) H Q :=
  ⟨_, _, dpI h1, dpI h2, shInts _, shInts _, by rw [eqvI]; exact q⟩

/-! ### Euclid and lowest terms -/
def eStep (p : Nat × Nat) : Nat × Nat := if p.2 = 0 then p else (p.2, p.1 % p.2)
def euc : Nat → Nat × Nat → Nat × Nat
  | 0, p => p
  | i + 1, p => euc i (eStep p)
theorem euc_succ : ∀ (i : Nat) (p : Nat × Nat), euc (i + 1) p = eStep (euc i p)
  | 0, p => rfl
  | i + 1, p => euc_succ i (eStep p)
theorem eStep_gcd (p : Nat × Nat) : Nat.gcd (eStep p).1 (eStep p).2 = Nat.gcd p.1 p.2 := by
  unfold eStep
  split
  · rfl
  · show Nat.gcd p.2 (p.1 % p.2) = Nat.gcd p.1 p.2
    rw [Nat.gcd_comm p.1 p.2, Nat.gcd_rec p.2 p.1, Nat.gcd_comm]
theorem euc_gcd : ∀ (i : Nat) (p : Nat × Nat), Nat.gcd (euc i p).1 (euc i p).2 = Nat.gcd p.1 p.2
  | 0, p => rfl
  | i + 1, p => (euc_gcd i (eStep p)).trans (eStep_gcd p)
theorem eStep_zero {p : Nat × Nat} (h : p.2 = 0) : eStep p = p := if_pos h
theorem euc_zero : ∀ (i : Nat) {p : Nat × Nat}, p.2 = 0 → euc i p = p
  | 0, _, _ => rfl
  | i + 1, p, h => by
    show euc i (eStep p) = p
    rw [eStep_zero h]
    exact euc_zero i h
theorem eStep2 (p : Nat × Nat) : 2 * (eStep (eStep p)).2 ≤ p.2 := by
  obtain ⟨a, b⟩ := p
  by_cases hb : b = 0
  · rw [eStep_zero (p := (a, b)) hb, eStep_zero (p := (a, b)) hb]
    show 2 * b ≤ b
    omega
  · have e1 : eStep (a, b) = (b, a % b) := if_neg hb
    rw [e1]
    have hc : a % b < b := Nat.mod_lt _ (by omega)
    by_cases h0 : a % b = 0
    · rw [eStep_zero (p := (b, a % b)) h0]
      show 2 * (a % b) ≤ b
      omega
    · have e2 : eStep (b, a % b) = (a % b, b % (a % b)) := if_neg h0
      rw [e2]
      show 2 * (b % (a % b)) ≤ b
      have h1 : b % (a % b) < a % b := Nat.mod_lt _ (by omega)
      have h2 := Nat.div_add_mod b (a % b)
      have h3 : 1 ≤ b / (a % b) := Nat.div_pos (by omega) (by omega)
      have h4 : (a % b) * 1 ≤ (a % b) * (b / (a % b)) := Nat.mul_le_mul_left _ h3
      omega
theorem euc_end : ∀ (n : Nat) (p : Nat × Nat), p.2 < 2 ^ n → (euc (2 * n) p).2 = 0
  | 0, p, h => by
    have h' : p.2 < 1 := h
    show p.2 = 0
    omega
  | n + 1, p, h => by
    show (euc (2 * n) (eStep (eStep p))).2 = 0
    refine euc_end n _ ?_
    have := eStep2 p
    rw [Nat.pow_succ] at h
    omega
theorem euc_add : ∀ (i j : Nat) (p : Nat × Nat), euc (i + j) p = euc j (euc i p)
  | 0, j, p => by rw [Nat.zero_add]; rfl
  | i + 1, j, p => by
    rw [show i + 1 + j = (i + j) + 1 by omega]
    exact euc_add i j (eStep p)
theorem euc_5000 {p : Nat × Nat} (h : p.2 < 2 ^ 2400) : (euc 5000 p).2 = 0 := by
  rw [show (5000 : Nat) = 2 * 2400 + 200 from rfl, euc_add, euc_zero 200 (euc_end 2400 p h)]
  exact euc_end 2400 p h
def gN (p q : Int) : Nat := Nat.gcd p.natAbs q.natAbs
def gI (p q : Int) : Int := if q < 0 then -(gN p q : Int) else (gN p q : Int)
def lo (p q : Int) : Int × Int := (p.fdiv (gI p q), q.fdiv (gI p q))
theorem gN_pos {p q : Int} (h : q ≠ 0) : 0 < gN p q := Nat.gcd_pos_of_pos_right _ (by omega)
theorem gI_ne {p q : Int} (h : q ≠ 0) : gI p q ≠ 0 := by
  have := gN_pos (p := p) h
  unfold gI
  split <;> omega
theorem gN_le {p q : Int} (h : q ≠ 0) : gN p q ≤ q.natAbs := Nat.le_of_dvd (by omega) (Nat.gcd_dvd_right _ _)
theorem gI_abs (p q : Int) : (gI p q).natAbs = gN p q := by
  unfold gI
  split <;> omega
theorem dvdI {g : Nat} {p : Int} (h : g ∣ p.natAbs) : ∃ a : Int, p = (g : Int) * a ∧ p.natAbs = g * a.natAbs := by
  obtain ⟨c, hc⟩ := Int.ofNat_dvd_left.mpr h
  refine ⟨c, hc, ?_⟩
  rw [hc, Int.natAbs_mul]
  simp
/-- lowest terms: exactly divided, a denominator of at least 1, no common part -/
theorem lo_spec {p q : Int} (h : q ≠ 0) : ∃ a b : Int, lo p q = (a, b) ∧ 1 ≤ b ∧ Nat.gcd a.natAbs b.natAbs = 1 ∧ p = gI p q * a ∧ q = gI p q * b := by
  obtain ⟨a, ha, ha2⟩ := dvdI (Nat.gcd_dvd_left p.natAbs q.natAbs)
  obtain ⟨b, hb, hb2⟩ := dvdI (Nat.gcd_dvd_right p.natAbs q.natAbs)
  have hg := gN_pos (p := p) h
  have hcop : Nat.gcd a.natAbs b.natAbs = 1 := by
    have e := Nat.gcd_mul_left (gN p q) a.natAbs b.natAbs
    have e2 : gN p q * a.natAbs = p.natAbs := ha2.symm
    have e3 : gN p q * b.natAbs = q.natAbs := hb2.symm
    rw [e2, e3] at e
    have e4 : gN p q * 1 = gN p q * Nat.gcd a.natAbs b.natAbs := by rw [Nat.mul_one]; exact e
    exact (Nat.eq_of_mul_eq_mul_left hg e4).symm
  have ha' : p = (gN p q : Int) * a := ha
  have hb' : q = (gN p q : Int) * b := hb
  have gpos : (0 : Int) < (gN p q : Int) := by omega
  have hb0 : b ≠ 0 := fun z => by
    rw [z, Int.mul_zero] at hb'
    exact h hb'
  by_cases hq : q < 0
  · have eg : gI p q = -(gN p q : Int) := if_pos hq
    have hbn : b < 0 := by
      rcases Int.lt_or_le b 0 with z | z
      · exact z
      · have := Int.mul_nonneg (Int.le_of_lt gpos) z
        omega
    have ep : p = gI p q * -a := by rw [eg, Int.neg_mul_neg]; exact ha'
    have eq : q = gI p q * -b := by rw [eg, Int.neg_mul_neg]; exact hb'
    refine ⟨-a, -b, ?_, by omega, by rw [Int.natAbs_neg, Int.natAbs_neg]; exact hcop, ep, eq⟩
    have g0 := gI_ne (p := p) h
    unfold lo
    have f1 : p.fdiv (gI p q) = -a := by
      have := Int.mul_fdiv_cancel_left (-a) g0
      rw [← ep] at this
      exact this
    have f2 : q.fdiv (gI p q) = -b := by
      have := Int.mul_fdiv_cancel_left (-b) g0
      rw [← eq] at this
      exact this
    rw [f1, f2]
  · have eg : gI p q = (gN p q : Int) := if_neg hq
    have hbp : 0 < b := by
      rcases Int.lt_or_le 0 b with z | z
      · exact z
      · have := Int.mul_nonpos_of_nonneg_of_nonpos (Int.le_of_lt gpos) z
        omega
    have ep : p = gI p q * a := by rw [eg]; exact ha'
    have eq : q = gI p q * b := by rw [eg]; exact hb'
    refine ⟨a, b, ?_, by omega, hcop, ep, eq⟩
    have g0 := gI_ne (p := p) h
    unfold lo
    have f1 : p.fdiv (gI p q) = a := by
      have := Int.mul_fdiv_cancel_left a g0
      rw [← ep] at this
      exact this
    have f2 : q.fdiv (gI p q) = b := by
      have := Int.mul_fdiv_cancel_left b g0
      rw [← eq] at this
      exact this
    rw [f1, f2]
theorem lo_pos {p q : Int} (h : q ≠ 0) : 1 ≤ (lo p q).2 := by
  obtain ⟨a, b, e, h1, _⟩ := lo_spec (p := p) h
  rw [e]; exact h1
theorem lo_cop {p q : Int} (h : q ≠ 0) : Nat.gcd (lo p q).1.natAbs (lo p q).2.natAbs = 1 := by
  obtain ⟨a, b, e, _, h1, _⟩ := lo_spec (p := p) h
  rw [e]; exact h1
theorem abs_le_mul {g a : Int} (h : g ≠ 0) : a.natAbs ≤ (g * a).natAbs := by
  rw [Int.natAbs_mul]
  exact Nat.le_mul_of_pos_left _ (by omega)
theorem lo_abs1 {p q : Int} (h : q ≠ 0) : (lo p q).1.natAbs ≤ p.natAbs := by
  obtain ⟨a, b, e, _, _, h1, _⟩ := lo_spec (p := p) h
  rw [e]
  have := abs_le_mul (a := a) (gI_ne (p := p) h)
  rw [← h1] at this
  exact this
theorem lo_abs2 {p q : Int} (h : q ≠ 0) : (lo p q).2.natAbs ≤ q.natAbs := by
  obtain ⟨a, b, e, _, _, _, h1⟩ := lo_spec (p := p) h
  rw [e]
  have := abs_le_mul (a := b) (gI_ne (p := p) h)
  rw [← h1] at this
  exact this

/-! ### fractions: tuples of two ints -/
section frac
variable {K : PySem.W.Frag}
abbrev Fr := Int × Int
def frV (f : Fr) : List V := [.int f.1, .int f.2]
/-- at x there is no tuple -/
def NoTup (H : Hp) (x : Addr) : Prop := ∀ xs, ¬ Rd H x (.tup xs)
theorem NoTup.of {H : Hp} {x : Addr} {o : HO} (h : H x = some o) (n : ∀ xs, o ≠ .tup xs ∧ ∀ u, o ≠ .frz u (.tup xs)) : NoTup H x := fun xs r => by
  rcases r with r | ⟨u, r⟩
  · rw [h] at r; exact (n xs).1 (Option.some.inj r)
  · rw [h] at r; exact (n xs).2 u (Option.some.inj r)
theorem NoTup.lst {H : Hp} {x : Addr} {xs : List V} (h : H x = some (.lst xs)) : NoTup H x := NoTup.of h fun ys => ⟨by simp, by simp⟩
theorem NoTup.new {H : Hp} {x : Addr} (h : H x = none) : NoTup H x := fun xs r => by
  rcases r with r | ⟨u, r⟩ <;> rw [h] at r <;> cases r
theorem kpTup {K : PySem.W.Frag} {M : List Addr} {H H' : Hp} {a : Addr} {xs : List V} (h : SqT K H a xs) (k : Kp M H H') (n : ∀ x ∈ M, NoTup H x) : SqT K H' a xs := by
  rcases h with h | h
  · have na : a ∉ M := fun z => n a z xs h
    exact k.tup na (.inl h)
  · exact .inr h
/-- a fraction at a, a new one or one of the top -/
def FrAt (K : PySem.W.Frag) (H : Hp) (a : Addr) (f : Fr) : Prop := SqT K H a (frV f)
theorem FrAt.kp {M : List Addr} {H H' : Hp} {a : Addr} {f : Fr} (h : FrAt K H a f) (k : Kp M H H') (n : ∀ x ∈ M, NoTup H x) : FrAt K H' a f := kpTup h k n
theorem FrAt.kp0 {H H' : Hp} {a : Addr} {f : Fr} (h : FrAt K H a f) (k : Kp [] H H') : FrAt K H' a f := k.tup nin0 h
theorem FrAt.kpl {H H' : Hp} {a l : Addr} {f : Fr} {xs : List V} (h : FrAt K H a f) (k : Kp [l] H H') (e : H l = some (.lst xs)) : FrAt K H' a f := kpTup h k fun x hx => by
  rw [List.mem_singleton.mp hx]
  exact NoTup.lst e
theorem fr0 (f : Fr) : atI (frV f) 0 = some (.int f.1) := rfl
theorem fr1 (f : Fr) : atI (frV f) 1 = some (.int f.2) := rfl
/-- small enough for the machine's ints -/
def FrB (n : Nat) (f : Fr) : Prop := f.1.natAbs < 2 ^ n ∧ f.2.natAbs < 2 ^ n
theorem FrB.mono {n m : Nat} {f : Fr} (h : FrB n f) (l : n ≤ m) : FrB m f := ⟨Nat.lt_of_lt_of_le h.1 (Nat.pow_le_pow_right (by decide) l), Nat.lt_of_lt_of_le h.2 (Nat.pow_le_pow_right (by decide) l)⟩
theorem lo_B {n : Nat} {p q : Int} (h : q ≠ 0) (h1 : p.natAbs < 2 ^ n) (h2 : q.natAbs < 2 ^ n) : FrB n (lo p q) := ⟨Nat.lt_of_le_of_lt (lo_abs1 h) h1, Nat.lt_of_le_of_lt (lo_abs2 h) h2⟩
theorem add_B {n : Nat} {a b : Int} (h1 : a.natAbs < 2 ^ n) (h2 : b.natAbs < 2 ^ n) : (a + b).natAbs < 2 ^ (n + 1) := by
  rw [Nat.pow_succ]
  omega
theorem sub_B {n : Nat} {a b : Int} (h1 : a.natAbs < 2 ^ n) (h2 : b.natAbs < 2 ^ n) : (a - b).natAbs < 2 ^ (n + 1) := by
  rw [Nat.pow_succ]
  omega
theorem mul_B {n m : Nat} {a b : Int} (h1 : a.natAbs < 2 ^ n) (h2 : b.natAbs < 2 ^ m) : (a * b).natAbs < 2 ^ (n + m) := wide_lt h1 h2
theorem up_B {n m : Nat} {a : Int} (h : a.natAbs < 2 ^ n) (l : n ≤ m) : a.natAbs < 2 ^ m := Nat.lt_of_lt_of_le h (Nat.pow_le_pow_right (by decide) l)
theorem mul_ok {n : Nat} {a b : Int} (h1 : a.natAbs < 2 ^ n) (h2 : b.natAbs < 2 ^ n) (h0 : 0 < n := by omega) (h : n ≤ 400000 := by omega) : CMulW a b := wide_mul h1 h2 h0 h0 (by omega)
def fplus (f g : Fr) : Fr := lo (f.1 * g.2 + g.1 * f.2) (f.2 * g.2)
def fminus (f g : Fr) : Fr := lo (f.1 * g.2 - g.1 * f.2) (f.2 * g.2)
def ftimes (f g : Fr) : Fr := lo (f.1 * g.1) (f.2 * g.2)
def fover (f g : Fr) : Fr := lo (f.1 * g.2) (f.2 * g.1)
def fless (f g : Fr) : Bool := decide (f.1 * g.2 < g.1 * f.2)
theorem fplus_B {n m : Nat} {f g : Fr} (hf : FrB n f) (hg : FrB m g) (h1 : f.2 ≠ 0) (h2 : g.2 ≠ 0) : FrB (n + m + 1) (fplus f g) :=
  lo_B (Int.mul_ne_zero h1 h2) (add_B (mul_B hf.1 hg.2) (by rw [Nat.add_comm n m]; exact mul_B hg.1 hf.2)) (up_B (mul_B hf.2 hg.2) (by omega))
theorem fminus_B {n m : Nat} {f g : Fr} (hf : FrB n f) (hg : FrB m g) (h1 : f.2 ≠ 0) (h2 : g.2 ≠ 0) : FrB (n + m + 1) (fminus f g) :=
  lo_B (Int.mul_ne_zero h1 h2) (sub_B (mul_B hf.1 hg.2) (by rw [Nat.add_comm n m]; exact mul_B hg.1 hf.2)) (up_B (mul_B hf.2 hg.2) (by omega))
theorem ftimes_B {n m : Nat} {f g : Fr} (hf : FrB n f) (hg : FrB m g) (h1 : f.2 ≠ 0) (h2 : g.2 ≠ 0) : FrB (n + m) (ftimes f g) := lo_B (Int.mul_ne_zero h1 h2) (mul_B hf.1 hg.1) (mul_B hf.2 hg.2)
theorem fplus_pos {f g : Fr} (h1 : f.2 ≠ 0) (h2 : g.2 ≠ 0) : 1 ≤ (fplus f g).2 := lo_pos (Int.mul_ne_zero h1 h2)
/-! ### samphire.errors, samphire.ratios -/
def spZD (C : Addr) : Sp := fun vs H Q _ => ∃ a : Addr, vs = [.ref a] ∧ H a = some (exo a C none) ∧ Q .non H
theorem ok_ZeroDenominator_init {P : Program} {w : World} {K : PySem.W.Frag} {mg : Str → Option Value} {base : Heap} (T : T P K mg base) : FnOk P w K mg base CX0 1 T.a_ZeroDenominator_init ((NF_ZeroDenominator T.cc_ZeroDenominator T.c_ZeroDenominator).fd T.doc_ZeroDenominator T.pm_ZeroDenominator T.ctv_ZeroDenominator) ["self"] (spZD T.C_ZeroDenominator) := by
  refine Sup.fn_super (F := NF_ZeroDenominator T.cc_ZeroDenominator T.c_ZeroDenominator) (p := "self") (ps' := []) T.x_ZeroDenominator.S T.lk_ZeroDenominator rfl T.hc_ZeroDenominator sc_ZeroDenominator_init rfl ⟨_, rfl, rfl⟩ rfl rfl (fun _ => rfl) (fun _ => ⟨_, rfl⟩) (fun _ => rfl) (fun vs H Q E h => ?_) (fun A outer s H vs Q E hr h => ?_)
  · obtain ⟨a, rfl, _⟩ := h
    rfl
  · obtain ⟨a, rfl, ha, q⟩ := h
    exact ⟨a, [], _, _, rfl, ha, pa_cons pe_str pa_nil, pss_nil, by decide, ha, q⟩
def spLowest (K : PySem.W.Frag) (C : Addr) : Sp := fun vs H Q E => ∃ p q : Int, vs = [.int p, .int q] ∧ q.natAbs < 2 ^ 8000 ∧ (q = 0 → E (.ref C) none H) ∧ (q ≠ 0 → ∀ H' b, H b = none → Kp [] H H' → FrAt K H' b (lo p q) → Q (.ref b) H')
theorem del_upd {H : Hp} {a : Addr} {o : HO} (h : H a = none) : del (upd H a o) a = H := by
  funext b
  by_cases hb : b = a
  · rw [hb, del_same, h]
  · rw [del_ne hb, upd_ne hb]
theorem ok_lowest {P : Program} {w : World} {K : PySem.W.Frag} {mg : Str → Option Value} {base : Heap} (T : T P K mg base) : FnOk P w K mg base (L2.CX P w) 3 T.a_lowest T.fd_lowest ["p", "q"] (spLowest K T.C_ZeroDenominator) := by
  refine T.F_lowest.okX sc_lowest (fun vs H Q E h => ?_) (fun cdv A outer s H vs Q E hr h => ?_)
  · obtain ⟨p, q, rfl, _⟩ := h
    rfl
  · obtain ⟨p, q, rfl, hb, h0, h1⟩ := h
    refine ⟨_, (pss_cons (ps_if (pt_cmpR op_eq (pv 1) pe_int (nomark _)) (pss_one (ps_raise rfl (takes_of rfl rfl rfl rfl) (Sup.pmk_oexN T.x_ZeroDenominator.S.T T.x_ZeroDenominator.iC T.x_ZeroDenominator.tI (ok_ZeroDenominator_init T) (hr.mono (by decide)) (T.bx_ZeroDenominator) pass0 (by rfl) T.x_ZeroDenominator.g))) pss_nil)
      (pss_cons (ps_set (i := 2) sc_lowest.nd rfl (by first | exact Or.inl rfl | exact Or.inr rfl) (pe_callBfun cr_gcd (by rfl) T.g_gcd (pa_cons (pv 0) (pa_cons (pv 1) pa_nil))))
      (Z.pss_consJ (ps_if (pt_cmpR op_lt (pv 1) pe_int (nomark _)) (pss_one (ps_set (i := 2) sc_lowest.nd rfl (by first | exact Or.inl rfl | exact Or.inr rfl) (pe_un un_neg (pv 2)))) pss_nil)
      (pss_one (ps_ret (pe_tup (pa_cons (pe_op Z.op_fdivA (pv 0) (pv 2)) (pa_cons (pe_op Z.op_fdivA (pv 1) (pv 2)) pa_nil)))))))), ?_⟩
    walk_at "z0"
    walk_at "z"
    refine Z.ite (fun hq => ?_) (fun hq => ?_)
    · refine Z.mkN fun a na => ⟨a, rfl, upd_same, rfl, upd_same, ?_⟩
      rw [del_upd na]
      exact h0 hq
    · walk_at "z"
      have hg := gI_ne (p := p) hq
      have hdv : Z.CDivA p (gI p q) := Z.divA (b := 8000) hg (by rw [gI_abs]; exact Nat.lt_of_le_of_lt (gN_le hq) hb) (by decide) (by decide)
      have hdv2 : Z.CDivA q (gI p q) := hdv
      refine Z.seqJ (fun σ' H' => σ' = [some (.int p), some (.int q), some (.int (gI p q))] ∧ H' = H) ?_ ?_
      · rintro σ' H' ⟨rfl, rfl⟩
        walk_at "z"
        refine Z.iC hdv ?_
        walk_at "z"
        refine Z.iC hdv2 ?_
        refine Z.tupK (fun b H1 nb k1 e1 => ?_)
        exact h1 hq _ _ nb k1 (tupT e1)
      · intro N jn
        walk_at "z"
        refine Z.ite (fun h2 => ?_) (fun h2 => ?_)
        · walk_at "z"
          refine jn _ _ ⟨?_, rfl⟩
          unfold gI
          rw [if_pos h2]; rfl
        · walk_at "z"
          refine jn _ _ ⟨?_, rfl⟩
          unfold gI
          rw [if_neg h2]; rfl
/-- two fractions in, a fraction out -/
def spF2 (K : PySem.W.Frag) (o : Fr → Fr → Fr) : Sp := fun vs H Q _ => ∃ (a b : Addr) (f g : Fr), vs = [.ref a, .ref b] ∧ FrAt K H a f ∧ FrAt K H b g ∧ f.2 ≠ 0 ∧ g.2 ≠ 0 ∧ FrB 3900 f ∧ FrB 3900 g ∧ ∀ H' c, H c = none → Kp [] H H' → FrAt K H' c (o f g) → Q (.ref c) H'
theorem ok_plus {P : Program} {w : World} {K : PySem.W.Frag} {mg : Str → Option Value} {base : Heap} (T : T P K mg base) : FnOk P w K mg base CX0 4 T.a_plus T.fd_plus ["a", "b"] (spF2 K fplus) := by
  refine T.F_plus.ok sc_plus (fun vs H Q E h => ?_) (fun cdv A outer s H vs Q E hr h => ?_)
  · obtain ⟨a, b, f, g, rfl, _⟩ := h
    rfl
  · obtain ⟨a, b, f, g, rfl, ha, hb, hf, hg, Bf, Bg, q⟩ := h
    refine ⟨_, (pss_one (ps_ret (pe_call (ok_lowest T) (hr.mono (by decide)) (by rfl) T.g_lowest T.F_lowest.kp T.b_lowest .nil passL (pa_cons (pe_op op_add (pe_op op_mulW (pe_ix ix_tup (pv 0) pe_int (fun _ _ => rfl)) (pe_ix ix_tup (pv 1) pe_int (fun _ _ => rfl))) (pe_op op_mulW (pe_ix ix_tup (pv 1) pe_int (fun _ _ => rfl)) (pe_ix ix_tup (pv 0) pe_int (fun _ _ => rfl)))) (pa_cons (pe_op op_mulW (pe_ix ix_tup (pv 0) pe_int (fun _ _ => rfl)) (pe_ix ix_tup (pv 1) pe_int (fun _ _ => rfl))) pa_nil))))), ?_⟩
    walk_at "z0"
    walk_at "z"
    refine Z.ixT ha (fr0 f) ?_
    walk_at "z"
    refine Z.ixT hb (fr1 g) ?_
    walk_at "z"
    refine Z.iC (mul_ok Bf.1 Bg.2) ?_
    walk_at "z"
    refine Z.ixT hb (fr0 g) ?_
    walk_at "z"
    refine Z.ixT ha (fr1 f) ?_
    walk_at "z"
    refine Z.iC (mul_ok Bg.1 Bf.2) ?_
    walk_at "z"
    refine Z.ixT ha (fr1 f) ?_
    walk_at "z"
    refine Z.ixT hb (fr1 g) ?_
    walk_at "z"
    refine Z.iC (mul_ok Bf.2 Bg.2) ?_
    walk_at "z"
    exact ⟨_, _, rfl, up_B (mul_B Bf.2 Bg.2) (by decide), fun z => absurd z (Int.mul_ne_zero hf hg), fun _ H' c nc k e => q _ _ nc k e⟩
theorem ok_minus {P : Program} {w : World} {K : PySem.W.Frag} {mg : Str → Option Value} {base : Heap} (T : T P K mg base) : FnOk P w K mg base CX0 4 T.a_minus T.fd_minus ["a", "b"] (spF2 K fminus) := by
  refine T.F_minus.ok sc_minus (fun vs H Q E h => ?_) (fun cdv A outer s H vs Q E hr h => ?_)
  · obtain ⟨a, b, f, g, rfl, _⟩ := h
    rfl
  · obtain ⟨a, b, f, g, rfl, ha, hb, hf, hg, Bf, Bg, q⟩ := h
    refine ⟨_, (pss_one (ps_ret (pe_call (ok_lowest T) (hr.mono (by decide)) (by rfl) T.g_lowest T.F_lowest.kp T.b_lowest .nil passL (pa_cons (pe_op op_sub (pe_op op_mulW (pe_ix ix_tup (pv 0) pe_int (fun _ _ => rfl)) (pe_ix ix_tup (pv 1) pe_int (fun _ _ => rfl))) (pe_op op_mulW (pe_ix ix_tup (pv 1) pe_int (fun _ _ => rfl)) (pe_ix ix_tup (pv 0) pe_int (fun _ _ => rfl)))) (pa_cons (pe_op op_mulW (pe_ix ix_tup (pv 0) pe_int (fun _ _ => rfl)) (pe_ix ix_tup (pv 1) pe_int (fun _ _ => rfl))) pa_nil))))), ?_⟩
    walk_at "z0"
    walk_at "z"
    refine Z.ixT ha (fr0 f) ?_
    walk_at "z"
    refine Z.ixT hb (fr1 g) ?_
    walk_at "z"
    refine Z.iC (mul_ok Bf.1 Bg.2) ?_
    walk_at "z"
    refine Z.ixT hb (fr0 g) ?_
    walk_at "z"
    refine Z.ixT ha (fr1 f) ?_
    walk_at "z"
    refine Z.iC (mul_ok Bg.1 Bf.2) ?_
    walk_at "z"
    refine Z.ixT ha (fr1 f) ?_
    walk_at "z"
    refine Z.ixT hb (fr1 g) ?_
    walk_at "z"
    refine Z.iC (mul_ok Bf.2 Bg.2) ?_
    walk_at "z"
    exact ⟨_, _, rfl, up_B (mul_B Bf.2 Bg.2) (by decide), fun z => absurd z (Int.mul_ne_zero hf hg), fun _ H' c nc k e => q _ _ nc k e⟩
theorem ok_times {P : Program} {w : World} {K : PySem.W.Frag} {mg : Str → Option Value} {base : Heap} (T : T P K mg base) : FnOk P w K mg base CX0 4 T.a_times T.fd_times ["a", "b"] (spF2 K ftimes) := by
  refine T.F_times.ok sc_times (fun vs H Q E h => ?_) (fun cdv A outer s H vs Q E hr h => ?_)
  · obtain ⟨a, b, f, g, rfl, _⟩ := h
    rfl
  · obtain ⟨a, b, f, g, rfl, ha, hb, hf, hg, Bf, Bg, q⟩ := h
    refine ⟨_, (pss_one (ps_ret (pe_call (ok_lowest T) (hr.mono (by decide)) (by rfl) T.g_lowest T.F_lowest.kp T.b_lowest .nil passL (pa_cons (pe_op op_mulW (pe_ix ix_tup (pv 0) pe_int (fun _ _ => rfl)) (pe_ix ix_tup (pv 1) pe_int (fun _ _ => rfl))) (pa_cons (pe_op op_mulW (pe_ix ix_tup (pv 0) pe_int (fun _ _ => rfl)) (pe_ix ix_tup (pv 1) pe_int (fun _ _ => rfl))) pa_nil))))), ?_⟩
    walk_at "z0"
    walk_at "z"
    refine Z.ixT ha (fr0 f) ?_
    walk_at "z"
    refine Z.ixT hb (fr0 g) ?_
    walk_at "z"
    refine Z.iC (mul_ok Bf.1 Bg.1) ?_
    walk_at "z"
    refine Z.ixT ha (fr1 f) ?_
    walk_at "z"
    refine Z.ixT hb (fr1 g) ?_
    walk_at "z"
    refine Z.iC (mul_ok Bf.2 Bg.2) ?_
    walk_at "z"
    exact ⟨_, _, rfl, up_B (mul_B Bf.2 Bg.2) (by decide), fun z => absurd z (Int.mul_ne_zero hf hg), fun _ H' c nc k e => q _ _ nc k e⟩
def spLess (K : PySem.W.Frag) : Sp := fun vs H Q _ => ∃ (a b : Addr) (f g : Fr), vs = [.ref a, .ref b] ∧ FrAt K H a f ∧ FrAt K H b g ∧ FrB 3900 f ∧ FrB 3900 g ∧ Q (.bl (fless f g)) H
theorem ok_less {P : Program} {w : World} {K : PySem.W.Frag} {mg : Str → Option Value} {base : Heap} (T : T P K mg base) : FnOk P w K mg base CX0 1 T.a_less T.fd_less ["a", "b"] (spLess K) := by
  refine T.F_less.ok sc_less (fun vs H Q E h => ?_) (fun cdv A outer s H vs Q E hr h => ?_)
  · obtain ⟨a, b, f, g, rfl, _⟩ := h
    rfl
  · obtain ⟨a, b, f, g, rfl, ha, hb, Bf, Bg, q⟩ := h
    refine ⟨_, (pss_one (ps_ret (pe_cmpR op_lt (pe_op op_mulW (pe_ix ix_tup (pv 0) pe_int (fun _ _ => rfl)) (pe_ix ix_tup (pv 1) pe_int (fun _ _ => rfl))) (pe_op op_mulW (pe_ix ix_tup (pv 1) pe_int (fun _ _ => rfl)) (pe_ix ix_tup (pv 0) pe_int (fun _ _ => rfl))) (nomark _)))), ?_⟩
    walk_at "z0"
    walk_at "z"
    refine Z.ixT ha (fr0 f) ?_
    walk_at "z"
    refine Z.ixT hb (fr1 g) ?_
    walk_at "z"
    refine Z.iC (mul_ok Bf.1 Bg.2) ?_
    walk_at "z"
    refine Z.ixT hb (fr0 g) ?_
    walk_at "z"
    refine Z.ixT ha (fr1 f) ?_
    walk_at "z"
    refine Z.iC (mul_ok Bg.1 Bf.2) ?_
    walk_at "z"
    exact q
/-- lists of fractions -/
def FrsAt (K : PySem.W.Frag) (H : Hp) (as : List Addr) (fs : List Fr) : Prop := Paired (fun a f => FrAt K H a f) as fs
theorem FrsAt.kp {M : List Addr} {H H' : Hp} {as : List Addr} {fs : List Fr} (h : FrsAt K H as fs) (k : Kp M H H') (n : ∀ x ∈ M, NoTup H x) : FrsAt K H' as fs := by
  induction h with
  | nil => exact .nil
  | cons r t ih => exact .cons (FrAt.kp r k n) ih
theorem FrsAt.kp0 {H H' : Hp} {as : List Addr} {fs : List Fr} (h : FrsAt K H as fs) (k : Kp [] H H') : FrsAt K H' as fs := h.kp k fun _ h => by cases h
theorem FrsAt.kpl {H H' : Hp} {as : List Addr} {fs : List Fr} {l : Addr} {xs : List V} (h : FrsAt K H as fs) (k : Kp [l] H H') (e : H l = some (.lst xs)) : FrsAt K H' as fs := h.kp k fun x hx => by
  rw [List.mem_singleton.mp hx]
  exact NoTup.lst e
theorem FrsAt.get {H : Hp} : ∀ {as : List Addr} {fs : List Fr} {i : Nat} {v : V}, FrsAt K H as fs → (as.map V.ref)[i]? = some v → ∃ a f, v = .ref a ∧ fs[i]? = some f ∧ FrAt K H a f
  | _, _, i, v, .nil, h => by simp at h
  | _, _, 0, v, .cons r t, h => by
    simp at h
    exact ⟨_, _, h.symm, rfl, r⟩
  | _, _, i + 1, v, .cons r t, h => by
    obtain ⟨a, f, e1, e2, e3⟩ := FrsAt.get (i := i) t (by simpa using h)
    exact ⟨a, f, e1, by simpa using e2, e3⟩
theorem FrsAt.len {H : Hp} {as : List Addr} {fs : List Fr} (h : FrsAt K H as fs) : as.length = fs.length := Paired.length h
theorem FrsAt.snoc {H : Hp} {as : List Addr} {fs : List Fr} {a : Addr} {f : Fr} (h : FrsAt K H as fs) (r : FrAt K H a f) : FrsAt K H (as ++ [a]) (fs ++ [f]) := by
  induction h with
  | nil => exact .cons r .nil
  | cons r t ih => exact .cons r ih
theorem FrsAt.app {H : Hp} {as bs : List Addr} {fs gs : List Fr} (h : FrsAt K H as fs) (r : FrsAt K H bs gs) : FrsAt K H (as ++ bs) (fs ++ gs) := by
  induction h with
  | nil => exact r
  | cons r t ih => exact .cons r ih
theorem FrsAt.take {H : Hp} : ∀ {as : List Addr} {fs : List Fr} (i : Nat), FrsAt K H as fs → FrsAt K H (as.take i) (fs.take i)
  | _, _, 0, _ => by rw [List.take_zero, List.take_zero]; exact .nil
  | _, _, i + 1, .nil => by rw [List.take_nil, List.take_nil]; exact .nil
  | _, _, i + 1, .cons r t => .cons r (FrsAt.take i t)
theorem FrsAt.drop {H : Hp} : ∀ {as : List Addr} {fs : List Fr} (i : Nat), FrsAt K H as fs → FrsAt K H (as.drop i) (fs.drop i)
  | _, _, 0, h => h
  | _, _, i + 1, .nil => by rw [List.drop_nil, List.drop_nil]; exact .nil
  | _, _, i + 1, .cons r t => FrsAt.drop i t
/-- data -/
def frD (f : Fr) : PyData := .tuple [.int f.1, .int f.2]
theorem dpF {H : Hp} {a : Addr} {f : Fr} (h : FrAt K H a f) : Dp K H (.ref a) (frD f) := .tup h (.cons (.int _) (.cons (.int _) .nil))
theorem frD_sh (f : Fr) : SeqAt.shaped (frD f) = true := by
  simp [frD, SeqAt.shaped, PyData.canLay0, PyData.canLayAll0, PyData.depth, PyData.depthAll]
theorem frD_eq (f : Fr) : PyData.eqv (frD f) (frD f) = true := SeqAt.eqv_refl _ (by simp [frD, PyData.canLay0, PyData.canLayAll0])
theorem neFF {K : PySem.W.Frag} {H : Hp} {Q : VK} {a b : Addr} {f : Fr} (h1 : FrAt K H a f) (h2 : FrAt K H b f) (q : Q (.bl false) H) : rNeD K (.ref a) (.ref b) H Q :=
  ⟨_, _, dpF h1, dpF h2, frD_sh _, frD_sh _, by rw [frD_eq]; exact q⟩
theorem dpFs {K : PySem.W.Frag} {H : Hp} : ∀ {as : List Addr} {fs : List Fr}, FrsAt K H as fs → DpAll K H (as.map V.ref) (fs.map frD)
  | _, _, .nil => .nil
  | _, _, .cons r t => .cons (dpF r) (dpFs t)
theorem layFs : ∀ fs : List Fr, PyData.canLayAll0 (fs.map frD) = true
  | [] => by simp [PyData.canLayAll0]
  | f :: r => by simp [PyData.canLayAll0, frD, PyData.canLay0, layFs r]
theorem depthFs : ∀ fs : List Fr, PyData.depthAll (fs.map frD) ≤ 1
  | [] => by simp [PyData.depthAll]
  | f :: r => by
    have := depthFs r
    simp [PyData.depthAll, frD, PyData.depth]
    exact Nat.max_le.mpr ⟨by omega, this⟩
theorem shFs (fs : List Fr) : SeqAt.shaped (.list (fs.map frD)) = true := by
  have := depthFs fs
  simp only [SeqAt.shaped, PyData.canLay0, PyData.depth, layFs, Bool.true_and]
  exact decide_eq_true (by omega)
theorem neFL {K : PySem.W.Frag} {H : Hp} {Q : VK} {a b : Addr} {as : List Addr} {fs : List Fr} (h1 : H a = some (.lst (as.map V.ref))) (h2 : H b = some (.lst (as.map V.ref))) (h : FrsAt K H as fs) (q : Q (.bl false) H) : rNeD K (.ref a) (.ref b) H Q :=
  ⟨_, _, .lst (lstL h1) (dpFs h), .lst (lstL h2) (dpFs h), shFs _, shFs _, by rw [SeqAt.eqv_refl (.list (fs.map frD)) (by simp [PyData.canLay0, layFs])]; exact q⟩
end frac
/-- sums, from the left -/
def fsum (t : Fr) (fs : List Fr) : Fr := fs.foldl fplus t
theorem fsum_B : ∀ {fs : List Fr} {t : Fr} {n m : Nat}, FrB n t → t.2 ≠ 0 → (∀ f ∈ fs, FrB m f ∧ f.2 ≠ 0) → FrB (n + fs.length * (m + 1)) (fsum t fs) ∧ (fsum t fs).2 ≠ 0
  | [], t, n, m, h, h0, _ => by
    refine ⟨?_, h0⟩
    show FrB (n + 0 * (m + 1)) t
    rw [Nat.zero_mul]
    exact h
  | f :: r, t, n, m, h, h0, hf => by
    have h1 := hf f (by simp)
    have hp := fplus_pos h0 h1.2
    have ih := fsum_B (fs := r) (t := fplus t f) (n := n + m + 1) (m := m) (fplus_B h h1.1 h0 h1.2) (by omega) fun g hg => hf g (by simp [hg])
    refine ⟨?_, ih.2⟩
    have e : n + (f :: r).length * (m + 1) = n + m + 1 + r.length * (m + 1) := by
      rw [List.length_cons, Nat.add_mul]
      omega
    rw [e]
    exact ih.1
theorem fsum_take {t : Fr} {fs : List Fr} {i : Nat} {f : Fr} (h : fs[i]? = some f) : fsum t (fs.take (i + 1)) = fplus (fsum t (fs.take i)) f := by
  unfold fsum
  rw [List.take_add_one, h, List.foldl_append]
  rfl
def spSumOf (K : PySem.W.Frag) (m k : Nat) : Sp := fun vs H Q _ => ∃ (a : Addr) (as : List Addr) (fs : List Fr), vs = [.ref a] ∧ SqL K H a (as.map V.ref) ∧ FrsAt K H as fs ∧ (∀ f ∈ fs, FrB m f ∧ f.2 ≠ 0) ∧ fs.length ≤ k ∧ ∀ H' c, Kp [] H H' → FrAt K H' c (fsum (0, 1) fs) → Q (.ref c) H'
theorem ok_sum_of_any {P : Program} {w : World} {K : PySem.W.Frag} {mg : Str → Option Value} {base : Heap} (T : T P K mg base) (m k : Nat) (hm : m ≤ 3900) (hk : 1 + k * (m + 1) ≤ 3900) : FnOk P w K mg base CX0 5 T.a_sum_of T.fd_sum_of ["fractions"] (spSumOf K m k) := by
  refine T.F_sum_of.ok sc_sum_of (fun vs H Q E h => ?_) (fun cdv A outer s H vs Q E hr h => ?_)
  · obtain ⟨a, as, fs, rfl, _⟩ := h
    rfl
  · obtain ⟨a, as, fs, rfl, hS, hF, hB, hl, q⟩ := h
    refine ⟨_, (pss_cons (ps_set (i := 1) sc_sum_of.nd rfl (by first | exact Or.inl rfl | exact Or.inr rfl) (pe_glob (v := .ref T.k_ZERO) (by rfl) T.g_ZERO rfl))
      (pss_cons (ps_for PassesOwn.never rfl (pi_list (pv 0)) (pg_name (i := 2) sc_sum_of.nd rfl (by first | exact Or.inl rfl | exact Or.inr rfl)) (pss_one (ps_set (i := 1) sc_sum_of.nd rfl (by first | exact Or.inl rfl | exact Or.inr rfl) (pe_call (ok_plus T) (hr.mono (by decide)) (by rfl) T.g_plus T.F_plus.kp T.b_plus .nil pass0 (pa_cons (pv 1) (pa_cons (pv 2) pa_nil))))))
      (pss_one (ps_ret (pv 1))))), ?_⟩
    walk_at "z0"
    walk_at "z"
    refine Z.forl (as.map V.ref) hS (fun i σ' H' => ∃ c y, σ' = [some (.ref a), some (.ref c), y] ∧ Kp [] H H' ∧ FrAt K H' c (fsum (0, 1) (fs.take i))) ?_ ?_ ?_ ?_
    · exact ⟨T.k_ZERO, none, rfl, Kp.refl _, T.q_ZERO H⟩
    · rintro i σ' H' _ ⟨c, y, rfl, k2, _⟩
      exact k2.seq nin0 hS
    · rintro i v σ' H' hv ⟨c, y, rfl, k2, e2⟩
      obtain ⟨x, f, rfl, hf, hx⟩ := (hF.kp0 k2).get hv
      have hfB := hB f (List.mem_of_getElem? hf)
      have hB1 := fsum_B (fs := fs.take i) (t := (0, 1)) (n := 1) (m := m) ⟨by decide, by decide⟩ (by decide) fun g hg => hB g (List.mem_of_mem_take hg)
      have hle : 1 + (fs.take i).length * (m + 1) ≤ 3900 := Nat.le_trans (Nat.add_le_add_left (Nat.mul_le_mul_right _ (Nat.le_trans (by rw [List.length_take]; exact Nat.min_le_right _ _) hl)) 1) hk
      walk_at "z"
      refine ⟨c, x, _, f, rfl, e2, hx, hB1.2, hfB.2, hB1.1.mono hle, hfB.1.mono hm, fun H3 d nd k3 e3 => ?_⟩
      walk_at "z"
      exact ⟨d, _, rfl, k2.trans k3, by rw [fsum_take hf]; exact e3⟩
    · rintro σ' H' ⟨c, y, rfl, k2, e2⟩
      walk_at "z"
      rw [List.length_map, hF.len, List.take_length] at e2
      exact q _ _ k2 e2

/-! ### fractions as rational numbers -/
def rv (f : Int × Int) : Rat := (f.1 : Rat) / (f.2 : Rat)
theorem ratNe {q : Int} (h : q ≠ 0) : (q : Rat) ≠ 0 := fun z => h (by exact_mod_cast z)
theorem ratPos {q : Int} (h : 0 < q) : (0 : Rat) < (q : Rat) := by exact_mod_cast h
theorem div_eqR {a b c : Rat} (h : b ≠ 0) : a / b = c ↔ a = c * b := by
  constructor
  · rintro rfl
    rw [Rat.div_mul_cancel h]
  · rintro rfl
    rw [Rat.mul_div_cancel h]
theorem rv_lo {p q : Int} (h : q ≠ 0) : rv (lo p q) = (p : Rat) / (q : Rat) := by
  obtain ⟨a, b, e, h1, h2, h3, h4⟩ := lo_spec (p := p) h
  rw [e]
  have hb : (b : Rat) ≠ 0 := ratNe (by omega)
  have hg : (gI p q : Rat) ≠ 0 := ratNe (gI_ne h)
  have hq : (q : Rat) = (gI p q : Rat) * (b : Rat) := by exact_mod_cast h4
  have hp : (p : Rat) = (gI p q : Rat) * (a : Rat) := by exact_mod_cast h3
  show (a : Rat) / (b : Rat) = (p : Rat) / (q : Rat)
  rw [hp, hq]
  grind

/-- a fraction in lowest terms -/
def Low (f : Int × Int) : Prop := 1 ≤ f.2 ∧ Nat.gcd f.1.natAbs f.2.natAbs = 1
theorem lo_low {p q : Int} (h : q ≠ 0) : Low (lo p q) := ⟨lo_pos h, lo_cop h⟩
theorem Low.ne {f : Int × Int} (h : Low f) : f.2 ≠ 0 := by have := h.1; omega
theorem Low.pos {f : Int × Int} (h : Low f) : (0 : Rat) < (f.2 : Rat) := ratPos (by have := h.1; omega)
theorem rv_eqI {f g : Int × Int} (h1 : f.2 ≠ 0) (h2 : g.2 ≠ 0) : rv f = rv g ↔ f.1 * g.2 = g.1 * f.2 := by
  have a1 := ratNe h1
  have a2 := ratNe h2
  unfold rv
  constructor
  · intro h
    have h3 : (f.1 : Rat) * (g.2 : Rat) = (g.1 : Rat) * (f.2 : Rat) := by grind
    exact_mod_cast h3
  · intro h
    have h3 : (f.1 : Rat) * (g.2 : Rat) = (g.1 : Rat) * (f.2 : Rat) := by exact_mod_cast h
    grind
theorem low_eq {f g : Int × Int} (h1 : Low f) (h2 : Low g) (h : rv f = rv g) : f = g := by
  have h3 := (rv_eqI h1.ne h2.ne).mp h
  obtain ⟨a, b⟩ := f
  obtain ⟨c, d⟩ := g
  obtain ⟨hb, h1⟩ := h1
  obtain ⟨hd, h2⟩ := h2
  dsimp only at *
  have e1 : a.natAbs * d.natAbs = c.natAbs * b.natAbs := by rw [← Int.natAbs_mul, ← Int.natAbs_mul, h3]
  have d1 : b.natAbs ∣ d.natAbs := by
    have : b.natAbs ∣ a.natAbs * d.natAbs := ⟨c.natAbs, by rw [e1, Nat.mul_comm]⟩
    exact Nat.Coprime.dvd_of_dvd_mul_left (Nat.Coprime.symm h1) this
  have d2 : d.natAbs ∣ b.natAbs := by
    have : d.natAbs ∣ c.natAbs * b.natAbs := ⟨a.natAbs, by rw [← e1, Nat.mul_comm]⟩
    exact Nat.Coprime.dvd_of_dvd_mul_left (Nat.Coprime.symm h2) this
  have e2 := Nat.dvd_antisymm d1 d2
  have e3 : b = d := by omega
  subst e3
  have e4 : a = c := Int.eq_of_mul_eq_mul_right (by omega) h3
  rw [e4]
theorem rv_lt {f g : Int × Int} (h1 : 1 ≤ f.2) (h2 : 1 ≤ g.2) : f.1 * g.2 < g.1 * f.2 ↔ rv f < rv g := by
  have a1 : (0 : Rat) < (f.2 : Rat) := ratPos (by omega)
  have a2 : (0 : Rat) < (g.2 : Rat) := ratPos (by omega)
  have e1 : (f.1 : Rat) = rv f * (f.2 : Rat) := by unfold rv; rw [Rat.div_mul_cancel (ratNe (by omega))]
  have e2 : (g.1 : Rat) = rv g * (g.2 : Rat) := by unfold rv; rw [Rat.div_mul_cancel (ratNe (by omega))]
  have hp : (0 : Rat) < (f.2 : Rat) * (g.2 : Rat) := Rat.mul_pos a1 a2
  have k : f.1 * g.2 < g.1 * f.2 ↔ (f.1 : Rat) * (g.2 : Rat) < (g.1 : Rat) * (f.2 : Rat) := by
    constructor
    · intro h; exact_mod_cast h
    · intro h; exact_mod_cast h
  rw [k, e1, e2]
  have e3 : rv f * (f.2 : Rat) * (g.2 : Rat) = rv f * ((f.2 : Rat) * (g.2 : Rat)) := by grind
  have e4 : rv g * (g.2 : Rat) * (f.2 : Rat) = rv g * ((f.2 : Rat) * (g.2 : Rat)) := by grind
  rw [e3, e4]
  constructor
  · intro h
    by_cases z : rv f < rv g
    · exact z
    · by_cases z2 : rv f = rv g
      · rw [z2] at h; exact absurd h (Rat.lt_irrefl)
      · have z3 : rv g < rv f := by grind
        have := Rat.mul_lt_mul_of_pos_right z3 hp
        grind
  · intro h
    exact Rat.mul_lt_mul_of_pos_right h hp
theorem rv_pos {f : Int × Int} (h1 : 1 ≤ f.2) : 0 < f.1 ↔ 0 < rv f := by
  have := rv_lt (f := (0, 1)) (g := f) (by decide) h1
  have e : rv (0, 1) = 0 := by unfold rv; grind
  rw [e] at this
  rw [← this]
  show _ ↔ 0 * f.2 < f.1 * 1
  rw [Int.zero_mul, Int.mul_one]
theorem rv_int (n : Int) : rv (n, 1) = (n : Rat) := by unfold rv; grind

/-! ### thresholds -/
/-- the sum of the lesser ones of t and the weights -/
def cap (t : Rat) : List Rat → Rat
  | [] => 0
  | w :: r => (if w < t then w else t) + cap t r
structure Thr (ws : List Rat) (k : Nat) (t : Rat) : Prop where
  small : ws.length ≤ k → t = 0
  big : k < ws.length → 0 < t ∧ cap t ws = (k : Rat) * t
theorem cap_app (t : Rat) : ∀ a b : List Rat, cap t (a ++ b) = cap t a + cap t b
  | [], b => by show cap t b = 0 + cap t b; grind
  | w :: r, b => by
    show (if w < t then w else t) + cap t (r ++ b) = (if w < t then w else t) + cap t r + cap t b
    rw [cap_app t r b]
    grind
theorem cap_all {t : Rat} : ∀ {ws : List Rat}, (∀ w ∈ ws, t ≤ w) → cap t ws = (ws.length : Rat) * t
  | [], _ => by show (0 : Rat) = ((0 : Nat) : Rat) * t; grind
  | w :: r, h => by
    have h1 := h w (by simp)
    show (if w < t then w else t) + cap t r = _
    rw [cap_all (ws := r) fun z hz => h z (by simp [hz]), if_neg (by grind), List.length_cons]
    have e : ((r.length + 1 : Nat) : Rat) = (r.length : Rat) + 1 := by exact_mod_cast rfl
    rw [e]
    grind
theorem cap_ge {t : Rat} (ht : 0 ≤ t) : ∀ {ws : List Rat}, (∀ w ∈ ws, 0 < w) → 0 ≤ cap t ws
  | [], _ => by show (0 : Rat) ≤ 0; grind
  | w :: r, h => by
    have h1 := h w (by simp)
    have h2 := cap_ge ht (ws := r) fun z hz => h z (by simp [hz])
    show 0 ≤ (if w < t then w else t) + cap t r
    split <;> grind
theorem cap_one {s t w : Rat} (hs : 0 < s) (h : s < t) (hw : 0 < w) : (if w < t then w else t) * s ≤ (if w < s then w else s) * t ∧ (w < t → (if w < t then w else t) * s < (if w < s then w else s) * t) := by
  have ht : 0 < t := by grind
  by_cases h1 : w < s
  · have h2 : w < t := by grind
    rw [if_pos h1, if_pos h2]
    have := Rat.mul_lt_mul_of_pos_left h hw
    exact ⟨by grind, fun _ => this⟩
  · rw [if_neg h1]
    by_cases h2 : w < t
    · rw [if_pos h2]
      have := Rat.mul_lt_mul_of_pos_right h2 hs
      have e : s * t = t * s := Rat.mul_comm s t
      rw [e]
      exact ⟨by grind, fun _ => this⟩
    · rw [if_neg h2]
      exact ⟨by grind, fun z => absurd z h2⟩
theorem cap_cmp {s t : Rat} (hs : 0 < s) (h : s < t) : ∀ {ws : List Rat}, (∀ w ∈ ws, 0 < w) → cap t ws * s ≤ cap s ws * t ∧ (cap t ws * s = cap s ws * t → ∀ w ∈ ws, t ≤ w)
  | [], _ => ⟨by show (0 : Rat) * s ≤ 0 * t; grind, fun _ w hw => by cases hw⟩
  | w :: r, hp => by
    have h1 := cap_one hs h (hp w (by simp))
    have h2 := cap_cmp hs h (ws := r) fun z hz => hp z (by simp [hz])
    have e1 : cap t (w :: r) = (if w < t then w else t) + cap t r := rfl
    have e2 : cap s (w :: r) = (if w < s then w else s) + cap s r := rfl
    rw [e1, e2, Rat.add_mul, Rat.add_mul]
    generalize (if w < t then w else t) * s = a at *
    generalize (if w < s then w else s) * t = b at *
    generalize cap t r * s = c at *
    generalize cap s r * t = d at *
    refine ⟨by grind, fun e z hz => ?_⟩
    rcases List.mem_cons.mp hz with rfl | hz
    · by_cases hw : z < t
      · have := h1.2 hw
        grind
      · grind
    · exact h2.2 (by grind) z hz
theorem natR_lt {a b : Nat} (h : a < b) : (a : Rat) < (b : Rat) := by exact_mod_cast h
/-- above the threshold there is room -/
theorem thr_le {ws : List Rat} {k : Nat} {t s : Rat} (hp : ∀ w ∈ ws, 0 < w) (h : Thr ws k t) (hk : k < ws.length) (hs : 0 < s) (hc : cap s ws ≤ (k : Rat) * s) : t ≤ s := by
  by_cases z : t ≤ s
  · exact z
  · have hst : s < t := by grind
    obtain ⟨ht, e⟩ := h.big hk
    have h1 := cap_cmp hs hst hp
    have h2 : cap s ws * t ≤ (k : Rat) * s * t := Rat.mul_le_mul_of_nonneg_right hc (by grind)
    rw [e] at h1
    have h3 : (k : Rat) * t * s = (k : Rat) * s * t := by grind
    have h4 := h1.2 (by grind)
    have h5 := cap_all h4
    rw [e] at h5
    have h6 := Rat.mul_lt_mul_of_pos_right (natR_lt hk) ht
    grind
theorem thr_ge {ws : List Rat} {k : Nat} {t s : Rat} (hp : ∀ w ∈ ws, 0 < w) (h : Thr ws k t) (hk : k < ws.length) (hs : 0 < s) (hc : (k : Rat) * s ≤ cap s ws) : s ≤ t := by
  by_cases z : s ≤ t
  · exact z
  · have hst : t < s := by grind
    obtain ⟨ht, e⟩ := h.big hk
    have h1 := cap_cmp ht hst hp
    have h2 : (k : Rat) * s * t ≤ cap s ws * t := Rat.mul_le_mul_of_nonneg_right hc (by grind)
    rw [e] at h1
    have h3 : (k : Rat) * t * s = (k : Rat) * s * t := by grind
    have h4 := h1.2 (by grind)
    have h7 : ∀ w ∈ ws, t ≤ w := fun w hw => by have := h4 w hw; grind
    have h5 := cap_all h7
    rw [e] at h5
    have h6 := Rat.mul_lt_mul_of_pos_right (natR_lt hk) ht
    grind
theorem thr_uniq {ws : List Rat} {k : Nat} {t s : Rat} (hp : ∀ w ∈ ws, 0 < w) (h : Thr ws k t) (h2 : Thr ws k s) : t = s := by
  by_cases hk : k < ws.length
  · obtain ⟨hs, e⟩ := h2.big hk
    have a := thr_le hp h hk hs (by grind)
    have b := thr_ge hp h hk hs (by grind)
    grind
  · rw [h.small (by omega), h2.small (by omega)]
theorem thr_nonneg {ws : List Rat} {k : Nat} {t : Rat} (h : Thr ws k t) : 0 ≤ t := by
  by_cases hk : k < ws.length
  · have := (h.big hk).1; grind
  · rw [h.small (by omega)]; grind
theorem cap_perm {t : Rat} {a b : List Rat} (h : a.Perm b) : cap t a = cap t b := by
  induction h with
  | nil => rfl
  | cons x _ ih => show _ + cap t _ = _ + cap t _; rw [ih]
  | swap x y l => show _ + (_ + cap t l) = _ + (_ + cap t l); grind
  | trans _ _ h1 h2 => exact h1.trans h2
theorem Thr.perm {a b : List Rat} {k : Nat} {t : Rat} (h : Thr a k t) (p : a.Perm b) : Thr b k t := ⟨fun hl => h.small (by rw [p.length_eq]; exact hl), fun hl => by rw [← cap_perm p]; exact h.big (by rw [p.length_eq]; exact hl)⟩

/-! ### calculations with fractions, as rational numbers -/
theorem rv_fplus {f g : Fr} (h1 : f.2 ≠ 0) (h2 : g.2 ≠ 0) : rv (fplus f g) = rv f + rv g := by
  unfold fplus
  rw [rv_lo (Int.mul_ne_zero h1 h2)]
  have a1 := ratNe h1
  have a2 := ratNe h2
  have e1 : ((f.1 * g.2 + g.1 * f.2 : Int) : Rat) = (f.1 : Rat) * (g.2 : Rat) + (g.1 : Rat) * (f.2 : Rat) := by exact_mod_cast rfl
  have e2 : ((f.2 * g.2 : Int) : Rat) = (f.2 : Rat) * (g.2 : Rat) := by exact_mod_cast rfl
  rw [e1, e2]
  unfold rv
  grind
theorem rv_fminus {f g : Fr} (h1 : f.2 ≠ 0) (h2 : g.2 ≠ 0) : rv (fminus f g) = rv f - rv g := by
  unfold fminus
  rw [rv_lo (Int.mul_ne_zero h1 h2)]
  have a1 := ratNe h1
  have a2 := ratNe h2
  have e1 : ((f.1 * g.2 - g.1 * f.2 : Int) : Rat) = (f.1 : Rat) * (g.2 : Rat) - (g.1 : Rat) * (f.2 : Rat) := by exact_mod_cast rfl
  have e2 : ((f.2 * g.2 : Int) : Rat) = (f.2 : Rat) * (g.2 : Rat) := by exact_mod_cast rfl
  rw [e1, e2]
  unfold rv
  grind
theorem rv_ftimes {f g : Fr} (h1 : f.2 ≠ 0) (h2 : g.2 ≠ 0) : rv (ftimes f g) = rv f * rv g := by
  unfold ftimes
  rw [rv_lo (Int.mul_ne_zero h1 h2)]
  have a1 := ratNe h1
  have a2 := ratNe h2
  have e1 : ((f.1 * g.1 : Int) : Rat) = (f.1 : Rat) * (g.1 : Rat) := by exact_mod_cast rfl
  have e2 : ((f.2 * g.2 : Int) : Rat) = (f.2 : Rat) * (g.2 : Rat) := by exact_mod_cast rfl
  rw [e1, e2]
  unfold rv
  grind
theorem fless_iff {f g : Fr} (h1 : 1 ≤ f.2) (h2 : 1 ≤ g.2) : fless f g = decide (rv f < rv g) := by
  unfold fless
  rw [decide_eq_decide]
  exact rv_lt h1 h2
theorem fplus_low {f g : Fr} (h1 : f.2 ≠ 0) (h2 : g.2 ≠ 0) : Low (fplus f g) := lo_low (Int.mul_ne_zero h1 h2)
theorem rv_fsum : ∀ {fs : List Fr} {t : Fr}, Low t → (∀ f ∈ fs, f.2 ≠ 0) → rv (fsum t fs) = rv t + (fs.map rv).sum ∧ Low (fsum t fs)
  | [], t, h, _ => ⟨by show rv t = rv t + 0; grind, h⟩
  | f :: r, t, h, hf => by
    have h1 := hf f (by simp)
    have ih := rv_fsum (fs := r) (t := fplus t f) (fplus_low h.ne h1) fun g hg => hf g (by simp [hg])
    refine ⟨?_, ih.2⟩
    show rv (fsum (fplus t f) r) = _
    rw [ih.1, rv_fplus h.ne h1, List.map_cons, List.sum_cons]
    grind
theorem eqv_fr (f g : Fr) : PyData.eqv (frD f) (frD g) = decide (f = g) := by
  obtain ⟨a, b⟩ := f
  obtain ⟨c, d⟩ := g
  simp [frD, PyData.eqv, PyData.eqvAll, Prod.ext_iff]
  rfl
theorem eqF {K : PySem.W.Frag} {H : Hp} {Q : VK} {a b : Addr} {f g : Fr} (h1 : FrAt K H a f) (h2 : FrAt K H b g) (q : Q (.bl (decide (f = g))) H) : rEqD K (.ref a) (.ref b) H Q :=
  ⟨_, _, dpF h1, dpF h2, frD_sh _, frD_sh _, by rw [eqv_fr]; exact q⟩
theorem neF {K : PySem.W.Frag} {H : Hp} {Q : VK} {a b : Addr} {f g : Fr} (h1 : FrAt K H a f) (h2 : FrAt K H b g) (q : Q (.bl (!decide (f = g))) H) : rNeD K (.ref a) (.ref b) H Q :=
  ⟨_, _, dpF h1, dpF h2, frD_sh _, frD_sh _, by rw [eqv_fr]; exact q⟩

/-! ### samphire.laws: check_chances, law_from -/
section lawfrom
variable {K : PySem.W.Frag}
open LamX LamK
/-- the partial sums are small -/
def SumOk (fs : List Fr) : Prop := (∀ f ∈ fs, FrB 3900 f ∧ f.2 ≠ 0) ∧ ∀ i, FrB 3900 (fsum (0, 1) (fs.take i)) ∧ (fsum (0, 1) (fs.take i)).2 ≠ 0
def spSumG (K : PySem.W.Frag) : Sp := fun vs H Q _ => ∃ (a : Addr) (as : List Addr) (fs : List Fr), vs = [.ref a] ∧ SqL K H a (as.map V.ref) ∧ FrsAt K H as fs ∧ SumOk fs ∧ ∀ H' c, Kp [] H H' → FrAt K H' c (fsum (0, 1) fs) → Q (.ref c) H'
theorem ok_sum_of {P : Program} {w : World} {K : PySem.W.Frag} {mg : Str → Option Value} {base : Heap} (T : T P K mg base) : FnOk P w K mg base CX0 5 T.a_sum_of T.fd_sum_of ["fractions"] (spSumG K) := by
  refine T.F_sum_of.ok sc_sum_of (fun vs H Q E h => ?_) (fun cdv A outer s H vs Q E hr h => ?_)
  · obtain ⟨a, as, fs, rfl, _⟩ := h
    rfl
  · obtain ⟨a, as, fs, rfl, hS, hF, hB, q⟩ := h
    refine ⟨_, (pss_cons (ps_set (i := 1) sc_sum_of.nd rfl (by first | exact Or.inl rfl | exact Or.inr rfl) (pe_glob (v := .ref T.k_ZERO) (by rfl) T.g_ZERO rfl))
      (pss_cons (ps_for PassesOwn.never rfl (pi_list (pv 0)) (pg_name (i := 2) sc_sum_of.nd rfl (by first | exact Or.inl rfl | exact Or.inr rfl)) (pss_one (ps_set (i := 1) sc_sum_of.nd rfl (by first | exact Or.inl rfl | exact Or.inr rfl) (pe_call (ok_plus T) (hr.mono (by decide)) (by rfl) T.g_plus T.F_plus.kp T.b_plus .nil pass0 (pa_cons (pv 1) (pa_cons (pv 2) pa_nil))))))
      (pss_one (ps_ret (pv 1))))), ?_⟩
    walk_at "z0"
    walk_at "z"
    refine Z.forl (as.map V.ref) hS (fun i σ' H' => ∃ c y, σ' = [some (.ref a), some (.ref c), y] ∧ Kp [] H H' ∧ FrAt K H' c (fsum (0, 1) (fs.take i))) ?_ ?_ ?_ ?_
    · exact ⟨T.k_ZERO, none, rfl, Kp.refl _, T.q_ZERO H⟩
    · rintro i σ' H' _ ⟨c, y, rfl, k2, _⟩
      exact k2.seq nin0 hS
    · rintro i v σ' H' hv ⟨c, y, rfl, k2, e2⟩
      obtain ⟨x, f, rfl, hf, hx⟩ := (hF.kp0 k2).get hv
      have hfB := hB.1 f (List.mem_of_getElem? hf)
      have hB1 := hB.2 i
      walk_at "z"
      refine ⟨c, x, _, f, rfl, e2, hx, hB1.2, hfB.2, hB1.1, hfB.1, fun H3 d nd k3 e3 => ?_⟩
      walk_at "z"
      exact ⟨d, _, rfl, k2.trans k3, by rw [fsum_take hf]; exact e3⟩
    · rintro σ' H' ⟨c, y, rfl, k2, e2⟩
      walk_at "z"
      rw [List.length_map, hF.len, List.take_length] at e2
      exact q _ _ k2 e2
def chOkB (fs : List Fr) : Bool := (fs.all fun f => !fless f (0, 1)) && decide (fsum (0, 1) fs = (1, 1))
theorem ok_InvalidLaw_init {P : Program} {w : World} {K : PySem.W.Frag} {mg : Str → Option Value} {base : Heap} (T : T P K mg base) : FnOk P w K mg base CX0 1 T.a_InvalidLaw_init ((NF_InvalidLaw T.cc_InvalidLaw T.c_InvalidLaw).fd T.doc_InvalidLaw T.pm_InvalidLaw T.ctv_InvalidLaw) ["self"] (spZD T.C_InvalidLaw) := by
  refine Sup.fn_super (F := NF_InvalidLaw T.cc_InvalidLaw T.c_InvalidLaw) (p := "self") (ps' := []) T.x_InvalidLaw.S T.lk_InvalidLaw rfl T.hc_InvalidLaw sc_InvalidLaw_init rfl ⟨_, rfl, rfl⟩ rfl rfl (fun _ => rfl) (fun _ => ⟨_, rfl⟩) (fun _ => rfl) (fun vs H Q E h => ?_) (fun A outer s H vs Q E hr h => ?_)
  · obtain ⟨a, rfl, _⟩ := h
    rfl
  · obtain ⟨a, rfl, ha, q⟩ := h
    exact ⟨a, [], _, _, rfl, ha, pa_cons pe_str pa_nil, pss_nil, by decide, ha, q⟩
def spCheck (K : PySem.W.Frag) (C : Addr) : Sp := fun vs H Q E => ∃ (a : Addr) (as : List Addr) (fs : List Fr), vs = [.ref a] ∧ SqL K H a (as.map V.ref) ∧ FrsAt K H as fs ∧ SumOk fs ∧ (chOkB fs = true → ∀ H', Kp [] H H' → Q .non H') ∧ (chOkB fs = false → ∀ H', Kp [] H H' → E (.ref C) none H')
theorem ok_check_chances {P : Program} {w : World} {K : PySem.W.Frag} {mg : Str → Option Value} {base : Heap} (T : T P K mg base) : FnOk P w K mg base (L2.CX P w) 6 T.a_check_chances T.fd_check_chances ["chances"] (spCheck K T.C_InvalidLaw) := by
  refine T.F_check_chances.okX sc_check_chances (fun vs H Q E h => ?_) (fun cdv A outer s H vs Q E hr h => ?_)
  · obtain ⟨a, as, fs, rfl, _⟩ := h
    rfl
  · obtain ⟨a, as, fs, rfl, hS, hF, hB, q, qE⟩ := h
    refine ⟨_, (pss_cons (ps_for (passes_of rfl) rfl (pi_list (pv 0)) (pg_name (i := 1) sc_check_chances.nd rfl (by first | exact Or.inl rfl | exact Or.inr rfl)) (pss_one (ps_if (pt_val (pe_call (ok_less T) (hr.mono (by decide)) (by rfl) T.g_less T.F_less.kp T.b_less .nil pass0 (pa_cons (pv 1) (pa_cons (pe_glob (v := .ref T.k_ZERO) (by rfl) T.g_ZERO rfl) pa_nil)))) (pss_one (ps_raise rfl (takes_of rfl rfl rfl rfl) (Sup.pmk_oexN T.x_InvalidLaw.S.T T.x_InvalidLaw.iC T.x_InvalidLaw.tI (ok_InvalidLaw_init T) (hr.mono (by decide)) (T.bx_InvalidLaw) pass0 (by rfl) T.x_InvalidLaw.g))) pss_nil)))
      (pss_one (ps_if (pt_cmpR (op_neD hr.units) (pe_call (ok_sum_of T) (hr.mono (by decide)) (by rfl) T.g_sum_of T.F_sum_of.kp T.b_sum_of .nil pass0 (pa_cons (pv 0) pa_nil)) (pe_glob (v := .ref T.k_ONE) (by rfl) T.g_ONE rfl) (nomark _)) (pss_one (ps_raise rfl (takes_of rfl rfl rfl rfl) (Sup.pmk_oexN T.x_InvalidLaw.S.T T.x_InvalidLaw.iC T.x_InvalidLaw.tI (ok_InvalidLaw_init T) (hr.mono (by decide)) (T.bx_InvalidLaw) pass0 (by rfl) T.x_InvalidLaw.g))) pss_nil))), ?_⟩
    walk_at "z0"
    walk_at "z"
    refine Z.forl (as.map V.ref) hS (fun i σ' H' => ∃ y, σ' = [some (.ref a), y] ∧ H' = H ∧ ∀ f ∈ fs.take i, fless f (0, 1) = false) ?_ ?_ ?_ ?_
    · exact ⟨_, rfl, rfl, by simp⟩
    · rintro i σ' H' _ ⟨y, rfl, rfl, _⟩
      exact hS
    · rintro i v σ' H' hv ⟨y, rfl, rfl, hl⟩
      obtain ⟨x, f, rfl, hf, hx⟩ := hF.get hv
      have hfB := hB.1 f (List.mem_of_getElem? hf)
      walk_at "z"
      refine ⟨x, T.k_ZERO, f, (0, 1), rfl, hx, T.q_ZERO _, hfB.1, ⟨by decide, by decide⟩, ?_⟩
      cases hfl : fless f (0, 1) with
      | true =>
        walk_at "z"
        refine Z.mkN fun a na => ⟨a, rfl, upd_same, rfl, upd_same, ?_⟩
        rw [del_upd na]
        refine qE ?_ _ (Kp.refl _)
        unfold chOkB
        rw [show (fs.all fun f => !fless f (0, 1)) = false from by
          refine Bool.eq_false_iff.mpr fun z => ?_
          have := List.all_eq_true.mp z f (List.mem_of_getElem? hf)
          rw [hfl] at this
          cases this]
        rfl
      | false =>
        walk_at "z"
        refine ⟨_, rfl, rfl, fun g hg => ?_⟩
        rw [List.take_add_one, hf] at hg
        rcases List.mem_append.mp hg with hg | hg
        · exact hl g hg
        · obtain rfl : g = f := by simpa using hg
          exact hfl
    · rintro σ' H' ⟨y, rfl, rfl, hl⟩
      rw [List.length_map, hF.len, List.take_length] at hl
      have hall : (fs.all fun f => !fless f (0, 1)) = true := List.all_eq_true.mpr fun f hf => by rw [hl f hf]; rfl
      walk_at "z"
      refine ⟨a, as, fs, rfl, hS, hF, hB, fun H2 c k2 e2 => ?_⟩
      walk_at "z"
      refine neF (g := (1, 1)) e2 (T.q_ONE _) ?_
      unfold chOkB at q qE
      rw [hall, Bool.true_and] at q qE
      walk_at "z"
      refine Z.iteN (fun h1 => ?_) (fun h1 => ?_)
      · walk_at "z"
        refine Z.mkN fun a na => ⟨a, rfl, upd_same, rfl, upd_same, ?_⟩
        rw [del_upd na]
        exact qE (decide_eq_false h1) _ k2
      · walk_at "z"
        exact q (decide_eq_true h1) _ k2
end lawfrom

section lawfrom2
variable {K : PySem.W.Frag}
open LamX LamK
/-- a row of a law: the tuple at a, the outcome v, d as data, the chance at c -/
structure LRow where
  a : Addr
  v : V
  d : PyData
  c : Addr
  f : Fr
def LRow.dat (r : LRow) : PyData × Fr := (r.d, r.f)
def LRow.r (r : LRow) : V := .ref r.a
structure DOk (d : PyData) : Prop where
  flat : noLst d = true
  deep : d.depth ≤ 60
  sh : SeqAt.shaped d = true
structure LRowAt (K : PySem.W.Frag) (H : Hp) (r : LRow) : Prop where
  tup : SqT K H r.a [r.v, .ref r.c]
  dp : Dp K H r.v r.d
  fr : FrAt K H r.c r.f
  ok : DOk r.d
mutual
theorem dp_kp {M : List Addr} {H H' : Hp} (k : Kp M H H') (n : ∀ x ∈ M, NoTup H x) : ∀ (d : PyData) {v : V}, noLst d = true → Dp K H v d → Dp K H' v d
  | .none, _, _, .non => .non
  | .bool _, _, _, .bl b => .bl b
  | .int _, _, _, .int i => .int i
  | .str _, _, _, .str x => .str x
  | .list _, _, z, _ => by simp [noLst] at z
  | .dict _, _, z, _ => by simp [noLst] at z
  | .tuple ds, _, z, .tup h r => .tup (kpTup h k n) (dp_kpAll k n ds (by simpa [noLst] using z) r)
theorem dp_kpAll {M : List Addr} {H H' : Hp} (k : Kp M H H') (n : ∀ x ∈ M, NoTup H x) : ∀ (ds : List PyData) {vs : List V}, noLstAll ds = true → DpAll K H vs ds → DpAll K H' vs ds
  | [], _, _, .nil => .nil
  | d :: ds, _, z, .cons h r => by
    have z' : noLst d = true ∧ noLstAll ds = true := by simpa [noLstAll] using z
    exact .cons (dp_kp k n d z'.1 h) (dp_kpAll k n ds z'.2 r)
end
theorem LRowAt.ext {H H' : Hp} {r : LRow} (h : LRowAt K H r) (e : ExtN H H') : LRowAt K H' r := ⟨ext_tup e h.tup, ext_dp e _ h.dp, ext_tup e h.fr, h.ok⟩
theorem LRowAt.kpM {M : List Addr} {H H' : Hp} {r : LRow} (h : LRowAt K H r) (k : Kp M H H') (n : ∀ x ∈ M, NoTup H x) : LRowAt K H' r := ⟨kpTup h.tup k n, dp_kp k n _ h.ok.flat h.dp, FrAt.kp h.fr k n, h.ok⟩
theorem LRowAt.kp0 {H H' : Hp} {r : LRow} (h : LRowAt K H r) (k : Kp [] H H') : LRowAt K H' r := h.kpM k (by simp)
theorem LRowAt.kpl {H H' : Hp} {r : LRow} {l : Addr} {xs : List V} (h : LRowAt K H r) (k : Kp [l] H H') (e : H l = some (.lst xs)) : LRowAt K H' r := h.kpM k fun x hx => by
  rw [List.mem_singleton.mp hx]
  exact NoTup.lst e
/-- rows gathered: equal neighbours are added -/
def stp (acc : List (PyData × Fr)) (x : PyData × Fr) : List (PyData × Fr) := match acc.getLast? with
  | some y => if PyData.eqv y.1 x.1 = true then acc.dropLast ++ [(x.1, fplus y.2 x.2)] else acc ++ [x]
  | none => [x]
theorem stp_nil (x : PyData × Fr) : stp [] x = [x] := rfl
theorem stp_last (o : List (PyData × Fr)) (y x : PyData × Fr) : stp (o ++ [y]) x = if PyData.eqv y.1 x.1 = true then o ++ [(x.1, fplus y.2 x.2)] else o ++ [y] ++ [x] := by
  unfold stp
  rw [List.getLast?_concat, List.dropLast_concat]
def srtd (rs : List LRow) : List LRow := rs.mergeSort (PySem.W.dataLe false LRow.d)
def lawOf (rs : List LRow) : List (PyData × Fr) := (((srtd rs).map LRow.dat).foldl stp []).filter fun x => !decide (x.2 = (0, 1))
/-- all that is added on the way is small -/
def StpOk (rs : List LRow) : Prop := ∀ i, ∀ y ∈ (((srtd rs).map LRow.dat).take i).foldl stp [], FrB 3900 y.2 ∧ y.2.2 ≠ 0
theorem srtd_refs (rs : List LRow) : ((rs.map fun r => (r.a, r.d)).mergeSort (PySem.W.dataLe false Prod.snd)).map (fun b => V.ref b.1) = (srtd rs).map LRow.r := by
  unfold srtd
  have e := List.map_mergeSort (r := PySem.W.dataLe false LRow.d) (s := PySem.W.dataLe false Prod.snd) (f := fun r : LRow => (r.a, r.d)) (l := rs) (fun _ _ _ _ => rfl)
  rw [← e, List.map_map]
  rfl
theorem mem_srtd {rs : List LRow} {r : LRow} : r ∈ srtd rs ↔ r ∈ rs := (List.mergeSort_perm rs _).mem_iff
structure LawIn (K : PySem.W.Frag) (H : Hp) (rs : List LRow) : Prop where
  at_ : ∀ r ∈ rs, LRowAt K H r
  key : KeyOk (rs.map LRow.d)
  sum : SumOk (rs.map LRow.f)
  stp : StpOk rs
  len : rs.length ≤ 100000
abbrev LQ : Str := "law_from.<locals>.<lambda>"
def spLawFrom (K : PySem.W.Frag) (C P : Addr) : Sp := fun vs H Q E => ∃ (a : Addr) (rs : List LRow), vs = [.ref a] ∧ Tabs [(P, LQ)] H ∧ SqL K H a (rs.map LRow.r) ∧ LawIn K H rs ∧ (chOkB (rs.map LRow.f) = false → ∀ H', Kp [] H H' → E (.ref C) none H') ∧
  (chOkB (rs.map LRow.f) = true → ∀ (H' : Hp) (b : Addr) (out : List LRow), Nw H b → ExtN H H' → Tabs [(P, LQ)] H' → H' b = some (.lst (out.map LRow.r)) → (∀ r ∈ out, LRowAt K H' r) → out.map LRow.dat = lawOf rs → Q (.ref b) H')
theorem frs_of {H : Hp} : ∀ {rs : List LRow}, (∀ r ∈ rs, LRowAt K H r) → FrsAt K H (rs.map LRow.c) (rs.map LRow.f)
  | [], _ => .nil
  | r :: rs, h => .cons (h r (by simp)).fr (frs_of fun x hx => h x (by simp [hx]))
theorem keyrows_of {H : Hp} {rs : List LRow} (h : ∀ r ∈ rs, LRowAt K H r) : KeyRows K H (rs.map fun r => (r.a, r.d)) := fun b hb => by
  obtain ⟨r, hr, rfl⟩ := List.mem_map.mp hb
  have hA := h r hr
  exact ⟨hA.ok.flat, hA.ok.deep, _, _, hA.tup, rfl, hA.dp⟩
theorem seq_kpl {H H' : Hp} {a l : Addr} {xs ys : List V} (h : SqL K H a xs) (k : Kp [l] H H') (n : a ≠ l) : SqL K H' a xs := k.seq (nin1 n) h
/-- found, as it stands -/
structure Fnd (K : PySem.W.Frag) (H : Hp) (F : Addr) (D : List (PyData × Fr)) (out : List LRow) : Prop where
  here : H F = some (.lst (out.map LRow.r))
  rows : ∀ r ∈ out, LRowAt K H r
  dat : out.map LRow.dat = D
theorem Fnd.ext {H H' : Hp} {F : Addr} {D : List (PyData × Fr)} {out : List LRow} (f : Fnd K H F D out) (e : ExtN H H') : Fnd K H' F D out := ⟨ext_get e f.here, fun r hr => (f.rows r hr).ext e, f.dat⟩
theorem Fnd.kp0 {H H' : Hp} {F : Addr} {D : List (PyData × Fr)} {out : List LRow} (f : Fnd K H F D out) (k : Kp [] H H') : Fnd K H' F D out := f.ext (ext_kp k)
theorem Fnd.put {H H' : Hp} {F : Addr} {D D' : List (PyData × Fr)} {out out' : List LRow} (f : Fnd K H F D out) (k : Kp [F] H H') (e : H' F = some (.lst (out'.map LRow.r))) (h : ∀ r ∈ out', LRowAt K H r) (d : out'.map LRow.dat = D') : Fnd K H' F D' out' := ⟨e, fun r hr => (h r hr).kpl k f.here, d⟩
theorem ixN_last {n : Nat} : ixN (n + 1) (-1) = some n := by
  unfold ixN
  rw [if_neg (by decide), if_pos (by omega)]
  congr 1
  omega
theorem rmap_snoc (o : List LRow) (y : LRow) : (o ++ [y]).map LRow.r = o.map LRow.r ++ [.ref y.a] := by rw [List.map_append]; rfl
theorem dat_len {out : List LRow} {D : List (PyData × Fr)} (h : out.map LRow.dat = D) : out.length = D.length := by rw [← h, List.length_map]
theorem stp_len {acc : List (PyData × Fr)} {x : PyData × Fr} : (stp acc x).length ≤ acc.length + 1 := by
  unfold stp
  cases h : acc.getLast? with
  | none =>
    rw [List.getLast?_eq_none_iff.mp h]
    simp
  | some y =>
    dsimp only
    split <;> simp
theorem fold_len : ∀ {xs acc : List (PyData × Fr)}, (xs.foldl stp acc).length ≤ acc.length + xs.length
  | [], acc => by simp
  | x :: xs, acc => by
    have h1 := stp_len (acc := acc) (x := x)
    have h2 := fold_len (xs := xs) (acc := stp acc x)
    rw [List.foldl_cons, List.length_cons]
    omega
theorem fold_snoc {xs : List (PyData × Fr)} {i : Nat} {x : PyData × Fr} (h : xs[i]? = some x) : (xs.take (i + 1)).foldl stp [] = stp ((xs.take i).foldl stp []) x := by
  rw [List.take_add_one, h, List.foldl_append]
  rfl
theorem ok_law_from {P : Program} {w : World} {K : PySem.W.Frag} {mg : Str → Option Value} {base : Heap} (T : T P K mg base) : FnOk P w K mg base (L2.CX P w) 7 T.a_law_from T.fd_law_from ["rows"] (spLawFrom K T.C_InvalidLaw T.P_law_from) := by
  obtain ⟨oc, od, kV, doc, pm, an, ct, osl, efd, lk, hcd⟩ := T.L_law_from
  have lk' := lk
  rw [efd] at lk' ⊢
  refine fn_of lk' hcd sc_law_from (fun vs H Q E h => ?_) (fun A outer s H vs Q E hr h => ?_)
  · obtain ⟨a, rs, rfl, _⟩ := h
    rfl
  · obtain ⟨a, rs, rfl, hT, hS, hL, qE, q⟩ := h
    refine ⟨_, (pss_cons (ps_expr (pe_call (ok_check_chances T) (hr.mono (by decide)) (by rfl) T.g_check_chances T.F_check_chances.kp T.b_check_chances .nil (passes_call (takes_of rfl rfl rfl rfl) (fun _ _ _ _ h => h)) (pa_cons (pe_lc (own := [("outcome", 2), ("chance", 3)]) (g := gTup K 2 (gCons (gName 2) (gCons (gName 3) gNil))) rfl sc_law_from.nd (pi_list (pv 0)) (blkOk_by (own := [("outcome", 2), ("chance", 3)]) (N := N_law_from) (sc := defScope s_law_from) (by decide +kernel)) (fun _ _ _ _ _ => (pg_tup rfl (pgs_cons (pg_name (i := 2) sc_law_from.nd rfl (by first | exact Or.inl rfl | exact Or.inr rfl)) (pgs_cons (pg_name (i := 3) sc_law_from.nd rfl (by first | exact Or.inl rfl | exact Or.inr rfl)) pgs_nil)))) (fun _ _ _ _ _ => pts_nil) (fun _ _ _ _ _ => (pv 3))) pa_nil)))
      (pss_cons (ps_set (i := 1) sc_law_from.nd rfl (by first | exact Or.inl rfl | exact Or.inr rfl) (pe_lst pa_nil))
      (pss_cons (ps_for (passes_of rfl) rfl (pi_list (LamK.pe_sortLam (T := [(T.P_law_from, "law_from.<locals>.<lambda>")]) (by rfl) T.z_sorted (pa_cons (pv 0) pa_nil) T.TB_law_from (by rfl) (by simp; rfl) (by intro q hq _; rw [List.mem_singleton.mp hq]; rfl) hr (LamK.keyS_by (by decide +kernel)) (by rfl) (fun _ _ _ _ _ _ => by rfl))) (pg_tup rfl (pgs_cons (pg_name (i := 2) sc_law_from.nd rfl (by first | exact Or.inl rfl | exact Or.inr rfl)) (pgs_cons (pg_name (i := 3) sc_law_from.nd rfl (by first | exact Or.inl rfl | exact Or.inr rfl)) pgs_nil))) (pss_one (ps_if (PW.pt (pw_and (pt_truth (pv 1) (by intro _; rfl)) (pw_and1 (pt_cmpR (op_eqD hr.units) (pe_ix ix_tup (pe_ix ix_list (pv 1) (pe_un un_neg pe_int) (fun _ _ => rfl)) pe_int (fun _ _ => rfl)) (pv 2) (nomark _))))) (pss_one (ps_asg (pe_tup (pa_cons (pv 2) (pa_cons (pe_call (ok_plus T) (hr.mono (by decide)) (by rfl) T.g_plus T.F_plus.kp T.b_plus .nil pass0 (pa_cons (pe_ix ix_tup (pe_ix ix_list (pv 1) (pe_un un_neg pe_int) (fun _ _ => rfl)) pe_int (fun _ _ => rfl)) (pa_cons (pv 3) pa_nil))) pa_nil))) (pg_sub (pv 1) (pe_un un_neg pe_int) set_list))) (pss_one (ps_expr (pe_bm PySem.F.plainAttrs_list PySem.F.slot_list_append PySem.F.type_list_append mt_append (pv 1) (pa_cons (pe_tup (pa_cons (pv 2) (pa_cons (pv 3) pa_nil))) pa_nil)))))))
      (pss_one (ps_ret (pe_lc (own := [("outcome", 2), ("chance", 3)]) (g := gTup K 2 (gCons (gName 2) (gCons (gName 3) gNil))) rfl sc_law_from.nd (pi_list (pv 1)) (blkOk_by (own := [("outcome", 2), ("chance", 3)]) (N := N_law_from) (sc := defScope s_law_from) (by decide +kernel)) (fun _ _ _ _ _ => (pg_tup rfl (pgs_cons (pg_name (i := 2) sc_law_from.nd rfl (by first | exact Or.inl rfl | exact Or.inr rfl)) (pgs_cons (pg_name (i := 3) sc_law_from.nd rfl (by first | exact Or.inl rfl | exact Or.inr rfl)) pgs_nil)))) (fun _ _ _ _ _ => (pts_one (pt_cmpR (op_neD hr.units : OpR _ _ (rNeD K)) (pv 3) (pe_glob (v := .ref T.k_ZERO) (by rfl) T.g_ZERO rfl) (nomark _)))) (fun _ _ _ _ _ => (pe_tup (pa_cons (pv 2) (pa_cons (pv 3) pa_nil)))))))))), ?_⟩
    walk_at "z0"
    walk_at "z"
    refine Z.lcl (rs.map LRow.r) hS (fun D i H1 => Kp [] H H1 ∧ H1 D = some (.lst ((rs.take i).map fun r => V.ref r.c))) ?_ ?_ ?_ ?_
    · intro D H1 nD k1 e1
      exact ⟨k1, e1⟩
    · rintro D i H1 nD hi ⟨k1, e1⟩
      exact k1.seq nin0 hS
    · rintro D i x H1 nD hx ⟨k1, e1⟩
      rw [List.getElem?_map] at hx
      obtain ⟨r, hr2, rfl⟩ := Option.map_eq_some_iff.mp hx
      have hA := (hL.at_ r (List.mem_of_getElem? hr2)).kp0 k1
      have hlen := hL.len
      dsimp only [wipe, List.set]
      refine Z.gtup hA.tup rfl ?_
      walk_at "z"
      refine ⟨rfl, ?_⟩
      walk_at "z"
      refine ⟨_, e1, Z.szl (m := 100000) (by rw [List.length_map, List.length_take]; omega), k1.mut nD rfl, ?_⟩
      rw [upd_same, List.take_add_one, hr2, List.map_append]
      rfl
    · rintro D H1 nD ⟨k1, e1⟩
      rw [List.length_map, List.take_length] at e1
      have hF1 := (frs_of hL.at_).kp0 k1
      refine ⟨D, rs.map LRow.c, rs.map LRow.f, rfl, lstL (by rw [e1, List.map_map]; rfl), hF1, hL.sum, fun ok H2 k2 => ?_, fun bad H2 k2 => qE bad _ (k1.trans k2)⟩
      have q := q ok
      walk_at "z"
      refine Z.lstK (fun F H3 nF k3 e3 => ?_)
      walk_at "z"
      have k03 := (k1.trans k2).trans k3
      have nF0 : H F = none := (k1.trans k2).none nin0 nF
      have hA3 : ∀ r ∈ rs, LRowAt K H3 r := fun r hr => (hL.at_ r hr).kp0 k03
      refine srtK (bs := rs.map fun r => (r.a, r.d)) (tabs_kp hT k03) (by rw [List.map_map]; exact k03.seq nin0 hS) (keyrows_of hA3) (by rw [List.map_map]; exact hL.key) fun H4 l e4 T4 nl el => ?_
      rw [srtd_refs] at el
      have hA4 : ∀ r ∈ srtd rs, LRowAt K H4 r := fun r hr => (hA3 r (mem_srtd.mp hr)).ext e4
      have hlF : F ≠ l := nl.ne e3 (by simp)
      have hlen : (srtd rs).length = rs.length := (List.mergeSort_perm rs _).length_eq
      have e04 : ExtN H H4 := (ext_kp k03).trans e4
      have hnF : Nw H F := Nw.of nF0
      have hsl : SqL K H4 l ((srtd rs).map LRow.r) := lstL el
      have hlenR := hL.len
      refine Z.forl ((srtd rs).map LRow.r) hsl (fun i σ' H' => ∃ y2 y3 out, σ' = [some (.ref a), some (.ref F), y2, y3] ∧ ExtN H H' ∧ Tabs [(T.P_law_from, LQ)] H' ∧ H' l = some (.lst ((srtd rs).map LRow.r)) ∧ (∀ r ∈ srtd rs, LRowAt K H' r) ∧ Fnd K H' F ((((srtd rs).map LRow.dat).take i).foldl stp []) out) ?_ ?_ ?_ ?_
      · exact ⟨_, _, [], rfl, e04, T4, el, hA4, ext_get e4 e3, by simp, rfl⟩
      · rintro i σ' H' hi ⟨y2, y3, out, rfl, e5, T5, l5, A5, F5⟩
        exact lstL l5
      · rintro i v σ' H' hv ⟨y2, y3, out, rfl, e5, T5, l5, A5, F5⟩
        rw [List.getElem?_map] at hv
        obtain ⟨r, hr2, rfl⟩ := Option.map_eq_some_iff.mp hv
        have hrm := List.mem_of_getElem? hr2
        have hA := A5 r hrm
        have hi : i < (srtd rs).length := (List.getElem?_eq_some_iff.mp hr2).1
        have hxd : ((srtd rs).map LRow.dat)[i]? = some r.dat := by rw [List.getElem?_map, hr2]; rfl
        have hfs := fold_snoc hxd
        have hol : out.length ≤ i := by
          have h1 := dat_len F5.dat
          have h2 := fold_len (xs := ((srtd rs).map LRow.dat).take i) (acc := [])
          rw [List.length_take] at h2
          simp only [List.length_nil] at h2
          omega
        have hfB := hL.sum.1 r.f (List.mem_map_of_mem (mem_srtd.mp hrm))
        have hpost : ∀ {H6 : Hp} (out' : List LRow), ExtN H H6 → Tabs [(T.P_law_from, LQ)] H6 → H6 l = some (.lst ((srtd rs).map LRow.r)) → (∀ r ∈ srtd rs, LRowAt K H6 r) → ∀ {out6 : List LRow} {D6 : List (PyData × Fr)}, Fnd K H6 F D6 out6 → (∀ r ∈ out', LRowAt K H6 r) → out'.map LRow.dat = stp ((((srtd rs).map LRow.dat).take i).foldl stp []) r.dat →
            ∃ y2 y3 out, [some (V.ref a), some (.ref F), some r.v, some (.ref r.c)] = [some (.ref a), some (.ref F), y2, y3] ∧ ExtN H (upd H6 F (.lst (out'.map LRow.r))) ∧ Tabs [(T.P_law_from, LQ)] (upd H6 F (.lst (out'.map LRow.r))) ∧ (upd H6 F (.lst (out'.map LRow.r))) l = some (.lst ((srtd rs).map LRow.r)) ∧ (∀ r ∈ srtd rs, LRowAt K (upd H6 F (.lst (out'.map LRow.r))) r) ∧ Fnd K (upd H6 F (.lst (out'.map LRow.r))) F ((((srtd rs).map LRow.dat).take (i + 1)).foldl stp []) out := fun {H6} out' e6 T6 l6 A6 {out6 D6} F6 ho hd => by
          have kF : Kp [F] H6 (upd H6 F (.lst (out'.map LRow.r))) := Kp.put (by simp)
          exact ⟨_, _, out', rfl, ext_put e6 kF hnF, tabs_put T6 kF F6.here, (upd_ne hlF.symm).trans l6, fun r hr => (A6 r hr).kpl kF F6.here, F6.put kF upd_same ho (by rw [hd, hfs])⟩
        refine Z.gtup hA.tup rfl ?_
        walk_at "z"
        refine Z.truL F5.here ?_
        rcases List.eq_nil_or_concat out with rfl | ⟨o, y, hoy⟩
        · rw [show (!(List.map LRow.r []).isEmpty) = false from rfl]
          walk_at "z"
          refine ⟨Z.tyL F5.here, ?_⟩
          walk_at "z"
          refine Z.tupK (fun t H6 nt k6 e6 => ?_)
          have F6 := F5.kp0 k6
          walk_at "z"
          refine Z.app F6.here (Z.szl (m := 100000) (by simp)) ?_
          walk_at "z"
          refine hpost [⟨t, r.v, r.d, r.c, r.f⟩] (e5.trans (ext_kp k6)) (tabs_kp T5 k6) (k6.get nin0 l5) (fun r hr => (A5 r hr).kp0 k6) F6 (fun x hx => ?_) ?_
          · rw [List.mem_singleton.mp hx]
            have hA6 := hA.kp0 k6
            exact ⟨tupT e6, hA6.dp, hA6.fr, hA6.ok⟩
          · rw [← F5.dat]
            rfl
        · rw [List.concat_eq_append] at hoy
          subst hoy
          have hD := F5.dat
          rw [List.map_append, List.map_cons, List.map_nil] at hD
          have hy := F5.rows y (by simp)
          have hyB := hL.stp i (y.d, y.f) (by rw [← hD]; simp [LRow.dat])
          have F5h := F5.here
          rw [rmap_snoc] at F5h ⊢
          rw [show (!(List.map LRow.r o ++ [V.ref y.a]).isEmpty) = true by simp]
          walk_at "z"
          refine Z.ixL (lstL F5h) (atI_last _ _) ?_
          walk_at "z"
          refine Z.ixT hy.tup (v := y.v) rfl ?_
          walk_at "z"
          refine ⟨y.d, r.d, hy.dp, hA.dp, hy.ok.sh, hA.ok.sh, ?_⟩
          cases hev : PyData.eqv y.d r.d with
          | true =>
            walk_at "z"
            refine Z.ixL (lstL F5h) (atI_last _ _) ?_
            walk_at "z"
            refine Z.ixT hy.tup (v := .ref y.c) rfl ?_
            walk_at "z"
            refine ⟨y.c, r.c, y.f, r.f, rfl, hy.fr, hA.fr, hyB.2, hfB.2, hyB.1, hfB.1, fun H6 s ns k6 e6 => ?_⟩
            walk_at "z"
            refine Z.tupK (fun t H7 nt k7 e7 => ?_)
            have k57 := k6.trans k7
            have F7 := F5.kp0 k57
            have F7h := F7.here
            rw [rmap_snoc] at F7h
            walk_at "z"
            refine Z.setL F7h (by rw [List.length_append]; exact ixN_last) ?_
            rw [show (List.map LRow.r o ++ [V.ref y.a]).set (List.map LRow.r o).length (.ref t) = (o ++ [(⟨t, r.v, r.d, s, fplus y.f r.f⟩ : LRow)]).map LRow.r by rw [rmap_snoc, List.set_append_right _ _ (Nat.le_refl _), Nat.sub_self]; rfl]
            refine hpost (o ++ [⟨t, r.v, r.d, s, fplus y.f r.f⟩]) (e5.trans (ext_kp k57)) (tabs_kp T5 k57) (k57.get nin0 l5) (fun r hr => (A5 r hr).kp0 k57) F7 (fun x hx => ?_) ?_
            · rcases List.mem_append.mp hx with hx | hx
              · exact F7.rows x (by simp [hx])
              · rw [List.mem_singleton.mp hx]
                have hA7 := hA.kp0 k57
                exact ⟨tupT e7, hA7.dp, e6.kp0 k7, hA7.ok⟩
            · rw [← hD, stp_last, if_pos (show PyData.eqv y.dat.1 r.dat.1 = true from hev), List.map_append]
              rfl
          | false =>
            walk_at "z"
            refine ⟨Z.tyL F5h, ?_⟩
            walk_at "z"
            refine Z.tupK (fun t H6 nt k6 e6 => ?_)
            have F6 := F5.kp0 k6
            walk_at "z"
            refine Z.app F6.here (Z.szl (m := 100000) (by rw [List.length_map]; omega)) ?_
            walk_at "z"
            rw [show (o ++ [y]).map LRow.r ++ [V.ref t] = (o ++ [y] ++ [(⟨t, r.v, r.d, r.c, r.f⟩ : LRow)]).map LRow.r by rw [List.map_append (l₁ := o ++ [y])]; rfl]
            refine hpost (o ++ [y] ++ [⟨t, r.v, r.d, r.c, r.f⟩]) (e5.trans (ext_kp k6)) (tabs_kp T5 k6) (k6.get nin0 l5) (fun r hr => (A5 r hr).kp0 k6) F6 (fun x hx => ?_) ?_
            · rcases List.mem_append.mp hx with hx | hx
              · exact F6.rows x hx
              · rw [List.mem_singleton.mp hx]
                have hA6 := hA.kp0 k6
                exact ⟨tupT e6, hA6.dp, hA6.fr, hA6.ok⟩
            · rw [← hD, stp_last, if_neg (show ¬ PyData.eqv y.dat.1 r.dat.1 = true by show ¬ PyData.eqv y.d r.d = true; rw [hev]; exact Bool.false_ne_true), List.map_append (l₁ := o ++ [y]), List.map_append]
              rfl
      · rintro σ' H' ⟨y2, y3, out, rfl, e5, T5, l5, A5, F5⟩
        rw [List.length_map, ← List.length_map (f := LRow.dat), List.take_length] at F5
        have hol : out.length ≤ rs.length := by
          have h1 := dat_len F5.dat
          have h2 := fold_len (xs := (srtd rs).map LRow.dat) (acc := [])
          rw [List.length_map] at h2
          simp only [List.length_nil] at h2
          omega
        walk_at "z"
        refine Z.lcl (out.map LRow.r) (lstL F5.here) (fun D2 i H6 => ∃ res : List LRow, Kp [] H' H6 ∧ H6 D2 = some (.lst (res.map LRow.r)) ∧ (∀ r ∈ res, LRowAt K H6 r) ∧ res.map LRow.dat = ((out.take i).map LRow.dat).filter fun x => !decide (x.2 = (0, 1))) ?_ ?_ ?_ ?_
        · intro D2 H6 nD2 k6 e6
          exact ⟨[], k6, e6, by simp, by simp⟩
        · rintro D2 i H6 nD2 hi ⟨res, k6, e6, A6, hd6⟩
          exact lstL (k6.get nin0 F5.here)
        · rintro D2 i x H6 nD2 hx ⟨res, k6, e6, A6, hd6⟩
          rw [List.getElem?_map] at hx
          obtain ⟨r, hr2, rfl⟩ := Option.map_eq_some_iff.mp hx
          have hA := (F5.rows r (List.mem_of_getElem? hr2)).kp0 k6
          have hrl : res.length ≤ i := by
            have h1 := dat_len hd6
            have h2 := List.length_filter_le (fun x : PyData × Fr => !decide (x.2 = (0, 1))) ((out.take i).map LRow.dat)
            rw [List.length_map, List.length_take] at h2
            omega
          have hi : i < out.length := (List.getElem?_eq_some_iff.mp hr2).1
          dsimp only [wipe, List.set]
          refine Z.gtup hA.tup rfl ?_
          walk_at "z"
          refine ⟨rfl, ?_⟩
          walk_at "z"
          refine neF (g := (0, 1)) hA.fr (T.q_ZERO _) ?_
          walk_at "z"
          refine Z.iteN (fun h1 => ?_) (fun h1 => ?_)
          · walk_at "z"
            refine Z.tupK (fun t H7 nt k7 e7 => ?_)
            have e7D := k7.get nin0 e6
            refine ⟨_, e7D, Z.szl (m := 100000) (by rw [List.length_map]; omega), res ++ [⟨t, r.v, r.d, r.c, r.f⟩], (k6.trans k7).mut nD2 rfl, by rw [upd_same, rmap_snoc], fun x hx => ?_, ?_⟩
            · have kD : Kp [D2] H7 (upd H7 D2 (.lst (res.map LRow.r ++ [.ref t]))) := Kp.put (by simp)
              rcases List.mem_append.mp hx with hx | hx
              · exact ((A6 x hx).kp0 k7).kpl kD e7D
              · rw [List.mem_singleton.mp hx]
                have hA7 := hA.kp0 k7
                exact LRowAt.kpl (r := ⟨t, r.v, r.d, r.c, r.f⟩) ⟨tupT e7, hA7.dp, hA7.fr, hA7.ok⟩ kD e7D
            · rw [List.map_append, hd6, List.take_add_one, hr2, List.map_append, List.filter_append]
              congr 1
              show [r.dat] = [r.dat].filter _
              rw [List.filter_cons_of_pos (by simp [LRow.dat, h1]), List.filter_nil]
          · walk_at "z"
            refine ⟨res, k6, e6, A6, ?_⟩
            rw [hd6, List.take_add_one, hr2, List.map_append, List.filter_append]
            show _ = _ ++ [r.dat].filter _
            rw [List.filter_cons_of_neg (by simp [LRow.dat, h1]), List.filter_nil, List.append_nil]
        · rintro D2 H6 nD2 ⟨res, k6, e6, A6, hd6⟩
          rw [List.length_map, List.take_length, F5.dat] at hd6
          walk_at "z"
          exact q H6 D2 res (Nw.back (Nw.of nD2) e5) (e5.trans (ext_kp k6)) (tabs_kp T5 k6) e6 A6 hd6
end lawfrom2

def spLow (K : PySem.W.Frag) : Sp := fun vs H Q _ => ∃ p q : Int, vs = [.int p, .int q] ∧ q ≠ 0 ∧ q.natAbs < 2 ^ 2400 ∧ ∀ H' b, H b = none → Kp [] H H' → H' b = some (.tup (frV (lo p q))) → Q (.ref b) H'
theorem abs_if (i : Int) : (if i < 0 then -i else i) = (i.natAbs : Int) := by
  split <;> omega
theorem ok__law_low {P : Program} {w : World} {K : PySem.W.Frag} {mg : Str → Option Value} {base : Heap} (T : T P K mg base) : FnOk P w K mg base CX0 1 T.a__law_low T.fd__law_low ["p", "q"] (spLow K) := by
  refine T.F__law_low.ok sc__law_low (fun vs H Q E h => ?_) (fun cdv A outer s H vs Q E hr h => ?_)
  · obtain ⟨p, q, rfl, _⟩ := h
    rfl
  · obtain ⟨p, q, rfl, hq, hb, q1⟩ := h
    have hg := gI_ne (p := p) hq
    have hdv : Z.CDivA p (gI p q) := Z.divA (b := 2400) hg (by rw [gI_abs]; exact Nat.lt_of_le_of_lt (gN_le hq) hb) (by decide) (by decide)
    have hdv2 : Z.CDivA q (gI p q) := hdv
    refine ⟨_, (pss_cons (ps_set (i := 2) sc__law_low.nd rfl (by first | exact Or.inl rfl | exact Or.inr rfl) (pe_callB c_abs (by rfl) T.z_abs (by decide +kernel) (pa_cons (pv 0) pa_nil)))
      (pss_cons (ps_set (i := 3) sc__law_low.nd rfl (by first | exact Or.inl rfl | exact Or.inr rfl) (pe_callB c_abs (by rfl) T.z_abs (by decide +kernel) (pa_cons (pv 1) pa_nil)))
      (Z.pss_consJ (ps_for PassesOwn.never rfl (pi_range1 (by rfl) T.z_range (pa_cons pe_int pa_nil)) (pg_name (i := 4) sc__law_low.nd rfl (by first | exact Or.inl rfl | exact Or.inr rfl)) (pss_cons (ps_if (pt_cmpR op_eq (pv 3) pe_int (nomark _)) (pss_one ps_break) pss_nil)
      (pss_one (ps_par (i := 2) (j := 3) rfl sc__law_low.nd rfl rfl (by decide) rfl rfl (pa_cons (pv 3) (pa_cons (pe_op op_mod (pe_callTy c_int (by rfl) T.z_int (by decide +kernel) (pa_cons (pv 2) pa_nil)) (pv 3)) pa_nil)) (by rfl)))))
      (Z.pss_consJ (ps_if (pt_cmpR op_lt (pv 1) pe_int (nomark _)) (pss_one (ps_set (i := 2) sc__law_low.nd rfl (by first | exact Or.inl rfl | exact Or.inr rfl) (pe_op op_sub pe_int (pv 2)))) pss_nil)
      (pss_one (ps_ret (pe_tup (pa_cons (pe_op Z.op_fdivA (pv 0) (pv 2)) (pa_cons (pe_op Z.op_fdivA (pv 1) (pv 2)) pa_nil))))))))), ?_⟩
    walk_at "z0"
    walk_at "z"
    rw [abs_if, abs_if]
    refine Z.seqJ (fun σ' H' => ∃ y z : Option V, σ' = [some (.int p), some (.int q), some (.int (gN p q : Int)), y, z] ∧ H' = H) ?_ ?_
    · rintro σ' H' ⟨y, z, rfl, rfl⟩
      refine Z.seqJ (fun σ' H'' => ∃ y z : Option V, σ' = [some (.int p), some (.int q), some (.int (gI p q)), y, z] ∧ H'' = H') ?_ ?_
      · rintro σ' H'' ⟨y, z, rfl, rfl⟩
        walk_at "z"
        refine Z.iC hdv ?_
        walk_at "z"
        refine Z.iC hdv2 ?_
        refine Z.tupK (fun b H1 nb k1 e1 => ?_)
        exact q1 _ _ nb k1 e1
      · intro N jn
        walk_at "z"
        refine Z.ite (fun h2 => ?_) (fun h2 => ?_)
        · walk_at "z"
          refine jn _ _ ⟨y, z, ?_, rfl⟩
          unfold gI
          rw [if_pos h2, Int.zero_sub]
        · walk_at "z"
          refine jn _ _ ⟨y, z, ?_, rfl⟩
          unfold gI
          rw [if_neg h2]
    · intro N jn
      walk_at "z"
      refine Z.forr 5000 ?_ (by decide) (fun i σ' H' => ∃ z : Option V, σ' = [some (.int p), some (.int q), some (.int ((euc i (p.natAbs, q.natAbs)).1 : Int)), some (.int ((euc i (p.natAbs, q.natAbs)).2 : Int)), z] ∧ H' = H) ?_ ?_ ?_
      · rfl
      · exact ⟨_, rfl, rfl⟩
      · rintro i σ' H' hi ⟨z, rfl, rfl⟩
        walk_at "z"
        refine Z.ite (fun h2 => ?_) (fun h2 => ?_)
        · walk_at "z"
          have h0 : (euc i (p.natAbs, q.natAbs)).2 = 0 := by omega
          have eg := euc_gcd i (p.natAbs, q.natAbs)
          rw [h0, Nat.gcd_zero_right] at eg
          rw [eg]
          exact jn _ _ ⟨_, _, rfl, rfl⟩
        · walk_at "z"
          refine Z.iC (by omega) ?_
          walk_at "z"
          have es : euc (i + 1) (p.natAbs, q.natAbs) = ((euc i (p.natAbs, q.natAbs)).2, (euc i (p.natAbs, q.natAbs)).1 % (euc i (p.natAbs, q.natAbs)).2) := by
            rw [euc_succ]
            exact if_neg (by omega)
          refine ⟨some (.int (i : Int)), ?_, rfl⟩
          rw [es]
          rfl
      · rintro σ' H' ⟨z, rfl, rfl⟩
        have h0 := euc_5000 (p := (p.natAbs, q.natAbs)) hb
        have eg := euc_gcd 5000 (p.natAbs, q.natAbs)
        rw [h0, Nat.gcd_zero_right] at eg
        walk_at "z"
        rw [eg]
        exact jn _ _ ⟨_, _, rfl, rfl⟩

/-- two fractions in, a fraction out; smaller ones -/
def spG2 (K : PySem.W.Frag) (o : Fr → Fr → Fr) : Sp := fun vs H Q _ => ∃ (a b : Addr) (f g : Fr), vs = [.ref a, .ref b] ∧ FrAt K H a f ∧ FrAt K H b g ∧ 1 ≤ f.2 ∧ 1 ≤ g.2 ∧ (∃ n m, FrB n f ∧ FrB m g ∧ n + m ≤ 1900) ∧ ∀ H' c, H c = none → Kp [] H H' → FrAt K H' c (o f g) → Q (.ref c) H'
theorem ok__law_plus {P : Program} {w : World} {K : PySem.W.Frag} {mg : Str → Option Value} {base : Heap} (T : T P K mg base) : FnOk P w K mg base CX0 2 T.a__law_plus T.fd__law_plus ["one", "other"] (spG2 K fplus) := by
  refine T.F__law_plus.ok sc__law_plus (fun vs H Q E h => ?_) (fun cdv A outer s H vs Q E hr h => ?_)
  · obtain ⟨a, b, f, g, rfl, _⟩ := h
    rfl
  · obtain ⟨a, b, f, g, rfl, ha, hb, hf, hg, ⟨n, m, Bf0, Bg0, hnm⟩, q⟩ := h
    have Bf : FrB 1900 f := Bf0.mono (by omega)
    have Bg : FrB 1900 g := Bg0.mono (by omega)
    refine ⟨_, (pss_one (ps_ret (pe_call (ok__law_low T) (hr.mono (by decide)) (by rfl) T.g__law_low T.F__law_low.kp T.b__law_low .nil pass0 (pa_cons (pe_op op_add (pe_op op_mulW (pe_ix ix_tup (pv 0) pe_int (fun _ _ => rfl)) (pe_ix ix_tup (pv 1) pe_int (fun _ _ => rfl))) (pe_op op_mulW (pe_ix ix_tup (pv 1) pe_int (fun _ _ => rfl)) (pe_ix ix_tup (pv 0) pe_int (fun _ _ => rfl)))) (pa_cons (pe_op op_mulW (pe_ix ix_tup (pv 0) pe_int (fun _ _ => rfl)) (pe_ix ix_tup (pv 1) pe_int (fun _ _ => rfl))) pa_nil))))), ?_⟩
    walk_at "z0"
    walk_at "z"
    refine Z.ixT ha (fr0 f) ?_
    walk_at "z"
    refine Z.ixT hb (fr1 g) ?_
    walk_at "z"
    refine Z.iC (mul_ok Bf.1 Bg.2) ?_
    walk_at "z"
    refine Z.ixT hb (fr0 g) ?_
    walk_at "z"
    refine Z.ixT ha (fr1 f) ?_
    walk_at "z"
    refine Z.iC (mul_ok Bg.1 Bf.2) ?_
    walk_at "z"
    refine Z.ixT ha (fr1 f) ?_
    walk_at "z"
    refine Z.ixT hb (fr1 g) ?_
    walk_at "z"
    refine Z.iC (mul_ok Bf.2 Bg.2) ?_
    walk_at "z"
    have h0 := Int.mul_pos (show 0 < f.2 by omega) (show 0 < g.2 by omega)
    exact ⟨_, _, rfl, by omega, up_B (mul_B Bf0.2 Bg0.2) (by omega), fun H' c nc k e => q _ _ nc k (tupT e)⟩
theorem ok__law_times {P : Program} {w : World} {K : PySem.W.Frag} {mg : Str → Option Value} {base : Heap} (T : T P K mg base) : FnOk P w K mg base CX0 2 T.a__law_times T.fd__law_times ["one", "other"] (spG2 K ftimes) := by
  refine T.F__law_times.ok sc__law_times (fun vs H Q E h => ?_) (fun cdv A outer s H vs Q E hr h => ?_)
  · obtain ⟨a, b, f, g, rfl, _⟩ := h
    rfl
  · obtain ⟨a, b, f, g, rfl, ha, hb, hf, hg, ⟨n, m, Bf0, Bg0, hnm⟩, q⟩ := h
    have Bf : FrB 1900 f := Bf0.mono (by omega)
    have Bg : FrB 1900 g := Bg0.mono (by omega)
    refine ⟨_, (pss_one (ps_ret (pe_call (ok__law_low T) (hr.mono (by decide)) (by rfl) T.g__law_low T.F__law_low.kp T.b__law_low .nil pass0 (pa_cons (pe_op op_mulW (pe_ix ix_tup (pv 0) pe_int (fun _ _ => rfl)) (pe_ix ix_tup (pv 1) pe_int (fun _ _ => rfl))) (pa_cons (pe_op op_mulW (pe_ix ix_tup (pv 0) pe_int (fun _ _ => rfl)) (pe_ix ix_tup (pv 1) pe_int (fun _ _ => rfl))) pa_nil))))), ?_⟩
    walk_at "z0"
    walk_at "z"
    refine Z.ixT ha (fr0 f) ?_
    walk_at "z"
    refine Z.ixT hb (fr0 g) ?_
    walk_at "z"
    refine Z.iC (mul_ok Bf.1 Bg.1) ?_
    walk_at "z"
    refine Z.ixT ha (fr1 f) ?_
    walk_at "z"
    refine Z.ixT hb (fr1 g) ?_
    walk_at "z"
    refine Z.iC (mul_ok Bf.2 Bg.2) ?_
    walk_at "z"
    have h0 := Int.mul_pos (show 0 < f.2 by omega) (show 0 < g.2 by omega)
    exact ⟨_, _, rfl, by omega, up_B (mul_B Bf0.2 Bg0.2) (by omega), fun H' c nc k e => q _ _ nc k (tupT e)⟩

section gath
variable {K : PySem.W.Frag}
open GT
theorem key_ok {k : List Key} (hk : ∀ s, Sum.inr s ∈ k → PyData.strOk s = true) : DOk (keyD k) := by
  have h1 := keys_depth k
  have h2 := keys_lay k hk
  have h3 := keys_flat k
  refine ⟨by unfold keyD; simp [LamK.noLst, h3], by unfold keyD; simp [PyData.depth]; omega, ?_⟩
  unfold keyD
  simp only [SeqAt.shaped, PyData.canLay0, PyData.depth, h2, Bool.true_and]
  exact decide_eq_true (by omega)
abbrev KF := List Key × Fr
section gen
variable {κ : Type} [DecidableEq κ]
def gval (acc : List (κ × Fr)) (k : κ) : Option Fr := (acc.find? fun x => decide (x.1 = k)).map (·.2)
def gput (acc : List (κ × Fr)) (k : κ) (g : Fr) : List (κ × Fr) := if (acc.any fun x => decide (x.1 = k)) = true then acc.map (fun x => if x.1 = k then (x.1, g) else x) else acc ++ [(k, g)]
def gstp (acc : List (κ × Fr)) (x : κ × Fr) : List (κ × Fr) := gput acc x.1 (fplus ((gval acc x.1).getD (0, 1)) x.2)
def gsum (xs : List (κ × Fr)) : List (κ × Fr) := xs.foldl gstp []
end gen
def gathOf (xs : List KF) : List KF := ((gsum xs).mergeSort (PySem.W.dataLe false fun x => keyD x.1)).filter fun x => !decide (x.2 = (0, 1))
theorem gsum_snoc {xs : List KF} {i : Nat} {x : KF} (h : xs[i]? = some x) : gsum (xs.take (i + 1)) = gstp (gsum (xs.take i)) x := by
  unfold gsum
  rw [List.take_add_one, h, List.foldl_append]
  rfl
/-- what a dict of fractions holds -/
def KvAt (K : PySem.W.Frag) (H : Hp) : List (List Key × V) → List KF → Prop := Paired fun kv x => kv.1 = x.1 ∧ ∃ c, kv.2 = .ref c ∧ FrAt K H c x.2
theorem KvAt.mono {H H' : Hp} (f : ∀ c g, FrAt K H c g → FrAt K H' c g) {kvs : List (List Key × V)} {acc : List KF} (h : KvAt K H kvs acc) : KvAt K H' kvs acc := by
  unfold KvAt at h ⊢
  induction h with
  | nil => exact .nil
  | cons r t ih =>
    obtain ⟨e, c, e2, hc⟩ := r
    exact .cons ⟨e, c, e2, f _ _ hc⟩ ih
theorem KvAt.val {H : Hp} {k : List Key} : ∀ {kvs : List (List Key × V)} {acc : List KF}, KvAt K H kvs acc → (valV kvs k = none ∧ gval acc k = none) ∨ ∃ c g, valV kvs k = some (.ref c) ∧ gval acc k = some g ∧ FrAt K H c g
  | [], [], .nil => .inl ⟨rfl, rfl⟩
  | kv :: kvs, x :: acc, .cons ⟨e, c, e2, hc⟩ t => by
    by_cases hk : kv.1 = k
    · refine .inr ⟨c, x.2, ?_, ?_, hc⟩
      · rw [valV_pos hk, e2]
      · unfold gval
        rw [List.find?_cons_of_pos (by rw [← e]; simpa using hk)]
        rfl
    · have ih := KvAt.val (k := k) t
      rw [valV_neg hk]
      have e3 : gval (x :: acc) k = gval acc k := by
        unfold gval
        rw [List.find?_cons_of_neg (by rw [← e]; simpa using hk)]
      rw [e3]
      exact ih
theorem KvAt.any {H : Hp} {k : List Key} : ∀ {kvs : List (List Key × V)} {acc : List KF}, KvAt K H kvs acc → (kvs.any fun kv => decide (kv.1 = k)) = (acc.any fun x => decide (x.1 = k))
  | [], [], .nil => rfl
  | kv :: kvs, x :: acc, .cons ⟨e, _⟩ t => by rw [List.any_cons, List.any_cons, KvAt.any t, e]
theorem KvAt.len {H : Hp} {kvs : List (List Key × V)} {acc : List KF} (h : KvAt K H kvs acc) : kvs.length = acc.length := Paired.length h
theorem KvAt.put {H : Hp} {k : List Key} {d : Addr} {g : Fr} (hd : FrAt K H d g) {kvs : List (List Key × V)} {acc : List KF} (h : KvAt K H kvs acc) : KvAt K H (putK kvs k (.ref d)) (gput acc k g) := by
  unfold putK gput
  rw [h.any (k := k)]
  split
  · rename_i ha
    clear ha
    unfold KvAt at h ⊢
    induction h with
    | nil => exact .nil
    | cons r t ih =>
      rename_i kv x _ _
      obtain ⟨e, c, e2, hc⟩ := r
      rw [List.map_cons, List.map_cons]
      refine .cons ?_ ih
      by_cases hk : kv.1 = k
      · rw [if_pos hk, if_pos (by rw [← e]; exact hk)]
        exact ⟨e, d, rfl, hd⟩
      · rw [if_neg hk, if_neg (by rw [← e]; exact hk)]
        exact ⟨e, c, e2, hc⟩
  · rename_i ha
    clear ha
    unfold KvAt at h ⊢
    induction h with
    | nil => exact .cons ⟨rfl, d, rfl, hd⟩ .nil
    | cons r t ih => exact .cons r ih
end gath

section gath2
variable {K : PySem.W.Frag}
open GT
section gen
variable {κ : Type} [DecidableEq κ]
theorem gval_mem {acc : List (κ × Fr)} {k : κ} {g : Fr} (h : gval acc k = some g) : (k, g) ∈ acc := by
  unfold gval at h
  obtain ⟨x, hx, rfl⟩ := Option.map_eq_some_iff.mp h
  have h1 := List.find?_some hx
  have h2 := List.mem_of_find?_eq_some hx
  obtain rfl : x.1 = k := by simpa using h1
  exact h2
theorem gval_none {acc : List (κ × Fr)} {k : κ} (h : ¬ (acc.any fun x => decide (x.1 = k)) = true) : ∀ x ∈ acc, x.1 ≠ k := fun x hx e => h (List.any_eq_true.mpr ⟨x, hx, by simpa using e⟩)
theorem gput_nodup {acc : List (κ × Fr)} {k : κ} {g : Fr} (h : (acc.map Prod.fst).Nodup) : ((gput acc k g).map Prod.fst).Nodup := by
  unfold gput
  split
  · rw [List.map_map]
    rw [show (Prod.fst ∘ fun x : κ × Fr => if x.1 = k then (x.1, g) else x) = Prod.fst from by funext x; dsimp only [Function.comp]; split <;> rfl]
    exact h
  · rename_i ha
    rw [List.map_append, List.map_cons, List.map_nil]
    refine List.nodup_append.mpr ⟨h, by simp, fun a ha2 b hb => ?_⟩
    obtain ⟨x, hx, rfl⟩ := List.mem_map.mp ha2
    rw [List.mem_singleton.mp hb]
    exact gval_none ha x hx
theorem gsum_nodup : ∀ {xs acc : List (κ × Fr)}, (acc.map Prod.fst).Nodup → ((xs.foldl gstp acc).map Prod.fst).Nodup
  | [], _, h => h
  | x :: xs, acc, h => gsum_nodup (xs := xs) (gput_nodup h)
theorem gput_len {acc : List (κ × Fr)} {k : κ} {g : Fr} : (gput acc k g).length ≤ acc.length + 1 := by
  unfold gput
  split
  · rw [List.length_map]; omega
  · simp
theorem gsum_len : ∀ {xs acc : List (κ × Fr)}, (xs.foldl gstp acc).length ≤ acc.length + xs.length
  | [], _ => by simp
  | x :: xs, acc => by
    have h1 := gput_len (acc := acc) (k := x.1) (g := fplus ((gval acc x.1).getD (0, 1)) x.2)
    have h2 := gsum_len (xs := xs) (acc := gstp acc x)
    unfold gstp at h2
    rw [List.foldl_cons, List.length_cons]
    unfold gstp
    omega
theorem gval_of : ∀ {acc : List (κ × Fr)} {x : κ × Fr}, (acc.map Prod.fst).Nodup → x ∈ acc → gval acc x.1 = some x.2
  | y :: acc, x, h, hx => by
    rw [List.map_cons, List.nodup_cons] at h
    unfold gval
    rcases List.mem_cons.mp hx with rfl | hx
    · rw [List.find?_cons_of_pos (by simp)]
      rfl
    · have hne : y.1 ≠ x.1 := fun e => h.1 (by rw [e]; exact List.mem_map_of_mem hx)
      rw [List.find?_cons_of_neg (by simpa using hne)]
      exact gval_of h.2 hx
end gen
/-- a row whose outcome is a tuple: a the row, b the outcome, c the chance -/
structure GRow where
  a : Addr
  b : Addr
  k : List Key
  c : Addr
  f : Fr
def GRow.r (g : GRow) : V := .ref g.a
def GRow.kf (g : GRow) : KF := (g.k, g.f)
structure GRowAt (K : PySem.W.Frag) (H : Hp) (g : GRow) : Prop where
  tup : SqT K H g.a [.ref g.b, .ref g.c]
  key : H g.b = some (.tup (g.k.map kV))
  fr : FrAt K H g.c g.f
  ok : ∀ s, Sum.inr s ∈ g.k → PyData.strOk s = true
theorem tup_kpM {M : List Addr} {H H' : Hp} {b : Addr} {xs : List V} (h : H b = some (.tup xs)) (k : Kp M H H') (n : ∀ x ∈ M, NoTup H x) : H' b = some (.tup xs) := k.get (fun z => n b z xs (.inl h)) h
theorem GRowAt.kpM {M : List Addr} {H H' : Hp} {g : GRow} (h : GRowAt K H g) (k : Kp M H H') (n : ∀ x ∈ M, NoTup H x) : GRowAt K H' g := ⟨kpTup h.tup k n, tup_kpM h.key k n, FrAt.kp h.fr k n, h.ok⟩
theorem GRowAt.kp0 {H H' : Hp} {g : GRow} (h : GRowAt K H g) (k : Kp [] H H') : GRowAt K H' g := h.kpM k (by simp)
theorem noT {H : Hp} {l : Addr} {o : HO} (e : H l = some o) (n : ∀ xs, o ≠ .tup xs ∧ ∀ u, o ≠ .frz u (.tup xs)) : ∀ x ∈ [l], NoTup H x := fun x hx => by
  rw [List.mem_singleton.mp hx]
  exact NoTup.of e n
structure GathOk (xs : List KF) : Prop where
  len : xs.length ≤ 1000
  fr : ∀ x ∈ xs, 1 ≤ x.2.2 ∧ FrB 900 x.2
  sums : ∀ i, ∀ y ∈ gsum (xs.take i), 1 ≤ y.2.2 ∧ FrB 900 y.2
  alike : PySem.W.AllAlike ((gsum xs).map fun x => keyD x.1)
  sorts : PySem.W.Sortable ((gsum xs).map fun x => keyD x.1)
  keys : ∀ x ∈ gsum xs, ∀ s, Sum.inr s ∈ x.1 → PyData.strOk s = true
def gathN (xs : List KF) : List KF := (gsum xs).mergeSort (PySem.W.dataLe false fun x => keyD x.1)
def spGathered (K : PySem.W.Frag) : Sp := fun vs H Q _ => ∃ (a : Addr) (gs : List GRow), vs = [.ref a] ∧ SqL K H a (gs.map GRow.r) ∧ (∀ g ∈ gs, GRowAt K H g) ∧ GathOk (gs.map GRow.kf) ∧
  ∀ (H' : Hp) (d : Addr) (out : List GRow), H d = none → Kp [] H H' → H' d = some (.lst (out.map GRow.r)) → (∀ g ∈ out, GRowAt K H' g) → out.map GRow.kf = gathN (gs.map GRow.kf) → Q (.ref d) H'
/-- keys and sums side by side -/
theorem keys_side {H : Hp} : ∀ {kvs : List (List Key × V)} {acc : List KF} {bs : List Addr}, KvAt K H kvs acc → ∀ {H' : Hp}, IsKeys H' kvs bs → ∃ L : List (KF × Addr), L.map Prod.fst = acc ∧ L.map Prod.snd = bs ∧ ∀ x ∈ L, H' x.2 = some (.tup (x.1.1.map kV))
  | [], [], [], .nil, _, .nil => ⟨[], rfl, rfl, by simp⟩
  | kv :: kvs, x :: acc, b :: bs, .cons ⟨e, _⟩ t, H', .cons h2 t2 => by
    obtain ⟨L, e1, e2, e3⟩ := keys_side (kvs := kvs) (acc := acc) (bs := bs) t t2
    refine ⟨(x, b) :: L, by rw [List.map_cons, e1], by rw [List.map_cons, e2], fun y hy => ?_⟩
    rcases List.mem_cons.mp hy with rfl | hy
    · show H' b = _
      rw [← e]
      exact h2
    · exact e3 y hy
theorem ok__law_gathered {P : Program} {w : World} {K : PySem.W.Frag} {mg : Str → Option Value} {base : Heap} (T : T P K mg base) : FnOk P w K mg base CX0 3 T.a__law_gathered T.fd__law_gathered ["rows"] (spGathered K) := by
  refine T.F__law_gathered.ok sc__law_gathered (fun vs H Q E h => ?_) (fun cdv A outer s H vs Q E hr h => ?_)
  · obtain ⟨a, gs, rfl, _⟩ := h
    rfl
  · obtain ⟨a, gs, rfl, hS, hA, hG, q⟩ := h
    refine ⟨_, (pss_cons (ps_set (i := 1) sc__law_gathered.nd rfl (by first | exact Or.inl rfl | exact Or.inr rfl) pe_dnewT)
      (pss_cons (ps_for PassesOwn.never rfl (pi_list (pv 0)) (pg_tup rfl (pgs_cons (pg_name (i := 2) sc__law_gathered.nd rfl (by first | exact Or.inl rfl | exact Or.inr rfl)) (pgs_cons (pg_name (i := 3) sc__law_gathered.nd rfl (by first | exact Or.inl rfl | exact Or.inr rfl)) pgs_nil))) (pss_one (ps_dput (hu_of hr) (pv 1) (pv 2) (pe_call (ok__law_plus T) (hr.mono (by decide)) (by rfl) T.g__law_plus T.F__law_plus.kp T.b__law_plus .nil pass0 (pa_cons (pe_dget2 (Nat.lt_of_le_of_lt (Nat.add_le_add_left (by decide) _) (hu_of hr)) (pv 1) (pv 2) (pe_tup (pa_cons pe_int (pa_cons pe_int pa_nil))) ⟨by rfl, by rfl, by rfl, by rfl⟩) (pa_cons (pv 3) pa_nil))) rfl)))
      (pss_one (ps_ret (pe_lc (own := [("outcome", 2)]) (g := gName 2) rfl sc__law_gathered.nd (pi_list (pe_callB ((RL.cr_sortedD hr.units) : CallR _ _ (RL.rSortedD K)) (by rfl) T.z_sorted (by decide +kernel) (pa_cons (pe_callTy ((GT.c_listT rfl) : CallR _ _ (GT.rListT)) (by rfl) T.z_list (by decide +kernel) (pa_cons (pv 1) pa_nil)) pa_nil))) (blkOk_by (own := [("outcome", 2)]) (N := N__law_gathered) (sc := defScope s__law_gathered) (by decide +kernel)) (fun _ _ _ _ _ => (pg_name (i := 2) sc__law_gathered.nd rfl (by first | exact Or.inl rfl | exact Or.inr rfl))) (fun _ _ _ _ _ => pts_nil) (fun _ _ _ _ _ => (pe_tup (pa_cons (pv 2) (pa_cons (pe_dget (hu_of hr) (pv 1) (pv 2) (fun _ _ => rfl)) pa_nil))))))))), ?_⟩
    walk_at "z0"
    walk_at "z"
    refine dnewT (fun D H1 nD k1 e1 => ?_)
    walk_at "z"
    refine Z.forl (gs.map GRow.r) (k1.seq nin0 hS) (fun i σ' H' => ∃ (y2 y3 : Option V) (kvs : List (List Key × V)), σ' = [some (.ref a), some (.ref D), y2, y3] ∧ Kp [] H H' ∧ H' D = some (.dT kvs) ∧ KvAt K H' kvs (gsum ((gs.map GRow.kf).take i))) ?_ ?_ ?_ ?_
    · exact ⟨_, _, [], rfl, k1, e1, .nil⟩
    · rintro i σ' H2 hi ⟨y2, y3, kvs, rfl, k2, e2, V2⟩
      exact k2.seq nin0 hS
    · rintro i v σ' H2 hv ⟨y2, y3, kvs, rfl, k2, e2, V2⟩
      rw [List.getElem?_map] at hv
      obtain ⟨g, hg, rfl⟩ := Option.map_eq_some_iff.mp hv
      have hgm := List.mem_of_getElem? hg
      have hA2 := (hA g hgm).kp0 k2
      have hgk : (gs.map GRow.kf)[i]? = some g.kf := by rw [List.getElem?_map, hg]; rfl
      have hgB := hG.fr g.kf (List.mem_map_of_mem hgm)
      have hil : i < gs.length := (List.getElem?_eq_some_iff.mp hg).1
      have hgl := hG.len
      rw [List.length_map] at hgl
      have hkl : kvs.length ≤ i := by
        have h1 := V2.len
        have h2 := gsum_len (xs := (gs.map GRow.kf).take i) (acc := [])
        rw [List.length_take] at h2
        unfold gsum at h1
        simp only [List.length_nil] at h2
        omega
      refine Z.gtup hA2.tup rfl ?_
      walk_at "z"
      refine ⟨D, rfl, .inr ⟨kvs, .inl e2⟩, ?_⟩
      walk_at "z"
      refine Z.tupK (fun z H3 nz k3 e3 => ?_)
      refine ⟨_, DGet.t (k3.get nin0 e2) (hA2.kp0 k3).key, ?_⟩
      obtain ⟨c0, hc0, hF0, hB0⟩ : ∃ c0, (valV kvs g.k).getD (.ref z) = .ref c0 ∧ FrAt K H3 c0 ((gval (gsum ((gs.map GRow.kf).take i)) g.k).getD (0, 1)) ∧ (1 ≤ ((gval (gsum ((gs.map GRow.kf).take i)) g.k).getD (0, 1)).2 ∧ FrB 900 ((gval (gsum ((gs.map GRow.kf).take i)) g.k).getD (0, 1))) := by
        rcases V2.val (k := g.k) with ⟨h1, h2⟩ | ⟨c, f, h1, h2, h3⟩
        · rw [h1, h2]
          exact ⟨z, rfl, tupT e3, by decide, by decide, by decide⟩
        · rw [h1, h2]
          exact ⟨c, rfl, h3.kp0 k3, hG.sums i _ (gval_mem h2)⟩
      rw [hc0]
      walk_at "z"
      refine ⟨c0, g.c, _, g.f, rfl, hF0, (hA2.kp0 k3).fr, hB0.1, hgB.1, ⟨900, 900, hB0.2, hgB.2, by decide⟩, fun H4 d nd k4 e4 => ?_⟩
      walk_at "z"
      have k34 := k3.trans k4
      have e4D := k34.get nin0 e2
      refine ⟨D, _, rfl, DPut.t (k := g.k) e4D (hA2.kp0 k34).key (Z.szl (m := 1000) (by omega)), ?_⟩
      have k5 : Kp [D] H4 (upd H4 D (.dT (putK kvs g.k (.ref d)))) := Kp.put (by simp)
      have nt := noT e4D (fun xs => ⟨by simp, by simp⟩)
      refine ⟨_, _, _, rfl, (k2.trans k34).mut nD rfl, upd_same, ?_⟩
      rw [gsum_snoc hgk]
      exact (KvAt.mono (fun c f h => h.kp0 k34) V2 |> KvAt.put e4).mono fun c f h => h.kp k5 nt
    · rintro σ' H2 ⟨y2, y3, kvs, rfl, k2, e2, V2⟩
      rw [List.length_map, ← List.length_map (f := GRow.kf), List.take_length] at V2
      walk_at "z"
      refine ⟨D, kvs, rfl, .inl e2, fun p bs np hbs => ?_⟩
      obtain ⟨L, hL1, hL2, hL3⟩ := keys_side V2 hbs
      have hnd : ((gsum (gs.map GRow.kf)).map Prod.fst).Nodup := gsum_nodup (acc := []) (by simp)
      have hLl : L.length ≤ 1000 := by
        have h1 := congrArg List.length hL1
        have h2 := gsum_len (xs := gs.map GRow.kf) (acc := [])
        have h3 := hG.len
        unfold gsum at h1
        rw [List.length_map] at h1
        simp only [List.length_nil] at h2
        omega
      have kp : Kp [] H2 (upd H2 p (.lst (bs.map V.ref))) := Kp.new np
      have ep : upd H2 p (.lst (bs.map V.ref)) p = some (.lst (bs.map V.ref)) := upd_same
      generalize upd H2 p (.lst (bs.map V.ref)) = H3 at kp ep ⊢
      have hL4 : ∀ x ∈ L, H3 x.2 = some (.tup (x.1.1.map kV)) := fun x hx => kp.get nin0 (hL3 x hx)
      walk_at "z"
      refine ⟨p, L.map (fun x => (V.ref x.2, keyD x.1.1)), rfl, lstL (by rw [ep, ← hL2, List.map_map, List.map_map]; rfl), fun b hb => ?_, ?_, ?_, fun b hb => ?_, fun l nl => ?_⟩
      · obtain ⟨x, hx, rfl⟩ := List.mem_map.mp hb
        exact dp_key (hL4 x hx)
      · have e := hG.alike
        rw [← hL1, List.map_map] at e
        rw [List.map_map]
        exact e
      · have e := hG.sorts
        rw [← hL1, List.map_map] at e
        rw [List.map_map]
        exact e
      · obtain ⟨x, hx, rfl⟩ := List.mem_map.mp hb
        have := keys_depth x.1.1
        show (keyD x.1.1).depth ≤ 60
        unfold keyD
        simp [PyData.depth]
        omega
      · have es : ((L.map fun x : KF × Addr => (V.ref x.2, keyD x.1.1)).mergeSort (PySem.W.dataLe false Prod.snd)).map Prod.fst = (L.mergeSort (PySem.W.dataLe false fun x : KF × Addr => keyD x.1.1)).map fun x => V.ref x.2 := by
          rw [← List.map_mergeSort (r := PySem.W.dataLe false fun x : KF × Addr => keyD x.1.1) (s := PySem.W.dataLe false Prod.snd) (f := fun x : KF × Addr => (V.ref x.2, keyD x.1.1)) (fun _ _ _ _ => rfl), List.map_map]
          rfl
        have es2 : (L.mergeSort (PySem.W.dataLe false fun x : KF × Addr => keyD x.1.1)).map Prod.fst = (gsum (gs.map GRow.kf)).mergeSort (PySem.W.dataLe false fun x => keyD x.1) := by
          rw [List.map_mergeSort (r := PySem.W.dataLe false fun x : KF × Addr => keyD x.1.1) (s := PySem.W.dataLe false fun x : KF => keyD x.1) (f := Prod.fst) (fun _ _ _ _ => rfl), hL1]
        rw [es]
        have hmem : ∀ x ∈ L.mergeSort (PySem.W.dataLe false fun x : KF × Addr => keyD x.1.1), x ∈ L := fun x hx => (List.mergeSort_perm L _).mem_iff.mp hx
        have hLS : (L.mergeSort (PySem.W.dataLe false fun x : KF × Addr => keyD x.1.1)).length = L.length := (List.mergeSort_perm L _).length_eq
        generalize L.mergeSort (PySem.W.dataLe false fun x : KF × Addr => keyD x.1.1) = LS at es2 hmem hLS ⊢
        have kl : Kp [] H3 (upd H3 l (.lst (LS.map fun x => V.ref x.2))) := Kp.new nl
        have el : upd H3 l (.lst (LS.map fun x => V.ref x.2)) l = some (.lst (LS.map fun x => V.ref x.2)) := upd_same
        generalize upd H3 l (.lst (LS.map fun x => V.ref x.2)) = H4 at kl el ⊢
        have k24 := kp.trans kl
        have e4D := k24.get nin0 e2
        have V4 : KvAt K H4 kvs (gsum (gs.map GRow.kf)) := KvAt.mono (fun c f h => h.kp0 k24) V2
        refine Z.lcl (LS.map fun x => V.ref x.2) (lstL el) (fun D2 i H' => ∃ res : List GRow, Kp [] H4 H' ∧ H' D2 = some (.lst (res.map GRow.r)) ∧ (∀ g ∈ res, GRowAt K H' g) ∧ res.map GRow.kf = (LS.take i).map Prod.fst) ?_ ?_ ?_ ?_
        · intro D2 H5 nD2 k5 e5
          exact ⟨[], k5, e5, by simp, by simp⟩
        · rintro D2 i H5 nD2 hi ⟨res, k5, e5, A5, d5⟩
          exact lstL (k5.get nin0 el)
        · rintro D2 i v H5 nD2 hv ⟨res, k5, e5, A5, d5⟩
          rw [List.getElem?_map] at hv
          obtain ⟨x, hx, rfl⟩ := Option.map_eq_some_iff.mp hv
          have hxL := hmem x (List.mem_of_getElem? hx)
          have hxa : x.1 ∈ gsum (gs.map GRow.kf) := by rw [← hL1]; exact List.mem_map_of_mem hxL
          have hil : i < LS.length := (List.getElem?_eq_some_iff.mp hx).1
          have hrl : res.length ≤ i := by
            have h1 := congrArg List.length d5
            rw [List.length_map, List.length_map, List.length_take] at h1
            omega
          have hok : ∀ s, Sum.inr s ∈ x.1.1 → PyData.strOk s = true := hG.keys x.1 hxa
          have hkey : H5 x.2 = some (.tup (x.1.1.map kV)) := (kl.trans k5).get nin0 (hL4 x hxL)
          have hval := gval_of hnd hxa
          obtain ⟨c, hc, hF⟩ : ∃ c, valV kvs x.1.1 = some (.ref c) ∧ FrAt K H5 c x.1.2 := by
            rcases (KvAt.mono (fun c f h => h.kp0 k5) V4 : KvAt K H5 kvs _).val (k := x.1.1) with ⟨_, h2⟩ | ⟨c, f, h1, h2, h3⟩
            · rw [hval] at h2
              cases h2
            · rw [hval] at h2
              cases h2
              exact ⟨c, h1, h3⟩
          have e5D := k5.get nin0 e4D
          have hget : ∀ {H6 : Hp}, Kp [] H5 H6 → DGet H6 D (.ref x.2) (some (.ref c)) := fun {H6} k => by
            rw [← hc]
            exact DGet.t (k.get nin0 e5D) (k.get nin0 hkey)
          dsimp only [wipe, List.set]
          walk_at "z"
          refine ⟨rfl, ?_⟩
          walk_at "z"
          refine ⟨D, _, rfl, hget (Kp.refl _), ?_⟩
          walk_at "z"
          refine Z.tupK (fun t H7 nt k7 e7 => ?_)
          have e7D := k7.get nin0 e5
          have hrow : GRowAt K H7 ⟨t, x.2, x.1.1, c, x.1.2⟩ := ⟨tupT e7, k7.get nin0 hkey, hF.kp0 k7, hok⟩
          refine ⟨_, e7D, Z.szl (m := 100000) (by rw [List.length_map]; omega), res ++ [⟨t, x.2, x.1.1, c, x.1.2⟩], (k5.trans k7).mut nD2 rfl, by rw [upd_same, List.map_append]; rfl, fun g hg => ?_, ?_⟩
          · have kD : Kp [D2] H7 (upd H7 D2 (.lst (res.map GRow.r ++ [.ref t]))) := Kp.put (by simp)
            have nt2 := noT e7D (fun xs => ⟨by simp, by simp⟩)
            rcases List.mem_append.mp hg with hg | hg
            · exact ((A5 g hg).kp0 k7).kpM kD nt2
            · rw [List.mem_singleton.mp hg]
              exact hrow.kpM kD nt2
          · rw [List.map_append, d5, List.take_add_one, hx, List.map_append]
            rfl
        · rintro D2 H5 nD2 ⟨res, k5, e5, A5, d5⟩
          rw [List.length_map, List.take_length, es2] at d5
          walk_at "z"
          have k25 := k2.trans (k24.trans k5)
          exact q H5 D2 res ((k2.trans k24).none nin0 nD2) k25 e5 A5 d5
end gath2

section gath3
variable {κ : Type} [DecidableEq κ]
/-- the sum of the chances of a key -/
def sK (xs : List (κ × Fr)) (k : κ) : Rat := ((xs.filter fun x => decide (x.1 = k)).map fun x => rv x.2).sum
theorem ratsum_app : ∀ a b : List Rat, (a ++ b).sum = a.sum + b.sum
  | [], b => by show b.sum = 0 + b.sum; grind
  | x :: a, b => by
    rw [List.cons_append, List.sum_cons, List.sum_cons, ratsum_app a b]
    grind
theorem ratsum_perm {a b : List Rat} (h : a.Perm b) : a.sum = b.sum := by
  induction h with
  | nil => rfl
  | cons x _ ih => rw [List.sum_cons, List.sum_cons, ih]
  | swap x y l =>
    rw [List.sum_cons, List.sum_cons, List.sum_cons, List.sum_cons]
    grind
  | trans _ _ h1 h2 => exact h1.trans h2
theorem sK_perm {xs ys : List (κ × Fr)} (h : xs.Perm ys) (k : κ) : sK xs k = sK ys k := ratsum_perm ((h.filter _).map _)
theorem sK_nil (k : κ) : sK ([] : List (κ × Fr)) k = 0 := rfl
theorem sK_snoc (xs : List (κ × Fr)) (x : κ × Fr) (k : κ) : sK (xs ++ [x]) k = sK xs k + if x.1 = k then rv x.2 else 0 := by
  unfold sK
  rw [List.filter_append, List.map_append, ratsum_app]
  by_cases h : x.1 = k
  · rw [if_pos h, List.filter_cons_of_pos (by simpa using h)]
    show _ + (rv x.2 + 0) = _
    grind
  · rw [if_neg h, List.filter_cons_of_neg (by simpa using h)]
    rfl
theorem sK_none {xs : List (κ × Fr)} {k : κ} (h : k ∉ xs.map Prod.fst) : sK xs k = 0 := by
  unfold sK
  rw [List.filter_eq_nil_iff.mpr]
  · rfl
  · intro x hx e
    exact h (by rw [← of_decide_eq_true e]; exact List.mem_map_of_mem hx)
/-- each key once, with the sum of its chances -/
structure Norm (xs R : List (κ × Fr)) : Prop where
  a : ∀ x ∈ R, x.1 ∈ xs.map Prod.fst ∧ Low x.2 ∧ rv x.2 = sK xs x.1
  b : ∀ k ∈ xs.map Prod.fst, ∃ x ∈ R, x.1 = k
theorem Norm.mem {xs R : List (κ × Fr)} (h : Norm xs R) {x : κ × Fr} : x ∈ R ↔ x.1 ∈ xs.map Prod.fst ∧ Low x.2 ∧ rv x.2 = sK xs x.1 := by
  refine ⟨h.a x, fun ⟨h1, h2, h3⟩ => ?_⟩
  obtain ⟨y, hy, e⟩ := h.b _ h1
  obtain ⟨_, l2, l3⟩ := h.a y hy
  have e2 : y.2 = x.2 := low_eq l2 h2 (by rw [l3, h3, e])
  have e3 : y = x := Prod.ext e e2
  rwa [← e3]
theorem Norm.perm {xs ys R : List (κ × Fr)} (h : Norm xs R) (p : xs.Perm ys) : Norm ys R :=
  ⟨fun x hx => ⟨(p.map Prod.fst).mem_iff.mp (h.a x hx).1, (h.a x hx).2.1, by rw [(h.a x hx).2.2, sK_perm p]⟩, fun k hk => h.b k ((p.map Prod.fst).mem_iff.mpr hk)⟩
theorem Norm.permR {xs R R' : List (κ × Fr)} (h : Norm xs R) (p : R.Perm R') : Norm xs R' := ⟨fun x hx => h.a x (p.mem_iff.mpr hx), fun k hk => let ⟨x, hx, e⟩ := h.b k hk; ⟨x, p.mem_iff.mp hx, e⟩⟩
theorem norm_nil : Norm ([] : List (κ × Fr)) [] := ⟨by simp, by simp⟩
theorem gval_some {acc : List (κ × Fr)} {k : κ} (h : (acc.any fun x => decide (x.1 = k)) = true) : ∃ g, gval acc k = some g ∧ (k, g) ∈ acc := by
  obtain ⟨x, hx, e⟩ := List.any_eq_true.mp h
  unfold gval
  cases hf : acc.find? fun x => decide (x.1 = k) with
  | none =>
    have := List.find?_eq_none.mp hf x hx
    exact absurd e this
  | some y =>
    have h1 := List.find?_some hf
    have h2 := List.mem_of_find?_eq_some hf
    have h3 : y.1 = k := of_decide_eq_true h1
    exact ⟨y.2, rfl, by rw [← h3]; exact h2⟩
theorem gval_nil {acc : List (κ × Fr)} {k : κ} (h : ¬ (acc.any fun x => decide (x.1 = k)) = true) : gval acc k = none := by
  unfold gval
  rw [List.find?_eq_none.mpr fun x hx e => gval_none h x hx (of_decide_eq_true e)]
  rfl
theorem fplus_zero {f : Fr} (h : f.2 ≠ 0) : rv (fplus (0, 1) f) = rv f := by
  rw [rv_fplus (by decide) h]
  have e0 : rv (0, 1) = 0 := by unfold rv; grind
  rw [e0]
  grind
theorem norm_step {ps acc : List (κ × Fr)} {x : κ × Fr} (h : Norm ps acc) (hn : (acc.map Prod.fst).Nodup) (hx : x.2.2 ≠ 0) : Norm (ps ++ [x]) (gstp acc x) := by
  have hk : ∀ k, k ∈ (ps ++ [x]).map Prod.fst ↔ k ∈ ps.map Prod.fst ∨ k = x.1 := fun k => by
    rw [List.map_append, List.mem_append]
    simp
  unfold gstp gput
  by_cases ha : (acc.any fun y => decide (y.1 = x.1)) = true
  · rw [if_pos ha]
    obtain ⟨g, hg, hm⟩ := gval_some ha
    obtain ⟨g1, g2, g3⟩ := h.a _ hm
    rw [hg]
    refine ⟨fun y hy => ?_, fun k hkm => ?_⟩
    · obtain ⟨z, hz, rfl⟩ := List.mem_map.mp hy
      obtain ⟨z1, z2, z3⟩ := h.a z hz
      by_cases e : z.1 = x.1
      · rw [if_pos e]
        refine ⟨(hk _).mpr (.inl z1), fplus_low g2.ne hx, ?_⟩
        show rv (fplus g x.2) = _
        rw [rv_fplus g2.ne hx, sK_snoc, if_pos e.symm, g3, e]
      · rw [if_neg e]
        refine ⟨(hk _).mpr (.inl z1), z2, ?_⟩
        rw [sK_snoc, if_neg (fun q => e q.symm), z3]
        grind
    · rcases (hk k).mp hkm with h1 | rfl
      · obtain ⟨z, hz, e⟩ := h.b k h1
        refine ⟨_, List.mem_map_of_mem hz, ?_⟩
        split
        · exact e
        · exact e
      · refine ⟨_, List.mem_map_of_mem hm, ?_⟩
        rw [if_pos rfl]
  · rw [if_neg ha, gval_nil ha]
    have hno : x.1 ∉ ps.map Prod.fst := fun z => by
      obtain ⟨y, hy, e⟩ := h.b _ z
      exact gval_none ha y hy e
    refine ⟨fun y hy => ?_, fun k hkm => ?_⟩
    · rcases List.mem_append.mp hy with hy | hy
      · obtain ⟨y1, y2, y3⟩ := h.a y hy
        refine ⟨(hk _).mpr (.inl y1), y2, ?_⟩
        rw [sK_snoc, if_neg (fun e => hno (by rw [e]; exact y1)), y3]
        grind
      · rw [List.mem_singleton.mp hy]
        refine ⟨(hk _).mpr (.inr rfl), fplus_low (by decide) hx, ?_⟩
        show rv (fplus (0, 1) x.2) = sK (ps ++ [x]) x.1
        rw [fplus_zero hx, sK_snoc, if_pos rfl, sK_none hno]
        grind
    · rcases (hk k).mp hkm with h1 | rfl
      · obtain ⟨z, hz, e⟩ := h.b k h1
        exact ⟨z, List.mem_append_left _ hz, e⟩
      · exact ⟨(x.1, fplus (0, 1) x.2), List.mem_append_right _ (by simp), rfl⟩
theorem norm_fold : ∀ {xs ps acc : List (κ × Fr)}, Norm ps acc → (acc.map Prod.fst).Nodup → (∀ x ∈ xs, x.2.2 ≠ 0) → Norm (ps ++ xs) (xs.foldl gstp acc)
  | [], ps, acc, h, _, _ => by rw [List.append_nil]; exact h
  | x :: xs, ps, acc, h, hn, hx => by
    rw [List.foldl_cons, show ps ++ x :: xs = (ps ++ [x]) ++ xs by simp]
    exact norm_fold (norm_step h hn (hx x (by simp))) (gput_nodup hn) fun y hy => hx y (by simp [hy])
theorem norm_gsum {xs : List (κ × Fr)} (hx : ∀ x ∈ xs, x.2.2 ≠ 0) : Norm xs (gsum xs) := by
  have := norm_fold (xs := xs) (ps := []) (acc := []) norm_nil (by simp) hx
  rwa [List.nil_append] at this
/-- an order of the keys -/
structure KOrd (le : κ → κ → Bool) : Prop where
  trans : ∀ a b c, le a b = true → le b c = true → le a c = true
  total : ∀ a b, le a b = true ∨ le b a = true
  anti : ∀ a b, le a b = true → le b a = true → a = b
def Asc (le : κ → κ → Bool) (R : List (κ × Fr)) : Prop := R.Pairwise fun a b => le a.1 b.1 = true ∧ a.1 ≠ b.1
theorem Asc.nodup {le : κ → κ → Bool} {R : List (κ × Fr)} (h : Asc le R) : R.Nodup := List.Pairwise.imp (fun {a b} h e => h.2 (by rw [e])) h
theorem norm_eq {le : κ → κ → Bool} (O : KOrd le) {xs R R' : List (κ × Fr)} (h : Norm xs R) (h' : Norm xs R') (s : Asc le R) (s' : Asc le R') : R = R' := by
  have hm : ∀ x, x ∈ R ↔ x ∈ R' := fun x => h.mem.trans h'.mem.symm
  refine List.Perm.eq_of_pairwise (le := fun a b : κ × Fr => le a.1 b.1 = true) (fun a b ha hb h1 h2 => ?_) (List.Pairwise.imp (fun {a b} h => h.1) s) (List.Pairwise.imp (fun {a b} h => h.1) s') ((List.perm_ext_iff_of_nodup s.nodup s'.nodup).mpr hm)
  have e := O.anti _ _ h1 h2
  obtain ⟨_, a2, a3⟩ := h.a a ha
  obtain ⟨_, b2, b3⟩ := h'.a b hb
  exact Prod.ext e (low_eq a2 b2 (by rw [a3, b3, e]))
/-- equal neighbours added -/
def stpG (acc : List (κ × Fr)) (x : κ × Fr) : List (κ × Fr) := match acc.getLast? with
  | some y => if y.1 = x.1 then acc.dropLast ++ [(x.1, fplus y.2 x.2)] else acc ++ [x]
  | none => [x]
theorem stpG_last (o : List (κ × Fr)) (y x : κ × Fr) : stpG (o ++ [y]) x = if y.1 = x.1 then o ++ [(x.1, fplus y.2 x.2)] else o ++ [y] ++ [x] := by
  unfold stpG
  rw [List.getLast?_concat, List.dropLast_concat]
theorem stpG_step {le : κ → κ → Bool} (O : KOrd le) {ps acc : List (κ × Fr)} {x : κ × Fr} (h : Norm ps acc) (s : Asc le acc) (hx : Low x.2) (hle : ∀ y ∈ ps, le y.1 x.1 = true) : Norm (ps ++ [x]) (stpG acc x) ∧ Asc le (stpG acc x) := by
  have hk : ∀ k, k ∈ (ps ++ [x]).map Prod.fst ↔ k ∈ ps.map Prod.fst ∨ k = x.1 := fun k => by
    rw [List.map_append, List.mem_append]
    simp
  have hle' : ∀ k ∈ ps.map Prod.fst, le k x.1 = true := fun k hk => by
    obtain ⟨y, hy, rfl⟩ := List.mem_map.mp hk
    exact hle y hy
  have hnew : x.1 ∉ ps.map Prod.fst → Norm (ps ++ [x]) (acc ++ [x]) ∧ Asc le (acc ++ [x]) := fun hno => by
    refine ⟨⟨fun y hy => ?_, fun k hkm => ?_⟩, List.pairwise_append.mpr ⟨s, by simp, fun a ha b hb => ?_⟩⟩
    · rcases List.mem_append.mp hy with hy | hy
      · obtain ⟨y1, y2, y3⟩ := h.a y hy
        refine ⟨(hk _).mpr (.inl y1), y2, ?_⟩
        rw [sK_snoc, if_neg (fun e => hno (by rw [e]; exact y1)), y3]
        grind
      · rw [List.mem_singleton.mp hy]
        refine ⟨(hk _).mpr (.inr rfl), hx, ?_⟩
        rw [sK_snoc, if_pos rfl, sK_none hno]
        grind
    · rcases (hk k).mp hkm with h1 | rfl
      · obtain ⟨z, hz, e⟩ := h.b k h1
        exact ⟨z, List.mem_append_left _ hz, e⟩
      · exact ⟨x, List.mem_append_right _ (by simp), rfl⟩
    · rw [List.mem_singleton.mp hb]
      have ha1 := (h.a a ha).1
      exact ⟨hle' _ ha1, fun e => hno (by rw [← e]; exact ha1)⟩
  rcases List.eq_nil_or_concat acc with rfl | ⟨o, y, hoy⟩
  · refine hnew fun z => ?_
    obtain ⟨y, hy, _⟩ := h.b _ z
    cases hy
  · rw [List.concat_eq_append] at hoy
    subst hoy
    rw [stpG_last]
    obtain ⟨s1, _, s3⟩ := List.pairwise_append.mp s
    obtain ⟨y1, y2, y3⟩ := h.a y (by simp)
    by_cases e : y.1 = x.1
    · rw [if_pos e]
      refine ⟨⟨fun z hz => ?_, fun k hkm => ?_⟩, List.pairwise_append.mpr ⟨s1, by simp, fun a ha b hb => ?_⟩⟩
      · rcases List.mem_append.mp hz with hz | hz
        · obtain ⟨z1, z2, z3⟩ := h.a z (by simp [hz])
          refine ⟨(hk _).mpr (.inl z1), z2, ?_⟩
          rw [sK_snoc, if_neg (fun q => (s3 z hz y (by simp)).2 (by rw [e, q])), z3]
          grind
        · rw [List.mem_singleton.mp hz]
          refine ⟨(hk _).mpr (.inr rfl), fplus_low y2.ne hx.ne, ?_⟩
          show rv (fplus y.2 x.2) = sK (ps ++ [x]) x.1
          rw [rv_fplus y2.ne hx.ne, sK_snoc, if_pos rfl, y3, e]
      · rcases (hk k).mp hkm with h1 | rfl
        · obtain ⟨z, hz, e2⟩ := h.b k h1
          rcases List.mem_append.mp hz with hz | hz
          · exact ⟨z, List.mem_append_left _ hz, e2⟩
          · refine ⟨(x.1, fplus y.2 x.2), List.mem_append_right _ (by simp), ?_⟩
            rw [List.mem_singleton.mp hz] at e2
            show x.1 = k
            rw [← e, e2]
        · exact ⟨(x.1, fplus y.2 x.2), List.mem_append_right _ (by simp), rfl⟩
      · rw [List.mem_singleton.mp hb]
        have := s3 a ha y (by simp)
        rw [e] at this
        exact this
    · rw [if_neg e]
      refine hnew fun z => ?_
      obtain ⟨u, hu, e2⟩ := h.b _ z
      rcases List.mem_append.mp hu with hu | hu
      · have h1 := s3 u hu y (by simp)
        have h2 := hle' _ y1
        rw [e2] at h1
        exact e (O.anti _ _ h2 h1.1)
      · rw [List.mem_singleton.mp hu] at e2
        exact e e2
theorem stpG_fold {le : κ → κ → Bool} (O : KOrd le) : ∀ {xs ps acc : List (κ × Fr)}, Norm ps acc → Asc le acc → (∀ x ∈ xs, Low x.2) → (ps ++ xs).Pairwise (fun a b => le a.1 b.1 = true) → Norm (ps ++ xs) (xs.foldl stpG acc) ∧ Asc le (xs.foldl stpG acc)
  | [], ps, acc, h, s, _, _ => by rw [List.append_nil]; exact ⟨h, s⟩
  | x :: xs, ps, acc, h, s, hx, hp => by
    have hle : ∀ y ∈ ps, le y.1 x.1 = true := fun y hy => (List.pairwise_append.mp hp).2.2 y hy x (by simp)
    obtain ⟨h1, h2⟩ := stpG_step O h s (hx x (by simp)) hle
    rw [show ps ++ x :: xs = (ps ++ [x]) ++ xs by simp] at hp ⊢
    rw [List.foldl_cons]
    exact stpG_fold O h1 h2 (fun y hy => hx y (by simp [hy])) hp
/-- sums in a dict, sorted, are the sorted rows with equal neighbours added -/
theorem gath_both {le : κ → κ → Bool} (O : KOrd le) {xs : List (κ × Fr)} (hx : ∀ x ∈ xs, Low x.2) : (xs.mergeSort fun a b => le a.1 b.1).foldl stpG [] = (gsum xs).mergeSort fun a b => le a.1 b.1 := by
  have T : ∀ a b c : κ × Fr, le a.1 b.1 = true → le b.1 c.1 = true → le a.1 c.1 = true := fun a b c => O.trans a.1 b.1 c.1
  have U : ∀ a b : κ × Fr, (le a.1 b.1 || le b.1 a.1) = true := fun a b => Bool.or_eq_true_iff.mpr (O.total a.1 b.1)
  have p1 := List.mergeSort_perm xs fun a b : κ × Fr => le a.1 b.1
  have p2 := List.mergeSort_perm (gsum xs) fun a b : κ × Fr => le a.1 b.1
  have q1 := List.pairwise_mergeSort (le := fun a b : κ × Fr => le a.1 b.1) T U xs
  have q2 := List.pairwise_mergeSort (le := fun a b : κ × Fr => le a.1 b.1) T U (gsum xs)
  obtain ⟨n1, s1⟩ := stpG_fold O (xs := xs.mergeSort fun a b => le a.1 b.1) (ps := []) (acc := []) norm_nil .nil (fun x h => hx x (p1.mem_iff.mp h)) (by rw [List.nil_append]; exact q1)
  rw [List.nil_append] at n1
  have n2 := (norm_gsum fun x h => (hx x h).ne).permR p2.symm
  refine norm_eq O (n1.perm p1) n2 s1 ?_
  have hn : (gsum xs).Pairwise fun a b => a.1 ≠ b.1 := List.pairwise_map.mp (gsum_nodup (xs := xs) (acc := []) (by simp))
  have hn2 : ((gsum xs).mergeSort fun a b : κ × Fr => le a.1 b.1).Pairwise fun a b => a.1 ≠ b.1 := (p2.pairwise_iff (fun {a b} h => h.symm)).mpr hn
  exact List.Pairwise.and q2 hn2
end gath3

section mean12
variable {K : PySem.W.Frag}
/-- a pair of fractions: the tuple at a, the number at b, the chance at c -/
structure PRow where
  a : Addr
  b : Addr
  c : Addr
  g : Fr
  f : Fr
def PRow.r (p : PRow) : V := .ref p.a
def PRow.tm (p : PRow) : Fr := ftimes p.g p.f
structure PRowAt (K : PySem.W.Frag) (H : Hp) (p : PRow) : Prop where
  tup : SqT K H p.a [.ref p.b, .ref p.c]
  num : FrAt K H p.b p.g
  fr : FrAt K H p.c p.f
theorem PRowAt.kpM {M : List Addr} {H H' : Hp} {p : PRow} (h : PRowAt K H p) (k : Kp M H H') (n : ∀ x ∈ M, NoTup H x) : PRowAt K H' p := ⟨kpTup h.tup k n, FrAt.kp h.num k n, FrAt.kp h.fr k n⟩
theorem PRowAt.kp0 {H H' : Hp} {p : PRow} (h : PRowAt K H p) (k : Kp [] H H') : PRowAt K H' p := h.kpM k (by simp)
theorem PRowAt.kpl {H H' : Hp} {p : PRow} {l : Addr} {xs : List V} (h : PRowAt K H p) (k : Kp [l] H H') (e : H l = some (.lst xs)) : PRowAt K H' p := h.kpM k fun x hx => by
  rw [List.mem_singleton.mp hx]
  exact NoTup.lst e
def meanF (ps : List PRow) : Fr := fsum (0, 1) (ps.map PRow.tm)
structure MeanOk (ps : List PRow) : Prop where
  one : ∀ p ∈ ps, p.g.2 ≠ 0 ∧ p.f.2 ≠ 0 ∧ FrB 3900 p.g ∧ FrB 3900 p.f
  sum : SumOk (ps.map PRow.tm)
  len : ps.length ≤ 1000
def spMean (K : PySem.W.Frag) : Sp := fun vs H Q _ => ∃ (a : Addr) (ps : List PRow), vs = [.ref a] ∧ SqL K H a (ps.map PRow.r) ∧ (∀ p ∈ ps, PRowAt K H p) ∧ MeanOk ps ∧ ∀ H' c, Kp [] H H' → FrAt K H' c (meanF ps) → Q (.ref c) H'
theorem ok_mean {P : Program} {w : World} {K : PySem.W.Frag} {mg : Str → Option Value} {base : Heap} (T : T P K mg base) : FnOk P w K mg base CX0 6 T.a_mean T.fd_mean ["rows"] (spMean K) := by
  refine T.F_mean.ok sc_mean (fun vs H Q E h => ?_) (fun cdv A outer s H vs Q E hr h => ?_)
  · obtain ⟨a, ps, rfl, _⟩ := h
    rfl
  · obtain ⟨a, ps, rfl, hS, hA, hM, q⟩ := h
    refine ⟨_, (pss_one (ps_ret (pe_call (ok_sum_of T) (hr.mono (by decide)) (by rfl) T.g_sum_of T.F_sum_of.kp T.b_sum_of .nil pass0 (pa_cons (pe_lc (own := [("number", 1), ("chance", 2)]) (g := gTup K 2 (gCons (gName 1) (gCons (gName 2) gNil))) rfl sc_mean.nd (pi_list (pv 0)) (blkOk_by (own := [("number", 1), ("chance", 2)]) (N := N_mean) (sc := defScope s_mean) (by decide +kernel)) (fun _ _ _ _ _ => (pg_tup rfl (pgs_cons (pg_name (i := 1) sc_mean.nd rfl (by first | exact Or.inl rfl | exact Or.inr rfl)) (pgs_cons (pg_name (i := 2) sc_mean.nd rfl (by first | exact Or.inl rfl | exact Or.inr rfl)) pgs_nil)))) (fun _ _ _ _ _ => pts_nil) (fun _ _ _ _ _ => (pe_call (ok_times T) (hr.mono (by decide)) (by rfl) T.g_times T.F_times.kp T.b_times .nil pass0 (pa_cons (pv 1) (pa_cons (pv 2) pa_nil))))) pa_nil)))), ?_⟩
    walk_at "z0"
    walk_at "z"
    refine Z.lcl (ps.map PRow.r) hS (fun D i H' => ∃ as : List Addr, Kp [] H H' ∧ H' D = some (.lst (as.map V.ref)) ∧ FrsAt K H' as ((ps.take i).map PRow.tm)) ?_ ?_ ?_ ?_
    · intro D H1 nD k1 e1
      exact ⟨[], k1, e1, .nil⟩
    · rintro D i H1 nD hi ⟨as, k1, e1, F1⟩
      exact k1.seq nin0 hS
    · rintro D i v H1 nD hv ⟨as, k1, e1, F1⟩
      rw [List.getElem?_map] at hv
      obtain ⟨p, hp, rfl⟩ := Option.map_eq_some_iff.mp hv
      have hpm := List.mem_of_getElem? hp
      have hpA := (hA p hpm).kp0 k1
      obtain ⟨o1, o2, o3, o4⟩ := hM.one p hpm
      have hil : i < ps.length := (List.getElem?_eq_some_iff.mp hp).1
      have hl := hM.len
      dsimp only [wipe, List.set]
      refine Z.gtup hpA.tup rfl ?_
      walk_at "z"
      refine ⟨rfl, ?_⟩
      walk_at "z"
      refine ⟨p.b, p.c, p.g, p.f, rfl, hpA.num, hpA.fr, o1, o2, o3, o4, fun H2 y ny k2 e2 => ?_⟩
      have e2D := k2.get nin0 e1
      refine ⟨_, e2D, Z.szl (m := 1000) (by rw [List.length_map, F1.len, List.length_map, List.length_take]; omega), as ++ [y], (k1.trans k2).mut nD rfl, by rw [upd_same, List.map_append]; rfl, ?_⟩
      rw [List.take_add_one, hp, List.map_append]
      exact ((F1.kp0 k2).snoc e2).kpl (Kp.put (by simp)) e2D
    · rintro D H1 nD ⟨as, k1, e1, F1⟩
      rw [List.length_map, List.take_length] at F1
      refine ⟨D, as, _, rfl, lstL e1, F1, hM.sum, fun H2 c k2 e2 => ?_⟩
      walk_at "z"
      exact q H2 c (k1.trans k2) e2
structure LMeanOk (ps : List PRow) : Prop where
  one : ∀ p ∈ ps, 1 ≤ p.g.2 ∧ 1 ≤ p.f.2 ∧ FrB 900 p.g ∧ FrB 900 p.f
  sum : ∀ i p, ps[i]? = some p → ∃ n m, FrB n (fsum (0, 1) ((ps.take i).map PRow.tm)) ∧ FrB m p.tm ∧ n + m ≤ 1900
theorem tm_pos {p : PRow} (h1 : 1 ≤ p.g.2) (h2 : 1 ≤ p.f.2) : 1 ≤ p.tm.2 := by
  unfold PRow.tm ftimes
  exact lo_pos (Int.mul_ne_zero (by omega) (by omega))
def spLMean (K : PySem.W.Frag) : Sp := fun vs H Q _ => ∃ (a : Addr) (ps : List PRow), vs = [.ref a] ∧ SqL K H a (ps.map PRow.r) ∧ (∀ p ∈ ps, PRowAt K H p) ∧ LMeanOk ps ∧ ∀ H' c, Kp [] H H' → FrAt K H' c (meanF ps) → Q (.ref c) H'
theorem ok__law_mean {P : Program} {w : World} {K : PySem.W.Frag} {mg : Str → Option Value} {base : Heap} (T : T P K mg base) : FnOk P w K mg base CX0 3 T.a__law_mean T.fd__law_mean ["rows"] (spLMean K) := by
  refine T.F__law_mean.ok sc__law_mean (fun vs H Q E h => ?_) (fun cdv A outer s H vs Q E hr h => ?_)
  · obtain ⟨a, ps, rfl, _⟩ := h
    rfl
  · obtain ⟨a, ps, rfl, hS, hA, hM, q⟩ := h
    refine ⟨_, (pss_cons (ps_set (i := 1) sc__law_mean.nd rfl (by first | exact Or.inl rfl | exact Or.inr rfl) (pe_tup (pa_cons pe_int (pa_cons pe_int pa_nil))))
      (pss_cons (ps_for PassesOwn.never rfl (pi_list (pv 0)) (pg_tup rfl (pgs_cons (pg_name (i := 2) sc__law_mean.nd rfl (by first | exact Or.inl rfl | exact Or.inr rfl)) (pgs_cons (pg_name (i := 3) sc__law_mean.nd rfl (by first | exact Or.inl rfl | exact Or.inr rfl)) pgs_nil))) (pss_one (ps_set (i := 1) sc__law_mean.nd rfl (by first | exact Or.inl rfl | exact Or.inr rfl) (pe_call (ok__law_plus T) (hr.mono (by decide)) (by rfl) T.g__law_plus T.F__law_plus.kp T.b__law_plus .nil pass0 (pa_cons (pv 1) (pa_cons (pe_call (ok__law_times T) (hr.mono (by decide)) (by rfl) T.g__law_times T.F__law_times.kp T.b__law_times .nil pass0 (pa_cons (pv 2) (pa_cons (pv 3) pa_nil))) pa_nil))))))
      (pss_one (ps_ret (pv 1))))), ?_⟩
    walk_at "z0"
    walk_at "z"
    refine Z.tupK (fun b H1 nb k1 e1 => ?_)
    walk_at "z"
    refine Z.forl (ps.map PRow.r) (k1.seq nin0 hS) (fun i σ' H' => ∃ c y2 y3, σ' = [some (.ref a), some (.ref c), y2, y3] ∧ Kp [] H H' ∧ FrAt K H' c (fsum (0, 1) ((ps.take i).map PRow.tm))) ?_ ?_ ?_ ?_
    · exact ⟨b, _, _, rfl, k1, tupT e1⟩
    · rintro i σ' H' _ ⟨c, y2, y3, rfl, k2, _⟩
      exact k2.seq nin0 hS
    · rintro i v σ' H2 hv ⟨c, y2, y3, rfl, k2, e2⟩
      rw [List.getElem?_map] at hv
      obtain ⟨p, hp, rfl⟩ := Option.map_eq_some_iff.mp hv
      have hpm := List.mem_of_getElem? hp
      have hpA := (hA p hpm).kp0 k2
      obtain ⟨o1, o2, o3, o4⟩ := hM.one p hpm
      obtain ⟨n, m, b1, b2, hnm⟩ := hM.sum i p hp
      have hlow := rv_fsum (fs := (ps.take i).map PRow.tm) (t := (0, 1)) ⟨by decide, by decide⟩ fun g hg => by
        obtain ⟨z, hz, rfl⟩ := List.mem_map.mp hg
        have hz1 := hM.one z (List.mem_of_mem_take hz)
        have := tm_pos hz1.1 hz1.2.1
        omega
      refine Z.gtup hpA.tup rfl ?_
      walk_at "z"
      refine ⟨p.b, p.c, p.g, p.f, rfl, hpA.num, hpA.fr, o1, o2, ⟨900, 900, o3, o4, by decide⟩, fun H3 y ny k3 e3 => ?_⟩
      walk_at "z"
      refine ⟨c, y, _, p.tm, rfl, e2.kp0 k3, e3, hlow.2.1, tm_pos o1 o2, ⟨n, m, b1, b2, hnm⟩, fun H4 d nd k4 e4 => ?_⟩
      walk_at "z"
      refine ⟨d, _, _, rfl, k2.trans (k3.trans k4), ?_⟩
      have hf : (ps.map PRow.tm)[i]? = some p.tm := by rw [List.getElem?_map, hp]; rfl
      rw [List.map_take, fsum_take hf, ← List.map_take]
      exact e4
    · rintro σ' H' ⟨c, y2, y3, rfl, k2, e2⟩
      walk_at "z"
      rw [List.length_map, List.take_length] at e2
      exact q _ _ k2 e2
end mean12

section gath4
open GT
def leK (a b : List Key) : Bool := PySem.W.dataLe false keyD a b
theorem toks_inj : ∀ {a b : List Key}, PySem.W.keyToksAll (a.map kD) = PySem.W.keyToksAll (b.map kD) → a = b
  | [], [], _ => rfl
  | [], x :: b, h => by simp [PySem.W.keyToksAll] at h
  | x :: a, [], h => by simp [PySem.W.keyToksAll] at h
  | x :: a, y :: b, h => by
    have hx : ∀ (z : Key) (r : List Key), PySem.W.keyToksAll ((z :: r).map kD) = .inl 1 :: (match z with | .inl i => Sum.inl i | .inr s => Sum.inr s.cps.toList) :: PySem.W.keyToksAll (r.map kD) := fun z r => by
      cases z <;> simp [PySem.W.keyToksAll, PySem.W.keyToks, kD]
    rw [hx, hx] at h
    have h1 := (List.cons.inj (List.cons.inj h).2).1
    have h2 := toks_inj (List.cons.inj (List.cons.inj h).2).2
    have e : x = y := by
      cases x with
      | inl i => cases y with
        | inl j => rw [Sum.inl.inj h1]
        | inr s => cases h1
      | inr s => cases y with
        | inl j => cases h1
        | inr t =>
          have h3 : s.cps.toList = t.cps.toList := Sum.inr.inj h1
          have h4 : s.cps = t.cps := Array.toList_inj.mp h3
          have h5 : s = t := by
            obtain ⟨c⟩ := s
            obtain ⟨d⟩ := t
            cases h4
            rfl
          rw [h5]
    rw [e, h2]
theorem leK_ord : KOrd leK := by
  have T := PySem.W.sortLe_total (PyProof.Rows.listOrd PyProof.Rows.itemOrd) false fun k : List Key => PySem.W.keyToks (keyD k)
  refine ⟨T.trans, T.total, fun a b h1 h2 => ?_⟩
  have e1 : (!PyProof.Rows.lexLt PyProof.Rows.itemOrd (PySem.W.keyToks (keyD b)) (PySem.W.keyToks (keyD a))) = true := h1
  have e2 : (!PyProof.Rows.lexLt PyProof.Rows.itemOrd (PySem.W.keyToks (keyD a)) (PySem.W.keyToks (keyD b))) = true := h2
  rw [Bool.not_eq_true'] at e1 e2
  have e3 := PyProof.Rows.lex_total (O := PyProof.Rows.itemOrd) _ _ e2 e1
  unfold keyD at e3
  simp only [PySem.W.keyToks] at e3
  exact toks_inj e3
theorem eqv_kD (a b : Key) : PyData.eqv (kD a) (kD b) = decide (a = b) := by
  cases a with
  | inl i => cases b with
    | inl j =>
      simp [kD, PyData.eqv]
      rfl
    | inr t => simp [kD, PyData.eqv]
  | inr s => cases b with
    | inl j => simp [kD, PyData.eqv]
    | inr t =>
      simp [kD, PyData.eqv]
      rfl
theorem eqvAll_keys : ∀ a b : List Key, PyData.eqvAll (a.map kD) (b.map kD) = decide (a = b)
  | [], [] => by simp [PyData.eqvAll]
  | [], y :: b => by simp [PyData.eqvAll]
  | x :: a, [] => by simp [PyData.eqvAll]
  | x :: a, y :: b => by
    rw [List.map_cons, List.map_cons, PyData.eqvAll, eqv_kD, eqvAll_keys a b]
    by_cases h1 : x = y
    · by_cases h2 : a = b
      · simp [h1, h2]
      · simp [h1, h2]
    · simp [h1]
theorem eqv_keys (a b : List Key) : PyData.eqv (keyD a) (keyD b) = decide (a = b) := by
  unfold keyD
  rw [PyData.eqv]
  exact eqvAll_keys a b
/-- a row as data -/
def emb (x : KF) : PyData × Fr := (keyD x.1, x.2)
theorem stp_emb (acc : List KF) (x : KF) : stp (acc.map emb) (emb x) = (stpG acc x).map emb := by
  rcases List.eq_nil_or_concat acc with rfl | ⟨o, y, hoy⟩
  · rfl
  · rw [List.concat_eq_append] at hoy
    subst hoy
    rw [stpG_last, List.map_append, List.map_cons, List.map_nil, stp_last]
    by_cases h : y.1 = x.1
    · rw [if_pos h, if_pos (show PyData.eqv (emb y).1 (emb x).1 = true from (eqv_keys y.1 x.1).trans (decide_eq_true h)), List.map_append]
      rfl
    · rw [if_neg h, if_neg (show ¬ PyData.eqv (emb y).1 (emb x).1 = true from fun z => h (of_decide_eq_true ((eqv_keys y.1 x.1).symm.trans z))), List.map_append, List.map_append]
      rfl
theorem fold_emb : ∀ (xs acc : List KF), (xs.map emb).foldl stp (acc.map emb) = (xs.foldl stpG acc).map emb
  | [], _ => rfl
  | x :: xs, acc => by rw [List.map_cons, List.foldl_cons, List.foldl_cons, stp_emb, fold_emb xs]
theorem srtd_emb {rs : List LRow} {xs : List KF} (h : rs.map LRow.dat = xs.map emb) : (srtd rs).map LRow.dat = (xs.mergeSort fun a b => leK a.1 b.1).map emb := by
  unfold srtd
  rw [List.map_mergeSort (r := PySem.W.dataLe false LRow.d) (s := PySem.W.dataLe false Prod.fst) (f := LRow.dat) (fun _ _ _ _ => rfl), h]
  rw [← List.map_mergeSort (r := fun a b : KF => leK a.1 b.1) (s := PySem.W.dataLe false Prod.fst) (f := emb) (fun _ _ _ _ => rfl)]
/-- law_from, by a dict -/
theorem law_gath {rs : List LRow} {xs : List KF} (h : rs.map LRow.dat = xs.map emb) (hx : ∀ x ∈ xs, Low x.2) : lawOf rs = (gathOf xs).map emb := by
  unfold lawOf
  rw [srtd_emb h]
  have e := fold_emb (xs.mergeSort fun a b => leK a.1 b.1) []
  rw [List.map_nil] at e
  rw [e, gath_both leK_ord hx]
  unfold gathOf
  rw [List.filter_map]
  rfl
end gath4

/-! ### rows of numbers and chances, as values -/
section vals46
variable {K : PySem.W.Frag}
open LamX hiding takes0
open LamK
/-- pairs as values: (number, chance) -/
def PRow.v (p : PRow) : Fr × Fr := (p.g, p.f)
def tmV (z : Fr × Fr) : Fr := ftimes z.1 z.2
def meanV (zs : List (Fr × Fr)) : Fr := fsum (0, 1) (zs.map tmV)
theorem meanF_v (ps : List PRow) : meanF ps = meanV (ps.map PRow.v) := by
  unfold meanF meanV
  rw [List.map_map]
  rfl
structure MeanV (zs : List (Fr × Fr)) : Prop where
  one : ∀ z ∈ zs, z.1.2 ≠ 0 ∧ z.2.2 ≠ 0 ∧ FrB 3900 z.1 ∧ FrB 3900 z.2
  sum : SumOk (zs.map tmV)
  len : zs.length ≤ 1000
theorem MeanV.to {ps : List PRow} {zs : List (Fr × Fr)} (h : MeanV zs) (e : ps.map PRow.v = zs) : MeanOk ps := by
  subst e
  refine ⟨fun p hp => h.one p.v (List.mem_map_of_mem hp), ?_, ?_⟩
  · have := h.sum
    rw [List.map_map] at this
    exact this
  · have := h.len
    rwa [List.length_map] at this
/-- lists of pairs -/
def PRows (K : PySem.W.Frag) (H : Hp) (D : Addr) (zs : List (Fr × Fr)) : Prop := ∃ ps : List PRow, H D = some (.lst (ps.map PRow.r)) ∧ (∀ p ∈ ps, PRowAt K H p) ∧ ps.map PRow.v = zs
theorem PRows.kp0 {H H' : Hp} {D : Addr} {zs : List (Fr × Fr)} (h : PRows K H D zs) (k : Kp [] H H') : PRows K H' D zs := let ⟨ps, e, A, v⟩ := h; ⟨ps, k.get nin0 e, fun p hp => (A p hp).kp0 k, v⟩
theorem PRows.new {H : Hp} {D : Addr} (h : H D = some (.lst [])) : PRows K H D [] := ⟨[], h, by simp, rfl⟩
theorem PRows.snoc {H : Hp} {D t b c : Addr} {xs : List V} {zs : List (Fr × Fr)} {g f : Fr} (h : PRows K H D zs) (e : H D = some (.lst xs)) (et : H t = some (.tup [.ref b, .ref c])) (hg : FrAt K H b g) (hf : FrAt K H c f) : PRows K (upd H D (.lst (xs ++ [.ref t]))) D (zs ++ [(g, f)]) := by
  obtain ⟨ps, e1, A, rfl⟩ := h
  rw [e] at e1
  cases e1
  have kD : Kp [D] H (upd H D (.lst (ps.map PRow.r ++ [.ref t]))) := Kp.put (by simp)
  refine ⟨ps ++ [⟨t, b, c, g, f⟩], by rw [upd_same, List.map_append]; rfl, fun p hp => ?_, by rw [List.map_append]; rfl⟩
  rcases List.mem_append.mp hp with hp | hp
  · exact (A p hp).kpl kD e
  · rw [List.mem_singleton.mp hp]
    exact PRowAt.kpl (p := ⟨t, b, c, g, f⟩) ⟨tupT et, hg, hf⟩ kD e
theorem PRows.len {H : Hp} {D : Addr} {zs : List (Fr × Fr)} {xs : List V} (h : PRows K H D zs) (e : H D = some (.lst xs)) : xs.length = zs.length := by
  obtain ⟨ps, e1, A, rfl⟩ := h
  rw [e] at e1
  cases e1
  rw [List.length_map, List.length_map]
theorem PRows.here {H : Hp} {D : Addr} {zs : List (Fr × Fr)} (h : PRows K H D zs) : ∃ xs, H D = some (.lst xs) ∧ xs.length = zs.length := by
  obtain ⟨ps, e1, A, rfl⟩ := h
  exact ⟨_, e1, by rw [List.length_map, List.length_map]⟩
structure LMeanV (zs : List (Fr × Fr)) : Prop where
  one : ∀ z ∈ zs, 1 ≤ z.1.2 ∧ 1 ≤ z.2.2 ∧ FrB 900 z.1 ∧ FrB 900 z.2
  sum : ∀ i z, zs[i]? = some z → ∃ n m, FrB n (fsum (0, 1) ((zs.take i).map tmV)) ∧ FrB m (tmV z) ∧ n + m ≤ 1900
theorem LMeanV.to {ps : List PRow} {zs : List (Fr × Fr)} (h : LMeanV zs) (e : ps.map PRow.v = zs) : LMeanOk ps := by
  subst e
  refine ⟨fun p hp => h.one p.v (List.mem_map_of_mem hp), fun i p hp => ?_⟩
  have := h.sum i p.v (by rw [List.getElem?_map, hp]; rfl)
  rw [← List.map_take, List.map_map] at this
  exact this
abbrev DF := PyData × Fr
/-- what law_from asks of its rows, as data -/
structure LawD (xs : List DF) : Prop where
  key : KeyOk (xs.map Prod.fst)
  sum : SumOk (xs.map Prod.snd)
  stp : ∀ i, ∀ y ∈ ((xs.mergeSort (PySem.W.dataLe false Prod.fst)).take i).foldl stp [], FrB 3900 y.2 ∧ y.2.2 ≠ 0
  len : xs.length ≤ 100000
def lawDF (xs : List DF) : List DF := ((xs.mergeSort (PySem.W.dataLe false Prod.fst)).foldl stp []).filter fun x => !decide (x.2 = (0, 1))
theorem srtd_dat (rs : List LRow) : (srtd rs).map LRow.dat = (rs.map LRow.dat).mergeSort (PySem.W.dataLe false Prod.fst) := by
  unfold srtd
  exact List.map_mergeSort (r := PySem.W.dataLe false LRow.d) (s := PySem.W.dataLe false Prod.fst) (f := LRow.dat) (fun _ _ _ _ => rfl)
theorem lawOf_D (rs : List LRow) : lawOf rs = lawDF (rs.map LRow.dat) := by
  unfold lawOf lawDF
  rw [srtd_dat]
theorem LawD.to {H : Hp} {rs : List LRow} {xs : List DF} (h : LawD xs) (e : rs.map LRow.dat = xs) (hA : ∀ r ∈ rs, LRowAt K H r) : LawIn K H rs := by
  subst e
  have e1 : (rs.map LRow.dat).map Prod.fst = rs.map LRow.d := by rw [List.map_map]; rfl
  have e2 : (rs.map LRow.dat).map Prod.snd = rs.map LRow.f := by rw [List.map_map]; rfl
  refine ⟨hA, by rw [← e1]; exact h.key, by rw [← e2]; exact h.sum, fun i y hy => ?_, by have := h.len; rwa [List.length_map] at this⟩
  rw [srtd_dat] at hy
  exact h.stp i y hy
end vals46
section alg12
/-! sums over rows, as rational numbers -/
def sR {α : Type} (f : α → Rat) (l : List α) : Rat := (l.map f).sum
theorem sR_nil {α : Type} (f : α → Rat) : sR f [] = 0 := rfl
theorem sR_cons {α : Type} (f : α → Rat) (a : α) (l : List α) : sR f (a :: l) = f a + sR f l := by unfold sR; rw [List.map_cons, List.sum_cons]
theorem sR_app {α : Type} (f : α → Rat) (a b : List α) : sR f (a ++ b) = sR f a + sR f b := by unfold sR; rw [List.map_append, ratsum_app]
theorem sR_map {α β : Type} (f : β → Rat) (g : α → β) (l : List α) : sR f (l.map g) = sR (fun a => f (g a)) l := by unfold sR; rw [List.map_map]; rfl
theorem sR_congr {α : Type} {f g : α → Rat} {l : List α} (h : ∀ a ∈ l, f a = g a) : sR f l = sR g l := by
  unfold sR
  rw [List.map_congr_left h]
theorem sR_flat {α β : Type} (f : β → Rat) (g : α → List β) : ∀ l : List α, sR f (l.flatMap g) = sR (fun a => sR f (g a)) l
  | [] => rfl
  | a :: l => by rw [List.flatMap_cons, sR_app, sR_cons, sR_flat f g l]
theorem sR_mul {α : Type} (k : Rat) (f : α → Rat) : ∀ l : List α, sR (fun a => k * f a) l = k * sR f l
  | [] => by rw [sR_nil, sR_nil]; grind
  | a :: l => by rw [sR_cons, sR_cons, sR_mul k f l]; grind
theorem sR_add {α : Type} (f g : α → Rat) : ∀ l : List α, sR (fun a => f a + g a) l = sR f l + sR g l
  | [] => by rw [sR_nil, sR_nil, sR_nil]; grind
  | a :: l => by rw [sR_cons, sR_cons, sR_cons, sR_add f g l]; grind
theorem sR_perm {α : Type} (f : α → Rat) {a b : List α} (h : a.Perm b) : sR f a = sR f b := ratsum_perm (h.map f)
theorem tmV_low {z : Fr × Fr} (h1 : z.1.2 ≠ 0) (h2 : z.2.2 ≠ 0) : Low (tmV z) ∧ rv (tmV z) = rv z.1 * rv z.2 := ⟨lo_low (Int.mul_ne_zero h1 h2), rv_ftimes h1 h2⟩
theorem rv_zero : rv (0, 1) = 0 := by unfold rv; grind
theorem low01 : Low ((0, 1) : Fr) := ⟨by decide, by decide⟩
theorem rv_meanV {zs : List (Fr × Fr)} (h : ∀ z ∈ zs, z.1.2 ≠ 0 ∧ z.2.2 ≠ 0) : Low (meanV zs) ∧ rv (meanV zs) = sR (fun z => rv z.1 * rv z.2) zs := by
  have h1 := rv_fsum (fs := zs.map tmV) low01 fun f hf => by
    obtain ⟨z, hz, rfl⟩ := List.mem_map.mp hf
    exact (tmV_low (h z hz).1 (h z hz).2).1.ne
  refine ⟨h1.2, ?_⟩
  unfold meanV
  rw [h1.1, rv_zero, List.map_map]
  show 0 + sR (fun z => rv (tmV z)) zs = _
  rw [sR_congr (g := fun z => rv z.1 * rv z.2) fun z hz => (tmV_low (h z hz).1 (h z hz).2).2]
  grind
theorem fminus_low {f g : Fr} (h1 : f.2 ≠ 0) (h2 : g.2 ≠ 0) : Low (fminus f g) := lo_low (Int.mul_ne_zero h1 h2)
end alg12
section gsum12
variable {κ : Type} [DecidableEq κ]
/-- a function of the keys, in the mean: gathering changes nothing -/
theorem gput_sum (φ : κ → Rat) {k : κ} {g g' : Fr} : ∀ {acc : List (κ × Fr)}, (acc.map Prod.fst).Nodup → gval acc k = some g → sR (fun x => φ x.1 * rv x.2) (acc.map fun x => if x.1 = k then (x.1, g') else x) = sR (fun x => φ x.1 * rv x.2) acc + φ k * (rv g' - rv g)
  | [], _, h => by simp [gval] at h
  | y :: acc, hn, h => by
    rw [List.map_cons, List.nodup_cons] at hn
    rw [List.map_cons, sR_cons, sR_cons]
    by_cases e : y.1 = k
    · rw [if_pos e]
      have hg : y.2 = g := by
        unfold gval at h
        rw [List.find?_cons_of_pos (by simpa using e)] at h
        exact Option.some.inj h
      have hno : ∀ x ∈ acc, x.1 ≠ k := fun x hx e2 => hn.1 (by rw [e, ← e2]; exact List.mem_map_of_mem hx)
      have hmap : acc.map (fun x => if x.1 = k then (x.1, g') else x) = acc := by
        conv => rhs; rw [← List.map_id acc]
        exact List.map_congr_left fun x hx => by rw [if_neg (hno x hx)]; rfl
      rw [hmap, ← hg, ← e]
      show φ y.1 * rv g' + _ = _
      grind
    · rw [if_neg e]
      have h2 : gval acc k = some g := by
        unfold gval at h ⊢
        rwa [List.find?_cons_of_neg (by simpa using e)] at h
      rw [gput_sum φ hn.2 h2]
      grind
theorem gstp_sum (φ : κ → Rat) {acc : List (κ × Fr)} {x : κ × Fr} (hn : (acc.map Prod.fst).Nodup) (ha : ∀ y ∈ acc, y.2.2 ≠ 0) (hx : x.2.2 ≠ 0) : sR (fun x => φ x.1 * rv x.2) (gstp acc x) = sR (fun x => φ x.1 * rv x.2) acc + φ x.1 * rv x.2 := by
  unfold gstp gput
  by_cases h : (acc.any fun y => decide (y.1 = x.1)) = true
  · rw [if_pos h]
    obtain ⟨g, hg, hm⟩ := gval_some h
    rw [gput_sum φ hn hg, hg]
    show _ + φ x.1 * (rv (fplus g x.2) - rv g) = _
    rw [rv_fplus (ha _ hm) hx]
    grind
  · rw [if_neg h, gval_nil h, sR_app, sR_cons, sR_nil]
    show _ + (φ x.1 * rv (fplus (0, 1) x.2) + 0) = _
    rw [fplus_zero hx]
    grind
theorem gstp_ne {acc : List (κ × Fr)} {x : κ × Fr} (ha : ∀ y ∈ acc, y.2.2 ≠ 0) (hx : x.2.2 ≠ 0) : ∀ y ∈ gstp acc x, y.2.2 ≠ 0 := fun y hy => by
  have hg : ((gval acc x.1).getD (0, 1)).2 ≠ 0 := by
    cases e : gval acc x.1 with
    | none => show ((0, 1) : Fr).2 ≠ 0; decide
    | some g => exact ha _ (gval_mem e)
  have hp := (fplus_low hg hx).ne
  unfold gstp gput at hy
  split at hy
  · obtain ⟨z, hz, rfl⟩ := List.mem_map.mp hy
    split
    · exact hp
    · exact ha z hz
  · rcases List.mem_append.mp hy with hy | hy
    · exact ha y hy
    · rw [List.mem_singleton.mp hy]
      exact hp
theorem gfold_sum (φ : κ → Rat) : ∀ {xs acc : List (κ × Fr)}, (acc.map Prod.fst).Nodup → (∀ y ∈ acc, y.2.2 ≠ 0) → (∀ x ∈ xs, x.2.2 ≠ 0) → sR (fun x => φ x.1 * rv x.2) (xs.foldl gstp acc) = sR (fun x => φ x.1 * rv x.2) acc + sR (fun x => φ x.1 * rv x.2) xs
  | [], acc, _, _, _ => by rw [sR_nil]; show sR _ acc = _; grind
  | x :: xs, acc, hn, ha, hx => by
    rw [List.foldl_cons, gfold_sum (acc := gstp acc x) φ (gput_nodup hn) (gstp_ne ha (hx x (by simp))) fun y hy => hx y (by simp [hy]), gstp_sum φ hn ha (hx x (by simp)), sR_cons]
    grind
theorem gsum_sum (φ : κ → Rat) {xs : List (κ × Fr)} (hx : ∀ x ∈ xs, x.2.2 ≠ 0) : sR (fun x => φ x.1 * rv x.2) (gsum xs) = sR (fun x => φ x.1 * rv x.2) xs := by
  unfold gsum
  rw [gfold_sum φ (by simp) (by simp) hx, sR_nil]
  grind
theorem sR_drop (φ : κ → Rat) : ∀ l : List (κ × Fr), sR (fun x => φ x.1 * rv x.2) (l.filter fun x => !decide (x.2 = (0, 1))) = sR (fun x => φ x.1 * rv x.2) l
  | [] => rfl
  | x :: l => by
    by_cases h : x.2 = (0, 1)
    · rw [List.filter_cons_of_neg (by simp [h]), sR_drop φ l, sR_cons, h, rv_zero]
      grind
    · rw [List.filter_cons_of_pos (by simp [h]), sR_cons, sR_cons, sR_drop φ l]
theorem gath_sum (φ : List Key → Rat) {xs : List KF} (hx : ∀ x ∈ xs, x.2.2 ≠ 0) : sR (fun x => φ x.1 * rv x.2) (gathOf xs) = sR (fun x => φ x.1 * rv x.2) xs := by
  unfold gathOf
  rw [sR_drop φ, sR_perm _ (List.mergeSort_perm _ _), gsum_sum φ hx]
/-- what gathered rows are -/
theorem gath_mem {xs : List KF} (hx : ∀ x ∈ xs, x.2.2 ≠ 0) {y : KF} (hy : y ∈ gathOf xs) : y.1 ∈ xs.map Prod.fst ∧ Low y.2 ∧ rv y.2 = sK xs y.1 ∧ y.2 ≠ (0, 1) := by
  unfold gathOf at hy
  obtain ⟨h1, h2⟩ := List.mem_filter.mp hy
  have h3 := (List.mergeSort_perm _ _).mem_iff.mp h1
  obtain ⟨a, b, c⟩ := (norm_gsum hx).a y h3
  exact ⟨a, b, c, by simpa using h2⟩
theorem gath_len {xs : List KF} : (gathOf xs).length ≤ xs.length := by
  unfold gathOf
  refine Nat.le_trans (List.length_filter_le _ _) ?_
  rw [(List.mergeSort_perm _ _).length_eq]
  have := gsum_len (xs := xs) (acc := [])
  rw [List.length_nil, Nat.zero_add] at this
  exact this
end gsum12
theorem castNe {n : Nat} (h : 1 ≤ n) : (n : Rat) ≠ 0 := by
  have := ratNe (q := (n : Int)) (by omega)
  have e : ((n : Int) : Rat) = (n : Rat) := by exact_mod_cast rfl
  rwa [e] at this
/-! ### common denominators -/
def DenB (D n : Nat) (x : Rat) : Prop := ∃ z : Int, x * (D : Rat) = (z : Rat) ∧ z.natAbs ≤ 2 ^ n
theorem DenB.mono {D n m : Nat} {x : Rat} (h : DenB D n x) (l : n ≤ m) : DenB D m x := let ⟨z, h1, h2⟩ := h; ⟨z, h1, Nat.le_trans h2 (Nat.pow_le_pow_right (by decide) l)⟩
theorem DenB.add {D n : Nat} {x y : Rat} (h : DenB D n x) (g : DenB D n y) : DenB D (n + 1) (x + y) := by
  obtain ⟨z, h1, h2⟩ := h
  obtain ⟨t, g1, g2⟩ := g
  refine ⟨z + t, ?_, ?_⟩
  · have e : ((z + t : Int) : Rat) = (z : Rat) + (t : Rat) := by exact_mod_cast rfl
    rw [e, ← h1, ← g1]; grind
  · rw [Nat.pow_succ]; omega
theorem DenB.neg {D n : Nat} {x : Rat} (h : DenB D n x) : DenB D n (-x) := by
  obtain ⟨z, h1, h2⟩ := h
  refine ⟨-z, ?_, by omega⟩
  have e : ((-z : Int) : Rat) = -(z : Rat) := by exact_mod_cast rfl
  rw [e, ← h1]; grind
theorem DenB.sub {D n : Nat} {x y : Rat} (h : DenB D n x) (g : DenB D n y) : DenB D (n + 1) (x - y) := by
  have := h.add g.neg
  rw [show x - y = x + -y by grind]
  exact this
theorem DenB.mul {D E n m : Nat} {x y : Rat} (h : DenB D n x) (g : DenB E m y) : DenB (D * E) (n + m) (x * y) := by
  obtain ⟨z, h1, h2⟩ := h
  obtain ⟨t, g1, g2⟩ := g
  refine ⟨z * t, ?_, ?_⟩
  · have e : ((z * t : Int) : Rat) = (z : Rat) * (t : Rat) := by exact_mod_cast rfl
    have e2 : ((D * E : Nat) : Rat) = (D : Rat) * (E : Rat) := by exact_mod_cast rfl
    rw [e, e2, ← h1, ← g1]; grind
  · rw [Int.natAbs_mul, Nat.pow_add]
    exact Nat.mul_le_mul h2 g2
theorem DenB.int {D d n : Nat} {z : Int} (hD : D ≤ 2 ^ d) (h : z.natAbs ≤ 2 ^ n) : DenB D (n + d) (z : Rat) := by
  refine ⟨z * (D : Int), by exact_mod_cast rfl, ?_⟩
  rw [Int.natAbs_mul, Int.natAbs_natCast, Nat.pow_add]
  exact Nat.mul_le_mul h hD
theorem DenB.up {D E n e : Nat} {x : Rat} (h : DenB D n x) (hE : E ≤ 2 ^ e) : DenB (D * E) (n + e) x := by
  obtain ⟨z, h1, h2⟩ := h
  refine ⟨z * (E : Int), ?_, ?_⟩
  · have e : ((z * (E : Int) : Int) : Rat) = (z : Rat) * (E : Rat) := by exact_mod_cast rfl
    have e2 : ((D * E : Nat) : Rat) = (D : Rat) * (E : Rat) := by exact_mod_cast rfl
    rw [e, e2, ← h1]; grind
  · rw [Int.natAbs_mul, Int.natAbs_natCast, Nat.pow_add]
    exact Nat.mul_le_mul h2 hE
theorem DenB.div6 {D n k : Nat} {x : Rat} (h : DenB D n x) (hk : k = 1 ∨ k = 2 ∨ k = 3 ∨ k = 6) : DenB (D * 6) (n + 3) (x / (k : Rat)) := by
  obtain ⟨z, h1, h2⟩ := h
  obtain ⟨q, hq, hq6⟩ : ∃ q : Nat, k * q = 6 ∧ q ≤ 6 := by
    rcases hk with rfl | rfl | rfl | rfl
    · exact ⟨6, rfl, by decide⟩
    · exact ⟨3, rfl, by decide⟩
    · exact ⟨2, rfl, by decide⟩
    · exact ⟨1, rfl, by decide⟩
  refine ⟨z * (q : Int), ?_, ?_⟩
  · have e : ((z * (q : Int) : Int) : Rat) = (z : Rat) * (q : Rat) := by exact_mod_cast rfl
    have e2 : ((D * 6 : Nat) : Rat) = (D : Rat) * ((k : Rat) * (q : Rat)) := by rw [← hq]; exact_mod_cast rfl
    have hk0 := castNe (n := k) (by omega)
    rw [e, e2, ← h1]; grind
  · rw [Int.natAbs_mul, Int.natAbs_natCast, Nat.pow_add]
    exact Nat.mul_le_mul h2 (Nat.le_trans hq6 (by decide))
theorem DenB.sum3 {D n : Nat} : ∀ {l : List Rat}, l.length ≤ 3 → (∀ x ∈ l, DenB D n x) → DenB D (n + 2) l.sum
  | [], _, _ => ⟨0, by show (0 : Rat) * _ = ((0 : Int) : Rat); grind, by simp⟩
  | [a], _, h => by
    rw [show [a].sum = a by show a + 0 = a; grind]
    exact (h a (by simp)).mono (by omega)
  | [a, b], _, h => by
    rw [show [a, b].sum = a + b by show a + (b + 0) = a + b; grind]
    exact ((h a (by simp)).add (h b (by simp))).mono (by omega)
  | [a, b, c], _, h => by
    rw [show [a, b, c].sum = (a + b) + c by show a + (b + (c + 0)) = _; grind]
    exact ((h a (by simp)).add (h b (by simp))).add ((h c (by simp)).mono (by omega))
  | _ :: _ :: _ :: _ :: r, h, _ => by simp at h
theorem DenB.sumN {D n : Nat} : ∀ {l : List Rat}, (∀ x ∈ l, DenB D n x) → ∃ z : Int, l.sum * (D : Rat) = (z : Rat) ∧ z.natAbs ≤ l.length * 2 ^ n
  | [], _ => ⟨0, by show (0 : Rat) * _ = ((0 : Int) : Rat); grind, by simp⟩
  | a :: r, h => by
    obtain ⟨z, h1, h2⟩ := h a (by simp)
    obtain ⟨t, g1, g2⟩ := DenB.sumN (l := r) fun x hx => h x (by simp [hx])
    refine ⟨z + t, ?_, ?_⟩
    · have e : ((z + t : Int) : Rat) = (z : Rat) + (t : Rat) := by exact_mod_cast rfl
      rw [List.sum_cons, e, ← h1, ← g1]; grind
    · rw [List.length_cons, Nat.add_mul]; omega
theorem DenB.sum64 {D n : Nat} {l : List Rat} (hl : l.length ≤ 64) (h : ∀ x ∈ l, DenB D n x) : DenB D (n + 6) l.sum := by
  obtain ⟨z, h1, h2⟩ := DenB.sumN h
  refine ⟨z, h1, Nat.le_trans h2 ?_⟩
  rw [Nat.pow_add, Nat.mul_comm]
  exact Nat.mul_le_mul (Nat.le_refl _) (Nat.le_trans hl (by decide))
/-- what a common denominator says of a fraction in lowest terms -/
theorem den_B {D n d k : Nat} {f : Fr} (hL : Low f) (h : DenB D n (rv f)) (hD1 : 1 ≤ D) (hD : D ≤ 2 ^ d) (hd : d < k) (hn : n < k) : FrB k f := by
  obtain ⟨z, h1, h2⟩ := h
  obtain ⟨p, q⟩ := f
  have hq1 : 1 ≤ q := hL.1
  have hco : Nat.gcd p.natAbs q.natAbs = 1 := hL.2
  have hq0 : (q : Rat) ≠ 0 := ratNe (by omega)
  have e : p * (D : Int) = z * q := by
    have : (p : Rat) * (D : Rat) = (z : Rat) * (q : Rat) := by
      rw [← h1]; unfold rv; grind
    exact_mod_cast this
  have e2 : p.natAbs * D = z.natAbs * q.natAbs := by
    have := congrArg Int.natAbs e
    rwa [Int.natAbs_mul, Int.natAbs_mul, Int.natAbs_natCast] at this
  have hdv : q.natAbs ∣ D := by
    have h3 : q.natAbs ∣ p.natAbs * D := ⟨z.natAbs, by rw [e2, Nat.mul_comm]⟩
    exact Nat.Coprime.dvd_of_dvd_mul_left (show Nat.Coprime q.natAbs p.natAbs from (Nat.gcd_comm _ _).trans hco) h3
  obtain ⟨c, hc⟩ := hdv
  have hc1 : 1 ≤ c := by
    rcases Nat.eq_zero_or_pos c with z | z
    · rw [z] at hc; omega
    · exact z
  have hp : p.natAbs ≤ z.natAbs := by
    rw [hc, ← Nat.mul_assoc, Nat.mul_right_comm] at e2
    have h5 : p.natAbs * c = z.natAbs := Nat.eq_of_mul_eq_mul_right (show 0 < q.natAbs by omega) e2
    rw [← h5]
    exact Nat.le_mul_of_pos_right _ hc1
  have hq : q.natAbs ≤ D := Nat.le_of_dvd hD1 ⟨c, hc⟩
  exact ⟨Nat.lt_of_le_of_lt hp (Nat.lt_of_le_of_lt h2 (Nat.pow_lt_pow_right (by decide) hn)), Nat.lt_of_le_of_lt hq (Nat.lt_of_le_of_lt hD (Nat.pow_lt_pow_right (by decide) hd))⟩
/-! products of a list -/
def prodN : List Nat → Nat
  | [] => 1
  | x :: r => x * prodN r
theorem prodN_le {b : Nat} : ∀ {l : List Nat}, (∀ x ∈ l, 1 ≤ x ∧ x ≤ 2 ^ b) → 1 ≤ prodN l ∧ prodN l ≤ 2 ^ (b * l.length)
  | [], _ => by simp [prodN]
  | x :: r, h => by
    have h1 := h x (by simp)
    have h2 := prodN_le (l := r) fun z hz => h z (by simp [hz])
    refine ⟨Nat.mul_le_mul h1.1 h2.1, ?_⟩
    show x * prodN r ≤ _
    rw [List.length_cons, Nat.mul_add, Nat.mul_one, Nat.add_comm, Nat.pow_add]
    exact Nat.mul_le_mul h1.2 h2.2
theorem prodN_mem : ∀ {l : List Nat} {x : Nat}, x ∈ l → ∃ c, prodN l = x * c
  | [], _, h => by cases h
  | y :: r, x, h => by
    rcases List.mem_cons.mp h with rfl | h
    · exact ⟨prodN r, rfl⟩
    · obtain ⟨c, hc⟩ := prodN_mem h
      exact ⟨y * c, by show y * prodN r = _; rw [hc]; exact Nat.mul_left_comm _ _ _⟩
/-- p / x, where x divides D -/
theorem den_frac {D d n : Nat} {p x : Int} {c : Nat} (hx : 1 ≤ x) (hD : D = x.natAbs * c) (hD1 : 1 ≤ D) (hDd : D ≤ 2 ^ d) (hp : p.natAbs ≤ 2 ^ n) : DenB D (n + d) ((p : Rat) / (x : Rat)) := by
  refine ⟨p * (c : Int), ?_, ?_⟩
  · have e : ((p * (c : Int) : Int) : Rat) = (p : Rat) * (c : Rat) := by exact_mod_cast rfl
    have hx0 : (x : Rat) ≠ 0 := ratNe (by omega)
    have e2 : (D : Rat) = (x : Rat) * (c : Rat) := by
      have : (D : Int) = x * (c : Int) := by
        rw [hD, Int.natCast_mul]
        congr 1
        omega
      exact_mod_cast this
    rw [e, e2]; grind
  · rw [Int.natAbs_mul, Int.natAbs_natCast, Nat.pow_add]
    refine Nat.mul_le_mul hp (Nat.le_trans ?_ hDd)
    rw [hD]
    exact Nat.le_mul_of_pos_left _ (by omega)
/-! the denominators of all orders -/

section bound12
/-- the terms of a mean have a common denominator -/
structure TermsOk (D n d : Nat) (zs : List (Fr × Fr)) : Prop where
  ne : ∀ z ∈ zs, 1 ≤ z.1.2 ∧ 1 ≤ z.2.2 ∧ FrB 900 z.1 ∧ FrB 900 z.2
  den : ∀ z ∈ zs, DenB D n (rv z.1 * rv z.2)
  len : zs.length ≤ 64
  D1 : 1 ≤ D
  D2 : D ≤ 2 ^ d
theorem TermsOk.part {D n d : Nat} {zs : List (Fr × Fr)} (h : TermsOk D n d zs) (i : Nat) : Low (fsum (0, 1) ((zs.take i).map tmV)) ∧ DenB D (n + 6) (rv (fsum (0, 1) ((zs.take i).map tmV))) := by
  have h1 := rv_meanV (zs := zs.take i) fun z hz => by
    have := h.ne z (List.mem_of_mem_take hz)
    omega
  refine ⟨h1.1, ?_⟩
  have h2 : rv (fsum (0, 1) ((zs.take i).map tmV)) = sR (fun z => rv z.1 * rv z.2) (zs.take i) := h1.2
  rw [h2]
  unfold sR
  refine DenB.sum64 (by rw [List.length_map, List.length_take]; have := h.len; omega) fun x hx => ?_
  obtain ⟨z, hz, rfl⟩ := List.mem_map.mp hx
  exact h.den z (List.mem_of_mem_take hz)
theorem TermsOk.mean {D n d : Nat} {zs : List (Fr × Fr)} (h : TermsOk D n d zs) : Low (meanV zs) ∧ DenB D (n + 6) (rv (meanV zs)) := by
  have := h.part zs.length
  rwa [List.take_length] at this
theorem TermsOk.tm {D n d k : Nat} {zs : List (Fr × Fr)} (h : TermsOk D n d zs) (hk : n + 6 < k) (hd : d < k) {z : Fr × Fr} (hz : z ∈ zs) : Low (tmV z) ∧ FrB k (tmV z) := by
  have h1 := h.ne z hz
  have h2 := tmV_low (z := z) (by omega) (by omega)
  refine ⟨h2.1, den_B h2.1 (by rw [h2.2]; exact h.den z hz) h.D1 h.D2 hd (by omega)⟩
theorem TermsOk.partB {D n d k : Nat} {zs : List (Fr × Fr)} (h : TermsOk D n d zs) (hk : n + 6 < k) (hd : d < k) (i : Nat) : FrB k (fsum (0, 1) ((zs.take i).map tmV)) := den_B (h.part i).1 (h.part i).2 h.D1 h.D2 hd hk
theorem TermsOk.meanV {D n d : Nat} {zs : List (Fr × Fr)} (h : TermsOk D n d zs) (hk : n + 6 < 900) (hd : d < 900) : MeanV zs := by
  refine ⟨fun z hz => ?_, ⟨fun f hf => ?_, fun i => ?_⟩, by have := h.len; omega⟩
  · have h1 := h.ne z hz
    exact ⟨by omega, by omega, h1.2.2.1.mono (by decide), h1.2.2.2.mono (by decide)⟩
  · obtain ⟨z, hz, rfl⟩ := List.mem_map.mp hf
    have h1 := h.tm hk hd hz
    exact ⟨h1.2.mono (by decide), h1.1.ne⟩
  · rw [← List.map_take]
    exact ⟨(h.partB hk hd i).mono (by decide), (h.part i).1.ne⟩
theorem TermsOk.lmeanV {D n d : Nat} {zs : List (Fr × Fr)} (h : TermsOk D n d zs) (hk : n + 6 < 900) (hd : d < 900) : LMeanV zs := by
  refine ⟨fun z hz => h.ne z hz, fun i z hz => ⟨900, 900, h.partB hk hd i, (h.tm hk hd (List.mem_of_getElem? hz)).2, by decide⟩⟩
theorem TermsOk.meanB {D n d k : Nat} {zs : List (Fr × Fr)} (h : TermsOk D n d zs) (hk : n + 6 < k) (hd : d < k) : FrB k (K46.meanV zs) := den_B h.mean.1 h.mean.2 h.D1 h.D2 hd hk
end bound12
section keys46
open LamK
def keyOf (f : Fr) : List Key := [.inl f.1, .inl f.2]
theorem keyOf_V (f : Fr) : (keyOf f).map kV = frV f := rfl
end keys46
section ok12
open GT LamK
/-- keys of two numbers, chances with the denominator D -/
structure XsOk (D n d : Nat) (xs : List KF) : Prop where
  key : ∀ x ∈ xs, ∃ g : Fr, x.1 = keyOf g
  low : ∀ x ∈ xs, Low x.2 ∧ FrB 900 x.2
  den : ∀ x ∈ xs, DenB D n (rv x.2)
  len : xs.length ≤ 64
  D1 : 1 ≤ D ∧ D ≤ 2 ^ d
  fit : n + 6 < 900 ∧ d < 900
theorem XsOk.take {D n d : Nat} {xs : List KF} (h : XsOk D n d xs) (i : Nat) : XsOk D n d (xs.take i) := ⟨fun x hx => h.key x (List.mem_of_mem_take hx), fun x hx => h.low x (List.mem_of_mem_take hx), fun x hx => h.den x (List.mem_of_mem_take hx), by rw [List.length_take]; have := h.len; omega, h.D1, h.fit⟩
theorem XsOk.perm {D n d : Nat} {xs ys : List KF} (h : XsOk D n d xs) (p : xs.Perm ys) : XsOk D n d ys := ⟨fun x hx => h.key x (p.mem_iff.mpr hx), fun x hx => h.low x (p.mem_iff.mpr hx), fun x hx => h.den x (p.mem_iff.mpr hx), by rw [← p.length_eq]; exact h.len, h.D1, h.fit⟩
theorem XsOk.sK {D n d : Nat} {xs : List KF} (h : XsOk D n d xs) (k : List Key) : DenB D (n + 6) (sK xs k) := by
  unfold K46.sK
  refine DenB.sum64 (by rw [List.length_map]; exact Nat.le_trans (List.length_filter_le _ _) h.len) fun x hx => ?_
  obtain ⟨z, hz, rfl⟩ := List.mem_map.mp hx
  exact h.den z (List.mem_filter.mp hz).1
theorem XsOk.norm {D n d : Nat} {xs R : List KF} (h : XsOk D n d xs) (hn : Norm xs R) {y : KF} (hy : y ∈ R) : Low y.2 ∧ FrB 900 y.2 ∧ DenB D (n + 6) (rv y.2) ∧ ∃ g : Fr, y.1 = keyOf g := by
  obtain ⟨a, b, c⟩ := hn.a y hy
  have hd : DenB D (n + 6) (rv y.2) := by rw [c]; exact h.sK _
  obtain ⟨x, hx, e⟩ := List.mem_map.mp a
  exact ⟨b, den_B b hd h.D1.1 h.D1.2 h.fit.2 h.fit.1, hd, let ⟨g, hg⟩ := h.key x hx; ⟨g, by rw [← e, hg]⟩⟩
theorem keys_alike {l : List PyData} (h : ∀ d ∈ l, ∃ g : Fr, d = keyD (keyOf g)) : PySem.W.AllAlike l ∧ PySem.W.Sortable l := by
  refine ⟨fun d hd d' hd' => ?_, .inl fun d hd => ?_⟩
  · obtain ⟨g, rfl⟩ := h d hd
    obtain ⟨g', rfl⟩ := h d' hd'
    rfl
  · obtain ⟨g, rfl⟩ := h d hd
    exact ⟨_, _, rfl⟩
theorem XsOk.gath {D n d : Nat} {xs : List KF} (h : XsOk D n d xs) : GathOk xs := by
  have hne : ∀ x ∈ xs, x.2.2 ≠ 0 := fun x hx => (h.low x hx).1.ne
  have hN := norm_gsum hne
  have hal := keys_alike (l := (gsum xs).map fun x => keyD x.1) fun d hd => by
    obtain ⟨y, hy, rfl⟩ := List.mem_map.mp hd
    obtain ⟨_, _, _, g, hg⟩ := h.norm hN hy
    exact ⟨g, by rw [hg]⟩
  refine ⟨by have := h.len; omega, fun x hx => ⟨(h.low x hx).1.1, (h.low x hx).2⟩, fun i y hy => ?_, hal.1, hal.2, fun y hy s hs => ?_⟩
  · have h2 := (h.take i).norm (norm_gsum fun x hx => hne x (List.mem_of_mem_take hx)) hy
    exact ⟨h2.1.1, h2.2.1⟩
  · obtain ⟨_, _, _, g, hg⟩ := h.norm hN hy
    rw [hg] at hs
    simp [keyOf] at hs
theorem fs_sumOk {D n d : Nat} {fs : List Fr} (hl : fs.length ≤ 64) (h : ∀ f ∈ fs, Low f ∧ DenB D n (rv f)) (D1 : 1 ≤ D ∧ D ≤ 2 ^ d) (hn : n + 6 < 900) (hd : d < 900) : SumOk fs := by
  refine ⟨fun f hf => ?_, fun i => ?_⟩
  · obtain ⟨a, b⟩ := h f hf
    exact ⟨(den_B (k := 900) a b D1.1 D1.2 hd (by omega)).mono (by decide), a.ne⟩
  · have h1 := rv_fsum (fs := fs.take i) low01 fun f hf => (h f (List.mem_of_mem_take hf)).1.ne
    refine ⟨(den_B (k := 900) h1.2 ?_ D1.1 D1.2 hd hn).mono (by decide), h1.2.ne⟩
    rw [h1.1, rv_zero]
    have e : (0 : Rat) + ((fs.take i).map rv).sum = ((fs.take i).map rv).sum := by grind
    rw [e]
    refine DenB.sum64 (by rw [List.length_map, List.length_take]; omega) fun x hx => ?_
    obtain ⟨f, hf, rfl⟩ := List.mem_map.mp hx
    exact (h f (List.mem_of_mem_take hf)).2
theorem XsOk.law {D n d : Nat} {xs : List KF} (h : XsOk D n d xs) : LawD (xs.map emb) := by
  have hal := keys_alike (l := (xs.map emb).map Prod.fst) fun d hd => by
    rw [List.map_map] at hd
    obtain ⟨y, hy, rfl⟩ := List.mem_map.mp hd
    obtain ⟨g, hg⟩ := h.key y hy
    exact ⟨g, by show keyD y.1 = _; rw [hg]⟩
  have e2 : (xs.map emb).map Prod.snd = xs.map Prod.snd := by rw [List.map_map]; rfl
  refine ⟨hal, ?_, fun i y hy => ?_, by rw [List.length_map]; have := h.len; omega⟩
  · rw [e2]
    refine fs_sumOk (by rw [List.length_map]; exact h.len) (fun f hf => ?_) h.D1 h.fit.1 h.fit.2
    obtain ⟨x, hx, rfl⟩ := List.mem_map.mp hf
    exact ⟨(h.low x hx).1, h.den x hx⟩
  · rw [← List.map_mergeSort (r := fun a b : KF => leK a.1 b.1) (s := PySem.W.dataLe false Prod.fst) (f := emb) (fun _ _ _ _ => rfl), ← List.map_take] at hy
    have e := fold_emb ((xs.mergeSort fun a b => leK a.1 b.1).take i) []
    rw [List.map_nil] at e
    rw [e] at hy
    obtain ⟨z, hz, rfl⟩ := List.mem_map.mp hy
    have p := List.mergeSort_perm xs fun a b : KF => leK a.1 b.1
    have T : ∀ a b c : KF, leK a.1 b.1 = true → leK b.1 c.1 = true → leK a.1 c.1 = true := fun a b c => leK_ord.trans a.1 b.1 c.1
    have U : ∀ a b : KF, (leK a.1 b.1 || leK b.1 a.1) = true := fun a b => Bool.or_eq_true_iff.mpr (leK_ord.total a.1 b.1)
    have q1 := List.pairwise_mergeSort (le := fun a b : KF => leK a.1 b.1) T U xs
    have hx := (h.perm p.symm).take i
    have hN := (stpG_fold leK_ord (xs := (xs.mergeSort fun a b => leK a.1 b.1).take i) (ps := []) (acc := []) norm_nil .nil (fun x hx2 => (hx.low x hx2).1) (by rw [List.nil_append]; exact q1.sublist (List.take_sublist _ _))).1
    rw [List.nil_append] at hN
    have h2 := hx.norm hN hz
    exact ⟨h2.2.1.mono (by decide), h2.1.ne⟩
/-- law_from and the dict agree -/
theorem lawDF_gath {xs : List KF} (hx : ∀ x ∈ xs, Low x.2) : lawDF (xs.map emb) = (gathOf xs).map emb := by
  unfold lawDF
  rw [← List.map_mergeSort (r := fun a b : KF => leK a.1 b.1) (s := PySem.W.dataLe false Prod.fst) (f := emb) (fun _ _ _ _ => rfl)]
  have e := fold_emb (xs.mergeSort fun a b => leK a.1 b.1) []
  rw [List.map_nil] at e
  rw [e, gath_both leK_ord hx]
  unfold gathOf
  rw [List.filter_map]
  rfl
end ok12
section facts46
open LamK
def kfOf (z : Fr × Fr) : KF := (keyOf z.1, z.2)
def numOf (k : List Key) : Fr := match k with
  | [.inl p, .inl q] => (p, q)
  | _ => (0, 1)
def zOf (x : KF) : Fr × Fr := (numOf x.1, x.2)
theorem num_key (g : Fr) : numOf (keyOf g) = g := rfl
theorem zOf_kf (z : Fr × Fr) : zOf (kfOf z) = z := rfl
/-- the gathered law -/
def gathZ (zs : List (Fr × Fr)) : List (Fr × Fr) := (gathOf (zs.map kfOf)).map zOf
theorem gathZ_kf {zs : List (Fr × Fr)} (hl : ∀ z ∈ zs, z.2.2 ≠ 0) : (gathZ zs).map kfOf = gathOf (zs.map kfOf) := by
  unfold gathZ
  rw [List.map_map]
  conv => rhs; rw [← List.map_id (gathOf (zs.map kfOf))]
  refine List.map_congr_left fun x hx => ?_
  obtain ⟨a, _⟩ := gath_mem (xs := zs.map kfOf) (fun y hy => by obtain ⟨z, hz, rfl⟩ := List.mem_map.mp hy; exact hl z hz) hx
  obtain ⟨y, hy, e⟩ := List.mem_map.mp a
  obtain ⟨z, hz, rfl⟩ := List.mem_map.mp hy
  show (keyOf (numOf x.1), x.2) = x
  rw [← e]
  show (keyOf z.1, x.2) = x
  have e2 : keyOf z.1 = x.1 := e
  rw [e2]
theorem gathZ_sum {zs : List (Fr × Fr)} (hl : ∀ z ∈ zs, z.2.2 ≠ 0) (φ : Fr → Rat) : sR (fun z => φ z.1 * rv z.2) (gathZ zs) = sR (fun z => φ z.1 * rv z.2) zs := by
  unfold gathZ
  rw [sR_map]
  have h := gath_sum (fun k => φ (numOf k)) (xs := zs.map kfOf) fun y hy => by obtain ⟨z, hz, rfl⟩ := List.mem_map.mp hy; exact hl z hz
  rw [sR_map] at h
  exact h
theorem gathZ_one {zs : List (Fr × Fr)} (hl : ∀ z ∈ zs, z.2.2 ≠ 0) : sR (fun z => rv z.2) (gathZ zs) = sR (fun z => rv z.2) zs := by
  have h := gathZ_sum hl fun _ => 1
  have e : ∀ l : List (Fr × Fr), sR (fun z => (fun _ : Fr => (1 : Rat)) z.1 * rv z.2) l = sR (fun z => rv z.2) l := fun l => sR_congr fun z _ => by show 1 * rv z.2 = _; grind
  rwa [e, e] at h
theorem gathZ_len (zs : List (Fr × Fr)) : (gathZ zs).length ≤ zs.length := by
  unfold gathZ
  rw [List.length_map]
  have := gath_len (xs := zs.map kfOf)
  rwa [List.length_map] at this
end facts46
section conv12
variable {K : PySem.W.Frag}
open LamX hiding takes0
open LamK
/-! one object, read in several ways -/
theorem frV_key {H : Hp} {b : Addr} {g : Fr} (h : H b = some (.tup ((keyOf g).map kV))) : FrAt K H b g := tupT h
/-- a gathered row as a pair of fractions -/
def GRow.p (x : GRow) : PRow := ⟨x.a, x.b, x.c, numOf x.k, x.f⟩
def GRow.l (x : GRow) : LRow := ⟨x.a, .ref x.b, GT.keyD x.k, x.c, x.f⟩
def NumKey (k : List Key) : Prop := ∃ g : Fr, k = keyOf g
theorem GRowAt.p {H : Hp} {x : GRow} (h : GRowAt K H x) (hk : NumKey x.k) : PRowAt K H x.p := by
  obtain ⟨g, hg⟩ := hk
  refine ⟨h.tup, ?_, h.fr⟩
  show FrAt K H x.b (numOf x.k)
  have h2 := h.key
  rw [hg] at h2 ⊢
  exact frV_key h2
theorem GRowAt.l {H : Hp} {x : GRow} (h : GRowAt K H x) : LRowAt K H x.l := ⟨h.tup, GT.dp_key h.key, h.fr, key_ok h.ok⟩
theorem grow_p (gs : List GRow) : gs.map GRow.r = (gs.map GRow.p).map PRow.r := by rw [List.map_map]; rfl
theorem grow_l (gs : List GRow) : gs.map GRow.r = (gs.map GRow.l).map LRow.r := by rw [List.map_map]; rfl
theorem grow_pv (gs : List GRow) : (gs.map GRow.p).map PRow.v = (gs.map GRow.kf).map zOf := by rw [List.map_map, List.map_map]; rfl
theorem grow_ld (gs : List GRow) : (gs.map GRow.l).map LRow.dat = (gs.map GRow.kf).map emb := by rw [List.map_map, List.map_map]; rfl
/-- a row of law_from whose outcome is a number, as a pair -/
theorem lrow_p {H : Hp} {r : LRow} (h : LRowAt K H r) {g : Fr} (hd : r.d = GT.keyD (keyOf g)) : ∃ b, r.v = .ref b ∧ PRowAt K H ⟨r.a, b, r.c, g, r.f⟩ := by
  have hp := h.dp
  rw [hd] at hp
  unfold GT.keyD at hp
  obtain ⟨v, ev⟩ : ∃ v, r.v = v := ⟨_, rfl⟩
  rw [ev] at hp
  cases hp with
  | tup hs hr =>
    rename_i b xs
    have e : xs = frV g := by
      cases hr with
      | cons h1 t1 => cases t1 with
        | cons h2 t2 => cases t2 with
          | nil =>
            cases h1
            cases h2
            rfl
    subst e
    refine ⟨b, ev, ?_, hs, h.fr⟩
    have := h.tup
    rw [ev] at this
    exact this
/-- told rows as pairs -/
theorem lrows_p {H : Hp} : ∀ {rs : List LRow} {zs : List (Fr × Fr)}, (∀ r ∈ rs, LRowAt K H r) → rs.map LRow.dat = (zs.map kfOf).map emb → ∃ ps : List PRow, rs.map LRow.r = ps.map PRow.r ∧ (∀ p ∈ ps, PRowAt K H p) ∧ ps.map PRow.v = zs
  | [], [], _, _ => ⟨[], rfl, by simp, rfl⟩
  | [], z :: zs, _, h => by simp at h
  | r :: rs, [], _, h => by simp at h
  | r :: rs, z :: zs, hA, h => by
    rw [List.map_cons, List.map_cons, List.map_cons] at h
    obtain ⟨h1, h2⟩ := List.cons.inj h
    obtain ⟨ps, e1, e2, e3⟩ := lrows_p (rs := rs) (zs := zs) (fun x hx => hA x (by simp [hx])) h2
    have hd : r.d = GT.keyD (keyOf z.1) := congrArg Prod.fst h1
    have hf : r.f = z.2 := congrArg Prod.snd h1
    obtain ⟨b, eb, hp⟩ := lrow_p (hA r (by simp)) hd
    refine ⟨⟨r.a, b, r.c, z.1, r.f⟩ :: ps, by rw [List.map_cons, List.map_cons, e1]; rfl, fun p hp2 => ?_, ?_⟩
    · rcases List.mem_cons.mp hp2 with rfl | hp2
      · exact hp
      · exact e2 p hp2
    · rw [List.map_cons, e3]
      show (z.1, r.f) :: zs = z :: zs
      rw [hf]
/-- gathered rows as numbers -/
theorem gath_numKey {zs : List (Fr × Fr)} (hl : ∀ z ∈ zs, z.2.2 ≠ 0) {gs : List GRow} (e : gs.map GRow.kf = gathOf (zs.map kfOf)) : (∀ x ∈ gs, NumKey x.k) ∧ (gs.map GRow.p).map PRow.v = gathZ zs := by
  refine ⟨fun x hx => ?_, by rw [grow_pv, e]; rfl⟩
  have hm : x.kf ∈ gathOf (zs.map kfOf) := by rw [← e]; exact List.mem_map_of_mem hx
  obtain ⟨a, _⟩ := gath_mem (xs := zs.map kfOf) (fun y hy => by obtain ⟨z, hz, rfl⟩ := List.mem_map.mp hy; exact hl z hz) hm
  obtain ⟨y, hy, e2⟩ := List.mem_map.mp a
  obtain ⟨z, _, rfl⟩ := List.mem_map.mp hy
  exact ⟨z.1, e2.symm⟩
end conv12

/-! ### laws that have arrived, as values -/
section arr46
open LamK
theorem ratsum_nonneg : ∀ {l : List Rat}, (∀ x ∈ l, 0 ≤ x) → 0 ≤ l.sum
  | [], _ => by show (0 : Rat) ≤ 0; exact Rat.le_refl
  | x :: l, h => by
    have h1 := h x (by simp)
    have h2 := ratsum_nonneg (l := l) fun y hy => h y (by simp [hy])
    rw [List.sum_cons]
    grind
structure PosZ (zs : List (Fr × Fr)) : Prop where
  low : ∀ z ∈ zs, Low z.2
  pos : ∀ z ∈ zs, 0 < rv z.2
theorem PosZ.ne {zs : List (Fr × Fr)} (h : PosZ zs) : ∀ z ∈ zs, z.2.2 ≠ 0 := fun z hz => (h.low z hz).ne
def sF (zs : List (Fr × Fr)) (g : Fr) : Rat := sR (fun z => if z.1 = g then rv z.2 else 0) zs
theorem keyOf_inj {f g : Fr} (h : keyOf f = keyOf g) : f = g := by
  have := congrArg numOf h
  rwa [num_key, num_key] at this
theorem sK_kf (zs : List (Fr × Fr)) (g : Fr) : sK (zs.map kfOf) (keyOf g) = sF zs g := by
  induction zs with
  | nil => rfl
  | cons z r ih =>
    have e : sF (z :: r) g = (if z.1 = g then rv z.2 else 0) + sF r g := sR_cons _ _ _
    rw [e, ← ih]
    unfold sK
    rw [List.map_cons]
    by_cases h : z.1 = g
    · rw [List.filter_cons_of_pos (by simp [kfOf, h]), if_pos h, List.map_cons, List.sum_cons]
      rfl
    · rw [List.filter_cons_of_neg (by
        exact fun e => h (keyOf_inj (of_decide_eq_true e))), if_neg h]
      grind
theorem sK_other {zs : List (Fr × Fr)} {k : List Key} (h : ∀ g, k ≠ keyOf g) : sK (zs.map kfOf) k = 0 := sK_none fun hm => by
  obtain ⟨x, hx, e⟩ := List.mem_map.mp hm
  obtain ⟨z, hz, rfl⟩ := List.mem_map.mp hx
  exact h z.1 e.symm
theorem sK_same {xs ys : List (Fr × Fr)} (h : ∀ g, sF xs g = sF ys g) (k : List Key) : sK (xs.map kfOf) k = sK (ys.map kfOf) k := by
  by_cases hk : ∃ g, k = keyOf g
  · obtain ⟨g, rfl⟩ := hk
    rw [sK_kf, sK_kf, h]
  · rw [sK_other fun g e => hk ⟨g, e⟩, sK_other fun g e => hk ⟨g, e⟩]
theorem low_ne0 {f : Fr} (h : Low f) : f ≠ (0, 1) ↔ rv f ≠ 0 := by
  refine ⟨fun h1 h2 => h1 (low_eq h low01 (by rw [h2, rv_zero])), fun h1 h2 => h1 (by rw [h2, rv_zero])⟩
theorem gath_iff {xs : List KF} (hx : ∀ x ∈ xs, Low x.2) {x : KF} : x ∈ gathOf xs ↔ Low x.2 ∧ rv x.2 = sK xs x.1 ∧ rv x.2 ≠ 0 := by
  have hne : ∀ x ∈ xs, x.2.2 ≠ 0 := fun x h => (hx x h).ne
  refine ⟨fun h => ?_, fun ⟨h1, h2, h3⟩ => ?_⟩
  · obtain ⟨a, b, c, d⟩ := gath_mem hne h
    exact ⟨b, c, (low_ne0 b).mp d⟩
  · have hk : x.1 ∈ xs.map Prod.fst := by
      by_cases hk : x.1 ∈ xs.map Prod.fst
      · exact hk
      · rw [sK_none hk] at h2
        exact absurd h2 h3
    unfold gathOf
    refine List.mem_filter.mpr ⟨(List.mergeSort_perm _ _).mem_iff.mpr ((norm_gsum hne).mem.mpr ⟨hk, h1, h2⟩), ?_⟩
    have := (low_ne0 h1).mpr h3
    simpa using this
theorem gath_asc (xs : List KF) : Asc leK (gathOf xs) := by
  have T : ∀ a b c : KF, leK a.1 b.1 = true → leK b.1 c.1 = true → leK a.1 c.1 = true := fun a b c => leK_ord.trans a.1 b.1 c.1
  have U : ∀ a b : KF, (leK a.1 b.1 || leK b.1 a.1) = true := fun a b => Bool.or_eq_true_iff.mpr (leK_ord.total a.1 b.1)
  have h1 := List.pairwise_mergeSort (le := fun a b : KF => leK a.1 b.1) T U (gsum xs)
  have hn : ((gsum xs).map Prod.fst).Nodup := gsum_nodup (acc := []) (by simp)
  have hp := List.mergeSort_perm (gsum xs) fun a b : KF => leK a.1 b.1
  have h2 : (((gsum xs).mergeSort fun a b : KF => leK a.1 b.1).map Prod.fst).Nodup := (hp.map Prod.fst).nodup_iff.mpr hn
  have h3 : ((gsum xs).mergeSort fun a b : KF => leK a.1 b.1).Pairwise fun a b => a.1 ≠ b.1 := List.pairwise_map.mp h2
  have h4 : Asc leK ((gsum xs).mergeSort fun a b : KF => leK a.1 b.1) := h1.imp₂ (fun a b c d => ⟨c, d⟩) h3
  exact List.Pairwise.filter _ h4
theorem gath_same {xs ys : List KF} (hx : ∀ x ∈ xs, Low x.2) (hy : ∀ x ∈ ys, Low x.2) (h : ∀ k, sK xs k = sK ys k) : gathOf xs = gathOf ys := by
  have hm : ∀ x, x ∈ gathOf xs ↔ x ∈ gathOf ys := fun x => by rw [gath_iff hx, gath_iff hy, h]
  have s := gath_asc xs
  have s' := gath_asc ys
  refine List.Perm.eq_of_pairwise (le := fun a b : KF => leK a.1 b.1 = true) (fun a b ha hb h1 h2 => ?_) (List.Pairwise.imp (fun {a b} h => h.1) s) (List.Pairwise.imp (fun {a b} h => h.1) s') ((List.perm_ext_iff_of_nodup s.nodup s'.nodup).mpr hm)
  have e := leK_ord.anti _ _ h1 h2
  have g1 := (gath_iff hx).mp ha
  have g2 := (gath_iff hy).mp hb
  have : a.2 = b.2 := low_eq g1.1 g2.1 (by rw [g1.2.1, g2.2.1, e, h])
  exact Prod.ext e this
theorem gathN_pos {xs : List KF} (hx : ∀ x ∈ xs, Low x.2) (hp : ∀ x ∈ xs, 0 < rv x.2) : gathN xs = gathOf xs := by
  unfold gathN gathOf
  symm
  refine List.filter_eq_self.mpr fun x h => ?_
  have h1 := (List.mergeSort_perm _ _).mem_iff.mp h
  obtain ⟨a, b, c⟩ := (norm_gsum fun x h => (hx x h).ne).a x h1
  have hpos : 0 < sK xs x.1 := by
    obtain ⟨y, hy, e⟩ := List.mem_map.mp a
    unfold sK
    have hnn : ∀ r ∈ ((xs.filter fun z => decide (z.1 = x.1)).map fun z => rv z.2), 0 ≤ r := fun r hr => by
      obtain ⟨z, hz, rfl⟩ := List.mem_map.mp hr
      have := hp z (List.mem_filter.mp hz).1
      grind
    have hmem : rv y.2 ∈ ((xs.filter fun z => decide (z.1 = x.1)).map fun z => rv z.2) := List.mem_map.mpr ⟨y, List.mem_filter.mpr ⟨hy, by simpa using e⟩, rfl⟩
    have hle : ∀ {l : List Rat}, (∀ r ∈ l, 0 ≤ r) → ∀ r ∈ l, r ≤ l.sum := fun {l} => by
      induction l with
      | nil => intro _ r hr; cases hr
      | cons q t ih =>
        intro h r hr
        have h0 : 0 ≤ t.sum := by
          have : ∀ {l : List Rat}, (∀ r ∈ l, 0 ≤ r) → 0 ≤ l.sum := fun {l} => by
            induction l with
            | nil => intro _; exact Rat.le_refl
            | cons q t ih =>
              intro h
              rw [List.sum_cons]
              have h1 := h q (by simp)
              have h2 := ih fun r hr => h r (by simp [hr])
              grind
          exact this fun r hr => h r (by simp [hr])
        rw [List.sum_cons]
        have hq := h q (by simp)
        rcases List.mem_cons.mp hr with rfl | hr
        · grind
        · have := ih (fun r hr => h r (by simp [hr])) r hr
          grind
    have := hle hnn _ hmem
    have := hp y hy
    grind
  have : x.2 ≠ (0, 1) := (low_ne0 b).mpr (by rw [c]; grind)
  simpa using this
/-- one turn: what is lost goes on with W -/
def mixA (L : Fr → Bool) (zs W : List (Fr × Fr)) : List (Fr × Fr) := zs.flatMap fun z => if L z.1 = true then W.map (fun o => (o.1, ftimes z.2 o.2)) else [z]
def keptA (L : Fr → Bool) (zs : List (Fr × Fr)) : List (Fr × Fr) := zs.filter fun z => !L z.1
def againA (L : Fr → Bool) (zs : List (Fr × Fr)) : Fr := fminus (1, 1) (fsum (0, 1) ((keptA L zs).map Prod.snd))
def nextA (L : Fr → Bool) (zs W : List (Fr × Fr)) : List (Fr × Fr) := keptA L zs ++ W.map fun o => (o.1, ftimes (againA L zs) o.2)
theorem sR_ite {L : Fr → Bool} {f : Fr × Fr → Rat} : ∀ zs : List (Fr × Fr), sR f zs = sR f (keptA L zs) + sR (fun z => if L z.1 = true then f z else 0) zs
  | [] => by unfold keptA; rw [List.filter_nil, sR_nil, sR_nil]; grind
  | z :: r => by
    have ih := sR_ite (L := L) (f := f) r
    unfold keptA at *
    rw [sR_cons, sR_cons, ih]
    by_cases h : L z.1 = true
    · rw [List.filter_cons_of_neg (by simp [h]), if_pos h]
      grind
    · rw [List.filter_cons_of_pos (by simp [h]), if_neg h, sR_cons]
      grind
theorem rv_again {L : Fr → Bool} {zs : List (Fr × Fr)} (h : PosZ zs) (h1 : sR (fun z => rv z.2) zs = 1) : Low (againA L zs) ∧ rv (againA L zs) = sR (fun z => if L z.1 = true then rv z.2 else 0) zs := by
  obtain ⟨e1, e2⟩ := rv_fsum (fs := (keptA L zs).map Prod.snd) low01 fun f hf => by
    obtain ⟨z, hz, rfl⟩ := List.mem_map.mp hf
    exact h.ne z (List.mem_filter.mp hz).1
  refine ⟨lo_low (Int.mul_ne_zero (by decide) e2.ne), ?_⟩
  unfold againA
  rw [rv_fminus (by decide) e2.ne, e1, rv_zero]
  have e3 := sR_ite (L := L) (f := fun z => rv z.2) zs
  rw [h1] at e3
  have e4 : ((keptA L zs).map Prod.snd).map rv = (keptA L zs).map fun z => rv z.2 := by rw [List.map_map]; rfl
  rw [e4]
  have e5 : rv (1, 1) = 1 := by unfold rv; grind
  have e6 : ((keptA L zs).map fun z => rv z.2).sum = sR (fun z => rv z.2) (keptA L zs) := rfl
  rw [e5, e6, e3]
  grind
theorem mix_sum {L : Fr → Bool} {zs W : List (Fr × Fr)} (h : PosZ zs) (hW : PosZ W) (φ : Fr → Rat) : sR (fun z => φ z.1 * rv z.2) (mixA L zs W) = sR (fun z => φ z.1 * rv z.2) (keptA L zs) + sR (fun z => if L z.1 = true then rv z.2 else 0) zs * sR (fun z => φ z.1 * rv z.2) W := by
  induction zs with
  | nil => show (0 : Rat) = 0 + 0 * _; grind
  | cons z r ih =>
    have ih := ih ⟨fun y hy => h.low y (by simp [hy]), fun y hy => h.pos y (by simp [hy])⟩
    unfold mixA keptA at *
    rw [List.flatMap_cons, sR_app, ih, sR_cons]
    by_cases hL : L z.1 = true
    · rw [if_pos hL, if_pos hL, List.filter_cons_of_neg (by simp [hL]), sR_map]
      have e : sR (fun o : Fr × Fr => φ o.1 * rv (ftimes z.2 o.2)) W = rv z.2 * sR (fun z => φ z.1 * rv z.2) W := by
        rw [← sR_mul]
        refine sR_congr fun o ho => ?_
        rw [rv_ftimes (h.ne z (by simp)) (hW.ne o ho)]
        grind
      have e' : sR (fun a : Fr × Fr => φ (a.1, ftimes z.2 a.2).1 * rv (a.1, ftimes z.2 a.2).2) W = rv z.2 * sR (fun z => φ z.1 * rv z.2) W := e
      rw [e']
      grind
    · rw [if_neg hL, if_neg hL, List.filter_cons_of_pos (by simp [hL]), sR_cons, sR_cons, sR_nil]
      grind
theorem next_sum {L : Fr → Bool} {zs W : List (Fr × Fr)} (h : PosZ zs) (h1 : sR (fun z => rv z.2) zs = 1) (hW : PosZ W) (φ : Fr → Rat) : sR (fun z => φ z.1 * rv z.2) (nextA L zs W) = sR (fun z => φ z.1 * rv z.2) (keptA L zs) + sR (fun z => if L z.1 = true then rv z.2 else 0) zs * sR (fun z => φ z.1 * rv z.2) W := by
  obtain ⟨a1, a2⟩ := rv_again (L := L) h h1
  unfold nextA
  rw [sR_app, sR_map, ← a2, ← sR_mul]
  congr 1
  refine sR_congr fun o ho => ?_
  show φ o.1 * rv (ftimes (againA L zs) o.2) = _
  rw [rv_ftimes a1.ne (hW.ne o ho)]
  grind
theorem sF_phi (zs : List (Fr × Fr)) (g : Fr) : sF zs g = sR (fun z => (fun q => if q = g then (1 : Rat) else 0) z.1 * rv z.2) zs := by
  unfold sF
  refine sR_congr fun z _ => ?_
  show _ = (if z.1 = g then (1 : Rat) else 0) * rv z.2
  split <;> grind
theorem mix_low {L : Fr → Bool} {zs W : List (Fr × Fr)} (h : PosZ zs) (hW : PosZ W) : PosZ (mixA L zs W) := by
  refine ⟨fun y hy => ?_, fun y hy => ?_⟩
  all_goals
    unfold mixA at hy
    obtain ⟨z, hz, hy⟩ := List.mem_flatMap.mp hy
    split at hy
  · obtain ⟨o, ho, rfl⟩ := List.mem_map.mp hy
    exact lo_low (Int.mul_ne_zero (h.ne z hz) (hW.ne o ho))
  · rw [List.mem_singleton.mp hy]; exact h.low z hz
  · obtain ⟨o, ho, rfl⟩ := List.mem_map.mp hy
    show 0 < rv (ftimes z.2 o.2)
    rw [rv_ftimes (h.ne z hz) (hW.ne o ho)]
    exact Rat.mul_pos (h.pos z hz) (hW.pos o ho)
  · rw [List.mem_singleton.mp hy]; exact h.pos z hz
theorem next_low {L : Fr → Bool} {zs W : List (Fr × Fr)} (h : PosZ zs) (h1 : sR (fun z => rv z.2) zs = 1) (hW : PosZ W) : ∀ z ∈ nextA L zs W, Low z.2 := fun y hy => by
  unfold nextA at hy
  rcases List.mem_append.mp hy with hy | hy
  · exact h.low y (List.mem_filter.mp hy).1
  · obtain ⟨o, ho, rfl⟩ := List.mem_map.mp hy
    exact lo_low (Int.mul_ne_zero (rv_again h h1).1.ne (hW.ne o ho))
theorem kf_low {zs : List (Fr × Fr)} (h : ∀ z ∈ zs, Low z.2) : ∀ x ∈ zs.map kfOf, Low x.2 := fun x hx => by
  obtain ⟨z, hz, rfl⟩ := List.mem_map.mp hx
  exact h z hz
theorem next_mix {L : Fr → Bool} {zs W : List (Fr × Fr)} (h : PosZ zs) (h1 : sR (fun z => rv z.2) zs = 1) (hW : PosZ W) : gathZ (nextA L zs W) = gathZ (mixA L zs W) := by
  unfold gathZ
  rw [gath_same (kf_low (next_low h h1 hW)) (kf_low (mix_low (L := L) h hW).low) (sK_same fun g => by
    rw [sF_phi, sF_phi]
    exact (next_sum h h1 hW fun q => if q = g then (1 : Rat) else 0).trans (mix_sum h hW fun q => if q = g then (1 : Rat) else 0).symm)]
/-- what has arrived after so many turns -/
def LA (L : Nat → Fr → Bool) (zs : List (Fr × Fr)) : Nat → List (Fr × Fr)
  | 0 => zs
  | r + 1 => gathZ (mixA (L (r + 1)) zs (LA L zs r))
theorem gathZ_pos {zs : List (Fr × Fr)} (h : PosZ zs) : PosZ (gathZ zs) := by
  have hx := kf_low h.low
  have key : ∀ z ∈ gathZ zs, Low z.2 ∧ rv z.2 ≠ 0 ∧ rv z.2 = sK (zs.map kfOf) (keyOf z.1) := fun z hz => by
    unfold gathZ at hz
    obtain ⟨x, hxm, rfl⟩ := List.mem_map.mp hz
    obtain ⟨a, b, c⟩ := (gath_iff hx).mp hxm
    obtain ⟨m, _⟩ := gath_mem (fun x h => (hx x h).ne) hxm
    obtain ⟨y, hy, e⟩ := List.mem_map.mp m
    obtain ⟨w, hw, rfl⟩ := List.mem_map.mp hy
    have e2 : keyOf (numOf x.1) = x.1 := by rw [← e]; rfl
    exact ⟨a, c, by rw [show (zOf x).1 = numOf x.1 from rfl, e2]; exact b⟩
  refine ⟨fun z hz => (key z hz).1, fun z hz => ?_⟩
  obtain ⟨a, b, c⟩ := key z hz
  have hnn : 0 ≤ sK (zs.map kfOf) (keyOf z.1) := by
    unfold sK
    refine ratsum_nonneg fun r hr => ?_
    obtain ⟨y, hy, rfl⟩ := List.mem_map.mp hr
    obtain ⟨w, hw, rfl⟩ := List.mem_map.mp (List.mem_filter.mp hy).1
    have := h.pos w hw
    show 0 ≤ rv w.2
    grind
  grind
theorem LA_pos {L : Nat → Fr → Bool} {zs : List (Fr × Fr)} (h : PosZ zs) : ∀ r, PosZ (LA L zs r)
  | 0 => h
  | r + 1 => gathZ_pos (mix_low h (LA_pos h r))
/-- sums over what has arrived -/
theorem LA_sum {L : Nat → Fr → Bool} {zs : List (Fr × Fr)} (h : PosZ zs) (φ : Fr → Rat) (r : Nat) : sR (fun z => φ z.1 * rv z.2) (LA L zs (r + 1)) = sR (fun z => φ z.1 * rv z.2) (keptA (L (r + 1)) zs) + sR (fun z => if L (r + 1) z.1 = true then rv z.2 else 0) zs * sR (fun z => φ z.1 * rv z.2) (LA L zs r) := by
  show sR _ (gathZ _) = _
  rw [gathZ_sum (mix_low h (LA_pos h r)).ne, mix_sum h (LA_pos h r)]
end arr46

/-! ### bounds of what arrives -/
section bnd46
open LamK
def kpF (s : Bool) (one other : Fr) : Fr := if decide (rv one < rv other) = s then other else one
def kpR (s : Bool) (a b : Rat) : Rat := if decide (a < b) = s then b else a
theorem rv_kp (s : Bool) (a b : Fr) : rv (kpF s a b) = kpR s (rv a) (rv b) := by
  unfold kpF kpR
  split <;> rfl
theorem kp_low {s : Bool} {a b : Fr} (ha : Low a) (hb : Low b) : Low (kpF s a b) := by
  unfold kpF
  split <;> assumption
def bndF (s : Bool) (zs : List (Fr × Fr)) : Nat → Fr
  | 0 => meanV zs
  | r + 1 => meanV (zs.map fun z => (kpF s z.1 (bndF s zs r), z.2))
structure NumZ (zs : List (Fr × Fr)) : Prop extends PosZ zs where
  num : ∀ z ∈ zs, Low z.1
theorem NumZ.ne2 {zs : List (Fr × Fr)} (h : NumZ zs) : ∀ z ∈ zs, z.1.2 ≠ 0 ∧ z.2.2 ≠ 0 := fun z hz => ⟨(h.num z hz).ne, (h.low z hz).ne⟩
theorem bnd_low {s : Bool} {zs : List (Fr × Fr)} (h : NumZ zs) : ∀ r, Low (bndF s zs r) ∧ rv (bndF s zs r) = match r with
    | 0 => sR (fun z => rv z.1 * rv z.2) zs
    | r + 1 => sR (fun z => kpR s (rv z.1) (rv (bndF s zs r)) * rv z.2) zs
  | 0 => rv_meanV h.ne2
  | r + 1 => by
    have ih := (bnd_low (s := s) h r).1
    have h1 := rv_meanV (zs := zs.map fun z => (kpF s z.1 (bndF s zs r), z.2)) fun y hy => by
      obtain ⟨z, hz, rfl⟩ := List.mem_map.mp hy
      exact ⟨(kp_low (h.num z hz) ih).ne, (h.low z hz).ne⟩
    refine ⟨h1.1, ?_⟩
    show rv (meanV _) = _
    rw [h1.2, sR_map]
    refine sR_congr fun z _ => ?_
    show rv (kpF s z.1 (bndF s zs r)) * rv z.2 = _
    rw [rv_kp]
theorem gathZ_num {zs : List (Fr × Fr)} (hl : ∀ z ∈ zs, Low z.2) : ∀ z ∈ gathZ zs, ∃ w ∈ zs, z.1 = w.1 := fun z hz => by
  unfold gathZ at hz
  obtain ⟨x, hxm, rfl⟩ := List.mem_map.mp hz
  obtain ⟨m, _⟩ := gath_mem (fun x h => (kf_low hl x h).ne) hxm
  obtain ⟨y, hy, e⟩ := List.mem_map.mp m
  obtain ⟨w, hw, rfl⟩ := List.mem_map.mp hy
  refine ⟨w, hw, ?_⟩
  show numOf x.1 = w.1
  rw [← e]
  rfl
theorem mix_num {L : Fr → Bool} {zs W : List (Fr × Fr)} : ∀ z ∈ mixA L zs W, ∃ w, (w ∈ zs ∨ w ∈ W) ∧ z.1 = w.1 := fun y hy => by
  unfold mixA at hy
  obtain ⟨z, hz, hy⟩ := List.mem_flatMap.mp hy
  split at hy
  · obtain ⟨o, ho, rfl⟩ := List.mem_map.mp hy
    exact ⟨o, .inr ho, rfl⟩
  · rw [List.mem_singleton.mp hy]
    exact ⟨z, .inl hz, rfl⟩
theorem LA_num {L : Nat → Fr → Bool} {zs : List (Fr × Fr)} (h : PosZ zs) : ∀ r, ∀ z ∈ LA L zs r, ∃ w ∈ zs, z.1 = w.1
  | 0, z, hz => ⟨z, hz, rfl⟩
  | r + 1, z, hz => by
    obtain ⟨w, hw, e⟩ := gathZ_num (mix_low h (LA_pos h r)).low z hz
    obtain ⟨v, hv | hv, e2⟩ := mix_num w hw
    · exact ⟨v, hv, e.trans e2⟩
    · obtain ⟨u, hu, e3⟩ := LA_num h r v hv
      exact ⟨u, hu, (e.trans e2).trans e3⟩
theorem LA_ok {L : Nat → Fr → Bool} {zs : List (Fr × Fr)} (h : NumZ zs) (r : Nat) : NumZ (LA L zs r) := ⟨LA_pos h.toPosZ r, fun z hz => by
  obtain ⟨w, hw, e⟩ := LA_num h.toPosZ r z hz
  rw [e]
  exact h.num w hw⟩
theorem sR_le {α : Type} {f g : α → Rat} : ∀ {l : List α}, (∀ a ∈ l, f a ≤ g a) → sR f l ≤ sR g l
  | [], _ => Rat.le_refl
  | a :: l, h => by
    have h1 := h a (by simp)
    have h2 := sR_le (l := l) fun b hb => h b (by simp [hb])
    rw [sR_cons, sR_cons]
    grind
theorem keptA_sR {L : Fr → Bool} {f : Fr × Fr → Rat} : ∀ zs : List (Fr × Fr), sR f (keptA L zs) = sR (fun z => if L z.1 = true then 0 else f z) zs
  | [] => rfl
  | z :: r => by
    have ih := keptA_sR (L := L) (f := f) r
    unfold keptA at *
    rw [sR_cons, ← ih]
    by_cases h : L z.1 = true
    · rw [List.filter_cons_of_neg (by simp [h]), if_pos h]
      grind
    · rw [List.filter_cons_of_pos (by simp [h]), if_neg h, sR_cons]
theorem LA_mean {L : Nat → Fr → Bool} {zs : List (Fr × Fr)} (h : NumZ zs) (r : Nat) : Low (meanV (LA L zs (r + 1))) ∧ rv (meanV (LA L zs (r + 1))) = sR (fun z => if L (r + 1) z.1 = true then rv (meanV (LA L zs r)) * rv z.2 else rv z.1 * rv z.2) zs := by
  obtain ⟨a, b⟩ := rv_meanV (LA_ok (L := L) h (r + 1)).ne2
  obtain ⟨_, d⟩ := rv_meanV (LA_ok (L := L) h r).ne2
  refine ⟨a, ?_⟩
  rw [b, LA_sum h.toPosZ rv r, keptA_sR, ← d]
  have e : sR (fun z : Fr × Fr => if L (r + 1) z.1 = true then rv z.2 else 0) zs * rv (meanV (LA L zs r)) = sR (fun z => if L (r + 1) z.1 = true then rv (meanV (LA L zs r)) * rv z.2 else 0) zs := by
    rw [Rat.mul_comm, ← sR_mul]
    refine sR_congr fun z _ => ?_
    split <;> grind
  rw [e, ← sR_add]
  refine sR_congr fun z _ => ?_
  split <;> grind
/-- no table does better -/
theorem LA_le {L : Nat → Fr → Bool} {zs : List (Fr × Fr)} (h : NumZ zs) : ∀ r, rv (meanV (LA L zs r)) ≤ rv (bndF true zs r) ∧ rv (bndF false zs r) ≤ rv (meanV (LA L zs r))
  | 0 => ⟨Rat.le_refl, Rat.le_refl⟩
  | r + 1 => by
    obtain ⟨i1, i2⟩ := LA_le (L := L) h r
    have e1 := (bnd_low (s := true) h (r + 1)).2
    have e2 := (bnd_low (s := false) h (r + 1)).2
    rw [(LA_mean h r).2]
    refine ⟨?_, ?_⟩
    · rw [e1]
      refine sR_le fun z hz => ?_
      have hp := h.pos z hz
      have key : (if L (r + 1) z.1 = true then rv (meanV (LA L zs r)) else rv z.1) ≤ kpR true (rv z.1) (rv (bndF true zs r)) := by
        by_cases c : rv z.1 < rv (bndF true zs r)
        · rw [show kpR true (rv z.1) (rv (bndF true zs r)) = rv (bndF true zs r) from if_pos (by simpa using c)]; split <;> grind
        · rw [show kpR true (rv z.1) (rv (bndF true zs r)) = rv z.1 from if_neg (by simpa using c)]; split <;> grind
      have := Rat.mul_le_mul_of_nonneg_right key (show 0 ≤ rv z.2 by grind)
      split at this <;> rename_i hL
      · rw [if_pos hL]; exact this
      · rw [if_neg hL]; exact this
    · rw [e2]
      refine sR_le fun z hz => ?_
      have hp := h.pos z hz
      have key : kpR false (rv z.1) (rv (bndF false zs r)) ≤ (if L (r + 1) z.1 = true then rv (meanV (LA L zs r)) else rv z.1) := by
        by_cases c : rv z.1 < rv (bndF false zs r)
        · rw [show kpR false (rv z.1) (rv (bndF false zs r)) = rv z.1 from if_neg (by simpa using c)]; split <;> grind
        · rw [show kpR false (rv z.1) (rv (bndF false zs r)) = rv (bndF false zs r) from if_pos (by simpa using c)]; split <;> grind
      have := Rat.mul_le_mul_of_nonneg_right key (show 0 ≤ rv z.2 by grind)
      split at this <;> rename_i hL
      · rw [if_pos hL]; exact this
      · rw [if_neg hL]; exact this
/-- the table that loses what is worse -/
def loseF (s : Bool) (zs : List (Fr × Fr)) (r : Nat) (g : Fr) : Bool := match r with
  | 0 => false
  | r + 1 => if s = true then decide (rv g < rv (bndF s zs r)) else decide (rv (bndF s zs r) < rv g)
theorem LA_best {s : Bool} {L : Nat → Fr → Bool} {zs : List (Fr × Fr)} (h : NumZ zs) : ∀ r, (∀ i, 1 ≤ i → i ≤ r → ∀ z ∈ zs, L i z.1 = loseF s zs i z.1) → meanV (LA L zs r) = bndF s zs r
  | 0, _ => rfl
  | r + 1, hL => by
    have ih := LA_best (s := s) (L := L) h r fun i h1 h2 => hL i h1 (by omega)
    obtain ⟨a, b⟩ := LA_mean (L := L) h r
    obtain ⟨c, d⟩ := bnd_low (s := s) h (r + 1)
    refine low_eq a c ?_
    rw [b, d, ih]
    refine sR_congr fun z hz => ?_
    have hz2 := hL (r + 1) (by omega) (by omega) z hz
    rw [hz2]
    unfold loseF kpR
    cases s with
    | true =>
      simp only [if_true]
      by_cases q : rv z.1 < rv (bndF true zs r)
      · rw [decide_eq_true q]; simp
      · rw [decide_eq_false q]; simp
    | false =>
      simp only [Bool.false_eq_true, if_false]
      by_cases q : rv (bndF false zs r) < rv z.1
      · rw [decide_eq_true q, if_pos rfl, if_pos (by
          have : ¬ rv z.1 < rv (bndF false zs r) := by grind
          rw [decide_eq_false this])]
      · rw [decide_eq_false q]
        simp only [Bool.false_eq_true, if_false]
        by_cases q2 : rv z.1 < rv (bndF false zs r)
        · rw [if_neg (by rw [decide_eq_true q2]; decide)]
        · rw [if_pos (by rw [decide_eq_false q2])]
          have : rv z.1 = rv (bndF false zs r) := by grind
          rw [this]
theorem LA_one {L : Nat → Fr → Bool} {zs : List (Fr × Fr)} (h : PosZ zs) (h1 : sR (fun z => rv z.2) zs = 1) : ∀ r, sR (fun z => rv z.2) (LA L zs r) = 1
  | 0 => h1
  | r + 1 => by
    have ih := LA_one (L := L) h h1 r
    have e : ∀ l : List (Fr × Fr), sR (fun z => (fun _ : Fr => (1 : Rat)) z.1 * rv z.2) l = sR (fun z => rv z.2) l := fun l => sR_congr fun z _ => by show 1 * rv z.2 = _; grind
    have h2 := LA_sum (L := L) h (fun _ => (1 : Rat)) r
    rw [e, e, e, ih] at h2
    rw [h2]
    have h3 := sR_ite (L := L (r + 1)) (f := fun z => rv z.2) zs
    rw [h1] at h3
    grind
end bnd46

def spLessG (K : PySem.W.Frag) : Sp := fun vs H Q _ => ∃ (a b : Addr) (f g : Fr), vs = [.ref a, .ref b] ∧ FrAt K H a f ∧ FrAt K H b g ∧ FrB 8000 f ∧ FrB 8000 g ∧ Q (.bl (fless f g)) H
theorem ok__law_less {P : Program} {w : World} {K : PySem.W.Frag} {mg : Str → Option Value} {base : Heap} (T : T P K mg base) : FnOk P w K mg base CX0 1 T.a__law_less T.fd__law_less ["one", "other"] (spLessG K) := by
  refine T.F__law_less.ok sc__law_less (fun vs H Q E h => ?_) (fun cdv A outer s H vs Q E hr h => ?_)
  · obtain ⟨a, b, f, g, rfl, _⟩ := h
    rfl
  · obtain ⟨a, b, f, g, rfl, ha, hb, Bf, Bg, q⟩ := h
    refine ⟨_, (pss_one (ps_ret (pe_cmpR op_lt (pe_op op_mulW (pe_ix ix_tup (pv 0) pe_int (fun _ _ => rfl)) (pe_ix ix_tup (pv 1) pe_int (fun _ _ => rfl))) (pe_op op_mulW (pe_ix ix_tup (pv 1) pe_int (fun _ _ => rfl)) (pe_ix ix_tup (pv 0) pe_int (fun _ _ => rfl))) (nomark _)))), ?_⟩
    walk_at "z0"
    walk_at "z"
    refine Z.ixT ha (fr0 f) ?_
    walk_at "z"
    refine Z.ixT hb (fr1 g) ?_
    walk_at "z"
    refine Z.iC (mul_ok Bf.1 Bg.2) ?_
    walk_at "z"
    refine Z.ixT hb (fr0 g) ?_
    walk_at "z"
    refine Z.ixT ha (fr1 f) ?_
    walk_at "z"
    refine Z.iC (mul_ok Bg.1 Bf.2) ?_
    walk_at "z"
    exact q

/-! ### greatest and least means, run -/
section prog46
variable {K : PySem.W.Frag}
open LamX hiding takes0
open LamK
def kpZ (s : Bool) (g : Fr) (z : Fr × Fr) : Fr × Fr := (kpF s z.1 g, z.2)
structure KpOk (s : Bool) (zs : List (Fr × Fr)) (g : Fr) : Prop where
  gl : Low g
  gB : FrB 800 g
  num : ∀ z ∈ zs, Low z.1 ∧ FrB 800 z.1
  mean : MeanV (zs.map (kpZ s g))
  lmean : LMeanV (zs.map (kpZ s g))
  len : zs.length ≤ 64
def spMA (K : PySem.W.Frag) (s : Bool) : Sp := fun vs H Q _ => ∃ (a b : Addr) (ps : List PRow) (g : Fr), vs = [.ref a, .ref b] ∧ SqL K H a (ps.map PRow.r) ∧ (∀ p ∈ ps, PRowAt K H p) ∧ FrAt K H b g ∧ KpOk s (ps.map PRow.v) g ∧ ∀ H' c, Kp [] H H' → FrAt K H' c (meanV ((ps.map PRow.v).map (kpZ s g))) → Q (.ref c) H'
theorem ok_mean_above {P : Program} {w : World} {K : PySem.W.Frag} {mg : Str → Option Value} {base : Heap} (T : T P K mg base) : FnOk P w K mg base CX0 7 T.a_mean_above T.fd_mean_above ["rows", "bound"] (spMA K true) := by
  refine T.F_mean_above.ok sc_mean_above (fun vs H Q E h => ?_) (fun cdv A outer s H vs Q E hr h => ?_)
  · obtain ⟨a, b, ps, g, rfl, _⟩ := h
    rfl
  · obtain ⟨a, b, ps, g, rfl, hS, hA, hb, hO, q⟩ := h
    have hl := hO.len
    rw [List.length_map] at hl
    refine ⟨_, (pss_one (ps_ret (pe_call (ok_mean T) (hr.mono (by decide)) (by rfl) T.g_mean T.F_mean.kp T.b_mean .nil pass0 (pa_cons (pe_lc (own := [("number", 2), ("chance", 3)]) (g := gTup K 2 (gCons (gName 2) (gCons (gName 3) gNil))) rfl sc_mean_above.nd (pi_list (pv 0)) (blkOk_by (own := [("number", 2), ("chance", 3)]) (N := N_mean_above) (sc := defScope s_mean_above) (by decide +kernel)) (fun _ _ _ _ _ => (pg_tup rfl (pgs_cons (pg_name (i := 2) sc_mean_above.nd rfl (by first | exact Or.inl rfl | exact Or.inr rfl)) (pgs_cons (pg_name (i := 3) sc_mean_above.nd rfl (by first | exact Or.inl rfl | exact Or.inr rfl)) pgs_nil)))) (fun _ _ _ _ _ => pts_nil) (fun _ _ _ _ _ => (pe_tup (pa_cons (pe_ifExp (pt_val (pe_call (ok_less T) (hr.mono (by decide)) (by rfl) T.g_less T.F_less.kp T.b_less .nil pass0 (pa_cons (pv 2) (pa_cons (pv 1) pa_nil)))) (pv 1) (pv 2)) (pa_cons (pv 3) pa_nil))))) pa_nil)))), ?_⟩
    walk_at "z0"
    walk_at "z"
    refine Z.lcl (ps.map PRow.r) hS (fun D i H' => Kp [] H H' ∧ PRows K H' D (((ps.map PRow.v).take i).map (kpZ true g))) ?_ ?_ ?_ ?_
    · intro D H1 nD k1 e1
      exact ⟨k1, PRows.new e1⟩
    · rintro D i H1 nD hi ⟨k1, _⟩
      exact k1.seq nin0 hS
    · rintro D i v H1 nD hv ⟨k1, P1⟩
      rw [List.getElem?_map] at hv
      obtain ⟨p, hp, rfl⟩ := Option.map_eq_some_iff.mp hv
      have hpm := List.mem_of_getElem? hp
      have hpA := (hA p hpm).kp0 k1
      obtain ⟨n1, n2⟩ := hO.num p.v (List.mem_map_of_mem hpm)
      dsimp only [wipe, List.set]
      refine Z.gtup hpA.tup rfl ?_
      walk_at "z"
      refine ⟨rfl, ?_⟩
      walk_at "z"
      refine ⟨p.b, b, p.g, g, rfl, hpA.num, hb.kp0 k1, n2.mono (by decide), hO.gB.mono (by decide), ?_⟩
      rw [show fless p.g g = decide (rv p.g < rv g) from fless_iff n1.1 hO.gl.1]
      have hkp : kpZ true g p.v = (if rv p.g < rv g then g else p.g, p.f) := by
        show (kpF true p.g g, p.f) = _
        unfold kpF
        by_cases c : rv p.g < rv g
        · rw [if_pos c, if_pos (by simpa using c)]
        · rw [if_neg c, if_neg (by simpa using c)]
      have hpv : (ps.map PRow.v)[i]? = some p.v := by rw [List.getElem?_map, hp]; rfl
      have hil := (List.getElem?_eq_some_iff.mp hp).1
      by_cases c : rv p.g < rv g
      · rw [decide_eq_true c]
        rw [if_pos c] at hkp
        walk_at "z"
        refine Z.tupK (fun u H2 nu k2 e2 => ?_)
        have P2 := P1.kp0 k2
        obtain ⟨xs, hx, hxl⟩ := P2.here
        refine ⟨xs, hx, Z.szl (m := 1000) (by rw [hxl, List.length_map, List.length_take, List.length_map]; omega), (k1.trans k2).mut nD rfl, ?_⟩
        rw [List.take_add_one, hpv, List.map_append]
        show PRows K _ D (_ ++ [kpZ true g p.v])
        rw [hkp]
        exact P2.snoc hx e2 (hb.kp0 (k1.trans k2)) (hpA.kp0 k2).fr
      · rw [decide_eq_false c]
        rw [if_neg c] at hkp
        walk_at "z"
        refine Z.tupK (fun u H2 nu k2 e2 => ?_)
        have P2 := P1.kp0 k2
        obtain ⟨xs, hx, hxl⟩ := P2.here
        refine ⟨xs, hx, Z.szl (m := 1000) (by rw [hxl, List.length_map, List.length_take, List.length_map]; omega), (k1.trans k2).mut nD rfl, ?_⟩
        rw [List.take_add_one, hpv, List.map_append]
        show PRows K _ D (_ ++ [kpZ true g p.v])
        rw [hkp]
        exact P2.snoc hx e2 (hpA.kp0 k2).num (hpA.kp0 k2).fr
    · rintro D H1 nD ⟨k1, P1⟩
      rw [List.length_map, ← List.length_map (f := PRow.v), List.take_length] at P1
      obtain ⟨qs, eD, pA, pv⟩ := P1
      walk_at "z"
      refine ⟨D, qs, rfl, lstL eD, pA, hO.mean.to pv, fun H2 m k2 e2 => ?_⟩
      rw [meanF_v, pv] at e2
      walk_at "z"
      exact q H2 m (k1.trans k2) e2
theorem ok_mean_below {P : Program} {w : World} {K : PySem.W.Frag} {mg : Str → Option Value} {base : Heap} (T : T P K mg base) : FnOk P w K mg base CX0 7 T.a_mean_below T.fd_mean_below ["rows", "bound"] (spMA K false) := by
  refine T.F_mean_below.ok sc_mean_below (fun vs H Q E h => ?_) (fun cdv A outer s H vs Q E hr h => ?_)
  · obtain ⟨a, b, ps, g, rfl, _⟩ := h
    rfl
  · obtain ⟨a, b, ps, g, rfl, hS, hA, hb, hO, q⟩ := h
    have hl := hO.len
    rw [List.length_map] at hl
    refine ⟨_, (pss_one (ps_ret (pe_call (ok_mean T) (hr.mono (by decide)) (by rfl) T.g_mean T.F_mean.kp T.b_mean .nil pass0 (pa_cons (pe_lc (own := [("number", 2), ("chance", 3)]) (g := gTup K 2 (gCons (gName 2) (gCons (gName 3) gNil))) rfl sc_mean_below.nd (pi_list (pv 0)) (blkOk_by (own := [("number", 2), ("chance", 3)]) (N := N_mean_below) (sc := defScope s_mean_below) (by decide +kernel)) (fun _ _ _ _ _ => (pg_tup rfl (pgs_cons (pg_name (i := 2) sc_mean_below.nd rfl (by first | exact Or.inl rfl | exact Or.inr rfl)) (pgs_cons (pg_name (i := 3) sc_mean_below.nd rfl (by first | exact Or.inl rfl | exact Or.inr rfl)) pgs_nil)))) (fun _ _ _ _ _ => pts_nil) (fun _ _ _ _ _ => (pe_tup (pa_cons (pe_ifExp (pt_val (pe_call (ok_less T) (hr.mono (by decide)) (by rfl) T.g_less T.F_less.kp T.b_less .nil pass0 (pa_cons (pv 1) (pa_cons (pv 2) pa_nil)))) (pv 1) (pv 2)) (pa_cons (pv 3) pa_nil))))) pa_nil)))), ?_⟩
    walk_at "z0"
    walk_at "z"
    refine Z.lcl (ps.map PRow.r) hS (fun D i H' => Kp [] H H' ∧ PRows K H' D (((ps.map PRow.v).take i).map (kpZ false g))) ?_ ?_ ?_ ?_
    · intro D H1 nD k1 e1
      exact ⟨k1, PRows.new e1⟩
    · rintro D i H1 nD hi ⟨k1, _⟩
      exact k1.seq nin0 hS
    · rintro D i v H1 nD hv ⟨k1, P1⟩
      rw [List.getElem?_map] at hv
      obtain ⟨p, hp, rfl⟩ := Option.map_eq_some_iff.mp hv
      have hpm := List.mem_of_getElem? hp
      have hpA := (hA p hpm).kp0 k1
      obtain ⟨n1, n2⟩ := hO.num p.v (List.mem_map_of_mem hpm)
      dsimp only [wipe, List.set]
      refine Z.gtup hpA.tup rfl ?_
      walk_at "z"
      refine ⟨rfl, ?_⟩
      walk_at "z"
      refine ⟨b, p.b, g, p.g, rfl, hb.kp0 k1, hpA.num, hO.gB.mono (by decide), n2.mono (by decide), ?_⟩
      rw [show fless g p.g = decide (rv g < rv p.g) from fless_iff hO.gl.1 n1.1]
      have hkp : kpZ false g p.v = (if rv g < rv p.g then g else p.g, p.f) := by
        show (kpF false p.g g, p.f) = _
        unfold kpF
        by_cases c : rv g < rv p.g
        · rw [if_pos c, if_pos (decide_eq_false (show ¬ rv p.g < rv g by grind))]
        · rw [if_neg c]
          by_cases c2 : rv p.g < rv g
          · rw [if_neg (by rw [decide_eq_true c2]; decide)]
          · rw [if_pos (decide_eq_false c2)]
            rw [low_eq hO.gl n1 (show rv g = rv p.v.1 by
              have : rv p.v.1 = rv p.g := rfl
              grind)]
            rfl
      have hpv : (ps.map PRow.v)[i]? = some p.v := by rw [List.getElem?_map, hp]; rfl
      have hil := (List.getElem?_eq_some_iff.mp hp).1
      by_cases c : rv g < rv p.g
      · rw [decide_eq_true c]
        rw [if_pos c] at hkp
        walk_at "z"
        refine Z.tupK (fun u H2 nu k2 e2 => ?_)
        have P2 := P1.kp0 k2
        obtain ⟨xs, hx, hxl⟩ := P2.here
        refine ⟨xs, hx, Z.szl (m := 1000) (by rw [hxl, List.length_map, List.length_take, List.length_map]; omega), (k1.trans k2).mut nD rfl, ?_⟩
        rw [List.take_add_one, hpv, List.map_append]
        show PRows K _ D (_ ++ [kpZ false g p.v])
        rw [hkp]
        exact P2.snoc hx e2 (hb.kp0 (k1.trans k2)) (hpA.kp0 k2).fr
      · rw [decide_eq_false c]
        rw [if_neg c] at hkp
        walk_at "z"
        refine Z.tupK (fun u H2 nu k2 e2 => ?_)
        have P2 := P1.kp0 k2
        obtain ⟨xs, hx, hxl⟩ := P2.here
        refine ⟨xs, hx, Z.szl (m := 1000) (by rw [hxl, List.length_map, List.length_take, List.length_map]; omega), (k1.trans k2).mut nD rfl, ?_⟩
        rw [List.take_add_one, hpv, List.map_append]
        show PRows K _ D (_ ++ [kpZ false g p.v])
        rw [hkp]
        exact P2.snoc hx e2 (hpA.kp0 k2).num (hpA.kp0 k2).fr
    · rintro D H1 nD ⟨k1, P1⟩
      rw [List.length_map, ← List.length_map (f := PRow.v), List.take_length] at P1
      obtain ⟨qs, eD, pA, pv⟩ := P1
      walk_at "z"
      refine ⟨D, qs, rfl, lstL eD, pA, hO.mean.to pv, fun H2 m k2 e2 => ?_⟩
      rw [meanF_v, pv] at e2
      walk_at "z"
      exact q H2 m (k1.trans k2) e2
def spKept (K : PySem.W.Frag) : Sp := fun vs H Q _ => ∃ (a b : Addr) (f g : Fr) (n : Int) (s : Bool), vs = [.ref a, .ref b, .int n] ∧ decide (n > 0) = s ∧ FrAt K H a f ∧ FrAt K H b g ∧ Low f ∧ Low g ∧ FrB 8000 f ∧ FrB 8000 g ∧ ∀ c, FrAt K H c (kpF s f g) → Q (.ref c) H
theorem ok__law_kept {P : Program} {w : World} {K : PySem.W.Frag} {mg : Str → Option Value} {base : Heap} (T : T P K mg base) : FnOk P w K mg base CX0 2 T.a__law_kept T.fd__law_kept ["one", "other", "sign"] (spKept K) := by
  refine T.F__law_kept.ok sc__law_kept (fun vs H Q E h => ?_) (fun cdv A outer s H vs Q E hr h => ?_)
  · obtain ⟨a, b, f, g, n, s, rfl, _⟩ := h
    rfl
  · obtain ⟨a, b, f, g, n, s, rfl, hs, ha, hb, lf, lg, bf, bg, q⟩ := h
    refine ⟨_, (pss_cons (ps_if (pt_cmpR op_eq (pe_call (ok__law_less T) (hr.mono (by decide)) (by rfl) T.g__law_less T.F__law_less.kp T.b__law_less .nil pass0 (pa_cons (pv 0) (pa_cons (pv 1) pa_nil))) (pe_cmpR op_gt (pv 2) pe_int (nomark _)) (nomark _)) (pss_one (ps_ret (pv 1))) pss_nil)
      (pss_one (ps_ret (pv 0)))), ?_⟩
    walk_at "z0"
    walk_at "z"
    refine ⟨a, b, f, g, rfl, ha, hb, bf, bg, ?_⟩
    rw [fless_iff lf.1 lg.1]
    walk_at "z"
    have hs : decide (0 < n) = s := hs
    rw [hs]
    by_cases c : decide (rv f < rv g) = s
    · rw [decide_eq_true c]
      walk_at "z"
      refine q b ?_
      unfold kpF
      rw [if_pos c]
      exact hb
    · rw [decide_eq_false c]
      walk_at "z"
      refine q a ?_
      unfold kpF
      rw [if_neg c]
      exact ha
end prog46

/-! ### ceilings and floors, run -/
section progb46
variable {K : PySem.W.Frag}
open LamX hiding takes0
open LamK
structure BndOk (s : Bool) (zs : List (Fr × Fr)) (n : Nat) : Prop where
  mean : MeanV zs
  lmean : LMeanV zs
  kp : ∀ r, r < n → KpOk s zs (bndF s zs r)
  n : n ≤ 100
def bnds (s : Bool) (zs : List (Fr × Fr)) (n : Nat) : List Fr := (List.range n).map (bndF s zs)
theorem bnds_snoc (s : Bool) (zs : List (Fr × Fr)) (n : Nat) : bnds s zs (n + 1) = bnds s zs n ++ [bndF s zs n] := by
  unfold bnds
  rw [List.range_succ, List.map_append]
  rfl
theorem bnds_len (s : Bool) (zs : List (Fr × Fr)) (n : Nat) : (bnds s zs n).length = n := by unfold bnds; rw [List.length_map, List.length_range]
theorem bnd_succ (s : Bool) (zs : List (Fr × Fr)) (r : Nat) : bndF s zs (r + 1) = meanV (zs.map (kpZ s (bndF s zs r))) := rfl
/-- a list of fractions at D -/
def FrLs (K : PySem.W.Frag) (H : Hp) (D : Addr) (fs : List Fr) : Prop := ∃ as : List Addr, H D = some (.lst (as.map V.ref)) ∧ FrsAt K H as fs
theorem frs_last {H : Hp} : ∀ {as : List Addr} {fs : List Fr} {f : Fr}, FrsAt K H as (fs ++ [f]) → ∃ bs b, as = bs ++ [b] ∧ FrsAt K H bs fs ∧ FrAt K H b f
  | [], fs, f, h => by
    have := h.len
    simp at this
  | a :: as, [], f, h => by
    cases h with
    | cons h1 h2 =>
      cases h2
      exact ⟨[], a, rfl, .nil, h1⟩
  | a :: as, g :: fs, f, h => by
    cases h with
    | cons h1 h2 =>
      obtain ⟨bs, b, rfl, e2, e3⟩ := frs_last h2
      exact ⟨a :: bs, b, rfl, .cons h1 e2, e3⟩
def spCeil (K : PySem.W.Frag) (s : Bool) : Sp := fun vs H Q _ => ∃ (a : Addr) (ps : List PRow) (n : Nat), vs = [.ref a, .int (n : Int)] ∧ SqL K H a (ps.map PRow.r) ∧ (∀ p ∈ ps, PRowAt K H p) ∧ BndOk s (ps.map PRow.v) n ∧ ∀ H' D, H D = none → Kp [] H H' → FrLs K H' D (bnds s (ps.map PRow.v) (n + 1)) → Q (.ref D) H'
theorem ok_ceilings {P : Program} {w : World} {K : PySem.W.Frag} {mg : Str → Option Value} {base : Heap} (T : T P K mg base) : FnOk P w K mg base CX0 8 T.a_ceilings T.fd_ceilings ["rows", "retries"] (spCeil K true) := by
  refine T.F_ceilings.ok sc_ceilings (fun vs H Q E h => ?_) (fun cdv A outer s H vs Q E hr h => ?_)
  · obtain ⟨a, ps, n, rfl, _⟩ := h
    rfl
  · obtain ⟨a, ps, n, rfl, hS, hA, hO, q⟩ := h
    have hn := hO.n
    refine ⟨_, (pss_cons (ps_set (i := 2) sc_ceilings.nd rfl (by first | exact Or.inl rfl | exact Or.inr rfl) (pe_lst (pa_cons (pe_call (ok_mean T) (hr.mono (by decide)) (by rfl) T.g_mean T.F_mean.kp T.b_mean .nil pass0 (pa_cons (pv 0) pa_nil)) pa_nil)))
      (pss_cons (ps_for PassesOwn.never rfl (pi_range1 (by rfl) T.z_range (pa_cons (pv 1) pa_nil)) (pg_name (i := 3) sc_ceilings.nd rfl (by first | exact Or.inl rfl | exact Or.inr rfl)) (pss_one (ps_expr (pe_bm PySem.F.plainAttrs_list PySem.F.slot_list_append PySem.F.type_list_append mt_append (pv 2) (pa_cons (pe_call (ok_mean_above T) (hr.mono (by decide)) (by rfl) T.g_mean_above T.F_mean_above.kp T.b_mean_above .nil pass0 (pa_cons (pv 0) (pa_cons (pe_ix ix_list (pv 2) (pe_un un_neg pe_int) (fun _ _ => rfl)) pa_nil))) pa_nil)))))
      (pss_one (ps_ret (pv 2))))), ?_⟩
    walk_at "z0"
    walk_at "z"
    refine ⟨a, ps, rfl, hS, hA, hO.mean.to rfl, fun H1 c k1 e1 => ?_⟩
    rw [meanF_v] at e1
    walk_at "z"
    refine Z.lstK (fun D H2 nD k2 e2 => ?_)
    have nD0 : H D = none := k1.none nin0 nD
    have k12 := k1.trans k2
    walk_at "z"
    refine Z.forr n rfl (by omega) (fun i σ' H' => ∃ y3, σ' = [some (.ref a), some (.int (n : Int)), some (.ref D), y3] ∧ Kp [] H H' ∧ FrLs K H' D (bnds true (ps.map PRow.v) (i + 1))) ?_ ?_ ?_
    · exact ⟨_, rfl, k12, [c], e2, .cons (e1.kp0 k2) .nil⟩
    · rintro i σ' H3 hi ⟨y3, rfl, k3, as, e3, F3⟩
      rw [bnds_snoc] at F3
      obtain ⟨bs, b, rfl, F4, hb⟩ := frs_last F3
      walk_at "z"
      rw [List.map_append] at e3
      refine ⟨Z.tyL e3, ?_⟩
      walk_at "z"
      refine Z.ixL (lstL e3) (atI_last _ _) ?_
      walk_at "z"
      refine ⟨a, b, ps, _, rfl, k3.seq nin0 hS, fun p hp => (hA p hp).kp0 k3, hb, hO.kp i hi, fun H4 d k4 e4 => ?_⟩
      have e3' := k4.get nin0 e3
      have hbl : bs.length = i := by
        have := F4.len
        rwa [bnds_len] at this
      walk_at "z"
      refine Z.app e3' (Z.szl (m := 1000) (by simp; omega)) ?_
      have nD3 : D ∉ ([] : List Addr) := nin0
      refine ⟨_, rfl, (k3.trans k4).mut nD0 rfl, bs ++ [b] ++ [d], by rw [upd_same, List.map_append, List.map_append]; rfl, ?_⟩
      have kD : Kp [D] H4 (upd H4 D (.lst (bs.map V.ref ++ [b].map V.ref ++ [.ref d]))) := Kp.put (by simp)
      have ntD : ∀ y ∈ [D], NoTup H4 y := fun y hy => by
        rw [List.mem_singleton.mp hy]
        exact NoTup.lst e3'
      rw [bnds_snoc, bnd_succ, bnds_snoc]
      exact (((F4.kp0 k4).snoc (hb.kp0 k4)).kp kD ntD).snoc (FrAt.kp e4 kD ntD)
    · rintro σ' H3 ⟨y3, rfl, k3, F3⟩
      walk_at "z"
      exact q H3 D nD0 k3 F3
theorem ok_floors {P : Program} {w : World} {K : PySem.W.Frag} {mg : Str → Option Value} {base : Heap} (T : T P K mg base) : FnOk P w K mg base CX0 8 T.a_floors T.fd_floors ["rows", "retries"] (spCeil K false) := by
  refine T.F_floors.ok sc_floors (fun vs H Q E h => ?_) (fun cdv A outer s H vs Q E hr h => ?_)
  · obtain ⟨a, ps, n, rfl, _⟩ := h
    rfl
  · obtain ⟨a, ps, n, rfl, hS, hA, hO, q⟩ := h
    have hn := hO.n
    refine ⟨_, (pss_cons (ps_set (i := 2) sc_floors.nd rfl (by first | exact Or.inl rfl | exact Or.inr rfl) (pe_lst (pa_cons (pe_call (ok_mean T) (hr.mono (by decide)) (by rfl) T.g_mean T.F_mean.kp T.b_mean .nil pass0 (pa_cons (pv 0) pa_nil)) pa_nil)))
      (pss_cons (ps_for PassesOwn.never rfl (pi_range1 (by rfl) T.z_range (pa_cons (pv 1) pa_nil)) (pg_name (i := 3) sc_floors.nd rfl (by first | exact Or.inl rfl | exact Or.inr rfl)) (pss_one (ps_expr (pe_bm PySem.F.plainAttrs_list PySem.F.slot_list_append PySem.F.type_list_append mt_append (pv 2) (pa_cons (pe_call (ok_mean_below T) (hr.mono (by decide)) (by rfl) T.g_mean_below T.F_mean_below.kp T.b_mean_below .nil pass0 (pa_cons (pv 0) (pa_cons (pe_ix ix_list (pv 2) (pe_un un_neg pe_int) (fun _ _ => rfl)) pa_nil))) pa_nil)))))
      (pss_one (ps_ret (pv 2))))), ?_⟩
    walk_at "z0"
    walk_at "z"
    refine ⟨a, ps, rfl, hS, hA, hO.mean.to rfl, fun H1 c k1 e1 => ?_⟩
    rw [meanF_v] at e1
    walk_at "z"
    refine Z.lstK (fun D H2 nD k2 e2 => ?_)
    have nD0 : H D = none := k1.none nin0 nD
    have k12 := k1.trans k2
    walk_at "z"
    refine Z.forr n rfl (by omega) (fun i σ' H' => ∃ y3, σ' = [some (.ref a), some (.int (n : Int)), some (.ref D), y3] ∧ Kp [] H H' ∧ FrLs K H' D (bnds false (ps.map PRow.v) (i + 1))) ?_ ?_ ?_
    · exact ⟨_, rfl, k12, [c], e2, .cons (e1.kp0 k2) .nil⟩
    · rintro i σ' H3 hi ⟨y3, rfl, k3, as, e3, F3⟩
      rw [bnds_snoc] at F3
      obtain ⟨bs, b, rfl, F4, hb⟩ := frs_last F3
      walk_at "z"
      rw [List.map_append] at e3
      refine ⟨Z.tyL e3, ?_⟩
      walk_at "z"
      refine Z.ixL (lstL e3) (atI_last _ _) ?_
      walk_at "z"
      refine ⟨a, b, ps, _, rfl, k3.seq nin0 hS, fun p hp => (hA p hp).kp0 k3, hb, hO.kp i hi, fun H4 d k4 e4 => ?_⟩
      have e3' := k4.get nin0 e3
      have hbl : bs.length = i := by
        have := F4.len
        rwa [bnds_len] at this
      walk_at "z"
      refine Z.app e3' (Z.szl (m := 1000) (by simp; omega)) ?_
      have nD3 : D ∉ ([] : List Addr) := nin0
      refine ⟨_, rfl, (k3.trans k4).mut nD0 rfl, bs ++ [b] ++ [d], by rw [upd_same, List.map_append, List.map_append]; rfl, ?_⟩
      have kD : Kp [D] H4 (upd H4 D (.lst (bs.map V.ref ++ [b].map V.ref ++ [.ref d]))) := Kp.put (by simp)
      have ntD : ∀ y ∈ [D], NoTup H4 y := fun y hy => by
        rw [List.mem_singleton.mp hy]
        exact NoTup.lst e3'
      rw [bnds_snoc, bnd_succ, bnds_snoc]
      exact (((F4.kp0 k4).snoc (hb.kp0 k4)).kp kD ntD).snoc (FrAt.kp e4 kD ntD)
    · rintro σ' H3 ⟨y3, rfl, k3, F3⟩
      walk_at "z"
      exact q H3 D nD0 k3 F3
def spLBounds (K : PySem.W.Frag) : Sp := fun vs H Q _ => ∃ (a : Addr) (ps : List PRow) (n : Nat) (sg : Int) (s : Bool), vs = [.ref a, .int (n : Int), .int sg] ∧ decide (sg > 0) = s ∧ SqL K H a (ps.map PRow.r) ∧ (∀ p ∈ ps, PRowAt K H p) ∧ BndOk s (ps.map PRow.v) n ∧ ∀ H' D, H D = none → Kp [] H H' → FrLs K H' D (bnds s (ps.map PRow.v) (n + 1)) → Q (.ref D) H'
theorem ok__law_bounds {P : Program} {w : World} {K : PySem.W.Frag} {mg : Str → Option Value} {base : Heap} (T : T P K mg base) : FnOk P w K mg base CX0 4 T.a__law_bounds T.fd__law_bounds ["rows", "retries", "sign"] (spLBounds K) := by
  refine T.F__law_bounds.ok sc__law_bounds (fun vs H Q E h => ?_) (fun cdv A outer s H vs Q E hr h => ?_)
  · obtain ⟨a, ps, n, sg, s, rfl, _⟩ := h
    rfl
  · obtain ⟨a, ps, n, sg, s, rfl, hs, hS, hA, hO, q⟩ := h
    have hn := hO.n
    refine ⟨_, (pss_cons (ps_set (i := 3) sc__law_bounds.nd rfl (by first | exact Or.inl rfl | exact Or.inr rfl) (pe_lst (pa_cons (pe_call (ok__law_mean T) (hr.mono (by decide)) (by rfl) T.g__law_mean T.F__law_mean.kp T.b__law_mean .nil pass0 (pa_cons (pv 0) pa_nil)) pa_nil)))
      (pss_cons (ps_for PassesOwn.never rfl (pi_range1 (by rfl) T.z_range (pa_cons (pv 1) pa_nil)) (pg_name (i := 4) sc__law_bounds.nd rfl (by first | exact Or.inl rfl | exact Or.inr rfl)) (pss_one (ps_expr (pe_bm PySem.F.plainAttrs_list PySem.F.slot_list_append PySem.F.type_list_append mt_append (pv 3) (pa_cons (pe_call (ok__law_mean T) (hr.mono (by decide)) (by rfl) T.g__law_mean T.F__law_mean.kp T.b__law_mean .nil pass0 (pa_cons (pe_lc (own := [("number", 5), ("chance", 6)]) (g := gTup K 2 (gCons (gName 5) (gCons (gName 6) gNil))) rfl sc__law_bounds.nd (pi_list (pv 0)) (blkOk_by (own := [("number", 5), ("chance", 6)]) (N := N__law_bounds) (sc := defScope s__law_bounds) (by decide +kernel)) (fun _ _ _ _ _ => (pg_tup rfl (pgs_cons (pg_name (i := 5) sc__law_bounds.nd rfl (by first | exact Or.inl rfl | exact Or.inr rfl)) (pgs_cons (pg_name (i := 6) sc__law_bounds.nd rfl (by first | exact Or.inl rfl | exact Or.inr rfl)) pgs_nil)))) (fun _ _ _ _ _ => pts_nil) (fun _ _ _ _ _ => (pe_tup (pa_cons (pe_call (ok__law_kept T) (hr.mono (by decide)) (by rfl) T.g__law_kept T.F__law_kept.kp T.b__law_kept .nil pass0 (pa_cons (pv 5) (pa_cons (pe_ix (ix_list : IxR _ (rIxL K)) (pv 3) (pe_un un_neg pe_int) (fun _ _ => rfl)) (pa_cons (pv 2) pa_nil)))) (pa_cons (pv 6) pa_nil))))) pa_nil)) pa_nil)))))
      (pss_one (ps_ret (pv 3))))), ?_⟩
    walk_at "z0"
    walk_at "z"
    refine ⟨a, ps, rfl, hS, hA, hO.lmean.to rfl, fun H1 c k1 e1 => ?_⟩
    rw [meanF_v] at e1
    walk_at "z"
    refine Z.lstK (fun D H2 nD k2 e2 => ?_)
    have nD0 : H D = none := k1.none nin0 nD
    have k12 := k1.trans k2
    walk_at "z"
    refine Z.forr n rfl (by omega) (fun i σ' H' => ∃ y4 y5 y6, σ' = [some (.ref a), some (.int (n : Int)), some (.int sg), some (.ref D), y4, y5, y6] ∧ Kp [] H H' ∧ FrLs K H' D (bnds s (ps.map PRow.v) (i + 1))) ?_ ?_ ?_
    · exact ⟨_, _, _, rfl, k12, [c], e2, .cons (e1.kp0 k2) .nil⟩
    · rintro i σ' H3 hi ⟨y4, y5, y6, rfl, k3, as, e3, F3⟩
      rw [bnds_snoc] at F3
      obtain ⟨bs, b, rfl, F4, hb⟩ := frs_last F3
      have hK := hO.kp i hi
      have hl := hK.len
      rw [List.length_map] at hl
      have hbl : bs.length = i := by
        have := F4.len
        rwa [bnds_len] at this
      walk_at "z"
      rw [List.map_append] at e3
      refine ⟨Z.tyL e3, ?_⟩
      walk_at "z"
      refine Z.lcl (ps.map PRow.r) (k3.seq nin0 hS) (fun D2 i2 H' => Kp [] H3 H' ∧ PRows K H' D2 (((ps.map PRow.v).take i2).map (kpZ s (bndF s (ps.map PRow.v) i)))) ?_ ?_ ?_ ?_
      · intro D2 H4 nD2 k4 e4
        exact ⟨k4, PRows.new e4⟩
      · rintro D2 i2 H4 nD2 hi2 ⟨k4, _⟩
        exact k4.seq nin0 (k3.seq nin0 hS)
      · rintro D2 i2 v H4 nD2 hv ⟨k4, P4⟩
        rw [List.getElem?_map] at hv
        obtain ⟨p, hp, rfl⟩ := Option.map_eq_some_iff.mp hv
        have hpm := List.mem_of_getElem? hp
        have hpA := (hA p hpm).kp0 (k3.trans k4)
        obtain ⟨n1, n2⟩ := hK.num p.v (List.mem_map_of_mem hpm)
        have hpv : (ps.map PRow.v)[i2]? = some p.v := by rw [List.getElem?_map, hp]; rfl
        have hil := (List.getElem?_eq_some_iff.mp hp).1
        dsimp only [wipe, List.set]
        refine Z.gtup hpA.tup rfl ?_
        walk_at "z"
        refine ⟨rfl, ?_⟩
        walk_at "z"
        refine Z.ixL (lstL (k4.get nin0 e3)) (atI_last _ _) ?_
        walk_at "z"
        refine ⟨p.b, b, p.g, _, sg, s, rfl, hs, hpA.num, hb.kp0 k4, n1, hK.gl, n2.mono (by decide), hK.gB.mono (by decide), fun c2 hc2 => ?_⟩
        walk_at "z"
        refine Z.tupK (fun u H5 nu k5 e5 => ?_)
        have P5 := P4.kp0 k5
        obtain ⟨xs, hx, hxl⟩ := P5.here
        refine ⟨xs, hx, Z.szl (m := 1000) (by rw [hxl, List.length_map, List.length_take, List.length_map]; omega), (k4.trans k5).mut nD2 rfl, ?_⟩
        rw [List.take_add_one, hpv, List.map_append]
        exact P5.snoc hx e5 (hc2.kp0 k5) (hpA.kp0 k5).fr
      · rintro D2 H4 nD2 ⟨k4, P4⟩
        rw [List.length_map, ← List.length_map (f := PRow.v), List.take_length] at P4
        obtain ⟨qs, eD2, pA, pv⟩ := P4
        walk_at "z"
        refine ⟨D2, qs, rfl, lstL eD2, pA, hK.lmean.to pv, fun H5 d k5 e5 => ?_⟩
        rw [meanF_v, pv] at e5
        have k45 := k4.trans k5
        have e3' := k45.get nin0 e3
        walk_at "z"
        refine Z.app e3' (Z.szl (m := 1000) (by simp; omega)) ?_
        refine ⟨_, _, _, rfl, (k3.trans k45).mut nD0 rfl, bs ++ [b] ++ [d], by rw [upd_same, List.map_append, List.map_append]; rfl, ?_⟩
        have kD : Kp [D] H5 (upd H5 D (.lst (bs.map V.ref ++ [b].map V.ref ++ [.ref d]))) := Kp.put (by simp)
        have ntD : ∀ y ∈ [D], NoTup H5 y := fun y hy => by
          rw [List.mem_singleton.mp hy]
          exact NoTup.lst e3'
        rw [bnds_snoc, bnd_succ, bnds_snoc]
        exact (((F4.kp0 k45).snoc (hb.kp0 k45)).kp kD ntD).snoc (FrAt.kp e5 kD ntD)
    · rintro σ' H3 ⟨y4, y5, y6, rfl, k3, F3⟩
      walk_at "z"
      exact q H3 D nD0 k3 F3
end progb46

/-! ### bounds that are accepted -/
section acc46
variable {K : PySem.W.Frag}
open LamX hiding takes0
open LamK
theorem cut_last {xs : List V} : cutV xs none (some (-1)) = xs.dropLast := by
  unfold cutV
  have e : HT.sIx xs.length xs.length (some (-1)) = xs.length - 1 := by
    show (if (-1 : Int) < 0 then ((-1 : Int) + (xs.length : Int)).toNat else min (-1 : Int).toNat xs.length) = _
    rw [if_pos (by decide)]
    omega
  rw [HT.sIx_none, e, List.drop_zero, Nat.sub_zero, List.dropLast_eq_take]
theorem forzm {g : TG} {tb : TS} {D : Ends} {σ : L2.St} {H : Hp} {a b : Addr} (xs ys : List V) (hn : xs.length ≤ ys.length) (hS : SqL K H a xs) (hS2 : SqL K H b ys) (Pv : Nat → L2.St → Hp → Prop) (h0 : Pv 0 σ H) (hl : ∀ i σ H, i ≤ xs.length → Pv i σ H → SqL K H a xs ∧ SqL K H b ys)
    (hs : ∀ i x y σ H H' T, xs[i]? = some x → ys[i]? = some y → Pv i σ H → H T = none → Kp [] H H' → H' T = some (.tup [x, y]) → g (.ref T) σ H' fun σ2 H2 => tb { D with nx := Pv (i + 1), ct := Pv (i + 1), bk := D.nx } σ2 H2) (hd : ∀ σ H, Pv xs.length σ H → D.nx σ H) : ZipK K (ForK g tb D σ) [.ref a, .ref b] H :=
  ⟨a, b, xs, ys, rfl, hS, hS2, for_it (walk_zip (K := K) (a := a) (b := b) (xs := xs) (ys := ys) (n := xs.length) (by omega)) Pv h0 hl (fun i v σ H H' hi p y => by
    obtain ⟨T, x, z, rfl, h1, rfl, h2, h3⟩ := y
    exact hs i x z σ H _ T h2 h3 p h1 (Kp.new h1) upd_same) hd⟩
/-- what a bound is held against -/
def dueL (s : Bool) (zs : List (Fr × Fr)) (bs : List Fr) : List Fr := meanV zs :: bs.dropLast.map fun g => meanV (zs.map (kpZ s g))
def okc (s : Bool) (b due : Fr) : Bool := if s = true then !decide (rv b < rv due) else !decide (rv due < rv b)
def accF (s : Bool) (zs : List (Fr × Fr)) (bs : List Fr) : Bool := (bs.zip (dueL s zs bs)).all fun x => okc s x.1 x.2
structure AccOk (s : Bool) (zs : List (Fr × Fr)) (bs : List Fr) : Prop where
  mean : MeanV zs
  lmean : LMeanV zs
  kp : ∀ g ∈ bs, KpOk s zs g
  due : ∀ f ∈ dueL s zs bs, Low f ∧ FrB 900 f
  len : bs.length ≤ 100
theorem due_len (s : Bool) (zs : List (Fr × Fr)) (bs : List Fr) : bs.length ≤ (dueL s zs bs).length := by
  unfold dueL
  rw [List.length_cons, List.length_map, List.length_dropLast]
  omega
theorem all_bad {α : Type} {f : α → Bool} {l : List α} {i : Nat} {x : α} (h : l[i]? = some x) (hf : f x = false) : l.all f = false := by
  rw [Bool.eq_false_iff]
  intro e
  have := List.all_eq_true.mp e x (List.mem_of_getElem? h)
  rw [hf] at this
  cases this
theorem all_snoc {α : Type} {f : α → Bool} {l : List α} {i : Nat} {x : α} (h : l[i]? = some x) (hf : f x = true) (ht : (l.take i).all f = true) : (l.take (i + 1)).all f = true := by
  rw [List.take_add_one, h, List.all_append, ht]
  show (true && (f x && true)) = true
  rw [hf]
  rfl
def spAcc (K : PySem.W.Frag) (s : Bool) : Sp := fun vs H Q _ => ∃ (a b : Addr) (ps : List PRow) (bs : List Fr), vs = [.ref a, .ref b] ∧ SqL K H a (ps.map PRow.r) ∧ (∀ p ∈ ps, PRowAt K H p) ∧ FrLs K H b bs ∧ AccOk s (ps.map PRow.v) bs ∧ ∀ H', Kp [] H H' → Q (.bl (accF s (ps.map PRow.v) bs)) H'
theorem ok_accepts_ceilings {P : Program} {w : World} {K : PySem.W.Frag} {mg : Str → Option Value} {base : Heap} (T : T P K mg base) : FnOk P w K mg base CX0 8 T.a_accepts_ceilings T.fd_accepts_ceilings ["rows", "bounds"] (spAcc K true) := by
  refine T.F_accepts_ceilings.ok sc_accepts_ceilings (fun vs H Q E h => ?_) (fun cdv A outer s H vs Q E hr h => ?_)
  · obtain ⟨a, b, ps, bs, rfl, _⟩ := h
    rfl
  · obtain ⟨a, b, ps, bs, rfl, hS, hA, ⟨as, eb, hF⟩, hO, q⟩ := h
    have hl := hO.len
    have hal : as.length = bs.length := hF.len
    refine ⟨_, (pss_cons (ps_set (i := 2) sc_accepts_ceilings.nd rfl (by first | exact Or.inl rfl | exact Or.inr rfl) (pe_op op_cat (pe_lst (pa_cons (pe_call (ok_mean T) (hr.mono (by decide)) (by rfl) T.g_mean T.F_mean.kp T.b_mean .nil pass0 (pa_cons (pv 0) pa_nil)) pa_nil)) (pe_lc (own := [("bound", 3)]) (g := gName 3) rfl sc_accepts_ceilings.nd (pi_list (pe_slice sl_list (pv 1) po_none (po_some (pe_un un_neg pe_int)))) (blkOk_by (own := [("bound", 3)]) (N := N_accepts_ceilings) (sc := defScope s_accepts_ceilings) (by decide +kernel)) (fun _ _ _ _ _ => (pg_name (i := 3) sc_accepts_ceilings.nd rfl (by first | exact Or.inl rfl | exact Or.inr rfl))) (fun _ _ _ _ _ => pts_nil) (fun _ _ _ _ _ => (pe_call (ok_mean_above T) (hr.mono (by decide)) (by rfl) T.g_mean_above T.F_mean_above.kp T.b_mean_above .nil pass0 (pa_cons (pv 0) (pa_cons (pv 3) pa_nil)))))))
      (pss_cons (ps_for PassesOwn.never rfl (pi_zip (by rfl) T.z_zip (pa_cons (pv 1) (pa_cons (pv 2) pa_nil))) (pg_tup rfl (pgs_cons (pg_name (i := 3) sc_accepts_ceilings.nd rfl (by first | exact Or.inl rfl | exact Or.inr rfl)) (pgs_cons (pg_name (i := 4) sc_accepts_ceilings.nd rfl (by first | exact Or.inl rfl | exact Or.inr rfl)) pgs_nil))) (pss_one (ps_if (pt_val (pe_call (ok_less T) (hr.mono (by decide)) (by rfl) T.g_less T.F_less.kp T.b_less .nil pass0 (pa_cons (pv 3) (pa_cons (pv 4) pa_nil)))) (pss_one (ps_ret pe_bl)) pss_nil)))
      (pss_one (ps_ret pe_bl)))), ?_⟩
    walk_at "z0"
    walk_at "z"
    refine ⟨a, ps, rfl, hS, hA, hO.mean.to rfl, fun H1 c k1 e1 => ?_⟩
    rw [meanF_v] at e1
    walk_at "z"
    refine Z.lstK (fun l1 H2 n2 k2 e2 => ?_)
    have k12 := k1.trans k2
    walk_at "z"
    refine Z.slL (lstL (k12.get nin0 eb)) (fun l2 H3 n3 k3 e3 => ?_)
    rw [cut_last, ← List.map_dropLast] at e3
    have k13 := k12.trans k3
    have hF3 := hF.kp0 k13
    have hFd : FrsAt K H3 as.dropLast bs.dropLast := by
      have : ∀ {as : List Addr} {fs : List Fr}, FrsAt K H3 as fs → FrsAt K H3 as.dropLast fs.dropLast := fun {as fs} h => by
        induction h with
        | nil => exact .nil
        | cons h1 h2 ih =>
          cases h2 with
          | nil => exact .nil
          | cons h3 h4 => exact .cons h1 ih
      exact this hF3
    have hdm : ∀ g ∈ bs.dropLast, g ∈ bs := fun g hg => (List.dropLast_sublist bs).subset hg
    walk_at "z"
    refine Z.lcl (as.dropLast.map V.ref) (lstL e3) (fun D i H' => Kp [] H3 H' ∧ FrLs K H' D ((bs.dropLast.take i).map fun g => meanV ((ps.map PRow.v).map (kpZ true g)))) ?_ ?_ ?_ ?_
    · intro D H4 nD k4 e4
      exact ⟨k4, [], e4, .nil⟩
    · rintro D i H4 nD hi ⟨k4, _⟩
      exact lstL (k4.get nin0 e3)
    · rintro D i v H4 nD hv ⟨k4, cs, e4, F4⟩
      obtain ⟨x, f, rfl, hf, hx⟩ := (hFd.kp0 k4).get hv
      have hil := (List.getElem?_eq_some_iff.mp hf).1
      rw [List.length_dropLast] at hil
      have hcl := F4.len
      rw [List.length_map, List.length_take] at hcl
      dsimp only [wipe, List.set]
      walk_at "z"
      refine ⟨rfl, ?_⟩
      walk_at "z"
      refine ⟨a, x, ps, f, rfl, (k13.trans k4).seq nin0 hS, fun p hp => (hA p hp).kp0 (k13.trans k4), hx, hO.kp f (hdm f (List.mem_of_getElem? hf)), fun H5 d k5 e5 => ?_⟩
      have e4D := k5.get nin0 e4
      have kD : Kp [D] H5 (upd H5 D (.lst (cs.map V.ref ++ [.ref d]))) := Kp.put (by simp)
      have ntD : ∀ y ∈ [D], NoTup H5 y := fun y hy => by
        rw [List.mem_singleton.mp hy]
        exact NoTup.lst e4D
      refine ⟨_, e4D, Z.szl (m := 1000) (by rw [List.length_map]; omega), (k4.trans k5).mut nD rfl, cs ++ [d], by rw [upd_same, List.map_append]; rfl, ?_⟩
      rw [List.take_add_one, hf, List.map_append]
      exact ((F4.kp0 k5).kp kD ntD).snoc (FrAt.kp e5 kD ntD)
    rintro D H4 nD ⟨k4, cs, e4, F4⟩
    have hdl : as.dropLast.length = bs.dropLast.length := hFd.len
    rw [List.length_map, hdl, List.take_length] at F4
    have k34 := k3.trans k4
    have hcl := F4.len
    rw [List.length_map, List.length_dropLast] at hcl
    refine Z.cat (xs := [V.ref c]) (zs := cs.map V.ref) (k34.get nin0 e2) e4 (by rw [List.length_map]; simp; omega) (fun l5 H5 n5 k5 e5 => ?_)
    have k15 := ((k12.trans k34).trans k5)
    have F5 : FrsAt K H5 (c :: cs) (dueL true (ps.map PRow.v) bs) := .cons (e1.kp0 (k2.trans (k34.trans k5))) (F4.kp0 k5)
    have hb5 := k15.get nin0 eb
    have hFb5 := hF.kp0 k15
    walk_at "z"
    refine forzm (as.map V.ref) ((c :: cs).map V.ref) (by rw [List.length_map, List.length_map, List.length_cons]; omega) (lstL hb5) (lstL e5) (fun i σ' H' => ∃ y3 y4, σ' = [some (.ref a), some (.ref b), some (.ref l5), y3, y4] ∧ Kp [] H5 H' ∧ ((bs.zip (dueL true (ps.map PRow.v) bs)).take i).all (fun x => okc true x.1 x.2) = true) ?_ ?_ ?_ ?_
    · exact ⟨_, _, rfl, Kp.refl _, rfl⟩
    · rintro i σ' H6 hi ⟨y3, y4, rfl, k6, _⟩
      exact ⟨lstL (k6.get nin0 hb5), lstL (k6.get nin0 e5)⟩
    · rintro i vx vy σ' H6 H7 t hx hy ⟨y3, y4, rfl, k6, h6⟩ n7 k7 e7
      have k67 := k6.trans k7
      obtain ⟨x, f, rfl, hf, hxA⟩ := (hFb5.kp0 k67).get hx
      obtain ⟨y, g, rfl, hg, hyA⟩ := (F5.kp0 k67).get hy
      have hz : (bs.zip (dueL true (ps.map PRow.v) bs))[i]? = some (f, g) := (List.getElem?_zip_eq_some (z := (f, g))).mpr ⟨hf, hg⟩
      have hK := hO.kp f (List.mem_of_getElem? hf)
      have hD := hO.due g (List.mem_of_getElem? hg)
      refine Z.gtup (tupT e7) rfl ?_
      walk_at "z"
      refine ⟨x, y, f, g, rfl, hxA, hyA, hK.gB.mono (by decide), hD.2.mono (by decide), ?_⟩
      rw [fless_iff hK.gl.1 hD.1.1]
      by_cases hlt : rv f < rv g
      · rw [decide_eq_true hlt]
        walk_at "z"
        have hbad : accF true (ps.map PRow.v) bs = false := all_bad hz (by show okc true f g = false; unfold okc; rw [if_pos rfl, decide_eq_true hlt]; rfl)
        rw [← hbad]
        exact q _ (k15.trans k67)
      · rw [decide_eq_false hlt]
        walk_at "z"
        exact ⟨_, _, rfl, k67, all_snoc hz (by show okc true f g = true; unfold okc; rw [if_pos rfl, decide_eq_false hlt]; rfl) h6⟩
    · rintro σ' H6 ⟨y3, y4, rfl, k6, h6⟩
      walk_at "z"
      have hzl : (bs.zip (dueL true (ps.map PRow.v) bs)).length = bs.length := by
        rw [List.length_zip]
        have := due_len true (ps.map PRow.v) bs
        omega
      rw [List.length_map, hal, ← hzl, List.take_length] at h6
      have hgood : accF true (ps.map PRow.v) bs = true := h6
      rw [← hgood]
      exact q _ (k15.trans k6)
theorem ok_accepts_floors {P : Program} {w : World} {K : PySem.W.Frag} {mg : Str → Option Value} {base : Heap} (T : T P K mg base) : FnOk P w K mg base CX0 8 T.a_accepts_floors T.fd_accepts_floors ["rows", "bounds"] (spAcc K false) := by
  refine T.F_accepts_floors.ok sc_accepts_floors (fun vs H Q E h => ?_) (fun cdv A outer s H vs Q E hr h => ?_)
  · obtain ⟨a, b, ps, bs, rfl, _⟩ := h
    rfl
  · obtain ⟨a, b, ps, bs, rfl, hS, hA, ⟨as, eb, hF⟩, hO, q⟩ := h
    have hl := hO.len
    have hal : as.length = bs.length := hF.len
    refine ⟨_, (pss_cons (ps_set (i := 2) sc_accepts_floors.nd rfl (by first | exact Or.inl rfl | exact Or.inr rfl) (pe_op op_cat (pe_lst (pa_cons (pe_call (ok_mean T) (hr.mono (by decide)) (by rfl) T.g_mean T.F_mean.kp T.b_mean .nil pass0 (pa_cons (pv 0) pa_nil)) pa_nil)) (pe_lc (own := [("bound", 3)]) (g := gName 3) rfl sc_accepts_floors.nd (pi_list (pe_slice sl_list (pv 1) po_none (po_some (pe_un un_neg pe_int)))) (blkOk_by (own := [("bound", 3)]) (N := N_accepts_floors) (sc := defScope s_accepts_floors) (by decide +kernel)) (fun _ _ _ _ _ => (pg_name (i := 3) sc_accepts_floors.nd rfl (by first | exact Or.inl rfl | exact Or.inr rfl))) (fun _ _ _ _ _ => pts_nil) (fun _ _ _ _ _ => (pe_call (ok_mean_below T) (hr.mono (by decide)) (by rfl) T.g_mean_below T.F_mean_below.kp T.b_mean_below .nil pass0 (pa_cons (pv 0) (pa_cons (pv 3) pa_nil)))))))
      (pss_cons (ps_for PassesOwn.never rfl (pi_zip (by rfl) T.z_zip (pa_cons (pv 1) (pa_cons (pv 2) pa_nil))) (pg_tup rfl (pgs_cons (pg_name (i := 3) sc_accepts_floors.nd rfl (by first | exact Or.inl rfl | exact Or.inr rfl)) (pgs_cons (pg_name (i := 4) sc_accepts_floors.nd rfl (by first | exact Or.inl rfl | exact Or.inr rfl)) pgs_nil))) (pss_one (ps_if (pt_val (pe_call (ok_less T) (hr.mono (by decide)) (by rfl) T.g_less T.F_less.kp T.b_less .nil pass0 (pa_cons (pv 4) (pa_cons (pv 3) pa_nil)))) (pss_one (ps_ret pe_bl)) pss_nil)))
      (pss_one (ps_ret pe_bl)))), ?_⟩
    walk_at "z0"
    walk_at "z"
    refine ⟨a, ps, rfl, hS, hA, hO.mean.to rfl, fun H1 c k1 e1 => ?_⟩
    rw [meanF_v] at e1
    walk_at "z"
    refine Z.lstK (fun l1 H2 n2 k2 e2 => ?_)
    have k12 := k1.trans k2
    walk_at "z"
    refine Z.slL (lstL (k12.get nin0 eb)) (fun l2 H3 n3 k3 e3 => ?_)
    rw [cut_last, ← List.map_dropLast] at e3
    have k13 := k12.trans k3
    have hF3 := hF.kp0 k13
    have hFd : FrsAt K H3 as.dropLast bs.dropLast := by
      have : ∀ {as : List Addr} {fs : List Fr}, FrsAt K H3 as fs → FrsAt K H3 as.dropLast fs.dropLast := fun {as fs} h => by
        induction h with
        | nil => exact .nil
        | cons h1 h2 ih =>
          cases h2 with
          | nil => exact .nil
          | cons h3 h4 => exact .cons h1 ih
      exact this hF3
    have hdm : ∀ g ∈ bs.dropLast, g ∈ bs := fun g hg => (List.dropLast_sublist bs).subset hg
    walk_at "z"
    refine Z.lcl (as.dropLast.map V.ref) (lstL e3) (fun D i H' => Kp [] H3 H' ∧ FrLs K H' D ((bs.dropLast.take i).map fun g => meanV ((ps.map PRow.v).map (kpZ false g)))) ?_ ?_ ?_ ?_
    · intro D H4 nD k4 e4
      exact ⟨k4, [], e4, .nil⟩
    · rintro D i H4 nD hi ⟨k4, _⟩
      exact lstL (k4.get nin0 e3)
    · rintro D i v H4 nD hv ⟨k4, cs, e4, F4⟩
      obtain ⟨x, f, rfl, hf, hx⟩ := (hFd.kp0 k4).get hv
      have hil := (List.getElem?_eq_some_iff.mp hf).1
      rw [List.length_dropLast] at hil
      have hcl := F4.len
      rw [List.length_map, List.length_take] at hcl
      dsimp only [wipe, List.set]
      walk_at "z"
      refine ⟨rfl, ?_⟩
      walk_at "z"
      refine ⟨a, x, ps, f, rfl, (k13.trans k4).seq nin0 hS, fun p hp => (hA p hp).kp0 (k13.trans k4), hx, hO.kp f (hdm f (List.mem_of_getElem? hf)), fun H5 d k5 e5 => ?_⟩
      have e4D := k5.get nin0 e4
      have kD : Kp [D] H5 (upd H5 D (.lst (cs.map V.ref ++ [.ref d]))) := Kp.put (by simp)
      have ntD : ∀ y ∈ [D], NoTup H5 y := fun y hy => by
        rw [List.mem_singleton.mp hy]
        exact NoTup.lst e4D
      refine ⟨_, e4D, Z.szl (m := 1000) (by rw [List.length_map]; omega), (k4.trans k5).mut nD rfl, cs ++ [d], by rw [upd_same, List.map_append]; rfl, ?_⟩
      rw [List.take_add_one, hf, List.map_append]
      exact ((F4.kp0 k5).kp kD ntD).snoc (FrAt.kp e5 kD ntD)
    rintro D H4 nD ⟨k4, cs, e4, F4⟩
    have hdl : as.dropLast.length = bs.dropLast.length := hFd.len
    rw [List.length_map, hdl, List.take_length] at F4
    have k34 := k3.trans k4
    have hcl := F4.len
    rw [List.length_map, List.length_dropLast] at hcl
    refine Z.cat (xs := [V.ref c]) (zs := cs.map V.ref) (k34.get nin0 e2) e4 (by rw [List.length_map]; simp; omega) (fun l5 H5 n5 k5 e5 => ?_)
    have k15 := ((k12.trans k34).trans k5)
    have F5 : FrsAt K H5 (c :: cs) (dueL false (ps.map PRow.v) bs) := .cons (e1.kp0 (k2.trans (k34.trans k5))) (F4.kp0 k5)
    have hb5 := k15.get nin0 eb
    have hFb5 := hF.kp0 k15
    walk_at "z"
    refine forzm (as.map V.ref) ((c :: cs).map V.ref) (by rw [List.length_map, List.length_map, List.length_cons]; omega) (lstL hb5) (lstL e5) (fun i σ' H' => ∃ y3 y4, σ' = [some (.ref a), some (.ref b), some (.ref l5), y3, y4] ∧ Kp [] H5 H' ∧ ((bs.zip (dueL false (ps.map PRow.v) bs)).take i).all (fun x => okc false x.1 x.2) = true) ?_ ?_ ?_ ?_
    · exact ⟨_, _, rfl, Kp.refl _, rfl⟩
    · rintro i σ' H6 hi ⟨y3, y4, rfl, k6, _⟩
      exact ⟨lstL (k6.get nin0 hb5), lstL (k6.get nin0 e5)⟩
    · rintro i vx vy σ' H6 H7 t hx hy ⟨y3, y4, rfl, k6, h6⟩ n7 k7 e7
      have k67 := k6.trans k7
      obtain ⟨x, f, rfl, hf, hxA⟩ := (hFb5.kp0 k67).get hx
      obtain ⟨y, g, rfl, hg, hyA⟩ := (F5.kp0 k67).get hy
      have hz : (bs.zip (dueL false (ps.map PRow.v) bs))[i]? = some (f, g) := (List.getElem?_zip_eq_some (z := (f, g))).mpr ⟨hf, hg⟩
      have hK := hO.kp f (List.mem_of_getElem? hf)
      have hD := hO.due g (List.mem_of_getElem? hg)
      refine Z.gtup (tupT e7) rfl ?_
      walk_at "z"
      refine ⟨y, x, g, f, rfl, hyA, hxA, hD.2.mono (by decide), hK.gB.mono (by decide), ?_⟩
      rw [fless_iff hD.1.1 hK.gl.1]
      by_cases hlt : rv g < rv f
      · rw [decide_eq_true hlt]
        walk_at "z"
        have hbad : accF false (ps.map PRow.v) bs = false := all_bad hz (by show okc false f g = false; unfold okc; rw [if_neg (by decide), decide_eq_true hlt]; rfl)
        rw [← hbad]
        exact q _ (k15.trans k67)
      · rw [decide_eq_false hlt]
        walk_at "z"
        exact ⟨_, _, rfl, k67, all_snoc hz (by show okc false f g = true; unfold okc; rw [if_neg (by decide), decide_eq_false hlt]; rfl) h6⟩
    · rintro σ' H6 ⟨y3, y4, rfl, k6, h6⟩
      walk_at "z"
      have hzl : (bs.zip (dueL false (ps.map PRow.v) bs)).length = bs.length := by
        rw [List.length_zip]
        have := due_len false (ps.map PRow.v) bs
        omega
      rw [List.length_map, hal, ← hzl, List.take_length] at h6
      have hgood : accF false (ps.map PRow.v) bs = true := h6
      rw [← hgood]
      exact q _ (k15.trans k6)
def spLAcc (K : PySem.W.Frag) : Sp := fun vs H Q _ => ∃ (a b : Addr) (ps : List PRow) (bs : List Fr) (sg : Int) (s : Bool), vs = [.ref a, .ref b, .int sg] ∧ decide (sg > 0) = s ∧ sg ≠ 0 ∧ SqL K H a (ps.map PRow.r) ∧ (∀ p ∈ ps, PRowAt K H p) ∧ FrLs K H b bs ∧ AccOk s (ps.map PRow.v) bs ∧ ∀ H', Kp [] H H' → Q (.bl (accF s (ps.map PRow.v) bs)) H'
theorem due_at {s : Bool} {zs : List (Fr × Fr)} {bs : List Fr} {k : Nat} (hk : k < bs.length) : (dueL s zs bs)[k]? = some (match k with
    | 0 => meanV zs
    | j + 1 => meanV (zs.map (kpZ s (bs.getD j (0, 1))))) := by
  unfold dueL
  cases k with
  | zero => rfl
  | succ j =>
    rw [List.getElem?_cons_succ, List.getElem?_map, List.getElem?_dropLast, if_pos (by omega), List.getElem?_eq_getElem (show j < bs.length by omega)]
    show some (meanV (zs.map (kpZ s bs[j]))) = some (meanV (zs.map (kpZ s (bs.getD j (0, 1)))))
    rw [List.getD_eq_getElem?_getD, List.getElem?_eq_getElem (show j < bs.length by omega)]
    rfl
theorem ok__law_accepts {P : Program} {w : World} {K : PySem.W.Frag} {mg : Str → Option Value} {base : Heap} (T : T P K mg base) : FnOk P w K mg base CX0 4 T.a__law_accepts T.fd__law_accepts ["rows", "bounds", "sign"] (spLAcc K) := by
  refine T.F__law_accepts.ok sc__law_accepts (fun vs H Q E h => ?_) (fun cdv A outer s H vs Q E hr h => ?_)
  · obtain ⟨a, b, ps, bs, sg, s, rfl, _⟩ := h
    rfl
  · obtain ⟨a, b, ps, bs, sg, s, rfl, hs, hs0, hS, hA, ⟨as, eb, hF⟩, hO, q⟩ := h
    have hl := hO.len
    have hal : as.length = bs.length := hF.len
    refine ⟨_, (pss_cons (ps_for PassesOwn.never rfl (pi_range1 (by rfl) T.z_range (pa_cons (pe_callB c_len (by rfl) T.z_len (by decide +kernel) (pa_cons (pv 1) pa_nil)) pa_nil)) (pg_name (i := 3) sc__law_accepts.nd rfl (by first | exact Or.inl rfl | exact Or.inr rfl)) (pss_cons (ps_set (i := 4) sc__law_accepts.nd rfl (by first | exact Or.inl rfl | exact Or.inr rfl) (pe_call (ok__law_mean T) (hr.mono (by decide)) (by rfl) T.g__law_mean T.F__law_mean.kp T.b__law_mean .nil pass0 (pa_cons (pv 0) pa_nil)))
      (Z.pss_consJ (ps_if (pt_cmpR op_gt (pv 3) pe_int (nomark _)) (pss_one (ps_set (i := 4) sc__law_accepts.nd rfl (by first | exact Or.inl rfl | exact Or.inr rfl) (pe_call (ok__law_mean T) (hr.mono (by decide)) (by rfl) T.g__law_mean T.F__law_mean.kp T.b__law_mean .nil pass0 (pa_cons (pe_lc (own := [("number", 5), ("chance", 6)]) (g := gTup K 2 (gCons (gName 5) (gCons (gName 6) gNil))) rfl sc__law_accepts.nd (pi_list (pv 0)) (blkOk_by (own := [("number", 5), ("chance", 6)]) (N := N__law_accepts) (sc := defScope s__law_accepts) (by decide +kernel)) (fun _ _ _ _ _ => (pg_tup rfl (pgs_cons (pg_name (i := 5) sc__law_accepts.nd rfl (by first | exact Or.inl rfl | exact Or.inr rfl)) (pgs_cons (pg_name (i := 6) sc__law_accepts.nd rfl (by first | exact Or.inl rfl | exact Or.inr rfl)) pgs_nil)))) (fun _ _ _ _ _ => pts_nil) (fun _ _ _ _ _ => (pe_tup (pa_cons (pe_call (ok__law_kept T) (hr.mono (by decide)) (by rfl) T.g__law_kept T.F__law_kept.kp T.b__law_kept .nil pass0 (pa_cons (pv 5) (pa_cons (pe_ix (ix_list : IxR _ (rIxL K)) (pv 1) (pe_op op_sub (pv 3) pe_int) (fun _ _ => rfl)) (pa_cons (pv 2) pa_nil)))) (pa_cons (pv 6) pa_nil))))) pa_nil)))) pss_nil)
      (pss_one (ps_if (PW.pt (pw_or (PW.pt (pw_and (pt_cmpR op_gt (pv 2) pe_int (nomark _)) (pw_and1 (pt_val (pe_call (ok__law_less T) (hr.mono (by decide)) (by rfl) T.g__law_less T.F__law_less.kp T.b__law_less .nil pass0 (pa_cons (pe_ix ix_list (pv 1) (pv 3) (fun _ _ => rfl)) (pa_cons (pv 4) pa_nil))))))) (pw_or1 (PW.pt (pw_and (pt_cmpR op_lt (pv 2) pe_int (nomark _)) (pw_and1 (pt_val (pe_call (ok__law_less T) (hr.mono (by decide)) (by rfl) T.g__law_less T.F__law_less.kp T.b__law_less .nil pass0 (pa_cons (pv 4) (pa_cons (pe_ix ix_list (pv 1) (pv 3) (fun _ _ => rfl)) pa_nil)))))))))) (pss_one (ps_ret pe_bl)) pss_nil)))))
      (pss_one (ps_ret pe_bl))), ?_⟩
    walk_at "z0"
    walk_at "z"
    refine Z.lenL (lstL eb) ?_
    rw [List.length_map]
    walk_at "z"
    refine Z.forr as.length rfl (by omega) (fun i σ' H' => ∃ y3 y4 y5 y6, σ' = [some (.ref a), some (.ref b), some (.int sg), y3, y4, y5, y6] ∧ Kp [] H H' ∧ ((bs.zip (dueL s (ps.map PRow.v) bs)).take i).all (fun x => okc s x.1 x.2) = true) ?_ ?_ ?_
    · exact ⟨_, _, _, _, rfl, Kp.refl _, rfl⟩
    · rintro i σ' H6 hi ⟨y3, y4, y5, y6, rfl, k6, h6⟩
      have hib : i < bs.length := by omega
      have hxa : (as.map V.ref)[i]? = some (.ref (as[i])) := by rw [List.getElem?_map, List.getElem?_eq_getElem hi]; rfl
      generalize as[i] = x at hxa
      have hdue := due_at (s := s) (zs := ps.map PRow.v) hib
      walk_at "z"
      refine ⟨a, ps, rfl, k6.seq nin0 hS, fun p hp => (hA p hp).kp0 k6, hO.lmean.to rfl, fun H7 c k7 e7 => ?_⟩
      rw [meanF_v] at e7
      have k67 := k6.trans k7
      obtain ⟨due, hdu⟩ : ∃ g, (dueL s (ps.map PRow.v) bs)[i]? = some g := ⟨_, hdue⟩
      walk_at "z"
      refine Z.seqJ (fun σ' H' => ∃ (d : Addr) (y5 y6 : Option V), σ' = [some (.ref a), some (.ref b), some (.int sg), some (.int (i : Int)), some (.ref d), y5, y6] ∧ Kp [] H H' ∧ FrAt K H' d due) ?_ ?_
      · rintro σ' H8 ⟨d, y5, y6, rfl, k8, hd⟩
        have eb8 := k8.get nin0 eb
        have ax : atI (as.map V.ref) (i : Int) = some (.ref x) := atI_nat hxa
        obtain ⟨x', f, ex', hf, hxA⟩ := (hF.kp0 k8).get hxa
        cases ex'
        have hz : (bs.zip (dueL s (ps.map PRow.v) bs))[i]? = some (f, due) := (List.getElem?_zip_eq_some (z := (f, due))).mpr ⟨hf, hdu⟩
        have hK := hO.kp f (List.mem_of_getElem? hf)
        have hD := hO.due due (List.mem_of_getElem? hdu)
        have fin : ∀ c : Bool, okc s f due = !c → (c = true → Q (.bl false) H8) ∧ (c = false → ((bs.zip (dueL s (ps.map PRow.v) bs)).take (i + 1)).all (fun x => okc s x.1 x.2) = true) := fun c hc => by
          refine ⟨fun e => ?_, fun e => ?_⟩
          · have hbad : accF s (ps.map PRow.v) bs = false := all_bad hz (by rw [hc, e]; rfl)
            rw [← hbad]
            exact q _ k8
          · exact all_snoc hz (by rw [hc, e]; rfl) h6
        walk_at "z"
        by_cases hp : 0 < sg
        · have hst : s = true := by rw [← hs]; exact decide_eq_true hp
          rw [decide_eq_true hp]
          walk_at "z"
          refine Z.ixL (lstL eb8) ax ?_
          walk_at "z"
          refine ⟨x, d, f, due, rfl, hxA, hd, hK.gB.mono (by decide), hD.2.mono (by decide), ?_⟩
          rw [fless_iff hK.gl.1 hD.1.1]
          obtain ⟨f1, f2⟩ := fin (decide (rv f < rv due)) (by unfold okc; rw [if_pos hst])
          walk_at "z"
          by_cases hlt : rv f < rv due
          · rw [decide_eq_true hlt]
            walk_at "z"
            exact f1 (decide_eq_true hlt)
          · rw [decide_eq_false hlt]
            walk_at "z"
            rw [decide_eq_false (show ¬ sg < 0 by omega)]
            walk_at "z"
            exact ⟨_, _, _, _, rfl, k8, f2 (decide_eq_false hlt)⟩
        · have hst : ¬ s = true := by rw [← hs]; simpa using hp
          rw [decide_eq_false hp]
          walk_at "z"
          rw [decide_eq_true (show sg < 0 by omega)]
          walk_at "z"
          refine Z.ixL (lstL eb8) ax ?_
          walk_at "z"
          refine ⟨d, x, due, f, rfl, hd, hxA, hD.2.mono (by decide), hK.gB.mono (by decide), ?_⟩
          rw [fless_iff hD.1.1 hK.gl.1]
          obtain ⟨f1, f2⟩ := fin (decide (rv due < rv f)) (by unfold okc; rw [if_neg hst])
          walk_at "z"
          by_cases hlt : rv due < rv f
          · rw [decide_eq_true hlt]
            walk_at "z"
            exact f1 (decide_eq_true hlt)
          · rw [decide_eq_false hlt]
            walk_at "z"
            exact ⟨_, _, _, _, rfl, k8, f2 (decide_eq_false hlt)⟩
      · intro N1 jn
        walk_at "z"
        by_cases hi0 : (0 : Int) < (i : Int)
        · rw [decide_eq_true hi0]
          walk_at "z"
          obtain ⟨j, rfl⟩ : ∃ j, i = j + 1 := ⟨i - 1, by omega⟩
          have hja : (as.map V.ref)[j]? = some (.ref (as[j])) := by rw [List.getElem?_map, List.getElem?_eq_getElem (show j < as.length by omega)]; rfl
          generalize as[j] = w at hja
          obtain ⟨w', g, ew, hg, _⟩ := hF.get hja
          cases ew
          have aw : ∀ {H' : Hp}, Kp [] H H' → atI (as.map V.ref) ((((j + 1 : Nat)) : Int) - 1) = some (.ref w) := fun _ => by
            rw [show (((j + 1 : Nat)) : Int) - 1 = (j : Int) by omega]
            exact atI_nat hja
          have hgd : bs.getD j (0, 1) = g := by rw [List.getD_eq_getElem?_getD, hg]; rfl
          have hdu2 : due = meanV ((ps.map PRow.v).map (kpZ s g)) := by
            rw [hdu] at hdue
            have h9 := Option.some.inj hdue
            rw [h9]
            show meanV ((ps.map PRow.v).map (kpZ s (bs.getD j (0, 1)))) = _
            rw [hgd]
          have hK := hO.kp g (List.mem_of_getElem? hg)
          have hkl := hK.len
          rw [List.length_map] at hkl
          refine Z.lcl (ps.map PRow.r) (k67.seq nin0 hS) (fun D2 i2 H' => Kp [] H7 H' ∧ PRows K H' D2 (((ps.map PRow.v).take i2).map (kpZ s g))) ?_ ?_ ?_ ?_
          · intro D2 H4 nD2 k4 e4
            exact ⟨k4, PRows.new e4⟩
          · rintro D2 i2 H4 nD2 hi2 ⟨k4, _⟩
            exact k4.seq nin0 (k67.seq nin0 hS)
          · rintro D2 i2 v H4 nD2 hv ⟨k4, P4⟩
            rw [List.getElem?_map] at hv
            obtain ⟨p, hp, rfl⟩ := Option.map_eq_some_iff.mp hv
            have hpm := List.mem_of_getElem? hp
            have k674 := k67.trans k4
            have hpA := (hA p hpm).kp0 k674
            obtain ⟨n1, n2⟩ := hK.num p.v (List.mem_map_of_mem hpm)
            have hpv : (ps.map PRow.v)[i2]? = some p.v := by rw [List.getElem?_map, hp]; rfl
            have hil := (List.getElem?_eq_some_iff.mp hp).1
            obtain ⟨w', g', ew, hg', hwA⟩ := (hF.kp0 k674).get hja
            cases ew
            rw [hg] at hg'
            cases hg'
            dsimp only [wipe, List.set]
            refine Z.gtup hpA.tup rfl ?_
            walk_at "z"
            refine ⟨rfl, ?_⟩
            walk_at "z"
            refine Z.ixL (lstL (k674.get nin0 eb)) (aw k674) ?_
            walk_at "z"
            refine ⟨p.b, w, p.g, g, sg, s, rfl, hs, hpA.num, hwA, n1, hK.gl, n2.mono (by decide), hK.gB.mono (by decide), fun c2 hc2 => ?_⟩
            walk_at "z"
            refine Z.tupK (fun u H5 nu k5 e5 => ?_)
            have P5 := P4.kp0 k5
            obtain ⟨xs, hx, hxl⟩ := P5.here
            refine ⟨xs, hx, Z.szl (m := 1000) (by rw [hxl, List.length_map, List.length_take, List.length_map]; omega), (k4.trans k5).mut nD2 rfl, ?_⟩
            rw [List.take_add_one, hpv, List.map_append]
            exact P5.snoc hx e5 (hc2.kp0 k5) (hpA.kp0 k5).fr
          · rintro D2 H4 nD2 ⟨k4, P4⟩
            rw [List.length_map, ← List.length_map (f := PRow.v), List.take_length] at P4
            obtain ⟨qs, eD2, pA, pv⟩ := P4
            walk_at "z"
            refine ⟨D2, qs, rfl, lstL eD2, pA, hK.lmean.to pv, fun H5 d k5 e5 => ?_⟩
            rw [meanF_v, pv, ← hdu2] at e5
            walk_at "z"
            exact jn _ _ ⟨d, _, _, rfl, (k67.trans k4).trans k5, e5⟩
        · have hi1 : i = 0 := by omega
          subst hi1
          rw [decide_eq_false hi0]
          walk_at "z"
          have hdu2 : due = meanV (ps.map PRow.v) := by
            rw [hdu] at hdue
            exact Option.some.inj hdue
          rw [← hdu2] at e7
          exact jn _ _ ⟨c, _, _, rfl, k67, e7⟩
    · rintro σ' H6 ⟨y3, y4, y5, y6, rfl, k6, h6⟩
      walk_at "z"
      have hzl : (bs.zip (dueL s (ps.map PRow.v) bs)).length = bs.length := by
        rw [List.length_zip]
        have := due_len s (ps.map PRow.v) bs
        omega
      rw [hal, ← hzl, List.take_length] at h6
      have hgood : accF s (ps.map PRow.v) bs = true := h6
      rw [← hgood]
      exact q _ k6
end acc46

/-! ### drawn rows -/
section rows46
variable {K : PySem.W.Frag}
open LamX hiding takes0
open LamK GT
theorem DeckOk.nt {H : Hp} {a p : Addr} (d : DeckOk H a p) : ∀ x ∈ [a], NoTup H x := fun x hx => by
  rw [List.mem_singleton.mp hx]
  obtain ⟨ns, i, r, s, h, _⟩ := d
  exact NoTup.lst h
/-- a drawn number -/
def Num46 (g : Fr) : Prop := ∃ u v : Int, g = lo u v ∧ -5 ≤ u ∧ u ≤ 7 ∧ 1 ≤ v ∧ v ≤ 3
structure NsOk (ns : List Int) : Prop where
  each : ∀ n ∈ ns, 1 ≤ n ∧ n ≤ 4
  len : 1 ≤ ns.length ∧ ns.length ≤ 3
/-- what is drawn, before it is added up -/
structure WsOk (ns : List Int) (ws : List (Fr × Fr)) : Prop where
  num : ∀ z ∈ ws, Num46 z.1
  ch : ws.map Prod.snd = ns.map fun n => lo n ns.sum
def spRows (K : PySem.W.Frag) : Sp := fun vs H Q _ => ∃ (a p : Addr), vs = [.ref a] ∧ DeckOk H a p ∧
  ∀ (H' : Hp) (d : Addr) (gs : List GRow) (ns : List Int) (ws : List (Fr × Fr)), H d = none → Kp [a] H H' → DeckOk H' a p → H' d = some (.lst (gs.map GRow.r)) → (∀ g ∈ gs, GRowAt K H' g) → gs.map GRow.kf = gathN (ws.map kfOf) → NsOk ns → WsOk ns ws → Q (.ref d) H'
theorem sum_pos {ns : List Int} (h : ∀ n ∈ ns, 1 ≤ n ∧ n ≤ 4) : (ns.length : Int) ≤ ns.sum ∧ ns.sum ≤ 4 * ns.length := by
  induction ns with
  | nil => simp
  | cons n r ih =>
    have h1 := h n (by simp)
    have h2 := ih fun m hm => h m (by simp [hm])
    rw [List.sum_cons, List.length_cons]
    omega
theorem ws_xs {ns : List Int} {ws : List (Fr × Fr)} (hN : NsOk ns) (hc : ∀ z ∈ ws, ∃ n, 1 ≤ n ∧ n ≤ 4 ∧ z.2 = lo n ns.sum) (hl : ws.length ≤ 64) : XsOk ns.sum.toNat 2 4 (ws.map kfOf) := by
  have hs := sum_pos hN.each
  have hl2 := hN.len
  refine ⟨fun x hx => ?_, fun x hx => ?_, fun x hx => ?_, by rw [List.length_map]; exact hl, ⟨by omega, by omega⟩, by decide⟩
  all_goals obtain ⟨z, hz, rfl⟩ := List.mem_map.mp hx
  · exact ⟨z.1, rfl⟩
  · obtain ⟨n, h1, h2, h3⟩ := hc z hz
    show Low z.2 ∧ FrB 900 z.2
    rw [h3]
    exact ⟨lo_low (by omega), (lo_B (n := 10) (by omega) (by omega) (by omega)).mono (by decide)⟩
  · obtain ⟨n, h1, h2, h3⟩ := hc z hz
    show DenB _ _ (rv z.2)
    rw [h3]
    refine ⟨n, ?_, by omega⟩
    rw [rv_lo (by omega)]
    have e : ((ns.sum.toNat : Nat) : Rat) = (ns.sum : Rat) := by
      have : ((ns.sum.toNat : Nat) : Int) = ns.sum := by omega
      exact_mod_cast congrArg (fun z : Int => (z : Rat)) this
    rw [e]
    have hr := ratNe (q := ns.sum) (by omega)
    grind
theorem ws_ch {ns : List Int} {ws : List (Fr × Fr)} {i : Nat} (b3 : ∀ n ∈ ns, 1 ≤ n ∧ n ≤ 4) (h : ws.map Prod.snd = (ns.take i).map fun n => lo n ns.sum) : ∀ z ∈ ws, ∃ n, 1 ≤ n ∧ n ≤ 4 ∧ z.2 = lo n ns.sum := fun z hz => by
  have : z.2 ∈ (ns.take i).map fun n => lo n ns.sum := by rw [← h]; exact List.mem_map_of_mem hz
  obtain ⟨q0, hq0, e0⟩ := List.mem_map.mp this
  have hq1 := b3 q0 (List.mem_of_mem_take hq0)
  exact ⟨q0, hq1.1, hq1.2, e0.symm⟩
theorem ok__law_rows {P : Program} {w : World} {K : PySem.W.Frag} {mg : Str → Option Value} {base : Heap} (T : T P K mg base) : FnOk P w K mg base CX0 3 T.a__law_rows T.fd__law_rows ["deck"] (spRows K) := by
  refine T.F__law_rows.ok sc__law_rows (fun vs H Q E h => ?_) (fun cdv A outer s H vs Q E hr h => ?_)
  · obtain ⟨a, p, rfl, _⟩ := h
    rfl
  · obtain ⟨a, p, rfl, hd, q⟩ := h
    refine ⟨_, (pss_cons (ps_set (i := 1) sc__law_rows.nd rfl (by first | exact Or.inl rfl | exact Or.inr rfl) pe_dnewT)
      (pss_cons (ps_setLc (i := 2) (own := [("k", 5)]) (g := gName 5) rfl sc__law_rows.nd rfl rfl (sw_true rfl rfl rfl (by decide +kernel)) (pi_range1 (by rfl) T.z_range (pa_cons (pe_op op_add pe_int (pe_call (ok__law_draw T) (hr.mono (by decide)) (by rfl) T.g__law_draw T.F__law_draw.kp T.b__law_draw .nil pass0 (pa_cons (pv 0) (pa_cons pe_int pa_nil)))) pa_nil)) (blkOk_by (own := [("k", 5)]) (N := N__law_rows) (sc := defScope s__law_rows) (by decide +kernel)) (fun _ _ _ _ _ => (pg_name (i := 5) sc__law_rows.nd rfl (by first | exact Or.inl rfl | exact Or.inr rfl))) (fun _ _ _ _ _ => pts_nil) (fun _ _ _ _ _ => (pe_op op_add pe_int (pe_call (ok__law_draw T) (hr.mono (by decide)) (by rfl) T.g__law_draw T.F__law_draw.kp T.b__law_draw .nil pass0 (pa_cons (pv 0) (pa_cons pe_int pa_nil))))))
      (pss_cons (ps_for PassesOwn.never rfl (pi_list (pv 2)) (pg_name (i := 3) sc__law_rows.nd rfl (by first | exact Or.inl rfl | exact Or.inr rfl)) (pss_cons (ps_set (i := 4) sc__law_rows.nd rfl (by first | exact Or.inl rfl | exact Or.inr rfl) (pe_call (ok__law_low T) (hr.mono (by decide)) (by rfl) T.g__law_low T.F__law_low.kp T.b__law_low .nil pass0 (pa_cons (pe_op op_sub (pe_call (ok__law_draw T) (hr.mono (by decide)) (by rfl) T.g__law_draw T.F__law_draw.kp T.b__law_draw .nil pass0 (pa_cons (pv 0) (pa_cons pe_int pa_nil))) pe_int) (pa_cons (pe_op op_add pe_int (pe_call (ok__law_draw T) (hr.mono (by decide)) (by rfl) T.g__law_draw T.F__law_draw.kp T.b__law_draw .nil pass0 (pa_cons (pv 0) (pa_cons pe_int pa_nil)))) pa_nil))))
      (pss_one (ps_dput (hu_of hr) (pv 1) (pv 4) (pe_call (ok__law_plus T) (hr.mono (by decide)) (by rfl) T.g__law_plus T.F__law_plus.kp T.b__law_plus .nil pass0 (pa_cons (pe_dget2 (Nat.lt_of_le_of_lt (Nat.add_le_add_left (by decide) _) (hu_of hr)) (pv 1) (pv 4) (pe_tup (pa_cons pe_int (pa_cons pe_int pa_nil))) ⟨by rfl, by rfl, by rfl, by rfl⟩) (pa_cons (pe_call (ok__law_low T) (hr.mono (by decide)) (by rfl) T.g__law_low T.F__law_low.kp T.b__law_low .nil pass0 (pa_cons (pv 3) (pa_cons (pe_callB (cr_sum rfl) (by rfl) T.z_sum (by decide +kernel) (pa_cons (pv 2) pa_nil)) pa_nil))) pa_nil))) rfl))))
      (pss_one (ps_ret (pe_lc (own := [("outcome", 4)]) (g := gName 4) rfl sc__law_rows.nd (pi_list (pe_callB ((RL.cr_sortedD hr.units) : CallR _ _ (RL.rSortedD K)) (by rfl) T.z_sorted (by decide +kernel) (pa_cons (pe_callTy ((GT.c_listT rfl) : CallR _ _ (GT.rListT)) (by rfl) T.z_list (by decide +kernel) (pa_cons (pv 1) pa_nil)) pa_nil))) (blkOk_by (own := [("outcome", 4)]) (N := N__law_rows) (sc := defScope s__law_rows) (by decide +kernel)) (fun _ _ _ _ _ => (pg_name (i := 4) sc__law_rows.nd rfl (by first | exact Or.inl rfl | exact Or.inr rfl))) (fun _ _ _ _ _ => pts_nil) (fun _ _ _ _ _ => (pe_tup (pa_cons (pv 4) (pa_cons (pe_dget (hu_of hr) (pv 1) (pv 4) (fun _ _ => rfl)) pa_nil)))))))))), ?_⟩
    walk_at "z0"
    walk_at "z"
    refine dnewT (fun D H1 nD k1 e1 => ?_)
    have haD := hd.ne nD
    have d1 := hd.kp0 k1
    walk_at "z"
    refine ⟨a, p, 3, rfl, d1, by decide, by decide, fun H2 m m0 m3 k2 d2 => ?_⟩
    obtain ⟨m, rfl⟩ : ∃ j : Nat, m = (j : Int) := ⟨m.toNat, by omega⟩
    walk_at "z"
    refine Z.lcr (1 + m) (by omega) (by omega) (fun D2 i H' => ∃ ns : List Int, Kp [a] H2 H' ∧ DeckOk H' a p ∧ H' D2 = some (.lst (ns.map V.int)) ∧ ns.length = i ∧ ∀ n ∈ ns, 1 ≤ n ∧ n ≤ 4) ?_ ?_ ?_
    · intro D2 H3 nD2 k3 e3
      exact ⟨[], k3.sub (by simp), d2.kp0 k3, e3, rfl, by simp⟩
    · rintro D2 i H3 nD2 hi ⟨ns, k3, d3, e3, l3, b3⟩
      have ha2 := d2.ne nD2
      dsimp only [wipe, List.set]
      walk_at "z"
      refine ⟨rfl, ?_⟩
      walk_at "z"
      refine ⟨a, p, 4, rfl, d3, by decide, by decide, fun H4 u u0 u4 k4 d4 => ?_⟩
      have e4 := k4.get (nin1 ha2.1.symm) e3
      walk_at "z"
      refine ⟨_, e4, Z.szl (m := 1000) (by rw [List.length_map]; omega), ns ++ [1 + u], (k3.trans k4).mut nD2 rfl, d4.upd ha2.1 ha2.2, by rw [upd_same, List.map_append]; rfl, by simp [l3], fun n hn => ?_⟩
      rcases List.mem_append.mp hn with hn | hn
      · exact b3 n hn
      · rw [List.mem_singleton.mp hn]
        omega
    rintro N H3 nN ⟨ns, k3, d3, e3, l3, b3⟩
    have hN : NsOk ns := ⟨b3, by omega, by omega⟩
    have hsum := sum_pos b3
    have haN := d2.ne nN
    have e1N : H3 D = some (.dT []) := k3.get (nin1 haD.1.symm) (k2.get (nin1 haD.1.symm) e1)
    have k13 := (k1.sub (M' := [a]) (by simp)).trans (k2.trans k3)
    have nND : N ≠ D := fun z => by
      rw [z, k2.get (nin1 haD.1.symm) e1] at nN
      cases nN
    have haN3 : a ≠ N := haN.1
    walk_at "z"
    refine Z.forl (ns.map V.int) (lstL e3) (fun i σ' H' => ∃ (y3 y4 y5 : Option V) (kvs : List (List Key × V)) (ws : List (Fr × Fr)), σ' = [some (.ref a), some (.ref D), some (.ref N), y3, y4, y5] ∧ Kp [a] H H' ∧ DeckOk H' a p ∧ H' N = some (.lst (ns.map V.int)) ∧ H' D = some (.dT kvs) ∧ KvAt K H' kvs (gsum (ws.map kfOf)) ∧ ws.length = i ∧ (∀ z ∈ ws, Num46 z.1) ∧ ws.map Prod.snd = (ns.take i).map fun n => lo n ns.sum) ?_ ?_ ?_ ?_
    · exact ⟨_, _, _, [], [], rfl, k13, d3, e3, e1N, .nil, rfl, by simp, rfl⟩
    · rintro i σ' H4 hi ⟨y3, y4, y5, kvs, ws, rfl, k4, d4, eN4, _⟩
      exact lstL eN4
    · rintro i v σ' H4 hv ⟨y3, y4, y5, kvs, ws, rfl, k4, d4, eN4, e4, V4, wl4, wn4, wc4⟩
      rw [List.getElem?_map] at hv
      obtain ⟨n, hn, rfl⟩ := Option.map_eq_some_iff.mp hv
      have hnb := b3 n (List.mem_of_getElem? hn)
      walk_at "z"
      refine ⟨a, p, 13, rfl, d4, by decide, by decide, fun H5 u u0 u13 k5 d5 => ?_⟩
      walk_at "z"
      refine ⟨a, p, 3, rfl, d5, by decide, by decide, fun H6 w w0 w3 k6 d6 => ?_⟩
      walk_at "z"
      refine ⟨u - 5, 1 + w, rfl, by omega, Nat.lt_of_le_of_lt (show (1 + w).natAbs ≤ 4 by omega) (by decide), fun H7 b nb k7 e7 => ?_⟩
      have k57 : Kp [a] H4 H7 := (k5.trans k6).trans (k7.sub (by simp))
      have eD7 := k57.get (nin1 haD.1.symm) e4
      have eN7 := k57.get (nin1 haN3.symm) eN4
      have V7 : KvAt K H7 kvs (gsum (ws.map kfOf)) := KvAt.mono (fun c f h => FrAt.kp h k57 d4.nt) V4
      have d7 := d6.kp0 k7
      have ekey : H7 b = some (.tup ((keyOf (lo (u - 5) (1 + w))).map kV)) := e7
      walk_at "z"
      refine ⟨D, rfl, .inr ⟨kvs, .inl eD7⟩, ?_⟩
      walk_at "z"
      refine Z.tupK (fun z H8 nz k8 e8 => ?_)
      refine ⟨_, DGet.t (k8.get nin0 eD7) (k8.get nin0 ekey), ?_⟩
      have hil := (List.getElem?_eq_some_iff.mp hn).1
      have hX := ws_xs hN (ws_ch b3 wc4) (by omega)
      have hnm := norm_gsum fun x hx => (hX.low x hx).1.ne
      obtain ⟨c0, hc0, hF0, hB0⟩ : ∃ c0, (valV kvs (keyOf (lo (u - 5) (1 + w)))).getD (.ref z) = .ref c0 ∧ FrAt K H8 c0 ((gval (gsum (ws.map kfOf)) (keyOf (lo (u - 5) (1 + w)))).getD (0, 1)) ∧ (1 ≤ ((gval (gsum (ws.map kfOf)) (keyOf (lo (u - 5) (1 + w)))).getD (0, 1)).2 ∧ FrB 900 ((gval (gsum (ws.map kfOf)) (keyOf (lo (u - 5) (1 + w)))).getD (0, 1))) := by
        rcases V7.val (k := keyOf (lo (u - 5) (1 + w))) with ⟨h1, h2⟩ | ⟨c, f, h1, h2, h3⟩
        · rw [h1, h2]
          exact ⟨z, rfl, tupT e8, by decide, by decide, by decide⟩
        · rw [h1, h2]
          have h9 := hX.norm hnm (gval_mem h2)
          exact ⟨c, rfl, h3.kp0 k8, h9.1.1, h9.2.1⟩
      rw [hc0]
      have eN8 := k8.get nin0 eN7
      walk_at "z"
      refine Z.sumL (ns := ns) (lstL eN8) ?_
      walk_at "z"
      refine ⟨n, ns.sum, rfl, by omega, Nat.lt_of_le_of_lt (show ns.sum.natAbs ≤ 12 by omega) (by decide), fun H9 e nb9 k9 e9 => ?_⟩
      have hlw : Low (lo n ns.sum) := lo_low (by omega)
      walk_at "z"
      refine ⟨c0, e, _, lo n ns.sum, rfl, hF0.kp0 k9, (show FrAt K H9 e (lo n ns.sum) from tupT e9), hB0.1, hlw.1, ⟨900, 10, hB0.2, lo_B (n := 10) (by omega) (by omega) (by omega), by decide⟩, fun H10 d nd k10 e10 => ?_⟩
      have k710 := (k8.trans k9).trans k10
      have eD10 := k710.get nin0 eD7
      have eN10 := k710.get nin0 eN7
      have hkl : kvs.length ≤ i := by
        have h1 := V7.len
        have h2 := gsum_len (xs := ws.map kfOf) (acc := [])
        rw [List.length_map] at h2
        unfold gsum at h1
        simp only [List.length_nil] at h2
        omega
      walk_at "z"
      refine ⟨D, _, rfl, DPut.t (k := keyOf (lo (u - 5) (1 + w))) eD10 (k710.get nin0 ekey) (Z.szl (m := 1000) (by omega)), ?_⟩
      have k11 : Kp [D] H10 (upd H10 D (.dT (putK kvs (keyOf (lo (u - 5) (1 + w))) (.ref d)))) := Kp.put (by simp)
      have nt := noT eD10 (fun xs => ⟨by simp, by simp⟩)
      have d10 := d7.kp0 k710
      refine ⟨_, _, _, _, ws ++ [(lo (u - 5) (1 + w), lo n ns.sum)], rfl, ((k4.trans k57).trans (k710.sub (by simp))).mut nD rfl, d10.upd haD.1 haD.2, k11.get (nin1 nND) eN10, upd_same, ?_, by simp [wl4], fun z hz => ?_, ?_⟩
      · rw [List.map_append]
        have hg : gsum (ws.map kfOf ++ [kfOf (lo (u - 5) (1 + w), lo n ns.sum)]) = gstp (gsum (ws.map kfOf)) (kfOf (lo (u - 5) (1 + w), lo n ns.sum)) := by
          unfold gsum
          rw [List.foldl_append]
          rfl
        show KvAt K _ _ (gsum (ws.map kfOf ++ [kfOf (lo (u - 5) (1 + w), lo n ns.sum)]))
        rw [hg]
        exact (KvAt.mono (fun c f h => h.kp0 k710) V7 |> KvAt.put e10).mono fun c f h => h.kp k11 nt
      · rcases List.mem_append.mp hz with hz | hz
        · exact wn4 z hz
        · rw [List.mem_singleton.mp hz]
          exact ⟨u - 5, 1 + w, rfl, by omega, by omega, by omega, by omega⟩
      · rw [List.map_append, wc4, List.take_add_one, hn, List.map_append]
        rfl
    · rintro σ' H2 ⟨y3, y4, y5, kvs, ws, rfl, k4, d4, eN4, e2, V2, wl4, wn4, wc4⟩
      have hG : GathOk (ws.map kfOf) := (ws_xs hN (ws_ch b3 wc4) (by rw [wl4, List.length_map]; omega)).gath
      rw [List.length_map, List.take_length] at wc4
      walk_at "z"
      refine ⟨D, kvs, rfl, .inl e2, fun p0 bs np hbs => ?_⟩
      obtain ⟨L, hL1, hL2, hL3⟩ := keys_side V2 hbs
      have hnd : ((gsum (ws.map kfOf)).map Prod.fst).Nodup := gsum_nodup (acc := []) (by simp)
      have hLl : L.length ≤ 1000 := by
        have h1 := congrArg List.length hL1
        have h2 := gsum_len (xs := ws.map kfOf) (acc := [])
        have h3 := hG.len
        unfold gsum at h1
        rw [List.length_map] at h1
        simp only [List.length_nil] at h2
        omega
      have kp : Kp [] H2 (upd H2 p0 (.lst (bs.map V.ref))) := Kp.new np
      have ep : upd H2 p0 (.lst (bs.map V.ref)) p0 = some (.lst (bs.map V.ref)) := upd_same
      generalize upd H2 p0 (.lst (bs.map V.ref)) = H3 at kp ep ⊢
      have hL4 : ∀ x ∈ L, H3 x.2 = some (.tup (x.1.1.map kV)) := fun x hx => kp.get nin0 (hL3 x hx)
      walk_at "z"
      refine ⟨p0, L.map (fun x => (V.ref x.2, keyD x.1.1)), rfl, lstL (by rw [ep, ← hL2, List.map_map, List.map_map]; rfl), fun b hb => ?_, ?_, ?_, fun b hb => ?_, fun l nl => ?_⟩
      · obtain ⟨x, hx, rfl⟩ := List.mem_map.mp hb
        exact dp_key (hL4 x hx)
      · have e := hG.alike
        rw [← hL1, List.map_map] at e
        rw [List.map_map]
        exact e
      · have e := hG.sorts
        rw [← hL1, List.map_map] at e
        rw [List.map_map]
        exact e
      · obtain ⟨x, hx, rfl⟩ := List.mem_map.mp hb
        have := keys_depth x.1.1
        show (keyD x.1.1).depth ≤ 60
        unfold keyD
        simp [PyData.depth]
        omega
      · have es : ((L.map fun x : KF × Addr => (V.ref x.2, keyD x.1.1)).mergeSort (PySem.W.dataLe false Prod.snd)).map Prod.fst = (L.mergeSort (PySem.W.dataLe false fun x : KF × Addr => keyD x.1.1)).map fun x => V.ref x.2 := by
          rw [← List.map_mergeSort (r := PySem.W.dataLe false fun x : KF × Addr => keyD x.1.1) (s := PySem.W.dataLe false Prod.snd) (f := fun x : KF × Addr => (V.ref x.2, keyD x.1.1)) (fun _ _ _ _ => rfl), List.map_map]
          rfl
        have es2 : (L.mergeSort (PySem.W.dataLe false fun x : KF × Addr => keyD x.1.1)).map Prod.fst = (gsum (ws.map kfOf)).mergeSort (PySem.W.dataLe false fun x => keyD x.1) := by
          rw [List.map_mergeSort (r := PySem.W.dataLe false fun x : KF × Addr => keyD x.1.1) (s := PySem.W.dataLe false fun x : KF => keyD x.1) (f := Prod.fst) (fun _ _ _ _ => rfl), hL1]
        rw [es]
        have hmem : ∀ x ∈ L.mergeSort (PySem.W.dataLe false fun x : KF × Addr => keyD x.1.1), x ∈ L := fun x hx => (List.mergeSort_perm L _).mem_iff.mp hx
        have hLS : (L.mergeSort (PySem.W.dataLe false fun x : KF × Addr => keyD x.1.1)).length = L.length := (List.mergeSort_perm L _).length_eq
        generalize L.mergeSort (PySem.W.dataLe false fun x : KF × Addr => keyD x.1.1) = LS at es2 hmem hLS ⊢
        have kl : Kp [] H3 (upd H3 l (.lst (LS.map fun x => V.ref x.2))) := Kp.new nl
        have el : upd H3 l (.lst (LS.map fun x => V.ref x.2)) l = some (.lst (LS.map fun x => V.ref x.2)) := upd_same
        generalize upd H3 l (.lst (LS.map fun x => V.ref x.2)) = H4 at kl el ⊢
        have k24 := kp.trans kl
        have e4D := k24.get nin0 e2
        have V4 : KvAt K H4 kvs (gsum (ws.map kfOf)) := KvAt.mono (fun c f h => h.kp0 k24) V2
        refine Z.lcl (LS.map fun x => V.ref x.2) (lstL el) (fun D2 i H' => ∃ res : List GRow, Kp [] H4 H' ∧ H' D2 = some (.lst (res.map GRow.r)) ∧ (∀ g ∈ res, GRowAt K H' g) ∧ res.map GRow.kf = (LS.take i).map Prod.fst) ?_ ?_ ?_ ?_
        · intro D2 H5 nD2 k5 e5
          exact ⟨[], k5, e5, by simp, by simp⟩
        · rintro D2 i H5 nD2 hi ⟨res, k5, e5, A5, d5⟩
          exact lstL (k5.get nin0 el)
        · rintro D2 i v H5 nD2 hv ⟨res, k5, e5, A5, d5⟩
          rw [List.getElem?_map] at hv
          obtain ⟨x, hx, rfl⟩ := Option.map_eq_some_iff.mp hv
          have hxL := hmem x (List.mem_of_getElem? hx)
          have hxa : x.1 ∈ gsum (ws.map kfOf) := by rw [← hL1]; exact List.mem_map_of_mem hxL
          have hil : i < LS.length := (List.getElem?_eq_some_iff.mp hx).1
          have hrl : res.length ≤ i := by
            have h1 := congrArg List.length d5
            rw [List.length_map, List.length_map, List.length_take] at h1
            omega
          have hok : ∀ s, Sum.inr s ∈ x.1.1 → PyData.strOk s = true := hG.keys x.1 hxa
          have hkey : H5 x.2 = some (.tup (x.1.1.map kV)) := (kl.trans k5).get nin0 (hL4 x hxL)
          have hval := gval_of hnd hxa
          obtain ⟨c, hc, hF⟩ : ∃ c, valV kvs x.1.1 = some (.ref c) ∧ FrAt K H5 c x.1.2 := by
            rcases (KvAt.mono (fun c f h => h.kp0 k5) V4 : KvAt K H5 kvs _).val (k := x.1.1) with ⟨_, h2⟩ | ⟨c, f, h1, h2, h3⟩
            · rw [hval] at h2
              cases h2
            · rw [hval] at h2
              cases h2
              exact ⟨c, h1, h3⟩
          have e5D := k5.get nin0 e4D
          have hget : ∀ {H6 : Hp}, Kp [] H5 H6 → DGet H6 D (.ref x.2) (some (.ref c)) := fun {H6} k => by
            rw [← hc]
            exact DGet.t (k.get nin0 e5D) (k.get nin0 hkey)
          dsimp only [wipe, List.set]
          walk_at "z"
          refine ⟨rfl, ?_⟩
          walk_at "z"
          refine ⟨D, _, rfl, hget (Kp.refl _), ?_⟩
          walk_at "z"
          refine Z.tupK (fun t H7 nt k7 e7 => ?_)
          have e7D := k7.get nin0 e5
          have hrow : GRowAt K H7 ⟨t, x.2, x.1.1, c, x.1.2⟩ := ⟨tupT e7, k7.get nin0 hkey, hF.kp0 k7, hok⟩
          refine ⟨_, e7D, Z.szl (m := 100000) (by rw [List.length_map]; omega), res ++ [⟨t, x.2, x.1.1, c, x.1.2⟩], (k5.trans k7).mut nD2 rfl, by rw [upd_same, List.map_append]; rfl, fun g hg => ?_, ?_⟩
          · have kD : Kp [D2] H7 (upd H7 D2 (.lst (res.map GRow.r ++ [.ref t]))) := Kp.put (by simp)
            have nt2 := noT e7D (fun xs => ⟨by simp, by simp⟩)
            rcases List.mem_append.mp hg with hg | hg
            · exact ((A5 g hg).kp0 k7).kpM kD nt2
            · rw [List.mem_singleton.mp hg]
              exact hrow.kpM kD nt2
          · rw [List.map_append, d5, List.take_add_one, hx, List.map_append]
            rfl
        · rintro D2 H5 nD2 ⟨res, k5, e5, A5, d5⟩
          rw [List.length_map, List.take_length, es2] at d5
          walk_at "z"
          have k25 : Kp [a] H H5 := k4.trans ((k24.trans k5).sub (by simp))
          exact q H5 D2 res ns ws (k4.none (fun z => by
            rw [List.mem_singleton.mp z] at nD2
            obtain ⟨_, _, _, _, h9, _⟩ := d4.kp0 k24
            rw [nD2] at h9
            cases h9) (k24.none nin0 nD2)) k25 ((d4.kp0 k24).kp0 k5) e5 A5 d5 hN ⟨wn4, wc4⟩
end rows46

/-! ### how small all stays -/
section den46
open LamK
theorem nodup_len {α : Type} [DecidableEq α] : ∀ {l m : List α}, l.Nodup → (∀ x ∈ l, x ∈ m) → l.length ≤ m.length
  | [], _, _, _ => Nat.zero_le _
  | x :: l, m, hn, hs => by
    obtain ⟨h1, h2⟩ := List.nodup_cons.mp hn
    have h3 := nodup_len (m := m.erase x) h2 fun y hy => (List.mem_erase_of_ne (show y ≠ x from fun e => h1 (e ▸ hy))).mpr (hs y (by simp [hy]))
    have h4 := List.length_erase_of_mem (hs x (by simp))
    have h5 := List.length_pos_of_mem (hs x (by simp))
    rw [List.length_cons]
    omega
structure RowsZ (S : Nat) (zs : List (Fr × Fr)) : Prop extends NumZ zs where
  den : ∀ z ∈ zs, DenB S 4 (rv z.2)
  one : sR (fun z => rv z.2) zs = 1
  len : zs.length ≤ 3
  S1 : 1 ≤ S ∧ S ≤ 2 ^ 4
  nums : ∀ z ∈ zs, FrB 10 z.1 ∧ DenB 6 6 (rv z.1)
theorem pos_le {zs : List (Fr × Fr)} (h : PosZ zs) (h1 : sR (fun z => rv z.2) zs = 1) {z : Fr × Fr} (hz : z ∈ zs) : rv z.2 ≤ 1 := by
  have key : ∀ {l : List (Fr × Fr)}, (∀ y ∈ l, 0 < rv y.2) → ∀ y ∈ l, rv y.2 ≤ sR (fun z => rv z.2) l := fun {l} => by
    induction l with
    | nil => intro _ y hy; cases hy
    | cons q t ih =>
      intro hp y hy
      have h0 : 0 ≤ sR (fun z => rv z.2) t := by
        unfold sR
        refine ratsum_nonneg fun r hr => ?_
        obtain ⟨w, hw, rfl⟩ := List.mem_map.mp hr
        have := hp w (by simp [hw])
        grind
      rw [sR_cons]
      have hq := hp q (by simp)
      rcases List.mem_cons.mp hy with rfl | hy
      · grind
      · have := ih (fun y hy => hp y (by simp [hy])) y hy
        grind
  rw [← h1]
  exact key h.pos z hz
/-- a multiple of one D-th that lies between 0 and 1 -/
theorem den_unit {D n : Nat} {x : Rat} (h : ∃ z : Int, x * (D : Rat) = (z : Rat)) (h0 : 0 ≤ x) (h1 : x ≤ 1) (hD : D ≤ 2 ^ n) : DenB D n x := by
  obtain ⟨z, hz⟩ := h
  have hN : (0 : Rat) ≤ (D : Rat) := by exact_mod_cast Nat.zero_le D
  have a1 := Rat.mul_nonneg h0 hN
  have a2 := Rat.mul_le_mul_of_nonneg_right h1 hN
  rw [hz] at a1 a2
  have b1 : 0 ≤ z := by exact_mod_cast a1
  have b2 : z ≤ (D : Int) := by
    have : (z : Rat) ≤ ((D : Int) : Rat) := by
      have e : ((D : Int) : Rat) = (D : Rat) := by exact_mod_cast rfl
      rw [e]; grind
    exact_mod_cast this
  exact ⟨z, hz, by omega⟩
theorem den_sum {D : Nat} : ∀ {l : List Rat}, (∀ x ∈ l, ∃ z : Int, x * (D : Rat) = (z : Rat)) → ∃ z : Int, l.sum * (D : Rat) = (z : Rat)
  | [], _ => ⟨0, by show (0 : Rat) * _ = _; rw [show ((0 : Int) : Rat) = 0 from rfl]; grind⟩
  | x :: l, h => by
    obtain ⟨a, ha⟩ := h x (by simp)
    obtain ⟨b, hb⟩ := den_sum (l := l) fun y hy => h y (by simp [hy])
    refine ⟨a + b, ?_⟩
    have e : ((a + b : Int) : Rat) = (a : Rat) + (b : Rat) := by exact_mod_cast rfl
    rw [List.sum_cons, e, ← ha, ← hb]
    grind
def HasD (D : Nat) (zs : List (Fr × Fr)) : Prop := ∀ z ∈ zs, ∃ k : Int, rv z.2 * (D : Rat) = (k : Rat)
theorem gathZ_mem {zs : List (Fr × Fr)} (h : ∀ z ∈ zs, Low z.2) : ∀ z ∈ gathZ zs, rv z.2 = sF zs z.1 := fun z hz => by
  unfold gathZ at hz
  obtain ⟨x, hxm, rfl⟩ := List.mem_map.mp hz
  obtain ⟨a, b, c⟩ := (gath_iff (kf_low h)).mp hxm
  obtain ⟨m, _⟩ := gath_mem (fun x hx => (kf_low h x hx).ne) hxm
  obtain ⟨y, hy, e⟩ := List.mem_map.mp m
  obtain ⟨w, hw, rfl⟩ := List.mem_map.mp hy
  have e2 : keyOf (numOf x.1) = x.1 := by rw [← e]; rfl
  show rv x.2 = sF zs (numOf x.1)
  rw [b, ← sK_kf, e2]
theorem HasD.gath {D : Nat} {zs : List (Fr × Fr)} (h : HasD D zs) (hl : ∀ z ∈ zs, Low z.2) : HasD D (gathZ zs) := fun z hz => by
  rw [gathZ_mem hl z hz]
  unfold sF sR
  refine den_sum fun x hx => ?_
  obtain ⟨w, hw, rfl⟩ := List.mem_map.mp hx
  split
  · exact h w hw
  · exact ⟨0, by rw [show ((0 : Int) : Rat) = 0 from rfl]; grind⟩
theorem HasD.up {D E : Nat} {zs : List (Fr × Fr)} (h : HasD D zs) : HasD (D * E) zs := fun z hz => by
  obtain ⟨k, hk⟩ := h z hz
  refine ⟨k * (E : Int), ?_⟩
  have e1 : ((D * E : Nat) : Rat) = (D : Rat) * (E : Rat) := by exact_mod_cast rfl
  have e2 : ((k * (E : Int) : Int) : Rat) = (k : Rat) * (E : Rat) := by exact_mod_cast rfl
  rw [e1, e2, ← hk]
  grind
theorem HasD.mix {D E : Nat} {L : Fr → Bool} {zs W : List (Fr × Fr)} (h : HasD E zs) (hz : PosZ zs) (hW : HasD D W) (hW2 : PosZ W) : HasD (D * E) (mixA L zs W) := fun y hy => by
  have e1 : ((D * E : Nat) : Rat) = (D : Rat) * (E : Rat) := by exact_mod_cast rfl
  unfold mixA at hy
  obtain ⟨z, hzm, hy⟩ := List.mem_flatMap.mp hy
  obtain ⟨k, hk⟩ := h z hzm
  split at hy
  · obtain ⟨o, ho, rfl⟩ := List.mem_map.mp hy
    obtain ⟨j, hj⟩ := hW o ho
    refine ⟨k * j, ?_⟩
    show rv (ftimes z.2 o.2) * _ = _
    have e2 : ((k * j : Int) : Rat) = (k : Rat) * (j : Rat) := by exact_mod_cast rfl
    rw [rv_ftimes (hz.ne z hzm) (hW2.ne o ho), e1, e2, ← hk, ← hj]
    grind
  · rw [List.mem_singleton.mp hy]
    refine ⟨k * (D : Int), ?_⟩
    have e2 : ((k * (D : Int) : Int) : Rat) = (k : Rat) * (D : Rat) := by exact_mod_cast rfl
    rw [e1, e2, ← hk]
    grind
theorem LA_hasD {S : Nat} {L : Nat → Fr → Bool} {zs : List (Fr × Fr)} (h : PosZ zs) (hS : HasD S zs) : ∀ r, HasD (S ^ (r + 1)) (LA L zs r)
  | 0 => by rw [Nat.zero_add, Nat.pow_one]; exact hS
  | r + 1 => by
    have ih := LA_hasD (L := L) h hS r
    rw [Nat.pow_succ]
    exact (hS.mix h ih (LA_pos h r)).gath (mix_low h (LA_pos h r)).low
theorem gathZ_nodup (zs : List (Fr × Fr)) (h : ∀ z ∈ zs, Low z.2) : ((gathZ zs).map Prod.fst).Nodup := by
  have h1 : ((gathOf (zs.map kfOf)).map Prod.fst).Nodup := List.pairwise_map.mpr ((gath_asc (zs.map kfOf)).imp fun h => h.2)
  unfold gathZ
  rw [List.map_map]
  refine List.pairwise_map.mpr ((List.pairwise_map.mp h1).imp_of_mem fun {a b} ha hb hne e => hne ?_)
  have key : ∀ x ∈ gathOf (zs.map kfOf), keyOf (numOf x.1) = x.1 := fun x hx => by
    obtain ⟨m, _⟩ := gath_mem (fun x hx => (kf_low h x hx).ne) hx
    obtain ⟨y, hy, e⟩ := List.mem_map.mp m
    obtain ⟨w, hw, rfl⟩ := List.mem_map.mp hy
    rw [← e]; rfl
  have e : numOf a.1 = numOf b.1 := e
  rw [← key a ha, ← key b hb, e]
theorem LA_len {S : Nat} {L : Nat → Fr → Bool} {zs : List (Fr × Fr)} (h : RowsZ S zs) : ∀ r, (LA L zs r).length ≤ 3
  | 0 => h.len
  | r + 1 => by
    have hl := (mix_low (L := L (r + 1)) h.toPosZ (LA_pos (L := L) h.toPosZ r)).low
    have h1 := nodup_len (m := zs.map Prod.fst) (gathZ_nodup _ hl) fun x hx => by
      obtain ⟨z, hz, rfl⟩ := List.mem_map.mp hx
      obtain ⟨w, hw, e⟩ := LA_num (L := L) h.toPosZ (r + 1) z hz
      exact List.mem_map.mpr ⟨w, hw, e.symm⟩
    rw [List.length_map, List.length_map] at h1
    exact Nat.le_trans h1 h.len
theorem S_pow {S : Nat} {zs : List (Fr × Fr)} (h : RowsZ S zs) (r : Nat) : 1 ≤ S ^ r ∧ S ^ r ≤ 2 ^ (4 * r) := by
  refine ⟨Nat.one_le_pow _ _ h.S1.1, ?_⟩
  rw [Nat.pow_mul]
  exact Nat.pow_le_pow_left h.S1.2 r
theorem RowsZ.hasD {S : Nat} {zs : List (Fr × Fr)} (h : RowsZ S zs) : HasD S zs := fun z hz => let ⟨k, hk, _⟩ := h.den z hz; ⟨k, hk⟩
theorem LA_ch {S : Nat} {L : Nat → Fr → Bool} {zs : List (Fr × Fr)} (h : RowsZ S zs) (r : Nat) : ∀ z ∈ LA L zs r, Low z.2 ∧ DenB (S ^ (r + 1)) (4 * (r + 1)) (rv z.2) ∧ FrB (4 * (r + 1) + 1) z.2 := fun z hz => by
  have hp := LA_pos (L := L) h.toPosZ r
  have hl := hp.low z hz
  have hd := den_unit (LA_hasD (L := L) h.toPosZ h.hasD r z hz) (by have := hp.pos z hz; grind) (pos_le hp (LA_one h.toPosZ h.one r) hz) (S_pow h (r + 1)).2
  exact ⟨hl, hd, den_B hl hd (S_pow h (r + 1)).1 (S_pow h (r + 1)).2 (by omega) (by omega)⟩
theorem mix_one {S : Nat} {L : Nat → Fr → Bool} {zs : List (Fr × Fr)} (h : RowsZ S zs) (r : Nat) : sR (fun z => rv z.2) (mixA (L (r + 1)) zs (LA L zs r)) = 1 := by
  have h1 := LA_one (L := L) h.toPosZ h.one (r + 1)
  have h2 : sR (fun z => rv z.2) (gathZ (mixA (L (r + 1)) zs (LA L zs r))) = 1 := h1
  rwa [gathZ_one (mix_low h.toPosZ (LA_pos h.toPosZ r)).ne] at h2
theorem mix_len {S : Nat} {L : Nat → Fr → Bool} {zs : List (Fr × Fr)} (h : RowsZ S zs) (r : Nat) : (mixA (L (r + 1)) zs (LA L zs r)).length ≤ 9 := by
  have hW := LA_len (L := L) h r
  have key : ∀ {l : List (Fr × Fr)}, (mixA (L (r + 1)) l (LA L zs r)).length ≤ 3 * l.length := fun {l} => by
    induction l with
    | nil => exact Nat.zero_le _
    | cons z t ih =>
      unfold mixA at *
      rw [List.flatMap_cons, List.length_append, List.length_cons]
      have : (if L (r + 1) z.1 = true then (LA L zs r).map (fun o => (o.1, ftimes z.2 o.2)) else [z]).length ≤ 3 := by
        split
        · rw [List.length_map]; exact hW
        · simp
      omega
  have := key (l := zs)
  have := h.len
  omega
theorem mix_xs {S : Nat} {L : Nat → Fr → Bool} {zs : List (Fr × Fr)} (h : RowsZ S zs) {r : Nat} (hr : r ≤ 6) : XsOk (S ^ (r + 1) * S) (4 * (r + 2)) (4 * (r + 2)) ((mixA (L (r + 1)) zs (LA L zs r)).map kfOf) := by
  have hp := mix_low (L := L (r + 1)) h.toPosZ (LA_pos (L := L) h.toPosZ r)
  have hD := h.hasD.mix (L := L (r + 1)) h.toPosZ (LA_hasD (L := L) h.toPosZ h.hasD r) (LA_pos h.toPosZ r)
  have hS := S_pow h (r + 2)
  rw [Nat.pow_succ] at hS
  have key : ∀ z ∈ mixA (L (r + 1)) zs (LA L zs r), DenB (S ^ (r + 1) * S) (4 * (r + 2)) (rv z.2) := fun z hz => den_unit (hD z hz) (by have := hp.pos z hz; grind) (pos_le hp (mix_one h r) hz) hS.2
  refine ⟨fun x hx => ?_, fun x hx => ?_, fun x hx => ?_, by rw [List.length_map]; have := mix_len (L := L) h r; omega, hS, by omega, by omega⟩
  all_goals obtain ⟨z, hz, rfl⟩ := List.mem_map.mp hx
  · exact ⟨z.1, rfl⟩
  · exact ⟨hp.low z hz, (den_B (hp.low z hz) (key z hz) hS.1 hS.2 (show 4 * (r + 2) < 900 by omega) (by omega)).mono (by decide)⟩
  · exact key z hz
end den46

/-! ### what the drawn rows are -/
section rz46
open LamK
theorem share_sum {S : Int} (hS : S ≠ 0) : ∀ ns : List Int, sR (fun n => rv (lo n S)) ns = (ns.sum : Rat) / (S : Rat)
  | [] => by
    rw [sR_nil, List.sum_nil]
    have : ((0 : Int) : Rat) = 0 := by exact_mod_cast rfl
    rw [this]
    grind
  | n :: r => by
    rw [sR_cons, share_sum hS r, rv_lo hS, List.sum_cons]
    have e : ((n + r.sum : Int) : Rat) = (n : Rat) + (r.sum : Rat) := by exact_mod_cast rfl
    rw [e]
    grind
theorem num46 {g : Fr} (h : Num46 g) : Low g ∧ FrB 10 g ∧ DenB 6 6 (rv g) := by
  obtain ⟨u, v, rfl, h1, h2, h3, h4⟩ := h
  have hv : v ≠ 0 := by omega
  refine ⟨lo_low hv, lo_B hv (by omega) (by omega), ?_⟩
  rw [rv_lo hv]
  obtain ⟨k, hk, hk12⟩ : ∃ k : Int, v * k = 6 ∧ 1 ≤ k ∧ k ≤ 6 := by
    rcases (show v = 1 ∨ v = 2 ∨ v = 3 by omega) with rfl | rfl | rfl
    · exact ⟨6, rfl, by decide, by decide⟩
    · exact ⟨3, rfl, by decide, by decide⟩
    · exact ⟨2, rfl, by decide, by decide⟩
  refine ⟨u * k, ?_, ?_⟩
  · have e : ((u * k : Int) : Rat) = (u : Rat) * (k : Rat) := by exact_mod_cast rfl
    have e2 : ((6 : Nat) : Rat) = (v : Rat) * (k : Rat) := by
      have : ((6 : Int) : Rat) = (v : Rat) * (k : Rat) := by exact_mod_cast hk.symm
      exact this
    have hr := ratNe hv
    rw [e, e2]
    grind
  · rw [Int.natAbs_mul]
    have : u.natAbs * k.natAbs ≤ 7 * 6 := Nat.mul_le_mul (by omega) (by omega)
    exact Nat.le_trans this (by decide)
theorem rows_ok {ns : List Int} {ws : List (Fr × Fr)} (hN : NsOk ns) (hW : WsOk ns ws) : RowsZ ns.sum.toNat (gathZ ws) ∧ gathN (ws.map kfOf) = (gathZ ws).map kfOf := by
  have hs := sum_pos hN.each
  have hl := hN.len
  have hS : ns.sum ≠ 0 := by omega
  have hwl : ws.length = ns.length := by
    have := congrArg List.length hW.ch
    rwa [List.length_map, List.length_map] at this
  have hc := ws_ch (i := ns.length) hN.each (by rw [List.take_length]; exact hW.ch)
  have hT : ((ns.sum.toNat : Nat) : Rat) = (ns.sum : Rat) := by
    have : ((ns.sum.toNat : Nat) : Int) = ns.sum := by omega
    exact_mod_cast congrArg (fun z : Int => (z : Rat)) this
  have hp : PosZ ws := by
    refine ⟨fun z hz => ?_, fun z hz => ?_⟩
    all_goals obtain ⟨n, h1, h2, h3⟩ := hc z hz
    · rw [h3]; exact lo_low hS
    · rw [h3, rv_lo hS, Rat.div_def]
      exact Rat.mul_pos (ratPos (by omega)) (Rat.inv_pos.mpr (ratPos (by omega)))
  have hD : HasD ns.sum.toNat ws := fun z hz => by
    obtain ⟨n, h1, h2, h3⟩ := hc z hz
    refine ⟨n, ?_⟩
    rw [h3, rv_lo hS, hT]
    have hr := ratNe hS
    grind
  have h1 : sR (fun z => rv z.2) ws = 1 := by
    have e : sR (fun z : Fr × Fr => rv z.2) ws = sR rv (ws.map Prod.snd) := by rw [sR_map]
    rw [e, hW.ch, sR_map, share_sum hS]
    have hr := ratNe hS
    grind
  have hg := gathZ_pos hp
  have hg1 : sR (fun z => rv z.2) (gathZ ws) = 1 := by rw [gathZ_one hp.ne]; exact h1
  refine ⟨⟨⟨hg, fun z hz => ?_⟩, fun z hz => ?_, hg1, ?_, ⟨by omega, by omega⟩, fun z hz => ?_⟩, ?_⟩
  · obtain ⟨w, hw, e⟩ := gathZ_num hp.low z hz
    rw [e]
    exact (num46 (hW.num w hw)).1
  · exact den_unit (hD.gath hp.low z hz) (by have := hg.pos z hz; grind) (pos_le hg hg1 hz) (by omega)
  · have := gathZ_len ws
    omega
  · obtain ⟨w, hw, e⟩ := gathZ_num hp.low z hz
    rw [e]
    exact (num46 (hW.num w hw)).2
  · rw [gathN_pos (kf_low hp.low) (fun x hx => by
      obtain ⟨z, hz, rfl⟩ := List.mem_map.mp hx
      exact hp.pos z hz), gathZ_kf hp.ne]
end rz46

/-! ### what arrives, by the law -/
section larr46
variable {K : PySem.W.Frag}
open LamX hiding takes0
open LamK GT
abbrev LP := Int × Fr
def lpD (x : LP) : PyData := .tuple [.int x.1, frD x.2]
def LpAt (K : PySem.W.Frag) (H : Hp) (t : Addr) (x : LP) : Prop := ∃ b, H t = some (.tup [.int x.1, .ref b]) ∧ FrAt K H b x.2
def LpsAt (K : PySem.W.Frag) (H : Hp) (l : Addr) (ps : List LP) : Prop := ∃ ts : List Addr, H l = some (.lst (ts.map V.ref)) ∧ Paired (fun t x => LpAt K H t x) ts ps
theorem LpAt.kp0 {H H' : Hp} {t : Addr} {x : LP} (h : LpAt K H t x) (k : Kp [] H H') : LpAt K H' t x := let ⟨b, e, f⟩ := h; ⟨b, k.get nin0 e, f.kp0 k⟩
theorem LpsAt.kp0 {H H' : Hp} {l : Addr} {ps : List LP} (h : LpsAt K H l ps) (k : Kp [] H H') : LpsAt K H' l ps := by
  obtain ⟨ts, e, p⟩ := h
  refine ⟨ts, k.get nin0 e, ?_⟩
  clear e
  induction p with
  | nil => exact .nil
  | cons h1 h2 ih => exact .cons (LpAt.kp0 h1 k) ih
theorem LpAt.dp {H : Hp} {t : Addr} {x : LP} (h : LpAt K H t x) : Dp K H (.ref t) (lpD x) := by
  obtain ⟨b, e, f⟩ := h
  exact .tup (tupT e) (.cons (.int _) (.cons (dpF f) .nil))
theorem LpsAt.dp {H : Hp} {l : Addr} {ps : List LP} (h : LpsAt K H l ps) : Dp K H (.ref l) (.list (ps.map lpD)) := by
  obtain ⟨ts, e, p⟩ := h
  refine .lst (lstL e) ?_
  clear e
  induction p with
  | nil => exact .nil
  | cons h1 h2 ih => exact .cons (LpAt.dp h1) ih
theorem lp_eqv (x y : LP) : PyData.eqv (lpD x) (lpD y) = decide (x = y) := by
  rw [Bool.eq_iff_iff, decide_eq_true_iff, Prod.ext_iff]
  have h1 := eqv_fr x.2 y.2
  simp [lpD, PyData.eqv, PyData.eqvAll, h1]
theorem lp_any (ps : List LP) (x : LP) : ((ps.map lpD).any fun z => PyData.eqv z (lpD x)) = decide (x ∈ ps) := by
  rw [Bool.eq_iff_iff, decide_eq_true_iff, List.any_map, List.any_eq_true]
  refine ⟨fun ⟨y, hy, e⟩ => ?_, fun h => ⟨x, h, ?_⟩⟩
  · have e : PyData.eqv (lpD y) (lpD x) = true := e
    rw [lp_eqv] at e
    rw [← of_decide_eq_true e]
    exact hy
  · show PyData.eqv (lpD x) (lpD x) = true
    rw [lp_eqv]
    simp
theorem lp_lay : ∀ ps : List LP, PyData.canLayAll0 (ps.map lpD) = true ∧ PyData.depthAll (ps.map lpD) ≤ 4
  | [] => by simp [PyData.canLayAll0, PyData.depthAll]
  | x :: r => by
    obtain ⟨a, b⟩ := lp_lay r
    have h1 : PyData.canLay0 (lpD x) = true := by simp [lpD, frD, PyData.canLay0, PyData.canLayAll0]
    have h2 : (lpD x).depth ≤ 4 := by simp [lpD, frD, PyData.depth, PyData.depthAll]
    refine ⟨by rw [List.map_cons, PyData.canLayAll0, h1, a]; rfl, ?_⟩
    rw [List.map_cons, PyData.depthAll]
    omega
theorem lps_sh (ps : List LP) : SeqAt.shaped (.list (ps.map lpD)) = true := by
  obtain ⟨a, b⟩ := lp_lay ps
  simp only [SeqAt.shaped, PyData.canLay0, PyData.depth, a, Bool.true_and]
  exact decide_eq_true (by omega)
theorem lp_sh (x : LP) : SeqAt.shaped (lpD x) = true := by
  simp [SeqAt.shaped, lpD, frD, PyData.canLay0, PyData.canLayAll0, PyData.depth, PyData.depthAll]
def lostF (ps : List LP) (r : Nat) (g : Fr) : Bool := decide (((r : Int), g) ∈ ps)
theorem inLp {H : Hp} {Q : VK} {t l : Addr} {x : LP} {ps : List LP} (h : LpAt K H t x) (hl : LpsAt K H l ps) (q : Q (.bl (decide (x ∈ ps))) H) : rInD K (.ref t) (.ref l) H Q :=
  ⟨_, _, h.dp, hl.dp, lp_sh x, lps_sh ps, by rw [lp_any]; exact q⟩
def spLArr (K : PySem.W.Frag) (m : Nat) : Sp := fun vs H Q _ => ∃ (a l : Addr) (n S : Nat) (gs : List GRow) (zs : List (Fr × Fr)) (ps : List LP), vs = [.ref a, .int (n : Int), .ref l] ∧ n < m ∧ n ≤ 6 ∧ H a = some (.lst (gs.map GRow.r)) ∧ (∀ g ∈ gs, GRowAt K H g) ∧ gs.map GRow.kf = zs.map kfOf ∧ RowsZ S zs ∧ LpsAt K H l ps ∧
  ∀ (H' : Hp) (d : Addr) (out : List GRow), Kp [] H H' → H' d = some (.lst (out.map GRow.r)) → (∀ g ∈ out, GRowAt K H' g) → out.map GRow.kf = (LA (lostF ps) zs n).map kfOf → Q (.ref d) H'
theorem larr_rec {P : Program} {w : World} {K : PySem.W.Frag} {mg : Str → Option Value} {base : Heap} (T : T P K mg base) : ∀ m, FnOk P w K mg base CX0 (m + 4) T.a__law_arrived T.fd__law_arrived ["rows", "retries", "lost"] (spLArr K m)
  | 0 => by
    refine T.F__law_arrived.ok sc__law_arrived (fun vs H Q E h => ?_) (fun cdv A outer s H vs Q E hr h => ?_)
    · obtain ⟨a, l, n, S, gs, zs, ps, rfl, h0, _⟩ := h
      omega
    · obtain ⟨a, l, n, S, gs, zs, ps, rfl, h0, _⟩ := h
      omega
  | m + 1 => by
    have ih := larr_rec (w := w) (base := base) T m
    refine T.F__law_arrived.ok sc__law_arrived (fun vs H Q E h => ?_) (fun cdv A outer s H vs Q E hr h => ?_)
    · obtain ⟨a, l, n, S, gs, zs, ps, rfl, _⟩ := h
      rfl
    · obtain ⟨a, l, n, S, gs, zs, ps, rfl, hn, hn6, ha, hA, hkf, hZ, hL, q⟩ := h
      refine ⟨_, (pss_cons (ps_if (pt_cmpR op_eq (pv 1) pe_int (nomark _)) (pss_one (ps_ret (pv 0))) pss_nil)
      (pss_cons (ps_set (i := 3) sc__law_arrived.nd rfl (by first | exact Or.inl rfl | exact Or.inr rfl) (pe_call ih (hr.mono (by omega)) (by rfl) T.g__law_arrived T.F__law_arrived.kp T.b__law_arrived .nil pass0 (pa_cons (pv 0) (pa_cons (pe_op op_sub (pv 1) pe_int) (pa_cons (pv 2) pa_nil)))))
      (pss_cons (ps_set (i := 4) sc__law_arrived.nd rfl (by first | exact Or.inl rfl | exact Or.inr rfl) (pe_lst pa_nil))
      (pss_cons (ps_for PassesOwn.never rfl (pi_list (pv 0)) (pg_tup rfl (pgs_cons (pg_name (i := 5) sc__law_arrived.nd rfl (by first | exact Or.inl rfl | exact Or.inr rfl)) (pgs_cons (pg_name (i := 6) sc__law_arrived.nd rfl (by first | exact Or.inl rfl | exact Or.inr rfl)) pgs_nil))) (pss_one (ps_if (pt_cmpR (op_inD (Z.u65 hr) : OpR _ _ (rInD K)) (pe_tup (pa_cons (pv 1) (pa_cons (pv 5) pa_nil))) (pv 2) rfl) (pss_one (ps_set (i := 4) sc__law_arrived.nd rfl (by first | exact Or.inl rfl | exact Or.inr rfl) (pe_op op_cat (pv 4) (pe_lc (own := [("other", 7), ("share", 8)]) (g := gTup K 2 (gCons (gName 7) (gCons (gName 8) gNil))) rfl sc__law_arrived.nd (pi_list (pv 3)) (blkOk_by (own := [("other", 7), ("share", 8)]) (N := N__law_arrived) (sc := defScope s__law_arrived) (by decide +kernel)) (fun _ _ _ _ _ => (pg_tup rfl (pgs_cons (pg_name (i := 7) sc__law_arrived.nd rfl (by first | exact Or.inl rfl | exact Or.inr rfl)) (pgs_cons (pg_name (i := 8) sc__law_arrived.nd rfl (by first | exact Or.inl rfl | exact Or.inr rfl)) pgs_nil)))) (fun _ _ _ _ _ => pts_nil) (fun _ _ _ _ _ => (pe_tup (pa_cons (pv 7) (pa_cons (pe_call (ok__law_times T) (hr.mono (by omega)) (by rfl) T.g__law_times T.F__law_times.kp T.b__law_times .nil pass0 (pa_cons (pv 6) (pa_cons (pv 8) pa_nil))) pa_nil)))))))) (pss_one (ps_expr (pe_bm PySem.F.plainAttrs_list PySem.F.slot_list_append PySem.F.type_list_append mt_append (pv 4) (pa_cons (pe_tup (pa_cons (pv 5) (pa_cons (pv 6) pa_nil))) pa_nil)))))))
      (pss_one (ps_ret (pe_call (ok__law_gathered T) (hr.mono (by omega)) (by rfl) T.g__law_gathered T.F__law_gathered.kp T.b__law_gathered .nil pass0 (pa_cons (pv 4) pa_nil)))))))), ?_⟩
      walk_at "z0"
      walk_at "z"
      cases n with
      | zero =>
        rw [decide_eq_true (show ((0 : Nat) : Int) = 0 from rfl)]
        walk_at "z"
        exact q H a gs (Kp.refl _) ha hA hkf
      | succ n =>
        rw [decide_eq_false (show ¬ ((n + 1 : Nat) : Int) = 0 by omega)]
        walk_at "z"
        rw [show ((n + 1 : Nat) : Int) - 1 = (n : Int) by omega]
        refine ⟨a, l, n, S, gs, zs, ps, rfl, by omega, by omega, ha, hA, hkf, hZ, hL, fun H1 d1 out1 k1 e1 A1 m1 => ?_⟩
        have hWn := LA_len (L := lostF ps) hZ n
        have hWc := LA_ch (L := lostF ps) hZ n
        have hzl := hZ.len
        have hgl : gs.length = zs.length := by
          have := congrArg List.length hkf
          rwa [List.length_map, List.length_map] at this
        have hol : out1.length ≤ 3 := by
          have := congrArg List.length m1
          rw [List.length_map, List.length_map] at this
          omega
        walk_at "z"
        refine Z.lstK (fun F H2 nF k2 e2 => ?_)
        have k12 := k1.trans k2
        walk_at "z"
        refine Z.forl (gs.map GRow.r) (lstL (k12.get nin0 ha)) (fun i σ' H' => ∃ (y5 y6 y7 y8 : Option V) (F : Addr) (res : List GRow), σ' = [some (.ref a), some (.int ((n + 1 : Nat) : Int)), some (.ref l), some (.ref d1), some (.ref F), y5, y6, y7, y8] ∧ Kp [] H1 H' ∧ H1 F = none ∧ H' F = some (.lst (res.map GRow.r)) ∧ (∀ g ∈ res, GRowAt K H' g) ∧ res.map GRow.kf = (mixA (lostF ps (n + 1)) (zs.take i) (LA (lostF ps) zs n)).map kfOf ∧ res.length ≤ 3 * i) ?_ ?_ ?_ ?_
        · exact ⟨_, _, _, _, F, [], rfl, k2, nF, e2, by simp, rfl, by simp⟩
        · rintro i σ' H3 hi ⟨y5, y6, y7, y8, F', res, rfl, k3, _⟩
          exact lstL ((k1.trans k3).get nin0 ha)
        · rintro i v σ' H3 hv ⟨y5, y6, y7, y8, F', res, rfl, k3, nF', eF, A3, m3, l3⟩
          rw [List.getElem?_map] at hv
          obtain ⟨g, hg, rfl⟩ := Option.map_eq_some_iff.mp hv
          have hgm := List.mem_of_getElem? hg
          have hil := (List.getElem?_eq_some_iff.mp hg).1
          have k13 := k1.trans k3
          have hgA := (hA g hgm).kp0 k13
          obtain ⟨z, hz, ez⟩ : ∃ z, zs[i]? = some z ∧ g.kf = kfOf z := by
            have h9 : (gs.map GRow.kf)[i]? = some g.kf := by rw [List.getElem?_map, hg]; rfl
            rw [hkf, List.getElem?_map] at h9
            obtain ⟨z, hz, e⟩ := Option.map_eq_some_iff.mp h9
            exact ⟨z, hz, e.symm⟩
          have hzm := List.mem_of_getElem? hz
          have ek : g.k = keyOf z.1 := congrArg Prod.fst ez
          have ef : g.f = z.2 := congrArg Prod.snd ez
          have hmix : mixA (lostF ps (n + 1)) (zs.take (i + 1)) (LA (lostF ps) zs n) = mixA (lostF ps (n + 1)) (zs.take i) (LA (lostF ps) zs n) ++ (if lostF ps (n + 1) z.1 = true then (LA (lostF ps) zs n).map (fun o => (o.1, ftimes z.2 o.2)) else [z]) := by
            unfold mixA
            rw [List.take_add_one, hz, List.flatMap_append]
            show _ ++ (_ ++ []) = _
            rw [List.append_nil]
          refine Z.gtup hgA.tup rfl ?_
          walk_at "z"
          refine Z.tupK (fun t H4 nt k4 e4 => ?_)
          have k14 := k13.trans k4
          have hkey : FrAt K H4 g.b z.1 := by
            have h9 := (hgA.kp0 k4).key
            rw [ek] at h9
            exact tupT h9
          walk_at "z"
          refine inLp (x := (((n + 1 : Nat) : Int), z.1)) ⟨g.b, e4, hkey⟩ (hL.kp0 k14) ?_
          by_cases hlo : lostF ps (n + 1) z.1 = true
          · have hlo2 : ((((n + 1 : Nat) : Int), z.1) : LP) ∈ ps := of_decide_eq_true hlo
            rw [decide_eq_true hlo2]
            walk_at "z"
            have e14 := (k3.trans k4).get nin0 e1
            refine Z.lcl (out1.map GRow.r) (lstL e14) (fun D j H' => ∃ res2 : List GRow, Kp [] H4 H' ∧ H' D = some (.lst (res2.map GRow.r)) ∧ (∀ g ∈ res2, GRowAt K H' g) ∧ res2.map GRow.kf = (((LA (lostF ps) zs n).take j).map fun o => (o.1, ftimes z.2 o.2)).map kfOf ∧ res2.length = j) ?_ ?_ ?_ ?_
            · intro D H5 nD k5 e5
              exact ⟨[], k5, e5, by simp, by simp, rfl⟩
            · rintro D j H5 nD hj ⟨res2, k5, _⟩
              exact lstL (k5.get nin0 e14)
            · rintro D j v H5 nD hv ⟨res2, k5, e5, A5, m5, l5⟩
              rw [List.getElem?_map] at hv
              obtain ⟨o, ho, rfl⟩ := Option.map_eq_some_iff.mp hv
              have hjl := (List.getElem?_eq_some_iff.mp ho).1
              have oA := (A1 o (List.mem_of_getElem? ho)).kp0 ((k3.trans k4).trans k5)
              obtain ⟨u, hu, eu⟩ : ∃ u, (LA (lostF ps) zs n)[j]? = some u ∧ o.kf = kfOf u := by
                have h9 : (out1.map GRow.kf)[j]? = some o.kf := by rw [List.getElem?_map, ho]; rfl
                rw [m1, List.getElem?_map] at h9
                obtain ⟨u, hu, e⟩ := Option.map_eq_some_iff.mp h9
                exact ⟨u, hu, e.symm⟩
              have ouk : o.k = keyOf u.1 := congrArg Prod.fst eu
              have ouf : o.f = u.2 := congrArg Prod.snd eu
              obtain ⟨c1, c2, c3⟩ := hWc u (List.mem_of_getElem? hu)
              have zl := hZ.low z hzm
              have zB : FrB 5 z.2 := den_B zl (hZ.den z hzm) hZ.S1.1 hZ.S1.2 (by decide) (by decide)
              dsimp only [wipe, List.set]
              refine Z.gtup oA.tup rfl ?_
              walk_at "z"
              refine ⟨rfl, ?_⟩
              walk_at "z"
              refine ⟨g.c, o.c, z.2, u.2, rfl, by rw [← ef]; exact hgA.fr.kp0 (k4.trans k5), by rw [← ouf]; exact oA.fr, zl.1, c1.1, ⟨5, 4 * (n + 1) + 1, zB, c3, by omega⟩, fun H6 c6 n6 k6 e6 => ?_⟩
              walk_at "z"
              refine Z.tupK (fun t7 H7 n7 k7 e7 => ?_)
              have e7D := (k6.trans k7).get nin0 e5
              have oA7 := oA.kp0 (k6.trans k7)
              have hrow : GRowAt K H7 ⟨t7, o.b, o.k, c6, ftimes z.2 u.2⟩ := ⟨tupT e7, oA7.key, e6.kp0 k7, oA7.ok⟩
              have kD : Kp [D] H7 (upd H7 D (.lst (res2.map GRow.r ++ [.ref t7]))) := Kp.put (by simp)
              have nt2 := noT e7D (fun xs => ⟨by simp, by simp⟩)
              refine ⟨_, e7D, Z.szl (m := 1000) (by rw [List.length_map]; omega), res2 ++ [⟨t7, o.b, o.k, c6, ftimes z.2 u.2⟩], (k5.trans (k6.trans k7)).mut nD rfl, by rw [upd_same, List.map_append]; rfl, fun x hx => ?_, ?_, by rw [List.length_append, l5]; rfl⟩
              · rcases List.mem_append.mp hx with hx | hx
                · exact ((A5 x hx).kp0 (k6.trans k7)).kpM kD nt2
                · rw [List.mem_singleton.mp hx]
                  exact hrow.kpM kD nt2
              · rw [List.map_append, m5, List.take_add_one, hu, List.map_append, List.map_append]
                show _ ++ [(o.k, ftimes z.2 u.2)] = _ ++ [kfOf (u.1, ftimes z.2 u.2)]
                rw [ouk]
                rfl
            · rintro D H5 nD ⟨res2, k5, e5, A5, m5, l5⟩
              have hol2 : out1.length = (LA (lostF ps) zs n).length := by
                have := congrArg List.length m1
                rwa [List.length_map, List.length_map] at this
              rw [List.length_map] at m5 l5
              rw [hol2, List.take_length] at m5
              have eF5 := (k4.trans k5).get nin0 eF
              refine Z.cat (xs := res.map GRow.r) (zs := res2.map GRow.r) eF5 e5 (by rw [List.length_map, List.length_map]; omega) (fun F2 H6 n6 k6 e6 => ?_)
              have k36 := (k3.trans (k4.trans k5)).trans k6
              walk_at "z"
              refine ⟨_, _, _, _, F2, res ++ res2, rfl, k36, (k3.trans (k4.trans k5)).none nin0 n6, by rw [e6, List.map_append], fun x hx => ?_, ?_, by rw [List.length_append]; omega⟩
              · rcases List.mem_append.mp hx with hx | hx
                · exact (A3 x hx).kp0 ((k4.trans k5).trans k6)
                · exact (A5 x hx).kp0 k6
              · rw [hmix, if_pos hlo, List.map_append, List.map_append, m3, m5]
          · have hlo2 : ¬ ((((n + 1 : Nat) : Int), z.1) : LP) ∈ ps := fun h => hlo (decide_eq_true h)
            rw [decide_eq_false hlo2]
            walk_at "z"
            have eF4 := k4.get nin0 eF
            refine ⟨Z.tyL eF4, ?_⟩
            walk_at "z"
            refine Z.tupK (fun t5 H5 nt5 k5 e5 => ?_)
            have eF5 := k5.get nin0 eF4
            walk_at "z"
            refine Z.app eF5 (Z.szl (m := 1000) (by rw [List.length_map]; omega)) ?_
            have hrow : GRowAt K H5 ⟨t5, g.b, g.k, g.c, g.f⟩ := ⟨tupT e5, (hgA.kp0 (k4.trans k5)).key, (hgA.kp0 (k4.trans k5)).fr, hgA.ok⟩
            have kF : Kp [F'] H5 (upd H5 F' (.lst (res.map GRow.r ++ [.ref t5]))) := Kp.put (by simp)
            have nt2 := noT eF5 (fun xs => ⟨by simp, by simp⟩)
            refine ⟨_, _, _, _, F', res ++ [⟨t5, g.b, g.k, g.c, g.f⟩], rfl, ((k3.trans k4).trans k5).mut nF' rfl, nF', by rw [upd_same, List.map_append]; rfl, fun x hx => ?_, ?_, by rw [List.length_append]; simp; omega⟩
            · rcases List.mem_append.mp hx with hx | hx
              · exact ((A3 x hx).kp0 (k4.trans k5)).kpM kF nt2
              · rw [List.mem_singleton.mp hx]
                exact hrow.kpM kF nt2
            · rw [hmix, if_neg hlo, List.map_append, List.map_append, m3]
              show _ ++ [g.kf] = _ ++ [kfOf z]
              rw [ez]
        · rintro σ' H3 ⟨y5, y6, y7, y8, F', res, rfl, k3, nF', eF, A3, m3, l3⟩
          rw [List.length_map, hgl, List.take_length] at m3
          walk_at "z"
          have hX := mix_xs (L := lostF ps) hZ (show n ≤ 6 by omega)
          refine ⟨F', res, rfl, lstL eF, A3, by rw [m3]; exact hX.gath, fun H4 d4 out4 nd4 k4 e4 A4 m4 => ?_⟩
          rw [m3] at m4
          walk_at "z"
          have hp := mix_low (L := lostF ps (n + 1)) hZ.toPosZ (LA_pos (L := lostF ps) hZ.toPosZ n)
          refine q H4 d4 out4 ((k1.trans k3).trans k4) e4 A4 ?_
          rw [m4, gathN_pos (kf_low hp.low) (fun x hx => by
            obtain ⟨z, hz, rfl⟩ := List.mem_map.mp hx
            exact hp.pos z hz), ← gathZ_kf hp.ne]
          rfl
end larr46

/-! ### what arrived hands to law_from -/
section next46
open LamK
theorem HasD.next {D E : Nat} {L : Fr → Bool} {zs W : List (Fr × Fr)} (h : HasD E zs) (hz : PosZ zs) (h1 : sR (fun z => rv z.2) zs = 1) (hW : HasD D W) (hW2 : PosZ W) : HasD (D * E) (nextA L zs W) := fun y hy => by
  have e1 : ((D * E : Nat) : Rat) = (D : Rat) * (E : Rat) := by exact_mod_cast rfl
  obtain ⟨ag, av⟩ := rv_again (L := L) hz h1
  obtain ⟨k, hk⟩ : ∃ k : Int, rv (againA L zs) * (E : Rat) = (k : Rat) := by
    rw [av]
    unfold sR
    refine den_sum fun x hx => ?_
    obtain ⟨z, hzm, rfl⟩ := List.mem_map.mp hx
    split
    · exact h z hzm
    · exact ⟨0, by rw [show ((0 : Int) : Rat) = 0 from rfl]; grind⟩
  unfold nextA at hy
  rcases List.mem_append.mp hy with hy | hy
  · obtain ⟨j, hj⟩ := h y (List.mem_filter.mp hy).1
    refine ⟨j * (D : Int), ?_⟩
    have e2 : ((j * (D : Int) : Int) : Rat) = (j : Rat) * (D : Rat) := by exact_mod_cast rfl
    rw [e1, e2, ← hj]
    grind
  · obtain ⟨o, ho, rfl⟩ := List.mem_map.mp hy
    obtain ⟨j, hj⟩ := hW o ho
    refine ⟨k * j, ?_⟩
    show rv (ftimes (againA L zs) o.2) * _ = _
    have e2 : ((k * j : Int) : Rat) = (k : Rat) * (j : Rat) := by exact_mod_cast rfl
    rw [rv_ftimes ag.ne (hW2.ne o ho), e1, e2, ← hk, ← hj]
    grind
theorem kept_nonneg {L : Fr → Bool} {zs : List (Fr × Fr)} (h : PosZ zs) : 0 ≤ sR (fun z => rv z.2) (keptA L zs) := by
  unfold sR
  refine ratsum_nonneg fun r hr => ?_
  obtain ⟨z, hz, rfl⟩ := List.mem_map.mp hr
  have := h.pos z (List.mem_filter.mp hz).1
  grind
theorem again_unit {L : Fr → Bool} {zs : List (Fr × Fr)} (h : PosZ zs) (h1 : sR (fun z => rv z.2) zs = 1) : 0 ≤ rv (againA L zs) ∧ rv (againA L zs) ≤ 1 := by
  obtain ⟨ag, av⟩ := rv_again (L := L) h h1
  have e := sR_ite (L := L) (f := fun z => rv z.2) zs
  rw [h1, ← av] at e
  have k0 := kept_nonneg (L := L) h
  refine ⟨?_, by grind⟩
  rw [av]
  unfold sR
  refine ratsum_nonneg fun r hr => ?_
  obtain ⟨z, hz, rfl⟩ := List.mem_map.mp hr
  have := h.pos z hz
  split <;> grind
theorem next_unit {L : Fr → Bool} {zs W : List (Fr × Fr)} (h : PosZ zs) (h1 : sR (fun z => rv z.2) zs = 1) (hW : PosZ W) (hW1 : sR (fun z => rv z.2) W = 1) : ∀ z ∈ nextA L zs W, 0 ≤ rv z.2 ∧ rv z.2 ≤ 1 := fun y hy => by
  unfold nextA at hy
  rcases List.mem_append.mp hy with hy | hy
  · have hm := (List.mem_filter.mp hy).1
    have := h.pos y hm
    have := pos_le h h1 hm
    grind
  · obtain ⟨o, ho, rfl⟩ := List.mem_map.mp hy
    obtain ⟨a0, a1⟩ := again_unit (L := L) h h1
    have o0 := hW.pos o ho
    have o1 := pos_le hW hW1 ho
    show 0 ≤ rv (ftimes (againA L zs) o.2) ∧ rv (ftimes (againA L zs) o.2) ≤ 1
    rw [rv_ftimes (rv_again (L := L) h h1).1.ne (hW.ne o ho)]
    have m1 := Rat.mul_nonneg a0 (show 0 ≤ rv o.2 by grind)
    have m2 := Rat.mul_le_mul_of_nonneg_right a1 (show 0 ≤ rv o.2 by grind)
    grind
theorem next_one {L : Fr → Bool} {zs W : List (Fr × Fr)} (h : PosZ zs) (h1 : sR (fun z => rv z.2) zs = 1) (hW : PosZ W) (hW1 : sR (fun z => rv z.2) W = 1) : sR (fun z => rv z.2) (nextA L zs W) = 1 := by
  have e : ∀ l : List (Fr × Fr), sR (fun z => (fun _ : Fr => (1 : Rat)) z.1 * rv z.2) l = sR (fun z => rv z.2) l := fun l => sR_congr fun z _ => by show 1 * rv z.2 = _; grind
  have h2 := next_sum (L := L) h h1 hW (fun _ => (1 : Rat))
  rw [e, e, e, hW1] at h2
  rw [h2]
  have h3 := sR_ite (L := L) (f := fun z => rv z.2) zs
  rw [h1] at h3
  grind
theorem next_len {S : Nat} {L : Nat → Fr → Bool} {zs : List (Fr × Fr)} (h : RowsZ S zs) (r : Nat) : (nextA (L (r + 1)) zs (LA L zs r)).length ≤ 6 := by
  have := LA_len (L := L) h r
  have := h.len
  have h3 : (keptA (L (r + 1)) zs).length ≤ zs.length := List.length_filter_le _ _
  unfold nextA
  rw [List.length_append, List.length_map]
  omega
theorem next_xs {S : Nat} {L : Nat → Fr → Bool} {zs : List (Fr × Fr)} (h : RowsZ S zs) {r : Nat} (hr : r ≤ 6) : XsOk (S ^ (r + 1) * S) (4 * (r + 2)) (4 * (r + 2)) ((nextA (L (r + 1)) zs (LA L zs r)).map kfOf) := by
  have hW := LA_pos (L := L) h.toPosZ r
  have hW1 := LA_one (L := L) h.toPosZ h.one r
  have hl := next_low (L := L (r + 1)) h.toPosZ h.one hW
  have hD := h.hasD.next (L := L (r + 1)) h.toPosZ h.one (LA_hasD (L := L) h.toPosZ h.hasD r) hW
  have hu := next_unit (L := L (r + 1)) h.toPosZ h.one hW hW1
  have hS := S_pow h (r + 2)
  rw [Nat.pow_succ] at hS
  have key : ∀ z ∈ nextA (L (r + 1)) zs (LA L zs r), DenB (S ^ (r + 1) * S) (4 * (r + 2)) (rv z.2) := fun z hz => den_unit (hD z hz) (hu z hz).1 (hu z hz).2 hS.2
  refine ⟨fun x hx => ?_, fun x hx => ?_, fun x hx => ?_, by rw [List.length_map]; have := next_len (L := L) h r; omega, hS, by omega, by omega⟩
  all_goals obtain ⟨z, hz, rfl⟩ := List.mem_map.mp hx
  · exact ⟨z.1, rfl⟩
  · exact ⟨hl z hz, (den_B (hl z hz) (key z hz) hS.1 hS.2 (show 4 * (r + 2) < 900 by omega) (by omega)).mono (by decide)⟩
  · exact key z hz
/-- chances that are none below zero and add up to one are taken -/
theorem ch_taken {fs : List Fr} (h : ∀ f ∈ fs, Low f ∧ 0 ≤ rv f) (h1 : sR rv fs = 1) : chOkB fs = true := by
  unfold chOkB
  have hs := rv_fsum (fs := fs) low01 fun f hf => (h f hf).1.ne
  have e : fsum (0, 1) fs = (1, 1) := by
    refine low_eq hs.2 ⟨by decide, by decide⟩ ?_
    have h2 : (fs.map rv).sum = 1 := h1
    rw [hs.1, rv_zero, h2]
    have : rv (1, 1) = 1 := by unfold rv; grind
    rw [this]
    grind
  rw [e, decide_eq_true rfl, Bool.and_true]
  refine List.all_eq_true.mpr fun f hf => ?_
  rw [fless_iff (h f hf).1.1 (by decide), rv_zero]
  rw [decide_eq_false (Rat.not_lt.mpr (h f hf).2)]
  rfl
theorem next_taken {S : Nat} {L : Nat → Fr → Bool} {zs : List (Fr × Fr)} (h : RowsZ S zs) (r : Nat) : chOkB ((nextA (L (r + 1)) zs (LA L zs r)).map Prod.snd) = true := by
  have hW := LA_pos (L := L) h.toPosZ r
  have hW1 := LA_one (L := L) h.toPosZ h.one r
  refine ch_taken (fun f hf => ?_) ?_
  · obtain ⟨z, hz, rfl⟩ := List.mem_map.mp hf
    exact ⟨next_low h.toPosZ h.one hW z hz, (next_unit h.toPosZ h.one hW hW1 z hz).1⟩
  · rw [sR_map]
    exact next_one h.toPosZ h.one hW hW1
theorem next_law {S : Nat} {L : Nat → Fr → Bool} {zs : List (Fr × Fr)} (h : RowsZ S zs) {r : Nat} (hr : r ≤ 6) : LawD (((nextA (L (r + 1)) zs (LA L zs r)).map kfOf).map emb) ∧ lawDF (((nextA (L (r + 1)) zs (LA L zs r)).map kfOf).map emb) = ((LA L zs (r + 1)).map kfOf).map emb := by
  have hx := next_xs (L := L) h hr
  have hW := LA_pos (L := L) h.toPosZ r
  refine ⟨hx.law, ?_⟩
  rw [lawDF_gath fun x hx2 => (hx.low x hx2).1, ← gathZ_kf (fun z hz => (next_low h.toPosZ h.one hW z hz).ne), next_mix h.toPosZ h.one hW]
  rfl
/-- the chances that are kept, and what comes again -/
theorem kept_sum {S : Nat} {L : Fr → Bool} {zs : List (Fr × Fr)} (h : RowsZ S zs) : SumOk ((keptA L zs).map Prod.snd) ∧ (fsum (0, 1) ((keptA L zs).map Prod.snd)).2 ≠ 0 ∧ FrB 3900 (fsum (0, 1) ((keptA L zs).map Prod.snd)) := by
  have h1 : SumOk ((keptA L zs).map Prod.snd) := fs_sumOk (D := S) (n := 4) (d := 4) (by
    rw [List.length_map]
    have h2 := h.len
    have h3 : (keptA L zs).length ≤ zs.length := List.length_filter_le _ _
    omega) (fun f hf => by
      obtain ⟨z, hz, rfl⟩ := List.mem_map.mp hf
      have hm := (List.mem_filter.mp hz).1
      exact ⟨h.low z hm, h.den z hm⟩) h.S1 (by decide) (by decide)
  have h2 := h1.2 ((keptA L zs).map Prod.snd).length
  rw [List.take_length] at h2
  exact ⟨h1, h2.2, h2.1⟩
theorem again_B {S : Nat} {L : Fr → Bool} {zs : List (Fr × Fr)} (h : RowsZ S zs) : FrB 10 (againA L zs) := by
  obtain ⟨ag, av⟩ := rv_again (L := L) h.toPosZ h.one
  have hu := again_unit (L := L) h.toPosZ h.one
  have hD : ∃ k : Int, rv (againA L zs) * (S : Rat) = (k : Rat) := by
    rw [av]
    unfold sR
    refine den_sum fun x hx => ?_
    obtain ⟨z, hzm, rfl⟩ := List.mem_map.mp hx
    split
    · exact h.hasD z hzm
    · exact ⟨0, by rw [show ((0 : Int) : Rat) = 0 from rfl]; grind⟩
  exact den_B ag (den_unit hD hu.1 hu.2 h.S1.2) h.S1.1 h.S1.2 (by decide) (by decide)
end next46

/-! steps -/
section steps
open ND
variable {w : World} {K : PySem.W.Frag} {td ty tx tv : TE} {σ : L2.St} {H : Hp} {Q : VK}
theorem NDS.dget {Q : VK} (h : td σ H fun x H1 => ty σ H1 fun y H2 => ∃ a kvs k v, x = .ref a ∧ DN w K H2 a kvs ∧ NkAt K H2 k y ∧ valV kvs k = some v ∧ Q v H2) : tDGetN w K td ty σ H Q := h
theorem NDS.din {Q : VK} (h : ty σ H fun y H1 => td σ H1 fun x H2 => ∃ a kvs k, x = .ref a ∧ DN w K H2 a kvs ∧ NkAt K H2 k y ∧ Q (.bl (valV kvs k).isSome) H2) : tDInN w K ty td σ H Q := h
theorem NDS.dnotin {Q : VK} (h : ty σ H fun y H1 => td σ H1 fun x H2 => ∃ a kvs k, x = .ref a ∧ DN w K H2 a kvs ∧ NkAt K H2 k y ∧ Q (.bl (!(valV kvs k).isSome)) H2) : tDNotInN w K ty td σ H Q := h
theorem NDS.dget2 {Q : VK} (h : td σ H fun x H1 => ∃ a, x = .ref a ∧ (∃ kvs, DN w K H1 a kvs) ∧ ty σ H1 fun y H2 => tx σ H2 fun z H3 => ∃ kvs k, DN w K H3 a kvs ∧ NkAt K H3 k y ∧ Q ((valV kvs k).getD z) H3) : tDGet2N w K td ty tx σ H Q := h
theorem NDS.dget1 {Q : VK} (h : td σ H fun x H1 => ∃ a, x = .ref a ∧ (∃ kvs, DN w K H1 a kvs) ∧ ty σ H1 fun y H2 => ∃ kvs k, DN w K H2 a kvs ∧ NkAt K H2 k y ∧ Q ((valV kvs k).getD .non) H2) : tDGet1N w K td ty σ H Q := h
theorem NDS.dput {D : Ends} (h : tv σ H fun v H1 => td σ H1 fun x H2 => ty σ H2 fun y H3 => ∃ a, x = .ref a ∧ DPutN w K H3 a y v fun H4 => D.nx σ H4) : sDPutN w K td ty tv D σ H := h
end steps

local macro_rules | `(tactic| walk_at "z1") => `(tactic| first
  | with_reducible refine NDS.dget ?_
  | with_reducible refine NDS.din ?_
  | with_reducible refine NDS.dnotin ?_
  | with_reducible refine NDS.dget2 ?_
  | with_reducible refine NDS.dget1 ?_
  | with_reducible refine NDS.dput ?_)

/-! ### arrived -/
section dcl
open ND
variable {w : World} {K : PySem.W.Frag} {H : Hp} {Q : VK} {σ : L2.St}
def DcK (w : World) (K : PySem.W.Frag) (g : TG) (tt : TT) (tk tv : TE) (vs : List Nat) (σ : L2.St) (Q : VK) (J : It) (H1 : Hp) : Prop := ∀ D HD, H1 D = none → Kp [] H1 HD → DN w K HD D [] → (∃ o, HD = upd H1 D o) → ∃ W : Nat → Nat → Hp → Prop, (∃ m, W 0 m HD) ∧ ∀ i m Ha, W i m Ha →
  (J.stop i Ha ∧ Q (.ref D) Ha) ∨ (J.go i Ha ∧ ∃ Nx : Hp → Prop, (∀ Hb, Nx Hb → ∃ m', m' < m ∧ W (i + 1) m' Hb) ∧ ∀ x Hb, J.yld i Ha x Hb → g x (wipe σ vs) Hb fun σ2 H2 => wipe σ2 vs = wipe σ vs ∧ tt σ2 H2 fun b H3 =>
    if b = true then tk σ2 H3 fun y H4 => tv σ2 H4 fun z H5 => DPutN w K H5 D y z Nx else Nx H3)
theorem dcn {wi : TI} {g : TG} {tt : TT} {tk tv : TE} {vs : List Nat} (h : wi σ H (DcK w K g tt tk tv vs σ Q)) : tDcN w K wi g tt tk tv vs σ H Q := h
theorem dcl {g : TG} {tt : TT} {tk tv : TE} {vs : List Nat} {a : Addr} (xs : List V) (hS : SqL K H a xs) (Pv : Addr → Nat → Hp → Prop) (h0 : ∀ D H1, H D = none → Kp [] H H1 → DN w K H1 D [] → Pv D 0 H1)
    (hl : ∀ D i H1, H D = none → i ≤ xs.length → Pv D i H1 → SqL K H1 a xs)
    (hs : ∀ D i x H1, H D = none → xs[i]? = some x → Pv D i H1 → g x (wipe σ vs) H1 fun σ2 H2 => wipe σ2 vs = wipe σ vs ∧ tt σ2 H2 fun b H3 => if b = true then tk σ2 H3 fun y H4 => tv σ2 H4 fun z H5 => DPutN w K H5 D y z (Pv D (i + 1)) else Pv D (i + 1) H3)
    (hd : ∀ D H1, H D = none → Pv D xs.length H1 → Q (.ref D) H1) : ListK K (DcK w K g tt tk tv vs σ Q) (.ref a) H := by
  refine ⟨a, rfl, ⟨xs, hS⟩, fun D HD hD kD dD _ => ?_⟩
  refine ⟨fun i m H => m = xs.length - i ∧ i ≤ xs.length ∧ Pv D i H, ⟨xs.length, by simp, Nat.zero_le _, h0 D HD hD kD dD⟩, ?_⟩
  rintro i m Ha ⟨rfl, hi, p⟩
  have q := hl D i Ha hD hi p
  by_cases hlt : i < xs.length
  · refine .inr ⟨⟨xs, xs[i], q, by simp [hlt]⟩, Pv D (i + 1), fun H' p' => ⟨xs.length - (i + 1), by omega, rfl, hlt, p'⟩, fun x Hb y => ?_⟩
    have e1 := y.1
    have e2 := y.2 xs q
    rw [e1]
    exact hs D i x Ha hD e2 p
  · have e : i = xs.length := by omega
    subst e
    exact .inl ⟨⟨xs, q, Nat.le_refl _⟩, hd D Ha hD p⟩
end dcl
local macro_rules | `(tactic| walk_at "z1") => `(tactic| with_reducible refine dcn ?_)
section arrp46
variable {K : PySem.W.Frag}
open LamX hiding takes0
open LamK ND
/-! rows along frames that change tables -/
theorem FrAt.ext {H H' : Hp} {a : Addr} {f : Fr} (h : FrAt K H a f) (e : ExtN H H') : FrAt K H' a f := ext_tup e h
theorem PRowAt.ext {H H' : Hp} {p : PRow} (h : PRowAt K H p) (e : ExtN H H') : PRowAt K H' p := ⟨ext_tup e h.tup, FrAt.ext h.num e, FrAt.ext h.fr e⟩
theorem PRows.ext {H H' : Hp} {D : Addr} {zs : List (Fr × Fr)} (h : PRows K H D zs) (k : ExtN H H') : PRows K H' D zs := let ⟨ps, e, A, v⟩ := h; ⟨ps, ext_get k e, fun p hp => (A p hp).ext k, v⟩
theorem LpAt.ext {H H' : Hp} {t : Addr} {x : LP} (h : LpAt K H t x) (k : ExtN H H') : LpAt K H' t x := let ⟨b, e, f⟩ := h; ⟨b, ext_get k e, FrAt.ext f k⟩
theorem LpsAt.ext {H H' : Hp} {l : Addr} {ps : List LP} (h : LpsAt K H l ps) (k : ExtN H H') : LpsAt K H' l ps := by
  obtain ⟨ts, e, p⟩ := h
  refine ⟨ts, ext_get k e, ?_⟩
  clear e
  induction p with
  | nil => exact .nil
  | cons h1 h2 ih => exact .cons (LpAt.ext h1 k) ih
theorem nk_ext {H H' : Hp} {k : NK} {v : V} (h : NkAt K H k v) (e : ExtN H H') : NkAt K H' k v := ⟨ext_dp e _ h.1, h.2⟩
theorem dn_ext {w : World} {H H' : Hp} {d : Addr} {kvs : List (NK × V)} (h : DN w K H d kvs) (e : ExtN H H') : DN w K H' d kvs := by
  obtain ⟨xs, h1, e1, h2⟩ := h
  exact ⟨xs, ext_get e h1, e1, fun x hx => nk_ext (h2 x hx) e⟩
def PRow.l (p : PRow) : LRow := ⟨p.a, .ref p.b, frD p.g, p.c, p.f⟩
theorem PRowAt.l {H : Hp} {p : PRow} (h : PRowAt K H p) : LRowAt K H p.l := ⟨h.tup, dpF h.num, h.fr, key_ok (k := keyOf p.g) (by simp [keyOf])⟩
theorem prow_l (ps : List PRow) : ps.map PRow.r = (ps.map PRow.l).map LRow.r := by rw [List.map_map]; rfl
theorem prow_ld (ps : List PRow) : (ps.map PRow.l).map LRow.dat = ((ps.map PRow.v).map kfOf).map emb := by rw [List.map_map, List.map_map, List.map_map]; rfl
theorem prow_f (ps : List PRow) : (ps.map PRow.l).map LRow.f = (ps.map PRow.v).map Prod.snd := by rw [List.map_map, List.map_map]; rfl
/-- a pair (left, number) as a key -/
def nkL (x : LP) : NK := .tup [.num x.1, .tup [.num x.2.1, .num x.2.2]]
theorem nkL_inj {x y : LP} (h : nkL x = nkL y) : x = y := by
  unfold nkL at h
  injection h with h
  injection h with h1 h2
  injection h1 with h1
  injection h2 with h2 _
  injection h2 with h2
  injection h2 with h3 h4
  injection h3 with h3
  injection h4 with h4 _
  injection h4 with h4
  exact Prod.ext h1 (Prod.ext h3 h4)
theorem LpAt.nk {H : Hp} {t : Addr} {x : LP} (h : LpAt K H t x) : NkAt K H (nkL x) (.ref t) := ⟨h.dp, by show NestedKey.depth (nkL x) ≤ 8; unfold nkL; simp [NestedKey.depth, NestedKey.depthAll], ⟨_, rfl⟩⟩
theorem LpsAt.get {H : Hp} {l : Addr} {ps : List LP} {ts : List Addr} (p : Paired (fun t x => LpAt K H t x) ts ps) {i : Nat} {v : V} (h : (ts.map V.ref)[i]? = some v) : ∃ t x, v = .ref t ∧ ps[i]? = some x ∧ LpAt K H t x := by
  induction p generalizing i with
  | nil => simp at h
  | @cons t x ts xs h1 h2 ih =>
    cases i with
    | zero =>
      rw [List.map_cons, List.getElem?_cons_zero] at h
      cases h
      exact ⟨t, x, rfl, rfl, h1⟩
    | succ i =>
      rw [List.map_cons, List.getElem?_cons_succ] at h
      obtain ⟨t', x', e, e2, e3⟩ := ih h
      exact ⟨t', x', e, by rw [List.getElem?_cons_succ]; exact e2, e3⟩
/-- the table of what is lost -/
def TblOk (w : World) (K : PySem.W.Frag) (H : Hp) (d : Addr) (ps : List LP) : Prop := ∃ kvs, DN w K H d kvs ∧ ∀ x : LP, (valV kvs (nkL x)).isSome = decide (x ∈ ps)
def spArr (K : PySem.W.Frag) (C P : Addr) : Sp := fun vs H Q _ => ∃ (a l : Addr) (n S : Nat) (zs : List (Fr × Fr)) (ps : List LP), vs = [.ref a, .int (n : Int), .ref l] ∧ n ≤ 6 ∧ Tabs [(P, LQ)] H ∧ PRows K H a zs ∧ RowsZ S zs ∧ LpsAt K H l ps ∧ ps.length ≤ 1000 ∧
  ∀ (H' : Hp) (d : Addr), ExtN H H' → Tabs [(P, LQ)] H' → PRows K H' d (LA (lostF ps) zs n) → Q (.ref d) H'
theorem ok_arrived {P : Program} {w : World} {K : PySem.W.Frag} {mg : Str → Option Value} {base : Heap} (T : T P K mg base) : FnOk P w K mg base (L2.CX P w) 8 T.a_arrived T.fd_arrived ["rows", "retries", "lost"] (spArr K T.C_InvalidLaw T.P_law_from) := by
  refine T.F_arrived.okX sc_arrived (fun vs H Q E h => ?_) (fun cdv A outer s H vs Q E hr h => ?_)
  · obtain ⟨a, l, n, S, zs, ps, rfl, _⟩ := h
    rfl
  · obtain ⟨a, l, n, S, zs, ps, rfl, hn, hT, ⟨rs, ea, hA, hv⟩, hZ, hL, hpl, q⟩ := h
    have hrl : rs.length = zs.length := by rw [← hv, List.length_map]
    have hz3 := hZ.len
    refine ⟨_, (pss_cons (ps_set (i := 3) sc_arrived.nd rfl (by first | exact Or.inl rfl | exact Or.inr rfl) ((ND.pe_dcN (own := [("pair", 8)]) (g := gName 8) hr.units rfl sc_arrived.nd (pi_list (pv 2)) (blkOk_by (own := [("pair", 8)]) (N := N_arrived) (sc := defScope s_arrived) (by decide +kernel)) (fun _ _ _ _ _ => (pg_name (i := 8) sc_arrived.nd rfl (by first | exact Or.inl rfl | exact Or.inr rfl))) (fun _ _ _ _ _ => pts_nil) (fun _ _ _ _ _ => (pv 8)) (fun _ _ _ _ _ => pe_bl)) : PE _ _ (ND.tDcN w K _ _ _ _ _ _)))
      (pss_cons (ps_set (i := 4) sc_arrived.nd rfl (by first | exact Or.inl rfl | exact Or.inr rfl) (pe_callTy c_list (by rfl) T.z_list (by decide +kernel) (pa_cons (pv 0) pa_nil)))
      (pss_cons (ps_for (passes_of rfl) rfl (pi_range2 (by rfl) T.z_range (pa_cons pe_int (pa_cons (pe_op op_add (pv 1) pe_int) pa_nil))) (pg_name (i := 5) sc_arrived.nd rfl (by first | exact Or.inl rfl | exact Or.inr rfl)) (pss_cons (ps_setLc (i := 6) (own := [("number", 9), ("chance", 10)]) (g := gTup K 2 (gCons (gName 9) (gCons (gName 10) gNil))) rfl sc_arrived.nd rfl rfl (sw_true rfl rfl rfl (by decide +kernel)) (pi_list (pv 0)) (blkOk_by (own := [("number", 9), ("chance", 10)]) (N := N_arrived) (sc := defScope s_arrived) (by decide +kernel)) (fun _ _ _ _ _ => (pg_tup rfl (pgs_cons (pg_name (i := 9) sc_arrived.nd rfl (by first | exact Or.inl rfl | exact Or.inr rfl)) (pgs_cons (pg_name (i := 10) sc_arrived.nd rfl (by first | exact Or.inl rfl | exact Or.inr rfl)) pgs_nil)))) (fun _ _ _ _ _ => (pts_one (pt_cmp ((ND.pc_dnotinN hr.units (pe_tup (pa_cons (pv 5) (pa_cons (pv 9) pa_nil))) (pv 3)) : PC _ _ _ _ (ND.tDNotInN w K _ _)) rfl))) (fun _ _ _ _ _ => (pe_tup (pa_cons (pv 9) (pa_cons (pv 10) pa_nil)))))
      (pss_cons (ps_set (i := 7) sc_arrived.nd rfl (by first | exact Or.inl rfl | exact Or.inr rfl) (pe_call (ok_minus T) (hr.mono (by decide)) (by rfl) T.g_minus T.F_minus.kp T.b_minus .nil pass0 (pa_cons (pe_glob (v := .ref T.k_ONE) (by rfl) T.g_ONE rfl) (pa_cons (pe_call (ok_sum_of T) (hr.mono (by decide)) (by rfl) T.g_sum_of T.F_sum_of.kp T.b_sum_of .nil pass0 (pa_cons (pe_lc (own := [("number", 9), ("chance", 10)]) (g := gTup K 2 (gCons (gName 9) (gCons (gName 10) gNil))) rfl sc_arrived.nd (pi_list (pv 6)) (blkOk_by (own := [("number", 9), ("chance", 10)]) (N := N_arrived) (sc := defScope s_arrived) (by decide +kernel)) (fun _ _ _ _ _ => (pg_tup rfl (pgs_cons (pg_name (i := 9) sc_arrived.nd rfl (by first | exact Or.inl rfl | exact Or.inr rfl)) (pgs_cons (pg_name (i := 10) sc_arrived.nd rfl (by first | exact Or.inl rfl | exact Or.inr rfl)) pgs_nil)))) (fun _ _ _ _ _ => pts_nil) (fun _ _ _ _ _ => (pv 10))) pa_nil)) pa_nil))))
      (pss_one (ps_set (i := 4) sc_arrived.nd rfl (by first | exact Or.inl rfl | exact Or.inr rfl) (pe_call (ok_law_from T) (hr.mono (by decide)) (by rfl) T.g_law_from T.F_law_from.kp T.b_law_from .nil (passes_call (takes_of rfl rfl rfl rfl) (fun _ _ _ _ h => h)) (pa_cons (pe_op op_cat (pv 6) (pe_lc (own := [("number", 9), ("chance", 10)]) (g := gTup K 2 (gCons (gName 9) (gCons (gName 10) gNil))) rfl sc_arrived.nd (pi_list (pv 4)) (blkOk_by (own := [("number", 9), ("chance", 10)]) (N := N_arrived) (sc := defScope s_arrived) (by decide +kernel)) (fun _ _ _ _ _ => (pg_tup rfl (pgs_cons (pg_name (i := 9) sc_arrived.nd rfl (by first | exact Or.inl rfl | exact Or.inr rfl)) (pgs_cons (pg_name (i := 10) sc_arrived.nd rfl (by first | exact Or.inl rfl | exact Or.inr rfl)) pgs_nil)))) (fun _ _ _ _ _ => pts_nil) (fun _ _ _ _ _ => (pe_tup (pa_cons (pv 9) (pa_cons (pe_call (ok_times T) (hr.mono (by decide)) (by rfl) T.g_times T.F_times.kp T.b_times .nil pass0 (pa_cons (pv 7) (pa_cons (pv 10) pa_nil))) pa_nil)))))) pa_nil)))))))
      (pss_one (ps_ret (pv 4)))))), ?_⟩
    walk_at "z0"
    walk_at "z"
    obtain ⟨ts, el, hP⟩ := id hL
    have htl : ts.length = ps.length := Paired.length hP
    refine dcl (ts.map V.ref) (lstL el) (fun D i H' => ∃ kvs, Kp [] H H' ∧ DN w K H' D kvs ∧ kvs.length ≤ i ∧ ∀ x : LP, (valV kvs (nkL x)).isSome = decide (x ∈ ps.take i)) ?_ ?_ ?_ ?_
    · intro D H1 nD k1 d1
      exact ⟨[], k1, d1, Nat.le_refl _, fun x => by simp [valV_nil]⟩
    · rintro D i H1 nD hi ⟨kvs, k1, _⟩
      exact lstL (k1.get nin0 el)
    · rintro D i v H1 nD hv1 ⟨kvs, k1, d1, l1, V1⟩
      obtain ⟨t, x, rfl, hx, hxA⟩ := LpsAt.get (l := l) hP hv1
      have hil := (List.getElem?_eq_some_iff.mp hx).1
      dsimp only [wipe, List.set]
      walk_at "z"
      refine ⟨rfl, ?_⟩
      walk_at "z"
      refine ⟨kvs, nkL x, d1, (hxA.kp0 k1).nk, Z.szl (m := 1000) (by omega), fun H2 k2 d2 ⟨⟨o, eo⟩, _⟩ => ?_⟩
      refine ⟨_, k1.mut nD eo, d2, Nat.le_trans (length_putK _ _ _) (by omega), fun y => ?_⟩
      rw [valV_put, List.take_add_one, hx]
      by_cases e : y = x
      · subst e
        rw [if_pos rfl]
        simp
      · rw [if_neg fun e2 => e (nkL_inj e2), V1]
        rw [decide_eq_decide]
        simp [e]
    · rintro D H1 nD ⟨kvs, k1, d1, l1, V1⟩
      rw [List.length_map, htl, List.take_length] at V1
      have hTb : TblOk w K H1 D ps := ⟨kvs, d1, V1⟩
      walk_at "z"
      refine Z.listL (lstL (k1.get nin0 ea)) (fun F H2 nF k2 e2 => ?_)
      have k12 := k1.trans k2
      walk_at "z"
      refine Z.forr2 n (by omega) ⟨by omega, by omega, by omega, by omega⟩ (fun i σ' H' => ∃ (y5 y6 y7 y8 y9 y10 : Option V) (F : Addr), σ' = [some (.ref a), some (.int (n : Int)), some (.ref l), some (.ref D), some (.ref F), y5, y6, y7, y8, y9, y10] ∧ ExtN H H' ∧ Tabs [(T.P_law_from, LQ)] H' ∧ TblOk w K H' D ps ∧ PRows K H' F (LA (lostF ps) zs i)) ?_ ?_ ?_
      · exact ⟨_, _, _, _, _, _, F, rfl, ext_kp k12, tabs_kp hT k12, ⟨kvs, d1.kp0 k2, V1⟩, rs, e2, fun p hp => (hA p hp).kp0 k12, hv⟩
      · rintro i σ' H3 hi ⟨y5, y6, y7, y8, y9, y10, F3, rfl, x3, T3, ⟨kv3, d3, V3⟩, fs, e3, A3, v3⟩
        rw [show (1 : Int) + (i : Int) = ((i + 1 : Nat) : Int) by omega]
        walk_at "z"
        refine Z.lcl (rs.map PRow.r) (lstL (ext_get x3 ea)) (fun D2 j H' => Kp [] H3 H' ∧ PRows K H' D2 (keptA (lostF ps (i + 1)) (zs.take j))) ?_ ?_ ?_ ?_
        · intro D2 H4 nD2 k4 e4
          exact ⟨k4, PRows.new e4⟩
        · rintro D2 j H4 nD2 hj ⟨k4, _⟩
          exact lstL (k4.get nin0 (ext_get x3 ea))
        · rintro D2 j v H4 nD2 hv4 ⟨k4, P4⟩
          rw [List.getElem?_map] at hv4
          obtain ⟨p, hp, rfl⟩ := Option.map_eq_some_iff.mp hv4
          have hpA := ((hA p (List.mem_of_getElem? hp)).ext x3).kp0 k4
          have hil := (List.getElem?_eq_some_iff.mp hp).1
          have hzj : zs[j]? = some p.v := by rw [← hv, List.getElem?_map, hp]; rfl
          dsimp only [wipe, List.set]
          refine Z.gtup hpA.tup rfl ?_
          walk_at "z"
          refine ⟨rfl, ?_⟩
          walk_at "z"
          refine Z.tupK (fun t H5 nt k5 e5 => ?_)
          walk_at "z"
          have hlp : LpAt K H5 t (((i + 1 : Nat) : Int), p.g) := ⟨p.b, e5, hpA.num.kp0 k5⟩
          refine ⟨D, kv3, _, rfl, d3.kp0 (k4.trans k5), hlp.nk, ?_⟩
          rw [V3]
          have P5 := P4.kp0 k5
          by_cases hlo : ((((i + 1 : Nat) : Int), p.g) : LP) ∈ ps
          · rw [decide_eq_true hlo]
            walk_at "z"
            refine ⟨k4.trans k5, ?_⟩
            have hk : keptA (lostF ps (i + 1)) (zs.take (j + 1)) = keptA (lostF ps (i + 1)) (zs.take j) := by
              unfold keptA
              rw [List.take_add_one, hzj, List.filter_append]
              show _ ++ [p.v].filter _ = _
              rw [List.filter_cons_of_neg (by show ¬ (!lostF ps (i + 1) p.g) = true; rw [show lostF ps (i + 1) p.g = true from decide_eq_true hlo]; decide)]
              simp
            rw [hk]
            exact P5
          · rw [decide_eq_false hlo]
            walk_at "z"
            refine Z.tupK (fun u H6 nu k6 e6 => ?_)
            have P6 := P5.kp0 k6
            obtain ⟨xs, hx, hxl⟩ := P6.here
            refine ⟨xs, hx, Z.szl (m := 1000) (by rw [hxl]; have h9 : (keptA (lostF ps (i + 1)) (zs.take j)).length ≤ (zs.take j).length := List.length_filter_le _ _; rw [List.length_take] at h9; omega), ((k4.trans k5).trans k6).mut nD2 rfl, ?_⟩
            have hk : keptA (lostF ps (i + 1)) (zs.take (j + 1)) = keptA (lostF ps (i + 1)) (zs.take j) ++ [(p.g, p.f)] := by
              unfold keptA
              rw [List.take_add_one, hzj, List.filter_append]
              show _ ++ [p.v].filter _ = _
              rw [List.filter_cons_of_pos (by show (!lostF ps (i + 1) p.g) = true; rw [show lostF ps (i + 1) p.g = false from decide_eq_false hlo]; rfl)]
              rfl
            rw [hk]
            exact P6.snoc hx e6 (hpA.num.kp0 (k5.trans k6)) (hpA.fr.kp0 (k5.trans k6))
        · rintro D2 H4 nD2 ⟨k4, P4⟩
          rw [List.length_map, hrl, List.take_length] at P4
          obtain ⟨qs, e4, A4, v4⟩ := P4
          have hql : qs.length ≤ 3 := by
            have h9 : (keptA (lostF ps (i + 1)) zs).length ≤ zs.length := List.length_filter_le _ _
            rw [← v4, List.length_map] at h9
            omega
          walk_at "z"
          refine Z.lcl (qs.map PRow.r) (lstL e4) (fun D3 j H' => ∃ as : List Addr, Kp [] H4 H' ∧ H' D3 = some (.lst (as.map V.ref)) ∧ FrsAt K H' as ((qs.take j).map PRow.f)) ?_ ?_ ?_ ?_
          · intro D3 H5 nD3 k5 e5
            exact ⟨[], k5, e5, .nil⟩
          · rintro D3 j H5 nD3 hj ⟨as, k5, _⟩
            exact lstL (k5.get nin0 e4)
          · rintro D3 j v H5 nD3 hv5 ⟨as, k5, e5, F5⟩
            rw [List.getElem?_map] at hv5
            obtain ⟨p, hp, rfl⟩ := Option.map_eq_some_iff.mp hv5
            have hpA := (A4 p (List.mem_of_getElem? hp)).kp0 k5
            have hil := (List.getElem?_eq_some_iff.mp hp).1
            have hal := F5.len
            rw [List.length_map, List.length_take] at hal
            dsimp only [wipe, List.set]
            refine Z.gtup hpA.tup rfl ?_
            walk_at "z"
            refine ⟨rfl, ?_⟩
            walk_at "z"
            have kD : Kp [D3] H5 (upd H5 D3 (.lst (as.map V.ref ++ [.ref p.c]))) := Kp.put (by simp)
            have ntD : ∀ y ∈ [D3], NoTup H5 y := fun y hy => by
              rw [List.mem_singleton.mp hy]
              exact NoTup.lst e5
            refine ⟨_, e5, Z.szl (m := 1000) (by rw [List.length_map]; omega), as ++ [p.c], k5.mut nD3 rfl, by rw [upd_same, List.map_append]; rfl, ?_⟩
            rw [List.take_add_one, hp, List.map_append]
            exact (F5.kp kD ntD).snoc (FrAt.kp hpA.fr kD ntD)
          · rintro D3 H5 nD3 ⟨as, k5, e5, F5⟩
            rw [List.length_map, List.take_length] at F5
            have ef : qs.map PRow.f = (keptA (lostF ps (i + 1)) zs).map Prod.snd := by rw [← v4, List.map_map]; rfl
            rw [ef] at F5
            obtain ⟨s1, s2, s3⟩ := kept_sum (L := lostF ps (i + 1)) hZ
            walk_at "z"
            refine ⟨D3, as, _, rfl, lstL e5, F5, s1, fun H6 c6 k6 e6 => ?_⟩
            walk_at "z"
            refine ⟨T.k_ONE, c6, (1, 1), _, rfl, T.q_ONE _, e6, by decide, s2, ⟨by decide, by decide⟩, s3, fun H7 c7 n7 k7 e7 => ?_⟩
            have eag : FrAt K H7 c7 (againA (lostF ps (i + 1)) zs) := e7
            have k47 := (k5.trans k6).trans k7
            walk_at "z"
            have hWl := LA_len (L := lostF ps) hZ i
            have hfl : fs.length = (LA (lostF ps) zs i).length := by rw [← v3, List.length_map]
            have e37 := (k4.trans k47).get nin0 e3
            have hag := rv_again (L := lostF ps (i + 1)) hZ.toPosZ hZ.one
            have hagB := again_B (L := lostF ps (i + 1)) hZ
            refine Z.lcl (fs.map PRow.r) (lstL e37) (fun D4 j H' => Kp [] H7 H' ∧ PRows K H' D4 (((LA (lostF ps) zs i).take j).map fun o => (o.1, ftimes (againA (lostF ps (i + 1)) zs) o.2))) ?_ ?_ ?_ ?_
            · intro D4 H8 nD4 k8 e8
              exact ⟨k8, PRows.new e8⟩
            · rintro D4 j H8 nD4 hj ⟨k8, _⟩
              exact lstL (k8.get nin0 e37)
            · rintro D4 j v H8 nD4 hv8 ⟨k8, P8⟩
              rw [List.getElem?_map] at hv8
              obtain ⟨p, hp, rfl⟩ := Option.map_eq_some_iff.mp hv8
              have hpA := (A3 p (List.mem_of_getElem? hp)).kp0 ((k4.trans k47).trans k8)
              have hil := (List.getElem?_eq_some_iff.mp hp).1
              have hzj : (LA (lostF ps) zs i)[j]? = some p.v := by rw [← v3, List.getElem?_map, hp]; rfl
              obtain ⟨c1, c2, c3⟩ := LA_ch (L := lostF ps) hZ i p.v (List.mem_of_getElem? hzj)
              dsimp only [wipe, List.set]
              refine Z.gtup hpA.tup rfl ?_
              walk_at "z"
              refine ⟨rfl, ?_⟩
              walk_at "z"
              refine ⟨c7, p.c, _, p.f, rfl, eag.kp0 k8, hpA.fr, hag.1.ne, c1.ne, hagB.mono (by decide), c3.mono (by omega), fun H9 c9 n9 k9 e9 => ?_⟩
              walk_at "z"
              refine Z.tupK (fun u H10 nu k10 e10 => ?_)
              have P10 := P8.kp0 (k9.trans k10)
              obtain ⟨xs, hx, hxl⟩ := P10.here
              refine ⟨xs, hx, Z.szl (m := 1000) (by rw [hxl, List.length_map, List.length_take]; omega), ((k8.trans k9).trans k10).mut nD4 rfl, ?_⟩
              rw [List.take_add_one, hzj, List.map_append]
              exact P10.snoc hx e10 (hpA.num.kp0 (k9.trans k10)) (e9.kp0 k10)
            · rintro D4 H8 nD4 ⟨k8, us, e8, A8, v8⟩
              rw [List.length_map, hfl, List.take_length] at v8
              have hul : us.length ≤ 3 := by
                have h9 := congrArg List.length v8
                rw [List.length_map, List.length_map] at h9
                omega
              have k48 := k47.trans k8
              refine Z.cat (xs := qs.map PRow.r) (zs := us.map PRow.r) (k48.get nin0 e4) e8 (by rw [List.length_map, List.length_map]; omega) (fun l9 H9 n9 k9 e9 => ?_)
              have k39 := (k4.trans k48).trans k9
              rw [← List.map_append] at e9
              have hva : (qs ++ us).map PRow.v = nextA (lostF ps (i + 1)) zs (LA (lostF ps) zs i) := by
                rw [List.map_append, v4, v8]
                rfl
              obtain ⟨n1, n2⟩ := next_law (L := lostF ps) hZ (show i ≤ 6 by omega)
              have hA9 : ∀ p ∈ qs ++ us, PRowAt K H9 p := fun p hp => by
                rcases List.mem_append.mp hp with hp | hp
                · exact (A4 p hp).kp0 (k48.trans k9)
                · exact (A8 p hp).kp0 k9
              have edat : ((qs ++ us).map PRow.l).map LRow.dat = ((nextA (lostF ps (i + 1)) zs (LA (lostF ps) zs i)).map kfOf).map emb := by rw [prow_ld, hva]
              walk_at "z"
              refine ⟨l9, (qs ++ us).map PRow.l, rfl, tabs_kp T3 k39, by rw [← prow_l]; exact lstL e9, n1.to edat (fun r hr => by
                obtain ⟨p, hp, rfl⟩ := List.mem_map.mp hr
                exact (hA9 p hp).l), fun bad => ?_, fun _ H10 d out nd x10 T10 h10 A10 D10 => ?_⟩
              · rw [prow_f, hva, next_taken hZ] at bad
                cases bad
              · rw [lawOf_D, edat, n2] at D10
                obtain ⟨os, o1, o2, o3⟩ := lrows_p A10 D10
                walk_at "z"
                have x310 := (ext_kp k39).trans x10
                exact ⟨_, _, _, _, _, _, d, rfl, x3.trans x310, T10, ⟨kv3, dn_ext d3 x310, V3⟩, os, by rw [h10, o1], o2, o3⟩
      · rintro σ' H3 ⟨y5, y6, y7, y8, y9, y10, F3, rfl, x3, T3, _, P3⟩
        walk_at "z"
        exact q H3 F3 x3 T3 P3
end arrp46

/-! ### means and bounds stay small -/
section terms46
open LamK
theorem LA_terms {S : Nat} {L : Nat → Fr → Bool} {zs : List (Fr × Fr)} (h : RowsZ S zs) {r : Nat} (hr : r ≤ 6) : TermsOk (6 * S ^ (r + 1)) (6 + 4 * (r + 1)) (3 + 4 * (r + 1)) (LA L zs r) := by
  have hS := S_pow h (r + 1)
  have hl := LA_len (L := L) h r
  refine ⟨fun z hz => ?_, fun z hz => ?_, by omega, Nat.mul_le_mul (by decide : 1 ≤ 6) hS.1, ?_⟩
  · obtain ⟨c1, c2, c3⟩ := LA_ch (L := L) h r z hz
    obtain ⟨w, hw, e⟩ := LA_num (L := L) h.toPosZ r z hz
    rw [e]
    exact ⟨(h.num w hw).1, c1.1, (h.nums w hw).1.mono (by decide), c3.mono (by omega)⟩
  · obtain ⟨c1, c2, c3⟩ := LA_ch (L := L) h r z hz
    obtain ⟨w, hw, e⟩ := LA_num (L := L) h.toPosZ r z hz
    rw [e]
    exact (h.nums w hw).2.mul c2
  · rw [Nat.pow_add 2 3]
    exact Nat.mul_le_mul (by decide) hS.2
theorem LA_mv {S : Nat} {L : Nat → Fr → Bool} {zs : List (Fr × Fr)} (h : RowsZ S zs) {r : Nat} (hr : r ≤ 6) : MeanV (LA L zs r) ∧ LMeanV (LA L zs r) ∧ Low (meanV (LA L zs r)) ∧ FrB 50 (meanV (LA L zs r)) := by
  have t := LA_terms (L := L) h hr
  exact ⟨t.meanV (by omega) (by omega), t.lmeanV (by omega) (by omega), t.mean.1, t.meanB (k := 50) (by omega) (by omega)⟩
/-- one denominator for all bounds -/
def bD (S : Nat) : Nat := 60 * S ^ 7
theorem bD_ok {S : Nat} {zs : List (Fr × Fr)} (h : RowsZ S zs) : 1 ≤ bD S ∧ bD S ≤ 2 ^ 34 := by
  have hS := S_pow h 7
  refine ⟨Nat.mul_le_mul (by decide : 1 ≤ 60) hS.1, ?_⟩
  rw [show (34 : Nat) = 6 + 4 * 7 from rfl, Nat.pow_add]
  exact Nat.mul_le_mul (by decide) hS.2
/-- a number that may be a bound -/
structure BdF (S N : Nat) (g : Fr) : Prop where
  low : Low g
  den : DenB (bD S) N (rv g)
theorem BdF.mono {S N M : Nat} {g : Fr} (h : BdF S N g) (l : N ≤ M) : BdF S M g := ⟨h.low, h.den.mono l⟩
theorem num_bd {S : Nat} {zs : List (Fr × Fr)} (h : RowsZ S zs) {z : Fr × Fr} (hz : z ∈ zs) : BdF S 38 z.1 := by
  refine ⟨h.num z hz, ?_⟩
  have hE : 10 * S ^ 7 ≤ 2 ^ (4 + 4 * 7) := by
    rw [Nat.pow_add]
    exact Nat.mul_le_mul (by decide) (S_pow h 7).2
  have h1 := (h.nums z hz).2.up hE
  have e : 6 * (10 * S ^ 7) = bD S := by unfold bD; omega
  rw [e] at h1
  exact h1
theorem kp_terms {S N : Nat} {s : Bool} {zs : List (Fr × Fr)} {g : Fr} (h : RowsZ S zs) (hg : BdF S N g) (hN : 38 ≤ N) (hN2 : N ≤ 700) : TermsOk (bD S * S) (N + 4) 38 (zs.map (kpZ s g)) := by
  have hD := bD_ok h
  have hk : ∀ z ∈ zs, BdF S N (kpF s z.1 g) := fun z hz => by
    unfold kpF
    split
    · exact hg
    · exact (num_bd h hz).mono hN
  refine ⟨fun y hy => ?_, fun y hy => ?_, by rw [List.length_map]; have := h.len; omega, Nat.mul_le_mul hD.1 h.S1.1, ?_⟩
  · obtain ⟨z, hz, rfl⟩ := List.mem_map.mp hy
    have h1 := hk z hz
    have h2 := h.low z hz
    have h3 := h.den z hz
    exact ⟨h1.low.1, h2.1, den_B (n := N) (d := 34) h1.low h1.den hD.1 hD.2 (by omega) (by omega), den_B h2 h3 h.S1.1 h.S1.2 (by decide) (by decide)⟩
  · obtain ⟨z, hz, rfl⟩ := List.mem_map.mp hy
    exact (hk z hz).den.mul (h.den z hz)
  · rw [show (38 : Nat) = 34 + 4 from rfl, Nat.pow_add]
    exact Nat.mul_le_mul hD.2 h.S1.2
theorem kp_ok {S N : Nat} {s : Bool} {zs : List (Fr × Fr)} {g : Fr} (h : RowsZ S zs) (hg : BdF S N g) (hN : 38 ≤ N) (hN2 : N ≤ 700) : KpOk s zs g := by
  have hD := bD_ok h
  have t := kp_terms (s := s) h hg hN hN2
  exact ⟨hg.low, den_B (n := N) (d := 34) hg.low hg.den hD.1 hD.2 (by omega) (by omega), fun z hz => ⟨h.num z hz, (h.nums z hz).1.mono (by decide)⟩, t.meanV (by omega) (by omega), t.lmeanV (by omega) (by omega), by have := h.len; omega⟩
theorem kp_due {S N : Nat} {s : Bool} {zs : List (Fr × Fr)} {g : Fr} (h : RowsZ S zs) (hg : BdF S N g) (hN : 38 ≤ N) (hN2 : N ≤ 700) : Low (meanV (zs.map (kpZ s g))) ∧ FrB 900 (meanV (zs.map (kpZ s g))) := by
  have t := kp_terms (s := s) h hg hN hN2
  exact ⟨t.mean.1, t.meanB (k := 900) (by omega) (by omega)⟩
/-- what comes from numbers with the denominator bD S -/
theorem mean_unit {S : Nat} {s : Bool} {zs : List (Fr × Fr)} (h : RowsZ S zs) : ∀ r, ∃ k : Int, rv (bndF s zs r) * ((6 * S ^ (r + 1) : Nat) : Rat) = (k : Rat)
  | 0 => by
    rw [(bnd_low (s := s) h.toNumZ 0).2]
    show ∃ k : Int, sR (fun z => rv z.1 * rv z.2) zs * _ = _
    unfold sR
    refine den_sum fun x hx => ?_
    obtain ⟨z, hz, rfl⟩ := List.mem_map.mp hx
    obtain ⟨k, hk, _⟩ := (h.nums z hz).2.mul (h.den z hz)
    refine ⟨k, ?_⟩
    rw [Nat.zero_add, Nat.pow_one]
    exact hk
  | r + 1 => by
    rw [(bnd_low (s := s) h.toNumZ (r + 1)).2]
    show ∃ k : Int, sR (fun z => kpR s (rv z.1) (rv (bndF s zs r)) * rv z.2) zs * _ = _
    unfold sR
    refine den_sum fun x hx => ?_
    obtain ⟨z, hz, rfl⟩ := List.mem_map.mp hx
    obtain ⟨j, hj⟩ : ∃ j : Int, kpR s (rv z.1) (rv (bndF s zs r)) * ((6 * S ^ (r + 1) : Nat) : Rat) = (j : Rat) := by
      unfold kpR
      split
      · exact mean_unit h r
      · obtain ⟨k, hk, _⟩ := (h.nums z hz).2.up (E := S ^ (r + 1)) (S_pow h (r + 1)).2
        exact ⟨k, hk⟩
    obtain ⟨k, hk, _⟩ := h.den z hz
    refine ⟨j * k, ?_⟩
    have e1 : ((j * k : Int) : Rat) = (j : Rat) * (k : Rat) := by exact_mod_cast rfl
    have e2 : ((6 * S ^ (r + 1 + 1) : Nat) : Rat) = ((6 * S ^ (r + 1) : Nat) : Rat) * (S : Rat) := by
      rw [Nat.pow_succ, ← Nat.mul_assoc]
      exact_mod_cast rfl
    rw [e1, e2, ← hj, ← hk]
    grind
theorem num_range {S : Nat} {zs : List (Fr × Fr)} (h : RowsZ S zs) {z : Fr × Fr} (hz : z ∈ zs) : -64 ≤ rv z.1 ∧ rv z.1 ≤ 64 := by
  obtain ⟨k, hk, hk2⟩ := (h.nums z hz).2
  have h6 : ((6 : Nat) : Rat) = 6 := rfl
  rw [h6] at hk
  have a : (-64 : Int) ≤ k ∧ k ≤ 64 := by omega
  have b1 : (-64 : Rat) ≤ (k : Rat) := by
    have h9 : ((-64 : Int) : Rat) ≤ (k : Rat) := by exact_mod_cast a.1
    rwa [show ((-64 : Int) : Rat) = -64 from rfl] at h9
  have b2 : (k : Rat) ≤ (64 : Rat) := by exact_mod_cast a.2
  grind
theorem sR_range {zs : List (Fr × Fr)} (h : PosZ zs) (h1 : sR (fun z => rv z.2) zs = 1) {f : Fr × Fr → Rat} (hf : ∀ z ∈ zs, -64 ≤ f z ∧ f z ≤ 64) : -64 ≤ sR (fun z => f z * rv z.2) zs ∧ sR (fun z => f z * rv z.2) zs ≤ 64 := by
  have e : ∀ c : Rat, sR (fun z : Fr × Fr => c * rv z.2) zs = c := fun c => by rw [sR_mul, h1]; grind
  refine ⟨?_, ?_⟩
  · have := sR_le (f := fun z : Fr × Fr => (-64 : Rat) * rv z.2) (g := fun z => f z * rv z.2) (l := zs) fun z hz => Rat.mul_le_mul_of_nonneg_right (hf z hz).1 (by have := h.pos z hz; grind)
    rwa [e] at this
  · have := sR_le (f := fun z => f z * rv z.2) (g := fun z : Fr × Fr => (64 : Rat) * rv z.2) (l := zs) fun z hz => Rat.mul_le_mul_of_nonneg_right (hf z hz).2 (by have := h.pos z hz; grind)
    rwa [e] at this
theorem bnd_range {S : Nat} {s : Bool} {zs : List (Fr × Fr)} (h : RowsZ S zs) : ∀ r, -64 ≤ rv (bndF s zs r) ∧ rv (bndF s zs r) ≤ 64
  | 0 => by
    rw [(bnd_low (s := s) h.toNumZ 0).2]
    exact sR_range h.toPosZ h.one fun z hz => num_range h hz
  | r + 1 => by
    rw [(bnd_low (s := s) h.toNumZ (r + 1)).2]
    refine sR_range (f := fun z => kpR s (rv z.1) (rv (bndF s zs r))) h.toPosZ h.one fun z hz => ?_
    show -64 ≤ kpR s (rv z.1) (rv (bndF s zs r)) ∧ kpR s (rv z.1) (rv (bndF s zs r)) ≤ 64
    unfold kpR
    split
    · exact bnd_range h r
    · exact num_range h hz
theorem bnd_bd {S : Nat} {s : Bool} {zs : List (Fr × Fr)} (h : RowsZ S zs) {r : Nat} (hr : r ≤ 6) : BdF S 40 (bndF s zs r) := by
  refine ⟨(bnd_low h.toNumZ r).1, ?_⟩
  obtain ⟨k, hk⟩ := mean_unit (s := s) h r
  obtain ⟨a, b⟩ := bnd_range (s := s) h r
  have hp : S ^ 7 = S ^ (r + 1) * S ^ (6 - r) := by rw [← Nat.pow_add]; congr 1; omega
  have e : bD S = (6 * S ^ (r + 1)) * (10 * S ^ (6 - r)) := by
    unfold bD
    rw [hp, Nat.mul_mul_mul_comm]
  have hz : ∃ j : Int, rv (bndF s zs r) * (bD S : Rat) = (j : Rat) := by
    refine ⟨k * ((10 * S ^ (6 - r) : Nat) : Int), ?_⟩
    have e1 : ((k * ((10 * S ^ (6 - r) : Nat) : Int) : Int) : Rat) = (k : Rat) * ((10 * S ^ (6 - r) : Nat) : Rat) := by exact_mod_cast rfl
    have e2 : ((bD S : Nat) : Rat) = ((6 * S ^ (r + 1) : Nat) : Rat) * ((10 * S ^ (6 - r) : Nat) : Rat) := by
      rw [e]
      exact_mod_cast rfl
    rw [e1, e2, ← hk]
    grind
  obtain ⟨j, hj⟩ := hz
  refine ⟨j, hj, ?_⟩
  have hD := bD_ok h
  have hN : (0 : Rat) ≤ ((bD S : Nat) : Rat) := by exact_mod_cast Nat.zero_le _
  have m1 := Rat.mul_le_mul_of_nonneg_right a hN
  have m2 := Rat.mul_le_mul_of_nonneg_right b hN
  rw [hj] at m1 m2
  have c1 : (-64 : Int) * (bD S : Int) ≤ j := by
    have : (((-64 : Int) * (bD S : Int) : Int) : Rat) ≤ (j : Rat) := by
      have e : (((-64 : Int) * (bD S : Int) : Int) : Rat) = -64 * ((bD S : Nat) : Rat) := by
        rw [Rat.intCast_mul, show ((-64 : Int) : Rat) = -64 from rfl]
        rfl
      rw [e]; exact m1
    exact_mod_cast this
  have c2 : j ≤ (64 : Int) * (bD S : Int) := by
    have : (j : Rat) ≤ (((64 : Int) * (bD S : Int) : Int) : Rat) := by
      have e : (((64 : Int) * (bD S : Int) : Int) : Rat) = 64 * ((bD S : Nat) : Rat) := by exact_mod_cast rfl
      rw [e]; exact m2
    exact_mod_cast this
  omega
theorem bnd_ok {S : Nat} {s : Bool} {zs : List (Fr × Fr)} (h : RowsZ S zs) {n : Nat} (hn : n ≤ 6) : BndOk s zs n := by
  have h0 := LA_mv (L := fun _ _ => false) h (Nat.zero_le 6)
  exact ⟨h0.1, h0.2.1, fun r hr => kp_ok h (bnd_bd h (by omega)) (by decide) (by decide), by omega⟩
/-- bounds that were bent a few times -/
theorem acc_ok {S N : Nat} {s : Bool} {zs : List (Fr × Fr)} {bs : List Fr} (h : RowsZ S zs) (hb : ∀ g ∈ bs, BdF S N g) (hN : 38 ≤ N) (hN2 : N ≤ 700) (hl : bs.length ≤ 100) : AccOk s zs bs := by
  have h0 := LA_mv (L := fun _ _ => false) h (Nat.zero_le 6)
  refine ⟨h0.1, h0.2.1, fun g hg => kp_ok h (hb g hg) hN hN2, fun f hf => ?_, hl⟩
  unfold dueL at hf
  rcases List.mem_cons.mp hf with rfl | hf
  · exact ⟨h0.2.2.1, h0.2.2.2.mono (by decide)⟩
  · obtain ⟨g, hg, rfl⟩ := List.mem_map.mp hf
    exact kp_due h (hb g ((List.dropLast_sublist bs).subset hg)) hN hN2
theorem bent_bd {S N : Nat} {zs : List (Fr × Fr)} (h : RowsZ S zs) {g : Fr} (hg : BdF S N g) (hN : 38 ≤ N) {p q : Int} (hpq : (p, q) = (1, 4) ∨ (p, q) = (-1, 4) ∨ (p, q) = (2, 1) ∨ (p, q) = (-1, 30)) : BdF S (N + 1) (fplus g (p, q)) := by
  have hD := bD_ok h
  have hq : ((p, q) : Fr).2 ≠ 0 := by rcases hpq with e | e | e | e <;> (cases e; decide)
  refine ⟨fplus_low hg.low.ne hq, ?_⟩
  rw [rv_fplus hg.low.ne hq]
  refine hg.den.add ?_
  obtain ⟨c, hc1, hc2⟩ : ∃ c : Int, rv ((p, q) : Fr) * 60 = (c : Rat) ∧ c.natAbs ≤ 120 := by
    rcases hpq with e | e | e | e
    · cases e; exact ⟨15, by unfold rv; show ((1 : Int) : Rat) / ((4 : Int) : Rat) * 60 = ((15 : Int) : Rat); grind, by decide⟩
    · cases e; exact ⟨-15, by unfold rv; show ((-1 : Int) : Rat) / ((4 : Int) : Rat) * 60 = ((-15 : Int) : Rat); grind, by decide⟩
    · cases e; exact ⟨120, by unfold rv; show ((2 : Int) : Rat) / ((1 : Int) : Rat) * 60 = ((120 : Int) : Rat); grind, by decide⟩
    · cases e; exact ⟨-2, by unfold rv; show ((-1 : Int) : Rat) / ((30 : Int) : Rat) * 60 = ((-2 : Int) : Rat); grind, by decide⟩
  refine ⟨c * ((S ^ 7 : Nat) : Int), ?_, ?_⟩
  · have e1 : ((c * ((S ^ 7 : Nat) : Int) : Int) : Rat) = (c : Rat) * ((S ^ 7 : Nat) : Rat) := by exact_mod_cast rfl
    have e2 : ((bD S : Nat) : Rat) = 60 * ((S ^ 7 : Nat) : Rat) := by unfold bD; exact_mod_cast rfl
    rw [e1, e2, ← hc1]
    grind
  · rw [Int.natAbs_mul, Int.natAbs_natCast]
    have h1 := Nat.mul_le_mul hc2 (S_pow h 7).2
    refine Nat.le_trans h1 (Nat.le_trans (show 120 * 2 ^ (4 * 7) ≤ 2 ^ 38 by decide) (Nat.pow_le_pow_right (by decide) hN))
end terms46

/-! ### greatest and least means, and what they lose -/
section great46
variable {K : PySem.W.Frag}
open LamX hiding takes0
open LamK
abbrev PL (K : PySem.W.Frag) (H : Hp) (ts : List Addr) (ps : List LP) : Prop := Paired (fun t x => LpAt K H t x) ts ps
theorem PL.kp0 {H H' : Hp} {ts : List Addr} {ps : List LP} (h : PL K H ts ps) (k : Kp [] H H') : PL K H' ts ps := by
  induction h with
  | nil => exact .nil
  | cons h1 h2 ih => exact .cons (LpAt.kp0 h1 k) ih
theorem LpAt.kpl {H H' : Hp} {t l : Addr} {x : LP} {xs : List V} (h : LpAt K H t x) (k : Kp [l] H H') (e : H l = some (.lst xs)) : LpAt K H' t x := by
  obtain ⟨b, h1, h2⟩ := h
  exact ⟨b, k.get (nin1 fun z => by rw [z, e] at h1; cases h1) h1, h2.kpl k e⟩
theorem PL.kpl {H H' : Hp} {l : Addr} {ts : List Addr} {ps : List LP} {xs : List V} (h : PL K H ts ps) (k : Kp [l] H H') (e : H l = some (.lst xs)) : PL K H' ts ps := by
  induction h with
  | nil => exact .nil
  | cons h1 h2 ih => exact .cons (LpAt.kpl h1 k e) ih
theorem PL.app {H : Hp} {ts us : List Addr} {ps qs : List LP} (h : PL K H ts ps) (g : PL K H us qs) : PL K H (ts ++ us) (ps ++ qs) := by
  induction h with
  | nil => exact g
  | cons h1 h2 ih => exact .cons h1 ih
theorem PL.snoc {H : Hp} {ts : List Addr} {ps : List LP} {t : Addr} {x : LP} (h : PL K H ts ps) (g : LpAt K H t x) : PL K H (ts ++ [t]) (ps ++ [x]) := PL.app h (.cons g .nil)
theorem PL.len {H : Hp} {ts : List Addr} {ps : List LP} (h : PL K H ts ps) : ts.length = ps.length := Paired.length h
/-- what is lost at the first turns -/
def lostR (s : Bool) (zs : List (Fr × Fr)) (i : Nat) : List LP := (zs.filter fun z => loseF s zs (i + 1) z.1).map fun z => (((i + 1 : Nat) : Int), z.1)
def lostL (s : Bool) (zs : List (Fr × Fr)) (n : Nat) : List LP := (List.range n).flatMap (lostR s zs)
theorem lostL_succ (s : Bool) (zs : List (Fr × Fr)) (n : Nat) : lostL s zs (n + 1) = lostL s zs n ++ lostR s zs n := by
  unfold lostL
  rw [List.range_succ, List.flatMap_append]
  simp
theorem lostL_mem {s : Bool} {zs : List (Fr × Fr)} {x : LP} : ∀ {n : Nat}, x ∈ lostL s zs n ↔ ∃ i, i < n ∧ x ∈ lostR s zs i := fun {n} => by
  unfold lostL
  rw [List.mem_flatMap]
  simp [List.mem_range]
/-! they are in order -/
abbrev tkO := PyProof.Rows.itemOrd
theorem lex_suf : ∀ {a b : List (Int ⊕ List Nat)} (R : List (Int ⊕ List Nat)), a.length = b.length → PyProof.Rows.lexLt tkO (a ++ R) (b ++ R) = PyProof.Rows.lexLt tkO a b
  | [], [], R, _ => by
    rw [List.nil_append, PyProof.Rows.lex_irrefl, PyProof.Rows.lex_irrefl]
  | [], _ :: _, _, h => by simp at h
  | _ :: _, [], _, h => by simp at h
  | x :: a, y :: b, R, h => by
    by_cases e : x = y
    · subst e
      rw [List.cons_append, List.cons_append, PyProof.Rows.lex_self, PyProof.Rows.lex_self]
      exact lex_suf R (by simpa using h)
    · rw [List.cons_append, List.cons_append, PyProof.Rows.lex_diff e, PyProof.Rows.lex_diff e]
theorem toks_lp (x : LP) : PySem.W.keyToks (lpD x) = [.inl 1, .inl x.1, .inl 1] ++ (PySem.W.keyToks (GT.keyD (keyOf x.2)) ++ [.inl 0]) := by
  simp [lpD, frD, PySem.W.keyToks, PySem.W.keyToksAll, GT.keyD, GT.kD, keyOf]
theorem toks_fr_len (g : Fr) : (PySem.W.keyToks (GT.keyD (keyOf g))).length = 5 := by
  simp [PySem.W.keyToks, PySem.W.keyToksAll, GT.keyD, GT.kD, keyOf]
def leL (x y : LP) : Bool := PySem.W.dataLe false lpD x y
theorem leL_same {i : Int} {f g : Fr} (h : leK (keyOf f) (keyOf g) = true) : leL (i, f) (i, g) = true := by
  show (!PyProof.Rows.lexLt tkO (PySem.W.keyToks (lpD (i, g))) (PySem.W.keyToks (lpD (i, f)))) = true
  have h : (!PyProof.Rows.lexLt tkO (PySem.W.keyToks (GT.keyD (keyOf g))) (PySem.W.keyToks (GT.keyD (keyOf f)))) = true := h
  rw [toks_lp, toks_lp, PySem.W.lex_pre, lex_suf _ (by rw [toks_fr_len, toks_fr_len])]
  exact h
theorem leL_less {i j : Int} {f g : Fr} (h : i < j) : leL (i, f) (j, g) = true := by
  show (!PyProof.Rows.lexLt tkO (PySem.W.keyToks (lpD (j, g))) (PySem.W.keyToks (lpD (i, f)))) = true
  rw [toks_lp, toks_lp]
  show (!PyProof.Rows.lexLt tkO (.inl 1 :: .inl j :: _) (.inl 1 :: .inl i :: _)) = true
  rw [PyProof.Rows.lex_self, PyProof.Rows.lex_diff (fun e => by injection e with e; omega)]
  show (!decide (j < i)) = true
  rw [decide_eq_false (by omega)]
  rfl
def AscZ (zs : List (Fr × Fr)) : Prop := zs.Pairwise fun a b => leK (keyOf a.1) (keyOf b.1) = true
theorem gathZ_asc {zs : List (Fr × Fr)} (hl : ∀ z ∈ zs, z.2.2 ≠ 0) : AscZ (gathZ zs) := by
  have h := gath_asc (zs.map kfOf)
  rw [← gathZ_kf hl] at h
  have h2 := List.pairwise_map.mp h
  exact h2.imp fun {a b} q => q.1
theorem lostL_asc {s : Bool} {zs : List (Fr × Fr)} (h : AscZ zs) : ∀ n, (lostL s zs n).Pairwise fun a b => leL a b = true
  | 0 => by show ([] : List LP).Pairwise _; exact .nil
  | n + 1 => by
    rw [lostL_succ, List.pairwise_append]
    refine ⟨lostL_asc h n, ?_, fun a ha b hb => ?_⟩
    · unfold lostR
      rw [List.pairwise_map]
      exact (h.filter _).imp fun {a b} q => leL_same q
    · obtain ⟨i, hi, hx⟩ := lostL_mem.mp ha
      unfold lostR at hx hb
      obtain ⟨z, _, rfl⟩ := List.mem_map.mp hx
      obtain ⟨z', _, rfl⟩ := List.mem_map.mp hb
      exact leL_less (by omega)
theorem lost_sort {s : Bool} {zs : List (Fr × Fr)} (h : AscZ zs) (n : Nat) : (lostL s zs n).mergeSort leL = lostL s zs n := List.mergeSort_of_pairwise (lostL_asc h n)
theorem PL.zip {H : Hp} {ts : List Addr} {ps : List LP} (h : PL K H ts ps) : ∀ b ∈ ts.zip ps, LpAt K H b.1 b.2 := by
  induction h with
  | nil => intro b hb; simp at hb
  | cons h1 h2 ih =>
    intro b hb
    rw [List.zip_cons_cons] at hb
    rcases List.mem_cons.mp hb with rfl | hb
    · exact h1
    · exact ih b hb
theorem zip_sort {ts : List Addr} {ps : List LP} (hl : ts.length = ps.length) (h : ps.Pairwise fun a b => leL a b = true) : (((ts.zip ps).map fun b => (V.ref b.1, lpD b.2)).mergeSort (PySem.W.dataLe false Prod.snd)).map Prod.fst = ts.map V.ref := by
  rw [List.mergeSort_of_pairwise]
  · rw [List.map_map]
    have : (Prod.fst ∘ fun b : Addr × LP => (V.ref b.1, lpD b.2)) = V.ref ∘ Prod.fst := rfl
    rw [this, ← List.map_map, List.map_fst_zip (by omega)]
  · rw [List.pairwise_map]
    have h2 : ((ts.zip ps).map Prod.snd).Pairwise fun a b => leL a b = true := by rw [List.map_snd_zip (by omega)]; exact h
    exact List.pairwise_map.mp h2
theorem lp_alike (ps : List LP) : PySem.W.AllAlike (ps.map lpD) ∧ PySem.W.Sortable (ps.map lpD) := by
  refine ⟨fun d hd d' hd' => ?_, .inl fun d hd => ?_⟩
  · obtain ⟨x, _, rfl⟩ := List.mem_map.mp hd
    obtain ⟨y, _, rfl⟩ := List.mem_map.mp hd'
    rfl
  · obtain ⟨x, _, rfl⟩ := List.mem_map.mp hd
    exact ⟨_, _, rfl⟩
def spGr (K : PySem.W.Frag) (s : Bool) : Sp := fun vs H Q _ => ∃ (a : Addr) (n S : Nat) (zs : List (Fr × Fr)), vs = [.ref a, .int (n : Int)] ∧ n ≤ 6 ∧ PRows K H a zs ∧ RowsZ S zs ∧ AscZ zs ∧
  ∀ (H' : Hp) (t b l : Addr), Kp [] H H' → H' t = some (.tup [.ref b, .ref l]) → FrAt K H' b (bndF s zs n) → LpsAt K H' l (lostL s zs n) → Q (.ref t) H'
theorem ok_greatest {P : Program} {w : World} {K : PySem.W.Frag} {mg : Str → Option Value} {base : Heap} (T : T P K mg base) : FnOk P w K mg base CX0 9 T.a_greatest T.fd_greatest ["rows", "retries"] (spGr K true) := by
  refine T.F_greatest.ok sc_greatest (fun vs H Q E h => ?_) (fun cdv A outer s H vs Q E hr h => ?_)
  · obtain ⟨a, n, S, zs, rfl, _⟩ := h
    rfl
  · obtain ⟨a, n, S, zs, rfl, hn, ⟨rs, ea, hA, hv⟩, hZ, hasc, q⟩ := h
    have hrl : rs.length = zs.length := by rw [← hv, List.length_map]
    have hz3 := hZ.len
    have hB : BndOk true (rs.map PRow.v) n := by rw [hv]; exact bnd_ok hZ hn
    refine ⟨_, (pss_cons (ps_set (i := 2) sc_greatest.nd rfl (by first | exact Or.inl rfl | exact Or.inr rfl) (pe_call (ok_ceilings T) (hr.mono (by decide)) (by rfl) T.g_ceilings T.F_ceilings.kp T.b_ceilings .nil pass0 (pa_cons (pv 0) (pa_cons (pv 1) pa_nil))))
      (pss_cons (ps_set (i := 3) sc_greatest.nd rfl (by first | exact Or.inl rfl | exact Or.inr rfl) (pe_lst pa_nil))
      (pss_cons (ps_for PassesOwn.never rfl (pi_range2 (by rfl) T.z_range (pa_cons pe_int (pa_cons (pe_op op_add (pv 1) pe_int) pa_nil))) (pg_name (i := 4) sc_greatest.nd rfl (by first | exact Or.inl rfl | exact Or.inr rfl)) (pss_one (ps_expr (pe_bm PySem.F.plainAttrs_list PySem.F.slot_list_extend PySem.F.type_list_extend mt_extend (pv 3) (pa_cons (pe_lc (own := [("number", 5), ("chance", 6)]) (g := gTup K 2 (gCons (gName 5) (gCons (gName 6) gNil))) rfl sc_greatest.nd (pi_list (pv 0)) (blkOk_by (own := [("number", 5), ("chance", 6)]) (N := N_greatest) (sc := defScope s_greatest) (by decide +kernel)) (fun _ _ _ _ _ => (pg_tup rfl (pgs_cons (pg_name (i := 5) sc_greatest.nd rfl (by first | exact Or.inl rfl | exact Or.inr rfl)) (pgs_cons (pg_name (i := 6) sc_greatest.nd rfl (by first | exact Or.inl rfl | exact Or.inr rfl)) pgs_nil)))) (fun _ _ _ _ _ => (pts_one (pt_val (pe_call (ok_less T) (hr.mono (by decide)) (by rfl) T.g_less T.F_less.kp T.b_less .nil pass0 (pa_cons (pv 5) (pa_cons (pe_ix (ix_list : IxR _ (rIxL K)) (pv 2) (pe_op op_sub (pv 4) pe_int) (fun _ _ => rfl)) pa_nil)))))) (fun _ _ _ _ _ => (pe_tup (pa_cons (pv 4) (pa_cons (pv 5) pa_nil))))) pa_nil)))))
      (pss_one (ps_ret (pe_tup (pa_cons (pe_ix ix_list (pv 2) (pe_un un_neg pe_int) (fun _ _ => rfl)) (pa_cons (pe_callB ((RL.cr_sortedD hr.units) : CallR _ _ (RL.rSortedD K)) (by rfl) T.z_sorted (by decide +kernel) (pa_cons (pv 3) pa_nil)) pa_nil)))))))), ?_⟩
    walk_at "z0"
    walk_at "z"
    refine ⟨a, rs, n, rfl, lstL ea, hA, hB, fun H1 B nB k1 ⟨as, eB, hF⟩ => ?_⟩
    rw [hv] at hF
    have hal : as.length = n + 1 := by rw [hF.len, bnds_len]
    walk_at "z"
    refine Z.lstK (fun F H2 nF k2 e2 => ?_)
    walk_at "z"
    have hBF : B ≠ F := fun z => by rw [z, nF] at eB; cases eB
    refine Z.forr2 n (by omega) ⟨by omega, by omega, by omega, by omega⟩ (fun i σ' H' => ∃ (y4 y5 y6 : Option V) (ts : List Addr), σ' = [some (.ref a), some (.int (n : Int)), some (.ref B), some (.ref F), y4, y5, y6] ∧ Kp [] H1 H' ∧ H' F = some (.lst (ts.map V.ref)) ∧ PL K H' ts (lostL true zs i) ∧ ts.length ≤ 3 * i) ?_ ?_ ?_
    · exact ⟨_, _, _, [], rfl, k2, e2, .nil, Nat.le_refl _⟩
    · rintro i σ' H3 hi ⟨y4, y5, y6, ts, rfl, k3, eF3, P3, l3⟩
      rw [show (1 : Int) + (i : Int) = ((i + 1 : Nat) : Int) by omega]
      have hxa : (as.map V.ref)[i]? = some (.ref (as[i])) := by rw [List.getElem?_map, List.getElem?_eq_getElem (by omega)]; rfl
      obtain ⟨x, f, ex', hf, hxA⟩ := hF.get hxa
      rw [ex'] at hxa
      have hfe : f = bndF true zs i := by
        unfold bnds at hf
        rw [List.getElem?_map, List.getElem?_range (by omega)] at hf
        exact (Option.some.inj hf).symm
      subst hfe
      have ax : atI (as.map V.ref) (((i + 1 : Nat) : Int) - 1) = some (.ref x) := by
        rw [show ((i + 1 : Nat) : Int) - 1 = (i : Int) by omega]
        exact atI_nat hxa
      have hbd := bnd_bd (s := true) hZ (show i ≤ 6 by omega)
      have hbB : FrB 100 (bndF true zs i) := by
        have hD := bD_ok hZ
        exact den_B (n := 40) (d := 34) hbd.low hbd.den hD.1 hD.2 (by decide) (by decide)
      walk_at "z"
      refine ⟨Z.tyL eF3, ?_⟩
      walk_at "z"
      refine Z.lcl (rs.map PRow.r) (lstL ((k1.trans k3).get nin0 ea)) (fun D j H' => ∃ us : List Addr, Kp [] H3 H' ∧ H' D = some (.lst (us.map V.ref)) ∧ PL K H' us (((zs.take j).filter fun z => loseF true zs (i + 1) z.1).map fun z => (((i + 1 : Nat) : Int), z.1)) ∧ us.length ≤ j) ?_ ?_ ?_ ?_
      · intro D H4 nD k4 e4
        exact ⟨[], k4, e4, .nil, Nat.le_refl _⟩
      · rintro D j H4 nD hj ⟨us, k4, _⟩
        exact lstL (((k1.trans k3).trans k4).get nin0 ea)
      · rintro D j v H4 nD hv4 ⟨us, k4, e4, P4, l4⟩
        rw [List.getElem?_map] at hv4
        obtain ⟨p, hp, rfl⟩ := Option.map_eq_some_iff.mp hv4
        have hpA := (hA p (List.mem_of_getElem? hp)).kp0 ((k1.trans k3).trans k4)
        have hjl := (List.getElem?_eq_some_iff.mp hp).1
        have hzj : zs[j]? = some p.v := by rw [← hv, List.getElem?_map, hp]; rfl
        have hzm := List.mem_of_getElem? hzj
        have n1 : Low p.g := hZ.num p.v hzm
        have n2 : FrB 10 p.g := (hZ.nums p.v hzm).1
        have eB4 := (k3.trans k4).get nin0 eB
        have hx4 := hxA.kp0 (k3.trans k4)
        dsimp only [wipe, List.set]
        refine Z.gtup hpA.tup rfl ?_
        walk_at "z"
        refine ⟨rfl, ?_⟩
        walk_at "z"
        refine Z.ixL (lstL eB4) ax ?_
        walk_at "z"
        refine ⟨p.b, x, p.g, _, rfl, hpA.num, hx4, n2.mono (by decide), hbB.mono (by decide), ?_⟩
        rw [fless_iff n1.1 hbd.low.1]
        by_cases c : rv p.g < rv (bndF true zs i)
        · rw [decide_eq_true c]
          walk_at "z"
          refine Z.tupK (fun t H5 nt k5 e5 => ?_)
          have e5D := k5.get nin0 e4
          have hrow : LpAt K H5 t (((i + 1 : Nat) : Int), p.g) := ⟨p.b, e5, hpA.num.kp0 k5⟩
          have kD : Kp [D] H5 (upd H5 D (.lst (us.map V.ref ++ [.ref t]))) := Kp.put (by simp)
          refine ⟨_, e5D, Z.szl (m := 1000) (by rw [List.length_map]; omega), us ++ [t], (k4.trans k5).mut nD rfl, by rw [upd_same, List.map_append]; rfl, ?_, by simp; omega⟩
          rw [List.take_add_one, hzj, List.filter_append, List.map_append]
          rw [show ((some p.v).toList.filter fun z => loseF true zs (i + 1) z.1) = [p.v] from List.filter_cons_of_pos (by show decide (rv p.g < rv (bndF true zs i)) = true; exact decide_eq_true c)]
          exact ((P4.kp0 k5).snoc hrow).kpl kD e5D
        · rw [decide_eq_false c]
          walk_at "z"
          refine ⟨us, k4, e4, ?_, by omega⟩
          rw [List.take_add_one, hzj, List.filter_append, List.map_append]
          rw [show ((some p.v).toList.filter fun z => loseF true zs (i + 1) z.1) = [] from List.filter_cons_of_neg (by show ¬ decide (rv p.g < rv (bndF true zs i)) = true; rw [decide_eq_false c]; decide)]
          rw [List.map_nil, List.append_nil]
          exact P4
      · rintro D H4 nD ⟨us, k4, e4, P4, l4⟩
        rw [List.length_map] at P4 l4
        rw [hrl, List.take_length] at P4
        have eF4 := k4.get nin0 eF3
        walk_at "z"
        refine ⟨F, D, _, _, rfl, rfl, eF4, e4, Nat.le_trans (show _ ≤ 100000 by rw [List.length_map, List.length_map]; omega) (by decide), ?_⟩
        have kF : Kp [F] H4 (upd H4 F (.lst (ts.map V.ref ++ us.map V.ref))) := Kp.put (by simp)
        walk_at "z"
        refine ⟨_, _, _, ts ++ us, rfl, (k3.trans k4).mut nF rfl, by rw [upd_same, List.map_append], ?_, by rw [List.length_append]; omega⟩
        rw [lostL_succ]
        exact ((P3.kp0 k4).kpl kF eF4).app (P4.kpl kF eF4)
    · rintro σ' H3 ⟨y4, y5, y6, ts, rfl, k3, eF3, P3, l3⟩
      rw [bnds_snoc] at hF
      obtain ⟨bs, b, rfl, F4, hb⟩ := frs_last hF
      rw [List.map_append] at eB
      have htl := P3.len
      have hm : (ts.zip (lostL true zs n)).map Prod.fst = ts := List.map_fst_zip (by omega)
      have hm2 : (ts.zip (lostL true zs n)).map Prod.snd = lostL true zs n := List.map_snd_zip (by omega)
      walk_at "z"
      refine Z.ixL (lstL (k3.get nin0 eB)) (atI_last _ _) ?_
      walk_at "z"
      refine ⟨F, (ts.zip (lostL true zs n)).map fun b => (V.ref b.1, lpD b.2), rfl, lstL (by
        rw [eF3, List.map_map]
        conv => lhs; rw [← hm, List.map_map]
        rfl), fun b hb => ?_, ?_, ?_, fun b hb => ?_, fun l nl => ?_⟩
      · obtain ⟨y, hy, rfl⟩ := List.mem_map.mp hb
        exact (P3.zip y hy).dp
      · have e : ((ts.zip (lostL true zs n)).map fun b => (V.ref b.1, lpD b.2)).map Prod.snd = (lostL true zs n).map lpD := by
          rw [List.map_map]
          conv => rhs; rw [← hm2, List.map_map]
          rfl
        rw [e]
        exact (lp_alike _).1
      · have e : ((ts.zip (lostL true zs n)).map fun b => (V.ref b.1, lpD b.2)).map Prod.snd = (lostL true zs n).map lpD := by
          rw [List.map_map]
          conv => rhs; rw [← hm2, List.map_map]
          rfl
        rw [e]
        exact (lp_alike _).2
      · obtain ⟨y, hy, rfl⟩ := List.mem_map.mp hb
        show (lpD y.2).depth ≤ 60
        simp [lpD, frD, PyData.depth, PyData.depthAll]
      · rw [zip_sort htl (lostL_asc hasc n)]
        have kl : Kp [] H3 (upd H3 l (.lst (ts.map V.ref))) := Kp.new nl
        have el : upd H3 l (.lst (ts.map V.ref)) l = some (.lst (ts.map V.ref)) := upd_same
        generalize upd H3 l (.lst (ts.map V.ref)) = H4 at kl el ⊢
        walk_at "z"
        refine Z.tupK (fun t H5 nt k5 e5 => ?_)
        walk_at "z"
        have k35 := kl.trans k5
        exact q H5 t b l (k1.trans (k3.trans k35)) e5 (hb.kp0 (k3.trans k35)) ⟨ts, k5.get nin0 el, P3.kp0 k35⟩
theorem ok_least {P : Program} {w : World} {K : PySem.W.Frag} {mg : Str → Option Value} {base : Heap} (T : T P K mg base) : FnOk P w K mg base CX0 9 T.a_least T.fd_least ["rows", "retries"] (spGr K false) := by
  refine T.F_least.ok sc_least (fun vs H Q E h => ?_) (fun cdv A outer s H vs Q E hr h => ?_)
  · obtain ⟨a, n, S, zs, rfl, _⟩ := h
    rfl
  · obtain ⟨a, n, S, zs, rfl, hn, ⟨rs, ea, hA, hv⟩, hZ, hasc, q⟩ := h
    have hrl : rs.length = zs.length := by rw [← hv, List.length_map]
    have hz3 := hZ.len
    have hB : BndOk false (rs.map PRow.v) n := by rw [hv]; exact bnd_ok hZ hn
    refine ⟨_, (pss_cons (ps_set (i := 2) sc_least.nd rfl (by first | exact Or.inl rfl | exact Or.inr rfl) (pe_call (ok_floors T) (hr.mono (by decide)) (by rfl) T.g_floors T.F_floors.kp T.b_floors .nil pass0 (pa_cons (pv 0) (pa_cons (pv 1) pa_nil))))
      (pss_cons (ps_set (i := 3) sc_least.nd rfl (by first | exact Or.inl rfl | exact Or.inr rfl) (pe_lst pa_nil))
      (pss_cons (ps_for PassesOwn.never rfl (pi_range2 (by rfl) T.z_range (pa_cons pe_int (pa_cons (pe_op op_add (pv 1) pe_int) pa_nil))) (pg_name (i := 4) sc_least.nd rfl (by first | exact Or.inl rfl | exact Or.inr rfl)) (pss_one (ps_expr (pe_bm PySem.F.plainAttrs_list PySem.F.slot_list_extend PySem.F.type_list_extend mt_extend (pv 3) (pa_cons (pe_lc (own := [("number", 5), ("chance", 6)]) (g := gTup K 2 (gCons (gName 5) (gCons (gName 6) gNil))) rfl sc_least.nd (pi_list (pv 0)) (blkOk_by (own := [("number", 5), ("chance", 6)]) (N := N_least) (sc := defScope s_least) (by decide +kernel)) (fun _ _ _ _ _ => (pg_tup rfl (pgs_cons (pg_name (i := 5) sc_least.nd rfl (by first | exact Or.inl rfl | exact Or.inr rfl)) (pgs_cons (pg_name (i := 6) sc_least.nd rfl (by first | exact Or.inl rfl | exact Or.inr rfl)) pgs_nil)))) (fun _ _ _ _ _ => (pts_one (pt_val (pe_call (ok_less T) (hr.mono (by decide)) (by rfl) T.g_less T.F_less.kp T.b_less .nil pass0 (pa_cons (pe_ix (ix_list : IxR _ (rIxL K)) (pv 2) (pe_op op_sub (pv 4) pe_int) (fun _ _ => rfl)) (pa_cons (pv 5) pa_nil)))))) (fun _ _ _ _ _ => (pe_tup (pa_cons (pv 4) (pa_cons (pv 5) pa_nil))))) pa_nil)))))
      (pss_one (ps_ret (pe_tup (pa_cons (pe_ix ix_list (pv 2) (pe_un un_neg pe_int) (fun _ _ => rfl)) (pa_cons (pe_callB ((RL.cr_sortedD hr.units) : CallR _ _ (RL.rSortedD K)) (by rfl) T.z_sorted (by decide +kernel) (pa_cons (pv 3) pa_nil)) pa_nil)))))))), ?_⟩
    walk_at "z0"
    walk_at "z"
    refine ⟨a, rs, n, rfl, lstL ea, hA, hB, fun H1 B nB k1 ⟨as, eB, hF⟩ => ?_⟩
    rw [hv] at hF
    have hal : as.length = n + 1 := by rw [hF.len, bnds_len]
    walk_at "z"
    refine Z.lstK (fun F H2 nF k2 e2 => ?_)
    walk_at "z"
    have hBF : B ≠ F := fun z => by rw [z, nF] at eB; cases eB
    refine Z.forr2 n (by omega) ⟨by omega, by omega, by omega, by omega⟩ (fun i σ' H' => ∃ (y4 y5 y6 : Option V) (ts : List Addr), σ' = [some (.ref a), some (.int (n : Int)), some (.ref B), some (.ref F), y4, y5, y6] ∧ Kp [] H1 H' ∧ H' F = some (.lst (ts.map V.ref)) ∧ PL K H' ts (lostL false zs i) ∧ ts.length ≤ 3 * i) ?_ ?_ ?_
    · exact ⟨_, _, _, [], rfl, k2, e2, .nil, Nat.le_refl _⟩
    · rintro i σ' H3 hi ⟨y4, y5, y6, ts, rfl, k3, eF3, P3, l3⟩
      rw [show (1 : Int) + (i : Int) = ((i + 1 : Nat) : Int) by omega]
      have hxa : (as.map V.ref)[i]? = some (.ref (as[i])) := by rw [List.getElem?_map, List.getElem?_eq_getElem (by omega)]; rfl
      obtain ⟨x, f, ex', hf, hxA⟩ := hF.get hxa
      rw [ex'] at hxa
      have hfe : f = bndF false zs i := by
        unfold bnds at hf
        rw [List.getElem?_map, List.getElem?_range (by omega)] at hf
        exact (Option.some.inj hf).symm
      subst hfe
      have ax : atI (as.map V.ref) (((i + 1 : Nat) : Int) - 1) = some (.ref x) := by
        rw [show ((i + 1 : Nat) : Int) - 1 = (i : Int) by omega]
        exact atI_nat hxa
      have hbd := bnd_bd (s := false) hZ (show i ≤ 6 by omega)
      have hbB : FrB 100 (bndF false zs i) := by
        have hD := bD_ok hZ
        exact den_B (n := 40) (d := 34) hbd.low hbd.den hD.1 hD.2 (by decide) (by decide)
      walk_at "z"
      refine ⟨Z.tyL eF3, ?_⟩
      walk_at "z"
      refine Z.lcl (rs.map PRow.r) (lstL ((k1.trans k3).get nin0 ea)) (fun D j H' => ∃ us : List Addr, Kp [] H3 H' ∧ H' D = some (.lst (us.map V.ref)) ∧ PL K H' us (((zs.take j).filter fun z => loseF false zs (i + 1) z.1).map fun z => (((i + 1 : Nat) : Int), z.1)) ∧ us.length ≤ j) ?_ ?_ ?_ ?_
      · intro D H4 nD k4 e4
        exact ⟨[], k4, e4, .nil, Nat.le_refl _⟩
      · rintro D j H4 nD hj ⟨us, k4, _⟩
        exact lstL (((k1.trans k3).trans k4).get nin0 ea)
      · rintro D j v H4 nD hv4 ⟨us, k4, e4, P4, l4⟩
        rw [List.getElem?_map] at hv4
        obtain ⟨p, hp, rfl⟩ := Option.map_eq_some_iff.mp hv4
        have hpA := (hA p (List.mem_of_getElem? hp)).kp0 ((k1.trans k3).trans k4)
        have hjl := (List.getElem?_eq_some_iff.mp hp).1
        have hzj : zs[j]? = some p.v := by rw [← hv, List.getElem?_map, hp]; rfl
        have hzm := List.mem_of_getElem? hzj
        have n1 : Low p.g := hZ.num p.v hzm
        have n2 : FrB 10 p.g := (hZ.nums p.v hzm).1
        have eB4 := (k3.trans k4).get nin0 eB
        have hx4 := hxA.kp0 (k3.trans k4)
        dsimp only [wipe, List.set]
        refine Z.gtup hpA.tup rfl ?_
        walk_at "z"
        refine ⟨rfl, ?_⟩
        walk_at "z"
        refine Z.ixL (lstL eB4) ax ?_
        walk_at "z"
        refine ⟨x, p.b, _, p.g, rfl, hx4, hpA.num, hbB.mono (by decide), n2.mono (by decide), ?_⟩
        rw [fless_iff hbd.low.1 n1.1]
        by_cases c : rv (bndF false zs i) < rv p.g
        · rw [decide_eq_true c]
          walk_at "z"
          refine Z.tupK (fun t H5 nt k5 e5 => ?_)
          have e5D := k5.get nin0 e4
          have hrow : LpAt K H5 t (((i + 1 : Nat) : Int), p.g) := ⟨p.b, e5, hpA.num.kp0 k5⟩
          have kD : Kp [D] H5 (upd H5 D (.lst (us.map V.ref ++ [.ref t]))) := Kp.put (by simp)
          refine ⟨_, e5D, Z.szl (m := 1000) (by rw [List.length_map]; omega), us ++ [t], (k4.trans k5).mut nD rfl, by rw [upd_same, List.map_append]; rfl, ?_, by simp; omega⟩
          rw [List.take_add_one, hzj, List.filter_append, List.map_append]
          rw [show ((some p.v).toList.filter fun z => loseF false zs (i + 1) z.1) = [p.v] from List.filter_cons_of_pos (by show decide (rv (bndF false zs i) < rv p.g) = true; exact decide_eq_true c)]
          exact ((P4.kp0 k5).snoc hrow).kpl kD e5D
        · rw [decide_eq_false c]
          walk_at "z"
          refine ⟨us, k4, e4, ?_, by omega⟩
          rw [List.take_add_one, hzj, List.filter_append, List.map_append]
          rw [show ((some p.v).toList.filter fun z => loseF false zs (i + 1) z.1) = [] from List.filter_cons_of_neg (by show ¬ decide (rv (bndF false zs i) < rv p.g) = true; rw [decide_eq_false c]; decide)]
          rw [List.map_nil, List.append_nil]
          exact P4
      · rintro D H4 nD ⟨us, k4, e4, P4, l4⟩
        rw [List.length_map] at P4 l4
        rw [hrl, List.take_length] at P4
        have eF4 := k4.get nin0 eF3
        walk_at "z"
        refine ⟨F, D, _, _, rfl, rfl, eF4, e4, Nat.le_trans (show _ ≤ 100000 by rw [List.length_map, List.length_map]; omega) (by decide), ?_⟩
        have kF : Kp [F] H4 (upd H4 F (.lst (ts.map V.ref ++ us.map V.ref))) := Kp.put (by simp)
        walk_at "z"
        refine ⟨_, _, _, ts ++ us, rfl, (k3.trans k4).mut nF rfl, by rw [upd_same, List.map_append], ?_, by rw [List.length_append]; omega⟩
        rw [lostL_succ]
        exact ((P3.kp0 k4).kpl kF eF4).app (P4.kpl kF eF4)
    · rintro σ' H3 ⟨y4, y5, y6, ts, rfl, k3, eF3, P3, l3⟩
      rw [bnds_snoc] at hF
      obtain ⟨bs, b, rfl, F4, hb⟩ := frs_last hF
      rw [List.map_append] at eB
      have htl := P3.len
      have hm : (ts.zip (lostL false zs n)).map Prod.fst = ts := List.map_fst_zip (by omega)
      have hm2 : (ts.zip (lostL false zs n)).map Prod.snd = lostL false zs n := List.map_snd_zip (by omega)
      walk_at "z"
      refine Z.ixL (lstL (k3.get nin0 eB)) (atI_last _ _) ?_
      walk_at "z"
      refine ⟨F, (ts.zip (lostL false zs n)).map fun b => (V.ref b.1, lpD b.2), rfl, lstL (by
        rw [eF3, List.map_map]
        conv => lhs; rw [← hm, List.map_map]
        rfl), fun b hb => ?_, ?_, ?_, fun b hb => ?_, fun l nl => ?_⟩
      · obtain ⟨y, hy, rfl⟩ := List.mem_map.mp hb
        exact (P3.zip y hy).dp
      · have e : ((ts.zip (lostL false zs n)).map fun b => (V.ref b.1, lpD b.2)).map Prod.snd = (lostL false zs n).map lpD := by
          rw [List.map_map]
          conv => rhs; rw [← hm2, List.map_map]
          rfl
        rw [e]
        exact (lp_alike _).1
      · have e : ((ts.zip (lostL false zs n)).map fun b => (V.ref b.1, lpD b.2)).map Prod.snd = (lostL false zs n).map lpD := by
          rw [List.map_map]
          conv => rhs; rw [← hm2, List.map_map]
          rfl
        rw [e]
        exact (lp_alike _).2
      · obtain ⟨y, hy, rfl⟩ := List.mem_map.mp hb
        show (lpD y.2).depth ≤ 60
        simp [lpD, frD, PyData.depth, PyData.depthAll]
      · rw [zip_sort htl (lostL_asc hasc n)]
        have kl : Kp [] H3 (upd H3 l (.lst (ts.map V.ref))) := Kp.new nl
        have el : upd H3 l (.lst (ts.map V.ref)) l = some (.lst (ts.map V.ref)) := upd_same
        generalize upd H3 l (.lst (ts.map V.ref)) = H4 at kl el ⊢
        walk_at "z"
        refine Z.tupK (fun t H5 nt k5 e5 => ?_)
        walk_at "z"
        have k35 := kl.trans k5
        exact q H5 t b l (k1.trans (k3.trans k35)) e5 (hb.kp0 (k3.trans k35)) ⟨ts, k5.get nin0 el, P3.kp0 k35⟩
/-- the mean of what arrives -/
def spMBy (K : PySem.W.Frag) (C P : Addr) : Sp := fun vs H Q _ => ∃ (a l : Addr) (n S : Nat) (zs : List (Fr × Fr)) (ps : List LP), vs = [.ref a, .int (n : Int), .ref l] ∧ n ≤ 6 ∧ Tabs [(P, LQ)] H ∧ PRows K H a zs ∧ RowsZ S zs ∧ LpsAt K H l ps ∧ ps.length ≤ 1000 ∧
  ∀ (H' : Hp) (c : Addr), ExtN H H' → Tabs [(P, LQ)] H' → FrAt K H' c (meanV (LA (lostF ps) zs n)) → Q (.ref c) H'
theorem ok_mean_by {P : Program} {w : World} {K : PySem.W.Frag} {mg : Str → Option Value} {base : Heap} (T : T P K mg base) : FnOk P w K mg base (L2.CX P w) 9 T.a_mean_by T.fd_mean_by ["rows", "retries", "lost"] (spMBy K T.C_InvalidLaw T.P_law_from) := by
  refine T.F_mean_by.okX sc_mean_by (fun vs H Q E h => ?_) (fun cdv A outer s H vs Q E hr h => ?_)
  · obtain ⟨a, l, n, S, zs, ps, rfl, _⟩ := h
    rfl
  · obtain ⟨a, l, n, S, zs, ps, rfl, hn, hT, hR, hZ, hL, hpl, q⟩ := h
    refine ⟨_, (pss_one (ps_ret (pe_call (ok_mean T) (hr.mono (by decide)) (by rfl) T.g_mean T.F_mean.kp T.b_mean .nil pass0 (pa_cons (pe_call (ok_arrived T) (hr.mono (by decide)) (by rfl) T.g_arrived T.F_arrived.kp T.b_arrived .nil (passes_call (takes_of rfl rfl rfl rfl) (fun _ _ _ _ h => h)) (pa_cons (pv 0) (pa_cons (pv 1) (pa_cons (pv 2) pa_nil)))) pa_nil)))), ?_⟩
    walk_at "z0"
    walk_at "z"
    refine ⟨a, l, n, S, zs, ps, rfl, hn, hT, hR, hZ, hL, hpl, fun H1 d x1 T1 ⟨rs, e1, A1, v1⟩ => ?_⟩
    walk_at "z"
    refine ⟨d, rs, rfl, lstL e1, A1, (LA_mv hZ hn).1.to v1, fun H2 c k2 e2 => ?_⟩
    rw [meanF_v, v1] at e2
    walk_at "z"
    exact q H2 c (x1.trans (ext_kp k2)) (tabs_kp T1 k2) e2
end great46

/-! ### tables of what is lost -/
section tabs46
variable {K : PySem.W.Frag}
open LamX hiding takes0
open LamK
def allR (zs : List (Fr × Fr)) (i : Nat) : List LP := zs.map fun z => (((i + 1 : Nat) : Int), z.1)
def allP (zs : List (Fr × Fr)) (n : Nat) : List LP := (List.range n).flatMap (allR zs)
theorem allP_succ (zs : List (Fr × Fr)) (n : Nat) : allP zs (n + 1) = allP zs n ++ allR zs n := by
  unfold allP
  rw [List.range_succ, List.flatMap_append]
  simp
theorem allP_len (zs : List (Fr × Fr)) : ∀ n, (allP zs n).length = n * zs.length
  | 0 => by show ([] : List LP).length = _; simp
  | n + 1 => by
    rw [allP_succ, List.length_append, allP_len zs n]
    unfold allR
    rw [List.length_map, Nat.add_mul, Nat.one_mul]
/-- all parts of a list -/
def subsF (ps : List LP) : List (List LP) := ps.foldl (fun F p => F ++ F.map (· ++ [p])) [[]]
theorem subsF_snoc (ps : List LP) (p : LP) : subsF (ps ++ [p]) = subsF ps ++ (subsF ps).map (· ++ [p]) := by
  unfold subsF
  rw [List.foldl_append]
  rfl
theorem subsF_take {ps : List LP} {i : Nat} {p : LP} (h : ps[i]? = some p) : subsF (ps.take (i + 1)) = subsF (ps.take i) ++ (subsF (ps.take i)).map (· ++ [p]) := by
  rw [List.take_add_one, h]
  exact subsF_snoc _ _
theorem subsF_filter (f : LP → Bool) (ps : List LP) : ∀ n, n ≤ ps.length → (ps.take n).filter f ∈ subsF (ps.take n)
  | 0, _ => by rw [List.take_zero]; show [] ∈ [[]]; simp
  | n + 1, h => by
    have ih := subsF_filter f ps n (by omega)
    have e : ps[n]? = some ps[n] := List.getElem?_eq_getElem (by omega)
    rw [subsF_take e, List.take_add_one, e, List.filter_append]
    by_cases c : f ps[n] = true
    · refine List.mem_append_right _ (List.mem_map.mpr ⟨_, ih, ?_⟩)
      show _ = _ ++ [ps[n]].filter f
      rw [List.filter_cons_of_pos c]
      rfl
    · refine List.mem_append_left _ ?_
      show _ ++ [ps[n]].filter f ∈ _
      rw [List.filter_cons_of_neg c]
      simpa using ih
theorem subsF_len (ps : List LP) : ∀ n, n ≤ ps.length → (subsF (ps.take n)).length = 2 ^ n ∧ ∀ x ∈ subsF (ps.take n), x.length ≤ n
  | 0, _ => by rw [List.take_zero]; exact ⟨rfl, by intro x hx; have : x ∈ [([] : List LP)] := hx; rw [List.mem_singleton.mp this]; simp⟩
  | n + 1, h => by
    obtain ⟨a, b⟩ := subsF_len ps n (by omega)
    have e : ps[n]? = some ps[n] := List.getElem?_eq_getElem (by omega)
    rw [subsF_take e]
    refine ⟨by rw [List.length_append, List.length_map, a, Nat.pow_succ]; omega, fun x hx => ?_⟩
    rcases List.mem_append.mp hx with hx | hx
    · have := b x hx; omega
    · obtain ⟨y, hy, rfl⟩ := List.mem_map.mp hx
      have := b y hy
      simp; omega
/-- lists of lists of pairs -/
abbrev TL (K : PySem.W.Frag) (H : Hp) (ls : List Addr) (pss : List (List LP)) : Prop := Paired (fun l ps => LpsAt K H l ps) ls pss
theorem TL.kp0 {H H' : Hp} {ls : List Addr} {pss : List (List LP)} (h : TL K H ls pss) (k : Kp [] H H') : TL K H' ls pss := by
  induction h with
  | nil => exact .nil
  | cons h1 h2 ih => exact .cons (LpsAt.kp0 h1 k) ih
theorem LpsAt.kpl {H H' : Hp} {l b : Addr} {ps : List LP} {xs : List V} (h : LpsAt K H l ps) (k : Kp [b] H H') (e : H b = some (.lst xs)) (n : l ≠ b) : LpsAt K H' l ps := by
  obtain ⟨ts, e1, p⟩ := h
  exact ⟨ts, k.get (nin1 n) e1, PL.kpl p k e⟩
theorem TL.kpl {H H' : Hp} {b : Addr} {ls : List Addr} {pss : List (List LP)} {xs : List V} (h : TL K H ls pss) (k : Kp [b] H H') (e : H b = some (.lst xs)) (n : ∀ l ∈ ls, l ≠ b) : TL K H' ls pss := by
  induction h with
  | nil => exact .nil
  | cons h1 h2 ih => exact .cons (LpsAt.kpl h1 k e (n _ (by simp))) (ih fun l hl => n l (by simp [hl]))
theorem TL.app {H : Hp} {ls ms : List Addr} {pss qss : List (List LP)} (h : TL K H ls pss) (g : TL K H ms qss) : TL K H (ls ++ ms) (pss ++ qss) := by
  induction h with
  | nil => exact g
  | cons h1 h2 ih => exact .cons h1 ih
theorem TL.snoc {H : Hp} {ls : List Addr} {pss : List (List LP)} {l : Addr} {ps : List LP} (h : TL K H ls pss) (g : LpsAt K H l ps) : TL K H (ls ++ [l]) (pss ++ [ps]) := TL.app h (.cons g .nil)
theorem TL.len {H : Hp} {ls : List Addr} {pss : List (List LP)} (h : TL K H ls pss) : ls.length = pss.length := Paired.length h
theorem TL.get {H : Hp} {ls : List Addr} {pss : List (List LP)} (p : TL K H ls pss) {i : Nat} {v : V} (h : (ls.map V.ref)[i]? = some v) : ∃ l ps, v = .ref l ∧ l ∈ ls ∧ pss[i]? = some ps ∧ LpsAt K H l ps := by
  induction p generalizing i with
  | nil => simp at h
  | @cons t x ts xs h1 h2 ih =>
    cases i with
    | zero =>
      rw [List.map_cons, List.getElem?_cons_zero] at h
      cases h
      exact ⟨t, x, rfl, by simp, rfl, h1⟩
    | succ i =>
      rw [List.map_cons, List.getElem?_cons_succ] at h
      obtain ⟨t', x', e, e1, e2, e3⟩ := ih h
      exact ⟨t', x', e, by simp [e1], by rw [List.getElem?_cons_succ]; exact e2, e3⟩
theorem deck_lst {H : Hp} {a p : Addr} (d : DeckOk H a p) : ∃ xs, H a = some (.lst xs) := by
  obtain ⟨ns, i, r, s, h, _⟩ := d
  exact ⟨_, h⟩
theorem d2D {H : Hp} {a p D : Addr} (n : H D = none) (d : DeckOk H a p) : a ≠ D ∧ p ≠ D := d.ne n
theorem LpsAt.len {H : Hp} {l : Addr} {ps : List LP} {xs : List V} (h : LpsAt K H l ps) (e : H l = some (.lst xs)) : xs.length = ps.length := by
  obtain ⟨ts, e1, p⟩ := h
  rw [e] at e1
  cases e1
  rw [List.length_map]
  exact Paired.length p
def spTabs (K : PySem.W.Frag) : Sp := fun vs H Q _ => ∃ (a p r : Addr) (n S : Nat) (zs : List (Fr × Fr)), vs = [.ref a, .ref r, .int (n : Int)] ∧ n ≤ 6 ∧ DeckOk H a p ∧ PRows K H r zs ∧ RowsZ S zs ∧
  ∀ (H' : Hp) (D : Addr) (ls : List Addr) (pss : List (List LP)), Kp [a] H H' → H D = none → DeckOk H' a p → H' D = some (.lst (ls.map V.ref)) → TL K H' ls pss → (∀ l ∈ ls, H l = none) → (∀ ps ∈ pss, ps.length ≤ 1000) → pss.length ≤ 64 → (pss = subsF (allP zs n) ∨ pss.length = 12) → Q (.ref D) H'
theorem ok__law_tables {P : Program} {w : World} {K : PySem.W.Frag} {mg : Str → Option Value} {base : Heap} (T : T P K mg base) : FnOk P w K mg base CX0 2 T.a__law_tables T.fd__law_tables ["deck", "rows", "retries"] (spTabs K) := by
  refine T.F__law_tables.ok sc__law_tables (fun vs H Q E h => ?_) (fun cdv A outer s H vs Q E hr h => ?_)
  · obtain ⟨a, p, r, n, S, zs, rfl, _⟩ := h
    rfl
  · obtain ⟨a, p, r, n, S, zs, rfl, hn, hd, ⟨rs, er, hA, hv⟩, hZ, q⟩ := h
    have hrl : rs.length = zs.length := by rw [← hv, List.length_map]
    have hz3 := hZ.len
    refine ⟨_, (pss_cons (ps_set (i := 3) sc__law_tables.nd rfl (by first | exact Or.inl rfl | exact Or.inr rfl) (pe_lst pa_nil))
      (pss_cons (ps_for PassesOwn.never rfl (pi_range2 (by rfl) T.z_range (pa_cons pe_int (pa_cons (pe_op op_add (pv 2) pe_int) pa_nil))) (pg_name (i := 4) sc__law_tables.nd rfl (by first | exact Or.inl rfl | exact Or.inr rfl)) (pss_one (ps_set (i := 3) sc__law_tables.nd rfl (by first | exact Or.inl rfl | exact Or.inr rfl) (pe_op op_cat (pv 3) (pe_lc (own := [("number", 7), ("chance", 8)]) (g := gTup K 2 (gCons (gName 7) (gCons (gName 8) gNil))) rfl sc__law_tables.nd (pi_list (pv 1)) (blkOk_by (own := [("number", 7), ("chance", 8)]) (N := N__law_tables) (sc := defScope s__law_tables) (by decide +kernel)) (fun _ _ _ _ _ => (pg_tup rfl (pgs_cons (pg_name (i := 7) sc__law_tables.nd rfl (by first | exact Or.inl rfl | exact Or.inr rfl)) (pgs_cons (pg_name (i := 8) sc__law_tables.nd rfl (by first | exact Or.inl rfl | exact Or.inr rfl)) pgs_nil)))) (fun _ _ _ _ _ => pts_nil) (fun _ _ _ _ _ => (pe_tup (pa_cons (pv 4) (pa_cons (pv 7) pa_nil)))))))))
      (pss_cons (ps_if (pt_cmpR op_le (pe_callB c_len (by rfl) T.z_len (by decide +kernel) (pa_cons (pv 3) pa_nil)) pe_int (nomark _)) (pss_cons (ps_set (i := 5) sc__law_tables.nd rfl (by first | exact Or.inl rfl | exact Or.inr rfl) (pe_lst (pa_cons (pe_lst pa_nil) pa_nil)))
      (pss_cons (ps_for PassesOwn.never rfl (pi_list (pv 3)) (pg_name (i := 6) sc__law_tables.nd rfl (by first | exact Or.inl rfl | exact Or.inr rfl)) (pss_one (ps_set (i := 5) sc__law_tables.nd rfl (by first | exact Or.inl rfl | exact Or.inr rfl) (pe_op op_cat (pv 5) (pe_lc (own := [("one", 9)]) (g := gName 9) rfl sc__law_tables.nd (pi_list (pv 5)) (blkOk_by (own := [("one", 9)]) (N := N__law_tables) (sc := defScope s__law_tables) (by decide +kernel)) (fun _ _ _ _ _ => (pg_name (i := 9) sc__law_tables.nd rfl (by first | exact Or.inl rfl | exact Or.inr rfl))) (fun _ _ _ _ _ => pts_nil) (fun _ _ _ _ _ => (pe_op op_cat (pv 9) (pe_lst (pa_cons (pv 6) pa_nil)))))))))
      (pss_one (ps_ret (pv 5))))) pss_nil)
      (pss_one (ps_ret (pe_lc (own := [("turn", 10)]) (g := gName 10) rfl sc__law_tables.nd (pi_range1 (by rfl) T.z_range (pa_cons pe_int pa_nil)) (blkOk_by (own := [("turn", 10)]) (N := N__law_tables) (sc := defScope s__law_tables) (by decide +kernel)) (fun _ _ _ _ _ => (pg_name (i := 10) sc__law_tables.nd rfl (by first | exact Or.inl rfl | exact Or.inr rfl))) (fun _ _ _ _ _ => pts_nil) (fun _ _ _ _ _ => (pe_op op_cat (pe_lc (own := [("pair", 6)]) (g := gName 6) rfl sc__law_tables.nd ((pi_list (pv 3)) : L2.PI _ _ _ (iList K _)) (blkOk_by (own := [("pair", 6)]) (N := N__law_tables) (sc := ({ kind := .function, names := [(".0", .local), ("turn", .local), ("deck", .cell), ("pairs", .cell)], isGenerator := false, isCoroutine := false } : Scope)) (by decide +kernel)) (fun _ _ _ _ _ => (pg_name (i := 6) sc__law_tables.nd rfl (by first | exact Or.inl rfl | exact Or.inr rfl))) (fun _ _ _ _ _ => (pts_one (pt_cmpR op_eq (pe_call (ok__law_draw T) (hr.mono (by decide)) (by rfl) T.g__law_draw T.F__law_draw.kp T.b__law_draw .nil pass0 (pa_cons (pv 0) (pa_cons pe_int pa_nil))) pe_int (nomark _)))) (fun _ _ _ _ _ => (pv 6))) (pe_lst (pa_cons (pe_tup (pa_cons pe_int (pa_cons (pe_tup (pa_cons pe_int (pa_cons pe_int pa_nil))) pa_nil))) (pa_cons (pe_tup (pa_cons pe_int (pa_cons (pe_tup (pa_cons pe_int (pa_cons pe_int pa_nil))) pa_nil))) pa_nil))))))))))), ?_⟩
    walk_at "z0"
    walk_at "z"
    refine Z.lstK (fun P H1 nP k1 e1 => ?_)
    walk_at "z"
    refine Z.forr2 n (by omega) ⟨by omega, by omega, by omega, by omega⟩ (fun i σ' H' => ∃ (y4 y5 y6 y7 y8 y9 y10 : Option V) (P : Addr) (ts : List Addr), σ' = [some (.ref a), some (.ref r), some (.int (n : Int)), some (.ref P), y4, y5, y6, y7, y8, y9, y10] ∧ Kp [] H H' ∧ H P = none ∧ H' P = some (.lst (ts.map V.ref)) ∧ PL K H' ts (allP zs i)) ?_ ?_ ?_
    · exact ⟨_, _, _, _, _, _, _, P, [], rfl, k1, nP, e1, .nil⟩
    · rintro i σ' H2 hi ⟨y4, y5, y6, y7, y8, y9, y10, P2, ts, rfl, k2, nP2, e2, P2L⟩
      rw [show (1 : Int) + (i : Int) = ((i + 1 : Nat) : Int) by omega]
      have htl := P2L.len
      rw [allP_len] at htl
      have hiz : i * zs.length ≤ 6 * 3 := Nat.mul_le_mul (by omega) hz3
      walk_at "z"
      refine Z.lcl (rs.map PRow.r) (lstL (k2.get nin0 er)) (fun D j H' => ∃ us : List Addr, Kp [] H2 H' ∧ H' D = some (.lst (us.map V.ref)) ∧ PL K H' us ((zs.take j).map fun z => (((i + 1 : Nat) : Int), z.1))) ?_ ?_ ?_ ?_
      · intro D H3 nD k3 e3
        exact ⟨[], k3, e3, .nil⟩
      · rintro D j H3 nD hj ⟨us, k3, _⟩
        exact lstL ((k2.trans k3).get nin0 er)
      · rintro D j v H3 nD hv3 ⟨us, k3, e3, P3⟩
        rw [List.getElem?_map] at hv3
        obtain ⟨x, hx, rfl⟩ := Option.map_eq_some_iff.mp hv3
        have hxA := (hA x (List.mem_of_getElem? hx)).kp0 (k2.trans k3)
        have hjl := (List.getElem?_eq_some_iff.mp hx).1
        have hzj : zs[j]? = some x.v := by rw [← hv, List.getElem?_map, hx]; rfl
        have hul := P3.len
        rw [List.length_map, List.length_take] at hul
        dsimp only [wipe, List.set]
        refine Z.gtup hxA.tup rfl ?_
        walk_at "z"
        refine ⟨rfl, ?_⟩
        walk_at "z"
        refine Z.tupK (fun t H4 nt k4 e4 => ?_)
        have e4D := k4.get nin0 e3
        have hrow : LpAt K H4 t (((i + 1 : Nat) : Int), x.g) := ⟨x.b, e4, hxA.num.kp0 k4⟩
        have kD : Kp [D] H4 (upd H4 D (.lst (us.map V.ref ++ [.ref t]))) := Kp.put (by simp)
        refine ⟨_, e4D, Z.szl (m := 1000) (by rw [List.length_map]; omega), us ++ [t], (k3.trans k4).mut nD rfl, by rw [upd_same, List.map_append]; rfl, ?_⟩
        rw [List.take_add_one, hzj, List.map_append]
        exact ((P3.kp0 k4).snoc hrow).kpl kD e4D
      · rintro D H3 nD ⟨us, k3, e3, P3⟩
        rw [List.length_map, hrl, List.take_length] at P3
        have hul := P3.len
        rw [List.length_map] at hul
        refine Z.cat (xs := ts.map V.ref) (zs := us.map V.ref) (k3.get nin0 e2) e3 (by rw [List.length_map, List.length_map]; omega) (fun P4 H4 n4 k4 e4 => ?_)
        walk_at "z"
        refine ⟨_, _, _, _, _, _, _, P4, ts ++ us, rfl, (k2.trans k3).trans k4, (k2.trans k3).none nin0 n4, by rw [e4, List.map_append], ?_⟩
        rw [allP_succ]
        exact (P2L.kp0 (k3.trans k4)).app (P3.kp0 k4)
    rintro σ' H2 ⟨y4, y5, y6, y7, y8, y9, y10, P2, ts, rfl, k2, nP2, e2, P2L⟩
    have htl := P2L.len
    have hiz : (allP zs n).length ≤ 18 := by
      rw [allP_len]
      exact Nat.le_trans (Nat.mul_le_mul hn hz3) (by decide)
    walk_at "z"
    refine Z.lenL (lstL e2) ?_
    rw [List.length_map]
    walk_at "z"
    refine Z.ite (fun h6 => ?_) (fun h6 => ?_)
    · walk_at "z"
      refine Z.lstK (fun m H3 nm k3 e3 => ?_)
      walk_at "z"
      refine Z.lstK (fun F H4 nF k4 e4 => ?_)
      have k24 := k3.trans k4
      have hmL : LpsAt K H4 m [] := ⟨[], k4.get nin0 e3, .nil⟩
      walk_at "z"
      refine Z.forl (ts.map V.ref) (lstL (k24.get nin0 e2)) (fun i σ' H' => ∃ (y4 y6 y7 y8 y9 y10 : Option V) (F : Addr) (ls : List Addr), σ' = [some (.ref a), some (.ref r), some (.int (n : Int)), some (.ref P2), y4, some (.ref F), y6, y7, y8, y9, y10] ∧ Kp [] H2 H' ∧ H2 F = none ∧ H' F = some (.lst (ls.map V.ref)) ∧ TL K H' ls (subsF ((allP zs n).take i)) ∧ ∀ l ∈ ls, H2 l = none) ?_ ?_ ?_ ?_
      · exact ⟨_, _, _, _, _, _, F, [m], rfl, k24, k3.none nin0 nF, e4, .cons hmL .nil, fun l hl => by rw [List.mem_singleton.mp hl]; exact nm⟩
      · rintro i σ' H5 hi ⟨y4, y6, y7, y8, y9, y10, F5, ls, rfl, k5, _⟩
        exact lstL (k5.get nin0 e2)
      · rintro i v σ' H5 hv5 ⟨y4, y6, y7, y8, y9, y10, F5, ls, rfl, k5, nF5, e5, T5, n5⟩
        obtain ⟨t, x, rfl, hx, hxA⟩ := LpsAt.get (l := P2) P2L hv5
        have hil := (List.getElem?_eq_some_iff.mp hx).1
        obtain ⟨s1, s2⟩ := subsF_len (allP zs n) i (by omega)
        have hll := T5.len
        have hpow : 2 ^ i ≤ 2 ^ 6 := Nat.pow_le_pow_right (by decide) (by omega)
        walk_at "z"
        refine Z.lcl (ls.map V.ref) (lstL e5) (fun D j H' => ∃ ms : List Addr, Kp [] H5 H' ∧ H' D = some (.lst (ms.map V.ref)) ∧ TL K H' ms (((subsF ((allP zs n).take i)).take j).map (· ++ [x])) ∧ ∀ l ∈ ms, H5 l = none ∧ l ≠ D) ?_ ?_ ?_ ?_
        · intro D H6 nD k6 e6
          exact ⟨[], k6, e6, .nil, by simp⟩
        · rintro D j H6 nD hj ⟨ms, k6, _⟩
          exact lstL (k6.get nin0 e5)
        · rintro D j v H6 nD hv6 ⟨ms, k6, e6, T6, n6⟩
          obtain ⟨l, ps, rfl, hlm, hps, us, eu, PU⟩ := (T5.kp0 k6).get hv6
          have hjl := (List.getElem?_eq_some_iff.mp hps).1
          have hpl := s2 ps (List.mem_of_getElem? hps)
          have hul := PL.len PU
          have hml := T6.len
          rw [List.length_map, List.length_take] at hml
          dsimp only [wipe, List.set]
          walk_at "z"
          refine ⟨rfl, ?_⟩
          walk_at "z"
          refine Z.lstK (fun o H7 no k7 e7 => ?_)
          refine Z.cat (xs := us.map V.ref) (zs := [V.ref t]) (k7.get nin0 eu) e7 (by rw [List.length_map]; simp; omega) (fun c H8 nc k8 e8 => ?_)
          have k78 := k7.trans k8
          have e8D := k78.get nin0 e6
          have hcD : c ≠ D := fun z => by rw [z, k7.get nin0 e6] at nc; cases nc
          have hnew : LpsAt K H8 c (ps ++ [x]) := ⟨us ++ [t], by rw [e8, List.map_append]; rfl, (PL.kp0 PU k78).snoc (hxA.kp0 ((k5.trans k6).trans k78))⟩
          have kD : Kp [D] H8 (upd H8 D (.lst (ms.map V.ref ++ [.ref c]))) := Kp.put (by simp)
          refine ⟨_, e8D, Z.szl (m := 1000) (by rw [List.length_map]; omega), ms ++ [c], (k6.trans k78).mut nD rfl, by rw [upd_same, List.map_append]; rfl, ?_, fun l hl => ?_⟩
          · rw [List.take_add_one, hps, List.map_append]
            exact ((T6.kp0 k78).snoc hnew).kpl kD e8D fun l hl => by
              rcases List.mem_append.mp hl with hl | hl
              · exact (n6 l hl).2
              · rw [List.mem_singleton.mp hl]; exact hcD
          · rcases List.mem_append.mp hl with hl | hl
            · exact n6 l hl
            · rw [List.mem_singleton.mp hl]
              exact ⟨(k6.trans k7).none nin0 nc, hcD⟩
        · rintro D H6 nD ⟨ms, k6, e6, T6, n6⟩
          rw [List.length_map, hll, List.take_length] at T6
          have hml := T6.len
          rw [List.length_map] at hml
          refine Z.cat (xs := ls.map V.ref) (zs := ms.map V.ref) (k6.get nin0 e5) e6 (by rw [List.length_map, List.length_map]; omega) (fun F7 H7 n7 k7 e7 => ?_)
          walk_at "z"
          refine ⟨_, _, _, _, _, _, F7, ls ++ ms, rfl, (k5.trans k6).trans k7, (k5.trans k6).none nin0 n7, by rw [e7, List.map_append], ?_, fun l hl => ?_⟩
          · rw [subsF_take hx]
            exact (T5.kp0 (k6.trans k7)).app (T6.kp0 k7)
          · rcases List.mem_append.mp hl with hl | hl
            · exact n5 l hl
            · exact k5.none nin0 (n6 l hl).1
      · rintro σ' H5 ⟨y4, y6, y7, y8, y9, y10, F5, ls, rfl, k5, nF5, e5, T5, n5⟩
        rw [List.length_map, htl, List.take_length] at T5
        obtain ⟨s1, s2⟩ := subsF_len (allP zs n) (allP zs n).length (Nat.le_refl _)
        rw [List.take_length] at s1 s2
        have hpow : 2 ^ (allP zs n).length ≤ 2 ^ 6 := Nat.pow_le_pow_right (by decide) (by omega)
        have k05 := k2.trans k5
        have hd5 := hd.kp0 k05
        walk_at "z"
        refine q H5 F5 ls _ (k05.sub (by simp)) (k2.none nin0 nF5) hd5 e5 T5 (fun l hl => k2.none nin0 (n5 l hl)) (fun ps hps => ?_) (by omega) (.inl rfl)
        have := s2 ps hps
        omega
    · walk_at "z"
      have hd2 := hd.kp0 k2
      have haP : P2 ≠ a := fun z => by
        obtain ⟨xs, hx⟩ := deck_lst hd
        rw [z, hx] at nP2
        cases nP2
      refine Z.lcr 12 rfl (by decide) (fun D i H' => ∃ (ls : List Addr) (pss : List (List LP)), Kp [a] H2 H' ∧ DeckOk H' a p ∧ H' D = some (.lst (ls.map V.ref)) ∧ TL K H' ls pss ∧ (∀ l ∈ ls, H2 l = none ∧ l ≠ D ∧ l ≠ a) ∧ pss.length = i ∧ ∀ ps ∈ pss, ps.length ≤ 1000) ?_ ?_ ?_
      · intro D H3 nD k3 e3
        exact ⟨[], [], k3.sub (by simp), hd2.kp0 k3, e3, .nil, by simp, rfl, by simp⟩
      · rintro D i H3 nD hi ⟨ls, pss, k3, d3, e3, T3, n3, l3, b3⟩
        have haD : D ≠ a := fun z => by
          obtain ⟨xs, hx⟩ := deck_lst hd2
          rw [z, hx] at nD
          cases nD
        have e23 := k3.get (nin1 haP) e2
        have hll := T3.len
        dsimp only [wipe, List.set]
        walk_at "z"
        refine ⟨rfl, ?_⟩
        walk_at "z"
        refine Z.lcl (ts.map V.ref) (lstL e23) (fun C j H' => ∃ (us : List Addr) (ps : List LP), Kp [a] H3 H' ∧ DeckOk H' a p ∧ H' C = some (.lst (us.map V.ref)) ∧ PL K H' us ps ∧ ps.length ≤ j) ?_ ?_ ?_ ?_
        · intro C H4 nC k4 e4
          exact ⟨[], [], k4.sub (by simp), d3.kp0 k4, e4, .nil, Nat.le_refl _⟩
        · rintro C j H4 nC hj ⟨us, ps, k4, _⟩
          exact lstL (k4.get (nin1 haP) e23)
        · rintro C j v H4 nC hv4 ⟨us, ps, k4, d4, e4, P4, l4⟩
          have hCn := d3.ne nC
          have hCa : C ≠ a := hCn.1.symm
          have PP : PL K H4 ts (allP zs n) := by
            obtain ⟨xs, hx⟩ := deck_lst hd2
            exact P2L.kpl (k3.trans k4) hx
          obtain ⟨t, x, rfl, hx, hxA⟩ := LpsAt.get (l := P2) PP hv4
          have hjl := (List.getElem?_eq_some_iff.mp hx).1
          have hul := P4.len
          dsimp only [wipe, List.set]
          walk_at "z"
          refine ⟨rfl, ?_⟩
          walk_at "z"
          refine ⟨a, p, 2, rfl, d4, by decide, by decide, fun H5 u u0 u2 k5 d5 => ?_⟩
          have e5 := k5.get (nin1 hCa) e4
          obtain ⟨dxs, hdx⟩ := deck_lst d4
          have P5 := P4.kpl k5 hdx
          have x5 := hxA.kpl k5 hdx
          walk_at "z"
          refine Z.ite (fun h0 => ?_) (fun h0 => ?_)
          · walk_at "z"
            have kC : Kp [C] H5 (upd H5 C (.lst (us.map V.ref ++ [.ref t]))) := Kp.put (by simp)
            refine ⟨_, e5, Z.szl (m := 1000) (by rw [List.length_map]; omega), us ++ [t], ps ++ [x], (k4.trans k5).mut nC rfl, d5.upd hCn.1 hCn.2, by rw [upd_same, List.map_append]; rfl, (P5.snoc x5).kpl kC e5, by simp; omega⟩
          · exact ⟨us, ps, k4.trans k5, d5, e5, P5, by omega⟩
        · rintro C H4 nC ⟨us, ps, k4, d4, e4, P4, l4⟩
          rw [List.length_map] at l4
          have hul := P4.len
          walk_at "z"
          refine Z.tupK (fun t1 H5 n1 k5 e5 => ?_)
          walk_at "z"
          refine Z.tupK (fun t2 H6 n2 k6 e6 => ?_)
          walk_at "z"
          refine Z.tupK (fun t3 H7 nt3 k7 e7 => ?_)
          walk_at "z"
          refine Z.tupK (fun t4 H8 n4 k8 e8 => ?_)
          walk_at "z"
          refine Z.lstK (fun L5 H9 n9 k9 e9 => ?_)
          have k59 := k5.trans (k6.trans (k7.trans (k8.trans k9)))
          have k49 : Kp [] H4 H9 := k59
          refine Z.cat (xs := us.map V.ref) (zs := [V.ref t2, V.ref t4]) (k49.get nin0 e4) e9 (by rw [List.length_map]; simp; omega) (fun c H10 nc k10 e10 => ?_)
          have k410 := k49.trans k10
          have k310 := k4.trans (k410.sub (by simp))
          have e10D := k410.get nin0 (k4.get (nin1 haD) e3)
          have hcD : c ≠ D := fun z => by rw [z, k49.get nin0 (k4.get (nin1 haD) e3)] at nc; cases nc
          have d10 := d4.kp0 k410
          have hca : c ≠ a := fun z => by
            obtain ⟨xs, hx⟩ := deck_lst (d4.kp0 k49)
            rw [z, hx] at nc
            cases nc
          have x2 : LpAt K H10 t2 ((0 : Int), ((1, 1) : Fr)) := ⟨t1, (k7.trans (k8.trans (k9.trans k10))).get nin0 e6, tupT ((k6.trans (k7.trans (k8.trans (k9.trans k10)))).get nin0 e5)⟩
          have x4 : LpAt K H10 t4 ((1 : Int), ((77, 1) : Fr)) := ⟨t3, (k9.trans k10).get nin0 e8, tupT ((k8.trans (k9.trans k10)).get nin0 e7)⟩
          have hnew : LpsAt K H10 c (ps ++ [((0 : Int), ((1, 1) : Fr)), ((1 : Int), ((77, 1) : Fr))]) := ⟨us ++ [t2, t4], by rw [e10, List.map_append]; rfl, PL.app (PL.kp0 P4 k410) (.cons x2 (.cons x4 .nil))⟩
          have hD := d2D nD hd2
          have kD : Kp [D] H10 (upd H10 D (.lst (ls.map V.ref ++ [.ref c]))) := Kp.put (by simp)
          obtain ⟨dxs, hdx⟩ := deck_lst d3
          have T10 := (TL.kpl T3 k4 hdx fun l hl => (n3 l hl).2.2).kp0 k410
          refine ⟨_, e10D, Z.szl (m := 1000) (by rw [List.length_map]; omega), ls ++ [c], pss ++ [ps ++ [((0 : Int), ((1, 1) : Fr)), ((1 : Int), ((77, 1) : Fr))]], (k3.trans k310).mut nD rfl, d10.upd hD.1 hD.2, by rw [upd_same, List.map_append]; rfl, ?_, fun l hl => ?_, by rw [List.length_append, l3]; rfl, fun y hy => ?_⟩
          · exact (TL.snoc T10 hnew).kpl kD e10D fun l hl => by
              rcases List.mem_append.mp hl with hl | hl
              · exact (n3 l hl).2.1
              · rw [List.mem_singleton.mp hl]; exact hcD
          · rcases List.mem_append.mp hl with hl | hl
            · exact n3 l hl
            · rw [List.mem_singleton.mp hl]
              have nc3 : H4 c = none := k49.none nin0 nc
              exact ⟨(k3.trans k4).none (fun z => hca (List.mem_singleton.mp z)) nc3, hcD, hca⟩
          · rcases List.mem_append.mp hy with hy | hy
            · exact b3 y hy
            · rw [List.mem_singleton.mp hy]
              simp
              omega
      · rintro D H3 nD ⟨ls, pss, k3, d3, e3, T3, n3, l3, b3⟩
        walk_at "z"
        exact q H3 D ls pss ((k2.sub (by simp)).trans k3) (k2.none nin0 nD) d3 e3 T3 (fun l hl => k2.none nin0 (n3 l hl).1) b3 (by omega) (.inr l3)
end tabs46

/-! ### bounds that are bent and judged -/
section jud46
variable {K : PySem.W.Frag}
open LamX hiding takes0
open LamK
/-! what an accepted list of bounds says -/
theorem kp_rv {s : Bool} {zs : List (Fr × Fr)} {g : Fr} (h : NumZ zs) (hg : Low g) : rv (meanV (zs.map (kpZ s g))) = sR (fun z => kpR s (rv z.1) (rv g) * rv z.2) zs := by
  have h1 := rv_meanV (zs := zs.map (kpZ s g)) fun y hy => by
    obtain ⟨z, hz, rfl⟩ := List.mem_map.mp hy
    exact ⟨(kp_low (h.num z hz) hg).ne, (h.low z hz).ne⟩
  rw [h1.2, sR_map]
  refine sR_congr fun z _ => ?_
  show rv (kpF s z.1 g) * rv z.2 = _
  rw [rv_kp]
theorem kpR_max (a b : Rat) : kpR true a b = if a < b then b else a := by
  unfold kpR
  by_cases h1 : a < b
  · rw [if_pos (by rw [decide_eq_true h1]), if_pos h1]
  · rw [if_neg (by rw [decide_eq_false h1]; decide), if_neg h1]
theorem kpR_min (a b : Rat) : kpR false a b = if a < b then a else b := by
  unfold kpR
  by_cases h1 : a < b
  · rw [if_neg (by rw [decide_eq_true h1]; decide), if_pos h1]
  · rw [if_pos (by rw [decide_eq_false h1]), if_neg h1]
theorem kpR_up {a b c : Rat} (h : b ≤ c) : kpR true a b ≤ kpR true a c := by
  rw [kpR_max, kpR_max]
  split <;> split <;> grind
theorem kpR_dn {a b c : Rat} (h : b ≤ c) : kpR false a b ≤ kpR false a c := by
  rw [kpR_min, kpR_min]
  split <;> split <;> grind
theorem acc_each {s : Bool} {zs : List (Fr × Fr)} {bs : List Fr} (h : accF s zs bs = true) {k : Nat} {b d : Fr} (hb : bs[k]? = some b) (hd : (dueL s zs bs)[k]? = some d) : okc s b d = true := by
  have hz : (bs.zip (dueL s zs bs))[k]? = some (b, d) := (List.getElem?_zip_eq_some (z := (b, d))).mpr ⟨hb, hd⟩
  unfold accF at h
  have h2 := List.all_eq_true.mp h (b, d) (List.mem_of_getElem? hz)
  exact h2
theorem okc_true {b d : Fr} (h : okc true b d = true) : rv d ≤ rv b := by
  unfold okc at h
  rw [if_pos rfl] at h
  have h2 : ¬ rv b < rv d := by simpa using h
  exact Rat.not_lt.mp h2
theorem okc_false {b d : Fr} (h : okc false b d = true) : rv b ≤ rv d := by
  unfold okc at h
  rw [if_neg (by decide)] at h
  have h2 : ¬ rv d < rv b := by simpa using h
  exact Rat.not_lt.mp h2
theorem due_0 {s : Bool} {zs : List (Fr × Fr)} {bs : List Fr} (hk : 0 < bs.length) : (dueL s zs bs)[0]? = some (meanV zs) := due_at hk
theorem due_s {s : Bool} {zs : List (Fr × Fr)} {bs : List Fr} {k : Nat} {g : Fr} (hk : k + 1 < bs.length) (hg : bs[k]? = some g) : (dueL s zs bs)[k + 1]? = some (meanV (zs.map (kpZ s g))) := by
  have h := due_at (s := s) (zs := zs) hk
  rw [h]
  show some (meanV (zs.map (kpZ s (bs.getD k (0, 1))))) = _
  rw [List.getD_eq_getElem?_getD, hg]
  rfl
theorem bnd_s {s : Bool} {zs : List (Fr × Fr)} (h : NumZ zs) (k : Nat) : rv (bndF s zs (k + 1)) = sR (fun z => kpR s (rv z.1) (rv (bndF s zs k)) * rv z.2) zs := (bnd_low (s := s) h (k + 1)).2
theorem acc_up {zs : List (Fr × Fr)} {bs : List Fr} (h : NumZ zs) (hL : ∀ g ∈ bs, Low g) (ha : accF true zs bs = true) (k : Nat) : ∀ b, bs[k]? = some b → rv (bndF true zs k) ≤ rv b := by
  induction k with
  | zero =>
    intro b hb
    exact okc_true (acc_each ha hb (due_0 (List.getElem?_eq_some_iff.mp hb).1))
  | succ k ih =>
    intro b hb
    have hk : k + 1 < bs.length := (List.getElem?_eq_some_iff.mp hb).1
    obtain ⟨g, hg⟩ : ∃ g, bs[k]? = some g := ⟨_, List.getElem?_eq_getElem (by omega)⟩
    have h3 := okc_true (acc_each ha hb (due_s hk hg))
    rw [kp_rv h (hL g (List.mem_of_getElem? hg))] at h3
    refine Rat.le_trans ?_ h3
    rw [bnd_s h k]
    exact sR_le fun z hz => Rat.mul_le_mul_of_nonneg_right (kpR_up (ih g hg)) (by have := h.pos z hz; grind)
theorem acc_dn {zs : List (Fr × Fr)} {bs : List Fr} (h : NumZ zs) (hL : ∀ g ∈ bs, Low g) (ha : accF false zs bs = true) (k : Nat) : ∀ b, bs[k]? = some b → rv b ≤ rv (bndF false zs k) := by
  induction k with
  | zero =>
    intro b hb
    exact okc_false (acc_each ha hb (due_0 (List.getElem?_eq_some_iff.mp hb).1))
  | succ k ih =>
    intro b hb
    have hk : k + 1 < bs.length := (List.getElem?_eq_some_iff.mp hb).1
    obtain ⟨g, hg⟩ : ∃ g, bs[k]? = some g := ⟨_, List.getElem?_eq_getElem (by omega)⟩
    have h3 := okc_false (acc_each ha hb (due_s hk hg))
    rw [kp_rv h (hL g (List.mem_of_getElem? hg))] at h3
    refine Rat.le_trans h3 ?_
    rw [bnd_s h k]
    exact sR_le fun z hz => Rat.mul_le_mul_of_nonneg_right (kpR_dn (ih g hg)) (by have := h.pos z hz; grind)
/-- the bounds themselves are accepted -/
theorem due_bnds (s : Bool) (zs : List (Fr × Fr)) (n : Nat) : dueL s zs (bnds s zs (n + 1)) = bnds s zs (n + 1) := by
  unfold dueL
  rw [bnds_snoc, List.dropLast_concat, ← bnds_snoc]
  have e : bnds s zs (n + 1) = bndF s zs 0 :: (bnds s zs n).map (fun g => meanV (zs.map (kpZ s g))) := by
    unfold bnds
    rw [List.range_succ_eq_map, List.map_cons, List.map_map, List.map_map]
    rfl
  rw [e]
  rfl
theorem zip_self_all {α : Type} {f : α × α → Bool} : ∀ {l : List α}, (∀ x ∈ l, f (x, x) = true) → (l.zip l).all f = true
  | [], _ => rfl
  | x :: l, h => by
    rw [List.zip_cons_cons, List.all_cons, h x (by simp), zip_self_all fun y hy => h y (by simp [hy])]
    rfl
theorem acc_bnds (s : Bool) (zs : List (Fr × Fr)) (n : Nat) : accF s zs (bnds s zs (n + 1)) = true := by
  unfold accF
  rw [due_bnds]
  refine zip_self_all fun x _ => ?_
  unfold okc
  have : ¬ rv x < rv x := by grind
  split <;> simp [this]
/-! runs -/
theorem FrLs.kp0 {H H' : Hp} {D : Addr} {fs : List Fr} (h : FrLs K H D fs) (k : Kp [] H H') : FrLs K H' D fs := let ⟨as, e, F⟩ := h; ⟨as, k.get nin0 e, F.kp0 k⟩
theorem FrLs.kpl {H H' : Hp} {D b : Addr} {fs : List Fr} {xs : List V} (h : FrLs K H D fs) (k : Kp [b] H H') (e : H b = some (.lst xs)) (n : D ≠ b) : FrLs K H' D fs := let ⟨as, e1, F⟩ := h; ⟨as, k.get (nin1 n) e1, F.kpl k e⟩
theorem FrLs.dp {H : Hp} {D : Addr} {fs : List Fr} (h : FrLs K H D fs) : Dp K H (.ref D) (.list (fs.map frD)) := let ⟨_, e, F⟩ := h; .lst (lstL e) (dpFs F)
theorem eqv_frs : ∀ fs gs : List Fr, PyData.eqvAll (fs.map frD) (gs.map frD) = decide (fs = gs)
  | [], [] => by simp [PyData.eqvAll]
  | [], g :: gs => by simp [PyData.eqvAll]
  | f :: fs, [] => by simp [PyData.eqvAll]
  | f :: fs, g :: gs => by
    have h1 := eqv_fr f g
    have h2 := eqv_frs fs gs
    rw [List.map_cons, List.map_cons, PyData.eqvAll, h1, h2, Bool.eq_iff_iff]
    simp
theorem neL {H : Hp} {Q : VK} {a b : Addr} {fs gs : List Fr} (h : FrLs K H a fs) (g : FrLs K H b gs) (q : Q (.bl (!decide (fs = gs))) H) : rNeD K (.ref a) (.ref b) H Q :=
  ⟨_, _, h.dp, g.dp, shFs fs, shFs gs, by
    have e : PyData.eqv (.list (fs.map frD)) (.list (gs.map frD)) = decide (fs = gs) := by rw [← eqv_frs]; simp [PyData.eqv]
    rw [e]; exact q⟩
theorem eqL {H : Hp} {Q : VK} {a b : Addr} {fs gs : List Fr} (h : FrLs K H a fs) (g : FrLs K H b gs) (q : Q (.bl (decide (fs = gs))) H) : rEqD K (.ref a) (.ref b) H Q :=
  ⟨_, _, h.dp, g.dp, shFs fs, shFs gs, by
    have e : PyData.eqv (.list (fs.map frD)) (.list (gs.map frD)) = decide (fs = gs) := by rw [← eqv_frs]; simp [PyData.eqv]
    rw [e]; exact q⟩
theorem frs_set {H : Hp} {c : Addr} {g : Fr} : ∀ {as : List Addr} {fs : List Fr}, FrsAt K H as fs → ∀ m : Nat, FrAt K H c g → FrsAt K H (as.set m c) (fs.set m g)
  | _, _, .nil, _, _ => .nil
  | _, _, .cons _ t, 0, h => .cons h t
  | _, _, .cons r t, m + 1, h => .cons r (frs_set t m h)
def spBent (K : PySem.W.Frag) : Sp := fun vs H Q _ => ∃ (a p b : Addr) (S N : Nat) (zs : List (Fr × Fr)) (bs : List Fr), vs = [.ref a, .ref b] ∧ DeckOk H a p ∧ FrLs K H b bs ∧ RowsZ S zs ∧ (∀ g ∈ bs, BdF S N g) ∧ 38 ≤ N ∧ N ≤ 600 ∧ bs.length ≤ 100 ∧
  ∀ (H' : Hp) (d : Addr) (cs : List Fr), H d = none → Kp [a] H H' → DeckOk H' a p → FrLs K H' d cs → (∀ g ∈ cs, BdF S (N + 1) g) → cs.length ≤ bs.length → Q (.ref d) H'
theorem bd_B {S N : Nat} {zs : List (Fr × Fr)} {g : Fr} (h : RowsZ S zs) (hg : BdF S N g) (h1 : 38 ≤ N) (h2 : N ≤ 600) : FrB 700 g := den_B (n := N) (d := 34) hg.low hg.den (bD_ok h).1 (bD_ok h).2 (by omega) (by omega)
theorem cut_some {xs : List V} {k : Nat} (h : k ≤ xs.length) : cutV xs none (some (k : Int)) = xs.take k := cut_take h
theorem ok__law_bent {P : Program} {w : World} {K : PySem.W.Frag} {mg : Str → Option Value} {base : Heap} (T : T P K mg base) : FnOk P w K mg base CX0 3 T.a__law_bent T.fd__law_bent ["deck", "bounds"] (spBent K) := by
  refine T.F__law_bent.ok sc__law_bent (fun vs H Q E h => ?_) (fun cdv A outer s H vs Q E hr h => ?_)
  · obtain ⟨a, p, b, S, N, zs, bs, rfl, _⟩ := h
    rfl
  · obtain ⟨a, p, b, S, N, zs, bs, rfl, hd, ⟨as, eb, hF⟩, hZ, hB, hN, hN2, hl, q⟩ := h
    have hal := hF.len
    refine ⟨_, (pss_cons (ps_set (i := 1) sc__law_bent.nd rfl (by first | exact Or.inl rfl | exact Or.inr rfl) (pe_callTy c_list (by rfl) T.z_list (by decide +kernel) (pa_cons (pv 1) pa_nil)))
      (pss_cons (ps_if (pt_cmpR (op_eqD hr.units) (pv 1) (pe_lst pa_nil) (nomark _)) (pss_one (ps_ret (pv 1))) pss_nil)
      (pss_cons (ps_set (i := 2) sc__law_bent.nd rfl (by first | exact Or.inl rfl | exact Or.inr rfl) (pe_call (ok__law_draw T) (hr.mono (by decide)) (by rfl) T.g__law_draw T.F__law_draw.kp T.b__law_draw .nil pass0 (pa_cons (pv 0) (pa_cons (pe_callB c_len (by rfl) T.z_len (by decide +kernel) (pa_cons (pv 1) pa_nil)) pa_nil))))
      (pss_cons (ps_asg (pe_call (ok__law_plus T) (hr.mono (by decide)) (by rfl) T.g__law_plus T.F__law_plus.kp T.b__law_plus .nil pass0 (pa_cons (pe_ix ix_list (pv 1) (pv 2) (fun _ _ => rfl)) (pa_cons (pe_ix ix_list (pe_lst (pa_cons (pe_tup (pa_cons pe_int (pa_cons pe_int pa_nil))) (pa_cons (pe_tup (pa_cons (pe_un un_neg pe_int) (pa_cons pe_int pa_nil))) (pa_cons (pe_tup (pa_cons pe_int (pa_cons pe_int pa_nil))) (pa_cons (pe_tup (pa_cons (pe_un un_neg pe_int) (pa_cons pe_int pa_nil))) pa_nil))))) (pe_call (ok__law_draw T) (hr.mono (by decide)) (by rfl) T.g__law_draw T.F__law_draw.kp T.b__law_draw .nil pass0 (pa_cons (pv 0) (pa_cons pe_int pa_nil))) (fun _ _ => rfl)) pa_nil))) (pg_sub (pv 1) (pv 2) set_list))
      (pss_one (ps_ret (pe_slice sl_list (pv 1) po_none (po_some (pe_op op_sub (pe_callB c_len (by rfl) T.z_len (by decide +kernel) (pa_cons (pv 1) pa_nil)) (pe_callTy c_int (by rfl) T.z_int (by decide +kernel) (pa_cons (pe_cmpR op_eq (pe_call (ok__law_draw T) (hr.mono (by decide)) (by rfl) T.g__law_draw T.F__law_draw.kp T.b__law_draw .nil pass0 (pa_cons (pv 0) (pa_cons pe_int pa_nil))) pe_int (nomark _)) pa_nil))))))))))), ?_⟩
    walk_at "z0"
    walk_at "z"
    refine Z.listL (lstL eb) (fun d H1 nd k1 e1 => ?_)
    have hd1 := hd.kp0 k1
    have F1 := hF.kp0 k1
    have had := hd.ne nd
    walk_at "z"
    refine Z.lstK (fun l0 H2 n2 k2 e2 => ?_)
    have k12 := k1.trans k2
    walk_at "z"
    refine eqL (fs := bs) (gs := []) ⟨as, k2.get nin0 e1, F1.kp0 k2⟩ ⟨[], e2, .nil⟩ ?_
    refine Z.bl' ?_
    refine Z.ite (fun h0 => ?_) (fun h0 => ?_)
    · walk_at "z"
      exact q H2 d bs nd (k12.sub (by simp)) (hd.kp0 k12) ⟨as, k2.get nin0 e1, F1.kp0 k2⟩ (fun g hg => (hB g hg).mono (by omega)) (Nat.le_refl _)
    · have hpos : 0 < bs.length := by
        cases bs with
        | nil => exact absurd rfl h0
        | cons => simp
      walk_at "z"
      refine Z.lenL (lstL (k2.get nin0 e1)) ?_
      rw [List.length_map]
      walk_at "z"
      refine ⟨a, p, (as.length : Nat), rfl, hd.kp0 k12, by omega, by omega, fun H3 at_ m0 m3 k3 d3 => ?_⟩
      obtain ⟨m, rfl⟩ : ∃ j : Nat, at_ = (j : Int) := ⟨at_.toNat, by omega⟩
      obtain ⟨dxs, hdx⟩ := deck_lst (hd.kp0 k12)
      have e3 := k3.get (nin1 had.1.symm) (k2.get nin0 e1)
      have F3 := (F1.kp0 k2).kpl k3 hdx
      have hma : m < as.length := by omega
      have hxa : (as.map V.ref)[m]? = some (.ref (as[m])) := by rw [List.getElem?_map, List.getElem?_eq_getElem hma]; rfl
      obtain ⟨x, f, ex, hf, hxA⟩ := F3.get hxa
      rw [ex] at hxa
      have hfb := hB f (List.mem_of_getElem? hf)
      walk_at "z"
      refine Z.ixL (lstL e3) (atI_nat hxa) ?_
      walk_at "z"
      refine Z.tupK (fun t1 H4 nt1 k4 e4 => ?_)
      walk_at "z"
      refine Z.tupK (fun t2 H5 nt2 k5 e5 => ?_)
      walk_at "z"
      refine Z.tupK (fun t3 H6 nt3 k6 e6 => ?_)
      walk_at "z"
      refine Z.tupK (fun t4 H7 nt4 k7 e7 => ?_)
      walk_at "z"
      refine Z.lstK (fun L8 H8 nL8 k8 e8 => ?_)
      have k38 := k4.trans (k5.trans (k6.trans (k7.trans k8)))
      have d8 := d3.kp0 k38
      walk_at "z"
      refine ⟨a, p, 4, rfl, d8, by decide, by decide, fun H9 u u0 u4 k9 d9 => ?_⟩
      obtain ⟨dxs8, hdx8⟩ := deck_lst d8
      have haL : L8 ≠ a := fun z => by
        obtain ⟨xs, hx⟩ := deck_lst (d3.kp0 (k4.trans (k5.trans (k6.trans k7))))
        rw [z, hx] at nL8
        cases nL8
      have e9 := k9.get (nin1 haL) e8
      have g1 : FrAt K H9 t1 (1, 4) := FrAt.kpl (show FrAt K H8 t1 (1, 4) from tupT ((k5.trans (k6.trans (k7.trans k8))).get nin0 e4)) k9 hdx8
      have g2 : FrAt K H9 t2 (-1, 4) := FrAt.kpl (show FrAt K H8 t2 (-1, 4) from tupT ((k6.trans (k7.trans k8)).get nin0 e5)) k9 hdx8
      have g3 : FrAt K H9 t3 (2, 1) := FrAt.kpl (show FrAt K H8 t3 (2, 1) from tupT ((k7.trans k8).get nin0 e6)) k9 hdx8
      have g4 : FrAt K H9 t4 (-1, 30) := FrAt.kpl (show FrAt K H8 t4 (-1, 30) from tupT (k8.get nin0 e7)) k9 hdx8
      obtain ⟨t, pp, qq, ht, hpq, htA⟩ : ∃ (t : Addr) (pp qq : Int), atI [V.ref t1, V.ref t2, V.ref t3, V.ref t4] u = some (.ref t) ∧ ((pp, qq) = (1, 4) ∨ (pp, qq) = (-1, 4) ∨ (pp, qq) = (2, 1) ∨ (pp, qq) = (-1, 30)) ∧ FrAt K H9 t (pp, qq) := by
        rcases (show u = 0 ∨ u = 1 ∨ u = 2 ∨ u = 3 by omega) with rfl | rfl | rfl | rfl
        · exact ⟨t1, 1, 4, rfl, .inl rfl, g1⟩
        · exact ⟨t2, -1, 4, rfl, .inr (.inl rfl), g2⟩
        · exact ⟨t3, 2, 1, rfl, .inr (.inr (.inl rfl)), g3⟩
        · exact ⟨t4, -1, 30, rfl, .inr (.inr (.inr rfl)), g4⟩
      walk_at "z"
      refine Z.ixL (lstL e9) ht ?_
      walk_at "z"
      have hq1 : 1 ≤ qq ∧ FrB 700 (pp, qq) := by
        rcases hpq with e | e | e | e <;> (cases e; exact ⟨by decide, by decide, by decide⟩)
      refine ⟨x, t, f, (pp, qq), rfl, (hxA.kp0 k38).kpl k9 hdx8, htA, hfb.low.1, hq1.1, ⟨700, 700, bd_B hZ hfb hN hN2, hq1.2, by decide⟩, fun H10 c nc k10 e10 => ?_⟩
      have hnew := bent_bd hZ hfb hN hpq
      have e10d := k10.get nin0 (k9.get (nin1 had.1.symm) (k38.get nin0 e3))
      have F10 := ((F3.kp0 k38).kpl k9 hdx8).kp0 k10
      have d10 := d9.kp0 k10
      walk_at "z"
      refine Z.setL e10d (by rw [List.length_map]; exact ixN_nat hma) ?_
      rw [show (as.map V.ref).set m (V.ref c) = (as.set m c).map V.ref by rw [List.map_set]]
      have kd : Kp [d] H10 (upd H10 d (.lst ((as.set m c).map V.ref))) := Kp.put (by simp)
      have ed11 : upd H10 d (.lst ((as.set m c).map V.ref)) d = some (.lst ((as.set m c).map V.ref)) := upd_same
      have F11 : FrsAt K (upd H10 d (.lst ((as.set m c).map V.ref))) (as.set m c) (bs.set m (fplus f (pp, qq))) := (frs_set F10 m e10).kpl kd e10d
      have d11 : DeckOk (upd H10 d (.lst ((as.set m c).map V.ref))) a p := d10.upd had.1 had.2
      have k1011 : Kp [a] H1 H10 := (k2.sub (by simp)).trans (k3.trans ((k38.sub (by simp)).trans (k9.trans (k10.sub (by simp)))))
      have k0 : Kp [a] H (upd H10 d (.lst ((as.set m c).map V.ref))) := ((k1.sub (by simp)).trans k1011).mut nd rfl
      generalize upd H10 d (.lst ((as.set m c).map V.ref)) = H11 at kd ed11 F11 d11 k0 ⊢
      walk_at "z"
      refine Z.lenL (lstL ed11) ?_
      rw [List.length_map, List.length_set]
      walk_at "z"
      refine ⟨a, p, 6, rfl, d11, by decide, by decide, fun H12 v v0 v6 k12' d12 => ?_⟩
      obtain ⟨dxs11, hdx11⟩ := deck_lst d11
      have ed12 := k12'.get (nin1 had.1.symm) ed11
      have F12 := F11.kpl k12' hdx11
      walk_at "z"
      have hfin : ∀ j : Nat, j ≤ as.length → ∀ (H13 : Hp) (d' : Addr), H12 d' = none → Kp [] H12 H13 → H13 d' = some (.lst (((as.set m c).map V.ref).take j)) → Q (.ref d') H13 := fun j hj H13 d' n13 k13 e13 => by
        refine q H13 d' ((bs.set m (fplus f (pp, qq))).take j) ?_ ((k0.trans k12').trans (k13.sub (by simp))) (d12.kp0 k13) ⟨(as.set m c).take j, by rw [e13, List.map_take], (F12.kp0 k13).take j⟩ (fun g hg => ?_) (by rw [List.length_take, List.length_set]; omega)
        · exact (k0.trans k12').none (fun z => by
            rw [List.mem_singleton.mp z] at n13
            obtain ⟨xs, hx⟩ := deck_lst d12
            rw [hx] at n13
            cases n13) n13
        · rcases List.mem_or_eq_of_mem_set (List.mem_of_mem_take hg) with hg | hg
          · exact (hB g hg).mono (by omega)
          · rw [hg]; exact hnew
      by_cases hv0 : v = 0
      · rw [decide_eq_true hv0]
        have e : ((as.length : Nat) : Int) - (if true = true then 1 else 0) = ((as.length - 1 : Nat) : Int) := by
          rw [if_pos rfl]; omega
        rw [e]
        refine Z.slL (lstL ed12) (fun d' H13 n13 k13 e13 => ?_)
        rw [Z.cut_take (by rw [List.length_map, List.length_set]; omega)] at e13
        walk_at "z"
        exact hfin _ (by omega) H13 d' n13 k13 e13
      · rw [decide_eq_false hv0]
        have e : ((as.length : Nat) : Int) - (if false = true then 1 else 0) = ((as.length : Nat) : Int) := by
          rw [if_neg (by decide)]; omega
        rw [e]
        refine Z.slL (lstL ed12) (fun d' H13 n13 k13 e13 => ?_)
        rw [Z.cut_take (by rw [List.length_map, List.length_set]; omega)] at e13
        walk_at "z"
        exact hfin _ (by omega) H13 d' n13 k13 e13

theorem at_last1 {xs : List V} {n : Nat} {v : V} (hl : xs.length = n + 1) (h : xs[n]? = some v) : atI xs (-1) = some v := by
  have e : xs = xs.dropLast ++ [v] := by
    have hne : xs ≠ [] := fun z => by rw [z] at hl; simp at hl
    conv => lhs; rw [← List.dropLast_concat_getLast hne]
    congr 2
    have h2 : xs.getLast hne = xs[n] := by rw [List.getLast_eq_getElem]; congr 1; omega
    rw [h2]
    rw [List.getElem?_eq_getElem (by omega)] at h
    exact Option.some.inj h
  rw [e]
  exact atI_last _ _
def spJud (K : PySem.W.Frag) : Sp := fun vs H Q _ => ∃ (a p r m : Addr) (n S : Nat) (zs : List (Fr × Fr)) (ms : List Fr) (sg : Int) (s : Bool), vs = [.ref a, .ref r, .int (n : Int), .ref m, .int sg] ∧ decide (sg > 0) = s ∧ (sg = 1 ∨ sg = -1) ∧ n ≤ 6 ∧ DeckOk H a p ∧ PRows K H r zs ∧ RowsZ S zs ∧ r ≠ a ∧ FrLs K H m ms ∧ m ≠ a ∧ (∀ f ∈ ms, Low f ∧ FrB 700 f ∧ rv f ≤ rv (bndF true zs n) ∧ rv (bndF false zs n) ≤ rv f) ∧
  ∀ H', Kp [a] H H' → DeckOk H' a p → Q (.bl true) H'
theorem PRows.kpl {H H' : Hp} {D b : Addr} {zs : List (Fr × Fr)} {xs : List V} (h : PRows K H D zs) (k : Kp [b] H H') (e : H b = some (.lst xs)) (n : D ≠ b) : PRows K H' D zs := let ⟨ps, e1, A, v⟩ := h; ⟨ps, k.get (nin1 n) e1, fun p hp => (A p hp).kpl k e, v⟩
theorem ok__law_judged {P : Program} {w : World} {K : PySem.W.Frag} {mg : Str → Option Value} {base : Heap} (T : T P K mg base) : FnOk P w K mg base CX0 9 T.a__law_judged T.fd__law_judged ["deck", "rows", "retries", "means", "sign"] (spJud K) := by
  refine T.F__law_judged.ok sc__law_judged (fun vs H Q E h => ?_) (fun cdv A outer s H vs Q E hr h => ?_)
  · obtain ⟨a, p, r, m, n, S, zs, ms, sg, s, rfl, _⟩ := h
    rfl
  · obtain ⟨a, p, r, m, n, S, zs, ms, sg, s, rfl, hs, hsg, hn, hd, hR, hZ, hra, hM, hma, hmb, q⟩ := h
    have hbo : ∀ s, BndOk s zs n := fun s => bnd_ok hZ hn
    have hbd : ∀ (s : Bool) (g : Fr), g ∈ bnds s zs (n + 1) → BdF S 40 g := fun s g hg => by
      unfold bnds at hg
      obtain ⟨i, hi, rfl⟩ := List.mem_map.mp hg
      have := List.mem_range.mp hi
      exact bnd_bd hZ (by omega)
    refine ⟨_, (pss_cons (ps_set (i := 5) sc__law_judged.nd rfl (by first | exact Or.inl rfl | exact Or.inr rfl) (pe_call (ok_floors T) (hr.mono (by decide)) (by rfl) T.g_floors T.F_floors.kp T.b_floors .nil pass0 (pa_cons (pv 1) (pa_cons (pv 2) pa_nil))))
      (Z.pss_consJ (ps_if (pt_cmpR op_gt (pv 4) pe_int (nomark _)) (pss_one (ps_set (i := 5) sc__law_judged.nd rfl (by first | exact Or.inl rfl | exact Or.inr rfl) (pe_call (ok_ceilings T) (hr.mono (by decide)) (by rfl) T.g_ceilings T.F_ceilings.kp T.b_ceilings .nil pass0 (pa_cons (pv 1) (pa_cons (pv 2) pa_nil))))) pss_nil)
      (pss_cons (ps_if (pt_cmpR (op_neD hr.units) (pv 5) (pe_call (ok__law_bounds T) (hr.mono (by decide)) (by rfl) T.g__law_bounds T.F__law_bounds.kp T.b__law_bounds .nil pass0 (pa_cons (pv 1) (pa_cons (pv 2) (pa_cons (pv 4) pa_nil)))) (nomark _)) (pss_one (ps_ret pe_bl)) pss_nil)
      (pss_cons (ps_for PassesOwn.never rfl (pi_range1 (by rfl) T.z_range (pa_cons pe_int pa_nil)) (pg_name (i := 6) sc__law_judged.nd rfl (by first | exact Or.inl rfl | exact Or.inr rfl)) (pss_cons (ps_set (i := 7) sc__law_judged.nd rfl (by first | exact Or.inl rfl | exact Or.inr rfl) (pe_callTy c_list (by rfl) T.z_list (by decide +kernel) (pa_cons (pv 5) pa_nil)))
      (pss_cons (ps_set (i := 8) sc__law_judged.nd rfl (by first | exact Or.inl rfl | exact Or.inr rfl) (pe_call (ok_accepts_floors T) (hr.mono (by decide)) (by rfl) T.g_accepts_floors T.F_accepts_floors.kp T.b_accepts_floors .nil pass0 (pa_cons (pv 1) (pa_cons (pv 5) pa_nil))))
      (Z.pss_consJ (ps_if (pt_cmpR op_gt (pv 4) pe_int (nomark _)) (pss_one (ps_set (i := 8) sc__law_judged.nd rfl (by first | exact Or.inl rfl | exact Or.inr rfl) (pe_call (ok_accepts_ceilings T) (hr.mono (by decide)) (by rfl) T.g_accepts_ceilings T.F_accepts_ceilings.kp T.b_accepts_ceilings .nil pass0 (pa_cons (pv 1) (pa_cons (pv 5) pa_nil))))) pss_nil)
      (Z.pss_consJ (ps_if (PW.pt (pw_or (pt_cmpR op_ne (pv 8) (pe_call (ok__law_accepts T) (hr.mono (by decide)) (by rfl) T.g__law_accepts T.F__law_accepts.kp T.b__law_accepts .nil pass0 (pa_cons (pv 1) (pa_cons (pv 7) (pa_cons (pv 4) pa_nil)))) (nomark _)) (pw_or (pt_cmpR (op_neD hr.units) (pv 5) (pv 7) (nomark _)) (pw_or1 (PW.pt (pw_and (pt_cmpR op_eq (pv 6) pe_int (nomark _)) (pw_and1 (pt_not (pt_val (pv 8)))))))))) (pss_one (ps_ret pe_bl)) pss_nil)
      (Z.pss_consJ (ps_if (PW.pt (pw_and (pt_val (pv 8)) (pw_and1 (pt_cmpR op_eq (pe_callB c_len (by rfl) T.z_len (by decide +kernel) (pa_cons (pv 5) pa_nil)) (pe_op op_add (pv 2) pe_int) (nomark _))))) (pss_one (ps_for PassesOwn.never rfl (pi_list (pv 3)) (pg_name (i := 9) sc__law_judged.nd rfl (by first | exact Or.inl rfl | exact Or.inr rfl)) (pss_one (ps_if (PW.pt (pw_or (PW.pt (pw_and (pt_cmpR op_gt (pv 4) pe_int (nomark _)) (pw_and1 (pt_val (pe_call (ok__law_less T) (hr.mono (by decide)) (by rfl) T.g__law_less T.F__law_less.kp T.b__law_less .nil pass0 (pa_cons (pe_ix ix_list (pv 5) (pe_un un_neg pe_int) (fun _ _ => rfl)) (pa_cons (pv 9) pa_nil))))))) (pw_or1 (PW.pt (pw_and (pt_cmpR op_lt (pv 4) pe_int (nomark _)) (pw_and1 (pt_val (pe_call (ok__law_less T) (hr.mono (by decide)) (by rfl) T.g__law_less T.F__law_less.kp T.b__law_less .nil pass0 (pa_cons (pv 9) (pa_cons (pe_ix ix_list (pv 5) (pe_un un_neg pe_int) (fun _ _ => rfl)) pa_nil)))))))))) (pss_one (ps_ret pe_bl)) pss_nil)))) pss_nil)
      (pss_one (ps_set (i := 5) sc__law_judged.nd rfl (by first | exact Or.inl rfl | exact Or.inr rfl) (pe_call (ok__law_bent T) (hr.mono (by decide)) (by rfl) T.g__law_bent T.F__law_bent.kp T.b__law_bent .nil pass0 (pa_cons (pv 0) (pa_cons (pv 5) pa_nil)))))))))))
      (pss_one (ps_ret pe_bl)))))), ?_⟩
    walk_at "z0"
    walk_at "z"
    obtain ⟨ps, er, hA, hv⟩ := hR
    refine ⟨r, ps, n, rfl, lstL er, hA, by rw [hv]; exact hbo false, fun H1 B nB k1 F1 => ?_⟩
    rw [hv] at F1
    walk_at "z"
    refine Z.seqJ (fun σ' H' => ∃ B : Addr, σ' = [some (.ref a), some (.ref r), some (.int (n : Int)), some (.ref m), some (.int sg), some (.ref B), none, none, none, none] ∧ Kp [] H H' ∧ H B = none ∧ FrLs K H' B (bnds s zs (n + 1))) ?_ ?_
    · rintro σ' H2 ⟨B, rfl, k2, nB, F2⟩
      walk_at "z"
      refine ⟨r, ps, n, sg, s, rfl, hs, lstL (k2.get nin0 er), fun x hx => (hA x hx).kp0 k2, by rw [hv]; exact hbo s, fun H3 B3 nB3 k3 F3 => ?_⟩
      rw [hv] at F3
      walk_at "z"
      refine neL (F2.kp0 k3) F3 ?_
      rw [decide_eq_true rfl]
      walk_at "z"
      have haB : a ≠ B := (hd.ne nB).1
      refine Z.forr 4 rfl (by decide) (fun i σ' H' => ∃ (y6 y7 y8 y9 : Option V) (B : Addr) (bs : List Fr), σ' = [some (.ref a), some (.ref r), some (.int (n : Int)), some (.ref m), some (.int sg), some (.ref B), y6, y7, y8, y9] ∧ Kp [a] H H' ∧ DeckOk H' a p ∧ B ≠ a ∧ FrLs K H' B bs ∧ (∀ g ∈ bs, BdF S (40 + i) g) ∧ bs.length ≤ 100 ∧ (i = 0 → bs = bnds s zs (n + 1))) ?_ ?_ ?_
      · exact ⟨_, _, _, _, B, _, rfl, (k2.trans k3).sub (by simp), hd.kp0 (k2.trans k3), haB.symm, F2.kp0 k3, hbd s, by rw [bnds_len]; omega, fun _ => rfl⟩
      · rintro i σ' H4 hi ⟨y6, y7, y8, y9, B, bs, rfl, k4, d4, haB, F4, b4, l4, z4⟩
        obtain ⟨dxs0, hdx0⟩ := deck_lst hd
        have er4 := k4.get (nin1 hra) er
        have hA4 : ∀ x ∈ ps, PRowAt K H4 x := fun x hx => (hA x hx).kpl k4 hdx0
        have hM4 := hM.kpl k4 hdx0 hma
        have hacc : ∀ s, AccOk s (ps.map PRow.v) bs := fun s => by rw [hv]; exact acc_ok hZ b4 (by omega) (by omega) l4
        obtain ⟨as, eB, FB⟩ := id F4
        walk_at "z"
        refine Z.listL (lstL eB) (fun k5a H5 n5 k5 e5 => ?_)
        have F5 : FrLs K H5 k5a bs := ⟨as, e5, FB.kp0 k5⟩
        walk_at "z"
        refine ⟨r, B, ps, bs, rfl, lstL (k5.get nin0 er4), fun x hx => (hA4 x hx).kp0 k5, F4.kp0 k5, hacc false, fun H6 k6 => ?_⟩
        have k46 := k5.trans k6
        walk_at "z"
        have hS : ∀ b : Bool, ([some (V.ref a), some (.ref r), some (.int (n : Int)), some (.ref m), some (.int sg), some (.ref B), some (.int (i : Int)), some (.ref k5a), some (.bl b), y9] : L2.St) = [some (V.ref a), some (.ref r), some (.int (n : Int)), some (.ref m), some (.int sg), some (.ref B), some (.int (i : Int)), some (.ref k5a), some (.bl b), y9] := fun _ => rfl
        refine Z.seqJ (fun σ' H' => σ' = [some (.ref a), some (.ref r), some (.int (n : Int)), some (.ref m), some (.int sg), some (.ref B), some (.int (i : Int)), some (.ref k5a), some (.bl (accF s zs bs)), y9] ∧ Kp [] H4 H' ∧ FrLs K H' k5a bs) ?_ ?_
        · rintro σ' H7 ⟨rfl, k7, F7⟩
          walk_at "z"
          refine Z.seqJ (fun σ' H' => σ' = [some (.ref a), some (.ref r), some (.int (n : Int)), some (.ref m), some (.int sg), some (.ref B), some (.int (i : Int)), some (.ref k5a), some (.bl (accF s zs bs)), y9] ∧ Kp [] H4 H') ?_ ?_
          · rintro σ' H8 ⟨rfl, k8⟩
            walk_at "z"
            refine Z.seqJ (fun σ' H' => ∃ y9 : Option V, σ' = [some (.ref a), some (.ref r), some (.int (n : Int)), some (.ref m), some (.int sg), some (.ref B), some (.int (i : Int)), some (.ref k5a), some (.bl (accF s zs bs)), y9] ∧ Kp [] H4 H') ?_ ?_
            · rintro σ' H9 ⟨y9', rfl, k9⟩
              walk_at "z"
              refine ⟨a, p, B, S, 40 + i, zs, bs, rfl, d4.kp0 k9, F4.kp0 k9, hZ, b4, by omega, by omega, l4, fun H10 d cs nd k10 d10 F10 b10 l10 => ?_⟩
              walk_at "z"
              exact ⟨_, _, _, _, d, cs, rfl, (k4.trans (k9.sub (by simp))).trans k10, d10, ((d4.kp0 k9).ne nd).1.symm, F10, b10, by omega, fun h => by omega⟩
            · intro N1 jn
              walk_at "z"
              refine Z.iteB (fun ht => ?_) (fun ht => ?_)
              · walk_at "z"
                refine Z.lenL (lstL (k8.get nin0 eB)) ?_
                rw [List.length_map]
                walk_at "z"
                refine Z.ite (fun hle => ?_) (fun hle => ?_)
                · obtain ⟨mas, em, FM⟩ := hM4
                  walk_at "z"
                  refine Z.forl (mas.map V.ref) (lstL (k8.get nin0 em)) (fun j σ' H' => ∃ y9 : Option V, σ' = [some (.ref a), some (.ref r), some (.int (n : Int)), some (.ref m), some (.int sg), some (.ref B), some (.int (i : Int)), some (.ref k5a), some (.bl (accF s zs bs)), y9] ∧ Kp [] H4 H') ?_ ?_ ?_ ?_
                  · exact ⟨_, rfl, k8⟩
                  · rintro j σ' H9 hj ⟨y9', rfl, k9⟩
                    exact lstL (k9.get nin0 em)
                  · rintro j v σ' H9 hv9 ⟨y9', rfl, k9⟩
                    obtain ⟨x, f, rfl, hf, hx⟩ := (FM.kp0 k9).get hv9
                    obtain ⟨f1, f2, f3, f4⟩ := hmb f (List.mem_of_getElem? hf)
                    have hal := FB.len
                    have hbl : bs.length = n + 1 := by omega
                    obtain ⟨g, hg⟩ : ∃ g, bs[n]? = some g := ⟨_, List.getElem?_eq_getElem (by omega)⟩
                    have hgB := b4 g (List.mem_of_getElem? hg)
                    have hgl : ∀ x ∈ bs, Low x := fun x hx => (b4 x hx).low
                    have hxa : (as.map V.ref)[n]? = some (.ref (as[n])) := by rw [List.getElem?_map, List.getElem?_eq_getElem (by omega)]; rfl
                    obtain ⟨y, g', ey, hg', hy⟩ := (FB.kp0 k9).get hxa
                    rw [ey] at hxa
                    have hgg : g' = g := Option.some.inj (hg'.symm.trans hg)
                    subst hgg
                    have hlast : atI (as.map V.ref) (-1) = some (.ref y) := at_last1 (by rw [List.length_map]; omega) hxa
                    walk_at "z"
                    by_cases hp : sg > 0
                    · have hst : s = true := by rw [← hs]; exact decide_eq_true hp
                      rw [decide_eq_true hp]
                      walk_at "z"
                      refine Z.ixL (lstL (k9.get nin0 eB)) hlast ?_
                      walk_at "z"
                      refine ⟨y, x, g', f, rfl, hy, hx, (bd_B hZ hgB (by omega) (by omega)).mono (by decide), f2.mono (by decide), ?_⟩
                      rw [fless_iff hgB.low.1 f1.1]
                      have hup := acc_up hZ.toNumZ hgl (by rw [hst] at ht; exact ht) n g' hg
                      rw [decide_eq_false (show ¬ rv g' < rv f from Rat.not_lt.mpr (Rat.le_trans f3 hup))]
                      walk_at "z"
                      rw [decide_eq_false (show ¬ sg < 0 by omega)]
                      walk_at "z"
                      exact ⟨_, rfl, k9⟩
                    · have hst : s = false := by rw [← hs]; exact decide_eq_false hp
                      rw [decide_eq_false hp]
                      walk_at "z"
                      rw [decide_eq_true (show sg < 0 by omega)]
                      walk_at "z"
                      refine Z.ixL (lstL (k9.get nin0 eB)) hlast ?_
                      walk_at "z"
                      refine ⟨x, y, f, g', rfl, hx, hy, f2.mono (by decide), (bd_B hZ hgB (by omega) (by omega)).mono (by decide), ?_⟩
                      rw [fless_iff f1.1 hgB.low.1]
                      have hdn := acc_dn hZ.toNumZ hgl (by rw [hst] at ht; exact ht) n g' hg
                      rw [decide_eq_false (show ¬ rv f < rv g' from Rat.not_lt.mpr (Rat.le_trans hdn f4))]
                      walk_at "z"
                      exact ⟨_, rfl, k9⟩
                  · rintro σ' H9 ⟨y9', rfl, k9⟩
                    exact jn _ _ ⟨_, rfl, k9⟩
                · walk_at "z"
                  exact jn _ _ ⟨_, rfl, k8⟩
              · walk_at "z"
                exact jn _ _ ⟨_, rfl, k8⟩
          · intro N1 jn
            walk_at "z"
            refine ⟨r, k5a, ps, bs, sg, s, rfl, hs, by omega, lstL (k7.get nin0 er4), fun x hx => (hA4 x hx).kp0 k7, F7, hacc s, fun H8 k8 => ?_⟩
            rw [hv]
            have k48 := k7.trans k8
            walk_at "z"
            rw [decide_eq_true rfl]
            walk_at "z"
            refine neL (F4.kp0 k48) (F7.kp0 k8) ?_
            rw [decide_eq_true rfl]
            walk_at "z"
            refine Z.ite (fun hi0 => ?_) (fun hi0 => ?_)
            · have hi0' : i = 0 := by omega
              have hacc1 : accF s zs bs = true := by rw [z4 hi0']; exact acc_bnds s zs n
              rw [hacc1]
              walk_at "z"
              exact jn _ _ ⟨by rw [hacc1], k48⟩
            · walk_at "z"
              exact jn _ _ ⟨rfl, k48⟩
        · intro N1 jn
          rw [hv]
          walk_at "z"
          refine Z.ite (fun hp => ?_) (fun hp => ?_)
          · walk_at "z"
            refine ⟨r, B, ps, bs, rfl, lstL (k46.get nin0 er4), fun x hx => (hA4 x hx).kp0 k46, F4.kp0 k46, hacc true, fun H7 k7 => ?_⟩
            rw [hv]
            walk_at "z"
            have hst : s = true := by rw [← hs]; exact decide_eq_true hp
            exact jn _ _ ⟨by rw [hst], k46.trans k7, F5.kp0 (k6.trans k7)⟩
          · walk_at "z"
            have hst : s = false := by rw [← hs]; exact decide_eq_false hp
            exact jn _ _ ⟨by rw [hst], k46, F5.kp0 k6⟩
      · rintro σ' H4 ⟨y6, y7, y8, y9, B, bs, rfl, k4, d4, haB, F4, b4, l4, z4⟩
        walk_at "z"
        exact q H4 k4 d4
    · intro N1 jn
      walk_at "z"
      refine Z.ite (fun hp => ?_) (fun hp => ?_)
      · walk_at "z"
        refine ⟨r, ps, n, rfl, lstL (k1.get nin0 er), fun x hx => (hA x hx).kp0 k1, by rw [hv]; exact hbo true, fun H2 B2 nB2 k2 F2 => ?_⟩
        rw [hv] at F2
        walk_at "z"
        have hst : s = true := by rw [← hs]; exact decide_eq_true hp
        exact jn _ _ ⟨B2, rfl, k1.trans k2, k1.none nin0 nB2, by rw [hst]; exact F2⟩
      · walk_at "z"
        have hst : s = false := by rw [← hs]; exact decide_eq_false hp
        exact jn _ _ ⟨B, rfl, k1, nB, by rw [hst]; exact F1⟩
end jud46

/-! ### the law -/
section law46
variable {K : PySem.W.Frag}
open LamX hiding takes0
open LamK
theorem ok__law_arrived {P : Program} {w : World} {K : PySem.W.Frag} {mg : Str → Option Value} {base : Heap} (T : T P K mg base) : FnOk P w K mg base CX0 11 T.a__law_arrived T.fd__law_arrived ["rows", "retries", "lost"] (spLArr K 7) := larr_rec T 7
def rowZ (z : Fr × Fr) : PyData := .tuple [frD z.1, frD z.2]
theorem dpP {H : Hp} {p : PRow} (h : PRowAt K H p) : Dp K H p.r (rowZ p.v) := .tup h.tup (.cons (dpF h.num) (.cons (dpF h.fr) .nil))
theorem dpPs {H : Hp} : ∀ {ps : List PRow}, (∀ p ∈ ps, PRowAt K H p) → DpAll K H (ps.map PRow.r) ((ps.map PRow.v).map rowZ)
  | [], _ => .nil
  | p :: ps, h => .cons (dpP (h p (by simp))) (dpPs fun x hx => h x (by simp [hx]))
theorem layZ : ∀ zs : List (Fr × Fr), PyData.canLayAll0 (zs.map rowZ) = true
  | [] => by simp [PyData.canLayAll0]
  | z :: r => by simp [PyData.canLayAll0, rowZ, PyData.canLay0, frD, layZ r]
theorem depthZ : ∀ zs : List (Fr × Fr), PyData.depthAll (zs.map rowZ) ≤ 2
  | [] => by simp [PyData.depthAll]
  | z :: r => by
    have := depthZ r
    simp [PyData.depthAll, rowZ, PyData.depth, frD]
    exact Nat.max_le.mpr ⟨by omega, this⟩
theorem neP {H : Hp} {Q : VK} {a b : Addr} {zs : List (Fr × Fr)} (h : PRows K H a zs) (g : PRows K H b zs) (q : Q (.bl false) H) : rNeD K (.ref a) (.ref b) H Q := by
  obtain ⟨ps, e1, A1, v1⟩ := h
  obtain ⟨qs, e2, A2, v2⟩ := g
  have d1 := dpPs A1
  have d2 := dpPs A2
  rw [v1] at d1
  rw [v2] at d2
  have sh : SeqAt.shaped (.list (zs.map rowZ)) = true := by
    have h3 := depthZ zs
    simp only [SeqAt.shaped, PyData.canLay0, PyData.depth, layZ, Bool.true_and]
    exact decide_eq_true (by omega)
  exact ⟨_, _, .lst (lstL e1) d1, .lst (lstL e2) d2, sh, sh, by
    rw [SeqAt.eqv_refl (.list (zs.map rowZ)) (by simp only [PyData.canLay0]; exact layZ zs)]
    exact q⟩
/-- gathered rows as pairs -/
theorem grows_p {H : Hp} {d : Addr} {gs : List GRow} {zs : List (Fr × Fr)} (e : H d = some (.lst (gs.map GRow.r))) (hA : ∀ g ∈ gs, GRowAt K H g) (hkf : gs.map GRow.kf = zs.map kfOf) : PRows K H d zs := by
  refine ⟨gs.map GRow.p, by rw [e, grow_p], fun p hp => ?_, ?_⟩
  · obtain ⟨g, hg, rfl⟩ := List.mem_map.mp hp
    have hm : g.kf ∈ zs.map kfOf := by rw [← hkf]; exact List.mem_map_of_mem hg
    obtain ⟨z, _, ez⟩ := List.mem_map.mp hm
    exact (hA g hg).p ⟨z.1, (congrArg Prod.fst ez).symm⟩
  · rw [grow_pv, hkf, List.map_map]
    conv => rhs; rw [← List.map_id zs]
    exact List.map_congr_left fun z _ => rfl
/-- (a bound, what is lost) -/
def glD (g : Fr) (ps : List LP) : PyData := .tuple [frD g, .list (ps.map lpD)]
theorem gl_dp {H : Hp} {t b l : Addr} {g : Fr} {ps : List LP} (e : H t = some (.tup [.ref b, .ref l])) (hb : FrAt K H b g) (hl : LpsAt K H l ps) : Dp K H (.ref t) (glD g ps) := .tup (tupT e) (.cons (dpF hb) (.cons hl.dp .nil))
theorem gl_ne {H : Hp} {Q : VK} {t b l t' b' l' : Addr} {g : Fr} {ps : List LP} (e : H t = some (.tup [.ref b, .ref l])) (hb : FrAt K H b g) (hl : LpsAt K H l ps) (e' : H t' = some (.tup [.ref b', .ref l'])) (hb' : FrAt K H b' g) (hl' : LpsAt K H l' ps) (q : Q (.bl false) H) : rNeD K (.ref t) (.ref t') H Q := by
  obtain ⟨a, b2⟩ := lp_lay ps
  have hlay : PyData.canLay0 (glD g ps) = true := by simp [glD, PyData.canLay0, PyData.canLayAll0, frD, a]
  have sh : SeqAt.shaped (glD g ps) = true := by
    have hd : (glD g ps).depth ≤ 8 := by
      simp [glD, PyData.depth, PyData.depthAll, frD]
      omega
    simp only [SeqAt.shaped, hlay, Bool.true_and]
    exact decide_eq_true (by omega)
  exact ⟨_, _, gl_dp e hb hl, gl_dp e' hb' hl', sh, sh, by
    rw [SeqAt.eqv_refl _ hlay]
    exact q⟩
theorem fr_any (fs : List Fr) (g : Fr) : ((fs.map frD).any fun z => PyData.eqv z (frD g)) = decide (g ∈ fs) := by
  rw [Bool.eq_iff_iff, decide_eq_true_iff, List.any_map, List.any_eq_true]
  refine ⟨fun ⟨y, hy, e⟩ => ?_, fun h => ⟨g, h, ?_⟩⟩
  · have e : PyData.eqv (frD y) (frD g) = true := e
    rw [eqv_fr] at e
    rw [← of_decide_eq_true e]
    exact hy
  · show PyData.eqv (frD g) (frD g) = true
    rw [eqv_fr]
    simp
theorem ninF {H : Hp} {Q : VK} {x l : Addr} {g : Fr} {fs : List Fr} (h : FrAt K H x g) (hl : FrLs K H l fs) (q : Q (.bl (!decide (g ∈ fs))) H) : rNotInD K (.ref x) (.ref l) H Q :=
  ⟨_, _, dpF h, hl.dp, frD_sh g, shFs fs, by rw [fr_any]; exact q⟩
/-! what is lost, by the bounds -/
theorem lost_lose {s : Bool} {zs : List (Fr × Fr)} {n i : Nat} (h1 : 1 ≤ i) (h2 : i ≤ n) {z : Fr × Fr} (hz : z ∈ zs) : lostF (lostL s zs n) i z.1 = loseF s zs i z.1 := by
  obtain ⟨j, rfl⟩ : ∃ j, i = j + 1 := ⟨i - 1, by omega⟩
  unfold lostF
  rw [Bool.eq_iff_iff, decide_eq_true_iff, lostL_mem]
  refine ⟨fun ⟨k, hk, hm⟩ => ?_, fun h => ⟨j, by omega, ?_⟩⟩
  · unfold lostR at hm
    obtain ⟨y, hy, e⟩ := List.mem_map.mp hm
    obtain ⟨_, hy2⟩ := List.mem_filter.mp hy
    have e1 := congrArg Prod.fst e
    have e2 : y.1 = z.1 := congrArg Prod.snd e
    have e3 : k = j := by
      have : ((k + 1 : Nat) : Int) = ((j + 1 : Nat) : Int) := e1
      omega
    rw [← e2, ← e3]
    exact hy2
  · unfold lostR
    exact List.mem_map.mpr ⟨z, List.mem_filter.mpr ⟨hz, h⟩, rfl⟩
theorem all_mem {zs : List (Fr × Fr)} {n i : Nat} (h1 : 1 ≤ i) (h2 : i ≤ n) {z : Fr × Fr} (hz : z ∈ zs) : ((i : Int), z.1) ∈ allP zs n := by
  unfold allP
  refine List.mem_flatMap.mpr ⟨i - 1, List.mem_range.mpr (by omega), ?_⟩
  unfold allR
  refine List.mem_map.mpr ⟨z, hz, ?_⟩
  have : ((i - 1 + 1 : Nat) : Int) = (i : Int) := by omega
  rw [this]
theorem part_lose {s : Bool} {zs : List (Fr × Fr)} {n i : Nat} (h1 : 1 ≤ i) (h2 : i ≤ n) {z : Fr × Fr} (hz : z ∈ zs) : lostF ((allP zs n).filter fun x => decide (x ∈ lostL s zs n)) i z.1 = loseF s zs i z.1 := by
  rw [← lost_lose h1 h2 hz]
  unfold lostF
  rw [decide_eq_decide, List.mem_filter, decide_eq_true_iff]
  exact ⟨fun h => h.2, fun h => ⟨all_mem h1 h2 hz, h⟩⟩
theorem part_mean {s : Bool} {zs : List (Fr × Fr)} (h : NumZ zs) (n : Nat) : bndF s zs n ∈ (subsF (allP zs n)).map fun ps => meanV (LA (lostF ps) zs n) := by
  refine List.mem_map.mpr ⟨(allP zs n).filter fun x => decide (x ∈ lostL s zs n), ?_, LA_best h n fun i h1 h2 z hz => part_lose h1 h2 hz⟩
  have := subsF_filter (fun x => decide (x ∈ lostL s zs n)) (allP zs n) (allP zs n).length (Nat.le_refl _)
  rwa [List.take_length] at this
theorem lost_mean {s : Bool} {zs : List (Fr × Fr)} (h : NumZ zs) (n : Nat) : meanV (LA (lostF (lostL s zs n)) zs n) = bndF s zs n := LA_best h n fun i h1 h2 z hz => lost_lose h1 h2 hz
theorem lostL_len {s : Bool} {zs : List (Fr × Fr)} (n : Nat) : (lostL s zs n).length ≤ n * zs.length := by
  induction n with
  | zero => simp [lostL]
  | succ n ih =>
    rw [lostL_succ, List.length_append, Nat.add_mul, Nat.one_mul]
    have : (lostR s zs n).length ≤ zs.length := by
      unfold lostR
      rw [List.length_map]
      exact List.length_filter_le _ _
    omega
theorem DeckOk.ext {H H' : Hp} {a p : Addr} (d : DeckOk H a p) (e : ExtN H H') : DeckOk H' a p := by
  obtain ⟨ns, i, r, s, h1, h2, h3⟩ := d
  exact ⟨ns, i, r, s, ext_get e h1, ext_get e h2, h3⟩
theorem deck_tabs {T : List (Addr × Str)} {H H' : Hp} {a p : Addr} (t : Tabs T H) (d : DeckOk H a p) (k : Kp [a] H H') : Tabs T H' := let ⟨_, _, _, _, ha, _⟩ := d; tabs_put t k ha
theorem TL.ext {H H' : Hp} {ls : List Addr} {pss : List (List LP)} (h : TL K H ls pss) (k : ExtN H H') : TL K H' ls pss := by
  induction h with
  | nil => exact .nil
  | cons h1 h2 ih => exact .cons (LpsAt.ext h1 k) ih
theorem FrLs.ext {H H' : Hp} {D : Addr} {fs : List Fr} (h : FrLs K H D fs) (k : ExtN H H') : FrLs K H' D fs := by
  obtain ⟨as, e, F⟩ := h
  refine ⟨as, ext_get k e, ?_⟩
  clear e
  induction F with
  | nil => exact .nil
  | cons h1 h2 ih => exact .cons (FrAt.ext h1 k) ih
theorem FrLs.snoc {H : Hp} {D c : Addr} {fs : List Fr} {g : Fr} {xs : List V} (h : FrLs K H D fs) (e : H D = some (.lst xs)) (hc : FrAt K H c g) : FrLs K (upd H D (.lst (xs ++ [.ref c]))) D (fs ++ [g]) := by
  obtain ⟨as, e1, F⟩ := h
  rw [e] at e1
  cases e1
  have kD : Kp [D] H (upd H D (.lst (as.map V.ref ++ [.ref c]))) := Kp.put (by simp)
  exact ⟨as ++ [c], by rw [upd_same, List.map_append]; rfl, (FrsAt.kpl F kD e).snoc (FrAt.kpl hc kD e)⟩
theorem GRowAt.ext {H H' : Hp} {x : GRow} (h : GRowAt K H x) (e : ExtN H H') : GRowAt K H' x := ⟨ext_tup e h.tup, ext_get e h.key, FrAt.ext h.fr e, h.ok⟩
theorem ws_ne {ns : List Int} {ws : List (Fr × Fr)} (hN : NsOk ns) (hW : WsOk ns ws) : ∀ z ∈ ws, z.2.2 ≠ 0 := fun z hz => by
  have hs := sum_pos hN.each
  have hl := hN.len
  obtain ⟨n, _, _, h3⟩ := ws_ch (i := ns.length) hN.each (by rw [List.take_length]; exact hW.ch) z hz
  rw [h3]
  exact (lo_low (show ns.sum ≠ 0 by omega)).ne
def spLaw (K : PySem.W.Frag) (P : Addr) : Sp := fun vs H Q _ => ∃ (a : Addr) (ns : List Int), vs = [.ref a] ∧ SqL K H a (ns.map V.int) ∧ ns.length ≤ 63 ∧ (∀ z ∈ ns, Builtin.Int.intBits z ≤ 1048576) ∧ Tabs [(P, LQ)] H ∧ ∀ H', Q (.bl true) H'
theorem spLaw_in {K : PySem.W.Frag} {P : Addr} (H : Hp) (a : Addr) (ns : List Int) (h1 : ns.length ≤ 63) (h2 : ∀ z ∈ ns, Builtin.Int.intBits z ≤ 1048576) (hP : H P = some (.tbl #[])) (hS : SqL K H a (ns.map V.int)) : spLaw K P [.ref a] H (fun v _ => v = .bl true) fun _ _ _ => False :=
  ⟨a, ns, rfl, hS, h1, h2, fun p hp => by rw [List.mem_singleton.mp hp]; exact TabS.nil hP, fun _ => rfl⟩
set_option maxHeartbeats 4000000 in
theorem ok_law {P : Program} {w : World} {K : PySem.W.Frag} {mg : Str → Option Value} {base : Heap} (T : T P K mg base) : FnOk P w K mg base CX0 12 T.a_law T.fd_law ["script"] (spLaw K T.P_law_from) := by
  refine T.F_law.ok sc_law (fun vs H Q E h => ?_) (fun cdv A outer s H vs Q E hr h => ?_)
  · obtain ⟨c, ns, rfl, _⟩ := h
    rfl
  · obtain ⟨c, ns, rfl, hS, hl, hbit, hT, q⟩ := h
    refine ⟨_, (pss_cons (ps_set (i := 1) sc_law.nd rfl (by first | exact Or.inl rfl | exact Or.inr rfl) (pe_call (ok__law_deck T) (hr.mono (by decide)) (by rfl) T.g__law_deck T.F__law_deck.kp T.b__law_deck .nil pass0 (pa_cons (pv 0) pa_nil)))
      (pss_cons (ps_set (i := 2) sc_law.nd rfl (by first | exact Or.inl rfl | exact Or.inr rfl) (pe_call (ok__law_rows T) (hr.mono (by decide)) (by rfl) T.g__law_rows T.F__law_rows.kp T.b__law_rows .nil pass0 (pa_cons (pv 1) pa_nil)))
      (pss_cons (ps_set (i := 3) sc_law.nd rfl (by first | exact Or.inl rfl | exact Or.inr rfl) (pe_ix ix_list (pe_lst (pa_cons pe_int (pa_cons pe_int (pa_cons pe_int (pa_cons pe_int (pa_cons pe_int (pa_cons (pe_call (ok__law_draw T) (hr.mono (by decide)) (by rfl) T.g__law_draw T.F__law_draw.kp T.b__law_draw .nil pass0 (pa_cons (pv 1) (pa_cons pe_int pa_nil))) pa_nil))))))) (pe_call (ok__law_draw T) (hr.mono (by decide)) (by rfl) T.g__law_draw T.F__law_draw.kp T.b__law_draw .nil pass0 (pa_cons (pv 1) (pa_cons pe_int pa_nil))) (fun _ _ => rfl)))
      (pss_cons (ps_set (i := 4) sc_law.nd rfl (by first | exact Or.inl rfl | exact Or.inr rfl) (pe_call (ok__law_tables T) (hr.mono (by decide)) (by rfl) T.g__law_tables T.F__law_tables.kp T.b__law_tables .nil pass0 (pa_cons (pv 1) (pa_cons (pv 2) (pa_cons (pv 3) pa_nil)))))
      (pss_cons (ps_set (i := 5) sc_law.nd rfl (by first | exact Or.inl rfl | exact Or.inr rfl) (pe_lst pa_nil))
      (pss_cons (ps_for PassesOwn.never rfl (pi_list (pv 4)) (pg_name (i := 6) sc_law.nd rfl (by first | exact Or.inl rfl | exact Or.inr rfl)) (pss_cons (ps_set (i := 7) sc_law.nd rfl (by first | exact Or.inl rfl | exact Or.inr rfl) (pe_call (ok__law_arrived T) (hr.mono (by decide)) (by rfl) T.g__law_arrived T.F__law_arrived.kp T.b__law_arrived .nil pass0 (pa_cons (pv 2) (pa_cons (pv 3) (pa_cons (pv 6) pa_nil)))))
      (pss_cons (ps_if (PW.pt (pw_or (pt_cmpR (op_neD hr.units) (pe_call (ok_arrived T) (hr.mono (by decide)) (by rfl) T.g_arrived T.F_arrived.kp T.b_arrived .nil passL (pa_cons (pv 2) (pa_cons (pv 3) (pa_cons (pe_callTy c_list (by rfl) T.z_list (by decide +kernel) (pa_cons (pv 6) pa_nil)) pa_nil)))) (pv 7) (nomark _)) (pw_or1 (pt_cmpR (op_neD hr.units) (pe_call (ok_mean_by T) (hr.mono (by decide)) (by rfl) T.g_mean_by T.F_mean_by.kp T.b_mean_by .nil passL (pa_cons (pv 2) (pa_cons (pv 3) (pa_cons (pv 6) pa_nil)))) (pe_call (ok__law_mean T) (hr.mono (by decide)) (by rfl) T.g__law_mean T.F__law_mean.kp T.b__law_mean .nil pass0 (pa_cons (pv 7) pa_nil)) (nomark _))))) (pss_one (ps_ret pe_bl)) pss_nil)
      (pss_one (ps_expr (pe_bm PySem.F.plainAttrs_list PySem.F.slot_list_append PySem.F.type_list_append mt_append (pv 5) (pa_cons (pe_call (ok__law_mean T) (hr.mono (by decide)) (by rfl) T.g__law_mean T.F__law_mean.kp T.b__law_mean .nil pass0 (pa_cons (pv 7) pa_nil)) pa_nil)))))))
      (pss_cons (ps_set (i := 8) sc_law.nd rfl (by first | exact Or.inl rfl | exact Or.inr rfl) (pe_call (ok__law_bounds T) (hr.mono (by decide)) (by rfl) T.g__law_bounds T.F__law_bounds.kp T.b__law_bounds .nil pass0 (pa_cons (pv 2) (pa_cons (pv 3) (pa_cons pe_int pa_nil)))))
      (pss_cons (ps_set (i := 9) sc_law.nd rfl (by first | exact Or.inl rfl | exact Or.inr rfl) (pe_call (ok__law_bounds T) (hr.mono (by decide)) (by rfl) T.g__law_bounds T.F__law_bounds.kp T.b__law_bounds .nil pass0 (pa_cons (pv 2) (pa_cons (pv 3) (pa_cons (pe_un un_neg pe_int) pa_nil)))))
      (pss_cons (ps_set (i := 10) sc_law.nd rfl (by first | exact Or.inl rfl | exact Or.inr rfl) (pe_lst pa_nil))
      (pss_cons (ps_set (i := 11) sc_law.nd rfl (by first | exact Or.inl rfl | exact Or.inr rfl) (pe_lst pa_nil))
      (pss_cons (ps_for PassesOwn.never rfl (pi_range2 (by rfl) T.z_range (pa_cons pe_int (pa_cons (pe_op op_add (pv 3) pe_int) pa_nil))) (pg_name (i := 12) sc_law.nd rfl (by first | exact Or.inl rfl | exact Or.inr rfl)) (pss_cons (ps_set (i := 10) sc_law.nd rfl (by first | exact Or.inl rfl | exact Or.inr rfl) (pe_op op_cat (pv 10) (pe_lc (own := [("number", 14), ("chance", 15)]) (g := gTup K 2 (gCons (gName 14) (gCons (gName 15) gNil))) rfl sc_law.nd (pi_list (pv 2)) (blkOk_by (own := [("number", 14), ("chance", 15)]) (N := N_law) (sc := defScope s_law) (by decide +kernel)) (fun _ _ _ _ _ => (pg_tup rfl (pgs_cons (pg_name (i := 14) sc_law.nd rfl (by first | exact Or.inl rfl | exact Or.inr rfl)) (pgs_cons (pg_name (i := 15) sc_law.nd rfl (by first | exact Or.inl rfl | exact Or.inr rfl)) pgs_nil)))) (fun _ _ _ _ _ => (pts_one (pt_val (pe_call (ok__law_less T) (hr.mono (by decide)) (by rfl) T.g__law_less T.F__law_less.kp T.b__law_less .nil pass0 (pa_cons (pv 14) (pa_cons (pe_ix (ix_list : IxR _ (rIxL K)) (pv 8) (pe_op op_sub (pv 12) pe_int) (fun _ _ => rfl)) pa_nil)))))) (fun _ _ _ _ _ => (pe_tup (pa_cons (pv 12) (pa_cons (pv 14) pa_nil)))))))
      (pss_one (ps_set (i := 11) sc_law.nd rfl (by first | exact Or.inl rfl | exact Or.inr rfl) (pe_op op_cat (pv 11) (pe_lc (own := [("number", 14), ("chance", 15)]) (g := gTup K 2 (gCons (gName 14) (gCons (gName 15) gNil))) rfl sc_law.nd (pi_list (pv 2)) (blkOk_by (own := [("number", 14), ("chance", 15)]) (N := N_law) (sc := defScope s_law) (by decide +kernel)) (fun _ _ _ _ _ => (pg_tup rfl (pgs_cons (pg_name (i := 14) sc_law.nd rfl (by first | exact Or.inl rfl | exact Or.inr rfl)) (pgs_cons (pg_name (i := 15) sc_law.nd rfl (by first | exact Or.inl rfl | exact Or.inr rfl)) pgs_nil)))) (fun _ _ _ _ _ => (pts_one (pt_val (pe_call (ok__law_less T) (hr.mono (by decide)) (by rfl) T.g__law_less T.F__law_less.kp T.b__law_less .nil pass0 (pa_cons (pe_ix (ix_list : IxR _ (rIxL K)) (pv 9) (pe_op op_sub (pv 12) pe_int) (fun _ _ => rfl)) (pa_cons (pv 14) pa_nil)))))) (fun _ _ _ _ _ => (pe_tup (pa_cons (pv 12) (pa_cons (pv 14) pa_nil))))))))))
      (pss_cons (ps_if (PW.pt (pw_or (pt_cmpR (op_neD hr.units) (pe_call (ok_greatest T) (hr.mono (by decide)) (by rfl) T.g_greatest T.F_greatest.kp T.b_greatest .nil pass0 (pa_cons (pv 2) (pa_cons (pv 3) pa_nil))) (pe_tup (pa_cons (pe_ix ix_list (pv 8) (pe_un un_neg pe_int) (fun _ _ => rfl)) (pa_cons (pv 10) pa_nil))) (nomark _)) (pw_or1 (pt_cmpR (op_neD hr.units) (pe_call (ok_least T) (hr.mono (by decide)) (by rfl) T.g_least T.F_least.kp T.b_least .nil pass0 (pa_cons (pv 2) (pa_cons (pv 3) pa_nil))) (pe_tup (pa_cons (pe_ix ix_list (pv 9) (pe_un un_neg pe_int) (fun _ _ => rfl)) (pa_cons (pv 11) pa_nil))) (nomark _))))) (pss_one (ps_ret pe_bl)) pss_nil)
      (pss_cons (ps_for PassesOwn.never rfl (pi_list (pv 5)) (pg_name (i := 13) sc_law.nd rfl (by first | exact Or.inl rfl | exact Or.inr rfl)) (pss_one (ps_if (PW.pt (pw_or (pt_val (pe_call (ok__law_less T) (hr.mono (by decide)) (by rfl) T.g__law_less T.F__law_less.kp T.b__law_less .nil pass0 (pa_cons (pe_ix ix_list (pv 8) (pe_un un_neg pe_int) (fun _ _ => rfl)) (pa_cons (pv 13) pa_nil)))) (pw_or1 (pt_val (pe_call (ok__law_less T) (hr.mono (by decide)) (by rfl) T.g__law_less T.F__law_less.kp T.b__law_less .nil pass0 (pa_cons (pv 13) (pa_cons (pe_ix ix_list (pv 9) (pe_un un_neg pe_int) (fun _ _ => rfl)) pa_nil))))))) (pss_one (ps_ret pe_bl)) pss_nil)))
      (pss_cons (ps_if (PW.pt (pw_or (pt_cmpR (op_neD hr.units) (pe_call (ok_mean_by T) (hr.mono (by decide)) (by rfl) T.g_mean_by T.F_mean_by.kp T.b_mean_by .nil passL (pa_cons (pv 2) (pa_cons (pv 3) (pa_cons (pv 10) pa_nil)))) (pe_ix ix_list (pv 8) (pe_un un_neg pe_int) (fun _ _ => rfl)) (nomark _)) (pw_or1 (pt_cmpR (op_neD hr.units) (pe_call (ok_mean_by T) (hr.mono (by decide)) (by rfl) T.g_mean_by T.F_mean_by.kp T.b_mean_by .nil passL (pa_cons (pv 2) (pa_cons (pv 3) (pa_cons (pv 11) pa_nil)))) (pe_ix ix_list (pv 9) (pe_un un_neg pe_int) (fun _ _ => rfl)) (nomark _))))) (pss_one (ps_ret pe_bl)) pss_nil)
      (Z.pss_consJ (ps_if (PW.pt (pw_and (pt_cmpR op_lt (pe_callB c_len (by rfl) T.z_len (by decide +kernel) (pa_cons (pv 4) pa_nil)) pe_int (nomark _)) (pw_and (pt_cmpR op_lt (pv 3) pe_int (nomark _)) (pw_and1 (PW.pt (pw_or (pt_cmpR (op_notInD (Z.u65 hr) : OpR _ _ (rNotInD K)) (pe_ix ix_list (pv 8) (pe_un un_neg pe_int) (fun _ _ => rfl)) (pv 5) rfl) (pw_or1 (pt_cmpR (op_notInD (Z.u65 hr) : OpR _ _ (rNotInD K)) (pe_ix ix_list (pv 9) (pe_un un_neg pe_int) (fun _ _ => rfl)) (pv 5) rfl)))))))) (pss_one (ps_ret pe_bl)) pss_nil)
      (pss_one (ps_ret (pe_and (pe_call (ok__law_judged T) (hr.mono (by decide)) (by rfl) T.g__law_judged T.F__law_judged.kp T.b__law_judged .nil pass0 (pa_cons (pv 1) (pa_cons (pv 2) (pa_cons (pv 3) (pa_cons (pv 5) (pa_cons pe_int pa_nil)))))) (pe_one (pe_call (ok__law_judged T) (hr.mono (by decide)) (by rfl) T.g__law_judged T.F__law_judged.kp T.b__law_judged .nil pass0 (pa_cons (pv 1) (pa_cons (pv 2) (pa_cons (pv 3) (pa_cons (pv 5) (pa_cons (pe_un un_neg pe_int) pa_nil))))))))))))))))))))))))), ?_⟩
    walk_at "z0"
    walk_at "z"
    refine ⟨c, ns, rfl, hS, fun a p H1 na np k1 d1 => ?_⟩
    have T1 := tabs_kp hT k1
    walk_at "z"
    refine ⟨a, p, rfl, d1, fun H2 r gs ms ws nr k2 d2 e2 A2 v2 hN hW => ?_⟩
    have T2 := deck_tabs T1 d1 k2
    obtain ⟨hZ, hgn⟩ := rows_ok hN hW
    rw [hgn] at v2
    generalize hzs : gathZ ws = zs at hZ v2
    generalize ms.sum.toNat = S at hZ
    have hasc : AscZ zs := by
      rw [← hzs]
      exact gathZ_asc (ws_ne hN hW)
    have hra := (d1.ne nr).1
    walk_at "z"
    refine ⟨a, p, 7, rfl, d2, by decide, by decide, fun H3 u u0 u7 k3 d3 => ?_⟩
    walk_at "z"
    refine Z.lstK (fun L H4 nL k4 e4 => ?_)
    have d4 := d3.kp0 k4
    have haL := (d3.ne nL).1
    walk_at "z"
    refine ⟨a, p, 6, rfl, d4, by decide, by decide, fun H5 v v0 v6 k5 d5 => ?_⟩
    have e5 := k5.get (nin1 haL.symm) e4
    obtain ⟨n, hn, hn6⟩ : ∃ n : Nat, atI [V.int 0, .int 1, .int 2, .int 2, .int 2, .int u] v = some (.int (n : Int)) ∧ n ≤ 6 := by
      rcases (show v = 0 ∨ v = 1 ∨ v = 2 ∨ v = 3 ∨ v = 4 ∨ v = 5 by omega) with rfl | rfl | rfl | rfl | rfl | rfl
      · exact ⟨0, rfl, by decide⟩
      · exact ⟨1, rfl, by decide⟩
      · exact ⟨2, rfl, by decide⟩
      · exact ⟨2, rfl, by decide⟩
      · exact ⟨2, rfl, by decide⟩
      · refine ⟨u.toNat, ?_, by omega⟩
        rw [show ((u.toNat : Nat) : Int) = u by omega]
        rfl
    walk_at "z"
    refine Z.ixL (lstL e5) hn ?_
    have k25 : Kp [a] H2 H5 := k3.trans ((k4.sub (by simp)).trans k5)
    obtain ⟨dxs2, hdx2⟩ := deck_lst d2
    have er5 := k25.get (nin1 hra.symm) e2
    have A5 : ∀ g ∈ gs, GRowAt K H5 g := fun g hg => (A2 g hg).kpM k25 (fun x hx => by rw [List.mem_singleton.mp hx]; exact NoTup.lst hdx2)
    have T5 := deck_tabs T2 d2 k25
    have hR5 := grows_p er5 A5 v2
    walk_at "z"
    refine ⟨a, p, r, n, S, zs, rfl, hn6, d5, hR5, hZ, fun H6 D ls pss k6 nD d6 e6 TL6 nl hps hp64 hsub => ?_⟩
    have hdD := (d5.ne nD).1
    obtain ⟨dxs5, hdx5⟩ := deck_lst d5
    have er6 := k6.get (nin1 hra.symm) er5
    have A6 : ∀ g ∈ gs, GRowAt K H6 g := fun g hg => (A5 g hg).kpM k6 (fun x hx => by rw [List.mem_singleton.mp hx]; exact NoTup.lst hdx5)
    have T6 := deck_tabs T5 d5 k6
    have hll := TL6.len
    clear k25 k6 k5 k4 k3 hdx5 hdx2 A5 er5 e5 e4 hR5 nl
    walk_at "z"
    refine Z.lstK (fun M H7 nM k7 e7 => ?_)
    have hmv : ∀ ps : List LP, Low (meanV (LA (lostF ps) zs n)) ∧ FrB 700 (meanV (LA (lostF ps) zs n)) := fun ps => ⟨(LA_mv hZ hn6).2.2.1, (LA_mv hZ hn6).2.2.2.mono (by decide)⟩
    walk_at "z"
    refine Z.forl (ls.map V.ref) (lstL (k7.get nin0 e6)) (fun i σ' H' => ∃ y6 y7 : Option V, σ' = [some (.ref c), some (.ref a), some (.ref r), some (.int (n : Int)), some (.ref D), some (.ref M), y6, y7, none, none, none, none, none, none, none, none] ∧ ExtN H6 H' ∧ Tabs [(T.P_law_from, LQ)] H' ∧ FrLs K H' M ((pss.take i).map fun ps => meanV (LA (lostF ps) zs n))) ?_ ?_ ?_ ?_
    · exact ⟨_, _, rfl, ext_kp k7, tabs_kp T6 k7, [], e7, .nil⟩
    · rintro i σ' H8 hi ⟨y6, y7, rfl, x8, T8, F8⟩
      exact lstL (ext_get x8 e6)
    · rintro i v σ' H8 hv ⟨y6, y7, rfl, x8, T8, F8⟩
      obtain ⟨l, ps, rfl, hlm, hpsi, hL8⟩ := (TL6.ext x8).get hv
      have hil := (List.getElem?_eq_some_iff.mp hpsi).1
      have er8 := ext_get x8 er6
      have A8 : ∀ g ∈ gs, GRowAt K H8 g := fun g hg => (A6 g hg).ext x8
      have hpl := hps ps (List.mem_of_getElem? hpsi)
      obtain ⟨m1, m2, m3, m4⟩ := LA_mv (L := lostF ps) hZ hn6
      walk_at "z"
      refine ⟨r, l, n, S, gs, zs, ps, rfl, by omega, hn6, er8, A8, v2, hZ, hL8, fun H9 d9 out9 k9 e9 A9 w9 => ?_⟩
      have hP9 := grows_p e9 A9 w9
      have T9 := tabs_kp T8 k9
      have hR9 := grows_p (k9.get nin0 er8) (fun g hg => (A8 g hg).kp0 k9) v2
      walk_at "z"
      obtain ⟨ts, el, PLl⟩ := id (hL8.kp0 k9)
      refine Z.listL (lstL el) (fun l2 H10 n10 k10 e10 => ?_)
      walk_at "z"
      refine ⟨r, l2, n, S, zs, ps, rfl, hn6, tabs_kp T9 k10, hR9.kp0 k10, hZ, ⟨ts, e10, PL.kp0 PLl k10⟩, hpl, fun H11 d11 x11 T11 P11 => ?_⟩
      have x911 := (ext_kp k10).trans x11
      walk_at "z"
      refine neP P11 (hP9.ext x911) ?_
      walk_at "z"
      refine ⟨r, l, n, S, zs, ps, rfl, hn6, T11, hR9.ext x911, hZ, (hL8.kp0 k9).ext x911, hpl, fun H12 c12 x12 T12 e12 => ?_⟩
      have x912 := x911.trans x12
      obtain ⟨qs, eq9, qA, qv⟩ := hP9.ext x912
      walk_at "z"
      refine ⟨d9, qs, rfl, lstL eq9, qA, m2.to qv, fun H13 c13 k13 e13 => ?_⟩
      rw [meanF_v, qv] at e13
      walk_at "z"
      refine neF (e12.kp0 k13) e13 ?_
      rw [decide_eq_true rfl]
      walk_at "z"
      have x913 := x912.trans (ext_kp k13)
      obtain ⟨as, eM, FM⟩ := F8.ext ((ext_kp k9).trans x913)
      refine ⟨Z.tyL eM, ?_⟩
      walk_at "z"
      refine ⟨d9, qs, rfl, lstL (k13.get nin0 eq9), fun x hx => (qA x hx).kp0 k13, m2.to qv, fun H14 c14 k14 e14 => ?_⟩
      rw [meanF_v, qv] at e14
      have eM14 := k14.get nin0 eM
      have hal := FM.len
      rw [List.length_map, List.length_take] at hal
      walk_at "z"
      refine Z.app eM14 (Z.szl (m := 1000) (by rw [List.length_map]; omega)) ?_
      walk_at "z"
      have kM : Kp [M] H14 (upd H14 M (.lst (as.map V.ref ++ [.ref c14]))) := Kp.put (by simp)
      have x814 := ((ext_kp k9).trans x913).trans (ext_kp k14)
      refine ⟨_, _, rfl, ext_put (x8.trans x814) kM (Nw.of nM), tabs_put (tabs_kp (tabs_kp T12 k13) k14) kM eM14, ?_⟩
      rw [List.take_add_one, hpsi, List.map_append]
      exact FrLs.snoc ⟨as, eM14, FM.kp0 k14⟩ eM14 e14
    rintro σ' H8 ⟨y6, y7, rfl, x8, T8, F8⟩
    rw [List.length_map, hll, List.take_length] at F8
    have er8 := ext_get x8 er6
    have A8 : ∀ g ∈ gs, GRowAt K H8 g := fun g hg => (A6 g hg).ext x8
    have hR8 := grows_p er8 A8 v2
    obtain ⟨rs, erp, hA, hv⟩ := id hR8
    have d8 := d6.ext x8
    have eD8 := ext_get x8 e6
    have hMa : M ≠ a := fun z => by
      obtain ⟨xs, hx⟩ := deck_lst d6
      rw [z, hx] at nM
      cases nM
    clear x8 TL6 k7 A6 er6 e6 e7 T6 d6 k2 d2 A2 e2 T2 T1 k1 d1 hT hS
    have hrl : rs.length = zs.length := by rw [← hv, List.length_map]
    have hz3 := hZ.len
    walk_at "z"
    refine ⟨r, rs, n, 1, true, rfl, rfl, lstL erp, hA, by rw [hv]; exact bnd_ok hZ hn6, fun H9 B1 nB1 k9 F9 => ?_⟩
    rw [hv] at F9
    walk_at "z"
    refine ⟨r, rs, n, -1, false, rfl, rfl, lstL (k9.get nin0 erp), fun x hx => (hA x hx).kp0 k9, by rw [hv]; exact bnd_ok hZ hn6, fun H10 B2 nB2 k10 F10 => ?_⟩
    rw [hv] at F10
    walk_at "z"
    refine Z.lstK (fun h1 H11 n11 k11 e11 => ?_)
    walk_at "z"
    refine Z.lstK (fun h2 H12 n12 k12 e12 => ?_)
    have F1 : FrLs K H12 B1 (bnds true zs (n + 1)) := F9.kp0 ((k10.trans k11).trans k12)
    have F2 : FrLs K H12 B2 (bnds false zs (n + 1)) := F10.kp0 (k11.trans k12)
    have k812 := ((k9.trans k10).trans k11).trans k12
    have FM := F8.kp0 k812
    have dK := d8.kp0 k812
    have TT := tabs_kp T8 k812
    have eDD := k812.get nin0 eD8
    have er := k812.get nin0 erp
    have hA12 : ∀ p ∈ rs, PRowAt K H12 p := fun p hp => (hA p hp).kp0 k812
    have hR := hR8.kp0 k812
    have e11' := k12.get nin0 e11
    clear k812 k9 k10 k11 k12 F9 F10 hA erp hR8 eD8 d8 T8 F8 A8 er8 e11 n11 n12 nB1 nB2
    obtain ⟨as1, eB1, G1⟩ := id F1
    obtain ⟨as2, eB2, G2⟩ := id F2
    have hl1 : as1.length = n + 1 := by rw [G1.len, bnds_len]
    have hl2 : as2.length = n + 1 := by rw [G2.len, bnds_len]
    have hbB : ∀ s i, i ≤ 6 → Low (bndF s zs i) ∧ FrB 700 (bndF s zs i) := fun s i hi => by
      have h9 := bnd_bd (s := s) hZ hi
      exact ⟨h9.low, bd_B hZ h9 (by decide) (by decide)⟩
    walk_at "z"
    refine Z.forr2 n (by omega) ⟨by omega, by omega, by omega, by omega⟩ (fun i σ' H' => ∃ (y12 y13 y14 y15 : Option V) (h1 h2 : Addr) (ts us : List Addr), σ' = [some (.ref c), some (.ref a), some (.ref r), some (.int (n : Int)), some (.ref D), some (.ref M), y6, y7, some (.ref B1), some (.ref B2), some (.ref h1), some (.ref h2), y12, y13, y14, y15] ∧ Kp [] H12 H' ∧ H' h1 = some (.lst (ts.map V.ref)) ∧ PL K H' ts (lostL true zs i) ∧ H' h2 = some (.lst (us.map V.ref)) ∧ PL K H' us (lostL false zs i)) ?_ ?_ ?_
    · exact ⟨_, _, _, _, h1, h2, [], [], rfl, Kp.refl _, e11', .nil, e12, .nil⟩
    · rintro i σ' H13 hi ⟨y12, y13, y14, y15, h1, h2, ts, us, rfl, k13, eh1, P1, eh2, P2⟩
      rw [show (1 : Int) + (i : Int) = ((i + 1 : Nat) : Int) by omega]
      have hx1 : (as1.map V.ref)[i]? = some (.ref (as1[i])) := by rw [List.getElem?_map, List.getElem?_eq_getElem (by omega)]; rfl
      obtain ⟨x1, f1, ex1, hf1, hxA1⟩ := G1.get hx1
      rw [ex1] at hx1
      have hfe1 : f1 = bndF true zs i := by
        unfold bnds at hf1
        rw [List.getElem?_map, List.getElem?_range (by omega)] at hf1
        exact (Option.some.inj hf1).symm
      subst hfe1
      have hx2 : (as2.map V.ref)[i]? = some (.ref (as2[i])) := by rw [List.getElem?_map, List.getElem?_eq_getElem (by omega)]; rfl
      obtain ⟨x2, f2, ex2, hf2, hxA2⟩ := G2.get hx2
      rw [ex2] at hx2
      have hfe2 : f2 = bndF false zs i := by
        unfold bnds at hf2
        rw [List.getElem?_map, List.getElem?_range (by omega)] at hf2
        exact (Option.some.inj hf2).symm
      subst hfe2
      have ei : ((i + 1 : Nat) : Int) - 1 = (i : Int) := by omega
      have ax1 : atI (as1.map V.ref) (((i + 1 : Nat) : Int) - 1) = some (.ref x1) := by rw [ei]; exact atI_nat hx1
      have ax2 : atI (as2.map V.ref) (((i + 1 : Nat) : Int) - 1) = some (.ref x2) := by rw [ei]; exact atI_nat hx2
      obtain ⟨b1l, b1B⟩ := hbB true i (by omega)
      obtain ⟨b2l, b2B⟩ := hbB false i (by omega)
      have hiz : i * zs.length ≤ 6 * 3 := Nat.mul_le_mul (by omega) hz3
      have hts := P1.len
      have hus := P2.len
      have hg1 := lostL_len (s := true) (zs := zs) i
      have hg2 := lostL_len (s := false) (zs := zs) i
      walk_at "z"
      refine Z.lcl (rs.map PRow.r) (lstL (k13.get nin0 er)) (fun C j H' => ∃ vs : List Addr, Kp [] H13 H' ∧ H' C = some (.lst (vs.map V.ref)) ∧ PL K H' vs (((zs.take j).filter fun z => loseF true zs (i + 1) z.1).map fun z => (((i + 1 : Nat) : Int), z.1)) ∧ vs.length ≤ j) ?_ ?_ ?_ ?_
      · intro C H14 nC k14 e14
        exact ⟨[], k14, e14, .nil, Nat.le_refl _⟩
      · rintro C j H14 nC hj ⟨vs, k14, _⟩
        exact lstL ((k13.trans k14).get nin0 er)
      · rintro C j v H14 nC hv14 ⟨vs, k14, e14, P14, l14⟩
        rw [List.getElem?_map] at hv14
        obtain ⟨p', hp, rfl⟩ := Option.map_eq_some_iff.mp hv14
        have hpA := (hA12 p' (List.mem_of_getElem? hp)).kp0 (k13.trans k14)
        have hjl := (List.getElem?_eq_some_iff.mp hp).1
        have hzj : zs[j]? = some p'.v := by rw [← hv, List.getElem?_map, hp]; rfl
        have hzm := List.mem_of_getElem? hzj
        have g1 : Low p'.g := hZ.num p'.v hzm
        have g2 : FrB 10 p'.g := (hZ.nums p'.v hzm).1
        have kk := k13.trans k14
        dsimp only [wipe, List.set]
        refine Z.gtup hpA.tup rfl ?_
        walk_at "z"
        refine ⟨rfl, ?_⟩
        walk_at "z"
        refine Z.ixL (lstL (kk.get nin0 eB1)) ax1 ?_
        walk_at "z"
        refine ⟨p'.b, x1, p'.g, _, rfl, hpA.num, hxA1.kp0 kk, g2.mono (by decide), b1B.mono (by decide), ?_⟩
        rw [fless_iff g1.1 b1l.1]
        by_cases hc : rv p'.g < rv (bndF true zs i)
        · rw [decide_eq_true hc]
          walk_at "z"
          refine Z.tupK (fun t H15 nt k15 e15 => ?_)
          have e15C := k15.get nin0 e14
          have hrow : LpAt K H15 t (((i + 1 : Nat) : Int), p'.g) := ⟨p'.b, e15, hpA.num.kp0 k15⟩
          have kC : Kp [C] H15 (upd H15 C (.lst (vs.map V.ref ++ [.ref t]))) := Kp.put (by simp)
          refine ⟨_, e15C, Z.szl (m := 1000) (by rw [List.length_map]; omega), vs ++ [t], (k14.trans k15).mut nC rfl, by rw [upd_same, List.map_append]; rfl, ?_, by simp; omega⟩
          rw [List.take_add_one, hzj, List.filter_append, List.map_append]
          rw [show ((some p'.v).toList.filter fun z => loseF true zs (i + 1) z.1) = [p'.v] from List.filter_cons_of_pos (by show decide (rv p'.g < rv (bndF true zs i)) = true; exact decide_eq_true hc)]
          exact ((P14.kp0 k15).snoc hrow).kpl kC e15C
        · rw [decide_eq_false hc]
          walk_at "z"
          refine ⟨vs, k14, e14, ?_, by omega⟩
          rw [List.take_add_one, hzj, List.filter_append, List.map_append]
          rw [show ((some p'.v).toList.filter fun z => loseF true zs (i + 1) z.1) = [] from List.filter_cons_of_neg (by show ¬ decide (rv p'.g < rv (bndF true zs i)) = true; rw [decide_eq_false hc]; decide)]
          rw [List.map_nil, List.append_nil]
          exact P14
      rintro C H14 nC ⟨vs, k14, e14, P14, l14⟩
      rw [List.length_map] at P14 l14
      rw [hrl, List.take_length] at P14
      refine Z.cat (xs := ts.map V.ref) (zs := vs.map V.ref) (k14.get nin0 eh1) e14 (by rw [List.length_map, List.length_map]; omega) (fun h1' H15 n15 k15 e15 => ?_)
      have k1315 := k14.trans k15
      have k15' := k13.trans k1315
      rw [← List.map_append] at e15
      have Q1 : PL K H15 (ts ++ vs) (lostL true zs (i + 1)) := by
        rw [lostL_succ]
        exact (P1.kp0 k1315).app (P14.kp0 k15)
      have eh2' := k1315.get nin0 eh2
      have P2' := P2.kp0 k1315
      clear P14 e14 k14 k15 k1315
      walk_at "z"
      refine Z.lcl (rs.map PRow.r) (lstL (k15'.get nin0 er)) (fun C j H' => ∃ vs : List Addr, Kp [] H15 H' ∧ H' C = some (.lst (vs.map V.ref)) ∧ PL K H' vs (((zs.take j).filter fun z => loseF false zs (i + 1) z.1).map fun z => (((i + 1 : Nat) : Int), z.1)) ∧ vs.length ≤ j) ?_ ?_ ?_ ?_
      · intro C H16 nC k16 e16
        exact ⟨[], k16, e16, .nil, Nat.le_refl _⟩
      · rintro C j H16 nC hj ⟨vs, k16, _⟩
        exact lstL ((k15'.trans k16).get nin0 er)
      · rintro C j v H16 nC hv16 ⟨vs, k16, e16, P16, l16⟩
        rw [List.getElem?_map] at hv16
        obtain ⟨p', hp, rfl⟩ := Option.map_eq_some_iff.mp hv16
        have hpA := (hA12 p' (List.mem_of_getElem? hp)).kp0 (k15'.trans k16)
        have hjl := (List.getElem?_eq_some_iff.mp hp).1
        have hzj : zs[j]? = some p'.v := by rw [← hv, List.getElem?_map, hp]; rfl
        have hzm := List.mem_of_getElem? hzj
        have g1 : Low p'.g := hZ.num p'.v hzm
        have g2 : FrB 10 p'.g := (hZ.nums p'.v hzm).1
        have kk := k15'.trans k16
        dsimp only [wipe, List.set]
        refine Z.gtup hpA.tup rfl ?_
        walk_at "z"
        refine ⟨rfl, ?_⟩
        walk_at "z"
        refine Z.ixL (lstL (kk.get nin0 eB2)) ax2 ?_
        walk_at "z"
        refine ⟨x2, p'.b, _, p'.g, rfl, hxA2.kp0 kk, hpA.num, b2B.mono (by decide), g2.mono (by decide), ?_⟩
        rw [fless_iff b2l.1 g1.1]
        by_cases hc : rv (bndF false zs i) < rv p'.g
        · rw [decide_eq_true hc]
          walk_at "z"
          refine Z.tupK (fun t H17 nt k17 e17 => ?_)
          have e17C := k17.get nin0 e16
          have hrow : LpAt K H17 t (((i + 1 : Nat) : Int), p'.g) := ⟨p'.b, e17, hpA.num.kp0 k17⟩
          have kC : Kp [C] H17 (upd H17 C (.lst (vs.map V.ref ++ [.ref t]))) := Kp.put (by simp)
          refine ⟨_, e17C, Z.szl (m := 1000) (by rw [List.length_map]; omega), vs ++ [t], (k16.trans k17).mut nC rfl, by rw [upd_same, List.map_append]; rfl, ?_, by simp; omega⟩
          rw [List.take_add_one, hzj, List.filter_append, List.map_append]
          rw [show ((some p'.v).toList.filter fun z => loseF false zs (i + 1) z.1) = [p'.v] from List.filter_cons_of_pos (by show decide (rv (bndF false zs i) < rv p'.g) = true; exact decide_eq_true hc)]
          exact ((P16.kp0 k17).snoc hrow).kpl kC e17C
        · rw [decide_eq_false hc]
          walk_at "z"
          refine ⟨vs, k16, e16, ?_, by omega⟩
          rw [List.take_add_one, hzj, List.filter_append, List.map_append]
          rw [show ((some p'.v).toList.filter fun z => loseF false zs (i + 1) z.1) = [] from List.filter_cons_of_neg (by show ¬ decide (rv (bndF false zs i) < rv p'.g) = true; rw [decide_eq_false hc]; decide)]
          rw [List.map_nil, List.append_nil]
          exact P16
      rintro C H16 nC ⟨vs2, k16, e16, P16, l16⟩
      rw [List.length_map] at P16 l16
      rw [hrl, List.take_length] at P16
      refine Z.cat (xs := us.map V.ref) (zs := vs2.map V.ref) (k16.get nin0 eh2') e16 (by rw [List.length_map, List.length_map]; omega) (fun h2' H17 n17 k17 e17 => ?_)
      rw [← List.map_append] at e17
      have k1517 := k16.trans k17
      walk_at "z"
      refine ⟨_, _, _, _, h1', h2', ts ++ vs, us ++ vs2, rfl, k15'.trans k1517, k1517.get nin0 e15, Q1.kp0 k1517, e17, ?_⟩
      rw [lostL_succ]
      exact (P2'.kp0 k1517).app (P16.kp0 k17)
    rintro σ' H13 ⟨y12, y13, y14, y15, h1, h2, ts, us, rfl, k13, eh1, P1, eh2, P2⟩
    rw [bnds_snoc] at G1 G2
    obtain ⟨bs1, b1, rfl, _, hb1⟩ := frs_last G1
    obtain ⟨bs2, b2, rfl, _, hb2⟩ := frs_last G2
    rw [List.map_append] at eB1 eB2
    have last1 : ∀ {H' : Hp}, Kp [] H12 H' → SqL K H' B1 (bs1.map V.ref ++ [.ref b1]) := fun k => lstL (k.get nin0 eB1)
    have last2 : ∀ {H' : Hp}, Kp [] H12 H' → SqL K H' B2 (bs2.map V.ref ++ [.ref b2]) := fun k => lstL (k.get nin0 eB2)
    obtain ⟨t1l, t1B⟩ := hbB true n hn6
    obtain ⟨t2l, t2B⟩ := hbB false n hn6
    walk_at "z"
    refine ⟨r, n, S, zs, rfl, hn6, hR.kp0 k13, hZ, hasc, fun H14 t b l k14 e14 f14 L14 => ?_⟩
    have kk14 := k13.trans k14
    walk_at "z"
    refine Z.ixL (last1 kk14) (atI_last _ _) ?_
    walk_at "z"
    refine Z.tupK (fun t' H15 nt k15 e15 => ?_)
    have kk15 := kk14.trans k15
    refine gl_ne (k15.get nin0 e14) (f14.kp0 k15) (L14.kp0 k15) e15 (hb1.kp0 kk15) ⟨ts, (k14.trans k15).get nin0 eh1, P1.kp0 (k14.trans k15)⟩ ?_
    walk_at "z"
    refine ⟨r, n, S, zs, rfl, hn6, hR.kp0 kk15, hZ, hasc, fun H16 t2 b3 l2 k16 e16 f16 L16 => ?_⟩
    have kk16 := kk15.trans k16
    walk_at "z"
    refine Z.ixL (last2 kk16) (atI_last _ _) ?_
    walk_at "z"
    refine Z.tupK (fun t3 H17 nt3 k17 e17 => ?_)
    have kk17 := kk16.trans k17
    have k1317 := (k14.trans k15).trans (k16.trans k17)
    refine gl_ne (k17.get nin0 e16) (f16.kp0 k17) (L16.kp0 k17) e17 (hb2.kp0 kk17) ⟨us, k1317.get nin0 eh2, P2.kp0 k1317⟩ ?_
    walk_at "z"
    have eh1' := k1317.get nin0 eh1
    have eh2' := k1317.get nin0 eh2
    have P1' := P1.kp0 k1317
    have P2' := P2.kp0 k1317
    clear P1 P2 eh1 eh2 k14 k15 k16 k17 kk14 kk15 kk16 e14 e15 e16 e17 f14 f16 L14 L16 k1317 k13
    have hms : ∀ f ∈ pss.map (fun ps => meanV (LA (lostF ps) zs n)), Low f ∧ FrB 700 f ∧ rv f ≤ rv (bndF true zs n) ∧ rv (bndF false zs n) ≤ rv f := fun f hf => by
      obtain ⟨ps, _, rfl⟩ := List.mem_map.mp hf
      have h9 := LA_le (L := lostF ps) hZ.toNumZ n
      exact ⟨(hmv ps).1, (hmv ps).2, h9.1, h9.2⟩
    obtain ⟨mas, em, GM⟩ := id FM
    refine Z.forl (mas.map V.ref) (lstL (kk17.get nin0 em)) (fun i σ' H' => ∃ y13 : Option V, σ' = [some (.ref c), some (.ref a), some (.ref r), some (.int (n : Int)), some (.ref D), some (.ref M), y6, y7, some (.ref B1), some (.ref B2), some (.ref h1), some (.ref h2), y12, y13, y14, y15] ∧ H' = H17) ?_ ?_ ?_ ?_
    · exact ⟨_, rfl, rfl⟩
    · rintro i σ' H' hi ⟨_, rfl, rfl⟩
      exact lstL (kk17.get nin0 em)
    · rintro i v σ' H' hv9 ⟨_, rfl, rfl⟩
      obtain ⟨x, f, rfl, hf, hx⟩ := (GM.kp0 kk17).get hv9
      obtain ⟨g1, g2, g3, g4⟩ := hms f (List.mem_of_getElem? hf)
      walk_at "z"
      refine Z.ixL (last1 kk17) (atI_last _ _) ?_
      walk_at "z"
      refine ⟨b1, x, _, f, rfl, hb1.kp0 kk17, hx, t1B.mono (by decide), g2.mono (by decide), ?_⟩
      rw [fless_iff t1l.1 g1.1, decide_eq_false (Rat.not_lt.mpr g3)]
      walk_at "z"
      refine Z.ixL (last2 kk17) (atI_last _ _) ?_
      walk_at "z"
      refine ⟨x, b2, f, _, rfl, hx, hb2.kp0 kk17, g2.mono (by decide), t2B.mono (by decide), ?_⟩
      rw [fless_iff g1.1 t2l.1, decide_eq_false (Rat.not_lt.mpr g4)]
      walk_at "z"
      exact ⟨_, rfl, rfl⟩
    rintro σ' H' ⟨y13', rfl, rfl⟩
    have hlen : ∀ s, (lostL s zs n).length ≤ 1000 := fun s => by
      have h9 := lostL_len (s := s) (zs := zs) n
      have h10 : n * zs.length ≤ 6 * 3 := Nat.mul_le_mul hn6 hz3
      omega
    have x17 : ExtN H12 H' := ext_kp kk17
    walk_at "z"
    refine ⟨r, h1, n, S, zs, lostL true zs n, rfl, hn6, tabs_kp TT kk17, hR.kp0 kk17, hZ, ⟨ts, eh1', P1'⟩, hlen true, fun H18 c18 x18 T18 e18 => ?_⟩
    rw [lost_mean hZ.toNumZ] at e18
    walk_at "z"
    refine Z.ixL (lstL (ext_get (x17.trans x18) eB1)) (atI_last _ _) ?_
    refine neF e18 (FrAt.ext hb1 (x17.trans x18)) ?_
    rw [decide_eq_true rfl]
    walk_at "z"
    refine ⟨r, h2, n, S, zs, lostL false zs n, rfl, hn6, T18, hR.ext (x17.trans x18), hZ, LpsAt.ext (⟨us, eh2', P2'⟩ : LpsAt K H' h2 _) x18, hlen false, fun H19 c19 x19 T19 e19 => ?_⟩
    rw [lost_mean hZ.toNumZ] at e19
    have x1219 := (x17.trans x18).trans x19
    walk_at "z"
    refine Z.ixL (lstL (ext_get x1219 eB2)) (atI_last _ _) ?_
    refine neF e19 (FrAt.ext hb2 x1219) ?_
    rw [decide_eq_true rfl]
    walk_at "z"
    refine Z.seqJ (fun σ' H' => σ' = [some (.ref c), some (.ref a), some (.ref r), some (.int (n : Int)), some (.ref D), some (.ref M), y6, y7, some (.ref B1), some (.ref B2), some (.ref h1), some (.ref h2), y12, y13', y14, y15] ∧ H' = H19) ?_ ?_
    · rintro σ' H20 ⟨rfl, rfl⟩
      walk_at "z"
      refine ⟨a, p, r, M, n, S, zs, _, 1, true, rfl, rfl, .inl rfl, hn6, dK.ext x1219, hR.ext x1219, hZ, hra.symm, FM.ext x1219, hMa, hms, fun H21 k21 d21 => ?_⟩
      walk_at "z"
      obtain ⟨dxs, hdx⟩ := deck_lst (dK.ext x1219)
      refine ⟨a, p, r, M, n, S, zs, _, -1, false, rfl, rfl, .inr rfl, hn6, d21, (hR.ext x1219).kpl k21 hdx hra.symm, hZ, hra.symm, (FM.ext x1219).kpl k21 hdx hMa, hMa, hms, fun H22 k22 d22 => ?_⟩
      walk_at "z"
      exact q _
    · intro N1 jn
      walk_at "z"
      refine Z.lenL (lstL (ext_get x1219 eDD)) ?_
      rw [List.length_map, hll]
      walk_at "z"
      refine Z.ite (fun h12 => ?_) (fun h12 => ?_)
      · walk_at "z"
        refine Z.ite (fun h2' => ?_) (fun h2' => ?_)
        · have hss : pss = subsF (allP zs n) := by
            rcases hsub with h9 | h9
            · exact h9
            · omega
          have m1 := part_mean (s := true) hZ.toNumZ n
          have m2 := part_mean (s := false) hZ.toNumZ n
          rw [← hss] at m1 m2
          walk_at "z"
          refine Z.ixL (lstL (ext_get x1219 eB1)) (atI_last _ _) ?_
          walk_at "z"
          refine ninF (FrAt.ext hb1 x1219) (FM.ext x1219) ?_
          rw [decide_eq_true m1]
          walk_at "z"
          refine Z.ixL (lstL (ext_get x1219 eB2)) (atI_last _ _) ?_
          walk_at "z"
          refine ninF (FrAt.ext hb2 x1219) (FM.ext x1219) ?_
          rw [decide_eq_true m2]
          walk_at "z"
          exact jn _ _ ⟨rfl, rfl⟩
        · walk_at "z"
          exact jn _ _ ⟨rfl, rfl⟩
      · walk_at "z"
        exact jn _ _ ⟨rfl, rfl⟩
end law46

set_option maxHeartbeats 2000000 in
set_option maxHeartbeats 4000000 in
theorem all_mk {l : PySem.W.OpenLaw} {w : World} {K : PySem.W.Frag} {h : Heap} {mg : Str → Option Value} {fa : Addr} {ts : List Addr} (X : K.In h) (G : h.Ns mainGlobals mg) (hts : ∀ P ∈ ts, h.get? P = some (PySem.W.tabObj #[])) (hfa : mg "law" = some (.ref fa))
    {CSamphireError : Addr}
    {CZeroDenominator fZeroDenominator cZeroDenominator ccZeroDenominator : Addr}
    {CInvalidLaw fInvalidLaw cInvalidLaw ccInvalidLaw : Addr}
    {od1 an1 : Option Addr} {sl1 : Array (Option Value)} {oc1 kV1 dc1 pm1 cd1 ct1 : Value} {f1 : Addr}
    {od2 an2 : Option Addr} {sl2 : Array (Option Value)} {oc2 kV2 dc2 pm2 cd2 ct2 : Value} {f2 : Addr}
    {od3 an3 : Option Addr} {sl3 : Array (Option Value)} {oc3 kV3 dc3 pm3 cd3 ct3 : Value} {f3 : Addr}
    {od4 an4 : Option Addr} {sl4 : Array (Option Value)} {oc4 kV4 dc4 pm4 cd4 ct4 : Value} {f4 : Addr}
    {od5 an5 : Option Addr} {sl5 : Array (Option Value)} {oc5 kV5 dc5 pm5 cd5 ct5 : Value} {f5 : Addr}
    {od6 an6 : Option Addr} {sl6 : Array (Option Value)} {oc6 kV6 dc6 pm6 cd6 ct6 : Value} {f6 : Addr}
    {od7 an7 : Option Addr} {sl7 : Array (Option Value)} {oc7 kV7 dc7 pm7 cd7 ct7 : Value} {f7 : Addr}
    {od8 an8 : Option Addr} {sl8 : Array (Option Value)} {oc8 kV8 dc8 pm8 ct8 : Value} {f8 : Addr}
    {tc8 tP8 : Addr} {toc8 : Value} {tod8 : Option Addr} {tcv8 : List Value} {tsl8 : Array (Option Value)}
    {od9 an9 : Option Addr} {sl9 : Array (Option Value)} {oc9 kV9 dc9 pm9 cd9 ct9 : Value} {f9 : Addr}
    {od10 an10 : Option Addr} {sl10 : Array (Option Value)} {oc10 kV10 dc10 pm10 cd10 ct10 : Value} {f10 : Addr}
    {od11 an11 : Option Addr} {sl11 : Array (Option Value)} {oc11 kV11 dc11 pm11 cd11 ct11 : Value} {f11 : Addr}
    {od12 an12 : Option Addr} {sl12 : Array (Option Value)} {oc12 kV12 dc12 pm12 cd12 ct12 : Value} {f12 : Addr}
    {od13 an13 : Option Addr} {sl13 : Array (Option Value)} {oc13 kV13 dc13 pm13 cd13 ct13 : Value} {f13 : Addr}
    {od14 an14 : Option Addr} {sl14 : Array (Option Value)} {oc14 kV14 dc14 pm14 cd14 ct14 : Value} {f14 : Addr}
    {od15 an15 : Option Addr} {sl15 : Array (Option Value)} {oc15 kV15 dc15 pm15 cd15 ct15 : Value} {f15 : Addr}
    {od16 an16 : Option Addr} {sl16 : Array (Option Value)} {oc16 kV16 dc16 pm16 cd16 ct16 : Value} {f16 : Addr}
    {od17 an17 : Option Addr} {sl17 : Array (Option Value)} {oc17 kV17 dc17 pm17 cd17 ct17 : Value} {f17 : Addr}
    {od18 an18 : Option Addr} {sl18 : Array (Option Value)} {oc18 kV18 dc18 pm18 cd18 ct18 : Value} {f18 : Addr}
    {od19 an19 : Option Addr} {sl19 : Array (Option Value)} {oc19 kV19 dc19 pm19 cd19 ct19 : Value} {f19 : Addr}
    {od20 an20 : Option Addr} {sl20 : Array (Option Value)} {oc20 kV20 dc20 pm20 cd20 ct20 : Value} {f20 : Addr}
    {od21 an21 : Option Addr} {sl21 : Array (Option Value)} {oc21 kV21 dc21 pm21 cd21 ct21 : Value} {f21 : Addr}
    {od22 an22 : Option Addr} {sl22 : Array (Option Value)} {oc22 kV22 dc22 pm22 cd22 ct22 : Value} {f22 : Addr}
    {od23 an23 : Option Addr} {sl23 : Array (Option Value)} {oc23 kV23 dc23 pm23 cd23 ct23 : Value} {f23 : Addr}
    {od24 an24 : Option Addr} {sl24 : Array (Option Value)} {oc24 kV24 dc24 pm24 cd24 ct24 : Value} {f24 : Addr}
    {od25 an25 : Option Addr} {sl25 : Array (Option Value)} {oc25 kV25 dc25 pm25 cd25 ct25 : Value} {f25 : Addr}
    {od26 an26 : Option Addr} {sl26 : Array (Option Value)} {oc26 kV26 dc26 pm26 cd26 ct26 : Value} {f26 : Addr}
    {od27 an27 : Option Addr} {sl27 : Array (Option Value)} {oc27 kV27 dc27 pm27 cd27 ct27 : Value} {f27 : Addr}
    {od28 an28 : Option Addr} {sl28 : Array (Option Value)} {oc28 kV28 dc28 pm28 cd28 ct28 : Value} {f28 : Addr}
    {od29 an29 : Option Addr} {sl29 : Array (Option Value)} {oc29 kV29 dc29 pm29 cd29 ct29 : Value} {f29 : Addr}
    {od30 an30 : Option Addr} {sl30 : Array (Option Value)} {oc30 kV30 dc30 pm30 cd30 ct30 : Value} {f30 : Addr}
    {od31 an31 : Option Addr} {sl31 : Array (Option Value)} {oc31 kV31 dc31 pm31 cd31 ct31 : Value} {f31 : Addr}
    {od32 an32 : Option Addr} {sl32 : Array (Option Value)} {oc32 kV32 dc32 pm32 cd32 ct32 : Value} {f32 : Addr}
    {od33 an33 : Option Addr} {sl33 : Array (Option Value)} {oc33 kV33 dc33 pm33 cd33 ct33 : Value} {f33 : Addr}
    {od34 an34 : Option Addr} {sl34 : Array (Option Value)} {oc34 kV34 dc34 pm34 cd34 ct34 : Value} {f34 : Addr}
    {od35 an35 : Option Addr} {sl35 : Array (Option Value)} {oc35 kV35 dc35 pm35 cd35 ct35 : Value} {f35 : Addr}
    {od36 an36 : Option Addr} {sl36 : Array (Option Value)} {oc36 kV36 dc36 pm36 cd36 ct36 : Value} {f36 : Addr}
    {nmZeroDenominator qZeroDenominator : Str} {NZeroDenominator : Addr} {bsZeroDenominator : List Value} {snZeroDenominator : List Str} {subZeroDenominator : List Value} {abZeroDenominator : Bool} {colZeroDenominator : Option Bool} {ddZeroDenominator : Option Addr} {m0ZeroDenominator m1ZeroDenominator m2ZeroDenominator m3ZeroDenominator m5ZeroDenominator : Option Value} {occZeroDenominator : Value} {cddZeroDenominator : Option Addr} {cvsZeroDenominator : List Value} {cslZeroDenominator : Array (Option Value)} {cclZeroDenominator : Value} {ccdZeroDenominator : Option Addr} {ccsZeroDenominator : Array (Option Value)} {ocZeroDenominator : Value} {odZeroDenominator : Option Addr} {oslZeroDenominator : Array (Option Value)} {docZeroDenominator pmZeroDenominator ctvZeroDenominator : Value}
    {nmInvalidLaw qInvalidLaw : Str} {NInvalidLaw : Addr} {bsInvalidLaw : List Value} {snInvalidLaw : List Str} {subInvalidLaw : List Value} {abInvalidLaw : Bool} {colInvalidLaw : Option Bool} {ddInvalidLaw : Option Addr} {m0InvalidLaw m1InvalidLaw m2InvalidLaw m3InvalidLaw m5InvalidLaw : Option Value} {occInvalidLaw : Value} {cddInvalidLaw : Option Addr} {cvsInvalidLaw : List Value} {cslInvalidLaw : Array (Option Value)} {cclInvalidLaw : Value} {ccdInvalidLaw : Option Addr} {ccsInvalidLaw : Array (Option Value)} {ocInvalidLaw : Value} {odInvalidLaw : Option Addr} {oslInvalidLaw : Array (Option Value)} {docInvalidLaw pmInvalidLaw ctvInvalidLaw : Value}
    {k_ZERO : Addr} {od_ZERO : Option Addr} {nn_ZERO : Nat} {sl_ZERO : Array (Option Value)} {t0_ZERO t1_ZERO : Tok}
    {k_ONE : Addr} {od_ONE : Option Addr} {nn_ONE : Nat} {sl_ONE : Array (Option Value)} {t0_ONE t1_ONE : Tok}
    (a1 : PySem.W.nsIn K mainGlobals "lowest" = some (some (.ref f1)))
    (l1 : K.lookup f1 = some ⟨oc1, od1, .func (PySem.W.fnOf "lowest" "lowest" (defArgs s_lowest) (defBody s_lowest) (defScope s_lowest) .none kV1 dc1 pm1 an1 cd1 ct1), sl1⟩)
    (c1 : PySem.W.codeIn K cd1 "lowest" = true)
    (k1 : PySem.W.keepIn K (.ref f1) = true)
    (a2 : PySem.W.nsIn K mainGlobals "plus" = some (some (.ref f2)))
    (l2 : K.lookup f2 = some ⟨oc2, od2, .func (PySem.W.fnOf "plus" "plus" (defArgs s_plus) (defBody s_plus) (defScope s_plus) .none kV2 dc2 pm2 an2 cd2 ct2), sl2⟩)
    (c2 : PySem.W.codeIn K cd2 "plus" = true)
    (k2 : PySem.W.keepIn K (.ref f2) = true)
    (a3 : PySem.W.nsIn K mainGlobals "minus" = some (some (.ref f3)))
    (l3 : K.lookup f3 = some ⟨oc3, od3, .func (PySem.W.fnOf "minus" "minus" (defArgs s_minus) (defBody s_minus) (defScope s_minus) .none kV3 dc3 pm3 an3 cd3 ct3), sl3⟩)
    (c3 : PySem.W.codeIn K cd3 "minus" = true)
    (k3 : PySem.W.keepIn K (.ref f3) = true)
    (a4 : PySem.W.nsIn K mainGlobals "times" = some (some (.ref f4)))
    (l4 : K.lookup f4 = some ⟨oc4, od4, .func (PySem.W.fnOf "times" "times" (defArgs s_times) (defBody s_times) (defScope s_times) .none kV4 dc4 pm4 an4 cd4 ct4), sl4⟩)
    (c4 : PySem.W.codeIn K cd4 "times" = true)
    (k4 : PySem.W.keepIn K (.ref f4) = true)
    (a5 : PySem.W.nsIn K mainGlobals "less" = some (some (.ref f5)))
    (l5 : K.lookup f5 = some ⟨oc5, od5, .func (PySem.W.fnOf "less" "less" (defArgs s_less) (defBody s_less) (defScope s_less) .none kV5 dc5 pm5 an5 cd5 ct5), sl5⟩)
    (c5 : PySem.W.codeIn K cd5 "less" = true)
    (k5 : PySem.W.keepIn K (.ref f5) = true)
    (a6 : PySem.W.nsIn K mainGlobals "sum_of" = some (some (.ref f6)))
    (l6 : K.lookup f6 = some ⟨oc6, od6, .func (PySem.W.fnOf "sum_of" "sum_of" (defArgs s_sum_of) (defBody s_sum_of) (defScope s_sum_of) .none kV6 dc6 pm6 an6 cd6 ct6), sl6⟩)
    (c6 : PySem.W.codeIn K cd6 "sum_of" = true)
    (k6 : PySem.W.keepIn K (.ref f6) = true)
    (a7 : PySem.W.nsIn K mainGlobals "check_chances" = some (some (.ref f7)))
    (l7 : K.lookup f7 = some ⟨oc7, od7, .func (PySem.W.fnOf "check_chances" "check_chances" (defArgs s_check_chances) (defBody s_check_chances) (defScope s_check_chances) .none kV7 dc7 pm7 an7 cd7 ct7), sl7⟩)
    (c7 : PySem.W.codeIn K cd7 "check_chances" = true)
    (k7 : PySem.W.keepIn K (.ref f7) = true)
    (a8 : PySem.W.nsIn K mainGlobals "law_from" = some (some (.ref f8)))
    (l8 : K.lookup f8 = some ⟨oc8, od8, .func (PySem.W.fnOf "law_from" "law_from" (defArgs s_law_from) (defBody s_law_from) (defScope s_law_from) .none kV8 dc8 pm8 an8 (.ref tc8) ct8), sl8⟩)
    (c8 : PySem.W.codeIn K (.ref tc8) "law_from" = true)
    (k8 : PySem.W.keepIn K (.ref f8) = true)
    (tl8 : K.lookup tc8 = some ⟨toc8, tod8, .fields tcv8.toArray, tsl8⟩)
    (tp8 : tcv8[11]? = some (.ref tP8))
    (th8 : PySem.W.codeHdIn K tc8 tP8 = true) (tn8 : K.lookup tP8 = none)
    (tm8 : tP8 ∈ ts)
    (a9 : PySem.W.nsIn K mainGlobals "mean" = some (some (.ref f9)))
    (l9 : K.lookup f9 = some ⟨oc9, od9, .func (PySem.W.fnOf "mean" "mean" (defArgs s_mean) (defBody s_mean) (defScope s_mean) .none kV9 dc9 pm9 an9 cd9 ct9), sl9⟩)
    (c9 : PySem.W.codeIn K cd9 "mean" = true)
    (k9 : PySem.W.keepIn K (.ref f9) = true)
    (a10 : PySem.W.nsIn K mainGlobals "arrived" = some (some (.ref f10)))
    (l10 : K.lookup f10 = some ⟨oc10, od10, .func (PySem.W.fnOf "arrived" "arrived" (defArgs s_arrived) (defBody s_arrived) (defScope s_arrived) .none kV10 dc10 pm10 an10 cd10 ct10), sl10⟩)
    (c10 : PySem.W.codeIn K cd10 "arrived" = true)
    (k10 : PySem.W.keepIn K (.ref f10) = true)
    (a11 : PySem.W.nsIn K mainGlobals "mean_by" = some (some (.ref f11)))
    (l11 : K.lookup f11 = some ⟨oc11, od11, .func (PySem.W.fnOf "mean_by" "mean_by" (defArgs s_mean_by) (defBody s_mean_by) (defScope s_mean_by) .none kV11 dc11 pm11 an11 cd11 ct11), sl11⟩)
    (c11 : PySem.W.codeIn K cd11 "mean_by" = true)
    (k11 : PySem.W.keepIn K (.ref f11) = true)
    (a12 : PySem.W.nsIn K mainGlobals "mean_above" = some (some (.ref f12)))
    (l12 : K.lookup f12 = some ⟨oc12, od12, .func (PySem.W.fnOf "mean_above" "mean_above" (defArgs s_mean_above) (defBody s_mean_above) (defScope s_mean_above) .none kV12 dc12 pm12 an12 cd12 ct12), sl12⟩)
    (c12 : PySem.W.codeIn K cd12 "mean_above" = true)
    (k12 : PySem.W.keepIn K (.ref f12) = true)
    (a13 : PySem.W.nsIn K mainGlobals "mean_below" = some (some (.ref f13)))
    (l13 : K.lookup f13 = some ⟨oc13, od13, .func (PySem.W.fnOf "mean_below" "mean_below" (defArgs s_mean_below) (defBody s_mean_below) (defScope s_mean_below) .none kV13 dc13 pm13 an13 cd13 ct13), sl13⟩)
    (c13 : PySem.W.codeIn K cd13 "mean_below" = true)
    (k13 : PySem.W.keepIn K (.ref f13) = true)
    (a14 : PySem.W.nsIn K mainGlobals "ceilings" = some (some (.ref f14)))
    (l14 : K.lookup f14 = some ⟨oc14, od14, .func (PySem.W.fnOf "ceilings" "ceilings" (defArgs s_ceilings) (defBody s_ceilings) (defScope s_ceilings) .none kV14 dc14 pm14 an14 cd14 ct14), sl14⟩)
    (c14 : PySem.W.codeIn K cd14 "ceilings" = true)
    (k14 : PySem.W.keepIn K (.ref f14) = true)
    (a15 : PySem.W.nsIn K mainGlobals "floors" = some (some (.ref f15)))
    (l15 : K.lookup f15 = some ⟨oc15, od15, .func (PySem.W.fnOf "floors" "floors" (defArgs s_floors) (defBody s_floors) (defScope s_floors) .none kV15 dc15 pm15 an15 cd15 ct15), sl15⟩)
    (c15 : PySem.W.codeIn K cd15 "floors" = true)
    (k15 : PySem.W.keepIn K (.ref f15) = true)
    (a16 : PySem.W.nsIn K mainGlobals "greatest" = some (some (.ref f16)))
    (l16 : K.lookup f16 = some ⟨oc16, od16, .func (PySem.W.fnOf "greatest" "greatest" (defArgs s_greatest) (defBody s_greatest) (defScope s_greatest) .none kV16 dc16 pm16 an16 cd16 ct16), sl16⟩)
    (c16 : PySem.W.codeIn K cd16 "greatest" = true)
    (k16 : PySem.W.keepIn K (.ref f16) = true)
    (a17 : PySem.W.nsIn K mainGlobals "least" = some (some (.ref f17)))
    (l17 : K.lookup f17 = some ⟨oc17, od17, .func (PySem.W.fnOf "least" "least" (defArgs s_least) (defBody s_least) (defScope s_least) .none kV17 dc17 pm17 an17 cd17 ct17), sl17⟩)
    (c17 : PySem.W.codeIn K cd17 "least" = true)
    (k17 : PySem.W.keepIn K (.ref f17) = true)
    (a18 : PySem.W.nsIn K mainGlobals "accepts_ceilings" = some (some (.ref f18)))
    (l18 : K.lookup f18 = some ⟨oc18, od18, .func (PySem.W.fnOf "accepts_ceilings" "accepts_ceilings" (defArgs s_accepts_ceilings) (defBody s_accepts_ceilings) (defScope s_accepts_ceilings) .none kV18 dc18 pm18 an18 cd18 ct18), sl18⟩)
    (c18 : PySem.W.codeIn K cd18 "accepts_ceilings" = true)
    (k18 : PySem.W.keepIn K (.ref f18) = true)
    (a19 : PySem.W.nsIn K mainGlobals "accepts_floors" = some (some (.ref f19)))
    (l19 : K.lookup f19 = some ⟨oc19, od19, .func (PySem.W.fnOf "accepts_floors" "accepts_floors" (defArgs s_accepts_floors) (defBody s_accepts_floors) (defScope s_accepts_floors) .none kV19 dc19 pm19 an19 cd19 ct19), sl19⟩)
    (c19 : PySem.W.codeIn K cd19 "accepts_floors" = true)
    (k19 : PySem.W.keepIn K (.ref f19) = true)
    (a20 : PySem.W.nsIn K mainGlobals "_law_deck" = some (some (.ref f20)))
    (l20 : K.lookup f20 = some ⟨oc20, od20, .func (PySem.W.fnOf "_law_deck" "_law_deck" (defArgs s__law_deck) (defBody s__law_deck) (defScope s__law_deck) .none kV20 dc20 pm20 an20 cd20 ct20), sl20⟩)
    (c20 : PySem.W.codeIn K cd20 "_law_deck" = true)
    (k20 : PySem.W.keepIn K (.ref f20) = true)
    (a21 : PySem.W.nsIn K mainGlobals "_law_draw" = some (some (.ref f21)))
    (l21 : K.lookup f21 = some ⟨oc21, od21, .func (PySem.W.fnOf "_law_draw" "_law_draw" (defArgs s__law_draw) (defBody s__law_draw) (defScope s__law_draw) .none kV21 dc21 pm21 an21 cd21 ct21), sl21⟩)
    (c21 : PySem.W.codeIn K cd21 "_law_draw" = true)
    (k21 : PySem.W.keepIn K (.ref f21) = true)
    (a22 : PySem.W.nsIn K mainGlobals "_law_low" = some (some (.ref f22)))
    (l22 : K.lookup f22 = some ⟨oc22, od22, .func (PySem.W.fnOf "_law_low" "_law_low" (defArgs s__law_low) (defBody s__law_low) (defScope s__law_low) .none kV22 dc22 pm22 an22 cd22 ct22), sl22⟩)
    (c22 : PySem.W.codeIn K cd22 "_law_low" = true)
    (k22 : PySem.W.keepIn K (.ref f22) = true)
    (a23 : PySem.W.nsIn K mainGlobals "_law_plus" = some (some (.ref f23)))
    (l23 : K.lookup f23 = some ⟨oc23, od23, .func (PySem.W.fnOf "_law_plus" "_law_plus" (defArgs s__law_plus) (defBody s__law_plus) (defScope s__law_plus) .none kV23 dc23 pm23 an23 cd23 ct23), sl23⟩)
    (c23 : PySem.W.codeIn K cd23 "_law_plus" = true)
    (k23 : PySem.W.keepIn K (.ref f23) = true)
    (a24 : PySem.W.nsIn K mainGlobals "_law_times" = some (some (.ref f24)))
    (l24 : K.lookup f24 = some ⟨oc24, od24, .func (PySem.W.fnOf "_law_times" "_law_times" (defArgs s__law_times) (defBody s__law_times) (defScope s__law_times) .none kV24 dc24 pm24 an24 cd24 ct24), sl24⟩)
    (c24 : PySem.W.codeIn K cd24 "_law_times" = true)
    (k24 : PySem.W.keepIn K (.ref f24) = true)
    (a25 : PySem.W.nsIn K mainGlobals "_law_less" = some (some (.ref f25)))
    (l25 : K.lookup f25 = some ⟨oc25, od25, .func (PySem.W.fnOf "_law_less" "_law_less" (defArgs s__law_less) (defBody s__law_less) (defScope s__law_less) .none kV25 dc25 pm25 an25 cd25 ct25), sl25⟩)
    (c25 : PySem.W.codeIn K cd25 "_law_less" = true)
    (k25 : PySem.W.keepIn K (.ref f25) = true)
    (a26 : PySem.W.nsIn K mainGlobals "_law_rows" = some (some (.ref f26)))
    (l26 : K.lookup f26 = some ⟨oc26, od26, .func (PySem.W.fnOf "_law_rows" "_law_rows" (defArgs s__law_rows) (defBody s__law_rows) (defScope s__law_rows) .none kV26 dc26 pm26 an26 cd26 ct26), sl26⟩)
    (c26 : PySem.W.codeIn K cd26 "_law_rows" = true)
    (k26 : PySem.W.keepIn K (.ref f26) = true)
    (a27 : PySem.W.nsIn K mainGlobals "_law_gathered" = some (some (.ref f27)))
    (l27 : K.lookup f27 = some ⟨oc27, od27, .func (PySem.W.fnOf "_law_gathered" "_law_gathered" (defArgs s__law_gathered) (defBody s__law_gathered) (defScope s__law_gathered) .none kV27 dc27 pm27 an27 cd27 ct27), sl27⟩)
    (c27 : PySem.W.codeIn K cd27 "_law_gathered" = true)
    (k27 : PySem.W.keepIn K (.ref f27) = true)
    (a28 : PySem.W.nsIn K mainGlobals "_law_arrived" = some (some (.ref f28)))
    (l28 : K.lookup f28 = some ⟨oc28, od28, .func (PySem.W.fnOf "_law_arrived" "_law_arrived" (defArgs s__law_arrived) (defBody s__law_arrived) (defScope s__law_arrived) .none kV28 dc28 pm28 an28 cd28 ct28), sl28⟩)
    (c28 : PySem.W.codeIn K cd28 "_law_arrived" = true)
    (k28 : PySem.W.keepIn K (.ref f28) = true)
    (a29 : PySem.W.nsIn K mainGlobals "_law_mean" = some (some (.ref f29)))
    (l29 : K.lookup f29 = some ⟨oc29, od29, .func (PySem.W.fnOf "_law_mean" "_law_mean" (defArgs s__law_mean) (defBody s__law_mean) (defScope s__law_mean) .none kV29 dc29 pm29 an29 cd29 ct29), sl29⟩)
    (c29 : PySem.W.codeIn K cd29 "_law_mean" = true)
    (k29 : PySem.W.keepIn K (.ref f29) = true)
    (a30 : PySem.W.nsIn K mainGlobals "_law_kept" = some (some (.ref f30)))
    (l30 : K.lookup f30 = some ⟨oc30, od30, .func (PySem.W.fnOf "_law_kept" "_law_kept" (defArgs s__law_kept) (defBody s__law_kept) (defScope s__law_kept) .none kV30 dc30 pm30 an30 cd30 ct30), sl30⟩)
    (c30 : PySem.W.codeIn K cd30 "_law_kept" = true)
    (k30 : PySem.W.keepIn K (.ref f30) = true)
    (a31 : PySem.W.nsIn K mainGlobals "_law_bounds" = some (some (.ref f31)))
    (l31 : K.lookup f31 = some ⟨oc31, od31, .func (PySem.W.fnOf "_law_bounds" "_law_bounds" (defArgs s__law_bounds) (defBody s__law_bounds) (defScope s__law_bounds) .none kV31 dc31 pm31 an31 cd31 ct31), sl31⟩)
    (c31 : PySem.W.codeIn K cd31 "_law_bounds" = true)
    (k31 : PySem.W.keepIn K (.ref f31) = true)
    (a32 : PySem.W.nsIn K mainGlobals "_law_tables" = some (some (.ref f32)))
    (l32 : K.lookup f32 = some ⟨oc32, od32, .func (PySem.W.fnOf "_law_tables" "_law_tables" (defArgs s__law_tables) (defBody s__law_tables) (defScope s__law_tables) .none kV32 dc32 pm32 an32 cd32 ct32), sl32⟩)
    (c32 : PySem.W.codeIn K cd32 "_law_tables" = true)
    (k32 : PySem.W.keepIn K (.ref f32) = true)
    (a33 : PySem.W.nsIn K mainGlobals "_law_accepts" = some (some (.ref f33)))
    (l33 : K.lookup f33 = some ⟨oc33, od33, .func (PySem.W.fnOf "_law_accepts" "_law_accepts" (defArgs s__law_accepts) (defBody s__law_accepts) (defScope s__law_accepts) .none kV33 dc33 pm33 an33 cd33 ct33), sl33⟩)
    (c33 : PySem.W.codeIn K cd33 "_law_accepts" = true)
    (k33 : PySem.W.keepIn K (.ref f33) = true)
    (a34 : PySem.W.nsIn K mainGlobals "_law_bent" = some (some (.ref f34)))
    (l34 : K.lookup f34 = some ⟨oc34, od34, .func (PySem.W.fnOf "_law_bent" "_law_bent" (defArgs s__law_bent) (defBody s__law_bent) (defScope s__law_bent) .none kV34 dc34 pm34 an34 cd34 ct34), sl34⟩)
    (c34 : PySem.W.codeIn K cd34 "_law_bent" = true)
    (k34 : PySem.W.keepIn K (.ref f34) = true)
    (a35 : PySem.W.nsIn K mainGlobals "_law_judged" = some (some (.ref f35)))
    (l35 : K.lookup f35 = some ⟨oc35, od35, .func (PySem.W.fnOf "_law_judged" "_law_judged" (defArgs s__law_judged) (defBody s__law_judged) (defScope s__law_judged) .none kV35 dc35 pm35 an35 cd35 ct35), sl35⟩)
    (c35 : PySem.W.codeIn K cd35 "_law_judged" = true)
    (k35 : PySem.W.keepIn K (.ref f35) = true)
    (a36 : PySem.W.nsIn K mainGlobals "law" = some (some (.ref f36)))
    (l36 : K.lookup f36 = some ⟨oc36, od36, .func (PySem.W.fnOf "law" "law" (defArgs s_law) (defBody s_law) (defScope s_law) .none kV36 dc36 pm36 an36 cd36 ct36), sl36⟩)
    (c36 : PySem.W.codeIn K cd36 "law" = true)
    (k36 : PySem.W.keepIn K (.ref f36) = true)
    (aCSamphireError : PySem.W.nsIn K mainGlobals "SamphireError" = some (some (.ref CSamphireError)))
    (aCZeroDenominator : PySem.W.nsIn K mainGlobals "ZeroDenominator" = some (some (.ref CZeroDenominator)))
    (iCZeroDenominator : PySem.W.findIn K (.ref CZeroDenominator) "__init__" = some (some (.ref fZeroDenominator)))
    (tIZeroDenominator : PySem.W.typeIn K (.ref fZeroDenominator) = some (.type "function"))
    (lkZeroDenominator : K.lookup fZeroDenominator = some ⟨ocZeroDenominator, odZeroDenominator, .func ((NF_ZeroDenominator ccZeroDenominator cZeroDenominator).fd docZeroDenominator pmZeroDenominator ctvZeroDenominator), oslZeroDenominator⟩)
    (hcZeroDenominator : PySem.W.codeIn K (.ref cZeroDenominator) "ZeroDenominator.__init__" = true)
    (xLZeroDenominator : K.lookup CZeroDenominator = some (excClassObj nmZeroDenominator qZeroDenominator CZeroDenominator NZeroDenominator bsZeroDenominator [.ref CSamphireError, .type "ValueError", .type "Exception", .type "BaseException", .type "object"] true snZeroDenominator subZeroDenominator abZeroDenominator colZeroDenominator ddZeroDenominator m0ZeroDenominator m1ZeroDenominator m2ZeroDenominator m3ZeroDenominator m5ZeroDenominator "ValueError.__new__"))
    (saZeroDenominator : PySem.W.findIn K (.ref CZeroDenominator) "__setattr__" = some (some (.builtin "object.__setattr__")))
    (sBZeroDenominator : PySem.W.subIn K (.ref CZeroDenominator) (.type "BaseException") = some true)
    (tCZeroDenominator : PySem.W.typeIn K (.ref CZeroDenominator) = some (.type "type"))
    (kCZeroDenominator : PySem.W.keepIn K (.ref CZeroDenominator) = true)
    (coZeroDenominator : K.lookup cZeroDenominator = some ⟨occZeroDenominator, cddZeroDenominator, .fields cvsZeroDenominator.toArray, cslZeroDenominator⟩)
    (flZeroDenominator : Sup.flIs cvsZeroDenominator l.prog.main.file = true)
    (ceZeroDenominator : K.lookup ccZeroDenominator = some ⟨cclZeroDenominator, ccdZeroDenominator, .cell (some (.ref CZeroDenominator)), ccsZeroDenominator⟩)
    (mrZeroDenominator : PySem.W.mroIn K CZeroDenominator (.ref CZeroDenominator) = some true)
    (sVZeroDenominator : PySem.W.subIn K (.ref CZeroDenominator) (.type "ValueError") = some true)
    (anZeroDenominator : PySem.W.nsIn K PySem.cStatics "thirdparty.any" = some none)
    (suZeroDenominator : PySem.W.ks_superIn K CZeroDenominator CZeroDenominator "__init__" = some (some (.builtin "ValueError.__init__")))
    (tpZeroDenominator : (l.prog.main.scope.names.lookup ("super" : Str)).isSome = false)
    (hgZeroDenominator : PySem.W.findIn K (.ref CZeroDenominator) "__getattribute__" = some (some (.builtin "BaseException.__getattribute__")))
    (hkZeroDenominator : PySem.W.findIn K (.ref CZeroDenominator) "__getattr__" = some none)
    (hdZeroDenominator : PySem.W.hasDictIn K CZeroDenominator = true)
    (haZeroDenominator : PySem.W.findIn K (.ref CZeroDenominator) "__class__" = some (some (.builtin "object.__class__")))
    (hnZeroDenominator : PySem.W.specialIn K (.builtin "object.__class__") "__get__" = some (some (.builtin "getset_descriptor.__get__")))
    (htZeroDenominator : PySem.W.takesIn K (.builtin "object.__class__") = some true)
    (hmZeroDenominator : PySem.W.mroIn K CZeroDenominator (.type "object") = some true)
    (icZeroDenominator : PySem.W.isClsIn K CZeroDenominator = true)
    (sCZeroDenominator : PySem.W.subIn K (.ref CZeroDenominator) (.ref CZeroDenominator) = some true)
    (aCInvalidLaw : PySem.W.nsIn K mainGlobals "InvalidLaw" = some (some (.ref CInvalidLaw)))
    (iCInvalidLaw : PySem.W.findIn K (.ref CInvalidLaw) "__init__" = some (some (.ref fInvalidLaw)))
    (tIInvalidLaw : PySem.W.typeIn K (.ref fInvalidLaw) = some (.type "function"))
    (lkInvalidLaw : K.lookup fInvalidLaw = some ⟨ocInvalidLaw, odInvalidLaw, .func ((NF_InvalidLaw ccInvalidLaw cInvalidLaw).fd docInvalidLaw pmInvalidLaw ctvInvalidLaw), oslInvalidLaw⟩)
    (hcInvalidLaw : PySem.W.codeIn K (.ref cInvalidLaw) "InvalidLaw.__init__" = true)
    (xLInvalidLaw : K.lookup CInvalidLaw = some (excClassObj nmInvalidLaw qInvalidLaw CInvalidLaw NInvalidLaw bsInvalidLaw [.ref CSamphireError, .type "ValueError", .type "Exception", .type "BaseException", .type "object"] true snInvalidLaw subInvalidLaw abInvalidLaw colInvalidLaw ddInvalidLaw m0InvalidLaw m1InvalidLaw m2InvalidLaw m3InvalidLaw m5InvalidLaw "ValueError.__new__"))
    (saInvalidLaw : PySem.W.findIn K (.ref CInvalidLaw) "__setattr__" = some (some (.builtin "object.__setattr__")))
    (sBInvalidLaw : PySem.W.subIn K (.ref CInvalidLaw) (.type "BaseException") = some true)
    (tCInvalidLaw : PySem.W.typeIn K (.ref CInvalidLaw) = some (.type "type"))
    (kCInvalidLaw : PySem.W.keepIn K (.ref CInvalidLaw) = true)
    (coInvalidLaw : K.lookup cInvalidLaw = some ⟨occInvalidLaw, cddInvalidLaw, .fields cvsInvalidLaw.toArray, cslInvalidLaw⟩)
    (flInvalidLaw : Sup.flIs cvsInvalidLaw l.prog.main.file = true)
    (ceInvalidLaw : K.lookup ccInvalidLaw = some ⟨cclInvalidLaw, ccdInvalidLaw, .cell (some (.ref CInvalidLaw)), ccsInvalidLaw⟩)
    (mrInvalidLaw : PySem.W.mroIn K CInvalidLaw (.ref CInvalidLaw) = some true)
    (sVInvalidLaw : PySem.W.subIn K (.ref CInvalidLaw) (.type "ValueError") = some true)
    (anInvalidLaw : PySem.W.nsIn K PySem.cStatics "thirdparty.any" = some none)
    (suInvalidLaw : PySem.W.ks_superIn K CInvalidLaw CInvalidLaw "__init__" = some (some (.builtin "ValueError.__init__")))
    (tpInvalidLaw : (l.prog.main.scope.names.lookup ("super" : Str)).isSome = false)
    (hgInvalidLaw : PySem.W.findIn K (.ref CInvalidLaw) "__getattribute__" = some (some (.builtin "BaseException.__getattribute__")))
    (hkInvalidLaw : PySem.W.findIn K (.ref CInvalidLaw) "__getattr__" = some none)
    (hdInvalidLaw : PySem.W.hasDictIn K CInvalidLaw = true)
    (haInvalidLaw : PySem.W.findIn K (.ref CInvalidLaw) "__class__" = some (some (.builtin "object.__class__")))
    (hnInvalidLaw : PySem.W.specialIn K (.builtin "object.__class__") "__get__" = some (some (.builtin "getset_descriptor.__get__")))
    (htInvalidLaw : PySem.W.takesIn K (.builtin "object.__class__") = some true)
    (hmInvalidLaw : PySem.W.mroIn K CInvalidLaw (.type "object") = some true)
    (icInvalidLaw : PySem.W.isClsIn K CInvalidLaw = true)
    (sCInvalidLaw : PySem.W.subIn K (.ref CInvalidLaw) (.ref CInvalidLaw) = some true)
    (kitInvalidLawSamphireError : PySem.W.kitOne K (.ref CInvalidLaw) (.ref CSamphireError) = some true)
    (z_abs : PySem.W.nsIn K mainGlobals "abs" = some none)
    (z_int : PySem.W.nsIn K mainGlobals "int" = some none)
    (z_len : PySem.W.nsIn K mainGlobals "len" = some none)
    (z_list : PySem.W.nsIn K mainGlobals "list" = some none)
    (z_range : PySem.W.nsIn K mainGlobals "range" = some none)
    (z_sorted : PySem.W.nsIn K mainGlobals "sorted" = some none)
    (z_sum : PySem.W.nsIn K mainGlobals "sum" = some none)
    (z_super : PySem.W.nsIn K mainGlobals "super" = some none)
    (z_zip : PySem.W.nsIn K mainGlobals "zip" = some none)
    (v_ZERO : PySem.W.nsIn K mainGlobals "ZERO" = some (some (.ref k_ZERO)))
    (l_ZERO : K.lookup k_ZERO = some ⟨.type "tuple", od_ZERO, .seq #[.int (0) t0_ZERO, .int (1) t1_ZERO] nn_ZERO, sl_ZERO⟩)
    (v_ONE : PySem.W.nsIn K mainGlobals "ONE" = some (some (.ref k_ONE)))
    (l_ONE : K.lookup k_ONE = some ⟨.type "tuple", od_ONE, .seq #[.int (1) t0_ONE, .int (1) t1_ONE] nn_ONE, sl_ONE⟩)
    (g_gcd : PySem.W.nsIn K mainGlobals "gcd" = some (some (.builtin "math.gcd"))) :
    LamX.LawAtS l w K (CX0) 12 63 "script" mg fa h := by
  have e : f36 = fa := by
    have e := hfa.symm.trans (PySem.W.mg_of X G a36)
    cases e
    rfl
  subst e
  have mk : ∀ base : Heap, (∀ p ∈ [(tc8, tP8)], LamX.TabB base mg p.1 p.2) → ∃ t : T l.prog K mg base, t.a_law = f36 ∧ t.fd_law = PySem.W.fnOf "law" "law" (defArgs s_law) (defBody s_law) (defScope s_law) .none kV36 dc36 pm36 an36 cd36 ct36 ∧ t.P_law_from = tP8 := fun base hTB => ⟨{
    a_lowest := f1, fd_lowest := _, F_lowest := fun_mk (st := s_lowest) l1 c1 k1, b_lowest := (fun_mk (st := s_lowest) l1 c1 k1).binds (ps := ["p", "q"]) (fun _ _ _ _ _ _ us hl => match us, hl with | [_, _], _ => rfl),
    g_lowest := PySem.W.mg_of X G a1,
    a_plus := f2, fd_plus := _, F_plus := fun_mk (st := s_plus) l2 c2 k2, b_plus := (fun_mk (st := s_plus) l2 c2 k2).binds (ps := ["a", "b"]) (fun _ _ _ _ _ _ us hl => match us, hl with | [_, _], _ => rfl),
    g_plus := PySem.W.mg_of X G a2,
    a_minus := f3, fd_minus := _, F_minus := fun_mk (st := s_minus) l3 c3 k3, b_minus := (fun_mk (st := s_minus) l3 c3 k3).binds (ps := ["a", "b"]) (fun _ _ _ _ _ _ us hl => match us, hl with | [_, _], _ => rfl),
    g_minus := PySem.W.mg_of X G a3,
    a_times := f4, fd_times := _, F_times := fun_mk (st := s_times) l4 c4 k4, b_times := (fun_mk (st := s_times) l4 c4 k4).binds (ps := ["a", "b"]) (fun _ _ _ _ _ _ us hl => match us, hl with | [_, _], _ => rfl),
    g_times := PySem.W.mg_of X G a4,
    a_less := f5, fd_less := _, F_less := fun_mk (st := s_less) l5 c5 k5, b_less := (fun_mk (st := s_less) l5 c5 k5).binds (ps := ["a", "b"]) (fun _ _ _ _ _ _ us hl => match us, hl with | [_, _], _ => rfl),
    g_less := PySem.W.mg_of X G a5,
    a_sum_of := f6, fd_sum_of := _, F_sum_of := fun_mk (st := s_sum_of) l6 c6 k6, b_sum_of := (fun_mk (st := s_sum_of) l6 c6 k6).binds (ps := ["fractions"]) (fun _ _ _ _ _ _ us hl => match us, hl with | [_], _ => rfl),
    g_sum_of := PySem.W.mg_of X G a6,
    a_check_chances := f7, fd_check_chances := _, F_check_chances := fun_mk (st := s_check_chances) l7 c7 k7, b_check_chances := (fun_mk (st := s_check_chances) l7 c7 k7).binds (ps := ["chances"]) (fun _ _ _ _ _ _ us hl => match us, hl with | [_], _ => rfl),
    g_check_chances := PySem.W.mg_of X G a7,
    c_law_from := tc8, P_law_from := tP8, TB_law_from := hTB (tc8, tP8) (by simp), L_law_from := ⟨_, _, _, _, _, _, _, _, rfl, l8, c8⟩,
    a_law_from := f8, fd_law_from := _, F_law_from := fun_mk (st := s_law_from) l8 c8 k8, b_law_from := (fun_mk (st := s_law_from) l8 c8 k8).binds (ps := ["rows"]) (fun _ _ _ _ _ _ us hl => match us, hl with | [_], _ => rfl),
    g_law_from := PySem.W.mg_of X G a8,
    a_mean := f9, fd_mean := _, F_mean := fun_mk (st := s_mean) l9 c9 k9, b_mean := (fun_mk (st := s_mean) l9 c9 k9).binds (ps := ["rows"]) (fun _ _ _ _ _ _ us hl => match us, hl with | [_], _ => rfl),
    g_mean := PySem.W.mg_of X G a9,
    a_arrived := f10, fd_arrived := _, F_arrived := fun_mk (st := s_arrived) l10 c10 k10, b_arrived := (fun_mk (st := s_arrived) l10 c10 k10).binds (ps := ["rows", "retries", "lost"]) (fun _ _ _ _ _ _ us hl => match us, hl with | [_, _, _], _ => rfl),
    g_arrived := PySem.W.mg_of X G a10,
    a_mean_by := f11, fd_mean_by := _, F_mean_by := fun_mk (st := s_mean_by) l11 c11 k11, b_mean_by := (fun_mk (st := s_mean_by) l11 c11 k11).binds (ps := ["rows", "retries", "lost"]) (fun _ _ _ _ _ _ us hl => match us, hl with | [_, _, _], _ => rfl),
    g_mean_by := PySem.W.mg_of X G a11,
    a_mean_above := f12, fd_mean_above := _, F_mean_above := fun_mk (st := s_mean_above) l12 c12 k12, b_mean_above := (fun_mk (st := s_mean_above) l12 c12 k12).binds (ps := ["rows", "bound"]) (fun _ _ _ _ _ _ us hl => match us, hl with | [_, _], _ => rfl),
    g_mean_above := PySem.W.mg_of X G a12,
    a_mean_below := f13, fd_mean_below := _, F_mean_below := fun_mk (st := s_mean_below) l13 c13 k13, b_mean_below := (fun_mk (st := s_mean_below) l13 c13 k13).binds (ps := ["rows", "bound"]) (fun _ _ _ _ _ _ us hl => match us, hl with | [_, _], _ => rfl),
    g_mean_below := PySem.W.mg_of X G a13,
    a_ceilings := f14, fd_ceilings := _, F_ceilings := fun_mk (st := s_ceilings) l14 c14 k14, b_ceilings := (fun_mk (st := s_ceilings) l14 c14 k14).binds (ps := ["rows", "retries"]) (fun _ _ _ _ _ _ us hl => match us, hl with | [_, _], _ => rfl),
    g_ceilings := PySem.W.mg_of X G a14,
    a_floors := f15, fd_floors := _, F_floors := fun_mk (st := s_floors) l15 c15 k15, b_floors := (fun_mk (st := s_floors) l15 c15 k15).binds (ps := ["rows", "retries"]) (fun _ _ _ _ _ _ us hl => match us, hl with | [_, _], _ => rfl),
    g_floors := PySem.W.mg_of X G a15,
    a_greatest := f16, fd_greatest := _, F_greatest := fun_mk (st := s_greatest) l16 c16 k16, b_greatest := (fun_mk (st := s_greatest) l16 c16 k16).binds (ps := ["rows", "retries"]) (fun _ _ _ _ _ _ us hl => match us, hl with | [_, _], _ => rfl),
    g_greatest := PySem.W.mg_of X G a16,
    a_least := f17, fd_least := _, F_least := fun_mk (st := s_least) l17 c17 k17, b_least := (fun_mk (st := s_least) l17 c17 k17).binds (ps := ["rows", "retries"]) (fun _ _ _ _ _ _ us hl => match us, hl with | [_, _], _ => rfl),
    g_least := PySem.W.mg_of X G a17,
    a_accepts_ceilings := f18, fd_accepts_ceilings := _, F_accepts_ceilings := fun_mk (st := s_accepts_ceilings) l18 c18 k18, b_accepts_ceilings := (fun_mk (st := s_accepts_ceilings) l18 c18 k18).binds (ps := ["rows", "bounds"]) (fun _ _ _ _ _ _ us hl => match us, hl with | [_, _], _ => rfl),
    g_accepts_ceilings := PySem.W.mg_of X G a18,
    a_accepts_floors := f19, fd_accepts_floors := _, F_accepts_floors := fun_mk (st := s_accepts_floors) l19 c19 k19, b_accepts_floors := (fun_mk (st := s_accepts_floors) l19 c19 k19).binds (ps := ["rows", "bounds"]) (fun _ _ _ _ _ _ us hl => match us, hl with | [_, _], _ => rfl),
    g_accepts_floors := PySem.W.mg_of X G a19,
    a__law_deck := f20, fd__law_deck := _, F__law_deck := fun_mk (st := s__law_deck) l20 c20 k20, b__law_deck := (fun_mk (st := s__law_deck) l20 c20 k20).binds (ps := ["script"]) (fun _ _ _ _ _ _ us hl => match us, hl with | [_], _ => rfl),
    g__law_deck := PySem.W.mg_of X G a20,
    a__law_draw := f21, fd__law_draw := _, F__law_draw := fun_mk (st := s__law_draw) l21 c21 k21, b__law_draw := (fun_mk (st := s__law_draw) l21 c21 k21).binds (ps := ["deck", "most"]) (fun _ _ _ _ _ _ us hl => match us, hl with | [_, _], _ => rfl),
    g__law_draw := PySem.W.mg_of X G a21,
    a__law_low := f22, fd__law_low := _, F__law_low := fun_mk (st := s__law_low) l22 c22 k22, b__law_low := (fun_mk (st := s__law_low) l22 c22 k22).binds (ps := ["p", "q"]) (fun _ _ _ _ _ _ us hl => match us, hl with | [_, _], _ => rfl),
    g__law_low := PySem.W.mg_of X G a22,
    a__law_plus := f23, fd__law_plus := _, F__law_plus := fun_mk (st := s__law_plus) l23 c23 k23, b__law_plus := (fun_mk (st := s__law_plus) l23 c23 k23).binds (ps := ["one", "other"]) (fun _ _ _ _ _ _ us hl => match us, hl with | [_, _], _ => rfl),
    g__law_plus := PySem.W.mg_of X G a23,
    a__law_times := f24, fd__law_times := _, F__law_times := fun_mk (st := s__law_times) l24 c24 k24, b__law_times := (fun_mk (st := s__law_times) l24 c24 k24).binds (ps := ["one", "other"]) (fun _ _ _ _ _ _ us hl => match us, hl with | [_, _], _ => rfl),
    g__law_times := PySem.W.mg_of X G a24,
    a__law_less := f25, fd__law_less := _, F__law_less := fun_mk (st := s__law_less) l25 c25 k25, b__law_less := (fun_mk (st := s__law_less) l25 c25 k25).binds (ps := ["one", "other"]) (fun _ _ _ _ _ _ us hl => match us, hl with | [_, _], _ => rfl),
    g__law_less := PySem.W.mg_of X G a25,
    a__law_rows := f26, fd__law_rows := _, F__law_rows := fun_mk (st := s__law_rows) l26 c26 k26, b__law_rows := (fun_mk (st := s__law_rows) l26 c26 k26).binds (ps := ["deck"]) (fun _ _ _ _ _ _ us hl => match us, hl with | [_], _ => rfl),
    g__law_rows := PySem.W.mg_of X G a26,
    a__law_gathered := f27, fd__law_gathered := _, F__law_gathered := fun_mk (st := s__law_gathered) l27 c27 k27, b__law_gathered := (fun_mk (st := s__law_gathered) l27 c27 k27).binds (ps := ["rows"]) (fun _ _ _ _ _ _ us hl => match us, hl with | [_], _ => rfl),
    g__law_gathered := PySem.W.mg_of X G a27,
    a__law_arrived := f28, fd__law_arrived := _, F__law_arrived := fun_mk (st := s__law_arrived) l28 c28 k28, b__law_arrived := (fun_mk (st := s__law_arrived) l28 c28 k28).binds (ps := ["rows", "retries", "lost"]) (fun _ _ _ _ _ _ us hl => match us, hl with | [_, _, _], _ => rfl),
    g__law_arrived := PySem.W.mg_of X G a28,
    a__law_mean := f29, fd__law_mean := _, F__law_mean := fun_mk (st := s__law_mean) l29 c29 k29, b__law_mean := (fun_mk (st := s__law_mean) l29 c29 k29).binds (ps := ["rows"]) (fun _ _ _ _ _ _ us hl => match us, hl with | [_], _ => rfl),
    g__law_mean := PySem.W.mg_of X G a29,
    a__law_kept := f30, fd__law_kept := _, F__law_kept := fun_mk (st := s__law_kept) l30 c30 k30, b__law_kept := (fun_mk (st := s__law_kept) l30 c30 k30).binds (ps := ["one", "other", "sign"]) (fun _ _ _ _ _ _ us hl => match us, hl with | [_, _, _], _ => rfl),
    g__law_kept := PySem.W.mg_of X G a30,
    a__law_bounds := f31, fd__law_bounds := _, F__law_bounds := fun_mk (st := s__law_bounds) l31 c31 k31, b__law_bounds := (fun_mk (st := s__law_bounds) l31 c31 k31).binds (ps := ["rows", "retries", "sign"]) (fun _ _ _ _ _ _ us hl => match us, hl with | [_, _, _], _ => rfl),
    g__law_bounds := PySem.W.mg_of X G a31,
    a__law_tables := f32, fd__law_tables := _, F__law_tables := fun_mk (st := s__law_tables) l32 c32 k32, b__law_tables := (fun_mk (st := s__law_tables) l32 c32 k32).binds (ps := ["deck", "rows", "retries"]) (fun _ _ _ _ _ _ us hl => match us, hl with | [_, _, _], _ => rfl),
    g__law_tables := PySem.W.mg_of X G a32,
    a__law_accepts := f33, fd__law_accepts := _, F__law_accepts := fun_mk (st := s__law_accepts) l33 c33 k33, b__law_accepts := (fun_mk (st := s__law_accepts) l33 c33 k33).binds (ps := ["rows", "bounds", "sign"]) (fun _ _ _ _ _ _ us hl => match us, hl with | [_, _, _], _ => rfl),
    g__law_accepts := PySem.W.mg_of X G a33,
    a__law_bent := f34, fd__law_bent := _, F__law_bent := fun_mk (st := s__law_bent) l34 c34 k34, b__law_bent := (fun_mk (st := s__law_bent) l34 c34 k34).binds (ps := ["deck", "bounds"]) (fun _ _ _ _ _ _ us hl => match us, hl with | [_, _], _ => rfl),
    g__law_bent := PySem.W.mg_of X G a34,
    a__law_judged := f35, fd__law_judged := _, F__law_judged := fun_mk (st := s__law_judged) l35 c35 k35, b__law_judged := (fun_mk (st := s__law_judged) l35 c35 k35).binds (ps := ["deck", "rows", "retries", "means", "sign"]) (fun _ _ _ _ _ _ us hl => match us, hl with | [_, _, _, _, _], _ => rfl),
    g__law_judged := PySem.W.mg_of X G a35,
    a_law := f36, fd_law := _, F_law := fun_mk (st := s_law) l36 c36 k36, b_law := (fun_mk (st := s_law) l36 c36 k36).binds (ps := ["script"]) (fun _ _ _ _ _ _ us hl => match us, hl with | [_], _ => rfl),
    g_law := PySem.W.mg_of X G a36,
    C_SamphireError := CSamphireError, mg_SamphireError := PySem.W.mg_of X G aCSamphireError,
    C_ZeroDenominator := CZeroDenominator, a_ZeroDenominator_init := fZeroDenominator, c_ZeroDenominator := cZeroDenominator, cc_ZeroDenominator := ccZeroDenominator, doc_ZeroDenominator := docZeroDenominator, pm_ZeroDenominator := pmZeroDenominator, ctv_ZeroDenominator := ctvZeroDenominator, oc_ZeroDenominator := ocZeroDenominator, od_ZeroDenominator := odZeroDenominator, osl_ZeroDenominator := oslZeroDenominator, lk_ZeroDenominator := lkZeroDenominator, hc_ZeroDenominator := hcZeroDenominator,
    x_ZeroDenominator := Sup.excT_mk xLZeroDenominator rfl saZeroDenominator sBZeroDenominator tCZeroDenominator kCZeroDenominator coZeroDenominator flZeroDenominator ceZeroDenominator mrZeroDenominator sVZeroDenominator (PySem.W.mg_none_of X G z_super) anZeroDenominator suZeroDenominator tpZeroDenominator (PySem.W.mg_of X G aCZeroDenominator) iCZeroDenominator tIZeroDenominator ⟨hgZeroDenominator, hkZeroDenominator, sBZeroDenominator, hdZeroDenominator, haZeroDenominator, hnZeroDenominator, htZeroDenominator, hmZeroDenominator⟩ icZeroDenominator sCZeroDenominator,
    bx_ZeroDenominator := .all (fun us hl => match us, hl with | [_], _ => rfl),
    C_InvalidLaw := CInvalidLaw, a_InvalidLaw_init := fInvalidLaw, c_InvalidLaw := cInvalidLaw, cc_InvalidLaw := ccInvalidLaw, doc_InvalidLaw := docInvalidLaw, pm_InvalidLaw := pmInvalidLaw, ctv_InvalidLaw := ctvInvalidLaw, oc_InvalidLaw := ocInvalidLaw, od_InvalidLaw := odInvalidLaw, osl_InvalidLaw := oslInvalidLaw, lk_InvalidLaw := lkInvalidLaw, hc_InvalidLaw := hcInvalidLaw,
    x_InvalidLaw := Sup.excT_mk xLInvalidLaw rfl saInvalidLaw sBInvalidLaw tCInvalidLaw kCInvalidLaw coInvalidLaw flInvalidLaw ceInvalidLaw mrInvalidLaw sVInvalidLaw (PySem.W.mg_none_of X G z_super) anInvalidLaw suInvalidLaw tpInvalidLaw (PySem.W.mg_of X G aCInvalidLaw) iCInvalidLaw tIInvalidLaw ⟨hgInvalidLaw, hkInvalidLaw, sBInvalidLaw, hdInvalidLaw, haInvalidLaw, hnInvalidLaw, htInvalidLaw, hmInvalidLaw⟩ icInvalidLaw sCInvalidLaw,
    bx_InvalidLaw := .all (fun us hl => match us, hl with | [_], _ => rfl),
    kit_InvalidLaw_SamphireError := kitInvalidLawSamphireError,
    z_abs := PySem.W.mg_none_of X G z_abs,
    z_int := PySem.W.mg_none_of X G z_int,
    z_len := PySem.W.mg_none_of X G z_len,
    z_list := PySem.W.mg_none_of X G z_list,
    z_range := PySem.W.mg_none_of X G z_range,
    z_sorted := PySem.W.mg_none_of X G z_sorted,
    z_sum := PySem.W.mg_none_of X G z_sum,
    z_super := PySem.W.mg_none_of X G z_super,
    z_zip := PySem.W.mg_none_of X G z_zip,
    k_ZERO := k_ZERO, g_ZERO := PySem.W.mg_of X G v_ZERO, q_ZERO := fun H => .inr ⟨_, _, _, l_ZERO, rfl, rfl, (show 2 ≤ sizeLine by decide), (.cons ⟨_, rfl⟩ (.cons ⟨_, rfl⟩ .nil))⟩,
    k_ONE := k_ONE, g_ONE := PySem.W.mg_of X G v_ONE, q_ONE := fun H => .inr ⟨_, _, _, l_ONE, rfl, rfl, (show 2 ≤ sizeLine by decide), (.cons ⟨_, rfl⟩ (.cons ⟨_, rfl⟩ .nil))⟩,
    g_gcd := PySem.W.mg_of X G g_gcd }, rfl, rfl, rfl⟩
  refine ⟨PySem.W.fnOf "law" "law" (defArgs s_law) (defBody s_law) (defScope s_law) .none kV36 dc36 pm36 an36 cd36 ct36, [(tc8, tP8)], spLaw K tP8, List.forall_mem_cons.mpr ⟨hts _ tm8, fun _ h => nomatch h⟩, List.forall_mem_cons.mpr ⟨tn8, fun _ h => nomatch h⟩, List.forall_mem_cons.mpr ⟨PySem.W.codeHd_of_K X th8, fun _ h => nomatch h⟩, fun s v => .of_eq rfl, fun H a ns h1 h2 hT hS => spLaw_in H a ns h1 h2 (hT (tc8, tP8) (by simp)) hS, fun base KX G' hTB => ?_⟩
  obtain ⟨t, e1, e2, e3⟩ := mk base hTB
  have z := ok_law (w := w) t
  rw [e1, e2, e3] at z
  exact z

end K46
def PySem.W.Fast.tw8358608198105674969 : Nat := 0
def PySem.W.Fast.tw12094192787273719429 : Nat := 0
def PySem.W.Fast.tw6831904643496889129 : Nat := 0
def PySem.W.Fast.tw18397102242120135524 : Nat := 0
def PySem.W.Fast.tw17349760471233189712 : Nat := 0
def PySem.W.Fast.tw5159811599031461581 : Nat := 0
def PySem.W.Fast.tw7842443460699347862 : Nat := 0
def PySem.W.Fast.tw1441256079517683481 : Nat := 0
def PySem.W.Fast.tw11759666102696806605 : Nat := 0
def PySem.W.Fast.tw3555703296352218525 : Nat := 0
def PySem.W.Fast.tw5054772819852399611 : Nat := 0
def PySem.W.Fast.tw2660636441892234117 : Nat := 0
def PySem.W.Fast.tw7610548640508806225 : Nat := 0
def PySem.W.Fast.tw14499336238280167784 : Nat := 0
def PySem.W.Fast.tw15006141865473885296 : Nat := 0
def PySem.W.Fast.tw7315197133358317712 : Nat := 0
def PySem.W.Fast.tw15561410127660788435 : Nat := 0
def PySem.W.Fast.tw2803474780571214860 : Nat := 0
def PySem.W.Fast.tw8457080160926098376 : Nat := 0
def PySem.W.Fast.tw18010480462823897894 : Nat := 0
def PySem.W.Fast.tw464130985182616170 : Nat := 0
def PySem.W.Fast.tw14018765565047430234 : Nat := 0
def PySem.W.Fast.tw4553107738267564956 : Nat := 0
def PySem.W.Fast.tw8407855084068215499 : Nat := 0
def PySem.W.Fast.tw16656714646852650664 : Nat := 0
def PySem.W.Fast.tw8798611987083108472 : Nat := 0
def PySem.W.Fast.tw11690109048240562519 : Nat := 0
def PySem.W.Fast.tw3694935296346942613 : Nat := 0
def PySem.W.Fast.tw6941744924111593521 : Nat := 0
def PySem.W.Fast.tw1726793634165641297 : Nat := 0
def PySem.W.Fast.tw7564237601757272932 : Nat := 0
def PySem.W.Fast.tw10504266632824577209 : Nat := 0
def PySem.W.Fast.tw2363396303591013309 : Nat := 0
def PySem.W.Fast.tw8135924545640083695 : Nat := 0
def PySem.W.Fast.tw16411917576487322188 : Nat := 0
def PySem.W.Fast.tw16625460283281807659 : Nat := 0
def PySem.W.Fast.tw14357873327142129559 : Nat := 0
def PySem.W.Fast.tw5850269346596488996 : Nat := 0
def PySem.W.Fast.tw4382935669664460192 : Nat := 0
def PySem.W.Fast.tw9580618939524880952 : Nat := 0
def PySem.W.Fast.tw13205736046832278524 : Nat := 0
def PySem.W.Fast.tw10117018389824521957 : Nat := 0
def PySem.W.Fast.tw12696423637173505826 : Nat := 0
def PySem.W.Fast.tw9053961272298764765 : Nat := 0
def PySem.W.Fast.tw3374720197877553398 : Nat := 0
def PySem.W.Fast.tw12667391367256336265 : Nat := 0
def PySem.W.Fast.tw7033763631332514336 : Nat := 0
def PySem.W.Fast.tw8024312762669330539 : Nat := 0
def PySem.W.Fast.tw9978798943531233797 : Nat := 0
def PySem.W.Fast.tw5448744226803387759 : Nat := 0
def PySem.W.Fast.tw9997093127864962449 : Nat := 0
def PySem.W.Fast.tw3485316195120891844 : Nat := 0
def PySem.W.Fast.tw5050875352211580597 : Nat := 0
def PySem.W.Fast.tw12928343437300704986 : Nat := 0
def PySem.W.Fast.tw16171087540974191217 : Nat := 0
def PySem.W.Fast.tw3207287495672943862 : Nat := 0
def PySem.W.Fast.tw14324097334569705900 : Nat := 0
def PySem.W.Fast.tw4875932083310714633 : Nat := 0
def PySem.W.Fast.tw10344451744874849628 : Nat := 0
def PySem.W.Fast.tw7817900777939682058 : Nat := 0
def PySem.W.Fast.tw1978239423535277129 : Nat := 0
def PySem.W.Fast.tw16868998088954527739 : Nat := 0
def PySem.W.Fast.tw6757035938629303235 : Nat := 0
def PySem.W.Fast.tw5108415585770368218 : Nat := 0
def PySem.W.Fast.tw12341691458210817880 : Nat := 0
def PySem.W.Fast.tw5259070938504105284 : Nat := 0
def PySem.W.Fast.tw17719876533772205909 : Nat := 0
def PySem.W.Fast.tw7503470975622718855 : Nat := 0
def PySem.W.Fast.tw6580968585149467799 : Nat := 0
def PySem.W.Fast.tw15884422027450041005 : Nat := 0
def PySem.W.Fast.tw7309739494242261748 : Nat := 0
def PySem.W.Fast.tw4833589488737153766 : Nat := 0
def PySem.W.Fast.tw17178977786806048155 : Nat := 0
def PySem.W.Fast.tw5035772884789231500 : Nat := 0
def PySem.W.Fast.tw7896178720586741338 : Nat := 0
def PySem.W.Fast.tw12673524038588216304 : Nat := 0
def PySem.W.Fast.tw15667150328297256655 : Nat := 0
def PySem.W.Fast.tw2347114396873162249 : Nat := 0
def PySem.W.Fast.tw8281762707472178522 : Nat := 0
def PySem.W.Fast.tw8663760460273779869 : Nat := 0
def PySem.W.Fast.tw13403793172307143128 : Nat := 0
def PySem.W.Fast.tw2994822605232088874 : Nat := 0
def PySem.W.Fast.tw10373079280737788367 : Nat := 0
def PySem.W.Fast.tw10187502782400040177 : Nat := 0
def PySem.W.Fast.tw14659295260180353264 : Nat := 0
def PySem.W.Fast.tw1088885725921136885 : Nat := 0
def PySem.W.Fast.tw16347128629307308748 : Nat := 0
def PySem.W.Fast.tw14655791545417488948 : Nat := 0
def PySem.W.Fast.tw10208899920785092762 : Nat := 0
def PySem.W.Fast.tw10120096799489228893 : Nat := 0
def PySem.W.Fast.tw18235027697944605085 : Nat := 0
def PySem.W.Fast.tw14366163863106992255 : Nat := 0
def PySem.W.Fast.tw7342001641374164949 : Nat := 0
def PySem.W.Fast.tw14283399977286617628 : Nat := 0
def PySem.W.Fast.tw13403546009678674458 : Nat := 0
def PySem.W.Fast.tw5699788518869424328 : Nat := 0
def PySem.W.Fast.tw5203355843953243436 : Nat := 0
def PySem.W.Fast.tw7697387422446032597 : Nat := 0
def PySem.W.Fast.tw1484391618174475385 : Nat := 0
def PySem.W.Fast.tw1302618960816830400 : Nat := 0
def PySem.W.Fast.tw9060791251064050247 : Nat := 0
def PySem.W.Fast.tw16988683632652135357 : Nat := 0
def PySem.W.Fast.tw12335819764579409090 : Nat := 0
def PySem.W.Fast.tw15019306719579037963 : Nat := 0
def PySem.W.Fast.tw1350073823141104026 : Nat := 0
def PySem.W.Fast.tw1271752101683890265 : Nat := 0
def PySem.W.Fast.tw11237086163839798029 : Nat := 0
def PySem.W.Fast.tw1207840912214610388 : Nat := 0
def PySem.W.Fast.tw17714720590037682710 : Nat := 0
def PySem.W.Fast.tw12827910784181243757 : Nat := 0
def PySem.W.Fast.tw1357923203136106559 : Nat := 0
def PySem.W.Fast.tw15534346115693372978 : Nat := 0
def PySem.W.Fast.tw14571610946653741365 : Nat := 0
def PySem.W.Fast.tw5465982648070060005 : Nat := 0
def PySem.W.Fast.tw376868216275905209 : Nat := 0
def PySem.W.Fast.tw5504047943833689910 : Nat := 0
def PySem.W.Fast.tw4090645454148609831 : Nat := 0
def PySem.W.Fast.tw5875837860487180401 : Nat := 0
def PySem.W.Fast.tw14332650472137436412 : Nat := 0
def PySem.W.Fast.tw12201680495492763549 : Nat := 0
def PySem.W.Fast.tw5400154485007066964 : Nat := 0
def PySem.W.Fast.tw8847468187879417356 : Nat := 0
def PySem.W.Fast.tw8451810843479283818 : Nat := 0
def PySem.W.Fast.tw10684830542352162540 : Nat := 0
def PySem.W.Fast.tw17280073906395715169 : Nat := 0
def PySem.W.Fast.tw16992746416156140378 : Nat := 0
def PySem.W.Fast.tw28319293139252444 : Nat := 0
def PySem.W.Fast.tw7395564113001002747 : Nat := 0
def PySem.W.Fast.tw6904517062744887839 : Nat := 0
def PySem.W.Fast.tw18347025614738285844 : Nat := 0
def PySem.W.Fast.tw14796689279587467110 : Nat := 0
def PySem.W.Fast.tw17256310167838658521 : Nat := 0
def PySem.W.Fast.tw8463678687500983303 : Nat := 0
def PySem.W.Fast.tw3442918183892661788 : Nat := 0
def PySem.W.Fast.tw6451389677845679929 : Nat := 0
def PySem.W.Fast.tw1642622912425082772 : Nat := 0
def PySem.W.Fast.tw15283245580870685599 : Nat := 0
def PySem.W.Fast.tw11422763338632636299 : Nat := 0
def PySem.W.Fast.tw1830722260171390971 : Nat := 0
def PySem.W.Fast.tw9701626906984233916 : Nat := 0
def PySem.W.Fast.tw7227655540092145006 : Nat := 0
def PySem.W.Fast.tw11563250085514885937 : Nat := 0
def PySem.W.Fast.tw9219294104144831886 : Nat := 0
def PySem.W.Fast.tw12358532550248697270 : Nat := 0
def PySem.W.Fast.tw3963624648609651385 : Nat := 0
def PySem.W.Fast.tw14875644214090705809 : Nat := 0
def PySem.W.Fast.tw16974505355523674465 : Nat := 0
def PySem.W.Fast.tw18380883609672082221 : Nat := 0
def PySem.W.Fast.tw4338557396889935425 : Nat := 0
def PySem.W.Fast.tw17642077548819908756 : Nat := 0
def PySem.W.Fast.tw6737509717295397796 : Nat := 0
def PySem.W.Fast.tw5313282582205362241 : Nat := 0
def PySem.W.Fast.tw7746701555931247964 : Nat := 0
def PySem.W.Fast.tw9903325584767250331 : Nat := 0
def PySem.W.Fast.tw16419366506802051039 : Nat := 0
def PySem.W.Fast.tw2573343206988279628 : Nat := 0
def PySem.W.Fast.tw422189545475120456 : Nat := 0
def PySem.W.Fast.tw4680127073720581935 : Nat := 0
def PySem.W.Fast.tw10417349371387569676 : Nat := 0
def PySem.W.Fast.tw11047373818320880657 : Nat := 0
def PySem.W.Fast.tw6253180627960402589 : Nat := 0
def PySem.W.Fast.tw4943954074340361002 : Nat := 0
def PySem.W.Fast.tw12524980002909011055 : Nat := 0
def PySem.W.Fast.tw17730729253652747272 : Nat := 0
def PySem.W.Fast.tw2578385625908490595 : Nat := 0
def PySem.W.Fast.tw10071230746842514020 : Nat := 0
def PySem.W.Fast.tw5521273950483686322 : Nat := 0
def PySem.W.Fast.tw14657806314613954456 : Nat := 0
def PySem.W.Fast.tw9285867608485915030 : Nat := 0
def PySem.W.Fast.tw16220758495129071115 : Nat := 0
def PySem.W.Fast.tw11758976282552106826 : Nat := 0
def PySem.W.Fast.tw17266036575618119175 : Nat := 0
def PySem.W.Fast.tw4452702737311619778 : Nat := 0
def PySem.W.Fast.tw583482758419566382 : Nat := 0
def PySem.W.Fast.tw2076860793789595706 : Nat := 0
def PySem.W.Fast.tw13460578397029782832 : Nat := 0
def PySem.W.Fast.tw4264748809797242041 : Nat := 0
def PySem.W.Fast.tw3155928488883808418 : Nat := 0
def PySem.W.Fast.tw3395729388351040000 : Nat := 0
def PySem.W.Fast.tw12091345054593723851 : Nat := 0
def PySem.W.Fast.tw7248816164670734151 : Nat := 0
def PySem.W.Fast.tw6363743999098621419 : Nat := 0
def PySem.W.Fast.tw9415276944746085968 : Nat := 0
def PySem.W.Fast.tw3597553227546265120 : Nat := 0
def PySem.W.Fast.tw11903438360753014925 : Nat := 0
def PySem.W.Fast.tw4024345427326598003 : Nat := 0
def PySem.W.Fast.tw17136619788232088544 : Nat := 0
def PySem.W.Fast.tw4323509518415698749 : Nat := 0
def PySem.W.Fast.tw8572640222904147114 : Nat := 0
def PySem.W.Fast.tw1171020617225862942 : Nat := 0
def PySem.W.Fast.tw146044104070364831 : Nat := 0
def PySem.W.Fast.tw14106132870905877535 : Nat := 0
def PySem.W.Fast.tw14385311725271024818 : Nat := 0
def PySem.W.Fast.tw2744531344602829801 : Nat := 0
def PySem.W.Fast.tw12507476950133248846 : Nat := 0
def PySem.W.Fast.tw3353798504521197610 : Nat := 0
def PySem.W.Fast.tw11321956907293563137 : Nat := 0
def PySem.W.Fast.tw5624278254125771458 : Nat := 0
def PySem.W.Fast.tw10268251950959464913 : Nat := 0
def PySem.W.Fast.tw16067476203763690944 : Nat := 0
def PySem.W.Fast.tw9879137203131735532 : Nat := 0
def PySem.W.Fast.tw8284823343691279552 : Nat := 0
def PySem.W.Fast.tw16131605697231366334 : Nat := 0
def PySem.W.Fast.tw3708237865583217606 : Nat := 0
def PySem.W.Fast.tw11129553341104458239 : Nat := 0
def PySem.W.Fast.tw9751440276004283335 : Nat := 0
def PySem.W.Fast.tw9885299493003173183 : Nat := 0
def PySem.W.Fast.tw17828110507340970898 : Nat := 0
def PySem.W.Fast.tw9084444576253767941 : Nat := 0
def PySem.W.Fast.tw11482182680360314684 : Nat := 0
def PySem.W.Fast.tw15429005566660646633 : Nat := 0
def PySem.W.Fast.tw13419195352752116248 : Nat := 0
def PySem.W.Fast.tw3599386673317815846 : Nat := 0
def PySem.W.Fast.tw10193039011118732650 : Nat := 0
def PySem.W.Fast.tw14357339270259968555 : Nat := 0
def PySem.W.Fast.tw11515591372834196083 : Nat := 0
def PySem.W.Fast.tw9728248689174281074 : Nat := 0
def PySem.W.Fast.tw6803566020541176164 : Nat := 0
def PySem.W.Fast.tw7404312591385293898 : Nat := 0
def PySem.W.Fast.tw16924228869639633238 : Nat := 0
def PySem.W.Fast.tw18443666961869512419 : Nat := 0
def PySem.W.Fast.tw8494748949167754940 : Nat := 0
def PySem.W.Fast.tw6422317705525029891 : Nat := 0
def PySem.W.Fast.tw16224177323981087317 : Nat := 0
def PySem.W.Fast.tw3084755776949623955 : Nat := 0
def PySem.W.Fast.tw17918051466203473888 : Nat := 0
def PySem.W.Fast.tw7168711786746399022 : Nat := 0
def PySem.W.Fast.tw14161211632949496150 : Nat := 0
def PySem.W.Fast.tw392909042174895641 : Nat := 0
def PySem.W.Fast.tw17232565776105637561 : Nat := 0
def PySem.W.Fast.tw17900441906239330303 : Nat := 0
def PySem.W.Fast.tw12705268683843003397 : Nat := 0
def PySem.W.Fast.tw20673675258117934 : Nat := 0
def PySem.W.Fast.tw8647047544034502311 : Nat := 0
def PySem.W.Fast.tw16902082327191490190 : Nat := 0
def PySem.W.Fast.tw11995439301153466463 : Nat := 0
def PySem.W.Fast.tw10150224116310034672 : Nat := 0
def PySem.W.Fast.tw7218182079645491828 : Nat := 0
def PySem.W.Fast.tw16079564409559228052 : Nat := 0
def PySem.W.Fast.tw16911005487632951051 : Nat := 0
def PySem.W.Fast.tw8834624852871953677 : Nat := 0
def PySem.W.Fast.tw13022695905823688918 : Nat := 0
def PySem.W.Fast.tw1448583800006310214 : Nat := 0
def PySem.W.Fast.tw10500145492520130325 : Nat := 0
def PySem.W.Fast.tw17877477500762315629 : Nat := 0
def PySem.W.Fast.tw18362032779516276733 : Nat := 0
def PySem.W.Fast.tw12656594118411742155 : Nat := 0
def PySem.W.Fast.tw3718130080651002612 : Nat := 0
def PySem.W.Fast.tw8750240822685206307 : Nat := 0
def PySem.W.Fast.tw10399389707908100279 : Nat := 0
def PySem.W.Fast.tw10173253191625881869 : Nat := 0
def PySem.W.Fast.tw9280942612692215895 : Nat := 0
def PySem.W.Fast.tw6708382088799575071 : Nat := 0
def PySem.W.Fast.tw1595313252932251025 : Nat := 0
def PySem.W.Fast.tw1117068575070504788 : Nat := 0
def PySem.W.Fast.tw9891979328795107642 : Nat := 0
def PySem.W.Fast.tw14139487557794872320 : Nat := 0
def PySem.W.Fast.tw7184411385803551220 : Nat := 0
def PySem.W.Fast.tw845230575516479867 : Nat := 0
def PySem.W.Fast.tw3145164911482971551 : Nat := 0
def PySem.W.Fast.tw9442254048370283476 : Nat := 0
def PySem.W.Fast.tw6551335739110598647 : Nat := 0
def PySem.W.Fast.tw11128957519429524371 : Nat := 0
def PySem.W.Fast.tw8225991583898952003 : Nat := 0
def PySem.W.Fast.tw2093698812402218612 : Nat := 0
def PySem.W.Fast.tw4318590669769166663 : Nat := 0
def PySem.W.Fast.tw3133890815001317302 : Nat := 0
def PySem.W.Fast.tw4040660320119962243 : Nat := 0
def PySem.W.Fast.tw2162513202028775405 : Nat := 0
def PySem.W.Fast.tw4324502271613316373 : Nat := 0
def PySem.W.Fast.tw16202754633487514985 : Nat := 0
def PySem.W.Fast.tw9027227528821487859 : Nat := 0
def PySem.W.Fast.tw16561188005885309181 : Nat := 0
def PySem.W.Fast.tw12493358549818622422 : Nat := 0
def PySem.W.Fast.tw2814609988303987389 : Nat := 0
def PySem.W.Fast.tw1449807381303618918 : Nat := 0
def PySem.W.Fast.tw667551198677117524 : Nat := 0
def PySem.W.Fast.tw3705901287167562942 : Nat := 0
def PySem.W.Fast.tw11633896335040217530 : Nat := 0
def PySem.W.Fast.tw1024041073551739741 : Nat := 0
def PySem.W.Fast.tw10843190829691641177 : Nat := 0
def PySem.W.Fast.tw13576595200147608160 : Nat := 0
def PySem.W.Fast.tw3950420529664531226 : Nat := 0
def PySem.W.Fast.tw16993089301212062917 : Nat := 0
def PySem.W.Fast.tw8583456621944652474 : Nat := 0
def PySem.W.Fast.tw2151838949329134278 : Nat := 0
def PySem.W.Fast.tw14749780101368501408 : Nat := 0
def PySem.W.Fast.tw10899704162930959157 : Nat := 0
def PySem.W.Fast.tw18021928392007573161 : Nat := 0
def PySem.W.Fast.tw4868671488045478031 : Nat := 0
def PySem.W.Fast.tw12985100313950228312 : Nat := 0
def PySem.W.Fast.tw16023624461435875650 : Nat := 0
def PySem.W.Fast.tw1074220365537840605 : Nat := 0
def PySem.W.Fast.tw14916226924580245652 : Nat := 0
def PySem.W.Fast.tw17941879029969056926 : Nat := 0
def PySem.W.Fast.tw14049527406220261794 : Nat := 0
def PySem.W.Fast.tw10219706872311198155 : Nat := 0
def PySem.W.Fast.tw12705625779204689907 : Nat := 0
def PySem.W.Fast.tw6989967492686949989 : Nat := 0
def PySem.W.Fast.tw10112815223760334371 : Nat := 0
def PySem.W.Fast.tw14018458462426760974 : Nat := 0
def PySem.W.Fast.tw11408728517156424441 : Nat := 0
def PySem.W.Fast.tw9736260528147948256 : Nat := 0
def PySem.W.Fast.tw16519102568836784871 : Nat := 0
def PySem.W.Fast.tw10028704017315800687 : Nat := 0
def PySem.W.Fast.tw3670442316359085569 : Nat := 0
def PySem.W.Fast.tw11388631119355855629 : Nat := 0
def PySem.W.Fast.tw16888209889951309532 : Nat := 0
def PySem.W.Fast.tw4180575919106519284 : Nat := 0
def PySem.W.Fast.tw12827975572560313844 : Nat := 0
def PySem.W.Fast.tw9767794937318804142 : Nat := 0
def PySem.W.Fast.tw6865432343654285826 : Nat := 0
def PySem.W.Fast.tw7665786792858218306 : Nat := 0
def PySem.W.Fast.tw13893695803850925204 : Nat := 0
def PySem.W.Fast.tw277776071623255960 : Nat := 0
def PySem.W.Fast.tw8138391299624714002 : Nat := 0
def PySem.W.Fast.tw9660338545324514633 : Nat := 0
def PySem.W.Fast.tw3166581353063839935 : Nat := 0
def PySem.W.Fast.tw7944782974504769933 : Nat := 0
def PySem.W.Fast.tw1537755901788154901 : Nat := 0
def PySem.W.Fast.tw9068282456083372469 : Nat := 0
def PySem.W.Fast.tw16930124266119638362 : Nat := 0
def PySem.W.Fast.tw3753564698665584741 : Nat := 0
def PySem.W.Fast.tw836965241013979802 : Nat := 0
def PySem.W.Fast.tw8117495303986140158 : Nat := 0
def PySem.W.Fast.tw15064847341559580709 : Nat := 0
def PySem.W.Fast.tw10762804396166003979 : Nat := 0
def PySem.W.Fast.tw15174066872740374860 : Nat := 0
def PySem.W.Fast.tw15398820296019881431 : Nat := 0
def PySem.W.Fast.tw10513096176889902873 : Nat := 0
def PySem.W.Fast.tw6656556297132711904 : Nat := 0
def PySem.W.Fast.tw7006048530354300614 : Nat := 0
def PySem.W.Fast.tw18444001484250706261 : Nat := 0
def PySem.W.Fast.tw9536253822283204191 : Nat := 0
def PySem.W.Fast.tw8037898966230744544 : Nat := 0
def PySem.W.Fast.tw7161516938219691750 : Nat := 0
def PySem.W.Fast.tw9265060221066800120 : Nat := 0
def PySem.W.Fast.tw6092587859855403977 : Nat := 0
def PySem.W.Fast.tw2931068795749000201 : Nat := 0
def PySem.W.Fast.tw16401048480770931268 : Nat := 0
def PySem.W.Fast.tw13115005273374189453 : Nat := 0
def PySem.W.Fast.tw12937096021491142966 : Nat := 0
def PySem.W.Fast.tw13973731615100989935 : Nat := 0
def PySem.W.Fast.tw1814526279018810650 : Nat := 0
def PySem.W.Fast.tw8251604113340609757 : Nat := 0
def PySem.W.Fast.tw3024607089440958917 : Nat := 0
def PySem.W.Fast.tw17666398140213091936 : Nat := 0
def PySem.W.Fast.tw9504770032474239062 : Nat := 0
def PySem.W.Fast.tw7571131834267252805 : Nat := 0
def PySem.W.Fast.tw1216960164627119365 : Nat := 0
def PySem.W.Fast.tw15807142833601600474 : Nat := 0
def PySem.W.Fast.tw14253468955628203751 : Nat := 0
def PySem.W.Fast.tw1852380809214509134 : Nat := 0
def PySem.W.Fast.tw9380780195214815942 : Nat := 0
def PySem.W.Fast.tw6643210113300591516 : Nat := 0
def PySem.W.Fast.tw13637271571521440164 : Nat := 0
def PySem.W.Fast.tw4563280571257468957 : Nat := 0
def PySem.W.Fast.tw1166398243590464980 : Nat := 0
def PySem.W.Fast.tw4566872631665940119 : Nat := 0
def PySem.W.Fast.tw14207934382181809541 : Nat := 0
def PySem.W.Fast.tw11230791525551691120 : Nat := 0
def PySem.W.Fast.tw7691310937425765378 : Nat := 0
def PySem.W.Fast.tw17176260941291384661 : Nat := 0
def PySem.W.Fast.tw2127006987767216721 : Nat := 0
def PySem.W.Fast.tw12184772371637840503 : Nat := 0
def PySem.W.Fast.tw14728966933081083082 : Nat := 0
def PySem.W.Fast.tw5239734092005937924 : Nat := 0
def PySem.W.Fast.tw14663012987527199359 : Nat := 0
def PySem.W.Fast.tw17855661696337189900 : Nat := 0
def PySem.W.Fast.tw14698180944761854626 : Nat := 0
def PySem.W.Fast.tw4096992137064469325 : Nat := 0
def PySem.W.Fast.tw15519010204604774925 : Nat := 0
def PySem.W.Fast.tw2473478240544633404 : Nat := 0
def PySem.W.Fast.tw16778775520402722229 : Nat := 0
def PySem.W.Fast.tw192671430947425795 : Nat := 0
def PySem.W.Fast.tw6327461537173102592 : Nat := 0
def PySem.W.Fast.tw13115810145855925558 : Nat := 0
def PySem.W.Fast.tw13728251769402453731 : Nat := 0
def PySem.W.Fast.tw10311102596032919981 : Nat := 0
def PySem.W.Fast.tw14465725151898977912 : Nat := 0
def PySem.W.Fast.tw17377644195703701598 : Nat := 0
def PySem.W.Fast.tw11431382024004134914 : Nat := 0
def PySem.W.Fast.tw207714169670787313 : Nat := 0
def PySem.W.Fast.tw16300817228351920673 : Nat := 0
def PySem.W.Fast.tw9551041028029289636 : Nat := 0
def PySem.W.Fast.tw7819145635023933456 : Nat := 0
def PySem.W.Fast.tw9169463032518077560 : Nat := 0
def PySem.W.Fast.tw533041262362911690 : Nat := 0
def PySem.W.Fast.tw13233252478584992735 : Nat := 0
def PySem.W.Fast.tw16479752914333435354 : Nat := 0
def PySem.W.Fast.tw2658724694336753249 : Nat := 0
def PySem.W.Fast.tw16132264714595089448 : Nat := 0
def PySem.W.Fast.tw9549998091081834275 : Nat := 0
def PySem.W.Fast.tw12933673711381726293 : Nat := 0
def PySem.W.Fast.tw17738552601873862240 : Nat := 0
def PySem.W.Fast.tw15111027550637467218 : Nat := 0
def PySem.W.Fast.tw1483104074975435034 : Nat := 0
def PySem.W.Fast.tw13239100237794775880 : Nat := 0
def PySem.W.Fast.tw6852750368681348005 : Nat := 0
def PySem.W.Fast.tw9482463773133674697 : Nat := 0
def PySem.W.Fast.tw11225488142920851819 : Nat := 0
def PySem.W.Fast.tw8239927510725719867 : Nat := 0
def PySem.W.Fast.tw310444004211252854 : Nat := 0
def PySem.W.Fast.tw18024090879552259180 : Nat := 0
def PySem.W.Fast.tw7941945710042289418 : Nat := 0
def PySem.W.Fast.tw8629623225269685312 : Nat := 0
def PySem.W.Fast.tw6732798879416679465 : Nat := 0
def PySem.W.Fast.tw10088736097131695404 : Nat := 0
def PySem.W.Fast.tw17359573413205793460 : Nat := 0
def PySem.W.Fast.tw13931192602749477763 : Nat := 0
def PySem.W.Fast.tw16321123187909527775 : Nat := 0
def PySem.W.Fast.tw8248231957284764622 : Nat := 0
def PySem.W.Fast.tw11718469267590402555 : Nat := 0
def PySem.W.Fast.tw16628233874935359212 : Nat := 0
def PySem.W.Fast.tw6430683428242363234 : Nat := 0
def PySem.W.Fast.tw2527065926351457972 : Nat := 0
def PySem.W.Fast.tw11466628914292276588 : Nat := 0
def PySem.W.Fast.tw18066933773054982185 : Nat := 0
def PySem.W.Fast.tw15640227504089019581 : Nat := 0
def PySem.W.Fast.tw10372879355536187377 : Nat := 0
def PySem.W.Fast.tw5772392035033082996 : Nat := 0
def PySem.W.Fast.tw18233860021600057324 : Nat := 0
def PySem.W.Fast.tw8020605113210900988 : Nat := 0
def PySem.W.Fast.tw4731997282249328900 : Nat := 0
def PySem.W.Fast.tw14951975699793816971 : Nat := 0
def PySem.W.Fast.tw10205561933579496311 : Nat := 0
def PySem.W.Fast.tw15628791880634003124 : Nat := 0
def PySem.W.Fast.tw9302335373931378449 : Nat := 0
def PySem.W.Fast.tw12808148238772918022 : Nat := 0
def PySem.W.Fast.tw4352190705752721673 : Nat := 0
def PySem.W.Fast.tw10336278130588168001 : Nat := 0
def PySem.W.Fast.tw2493374413652632955 : Nat := 0
def PySem.W.Fast.tw5382084637718296987 : Nat := 0
def PySem.W.Fast.tw12652496410561603739 : Nat := 0
def PySem.W.Fast.tw4755989080649143834 : Nat := 0
def PySem.W.Fast.tw8062724813323437556 : Nat := 0
def PySem.W.Fast.tw5835448031224850160 : Nat := 0
def PySem.W.Fast.tw17068819529715814536 : Nat := 0
def PySem.W.Fast.tw10172093252504827508 : Nat := 0
def PySem.W.Fast.tw12488204883179411944 : Nat := 0
def PySem.W.Fast.tw14456978458485839734 : Nat := 0
def PySem.W.Fast.tw18243151552136624041 : Nat := 0
def PySem.W.Fast.tw18044112715265034167 : Nat := 0
def PySem.W.Fast.tw9987901543982448439 : Nat := 0
def PySem.W.Fast.tw17785563636823348971 : Nat := 0
def PySem.W.Fast.tw2513684370427597733 : Nat := 0
def PySem.W.Fast.tw11773281071295975045 : Nat := 0
def PySem.W.Fast.tw13732343312836737787 : Nat := 0
def PySem.W.Fast.tw5831664463569472138 : Nat := 0
def PySem.W.Fast.tw1032193116142415364 : Nat := 0
def PySem.W.Fast.tw12974265598535382011 : Nat := 0
def PySem.W.Fast.tw10933411672229262799 : Nat := 0
def PySem.W.Fast.tw4683187336629506019 : Nat := 0
def PySem.W.Fast.tw1702071180063032191 : Nat := 0
def PySem.W.Fast.tw8928722251277819360 : Nat := 0
def PySem.W.Fast.tw10624802645796686057 : Nat := 0
def PySem.W.Fast.tw13450584785907905403 : Nat := 0
def PySem.W.Fast.tw13709806770251091972 : Nat := 0
def PySem.W.Fast.tw6087849090135524925 : Nat := 0
def PySem.W.Fast.tw17099744017845695016 : Nat := 0
def PySem.W.Fast.tw1450054221504204674 : Nat := 0
def PySem.W.Fast.tw16836262171562143745 : Nat := 0
def PySem.W.Fast.tw8393303955956070660 : Nat := 0
def PySem.W.Fast.tw9975666318862400383 : Nat := 0
def PySem.W.Fast.tw9892001503426106858 : Nat := 0
def PySem.W.Fast.tw10871487259711416679 : Nat := 0
def PySem.W.Fast.tw8057475142557115218 : Nat := 0
def PySem.W.Fast.tw1203189973297775838 : Nat := 0
def PySem.W.Fast.tw1221627431804120153 : Nat := 0
def PySem.W.Fast.tw1831922995313508569 : Nat := 0
def PySem.W.Fast.tw5307431753725346233 : Nat := 0
def PySem.W.Fast.tw1532112188268605761 : Nat := 0
def PySem.W.Fast.tw921346760777368865 : Nat := 0
def PySem.W.Fast.tw17696459669704737956 : Nat := 0
def PySem.W.Fast.tw14484598759501160333 : Nat := 0
def PySem.W.Fast.tw16238154080842679838 : Nat := 0
def PySem.W.Fast.tw2608513890935310196 : Nat := 0
def PySem.W.Fast.tw14333896369522488700 : Nat := 0
def PySem.W.Fast.tw9745458833278104207 : Nat := 0
def PySem.W.Fast.tw15287214082724233320 : Nat := 0
def PySem.W.Fast.tw12823762785959891026 : Nat := 0
def PySem.W.Fast.tw7381502231476150275 : Nat := 0
def PySem.W.Fast.tw10063969974993777209 : Nat := 0
def PySem.W.Fast.tw18024690830950765987 : Nat := 0
def PySem.W.Fast.tw15279340872046649940 : Nat := 0
def PySem.W.Fast.tw656141433270594706 : Nat := 0
def PySem.W.Fast.tw3612668916072702703 : Nat := 0
def PySem.W.Fast.tw9029601077780553453 : Nat := 0
def PySem.W.Fast.tw11333344999143801628 : Nat := 0
def PySem.W.Fast.tw15705864900054763078 : Nat := 0
def PySem.W.Fast.tw994722524422922665 : Nat := 0
def PySem.W.Fast.tw9721117478963971493 : Nat := 0
def PySem.W.Fast.tw6169958154400031273 : Nat := 0
def PySem.W.Fast.tw14369298106689370201 : Nat := 0
def PySem.W.Fast.tw13122718076099001995 : Nat := 0
def PySem.W.Fast.tw448690320724632503 : Nat := 0
def PySem.W.Fast.tw10443275801376121117 : Nat := 0
def PySem.W.Fast.tw7073974105908641291 : Nat := 0
def PySem.W.Fast.tw7803122983580289561 : Nat := 0
def PySem.W.Fast.tw6353993591650048444 : Nat := 0
def PySem.W.Fast.tw2588944239744553513 : Nat := 0
def PySem.W.Fast.tw10110106772807198077 : Nat := 0
def PySem.W.Fast.tw9831384319273736638 : Nat := 0
def PySem.W.Fast.tw14992981411751227535 : Nat := 0
def PySem.W.Fast.tw1515122468871928740 : Nat := 0
def PySem.W.Fast.tw14470717250396486537 : Nat := 0
def PySem.W.Fast.tw16083923058006738028 : Nat := 0
def PySem.W.Fast.tw4100172404432747301 : Nat := 0
def PySem.W.Fast.tw477358531445285973 : Nat := 0
def PySem.W.Fast.tw15222538162049537175 : Nat := 0
def PySem.W.Fast.tw8816923682541476847 : Nat := 0
def PySem.W.Fast.tw1181956005012779544 : Nat := 0
def PySem.W.Fast.tw1391053244897460233 : Nat := 0
def PySem.W.Fast.tw12613954227584604757 : Nat := 0
def PySem.W.Fast.tw14069625055448307890 : Nat := 0
def PySem.W.Fast.tw11911325384232751178 : Nat := 0
def PySem.W.Fast.tw1168746870889689664 : Nat := 0
def PySem.W.Fast.tw15665297825456004652 : Nat := 0
def PySem.W.Fast.tw4970704550456550289 : Nat := 0
def PySem.W.Fast.tw10684676289783611228 : Nat := 0
def PySem.W.Fast.tw16940702577959821807 : Nat := 0
def PySem.W.Fast.tw12467157750245076627 : Nat := 0
def PySem.W.Fast.tw7984982003870635723 : Nat := 0
def PySem.W.Fast.tw11945344729672363490 : Nat := 0
def PySem.W.Fast.tw4711804872408035397 : Nat := 0
def PySem.W.Fast.tw10565170144389336387 : Nat := 0
def PySem.W.Fast.tw4682839651583829560 : Nat := 0
def PySem.W.Fast.tw14221011335178958834 : Nat := 0
def PySem.W.Fast.tw16546808426297070347 : Nat := 0
def PySem.W.Fast.tw10667718163240229450 : Nat := 0
def PySem.W.Fast.tw7644224207430182984 : Nat := 0
def PySem.W.Fast.tw849371164063997242 : Nat := 0
def PySem.W.Fast.tw766661099153899068 : Nat := 0
def PySem.W.Fast.tw759463877599731681 : Nat := 0
def PySem.W.Fast.tw4406301729486700576 : Nat := 0
def PySem.W.Fast.tw12213887865298275852 : Nat := 0
def PySem.W.Fast.tw2251381481672550102 : Nat := 0
def PySem.W.Fast.tw4775743299121768629 : Nat := 0
def PySem.W.Fast.tw15540356767965578218 : Nat := 0
def PySem.W.Fast.tw5108139169808010171 : Nat := 0
def PySem.W.Fast.tw2086463647177801546 : Nat := 0
def PySem.W.Fast.tw88267356744029438 : Nat := 0
def PySem.W.Fast.tw16140802460660996000 : Nat := 0
def PySem.W.Fast.tw748255287798127767 : Nat := 0
def PySem.W.Fast.tw8772322056170809411 : Nat := 0
def PySem.W.Fast.tw1858360260010862070 : Nat := 0
def PySem.W.Fast.tw3550628981693364976 : Nat := 0
def PySem.W.Fast.tw4767704015181803580 : Nat := 0
def PySem.W.Fast.tw12209370928481216380 : Nat := 0
def PySem.W.Fast.tw7832807606313592783 : Nat := 0
def PySem.W.Fast.tw1745370262393348885 : Nat := 0
def PySem.W.Fast.tw8229621825298662353 : Nat := 0
def PySem.W.Fast.tw14834789461177855063 : Nat := 0
def PySem.W.Fast.tw9643172020583599497 : Nat := 0
def PySem.W.Fast.tw15121679215061825495 : Nat := 0
def PySem.W.Fast.tw15141746838048323731 : Nat := 0
def PySem.W.Fast.tw16272146313079987596 : Nat := 0
def PySem.W.Fast.tw14948453865868612269 : Nat := 0
def PySem.W.Fast.tw4190531115971182256 : Nat := 0
def PySem.W.Fast.tw4752675380289808005 : Nat := 0
def PySem.W.Fast.tw16021379902068932483 : Nat := 0
def PySem.W.Fast.tw16456475013691189814 : Nat := 0
def PySem.W.Fast.tw4987125459642539378 : Nat := 0
def PySem.W.Fast.tw11117732070585920559 : Nat := 0
def PySem.W.Fast.tw11750004054540956941 : Nat := 0
def PySem.W.Fast.tw15317277305105053736 : Nat := 0
def PySem.W.Fast.tw9268089443054254462 : Nat := 0
def PySem.W.Fast.tw3719043676818021996 : Nat := 0
def PySem.W.Fast.tw16536853993832895192 : Nat := 0
def PySem.W.Fast.tw15929688953541842331 : Nat := 0
def PySem.W.Fast.tw4237765316763271441 : Nat := 0
def PySem.W.Fast.tw8350779049414771255 : Nat := 0
def PySem.W.Fast.tw10961647459237087259 : Nat := 0
def PySem.W.Fast.tw7643879971048473632 : Nat := 0
def PySem.W.Fast.tw2151833074865857170 : Nat := 0
def PySem.W.Fast.tw3203044901157581335 : Nat := 0
def PySem.W.Fast.tw14964718886104200542 : Nat := 0
def PySem.W.Fast.tw2428904582004752889 : Nat := 0
def PySem.W.Fast.tw5056693636680868022 : Nat := 0
def PySem.W.Fast.tw4793968781896910474 : Nat := 0
def PySem.W.Fast.tw16122997281144326919 : Nat := 0
def PySem.W.Fast.tw13167994848995440587 : Nat := 0
def PySem.W.Fast.tw16881666418653266579 : Nat := 0
def PySem.W.Fast.tw4890682001382581393 : Nat := 0
def PySem.W.Fast.tw6060486242337327528 : Nat := 0
def PySem.W.Fast.tw12607298154876747750 : Nat := 0
def PySem.W.Fast.tw2229722899011552580 : Nat := 0
def PySem.W.Fast.tw632127824641600790 : Nat := 0
def PySem.W.Fast.tw15614889979753157071 : Nat := 0
def PySem.W.Fast.tw8626928088923846161 : Nat := 0
def PySem.W.Fast.tw10102865335334751593 : Nat := 0
def PySem.W.Fast.tw12674648639806594421 : Nat := 0
def PySem.W.Fast.tw3682103043021900995 : Nat := 0
def PySem.W.Fast.tw15494755198065548635 : Nat := 0
def PySem.W.Fast.tw5969401368093518291 : Nat := 0
def PySem.W.Fast.tw1401653073962514738 : Nat := 0
def PySem.W.Fast.tw10937861263414210174 : Nat := 0
def PySem.W.Fast.tw971795472170304691 : Nat := 0
def PySem.W.Fast.tw8445179166958910818 : Nat := 0
def PySem.W.Fast.tw17459052382959796020 : Nat := 0
def PySem.W.Fast.tw1986844436480370498 : Nat := 0
def PySem.W.Fast.tw10457167350169557840 : Nat := 0
def PySem.W.Fast.tw17964795397493057160 : Nat := 0
def PySem.W.Fast.tw3098358596549936636 : Nat := 0
def PySem.W.Fast.tw12414535077572429103 : Nat := 0
def PySem.W.Fast.tw13875188802604579599 : Nat := 0
def PySem.W.Fast.tw685592994720209624 : Nat := 0
def PySem.W.Fast.tw4739835333931946952 : Nat := 0
def PySem.W.Fast.tw3866167182719180870 : Nat := 0
def PySem.W.Fast.tw14071712856072382926 : Nat := 0
def PySem.W.Fast.tw9779886729809767139 : Nat := 0
def PySem.W.Fast.tw12315342486688859893 : Nat := 0
def PySem.W.Fast.tw8075749384120505050 : Nat := 0
def PySem.W.Fast.tw445309105371660997 : Nat := 0
def PySem.W.Fast.tw73443877537531518 : Nat := 0
def PySem.W.Fast.tw16881541111097508778 : Nat := 0
def PySem.W.Fast.tw11984821561637425919 : Nat := 0
def PySem.W.Fast.tw1499873957181058427 : Nat := 0
def PySem.W.Fast.tw4295456952639217271 : Nat := 0
def PySem.W.Fast.tw17268537621385650185 : Nat := 0
def PySem.W.Fast.tw4182656235403922598 : Nat := 0
def PySem.W.Fast.tw17967664851829644409 : Nat := 0
def PySem.W.Fast.tw1395375355081887932 : Nat := 0
def PySem.W.Fast.tw12596012926342210512 : Nat := 0
def PySem.W.Fast.tw2641086879964398315 : Nat := 0
def PySem.W.Fast.tw16076718084664104835 : Nat := 0
def PySem.W.Fast.tw18177110537552108905 : Nat := 0
def PySem.W.Fast.tw1739675956490521345 : Nat := 0
def PySem.W.Fast.tw570315049012653260 : Nat := 0
def PySem.W.Fast.tw2979227028540032033 : Nat := 0
def PySem.W.Fast.tw14567680056647783513 : Nat := 0
def PySem.W.Fast.tw12850013834016303176 : Nat := 0
def PySem.W.Fast.tw2432765785092550895 : Nat := 0
def PySem.W.Fast.tw12079759628313975675 : Nat := 0
def PySem.W.Fast.tw11017908059991524437 : Nat := 0
def PySem.W.Fast.tw7220688396285835689 : Nat := 0
def PySem.W.Fast.tw4292680845618265674 : Nat := 0
def PySem.W.Fast.tw4163438967690281824 : Nat := 0
def PySem.W.Fast.tw2270423212338133679 : Nat := 0
def PySem.W.Fast.tw6411607592997750932 : Nat := 0
def PySem.W.Fast.tw3378955609338664209 : Nat := 0
def PySem.W.Fast.tw14778264042266618902 : Nat := 0
def PySem.W.Fast.tw5125813273569233626 : Nat := 0
def PySem.W.Fast.tw17674108712178646231 : Nat := 0
def PySem.W.Fast.tw13245745464992913730 : Nat := 0
def PySem.W.Fast.tw15270743339377680234 : Nat := 0
def PySem.W.Fast.tw14389439322291401528 : Nat := 0
def PySem.W.Fast.tw230000916407071977 : Nat := 0
def PySem.W.Fast.tw3943721288571421803 : Nat := 0
def PySem.W.Fast.tw4887848420433419634 : Nat := 0
def PySem.W.Fast.tw13395547652131141614 : Nat := 0
def PySem.W.Fast.tw12251900055731793048 : Nat := 0
def PySem.W.Fast.tw2349288944156762205 : Nat := 0
def PySem.W.Fast.tw370255221875274132 : Nat := 0
def PySem.W.Fast.tw17204557025591252409 : Nat := 0
def PySem.W.Fast.tw14111391814785015481 : Nat := 0
def PySem.W.Fast.tw12223905087690348400 : Nat := 0
def PySem.W.Fast.tw7040386937932337379 : Nat := 0
def PySem.W.Fast.tw17588729236245055751 : Nat := 0
def PySem.W.Fast.tw18083821467187421955 : Nat := 0
def PySem.W.Fast.tw13204182111701112583 : Nat := 0
def PySem.W.Fast.tw9561492166231831451 : Nat := 0
def PySem.W.Fast.tw11039846959775729403 : Nat := 0
def PySem.W.Fast.tw2268909741123821686 : Nat := 0
def PySem.W.Fast.tw2001469542073213806 : Nat := 0
def PySem.W.Fast.tw15232414100005365740 : Nat := 0
def PySem.W.Fast.tw17211407565647420247 : Nat := 0
def PySem.W.Fast.tw6519319347154648243 : Nat := 0
def PySem.W.Fast.tw13473650027215676725 : Nat := 0
def PySem.W.Fast.tw3301476103555093006 : Nat := 0
def PySem.W.Fast.tw2782747901169917499 : Nat := 0
def PySem.W.Fast.tw15486400526712208623 : Nat := 0
def PySem.W.Fast.tw14024171905636237256 : Nat := 0
def PySem.W.Fast.tw4767444218042191950 : Nat := 0
def PySem.W.Fast.tw5706502028260350648 : Nat := 0
def PySem.W.Fast.tw5742743670792523181 : Nat := 0
def PySem.W.Fast.tw13715881520768727408 : Nat := 0
def PySem.W.Fast.tw7233540601996455344 : Nat := 0
def PySem.W.Fast.tw4099928051270877112 : Nat := 0
def PySem.W.Fast.tw126497976965301514 : Nat := 0
def PySem.W.Fast.tw3284269530197755471 : Nat := 0
def PySem.W.Fast.tw11639925803097920859 : Nat := 0
def PySem.W.Fast.tw2650303554128214208 : Nat := 0
def PySem.W.Fast.tw7174148324386221306 : Nat := 0
def PySem.W.Fast.tw8518074662661611641 : Nat := 0
def PySem.W.Fast.tw12144689380106658776 : Nat := 0
def PySem.W.Fast.tw7201220127671811588 : Nat := 0
def PySem.W.Fast.tw11928223565788806617 : Nat := 0
def PySem.W.Fast.tw657428390375283586 : Nat := 0
def PySem.W.Fast.tw7632068000515100001 : Nat := 0
def PySem.W.Fast.tw14562998193840279924 : Nat := 0
def PySem.W.Fast.tw6023543071064272075 : Nat := 0
def PySem.W.Fast.tw6555409630341407836 : Nat := 0
def PySem.W.Fast.tw4026889505178322847 : Nat := 0
def PySem.W.Fast.tw14872083610404453890 : Nat := 0
def PySem.W.Fast.tw6040162950620834072 : Nat := 0
def PySem.W.Fast.tw6840375727106859447 : Nat := 0
def PySem.W.Fast.tw9347035622906759704 : Nat := 0
def PySem.W.Fast.tw16180861850970913992 : Nat := 0
def PySem.W.Fast.tw5205157687432920900 : Nat := 0
def PySem.W.Fast.tw16938413192412020029 : Nat := 0
def PySem.W.Fast.tw10729435973008463673 : Nat := 0
def PySem.W.Fast.tw5104008276287666533 : Nat := 0
def PySem.W.Fast.tw277876440061752527 : Nat := 0
def PySem.W.Fast.tw17334771134968733781 : Nat := 0
def PySem.W.Fast.tw8027923121063868964 : Nat := 0
def PySem.W.Fast.tw16726946317212019293 : Nat := 0
def PySem.W.Fast.tw4300155807228379262 : Nat := 0
def PySem.W.Fast.tw17312174618268929345 : Nat := 0
def PySem.W.Fast.tw9531476000456285963 : Nat := 0
def PySem.W.Fast.tw1676241284187321163 : Nat := 0
def PySem.W.Fast.tw443094767703860633 : Nat := 0
def PySem.W.Fast.tw15193749421233295345 : Nat := 0
def PySem.W.Fast.tw13074279935329194903 : Nat := 0
def PySem.W.Fast.tw12833892029869134571 : Nat := 0
def PySem.W.Fast.tw503585188235428198 : Nat := 0
def PySem.W.Fast.tw1467196345098524309 : Nat := 0
def PySem.W.Fast.tw5347503223219887660 : Nat := 0
def PySem.W.Fast.tw5359603942848707948 : Nat := 0
def PySem.W.Fast.tw14645006408730616765 : Nat := 0
def PySem.W.Fast.tw13943893698471687114 : Nat := 0
def PySem.W.Fast.tw5433811127773046221 : Nat := 0
def PySem.W.Fast.tw7205740910098737523 : Nat := 0
def PySem.W.Fast.tw14034911897135384294 : Nat := 0
def PySem.W.Fast.tw1797591246346494014 : Nat := 0
def PySem.W.Fast.tw10513389455456767811 : Nat := 0
def PySem.W.Fast.tw2743733046560068274 : Nat := 0
def PySem.W.Fast.tw15190186409340506718 : Nat := 0
def PySem.W.Fast.tw15441629177143438735 : Nat := 0
def PySem.W.Fast.tw1427629366442255028 : Nat := 0
def PySem.W.Fast.tw17260499840944203300 : Nat := 0
def PySem.W.Fast.tw5819738934208640372 : Nat := 0
def PySem.W.Fast.tw17845621628433848635 : Nat := 0
def PySem.W.Fast.tw16905133260411116352 : Nat := 0
def PySem.W.Fast.tw10099818745708847249 : Nat := 0
def PySem.W.Fast.tw1706558128145959749 : Nat := 0
def PySem.W.Fast.tw16530747889857212502 : Nat := 0
def PySem.W.Fast.tw18436699845402406796 : Nat := 0
def PySem.W.Fast.tw8374108100929378334 : Nat := 0
def PySem.W.Fast.tw18294506347484387231 : Nat := 0
def PySem.W.Fast.tw14218605245767448157 : Nat := 0
def PySem.W.Fast.tw13214221845658497659 : Nat := 0
def PySem.W.Fast.tw4943815847904903096 : Nat := 0
def PySem.W.Fast.tw9727461007917539582 : Nat := 0
def PySem.W.Fast.tw16871655314575913017 : Nat := 0
def PySem.W.Fast.tw844667765189775092 : Nat := 0
def PySem.W.Fast.tw16343237419142625942 : Nat := 0
def PySem.W.Fast.tw11165946896283128164 : Nat := 0
def PySem.W.Fast.tw18426735129851168262 : Nat := 0
def PySem.W.Fast.tw13815352874691692035 : Nat := 0
def PySem.W.Fast.tw13426061877819619689 : Nat := 0
def PySem.W.Fast.tw9064911217853841395 : Nat := 0
def PySem.W.Fast.tw5967680090929436830 : Nat := 0
def PySem.W.Fast.tw7560229429497724030 : Nat := 0
def PySem.W.Fast.tw14375808132857398526 : Nat := 0
def PySem.W.Fast.tw11755380383142701483 : Nat := 0
def PySem.W.Fast.tw18430096077996407388 : Nat := 0
def PySem.W.Fast.tw12091275751128838511 : Nat := 0
def PySem.W.Fast.tw3932493165234303735 : Nat := 0
def PySem.W.Fast.tw7939491811632407733 : Nat := 0
def PySem.W.Fast.tw17351726211349228479 : Nat := 0
def PySem.W.Fast.tw4270691492823778745 : Nat := 0
def PySem.W.Fast.tw17664284798686370298 : Nat := 0
def PySem.W.Fast.tw11445596598366109214 : Nat := 0
def PySem.W.Fast.tw1652921625300374658 : Nat := 0
def PySem.W.Fast.tw2994357178002189735 : Nat := 0
def PySem.W.Fast.tw8910738280302628124 : Nat := 0
def PySem.W.Fast.tw1776851472767555466 : Nat := 0
def PySem.W.Fast.tw7086363379034165483 : Nat := 0
def PySem.W.Fast.tw114522870190264426 : Nat := 0
def PySem.W.Fast.tw15833782796080506613 : Nat := 0
def PySem.W.Fast.tw3245759183697284387 : Nat := 0
def PySem.W.Fast.tw14152431770122497062 : Nat := 0
def PySem.W.Fast.tw7859244808134263205 : Nat := 0
def PySem.W.Fast.tw6470033067490281645 : Nat := 0
def PySem.W.Fast.tw16797262386187527223 : Nat := 0
def PySem.W.Fast.tw7295690576598858290 : Nat := 0
def PySem.W.Fast.tw16975636463547003574 : Nat := 0
def PySem.W.Fast.tw17840039449216338802 : Nat := 0
def PySem.W.Fast.tw12219061252114317634 : Nat := 0
def PySem.W.Fast.tw8500472236951740247 : Nat := 0
def PySem.W.Fast.tw17345860234754785908 : Nat := 0
def PySem.W.Fast.tw4464839148145286070 : Nat := 0
def PySem.W.Fast.tw5730430269958724666 : Nat := 0
def PySem.W.Fast.tw1679313796176072589 : Nat := 0
def PySem.W.Fast.tw4396633596109704869 : Nat := 0
def PySem.W.Fast.tw14084698277277754954 : Nat := 0
def PySem.W.Fast.tw1612643708937604984 : Nat := 0
def PySem.W.Fast.tw11469334299927675085 : Nat := 0
def PySem.W.Fast.tw7540524692374777179 : Nat := 0
def PySem.W.Fast.tw2450854923354688768 : Nat := 0
def PySem.W.Fast.tw9720150359358377993 : Nat := 0
def PySem.W.Fast.tw10932199727510758401 : Nat := 0
def PySem.W.Fast.tw9688733961880516740 : Nat := 0
def PySem.W.Fast.tw966998067892825289 : Nat := 0
def PySem.W.Fast.tw2270276030052137138 : Nat := 0
def PySem.W.Fast.tw15241049307881563163 : Nat := 0
def PySem.W.Fast.tw14651292807167401239 : Nat := 0
def PySem.W.Fast.tw15787341529900085768 : Nat := 0
def PySem.W.Fast.tw6559155283277907910 : Nat := 0

open PySem PySem.W PyProof.Rows in
set_option maxRecDepth 100000 in
set_option maxHeartbeats 0 in
theorem PySem.Challenge.cw_samphire_k46_whole_shifted_means_holds : PySem.Challenge.rw_samphire_k46_whole_shifted_means.Holds := by
  w_on; o_law; k_head; (case hw => w_witness2)
  k_fill
  refine LamX.walk_ofTs (l := PySem.Challenge.rw_samphire_k46_whole_shifted_means) (n := 63) (k := 12) (x := "script") (CX := fun w => L2.CX0) rfl (by decide) rfl ⟨rfl, by decide, by decide⟩ (fun w h Y => PySem.W.km_in_of Y) ?F (fun _ _ _ _ _ h => h)
  case F =>
    intro w mg fa h Y KX G hmg
    have hts := PySem.W.km_tabs_of Y
    refine' K46.all_mk KX G hts hmg ?a1 ?l1 ?c1 ?k1 ?a2 ?l2 ?c2 ?k2 ?a3 ?l3 ?c3 ?k3 ?a4 ?l4 ?c4 ?k4 ?a5 ?l5 ?c5 ?k5 ?a6 ?l6 ?c6 ?k6 ?a7 ?l7 ?c7 ?k7 ?a8 ?l8 ?c8 ?k8 ?tl8 ?tp8 ?th8 ?tn8 ?tm8 ?a9 ?l9 ?c9 ?k9 ?a10 ?l10 ?c10 ?k10 ?a11 ?l11 ?c11 ?k11 ?a12 ?l12 ?c12 ?k12 ?a13 ?l13 ?c13 ?k13 ?a14 ?l14 ?c14 ?k14 ?a15 ?l15 ?c15 ?k15 ?a16 ?l16 ?c16 ?k16 ?a17 ?l17 ?c17 ?k17 ?a18 ?l18 ?c18 ?k18 ?a19 ?l19 ?c19 ?k19 ?a20 ?l20 ?c20 ?k20 ?a21 ?l21 ?c21 ?k21 ?a22 ?l22 ?c22 ?k22 ?a23 ?l23 ?c23 ?k23 ?a24 ?l24 ?c24 ?k24 ?a25 ?l25 ?c25 ?k25 ?a26 ?l26 ?c26 ?k26 ?a27 ?l27 ?c27 ?k27 ?a28 ?l28 ?c28 ?k28 ?a29 ?l29 ?c29 ?k29 ?a30 ?l30 ?c30 ?k30 ?a31 ?l31 ?c31 ?k31 ?a32 ?l32 ?c32 ?k32 ?a33 ?l33 ?c33 ?k33 ?a34 ?l34 ?c34 ?k34 ?a35 ?l35 ?c35 ?k35 ?a36 ?l36 ?c36 ?k36 ?aCSamphireError ?aCZeroDenominator ?iCZeroDenominator ?tIZeroDenominator ?lkZeroDenominator ?hcZeroDenominator ?xLZeroDenominator ?saZeroDenominator ?sBZeroDenominator ?tCZeroDenominator ?kCZeroDenominator ?coZeroDenominator ?flZeroDenominator ?ceZeroDenominator ?mrZeroDenominator ?sVZeroDenominator ?anZeroDenominator ?suZeroDenominator ?tpZeroDenominator ?hgZeroDenominator ?hkZeroDenominator ?hdZeroDenominator ?haZeroDenominator ?hnZeroDenominator ?htZeroDenominator ?hmZeroDenominator ?icZeroDenominator ?sCZeroDenominator ?aCInvalidLaw ?iCInvalidLaw ?tIInvalidLaw ?lkInvalidLaw ?hcInvalidLaw ?xLInvalidLaw ?saInvalidLaw ?sBInvalidLaw ?tCInvalidLaw ?kCInvalidLaw ?coInvalidLaw ?flInvalidLaw ?ceInvalidLaw ?mrInvalidLaw ?sVInvalidLaw ?anInvalidLaw ?suInvalidLaw ?tpInvalidLaw ?hgInvalidLaw ?hkInvalidLaw ?hdInvalidLaw ?haInvalidLaw ?hnInvalidLaw ?htInvalidLaw ?hmInvalidLaw ?icInvalidLaw ?sCInvalidLaw ?kitInvalidLawSamphireError ?z_abs ?z_int ?z_len ?z_list ?z_range ?z_sorted ?z_sum ?z_super ?z_zip ?v_ZERO ?l_ZERO ?v_ONE ?l_ONE ?g_gcd
    (case aCSamphireError => k_is)
    (case aCZeroDenominator => k_is)
    (case aCInvalidLaw => k_is)
    (case a1 => k_is)
    (case l1 => k_is)
    (case c1 => k_is)
    (case k1 => k_is)
    (case a2 => k_is)
    (case l2 => k_is)
    (case c2 => k_is)
    (case k2 => k_is)
    (case a3 => k_is)
    (case l3 => k_is)
    (case c3 => k_is)
    (case k3 => k_is)
    (case a4 => k_is)
    (case l4 => k_is)
    (case c4 => k_is)
    (case k4 => k_is)
    (case a5 => k_is)
    (case l5 => k_is)
    (case c5 => k_is)
    (case k5 => k_is)
    (case a6 => k_is)
    (case l6 => k_is)
    (case c6 => k_is)
    (case k6 => k_is)
    (case a7 => k_is)
    (case l7 => k_is)
    (case c7 => k_is)
    (case k7 => k_is)
    (case a8 => k_is)
    (case l8 => k_is)
    (case c8 => k_is)
    (case k8 => k_is)
    (case tl8 => k_is)
    (case tp8 => first | rfl | kernel_rfl)
    (case th8 => first | kernel_rfl | decide +kernel)
    (case tn8 => first | rfl | kernel_rfl)
    (case tm8 => simp)
    (case a9 => k_is)
    (case l9 => k_is)
    (case c9 => k_is)
    (case k9 => k_is)
    (case a10 => k_is)
    (case l10 => k_is)
    (case c10 => k_is)
    (case k10 => k_is)
    (case a11 => k_is)
    (case l11 => k_is)
    (case c11 => k_is)
    (case k11 => k_is)
    (case a12 => k_is)
    (case l12 => k_is)
    (case c12 => k_is)
    (case k12 => k_is)
    (case a13 => k_is)
    (case l13 => k_is)
    (case c13 => k_is)
    (case k13 => k_is)
    (case a14 => k_is)
    (case l14 => k_is)
    (case c14 => k_is)
    (case k14 => k_is)
    (case a15 => k_is)
    (case l15 => k_is)
    (case c15 => k_is)
    (case k15 => k_is)
    (case a16 => k_is)
    (case l16 => k_is)
    (case c16 => k_is)
    (case k16 => k_is)
    (case a17 => k_is)
    (case l17 => k_is)
    (case c17 => k_is)
    (case k17 => k_is)
    (case a18 => k_is)
    (case l18 => k_is)
    (case c18 => k_is)
    (case k18 => k_is)
    (case a19 => k_is)
    (case l19 => k_is)
    (case c19 => k_is)
    (case k19 => k_is)
    (case a20 => k_is)
    (case l20 => k_is)
    (case c20 => k_is)
    (case k20 => k_is)
    (case a21 => k_is)
    (case l21 => k_is)
    (case c21 => k_is)
    (case k21 => k_is)
    (case a22 => k_is)
    (case l22 => k_is)
    (case c22 => k_is)
    (case k22 => k_is)
    (case a23 => k_is)
    (case l23 => k_is)
    (case c23 => k_is)
    (case k23 => k_is)
    (case a24 => k_is)
    (case l24 => k_is)
    (case c24 => k_is)
    (case k24 => k_is)
    (case a25 => k_is)
    (case l25 => k_is)
    (case c25 => k_is)
    (case k25 => k_is)
    (case a26 => k_is)
    (case l26 => k_is)
    (case c26 => k_is)
    (case k26 => k_is)
    (case a27 => k_is)
    (case l27 => k_is)
    (case c27 => k_is)
    (case k27 => k_is)
    (case a28 => k_is)
    (case l28 => k_is)
    (case c28 => k_is)
    (case k28 => k_is)
    (case a29 => k_is)
    (case l29 => k_is)
    (case c29 => k_is)
    (case k29 => k_is)
    (case a30 => k_is)
    (case l30 => k_is)
    (case c30 => k_is)
    (case k30 => k_is)
    (case a31 => k_is)
    (case l31 => k_is)
    (case c31 => k_is)
    (case k31 => k_is)
    (case a32 => k_is)
    (case l32 => k_is)
    (case c32 => k_is)
    (case k32 => k_is)
    (case a33 => k_is)
    (case l33 => k_is)
    (case c33 => k_is)
    (case k33 => k_is)
    (case a34 => k_is)
    (case l34 => k_is)
    (case c34 => k_is)
    (case k34 => k_is)
    (case a35 => k_is)
    (case l35 => k_is)
    (case c35 => k_is)
    (case k35 => k_is)
    (case a36 => k_is)
    (case l36 => k_is)
    (case c36 => k_is)
    (case k36 => k_is)
    (case iCZeroDenominator => k_is)
    (case tIZeroDenominator => k_is)
    (case lkZeroDenominator => k_is)
    (case hcZeroDenominator => k_is)
    (case xLZeroDenominator => k_is)
    (case saZeroDenominator => k_is)
    (case sBZeroDenominator => k_is)
    (case tCZeroDenominator => k_is)
    (case kCZeroDenominator => k_is)
    (case coZeroDenominator => k_is)
    (case flZeroDenominator => first | rfl | decide +kernel)
    (case ceZeroDenominator => k_is)
    (case mrZeroDenominator => first | rfl | k_is)
    (case sVZeroDenominator => k_is)
    (case anZeroDenominator => k_is)
    (case suZeroDenominator => ks_is)
    (case tpZeroDenominator => first | rfl | decide +kernel)
    (case hgZeroDenominator => k_is)
    (case hkZeroDenominator => k_is)
    (case hdZeroDenominator => k_is)
    (case haZeroDenominator => k_is)
    (case hnZeroDenominator => k_is)
    (case htZeroDenominator => k_is)
    (case hmZeroDenominator => k_is)
    (case icZeroDenominator => k_is)
    (case sCZeroDenominator => first | rfl | k_is)
    (case iCInvalidLaw => k_is)
    (case tIInvalidLaw => k_is)
    (case lkInvalidLaw => k_is)
    (case hcInvalidLaw => k_is)
    (case xLInvalidLaw => k_is)
    (case saInvalidLaw => k_is)
    (case sBInvalidLaw => k_is)
    (case tCInvalidLaw => k_is)
    (case kCInvalidLaw => k_is)
    (case coInvalidLaw => k_is)
    (case flInvalidLaw => first | rfl | decide +kernel)
    (case ceInvalidLaw => k_is)
    (case mrInvalidLaw => first | rfl | k_is)
    (case sVInvalidLaw => k_is)
    (case anInvalidLaw => k_is)
    (case suInvalidLaw => ks_is)
    (case tpInvalidLaw => first | rfl | decide +kernel)
    (case hgInvalidLaw => k_is)
    (case hkInvalidLaw => k_is)
    (case hdInvalidLaw => k_is)
    (case haInvalidLaw => k_is)
    (case hnInvalidLaw => k_is)
    (case htInvalidLaw => k_is)
    (case hmInvalidLaw => k_is)
    (case icInvalidLaw => k_is)
    (case sCInvalidLaw => first | rfl | k_is)
    (case kitInvalidLawSamphireError => first | rfl | k_is | decide +kernel)
    (case z_abs => k_is)
    (case z_int => k_is)
    (case z_len => k_is)
    (case z_list => k_is)
    (case z_range => k_is)
    (case z_sorted => k_is)
    (case z_sum => k_is)
    (case z_super => k_is)
    (case z_zip => k_is)
    (case v_ZERO => k_is)
    (case l_ZERO => k_is)
    (case v_ONE => k_is)
    (case l_ONE => k_is)
    (case g_gcd => k_is)
