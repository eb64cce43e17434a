import PyProof.Rows.All
import Wide.All
import OpenK.AllK
import Wide.FinOn
import HandS.ForMost
import HandS.ForExc
import HandS.EndBits
import HandS.Wide
import HandS.IsInst
import HandS.ExcInit
import HandS.Nested
import KE.KExcSuper
import HandS.ExcIs
import HandS.ExcField
import HandS.Gcd
import HandS.Rev
import HandS.Walk
import HandS.Style
import HandS.FStr
import HandS.TryOnly
import KE.GoesEnumKw
import HandS.Text
import HandS.SortInts
import HandS.More
import HandS.Deep
import HandS.StrMore
import HandS.TryMany
import KE.SortData
import KE.SortKeyHeap
import HandS.RevRange
import HandS.Lambda
import HandS.EndTab
import PyProof.Rows.TupSub
import HandS.SortKw
import KE.KSortKey
import PySem.Challenge.RW_samphire_k13_whole_fair_dice
set_option Elab.async false
set_option linter.all false
set_option maxRecDepth 100000

set_option exponentiation.threshold 100000
/-! ### an own exception whose __init__ begins with super().__init__(..) -/
namespace Sup
open PySem PySem.Spec PyProof.Rows L2 NdefX
/-- what the written part says of such a class (at C), of its __init__ (at f; its code at c, its cell of the class at cc) -/
structure SupC (P : Program) (K : PySem.W.Frag) (mg : Str → Option Value) (C f c cc : Addr) : Prop where
  T : OexC K C
  cd : ∃ cd, PySem.W.clsIn K C = some cd
  code : ∃ occ cdd vs sl file tf, K.lookup c = some ⟨occ, cdd, .fields vs, sl⟩ ∧ vs[2]? = some (.str file tf) ∧ ((P.main.file : Str) == file) = true
  cell : ∃ cl cld sl, K.lookup cc = some ⟨cl, cld, .cell (some (.ref C)), sl⟩
  sub : PySem.W.mroIn K C (.ref C) = some true
  subV : PySem.W.subIn K (.ref C) (.type "ValueError") = some true
  zs : mg "super" = none
  any : PySem.W.nsIn K PySem.cStatics "thirdparty.any" = some none
  sup : PySem.W.ks_superIn K C C "__init__" = some (some (.builtin "ValueError.__init__"))
  top : (P.main.scope.names.lookup ("super" : Str)).isSome = false
section
variable {CX : CXT} {P : Program} {w : World} {K : PySem.W.Frag} {mg : Str → Option Value} {base : Heap} {N ps : List Str} {F : NF} {f C cc : Addr} {k : Nat} {sp : Sp}
/-- the body's first statement -/
abbrev supSt (arg : Expr) (p0 p1 p2 p3 p4 : Pos) : Stmt := .Expr (.Call (.Attribute (.Call (.Name "super" p0) [] [] p1) "__init__" p2) [arg] [] p3) p4
theorem callW {M : Model} {A : Around} {E : Value → Shared → Prop} {s : Shared} {i : String} {u x : Addr} {pos : Pos} {env : Env} {e : Expr} {Q : Value → Shared → Prop} (he : starEach [e] env = (false, eval e env) :: starEach [] env)
    (h : wpAny M A (spliced (backTo pos (starEach [e] env))) (fun vs s₁ => PySem.W.KxsAt i u x s₁.heap ∧ wpAny M A (call (.ref u) vs) Q E s₁) E s) : wpAny M A (callWith pos (.ref u) [] (backTo pos (starEach [e] env)) []) Q E s := by
  rw [he] at h ⊢
  refine PySem.W.kxs_callWith (i := i) (x := x) rfl ?_
  exact PySem.Calls.evalArgs_plain h
theorem fn_super {oc : Value} {od : Option Addr} {osl : Array (Option Value)} {doc pm ctv : Value} {arg : Expr} {rest : List Stmt} {p0 p1 p2 p3 p4 : Pos} {p : Str} {ps' : List Str}
    (T : SupC P K mg C f F.c cc) (lk : K.lookup f = some ⟨oc, od, .func (F.fd doc pm ctv), osl⟩) (hcl : F.cl = [(("__class__" : Str), cc)]) (hcd : PySem.W.codeIn K (.ref F.c) F.qual = true) (S : NScope N ps ["__class__"] F.scope) (hps : ps = p :: ps')
    (hpar : ∃ ar, (F.params.posonlyargs ++ F.params.args).head? = some ar ∧ ar.arg = p) (hsu : F.scope.names.lookup ("super" : Str) = some .globalImplicit) (hbd : F.body = supSt arg p0 p1 p2 p3 p4 :: rest)
    (hsw : ∀ L : Addr, swapsWith (.Call (.Attribute (.Call (.Name "super" p0) [] [] p1) "__init__" p2) [arg] [] p3) none p4.line (envF F f L) = pure false)
    (hev : ∀ L : Addr, ∃ pl, eval (.Call (.Attribute (.Call (.Name "super" p0) [] [] p1) "__init__" p2) [arg] [] p3) (envF F f L) = (do
        let ov ← attributeBase (.Call (.Name "super" p0) [] [] p1) "__init__" (envF F f L) (eval (.Call (.Name "super" p0) [] [] p1) (envF F f L))
        standAt p2.atName
        let (f', first) ← holding [ov] (getMethod ov "__init__" pl)
        callWith p3 f' first (backTo p3 (starEach [arg] (envF F f L))) []))
    (hst : ∀ L : Addr, starEach [arg] (envF F f L) = (false, eval arg (envF F f L)) :: starEach [] (envF F f L))
    (len : ∀ vs H Q E, sp vs H Q E → vs.length = ps.length)
    (hbody : ∀ (A : Around) (outer : List Env) (s : Shared) (H : Hp) (vs : List V) (Q : VK) (E : XK), Room k (A.deeper (envF F f s.heap.objs.size)) → sp vs H Q E →
      ∃ a vs' ta t, vs = .ref a :: vs' ∧ H a = some (exo a C none) ∧ PA (ncx CX P w K mg base N F f A outer s H E) [arg] ta ∧ PSs (ncx CX P w K mg base N F f A outer s H E) rest t ∧
        ta (startF N vs [none]) H (fun ws H1 => ws.length ≤ 1000 ∧ H1 a = some (exo a C none) ∧ t { nx := fun _ H' => Q .non H', rt := Q } (startF N vs [none]) H1)) :
    FnOk P w K mg base CX (k + 1) f (F.fd doc pm ctv) ps sp := by
  refine ⟨len, fun A outer s H args us vs Q E hr e0 hb r hsp => ?_⟩
  have KX : K.In s.heap := e0.mod.kin.keeps fun b o e => (e0.bs b o e).1
  have hl := len _ _ _ _ hsp
  have lim : s.heap.NoLimit := e0.mod.nolimit.keeps fun b o e => (e0.bs b o e).1
  refine codeAny_call_function hr.depth (KX _ _ lk) rfl S.co S.gen rfl (PySem.W.codeRec_of KX hcd) (hb _ _ _ _ ?_)
  refine wpAny_newFunctionEnv S.nocell (fun ⟨n, _⟩ hy => S.par n (List.of_mem_zip hy).1) (fun h₁ hns hsb => ⟨lim.fresh _ hsb, ?_⟩) S.kind
  show codeAny _ _ (.func F.body (envF F f s.heap.objs.size)) _ _
  refine PySem.ks_codeAny_funcAt ?_
  have kp : ∀ b o, s.heap.get? b = some o → h₁.get? b = some o := fun b o e => hsb.extBut b o (Nat.ne_of_lt (Heap.lt_size e)) (Heap.get?_push_of_some _ e)
  obtain ⟨a, vs', ta, t, hvs, ha, hta, ht, hq⟩ := hbody A outer s H vs Q E (hr.deeper _) hsp
  obtain ⟨cl, cld, csl, hcell⟩ := T.cell
  have hbc : base.get? cc = some ⟨cl, cld, .cell (some (.ref C)), csl⟩ := e0.mod.kin _ _ hcell
  have hlook : ∀ {y : Str} {c : Addr}, F.cl.lookup y = some c → y = "__class__" ∧ c = cc := fun {y c} e => by
    rw [hcl] at e
    by_cases hy : y = "__class__"
    · subst hy
      rw [show List.lookup ("__class__" : Str) [(("__class__" : Str), cc)] = some cc by simp [List.lookup]] at e
      exact ⟨rfl, (Option.some.inj e).symm⟩
    · have hb : (y == ("__class__" : Str)) = false := by simpa using hy
      rw [show List.lookup y [(("__class__" : Str), cc)] = none by simp [List.lookup, hb]] at e
      cases e
  have hlk : F.cl.lookup ("__class__" : Str) = some cc := by rw [hcl]; simp [List.lookup]
  have CA : CellsAt F.cl ["__class__"] [none] s.heap H := {
    len := rfl
    all := fun y c e => by
      obtain ⟨_, rfl⟩ := hlook e
      exact ⟨(e0.bs _ _ hbc).2, _, ⟨_, (e0.bs _ _ hbc).1, rfl⟩⟩
    inj := fun x y c e1 e2 => (hlook e1).1.trans (hlook e2).1.symm
    has := fun i y e => by
      match i, e with
      | 0, e =>
        have ey : ("__class__" : Str) = y := Option.some.inj e
        subst ey
        exact ⟨cc, hlk, fun v hv => by simp at hv⟩ }
  have I : Inv (ncx CX P w K mg base N F f A outer s H E) [] (startF N vs [none]) H { s with heap := h₁, toks := s.toks + (ps.zip us).length } := inv_startN S hr.hd e0 hl r CA hns kp
  have kI : K.In h₁ := KX.keeps kp
  have hN0 : N[0]? = some p := by
    have q := S.pre
    rw [hps] at q
    have z : (N.take ((p :: ps').length + 1))[0]? = some p := by
      have z := congrArg (fun l : List Str => l[0]?) q
      exact z
    rw [List.getElem?_take_of_lt (by simp)] at z
    exact z
  have hs0 : (startF N vs [none])[0]? = some (some (.ref a)) := by rw [hvs]; rfl
  have hploc : F.scope.names.lookup p = some .local := S.par p (by rw [hps]; exact List.mem_cons_self)
  obtain ⟨m, hnm, hlm⟩ := id I.loc
  obtain ⟨u0, ru0, hu0⟩ := hlm 0 p (.ref a) hN0 hs0 (.inl hploc)
  have eu0 : u0 = Value.ref a := ru0
  subst eu0
  have hself : m p = some (.ref a) := by
    rcases hu0 with ⟨_, z⟩ | ⟨z, _⟩
    · exact z
    · have z' : F.scope.names.lookup p = some .cell ∨ F.scope.names.lookup p = some .free := z
      rw [hploc] at z'
      rcases z' with z' | z' <;> cases z'
  obtain ⟨occ, cdd, cvs, csl2, file, tf, hcode, hvs2, hfile⟩ := T.code
  obtain ⟨cdD, hcdD⟩ := T.cd
  have hD : ∃ oD, h₁.get? C = some oD ∧ oD.data = .cls cdD := by
    have hD := hcdD
    unfold PySem.W.clsIn at hD
    split at hD
    · rename_i c d cd' sl ho
      cases hD
      exact ⟨_, kI _ _ ho, rfl⟩
    · cases hD
  obtain ⟨oD, hD1, hD2⟩ := hD
  obtain ⟨nm, q, N', bs, bm, sn, sub, ab, col, dd, k0, k1, k2, k3, k5, hC, hbm⟩ := T.T.cls
  obtain ⟨ar, har1, har2⟩ := hpar
  have hkc : F.scope.names.lookup ("__class__" : Str) = some .free := S.frk _ (by simp)
  obtain ⟨mb, hb1, hb2⟩ := I.mod.blt
  rw [hbd]
  obtain ⟨pl, he⟩ := hev s.heap.objs.size
  refine PySem.ks_wpAt_execs_cons (PySem.ks_wpAt_Expr_any (PySem.ks_wpAt_MethodCall (pl := pl) (PySem.ks_wpAt_super_base (fd := F.fd doc pm ctv) hsu hkc (by decide) rfl (kI _ _ lk) rfl har1 rfl (kI _ _ hcode) rfl hvs2 hfile T.top ?_) he) I.quiet (hsw _))
  -- the names
  refine PySem.W.ks_loadName_global S.kind hsu (Calls.loadGlobal_builtin (by exact I.mod.glob.keeps I.bk) T.zs (by exact hb1.keeps I.bk) ((hb2 _ (by decide)).trans (by decide +kernel)) ⟨rfl, ?_⟩)
  refine wpAny_loadName_free S.kind hkc hlk ⟨_, kI _ _ hcell, rfl⟩ ?_
  refine wpAny_loadName_local S.kind (by rw [har2]; exact hploc) hnm (by rw [har2]; exact hself) ?_
  refine PySem.ks_wpAny_isType_cls hD1 hD2 ⟨rfl, ?_⟩
  obtain ⟨t1, hox⟩ := exo_at I.hok ha
  refine PySem.ks_wpAny_call_super hD1 hD2 hox rfl (fun c e => by cases e) (PySem.W.looks_mroIn kI T.sub) (fun h' hso k' => ?_)
  have I2 : Inv (ncx CX P w K mg base N F f A outer s H E) [] (startF N vs [none]) H { s with heap := h', toks := s.toks + (ps.zip us).length } := I.kept (t' := s.toks + (ps.zip us).length) k'
  have kI2 : K.In h' := kI.keeps k'
  have hox2 : h'.get? a = some ({ cls := .ref C, dict := none, data := .fields #[.ref t1, .none, .none, .none, .bool false, .none] } : Obj) := k' _ _ hox
  have IA : PySem.W.InstAt h' a ({ cls := .ref C, dict := none, data := .fields #[.ref t1, .none, .none, .none, .bool false, .none] } : Obj) C none := ⟨hox2, rfl, rfl, trivial⟩
  have hal : PySem.W.alongIn K "__init__" ((cdD.mro.dropWhile (· != .ref C)).drop 1) = some (some (.builtin "ValueError.__init__")) := by
    have z := T.sup
    unfold PySem.W.ks_superIn at z
    rw [hcdD] at z
    exact z
  refine PySem.W.kxs_getMethod PySem.W.kxs_ValueError hso (PySem.W.looks_opaque kI2 T.any) (l₀ := cdD.mro) (fun A Q E s k q => wpAny_bind ((PySem.W.looks_clsIn kI2 hcdD) A _ E s k (wpAny_pure q))) rfl kI2 hal (IA.type.andThen (PySem.W.looks_subIn kI2 T.subV)) (PySem.W.ks_ne kI2 IA hcdD) (by decide) ?_
  -- the bound __init__ at u
  have ku : ∀ b o, h'.get? b = some o → (h'.push (PySem.W.kxs_mw "ValueError.__init__" a)).get? b = some o := fun b o e => Heap.get?_push_of_some _ e
  have I3 : Inv (ncx CX P w K mg base N F f A outer s H E) [] (startF N vs [none]) H { s with heap := h'.push (PySem.W.kxs_mw "ValueError.__init__" a), toks := s.toks + (ps.zip us).length + 1 } := I2.kept (t' := s.toks + (ps.zip us).length + 1) ku
  have hu : (h'.push (PySem.W.kxs_mw "ValueError.__init__" a)).get? h'.objs.size = some (PySem.W.kxs_mw "ValueError.__init__" a) := Heap.get?_push_at rfl rfl
  have I4 : Inv (ncx CX P w K mg base N F f A outer s H E) [(h'.objs.size, PySem.W.kxs_mw "ValueError.__init__" a)] (startF N vs [none]) H { s with heap := h'.push (PySem.W.kxs_mw "ValueError.__init__" a), toks := s.toks + (ps.zip us).length + 1 } := I3.pins_of fun p hp => by
    have hp1 := List.mem_singleton.mp hp
    subst hp1
    exact ⟨hu, I2.hok.fresh (Nat.le_refl _), fun z => absurd (z ▸ I2.lt) (Nat.lt_irrefl _), I2.nofs (Nat.le_refl _), fun v z => by cases z⟩
  refine callW (i := "ValueError.__init__") (x := a) (hst _) ?_
  refine thn (hta.run p3 _ _ _ H _ I4 hq) fun ws' s5 ⟨ws, H5, I5, r5, hlen, ha5, ht5⟩ => ?_
  have hu5 : s5.heap.get? h'.objs.size = some (PySem.W.kxs_mw "ValueError.__init__" a) := (I5.pin _ (List.mem_append_right _ (List.mem_singleton.mpr rfl))).1
  refine ⟨hu5, ?_⟩
  obtain ⟨t5, hox5⟩ := exo_at I5.hok ha5
  have hws : ws'.length ≤ sizeLine := by
    rw [← Paired.length r5, sizeLine_eq]
    omega
  have I6 : Inv (ncx CX P w K mg base N F f A outer s H E) [] (startF N vs [none]) H5 s5 := I5.pins_of fun p hp => absurd hp (by simp)
  obtain ⟨h5, g5, d5, k5', os5⟩ := s5
  have hC5 := I5.kIn _ _ hC
  show wpAny _ _ (call (.ref h'.objs.size) ws') _ _ _
  refine wpAny_call (codeAny_of_tree ?_)
  show wpAny _ _ (callAny (.ref h'.objs.size) ⟨ws', []⟩) _ _ _
  simp only [callAny]
  refine wpAny_bind (wpAny_load hu5 ?_)
  simp only [PySem.W.kxs_mw, show (Value.type "method-wrapper" == Value.type "method" || Value.type "method-wrapper" == Value.type "builtin_function_or_method" || Value.type "method-wrapper" == Value.type "method-wrapper") = true by decide, if_true]
  refine PySem.W.KFB.if_so (by decide) ?_
  refine wpAny_bind (PySem.W.check_bound_init PySem.F.excBase_ValueError.toExcCallFacts hC5 hox5 rfl ?_)
  refine wpAny_bind (wpAny_pure (wpAny_pure ?_))
  refine ⟨plainId_quiet PySem.F.excBase_ValueError.init.plain _, codeAny_builtin PySem.F.excBase_ValueError.initEntry ?_⟩
  refine PySem.W.exc_init_tree (cls := .ref C) (t0 := t5) (dv := none) (c2 := .none) (c3 := .none) (b4 := .bool false) hox5 hws (fun h6 k6 e6 _ => ?_)
  have J := I6.write (t' := k5') (x := a) (e := a) (o := exo a C none) (by rw [ha5]; exact True.intro) (.inl rfl) k6 ⟨_, e6⟩ (exo_ok e6)
  have eu : upd H5 a (exo a C none) = H5 := by
    funext b
    by_cases hb : b = a
    · rw [hb, upd_same, ha5]
    · rw [upd_ne hb]
  rw [eu] at J
  refine PySem.wpAt_of_wpAny (wpAny_mono (ht.run [] _ (startF N vs [none]) H5 _ J ht5) (fun fl s' hs => ?_) fun e s' hs => hs)
  have fin : ∀ {σ' : L2.St} {H' : Hp} {v : V} {u : Value}, Inv (ncx CX P w K mg base N F f A outer s H E) [] σ' H' s' → L2.RelV v u → Q v H' → CE outer P w H s Q u s' :=
    fun {σ' H' v u} J rv q => ⟨v, H', J.os, J.bare, J.base, J.hok, rv, q⟩
  cases fl with
  | ret u =>
    obtain ⟨v, σ', H', J, rv, q⟩ := hs
    exact fin J rv q
  | next =>
    obtain ⟨σ', H', J, q⟩ := hs
    exact fin (v := V.non) (u := Value.none) J rfl q
  | brk =>
    obtain ⟨_, _, _, q⟩ := hs
    exact False.elim q
  | cont =>
    obtain ⟨_, _, _, q⟩ := hs
    exact False.elim q
end
/-! ### an exception without fields, made -/
section
variable {X : Cx}
theorem mk_endN {pins : List (Addr × Obj)} {σ : L2.St} {H1 H2 : Hp} {Q : XK} {hp hp2 h2 : Heap} {g1 g2 : Array GenState} {d1 d2 : Drawn} {t1 t2 : Nat} {os1 os2 : OsState} {a C : Addr} (T : Raises X (.ref C)) (I1 : Inv X pins σ H1 ⟨hp, g1, d1, t1, os1⟩)
    (ha : hp.objs.size ≤ a) (k : ∀ b o, hp.get? b = some o → hp2.get? b = some o) (un : Un (frs X.stack) [] (upd H1 a (exo a C none)) H2 hp2 h2) (hok : HOk X.prog X.w H2 h2) (ho : os2 = os1) (hb : AllBare g2)
    (ea : H2 a = some (exo a C none)) (q : Q (.ref C) none (del H2 a)) : MkP X pins σ Q (.ref a) ⟨h2, g2, d2, t2, os2⟩ := by
  obtain ⟨t0, hoe⟩ := exo_at hok ea
  have hn : H1 a = none := I1.hok.fresh ha
  obtain ⟨G, g1', g2'⟩ := restrict h2 fun b => decide (b ≠ a)
  have gk : ∀ b, b ≠ a → G.get? b = h2.get? b := fun b hb => g1' b (decide_eq_true hb)
  have ge : G.get? a = none := g2' a (by simp)
  have nha : ∀ {b : Addr} {o : Obj}, hp.get? b = some o → b ≠ a := fun {b o} z => Nat.ne_of_lt (Nat.lt_of_lt_of_le (Heap.lt_size z) ha)
  have up : ∀ {b : Addr}, b ≠ a → H1 b = none → upd H1 a (exo a C none) b = none := fun {b} hb n => by rw [upd_ne hb]; exact n
  have U : Un (frs X.stack) [] H1 (del H2 a) hp G := {
    keep := fun b o z n hf hx => by
      rw [gk b (nha z)]
      exact un.keep b o (k b o z) (up (nha z) n) hf hx
    slot := fun b o z n hf hx => by
      rw [gk b (nha z)]
      exact un.slot b o (k b o z) (up (nha z) n) hf hx
    free := fun b o z n hx => by
      rw [del_ne (nha z)]
      exact un.free b o (k b o z) (up (nha z) n) hx
    there := fun b o z hx => by
      rw [gk b (nha z)]
      exact un.there b o (k b o z) hx
    tups := fun b xs z => by
      rw [del_ne (ne_of_none z hn)]
      exact un.tups b xs (by rw [upd_ne (ne_of_none z hn)]; exact z)
    frzs := fun b o v z => by
      rw [del_ne (ne_of_none z hn)]
      exact un.frzs b o v (by rw [upd_ne (ne_of_none z hn)]; exact z)
    tbls := fun b ps z => by
      rw [del_ne (ne_of_none z hn)]
      exact un.tbls b ps (by rw [upd_ne (ne_of_none z hn)]; exact z) }
  have hok3 : HOk X.prog X.w (del H2 a) G := fun b o z => by
    have hba : b ≠ a := fun e => by
      rw [e, del_same] at z
      cases z
    rw [del_ne hba] at z
    have noa : ∀ {c : Addr}, H2 c = some (.own b) → c ≠ a := fun {c} hc => at_ne ea hc exo_own
    exact (hok b o z).stay (fun c v hc y => by
        have hca : c ≠ a := by
          rcases hc with hc | hc
          · rw [hc]
            exact hba
          · exact noa hc
        rw [gk c hca]
        exact y)
      (fun c hc => by rw [del_ne (noa hc)]; exact hc) (fun c xs hc => by rw [del_ne (at_ne ea hc exo_tup)]; exact hc)
  have J : Inv X pins σ (del H2 a) ⟨G, g2, d2, t2, os2⟩ := I1.call' (ch := []) ho U hok3 hb (fun b z => absurd z (by simp))
  refine ⟨a, _, _, ⟨G, g2, d2, t2, os2⟩, _, .ref C, none, rfl, J, fun b o z => ?_, ge, hoe, ⟨rfl, rfl⟩, rfl, rfl, del_same, rfl, hb, T, q⟩
  by_cases hba : b = a
  · rw [hba, ge] at z
    cases z
  · exact (gk b hba).symm.trans z
/-- C(), C's own __init__ keeping sp and making no field -/
def tMkN (C : Addr) (sp : Sp) : L2.St → Hp → XK → Prop := fun _ H Q => ∀ a, H a = none → sp [.ref a] (upd H a (exo a C none)) (fun v H2 => v = .non ∧ H2 a = some (exo a C none) ∧ Q (.ref C) none (del H2 a)) (fun _ _ _ => False)
theorem pmk_oexN {CX : CXT} {x : Str} {C fI : Addr} {k : Nat} {fd : FuncData} {ps : List Str} {sp : Sp} {p pos : Pos} (T : OexC X.K C) (iC : PySem.W.findIn X.K (.ref C) "__init__" = some (some (.ref fI))) (tI : PySem.W.typeIn X.K (.ref fI) = some (.type "function"))
    (F1 : FnOk X.prog X.w X.K X.mg X.base CX k fI fd ps sp) (hr : Room (k + 1) X.A) (hb : Binds X.K fd ps []) (hx : Passes CX X (fun _ _ _ => False)) (hg : Gl X x) (hm : X.mg x = some (.ref C))
    (hdb : (x == ("__debug__" : Str)) = false := by decide) : PMk X (.Call (.Name x p) [] [] pos) (tMkN C sp) := by
  intro pins s σ H1 Q I1 q1
  obtain ⟨nm, q, N, bs, bm, sn, sub, ab, col, dd, k0, k1, k2, k3, k5, hC, hbm⟩ := T.cls
  refine wpAny_Call_Name_kw (ld_glob I1 hg hm ?_ hdb)
  refine PySem.W.callWith_K0 I1.kIn T.kC ?_
  show wpAny _ _ (call (.ref C) []) _ _ _
  obtain ⟨hp, g, dr, tk, os⟩ := s
  have hsz : hp.objs.size ≤ hp.objs.size + 1 := Nat.le_succ _
  have hn : H1 (hp.objs.size + 1) = none := I1.hok.fresh hsz
  have hq := q1 (hp.objs.size + 1) hn
  have kk : ∀ b o, hp.get? b = some o → ((hp.push (PySem.W.kdv_tup [])).push (PySem.HandSPX.excO C hp.objs.size)).get? b = some o := fun b o e => Heap.get?_push_of_some _ (Heap.get?_push_of_some _ e)
  have hget : ((hp.push (PySem.W.kdv_tup [])).push (PySem.HandSPX.excO C hp.objs.size)).get? (hp.objs.size + 1) = some (PySem.HandSPX.excO C hp.objs.size) := by heap_get
  have I2 : Inv X pins σ (upd H1 (hp.objs.size + 1) (exo (hp.objs.size + 1) C none)) ⟨(hp.push (PySem.W.kdv_tup [])).push (PySem.HandSPX.excO C hp.objs.size), g, dr, tk, os⟩ :=
    I1.laid (t' := tk) (a := hp.objs.size + 1) (o := exo (hp.objs.size + 1) C none) (h' := (hp.push (PySem.W.kdv_tup [])).push (PySem.HandSPX.excO C hp.objs.size)) kk hsz (exo_ok hget)
  have r2 : Vals [V.ref (hp.objs.size + 1)] [Value.ref (hp.objs.size + 1)] := .cons rfl .nil
  have hl : ([Value.ref (hp.objs.size + 1)] ++ []).length = ps.length := by
    have e := r2.length
    rw [F1.len _ _ _ _ hq] at e
    exact e.symm
  refine wpAny_call (PySem.HandSPX.call_own PySem.F.excBase_ValueError (fun Y => PySem.HandSPX.refsVE_contains Y bm hbm) (I1.kIn _ _ hC) (PySem.W.looks_findIn I1.kIn iC) (fun self => PySem.W.bind_fn I1.kIn self tI) (Nat.zero_le _)
    (codeAny_mono (F1.run _ X.stack _ _ ⟨[Value.ref (hp.objs.size + 1)], []⟩ [Value.ref (hp.objs.size + 1)] _ _ (fun _ _ _ => False) (hr.make C [] []) (I2.env0.make C [] []) (hb _ [Value.ref (hp.objs.size + 1)] I2.kIn hl) r2 hq) fun r s' hq' => ?_))
  cases r with
  | error er => exact hx pins σ _ _ er s' I2 hq'
  | ok fl =>
    cases fl with
    | ret u =>
      obtain ⟨v, H2, os2, bare2, un2, hok2, rv, ev, ea, q2⟩ := hq'
      subst ev
      obtain ⟨h2, g2, d2, t2, os'⟩ := s'
      exact ⟨rv, mk_endN (raises_own T.exC T.tyC) I1 hsz kk un2 hok2 os2 bare2 ea q2⟩
    | next => exact False.elim hq'
    | brk => exact False.elim hq'
    | cont => exact False.elim hq'
end
/-! ### a call of a local name that holds a def, which may raise -/
section
variable {X : Cx} {CX : CXT} {k i : Nat} {f : Addr} {fd : FuncData} {ps : List Str} {sp : Sp} {E : L2.St → XK} {x : Str} {p pos : Pos} {e : Expr} {es : List Expr} {t : TA}
def tCallLS (i : Nat) (f : Addr) (sp : Sp) (E : L2.St → XK) (t : TA) : TE := fun σ H Q => σ[i]? = some (some (.ref f)) ∧ t σ H fun vs H1 => sp vs H1 Q (E σ)
theorem pe_callLS (F : FnOk X.prog X.w X.K X.mg X.base CX k f fd ps sp) (hr : Room k X.A) (hN : X.N[i]? = some x) (hv : Vis X.env.scope x) (hk : PySem.W.keepIn X.K (.ref f) = true) (hb : Binds X.K fd ps []) (hx : ∀ σ, PassesAt CX X σ (E σ)) (ha : PA X (e :: es) t)
    (hdb : (x == ("__debug__" : Str)) = false := by decide) (hcd : (x == ("__classdict__" : Str)) = false := by decide)
    (he : starEach (e :: es) X.env = (false, eval e X.env) :: starEach es X.env := by rfl) (hpl : (backTo pos (starEach es X.env)).any (·.1) = false := by rfl) : PE X (.Call (.Name x p) (e :: es) [] pos) (tCallLS i f sp E t) := by
  refine ⟨fun pins s σ H Q I h => ?_⟩
  obtain ⟨hs, ht⟩ := h
  refine wpAny_Call_Name_kw (thn ((pe_var (pos := p) hN hv hdb hcd).run pins s σ H (fun v H1 => v = .ref f ∧ H1 = H) I ⟨.ref f, hs, rfl, rfl⟩) fun u s1 ⟨v, H1, I1, r1, q1⟩ => ?_)
  obtain ⟨rfl, rfl⟩ := q1
  cases r1
  refine PySem.W.callWith_K (h₀ := X.base) I.ok.mod.kin hk (thn (ha.run pos pins s1 σ _ _ I1 ht) fun us s2 ⟨vs, H2, I2, r, q⟩ => ⟨I2.kIn, ?_⟩) he hpl
  exact run_fnS F hr hb (hx σ) I2 r q
end
/-! ### isinstance of a caught error of an own class without fields -/
def rIsX (K : PySem.W.Frag) (a : Addr) (cls : Value) (d : Option Addr) : List V → Hp → VK → Prop := fun xs H Q => ∃ (D : Addr) (c : V) (cv : Value) (b : Bool), cls = .ref D ∧ d = none ∧ ExcC K D ∧ xs = [.ref a, c] ∧ (∀ u, L2.RelV c u → u = cv) ∧ PySem.W.kitOne K (.ref D) cv = some b ∧ Q (.bl b) H
theorem call_isX {X : Cx} {a : Addr} {oe : Obj} {cls : Value} {d : Option Addr} {pn : List (Addr × Obj)} (hz : Zc cls d oe) (hf : ∃ vs, oe.data = .fields vs) : CallR (X.suite a ((a, oe) :: pn)) (.builtin "isinstance") (rIsX X.K a cls d) := by
  intro pins s σ H xs us Q I r h
  obtain ⟨D, c, cv, b, rfl, rfl, C, rfl, hc, e, q⟩ := h
  exact call_isE C hz hf pins s σ H [.ref a, c] us Q I r ⟨c, cv, b, rfl, hc, e, q⟩
/-! ### what a law's text says of an own exception -/
/-- ExcT C f c cc: the class at C over SamphireError .. over ValueError, with its own __init__ at f -/
structure ExcT (P : Program) (K : PySem.W.Frag) (mg : Str → Option Value) (name : Str) (C f c cc : Addr) : Prop where
  S : SupC P K mg C f c cc
  g : mg name = some (.ref C)
  iC : PySem.W.findIn K (.ref C) "__init__" = some (some (.ref f))
  tI : PySem.W.typeIn K (.ref f) = some (.type "function")
  is : ExcC K C
  te : PySem.W.exmOne K (.ref C) (.ref C) = some true
theorem ExcT.xf {P : Program} {K : PySem.W.Frag} {mg : Str → Option Value} {name : Str} {C f c cc : Addr} (T : ExcT P K mg name C f c cc) : XfC K C := ⟨T.is.hg, T.is.hk, T.is.hs, T.is.hd⟩
/-- the file that a code object tells -/
def flIs (cvs : List Value) (f : Str) : Bool := match cvs with | _ :: _ :: .str file _ :: _ => f == file | _ => false
/-- what k_is finds, put together -/
theorem excT_mk {P : Program} {K : PySem.W.Frag} {mg : Str → Option Value} {name : Str} {C f c cc : Addr} {nm q : Str} {N : Addr} {bs bm : List Value} {sn : List Str} {sub : List Value} {ab : Bool} {col : Option Bool} {dd : Option Addr} {m0 m1 m2 m3 m5 : Option Value}
    {occ : Value} {cdd : Option Addr} {cvs : List Value} {csl : Array (Option Value)} {ccl : Value} {ccd : Option Addr} {ccs : Array (Option Value)}
    (xL : K.lookup C = some (excClassObj nm q C N bs bm true sn sub ab col dd m0 m1 m2 m3 m5 "ValueError.__new__")) (rv : PySem.HandSPX.refsVE bm = true)
    (sa : PySem.W.findIn K (.ref C) "__setattr__" = some (some (.builtin "object.__setattr__"))) (sB : PySem.W.subIn K (.ref C) (.type "BaseException") = some true) (tC : PySem.W.typeIn K (.ref C) = some (.type "type")) (kC : PySem.W.keepIn K (.ref C) = true)
    (code : K.lookup c = some ⟨occ, cdd, .fields cvs.toArray, csl⟩) (hfile : flIs cvs P.main.file = true)
    (cell : K.lookup cc = some ⟨ccl, ccd, .cell (some (.ref C)), ccs⟩) (mro : PySem.W.mroIn K C (.ref C) = some true) (sV : PySem.W.subIn K (.ref C) (.type "ValueError") = some true) (zs : mg "super" = none)
    (any : PySem.W.nsIn K PySem.cStatics "thirdparty.any" = some none) (sup : PySem.W.ks_superIn K C C "__init__" = some (some (.builtin "ValueError.__init__"))) (top : (P.main.scope.names.lookup ("super" : Str)).isSome = false)
    (g : mg name = some (.ref C)) (iC : PySem.W.findIn K (.ref C) "__init__" = some (some (.ref f))) (tI : PySem.W.typeIn K (.ref f) = some (.type "function")) (is : ExcC K C) (isc : PySem.W.isClsIn K C = true) (sC : PySem.W.subIn K (.ref C) (.ref C) = some true) : ExcT P K mg name C f c cc where
  S := {
    T := ⟨⟨nm, q, N, bs, bm, sn, sub, ab, col, dd, m0, m1, m2, m3, m5, xL, rv⟩, sa, sB, tC, kC⟩
    cd := ⟨_, by unfold PySem.W.clsIn; rw [xL] <;> rfl⟩
    code := by
      match cvs, code, hfile with
      | a :: b :: .str file tf :: r, code, hfile => exact ⟨_, _, _, _, file, tf, code, rfl, hfile⟩
    cell := ⟨_, _, _, cell⟩
    sub := mro
    subV := sV
    zs := zs
    any := any
    sup := sup
    top := top }
  g := g
  iC := iC
  tI := tI
  is := is
  te := PySem.W.exm_ref sB is.hd tC sC
end Sup

/-! ### list(reversed(a list)) -/
namespace RL
open PySem PySem.Spec PyProof.Rows RT L2
section
variable {prog : Program} {w : World} {A : Around} {E : Value → Shared → Prop} {s : Shared}
theorem extend_rev {R : Result → Shared → Prop} {S it l : Addr} {items : Array Value} {res : Value} {c₀ : Nat} (hh : A.handled = none) (hit : s.heap.IsRevIter it l ((items.size : Int) - 1)) (hl : s.heap.IsList l items) (hne : l ≠ it) (hSi : S ≠ it) (hSl : S ≠ l) (hn : items.size ≤ sizeLine)
    (hS : s.heap.get? S = some { cls := .type "list", data := .seq #[] c₀ })
    (hR : ∀ s' acc' c', Moved (S :: [it]) (fun a b => b = a) s s' → s'.heap.get? S = some { cls := .type "list", dict := none, data := .seq acc' c', slots := #[] } → ItemsOf (fun i v => items[items.size - 1 - i]? = some v) acc' items.size → R (.ok (.ret res)) s') :
    wpAny (model prog w) A.in1 (Builtin.List.listExtendWith (.ref S) (.ref it) res)
      (fun fin s' => match fin with | .done f => R (.ok f) s' | .again c' => c'.quiet = true ∧ codeAny (model prog w) A c' R s') (fun e s' => R (.error e) s') s := by
  have W := (Walks.listRev (prog := prog) (w := w) (A := A.in1) hh it l hne items).toS
  have hSf : S ∉ [it, l] := by simp only [List.mem_cons, List.not_mem_nil, or_false, not_or]; exact ⟨hSi, hSl⟩
  have hT : s.TypeIs (.ref it) "list_reverseiterator" := Heap.IsRevIter.typeIs hit
  have h1 : Builtin.List.listSameRef (.ref S) (.ref it) = false := by simp [Builtin.List.listSameRef, hSi]
  unfold Builtin.List.listExtendWith
  refine wpAny_bind (wpAny_typeOf hT ?_)
  rw [if_neg (by rw [h1]; decide)]
  refine wpAny_bind (wpAny_pyIter_revIter hit ?_)
  refine wpAny_bind (wpAny_holding ?_)
  unfold Builtin.List.listLengthHint
  refine wpAny_bind (wpAny_specialOf hT nolen_lri ?_)
  show wpAny _ A.in1 (specialOf (Value.ref it) (Str.ofString "__length_hint__") >>= _) _ _ _
  refine wpAny_bind (wpAny_specialOf hT hint_lri ?_)
  generalize hid : ("list_reverseiterator.__length_hint__" : String) = id0
  wp_delta
  rw [show splitId id0 = some ("list_reverseiterator", "__length_hint__") from by subst hid; decide +kernel]
  subst hid
  refine wpAny_bind (wpAny_isInstance (b := true) hT (by rw [isSubtype_type]; kernel_rfl) ?_)
  refine wpAny_pure ?_
  rw [if_neg (by decide)]
  have e0 : ((items.size : Nat) : Int) - 1 - ((0 : Nat) : Int) = (items.size : Int) - 1 := by omega
  refine wpAny_pure ⟨plainId_quiet F.plain_extend_loop _, codeAny_extend_loopS W hn _ hSf _ items.size 0 _ _ _ rfl (Nat.zero_le _) ⟨Nat.zero_le _, by rw [e0]; exact hit, hl⟩ hS (ItemsOf.nil _) fun s' acc' c' hm hS' hacc => ?_⟩
  exact hR s' acc' c' hm hS' hacc
theorem init_rev {R : Result → Shared → Prop} {S it l : Addr} {items : Array Value} (hh : A.handled = none) (hit : s.heap.IsRevIter it l ((items.size : Int) - 1)) (hl : s.heap.IsList l items) (hne : l ≠ it) (hSi : S ≠ it) (hSl : S ≠ l) (hn : items.size ≤ sizeLine)
    (hS : s.heap.get? S = some { cls := .type "list", data := .seq #[] })
    (hR : ∀ (h' : Heap) (tk : Nat) (acc : Array Value) (c' : Nat), (∀ b o, b ≠ S → b ≠ it → s.heap.get? b = some o → h'.get? b = some o) → h'.get? S = some { cls := .type "list", dict := none, data := .seq acc c', slots := #[] } → ItemsOf (fun i v => items[items.size - 1 - i]? = some v) acc items.size → R (.ok (.ret .none)) { s with heap := h', toks := tk }) :
    wpAny (model prog w) A.in1 (Builtin.«list.__init__» ⟨[.ref S, .ref it], []⟩)
      (fun fin s' => match fin with | .done f => R (.ok f) s' | .again c' => c'.quiet = true ∧ codeAny (model prog w) A c' R s') (fun e s' => R (.error e) s') s := by
  show wpAny _ A.in1 (do let old ← Builtin.List.listItems (.ref S); Builtin.List.listUpdate (.ref S) (fun _ => #[]); letGo old.toList.reverse; Builtin.List.listExtendWith (.ref S) (.ref it) .none) _ _ s
  refine wpAny_bind ?_
  unfold Builtin.List.listItems
  refine wpAny_bind (wpAny_seqItems hS rfl (wpAny_pure ?_))
  show wpAny _ A.in1 (updateSeq S (fun _ => #[]) >>= fun _ => letGo (#[] : Array Value).toList.reverse >>= fun _ => Builtin.List.listExtendWith (.ref S) (.ref it) .none) _ _ s
  refine wpAny_bind (wpAny_updateSeq hS rfl ?_)
  have hS₂ := Heap.get?_update_self (Obj.mapSeq (fun _ => (#[] : Array Value))) hS rfl
  have oth : ∀ b o, b ≠ S → s.heap.get? b = some o → (s.heap.update S (Obj.mapSeq (fun _ => (#[] : Array Value)))).get? b = some o :=
    fun b o hb e => (Heap.get?_update_other _ _ (Ne.symm hb)).trans e
  refine wpAny_bind (wpAny_letGo ?_)
  refine extend_rev (s := { s with heap := s.heap.update S (Obj.mapSeq (fun _ => (#[] : Array Value))) }) hh (hit.at fun o e => oth it o hSi.symm e) (by obtain ⟨o, ho, x⟩ := hl; exact ⟨o, oth l o hSl.symm ho, x⟩) hne hSi hSl hn hS₂ fun s' acc' c' hm hS' hacc => ?_
  rw [Moved.eq_with hm]
  exact hR s'.heap s'.toks acc' c' (fun b o hb hb2 e => hm.heap b o (by simp [hb, hb2]) (oth b o hb e)) hS' hacc
theorem call_list_rev {it l : Addr} {items : Array Value} {Q : Value → Shared → Prop} (hh : A.handled = none) (hit : s.heap.IsRevIter it l ((items.size : Int) - 1)) (hl : s.heap.IsList l items) (hne : l ≠ it) (hn : items.size ≤ sizeLine)
    (hQ : ∀ (h' : Heap) (tk : Nat) (acc : Array Value) (c' : Nat), (∀ b o, b ≠ it → s.heap.get? b = some o → h'.get? b = some o) → h'.get? s.heap.objs.size = some { cls := .type "list", dict := none, data := .seq acc c', slots := #[] } → ItemsOf (fun i v => items[items.size - 1 - i]? = some v) acc items.size → Q (.ref s.heap.objs.size) { s with heap := h', toks := tk }) :
    wpAny (model prog w) A (call (.type "list") [.ref it]) Q E s := by
  refine callType_codes (Q₁ := fun obj s₁ => obj = .ref s.heap.objs.size ∧ s₁ = { s with heap := s.heap.push { cls := .type "list", data := .seq #[] } }) F.called_list (F.typeCall_list_1 _) F.entry_list_init
    (code_list_new _ ⟨rfl, rfl⟩) fun obj s₁ h₁ => ?_
  obtain ⟨rfl, rfl⟩ := h₁
  have hS : (s.heap.push { cls := .type "list", data := .seq #[] }).get? s.heap.objs.size = some { cls := .type "list", data := .seq #[] } := Heap.get?_push_size _ rfl
  obtain ⟨oi, hoi, _⟩ := id hit
  obtain ⟨ol, hol, _⟩ := id hl
  refine ⟨⟨_, hS, rfl⟩, F.args_list_init_2 _ _, init_rev (A := A.in1) (s := { s with heap := s.heap.push { cls := .type "list", data := .seq #[] } }) hh (hit.at fun o e => Heap.get?_push_of_some _ e) (hl.push _) hne (Nat.ne_of_gt (Heap.lt_size hoi)) (Nat.ne_of_gt (Heap.lt_size hol)) hn hS fun h' tk acc c' hk hS' hacc => ?_⟩
  exact ⟨rfl, hQ h' tk acc c' (fun b o hb e => hk b o (Nat.ne_of_lt (Heap.lt_size e)) hb (Heap.get?_push_of_some _ e)) hS' hacc⟩
end
section
variable {X : Cx}
/-- list(reversed(xs)): a new list -/
def tListRev (K : PySem.W.Frag) (te : TE) : TE := fun σ H Q => te σ H fun x H1 => ∃ a xs, x = .ref a ∧ SqL K H1 a xs ∧ ∀ p, H1 p = none → Q (.ref p) (upd H1 p (.lst xs.reverse))
theorem pe_listRev {e : Expr} {te : TE} {p p2 pos pos2 : Pos} (hc : X.calm = true) (hg : Gl X "list") (hm : X.mg "list" = none) (hg2 : Gl X "reversed") (hm2 : X.mg "reversed" = none) (he : PE X e te)
    (hs : starEach [e] X.env = (false, eval e X.env) :: starEach [] X.env := by rfl)
    (hs2 : starEach [.Call (.Name "reversed" p2) [e] [] pos2] X.env = (false, eval (.Call (.Name "reversed" p2) [e] [] pos2) X.env) :: starEach [] X.env := by rfl) :
    PE X (.Call (.Name "list" p) [.Call (.Name "reversed" p2) [e] [] pos2] [] pos) (tListRev X.K te) := by
  refine ⟨fun pins s σ H Q I h => ?_⟩
  refine Call_ (ld_blt I hg hm boot_list (PyProof.Rows.callWith_type1 (args_cons (Call_ (ld_blt I hg2 hm2 PyProof.Rows.boot_reversed (PyProof.Rows.callWith_type1 (args_cons (thn (he.run pins s σ H _ I h) fun u s1 ⟨v, H1, I1, r1, q1⟩ => args_nil ?_) hs) hs rfl))) hs2) hs2 rfl))
  obtain ⟨a, xs, ev, hq, q⟩ := q1
  subst ev
  obtain rfl : u = Value.ref a := r1
  obtain ⟨its, rv, p', hz⟩ := I1.list hq
  refine call_reversed_list p'.isList (args_nil ?_)
  have k0 : ∀ b o, s1.heap.get? b = some o → (s1.heap.push (revObj a ((its.toArray.size : Int) - 1))).get? b = some o := fun b o e => Heap.get?_push_of_some _ e
  have hl := p'.isList
  obtain ⟨ol, hol, _⟩ := id hl
  have hne : a ≠ s1.heap.objs.size := Nat.ne_of_lt (Heap.lt_size hol)
  have hn : its.toArray.size ≤ sizeLine := by rw [List.size_toArray, ← rv.length]; exact hz
  refine call_list_rev (s := { s1 with heap := s1.heap.push (revObj a ((its.toArray.size : Int) - 1)) }) (I1.ok.hd hc) ⟨_, Heap.get?_push_size _ rfl, rfl, rfl⟩ (hl.push _) hne hn fun h' tk acc c' hk hS' hi => ?_
  have hle : s1.heap.objs.size ≤ (s1.heap.push (revObj a ((its.toArray.size : Int) - 1))).objs.size := by simp [Heap.push]
  have ea : acc.toList.toArray = acc := by simp
  exact ⟨.ref (s1.heap.push (revObj a ((its.toArray.size : Int) - 1))).objs.size, upd H1 (s1.heap.push (revObj a ((its.toArray.size : Int) - 1))).objs.size (.lst xs.reverse), I1.laid (t' := tk) (fun c o e => hk c o (Nat.ne_of_lt (Heap.lt_size e)) (k0 c o e)) hle (show ObjOk X.prog X.w _ _ _ (.lst xs.reverse) from ⟨by rw [List.length_reverse]; exact hz, acc.toList, c', vals_rev rv hi, by rw [ea]; exact hS'⟩), rfl, q _ (I1.hok.fresh hle)⟩
end
end RL
/-! ### xs.extend(a tuple) -/
namespace RL
open PySem PySem.Spec PyProof.Rows RT L2
theorem meets_extend_tup (l : Addr) (items : Array Value) (n : Nat) (b : Addr) (items2 : Array Value) (n2 : Nat) (o : Obj) (hc : o.cls = .type "tuple") (hd : o.data = .seq items2 n2) (hs1 : items.size + items2.size ≤ sizeLine) :
    Meets (Builtin.«list.extend» ⟨[.ref l, .ref b], []⟩) (fun _ R s => s.heap.get? l = some { cls := .type "list", dict := none, data := .seq items n, slots := #[] } ∧ s.heap.get? b = some o ∧ R (.ok (.ret Value.none)) { s with heap := s.heap.update l (Obj.mapSeq fun x => x ++ items2), toks := s.toks }) :=
  .of_wp fun prog w A R s h => by
    obtain ⟨hl, hb, h⟩ := h
    show wpAny _ _ (Builtin.List.listExtendWith (.ref l) (.ref b) .none) _ _ _
    unfold Builtin.List.listExtendWith
    refine wpAny_bind (wpAny_typeOf ⟨o, hb, hc⟩ ?_)
    have h1 : (Builtin.List.listSameRef (.ref l) (.ref b) || Value.type "tuple" == Value.type "list" || Value.type "tuple" == Value.type "tuple") = true := by simp
    simp only [h1, if_true]
    refine wpAny_bind ?_
    unfold Builtin.List.listItems
    refine wpAny_bind (wpAny_seqItems hb hd (wpAny_pure ?_))
    refine wpAny_bind ?_
    refine wpAny_bind (wpAny_seqItems hl rfl (wpAny_pure ?_))
    have hlong : ¬ (!items.isEmpty && Builtin.List.listTooLong (items.size + items2.size)) = true := by
      rw [notLongL hs1, Bool.and_false]
      exact Bool.false_ne_true
    rw [if_neg hlong]
    show wpAny _ _ (updateSeq l (· ++ items2) >>= fun _ => ret .none) _ _ s
    refine wpAny_bind (wpAny_updateSeq hl rfl (hz := by omega) (_hz' := by rw [Array.size_append]; omega) ?_)
    exact wpAny_pure ⟨_, rfl, h⟩
section
variable {X : Cx}
def rExtT : V → List V → Hp → VK → Prop := fun x vs H Q => ∃ l b xs zs, x = .ref l ∧ vs = [.ref b] ∧ H l = some (.lst xs) ∧ H b = some (.tup zs) ∧ xs.length + zs.length ≤ sizeLine ∧ Q .non (upd H l (.lst (xs ++ zs)))
theorem mt_extendT : MtM X "list.extend" rExtT := by
  intro pins s σ H x vs v us Q I rx rv h
  obtain ⟨l, b, xs, zs, rfl, rfl, hH, hB, hz, q⟩ := h
  cases rx
  obtain ⟨u, rfl, ru⟩ := rv.one
  cases ru
  obtain ⟨z, its, n, r, hl, e⟩ := I.lstM hH
  obtain ⟨its2, r2, ⟨o, ho, hc, n2, hd⟩, hz2⟩ := I.tuple (SqT.of hB)
  have hl2 := r2.length
  refine call_meets PySem.F.slot_list_extend ⟨_, e, rfl⟩ PySem.F.entry_list_extend (PySem.F.args_list_extend_2 _ _)
    (meets_extend_tup l its.toArray n b its2.toArray n2 o hc hd (by rw [List.size_toArray, List.size_toArray]; omega)) ⟨e, ho, ?_⟩
  refine ⟨.non, _, I.lset (its' := its ++ its2) hH e (by simp) (r.append r2) ?_, rfl, q⟩
  rw [List.length_append]
  omega
end
end RL
/-! ### enumerate(a list, start=k) -/
namespace RL
open PySem PySem.Spec PyProof.Rows L2
section
variable {M : Model} {A : Around} {E : Value → Shared → Prop} {s : Shared} {env : Env}
theorem callWith_type_kwB {pos : Pos} {T : String} {first : List Value} {args : List (Bool × Sem Value)} {keywords : List (Option Str × Sem Value)} {Q : Value → Shared → Prop}
    (hplain : args.any (·.1) = false) (hkw : keywords.any (·.1.isNone) = false)
    (h : wpAny M A (evalArgs (.type T) true args keywords) (fun a s₁ => wpAny M A (call (.type T) (first ++ a.pos) a.kw) Q E s₁) E s) :
    wpAny M A (callWith pos (.type T) first args keywords) Q E s := by
  unfold callWith
  refine wpAny_bind (wpAny_holding (wpAny_mono h (fun a s₁ h₁ => wpAny_bind (wpAny_standAt ?_)) fun _ _ x => x))
  simp only [hplain, hkw, Bool.or_false]
  refine wpAny_bind (wpAny_pure ?_)
  exact wpAny_bind (wpAny_mono h₁ (fun r s₂ hr => wpAny_bind (wpAny_holding (wpAny_point (wpAny_pure hr)))) fun _ _ x => x)
theorem callWith_type_kw {pos : Pos} {T : String} {e : Expr} {rest : List Expr} {kws : List Keyword} {Q : Value → Shared → Prop}
    (h : wpAny M A (spliced (backTo pos (starEach (e :: rest) env))) (fun vs s₁ => wpAny M A (evalAll ((backToKw pos (keywordEach kws env)).map (·.2)))
      (fun kvs s₂ => wpAny M A (call (.type T) vs (((backToKw pos (keywordEach kws env)).filterMap (·.1)).zip kvs)) Q E s₂) E s₁) E s)
    (he : backTo pos (starEach (e :: rest) env) = (false, eval e env) :: backTo pos (starEach rest env))
    (hplain : (backTo pos (starEach (e :: rest) env)).any (·.1) = false)
    (hall : (backToKw pos (keywordEach kws env)).all (·.1.isSome) = true)
    (hkw : (backToKw pos (keywordEach kws env)).any (·.1.isNone) = false) :
    wpAny M A (callWith pos (.type T) [] (backTo pos (starEach (e :: rest) env)) (backToKw pos (keywordEach kws env))) Q E s := by
  refine callWith_type_kwB hplain hkw ?_
  rw [he] at h ⊢
  exact evalArgs_kwB hall h
end
/-- the list at a as it stands at each turn, each item in a new pair, counted from k -/
def IteS (K : PySem.W.Frag) (a : Addr) (k : Int) : It :=
  ⟨fun i H => ∃ (xs : List V) (x : V), SqL K H a xs ∧ xs[i]? = some x, fun i H v H' => ∃ T x, v = .ref T ∧ H T = none ∧ H' = upd H T (.tup [.int (k + (i : Nat)), x]) ∧ ∀ xs, SqL K H a xs → xs[i]? = some x, fun i H => ∃ xs : List V, SqL K H a xs ∧ xs.length = i⟩
theorem turn_enumS {P : Program} {w : World} {K : PySem.W.Frag} {elts : List Expr} {kk : Nat} {tpos : Pos} (a e it : Addr) (k : Int) :
    Turn P w K (.Tuple elts kk tpos) (IteS K a k) [e, it] e (fun i h => (∃ old, IsEnum h e it (k + ((i : Nat) : Int)) old) ∧ h.IsListIter it a i ∧ e ≠ it ∧ e ≠ a ∧ a ≠ it) where
  mem := by simp
  obj := fun i h st b hb => by
    obtain ⟨⟨old, he⟩, ⟨o, ho, hc, hd⟩, _⟩ := st
    have e' : b = e ∨ b = it := by simpa using hb
    rcases e' with z | z
    · rw [z]; exact ⟨_, he, fun v q => nomatch q⟩
    · rw [z]; exact ⟨o, ho, fun v q => by rw [hd] at q; cases q⟩
  keep := fun i h h' st k => let ⟨⟨old, he⟩, hi, hne⟩ := st; ⟨⟨old, k e (by simp) _ he⟩, hi.at fun o q => k it (by simp) o q, hne⟩
  item := by
    intro X hP hw hK hc i pins s σ H E I hf st hg
    subst hP hw hK
    obtain ⟨⟨old, he⟩, hit, hne, hea, hai⟩ := st
    obtain ⟨xs, x, hq, hx⟩ := hg
    obtain ⟨its, rv, p, hz⟩ := I.list hq
    obtain ⟨u, hu, ru⟩ := rv.get hx
    have hel : e < s.heap.objs.size := Heap.lt_size he
    have hil : it < s.heap.objs.size := by obtain ⟨_, q, _⟩ := hit; exact Heap.lt_size q
    have D := Draws.list (prog := X.prog) (w := X.w) (A := X.A.in1) (I.ok.hd hc) it a hai its.toArray
    have hlt : i < its.toArray.size := by
      have := (List.getElem?_eq_some_iff.mp hu).1
      simpa using this
    refine wpAny_pyNext_enum_itemC D he ⟨hit, p.isList⟩ hlt hne (by simp [hne, hea]) fun u' h' tk hu' ho hst' hT hsz hk => ?_
    have euu : u' = u := by
      have z : its.toArray[i]? = some u := by simpa using hu
      rw [z] at hu'
      exact (Option.some.inj hu').symm
    subst euu
    refine ⟨_, rfl, wpAny_letOwnedTupleGo_enum (s := { s with heap := h', toks := tk + 1 }) ho fun h'' he' sb => ?_⟩
    have hT2 : h''.get? s.heap.objs.size = some { cls := .type "tuple", data := .seq #[.int (k + (i : Nat)) tk, u'] } := (sb.2 _ (Nat.ne_of_gt hel)).trans hT
    have new : ObjOk X.prog X.w (upd H s.heap.objs.size (.tup [.int (k + (i : Nat)), x])) h'' s.heap.objs.size (.tup [.int (k + (i : Nat)), x]) :=
      ⟨by show 2 ≤ sizeLine; decide, [.int (k + (i : Nat)) tk, u'], .cons ⟨_, rfl⟩ (.cons ru .nil), ⟨_, hT2, rfl, _, rfl⟩⟩
    have I1 : Inv X pins σ (upd H s.heap.objs.size (.tup [.int (k + (i : Nat)), x])) { s with heap := h'', toks := tk + 1 } :=
      I.turnedNew (ch := [e, it]) (fun b ob hb q => (sb.2 b (fun z => hb (by simp [z]))).trans (hk b ob (fun z => hb (by simp [z])) (fun z => hb (by simp [z])) q)) hf (Nat.le_refl _) new
    refine ⟨.ref s.heap.objs.size, _, I1, rfl, ⟨_, x, rfl, I.hok.fresh (Nat.le_refl _), rfl, fun ys hy => by rw [I.list_inj hy hq]; exact hx⟩, ⟨⟨u', ?_⟩, hst'.1.at fun o q => (sb.2 it (Ne.symm hne)).trans q, hne, hea, hai⟩, fun b hb => ?_⟩
    · have e1 : k + ((i + 1 : Nat) : Int) = k + (i : Int) + 1 := by omega
      rw [e1]; exact he'
    · have hb' : b < s.heap.objs.size := by
        have e' : b = e ∨ b = it := by simpa using hb
        rcases e' with z | z
        · rw [z]; exact hel
        · rw [z]; exact hil
      rw [upd_ne (Nat.ne_of_lt hb')]
      exact (hf b hb).1
  done := by
    intro X hP hw hK hc i pins s σ H E I hf st hg
    subst hP hw hK
    obtain ⟨⟨old, he⟩, hit, hne, hea, hai⟩ := st
    obtain ⟨xs, hq, hx⟩ := hg
    obtain ⟨its, rv, p, hz⟩ := I.list hq
    obtain ⟨f0, f1, f2, f3, f4, f5⟩ := hf it (by simp)
    have hl := rv.length
    have D := Draws.list (prog := X.prog) (w := X.w) (A := X.A.in1) (I.ok.hd hc) it a hai its.toArray
    have en : i = its.toArray.size := by rw [List.size_toArray]; omega
    subst en
    exact wpAny_pyNext_enum_endD D he ⟨hit, p.isList⟩ fun h' eb => ⟨rfl, I.turned (t' := s.toks) (fun b o hb q => eb b o hb q) f0 f1 f3 f4 f5⟩
  self := fun A i s Q E st h => let ⟨⟨_, he⟩, _⟩ := st; wpAny_pyIter_enum he h
def iEnumS (K : PySem.W.Frag) (ta : TA) (tk : TA) : TI := fun σ H R => ta σ H fun vs H1 => tk σ H1 fun zs H2 => ∃ a xs k, vs = [.ref a] ∧ zs = [.int k] ∧ -(2 ^ 63) ≤ k ∧ k < 2 ^ 63 ∧ SqL K H2 a xs ∧ R (IteS K a k) H2
theorem pi_enumS {X : Cx} {e e2 : Expr} {ta tk : TA} {p pos tpos kp : Pos} {elts : List Expr} {kk : Nat} (hg : Gl X "enumerate") (hm : X.mg "enumerate" = none) (ha : PA X [e] ta) (hkw : PK X [⟨some ("start" : Str), e2, kp⟩] tk)
    (he : backTo pos (starEach [e] X.env) = (false, eval e X.env) :: backTo pos (starEach [] X.env) := by rfl) (hpl : (backTo pos (starEach [e] X.env)).any (·.1) = false := by rfl)
    (hall : (backToKw pos (keywordEach [⟨some ("start" : Str), e2, kp⟩] X.env)).all (·.1.isSome) = true := by rfl) (hnone : (backToKw pos (keywordEach [⟨some ("start" : Str), e2, kp⟩] X.env)).any (·.1.isNone) = false := by rfl)
    (hks : (backToKw pos (keywordEach [⟨some ("start" : Str), e2, kp⟩] X.env)).filterMap (·.1) = [("start" : Str)] := by rfl) :
    PI X (.Tuple elts kk tpos) (.Call (.Name "enumerate" p) [e] [⟨some ("start" : Str), e2, kp⟩] pos) (iEnumS X.K ta tk) := by
  refine ⟨fun pins s σ H R I h => ?_⟩
  refine wpAny_Call_Name_kw (ld_blt I hg hm boot_enumerate (callWith_type_kw (thn (ha.run pos pins s σ H _ I h) fun us s0 ⟨vs, H0, I0, r0, q0⟩ => thn (hkw.run pos pins s0 σ H0 _ I0 q0) fun ws s1 ⟨zs, H1, I1, r2, q1⟩ => ?_) he hpl hall hnone))
  rw [hks]
  obtain ⟨a, xs, k, ex, ez, hk0, hk1, hq, q⟩ := q1
  subst ex ez
  cases r0 with
  | cons r rr =>
    cases rr
    cases r
    cases r2 with
    | cons r3 rr3 =>
      cases rr3
      obtain ⟨t, rfl⟩ := r3
      obtain ⟨its, rv, p', hz⟩ := I1.list hq
      have hal : a < s1.heap.objs.size := by obtain ⟨_, z, _⟩ := p'.isList; exact Heap.lt_size z
      refine enum_begins_start (begins_list a its.toArray) p'.isList hk0 hk1 fun h' he' hit hsz hk => wpAny_pyIter_enum he' ?_
      have I2 : Inv X pins σ H1 { s1 with heap := h' } := I1.kept (t' := s1.toks) hk
      refine ⟨s1.heap.objs.size + 1, [s1.heap.objs.size + 1, s1.heap.objs.size], _, _, H1, rfl, I2, turn_enumS a (s1.heap.objs.size + 1) s1.heap.objs.size k, ⟨⟨.none, ?_⟩, ⟨_, hit, rfl, ?_⟩, Nat.succ_ne_self _, Nat.ne_of_gt (Nat.lt_succ_of_lt hal), Nat.ne_of_lt hal⟩, fun b hb => ?_, q⟩
      · rw [show k + ((0 : Nat) : Int) = k by omega]
        exact he'
      · rfl
      · have e' : b = s1.heap.objs.size + 1 ∨ b = s1.heap.objs.size := by simpa using hb
        have hle : s1.heap.objs.size ≤ b := by
          rcases e' with z | z
          · rw [z]; exact Nat.le_add_right _ _
          · rw [z]; exact Nat.le_refl _
        exact I1.fpOk hle (I1.hok.fresh hle)
end RL
/-! ### a text times an int -/
namespace RL
open PySem PySem.Spec PyProof.Rows L2
def repS (z : Str) (k : Nat) : Str := ⟨(List.replicate k z.cps).foldl (· ++ ·) #[]⟩
theorem foldl_size : ∀ (l : List (Array Nat)) (a : Array Nat), (l.foldl (· ++ ·) a).toList = a.toList ++ (l.map Array.toList).flatten
  | [], a => by simp
  | x :: r, a => by
    rw [List.foldl_cons, foldl_size r (a ++ x), Array.toList_append, List.map_cons, List.flatten_cons, List.append_assoc]
theorem repS_tl (z : Str) (k : Nat) : TL.tl (repS z k) = (List.replicate k z.cps.toList).flatten := by
  show ((List.replicate k z.cps).foldl (· ++ ·) #[]).toList = _
  rw [foldl_size, List.map_replicate]
  rfl
theorem repS_len (z : Str) (k : Nat) : (repS z k).length = k * z.length := by
  show (repS z k).cps.size = _
  rw [← Array.length_toList]
  have h := repS_tl z k
  unfold TL.tl at h
  rw [h]
  simp [List.length_flatten]
  rfl
def rMulS : R2 := fun x y H Q => ∃ (z : Str) (k : Nat), x = .str z ∧ y = .int (k : Int) ∧ 2 ≤ k ∧ k ≤ 100000 ∧ 1 ≤ z.length ∧ z.length ≤ 100 ∧ Q (.str (repS z k)) H
theorem op_mulS {X : Cx} : OpR X (binaryOp .Mult) rMulS := by
  intro pins s σ H x y v u Q I rx ry h
  obtain ⟨z, k, rfl, rfl, hk, hk2, hz, hz2, q⟩ := h
  obtain ⟨t, rfl⟩ := rx
  obtain ⟨t', rfl⟩ := ry
  have hle : z.length * k ≤ 10000000 := by
    have h1 : z.length * k ≤ 100 * k := Nat.mul_le_mul_right k hz2
    omega
  have hno : ((((k : Nat) : Int) == 1) || z.length == 0) = false := by
    have h1 : (((k : Nat) : Int) == 1) = false := by
      apply beq_false_of_ne
      omega
    have h2 : (z.length == 0) = false := by
      apply beq_false_of_ne
      omega
    rw [h1, h2]; rfl
  refine PySem.P.mul_str ?_ ?_ ?_ ?_
  · have h1 : ¬ (k : Int) < -(2 ^ 63 : Int) := by omega
    have h2 : ¬ (k : Int) ≥ 2 ^ 63 := by omega
    rw [decide_eq_false h1, decide_eq_false h2]; rfl
  · intro _ _
    have h3 : (1000 : Int) ≤ (2 ^ 63 - 1) / (k : Int) := by
      rw [Int.le_ediv_iff_mul_le (by omega)]
      omega
    omega
  · intro _ _
    rw [Int.toNat_natCast]
    have hs : 10000000 ≤ sizeLine := by decide
    unfold Builtin.Str.tooLong
    exact decide_eq_false (by omega)
  · rw [if_neg (by omega), if_neg (by rw [hno]; decide)]
    rw [Int.toNat_natCast]
    have hl := repS_len z k
    have hs : 10000000 ≤ sizeLine := by decide
    have hc : k * z.length = z.length * k := Nat.mul_comm _ _
    refine ⟨?_, ⟨.str (repS z k), H, I.tok _, ⟨_, rfl⟩, q⟩⟩
    show (repS z k).length ≤ sizeLine
    omega
end RL

/-! ### Z: single steps of readings, for walking by with_reducible refine -/
namespace Z
open PySem L2
/-- all but what stands at M is as it was -/
def Kp (M : List Addr) (H H' : Hp) : Prop := ∀ b o, b ∉ M → H b = some o → H' b = some o
theorem Kp.refl {M : List Addr} (H : Hp) : Kp M H H := fun _ _ _ h => h
theorem Kp.trans {M : List Addr} {H H1 H2 : Hp} (a : Kp M H H1) (b : Kp M H1 H2) : Kp M H H2 := fun c o n h => b c o n (a c o n h)
theorem Kp.new {M : List Addr} {H : Hp} {p : Addr} {o : HO} (h : H p = none) : Kp M H (upd H p o) := fun b u _ e => by
  rw [upd_ne (ne_of_none e h)]
  exact e
theorem Kp.put {M : List Addr} {H : Hp} {p : Addr} {o : HO} (h : p ∈ M) : Kp M H (upd H p o) := fun b u n e => by
  rw [upd_ne (fun q => n (by rw [q]; exact h))]
  exact e
theorem Kp.sub {M M' : List Addr} {H H' : Hp} (a : Kp M H H') (h : ∀ x, x ∈ M → x ∈ M') : Kp M' H H' := fun b o n e => a b o (fun z => n (h b z)) e
theorem Kp.same {H H' : Hp} (a : Kp [] H H') : Same H H' := fun b o e => a b o (by simp) e
theorem Kp.of_same {M : List Addr} {H H' : Hp} (a : Same H H') : Kp M H H' := fun b o _ e => a b o e
theorem Kp.none {M : List Addr} {H H' : Hp} (a : Kp M H H') {p : Addr} (n : p ∉ M) (h : H' p = Option.none) : H p = Option.none := by
  cases q : H p with
  | none => rfl
  | some o =>
    rw [a p o n q] at h
    cases h
/-- what was not there may be forgotten from M -/
theorem Kp.drop {M : List Addr} {H H' : Hp} {p : Addr} (a : Kp (p :: M) H H') (h : H p = Option.none) : Kp M H H' := fun b o n e => a b o (by
  intro z
  rcases List.mem_cons.mp z with z | z
  · rw [z, h] at e
    cases e
  · exact n z) e
theorem Kp.get {M : List Addr} {H H' : Hp} (a : Kp M H H') {b : Addr} {o : HO} (n : b ∉ M) (e : H b = some o) : H' b = some o := a b o n e
theorem Kp.seq {M : List Addr} {K : PySem.W.Frag} {H H' : Hp} (e : Kp M H H') {a : Addr} {xs : List V} (n : a ∉ M) (h : SqL K H a xs) : SqL K H' a xs := by
  rcases h with (h | ⟨o, h⟩) | h
  · exact .inl (.inl (e _ _ n h))
  · exact .inl (.inr ⟨o, e _ _ n h⟩)
  · exact .inr h
theorem Kp.tup {M : List Addr} {K : PySem.W.Frag} {H H' : Hp} (e : Kp M H H') {a : Addr} {xs : List V} (n : a ∉ M) (h : SqT K H a xs) : SqT K H' a xs := by
  rcases h with (h | ⟨o, h⟩) | h
  · exact .inl (.inl (e _ _ n h))
  · exact .inl (.inr ⟨o, e _ _ n h⟩)
  · exact .inr h
/-- what H0 does not know may change -/
theorem Kp.mut {M : List Addr} {H0 H H' : Hp} {l : Addr} {o : HO} (a : Kp M H0 H) (h : H0 l = Option.none) (e : H' = upd H l o) : Kp M H0 H' := fun b u n z => by
  rw [e, upd_ne (ne_of_none z h)]
  exact a b u n z
theorem Kp.then1 {M : List Addr} {H0 H H' : Hp} {l : Addr} (a : Kp M H0 H) (b : Kp [l] H H') (h : H0 l = Option.none) : Kp M H0 H' := fun c o n e => b c o (by
  intro z
  rw [List.mem_singleton.mp z, h] at e
  cases e) (a c o n e)
/-- a new instance and its dict -/
theorem Kp.made {M : List Addr} {H : Hp} {x dx : Addr} {o u : HO} (nx : H x = Option.none) (nd : H dx = Option.none) : Kp M H (upd (upd H dx u) x o) := fun c o n e => by
  rw [upd_ne (ne_of_none e nx), upd_ne (ne_of_none e nd)]
  exact e
theorem none2 {H : Hp} {x dx l : Addr} {o u : HO} (h : upd (upd H dx u) x o l = Option.none) : H l = Option.none := by
  unfold upd at h
  split at h
  · cases h
  · split at h
    · cases h
    · exact h
theorem nin1 {a b : Addr} (h : b ≠ a) : b ∉ [a] := by simpa using h
theorem nin0 {b : Addr} : b ∉ ([] : List Addr) := by simp
theorem lstL {K : PySem.W.Frag} {H : Hp} {a : Addr} {xs : List V} (h : H a = some (.lst xs)) : SqL K H a xs := .inl (.inl h)
theorem tupT {K : PySem.W.Frag} {H : Hp} {a : Addr} {xs : List V} (h : H a = some (.tup xs)) : SqT K H a xs := .inl (.inl h)

theorem cxK {CX : CXT} {P : Program} {w : World} {K : PySem.W.Frag} {mg : Str → Option Value} {base : Heap} {N : List Str} {qual : Str} {scope : Scope} {f : Addr} {cd : Value} {A : Around} {outer : List Env} {s : Shared} {H : Hp} {E : XK} : (cxOf CX P w K mg base N qual scope f cd A outer s H E).K = K := rfl
/-! named readings of rules -/
def rLenN (K : PySem.W.Frag) : List V → Hp → VK → Prop := fun xs H Q => ∃ p ys, xs = [.ref p] ∧ (SqL K H p ys ∨ SqT K H p ys) ∧ Q (.int ys.length) H
theorem c_len {X : Cx} : CallR X (.builtin "len") (rLenN X.K) := call_len_seq
def rListN (K : PySem.W.Frag) : List V → Hp → VK → Prop := fun xs H Q => ∃ p ys, xs = [.ref p] ∧ (SqL K H p ys ∨ SqT K H p ys) ∧ ∀ l, H l = none → Q (.ref l) (upd H l (.lst ys))
theorem c_list {X : Cx} : CallR X (.type "list") (rListN X.K) := call_list_of
def rTupN (K : PySem.W.Frag) : List V → Hp → VK → Prop := fun xs H Q => ∃ p ys, xs = [.ref p] ∧ ((SqL K H p ys ∧ ∀ l, H l = none → Q (.ref l) (upd H l (.tup ys))) ∨ (SqT K H p ys ∧ Q (.ref p) H))
theorem c_tuple {X : Cx} : CallR X (.type "tuple") (rTupN X.K) := call_tuple_of
def rInt1 : List V → Hp → VK → Prop := fun xs H Q => (∃ i, xs = [.int i] ∧ Q (.int i) H) ∨ ∃ k, xs = [.bl k] ∧ Q (.int (if k then 1 else 0)) H
theorem c_int {X : Cx} : CallR X (.type "int") rInt1 := call_int1
def rAbs : List V → Hp → VK → Prop := fun xs H Q => ∃ i, xs = [.int i] ∧ Q (.int (if i < 0 then -i else i)) H
theorem c_abs {X : Cx} : CallR X (.builtin "abs") rAbs := call_abs
def rIsN : R2 := fun x y H Q => y = .non ∧ Q (.bl (decide (x = .non))) H
theorem o_isN {X : Cx} : OpR X (compareOp .Is) rIsN := op_isN
def rNotN : R2 := fun x y H Q => y = .non ∧ Q (.bl (!decide (x = .non))) H
theorem o_notN {X : Cx} : OpR X (compareOp .IsNot) rNotN := op_notN
def rAddS : R2 := fun x y H Q => ∃ i j, x = .str i ∧ y = .str j ∧ i.length + j.length ≤ sizeLine ∧ Q (.str (i ++ j)) H
theorem o_addS {X : Cx} : OpR X (binaryOp .Add) rAddS := op_add_str
def rInSg : R2 := fun x y H Q => ∃ (c : Nat) (z : Str), x = .str ⟨#[c]⟩ ∧ y = .str z ∧ Q (.bl (decide (c ∈ z.cps.toList))) H
theorem o_inSg {X : Cx} : OpR X (compareOp .In) rInSg := op_in_sign
def rNinSg : R2 := fun x y H Q => ∃ (c : Nat) (z : Str), x = .str ⟨#[c]⟩ ∧ y = .str z ∧ Q (.bl (!decide (c ∈ z.cps.toList))) H
theorem o_ninSg {X : Cx} : OpR X (compareOp .NotIn) rNinSg := op_notIn_sign
/-- // by a divisor of any sign -/
def CDivA (_ j : Int) : Prop := j ≠ 0 ∧ j.natAbs.log2 < 9000
theorem op_fdivA {X : Cx} : OpR X (binaryOp .FloorDiv) (rI CDivA fun i j => .int (i.fdiv j)) := opI fun i j _ _ _ _ _ hc q => PyProof.Rows.floordiv_int hc.1 q (.inl (PyProof.noPylong_of_log2 hc.2))
theorem divA {i j : Int} {b : Nat} (h : j ≠ 0) (hb : j.natAbs < 2 ^ b) (h0 : 0 < b) (h9 : b ≤ 9000) : CDivA i j := ⟨h, Nat.lt_of_lt_of_le (PySem.Flt.log2_lt_of h0 hb) h9⟩
def rLenS : List V → Hp → VK → Prop := fun xs H Q => ∃ x : Str, xs = [.str x] ∧ x.cps.size ≤ 10000000 ∧ Q (.int (x.cps.size : Nat)) H
theorem c_lens {X : Cx} : CallR X (.builtin "len") rLenS := fun pins s σ H xs us Q I r h => call_len pins s σ H xs us Q I r (by obtain ⟨x, rfl, hz, q⟩ := h; exact ⟨.str x, _, rfl, ⟨Nat.le_trans hz (by decide), rfl⟩, q⟩)
def rPopQ : V → List V → Hp → VK → Prop := rPop
section
variable {σ : St} {H : Hp} {Q : VK} {v x y : V} {ta tb tc te : TE} {tA : TT} {D : Ends} {t u ts : TS} {r : R2} {K : PySem.W.Frag} {i : Nat} {A B : Prop}
/-! values -/
theorem var (h : σ[i]? = some (some v)) (q : Q v H) : tVar i σ H Q := ⟨v, h, q⟩
theorem cst (q : Q v H) : tC v σ H Q := q
theorem op (h : ta σ H fun x H1 => tb σ H1 fun y H2 => r x y H2 Q) : tOp r ta tb σ H Q := h
theorem un {r : V → Hp → VK → Prop} (h : ta σ H fun x H1 => r x H1 Q) : tUn r ta σ H Q := h
theorem i0 {g : Int → Int → V} {a b : Int} (q : Q (g a b) H) : rI0 g (.int a) (.int b) H Q := ⟨a, b, rfl, rfl, q⟩
theorem iC {C : Int → Int → Prop} {g : Int → Int → V} {a b : Int} (c : C a b) (q : Q (g a b) H) : rI C g (.int a) (.int b) H Q := ⟨a, b, rfl, rfl, c, q⟩
theorem iU {g : Int → V} {a : Int} (q : Q (g a) H) : rU g (.int a) H Q := ⟨a, rfl, q⟩
theorem eqII {a b : Int} (q : Q (.bl (decide (a = b))) H) : rEq (.int a) (.int b) H Q := ⟨rfl, by
  have e : decide (V.int a = V.int b) = decide (a = b) := by simp
  rw [e]; exact q⟩
theorem neII {a b : Int} (q : Q (.bl (!decide (a = b))) H) : rNe (.int a) (.int b) H Q := ⟨rfl, by
  have e : decide (V.int a = V.int b) = decide (a = b) := by simp
  rw [e]; exact q⟩
theorem eqSS {a b : Str} (q : Q (.bl (decide (a = b))) H) : rEq (.str a) (.str b) H Q := ⟨rfl, by
  have e : decide (V.str a = V.str b) = decide (a = b) := by simp
  rw [e]; exact q⟩
theorem neSS {a b : Str} (q : Q (.bl (!decide (a = b))) H) : rNe (.str a) (.str b) H Q := ⟨rfl, by
  have e : decide (V.str a = V.str b) = decide (a = b) := by simp
  rw [e]; exact q⟩
theorem eqBB {a b : Bool} (q : Q (.bl (decide (a = b))) H) : rEq (.bl a) (.bl b) H Q := ⟨rfl, by
  have e : decide (V.bl a = V.bl b) = decide (a = b) := by simp
  rw [e]; exact q⟩
theorem neBB {a b : Bool} (q : Q (.bl (!decide (a = b))) H) : rNe (.bl a) (.bl b) H Q := ⟨rfl, by
  have e : decide (V.bl a = V.bl b) = decide (a = b) := by simp
  rw [e]; exact q⟩
theorem bl {b : Bool} {q : Bool → Hp → Prop} (h : q b H) : ∃ k, V.bl b = .bl k ∧ q k H := ⟨b, rfl, h⟩
theorem bl' {b : Bool} {q : Bool → Prop} (h : q b) : ∃ k, V.bl b = .bl k ∧ q k := ⟨b, rfl, h⟩
theorem test {Q : Bool → Hp → Prop} (h : te σ H fun x H' => ∃ k, x = .bl k ∧ Q k H') : tTest te σ H Q := h
theorem tbb {Q : Bool → Hp → Prop} (h : te σ H fun x H' => ∃ k, x = .bl k ∧ Q k H') : tB te σ H Q := h
theorem tand {a b : TT} {Q : Bool → Hp → Prop} (h : a σ H fun c H1 => if c = true then b σ H1 Q else Q false H1) : tAnd a b σ H Q := h
theorem tor {a b : TT} {Q : Bool → Hp → Prop} (h : a σ H fun c H1 => if c = true then Q true H1 else b σ H1 Q) : tOr a b σ H Q := h
theorem tnot {a : TT} {Q : Bool → Hp → Prop} (h : a σ H fun c H1 => Q (!c) H1) : tNot a σ H Q := h
theorem tyes {Q : Bool → Hp → Prop} (h : Q true H) : tYes σ H Q := h
theorem andV (h : ta σ H fun x H1 => ∃ c, x = .bl c ∧ if c = true then tb σ H1 Q else Q (.bl false) H1) : tAndV ta tb σ H Q := h
theorem orV (h : ta σ H fun x H1 => ∃ c, x = .bl c ∧ if c = true then Q (.bl true) H1 else tb σ H1 Q) : tOrV ta tb σ H Q := h
theorem notV (h : ta σ H fun x H1 => ∃ c, x = .bl c ∧ Q (.bl (!c)) H1) : tNotV ta σ H Q := h
theorem ifE (h : tA σ H fun c H1 => if c = true then ta σ H1 Q else tb σ H1 Q) : L2.tIf tA ta tb σ H Q := h
theorem chain {r r' : R2} (h : ta σ H fun x H1 => tb σ H1 fun y H2 => r x y H2 fun z H3 => ∃ k, z = .bl k ∧ (if k = true then tc σ H3 fun w' H4 => r' y w' H4 Q else Q (.bl false) H3)) : tChain r r' ta tb tc σ H Q := h
/-! branches -/
theorem ite {p : Prop} [Decidable p] (h1 : p → A) (h2 : ¬p → B) : if decide p = true then A else B := by
  by_cases h : p
  · rw [decide_eq_true h, if_pos rfl]; exact h1 h
  · rw [decide_eq_false h, if_neg Bool.false_ne_true]; exact h2 h
theorem iteN {p : Prop} [Decidable p] (h1 : ¬p → A) (h2 : p → B) : if (!decide p) = true then A else B := by
  by_cases h : p
  · rw [decide_eq_true h]; exact h2 h
  · rw [decide_eq_false h]; exact h1 h
theorem iteB {b : Bool} (h1 : b = true → A) (h2 : b = false → B) : if b = true then A else B := by
  cases b with
  | true => exact h1 rfl
  | false => exact h2 rfl
theorem yes {p : Prop} [Decidable p] (h : p) (q : A) : if decide p = true then A else B := by rw [decide_eq_true h, if_pos rfl]; exact q
theorem no {p : Prop} [Decidable p] (h : ¬p) (q : B) : if decide p = true then A else B := by rw [decide_eq_false h, if_neg Bool.false_ne_true]; exact q
theorem yesN {p : Prop} [Decidable p] (h : ¬p) (q : A) : if (!decide p) = true then A else B := by rw [decide_eq_false h]; exact q
theorem noN {p : Prop} [Decidable p] (h : p) (q : B) : if (!decide p) = true then A else B := by rw [decide_eq_true h]; exact q
theorem yesB (q : A) : if true = true then A else B := q
theorem noNB (q : B) : if (!true) = true then A else B := q
theorem yesNB (q : A) : if (!false) = true then A else B := q
theorem noB (q : B) : if false = true then A else B := q
/-! calls -/
theorem nil {Q : List V → Hp → Prop} (q : Q [] H) : tNil σ H Q := q
theorem cons {Q : List V → Hp → Prop} {tr : TA} (h : ta σ H fun x H1 => tr σ H1 fun xs H2 => Q (x :: xs) H2) : tCons ta tr σ H Q := h
theorem cb {r : List V → Hp → VK → Prop} {a : TA} (h : a σ H fun vs H1 => r vs H1 Q) : tCB r a σ H Q := h
theorem call {sp : Sp} {dvs : List V} {E : XK} {a : TA} (h : a σ H fun vs H1 => sp (vs ++ dvs) H1 Q E) : tCall sp dvs E a σ H Q := h
theorem meth {C : Addr} {m : Str} {sp : Sp} {dvs : List V} {E : XK} {a : TA} (h : ta σ H fun x H1 => ∃ p dx fs, x = .ref p ∧ H1 p = some (.ins C dx fs) ∧ fs.lookup m = none ∧ a σ H1 fun vs H2 => sp (x :: (vs ++ dvs)) H2 Q E) : tMeth C m sp dvs E ta a σ H Q := h
theorem fld {f : Str} (h : ta σ H fun x H1 => ∃ a C dx fs v, x = .ref a ∧ H1 a = some (.ins C dx fs) ∧ Cls K C ∧ NoAttr K C f ∧ fs.lookup f = some v ∧ Q v H1) : tFld K ta f σ H Q := h
theorem int1 {a : Int} (q : Q (.int a) H) : rInt1 [.int a] H Q := .inl ⟨a, rfl, q⟩
theorem intb {b : Bool} (q : Q (.int (if b then 1 else 0)) H) : rInt1 [.bl b] H Q := .inr ⟨b, rfl, q⟩
theorem abs1 {a : Int} (q : Q (.int (if a < 0 then -a else a)) H) : rAbs [.int a] H Q := ⟨a, rfl, q⟩
theorem isN (q : Q (.bl (decide (x = .non))) H) : rIsN x .non H Q := ⟨rfl, q⟩
theorem notN (q : Q (.bl (!decide (x = .non))) H) : rNotN x .non H Q := ⟨rfl, q⟩
theorem addS {a b : Str} (h : a.length + b.length ≤ sizeLine) (q : Q (.str (a ++ b)) H) : rAddS (.str a) (.str b) H Q := ⟨a, b, rfl, rfl, h, q⟩
theorem inSg {c : Nat} {z : Str} (q : Q (.bl (decide (c ∈ z.cps.toList))) H) : rInSg (.str ⟨#[c]⟩) (.str z) H Q := ⟨c, z, rfl, rfl, q⟩
theorem ninSg {c : Nat} {z : Str} (q : Q (.bl (!decide (c ∈ z.cps.toList))) H) : rNinSg (.str ⟨#[c]⟩) (.str z) H Q := ⟨c, z, rfl, rfl, q⟩
/-- a new object -/
theorem new {o : HO} (h : ∀ p, H p = none → Q (.ref p) (upd H p o)) : ∀ p, H p = none → Q (.ref p) (upd H p o) := h
def TupN (Q : VK) (xs : List V) (H1 : Hp) : Prop := xs.length ≤ sizeLine ∧ ∀ p, H1 p = none → Q (.ref p) (upd H1 p (.tup xs))
def LstN (Q : VK) (xs : List V) (H1 : Hp) : Prop := xs.length ≤ sizeLine ∧ ∀ p, H1 p = none → Q (.ref p) (upd H1 p (.lst xs))
theorem tup {a : TA} (h : a σ H (TupN Q)) : tTup a σ H Q := h
theorem lst {a : TA} (h : a σ H (LstN Q)) : tLst a σ H Q := h
/-- a new object, the heap behind it a letter -/
theorem mk {o : HO} {H0 : Hp} {R : Addr → Hp → Prop} (h : ∀ p H1, H0 p = none → Kp [] H0 H1 → H1 p = some o → R p H1) : ∀ p, H0 p = none → R p (upd H0 p o) := fun p n => h p _ n (Kp.new n) upd_same
theorem tupK {xs : List V} (q : ∀ p H1, H p = none → Kp [] H H1 → H1 p = some (.tup xs) → Q (.ref p) H1) (h : xs.length ≤ 100000 := by simp) : TupN Q xs H := ⟨Nat.le_trans h (by decide), mk q⟩
theorem lstK {xs : List V} (q : ∀ p H1, H p = none → Kp [] H H1 → H1 p = some (.lst xs) → Q (.ref p) H1) (h : xs.length ≤ 100000 := by simp) : LstN Q xs H := ⟨Nat.le_trans h (by decide), mk q⟩
theorem sz {n m : Nat} (h : n ≤ m) (hm : m ≤ 10000000 := by decide) : n ≤ sizeLine := Nat.le_trans h (Nat.le_trans hm (by decide))
theorem szl {n m : Nat} (h : n ≤ m) (hm : m ≤ 10000000 := by decide) : n < sizeLine := Nat.lt_of_le_of_lt (Nat.le_trans h hm) (by decide)
/-! subscripts -/
theorem ixL {p : Addr} {xs : List V} {j : Int} (h : SqL K H p xs) (e : atI xs j = some v) (q : Q v H) : rIxL K (.ref p) (.int j) H Q := ⟨p, xs, j, v, rfl, rfl, h, e, q⟩
theorem ixT {p : Addr} {xs : List V} {j : Int} (h : SqT K H p xs) (e : atI xs j = some v) (q : Q v H) : rIxT K (.ref p) (.int j) H Q := ⟨p, xs, j, v, rfl, rfl, h, e, q⟩
theorem setL {p : Addr} {xs : List V} {k : Int} {j : Nat} {v : V} {q : Hp → Prop} (h : H p = some (.lst xs)) (e : ixN xs.length k = some j) (hq : q (upd H p (.lst (xs.set j v)))) : rSetL (.ref p) (.int k) v H q := ⟨p, xs, k, j, rfl, rfl, h, e, hq⟩
theorem gsub {to ti : TE} {t : TSet} {Q : St → Hp → Prop} (h : to σ H fun o H1 => ti σ H1 fun i H2 => t o i v H2 fun H3 => Q σ H3) : gSub to ti t v σ H Q := h
/-! statements -/
/-- a statement whose ways join ahead of the rest -/
def tSeqJ (t u : TS) : TS := tSeq t u
theorem pss_consJ {X : Cx} {st : Stmt} {rest : List Stmt} {t u : TS} (h1 : PS X st t) (h2 : PSs X rest u) : PSs X (st :: rest) (tSeqJ t u) := pss_cons h1 h2
theorem seqJ (J : St → Hp → Prop) (h2 : ∀ σ H, J σ H → u D σ H) (h1 : ∀ N : St → Hp → Prop, (∀ σ H, J σ H → N σ H) → t { D with nx := N } σ H) : tSeqJ t u D σ H := h1 (u D) h2
theorem seqJ' (h : tSeq t u D σ H) : tSeqJ t u D σ H := h
theorem seq (h : t { D with nx := u D } σ H) : tSeq t u D σ H := h
theorem asg {g : TG} (h : te σ H fun x H1 => g x σ H1 D.nx) : tAsg te g D σ H := h
theorem gname {Q : St → Hp → Prop} {σ' : St} (e : σ.set i (some v) = σ') (h : Q σ' H) : gName i v σ H Q := by
  subst e; exact h
def ParK (i j : Nat) (D : Ends) (σ : St) (vs : List V) (H1 : Hp) : Prop := ∃ v w, vs = [v, w] ∧ D.nx ((σ.set i (some v)).set j (some w)) H1
theorem par {i j : Nat} {a : TA} (h : a σ H (ParK i j D σ)) : tPar i j a D σ H := h
theorem par2 {i j : Nat} {v w : V} {σ' : St} (e : (σ.set i (some v)).set j (some w) = σ') (h : D.nx σ' H) : ParK i j D σ [v, w] H := ⟨v, w, rfl, by rw [e]; exact h⟩
theorem aug {ti : TIp} {x : V} (e : σ[i]? = some (some x)) (h : te σ H fun y H1 => ti x y H1 fun z H2 => D.nx (σ.set i (some z)) H2) : tAug i te ti D σ H := ⟨x, e, h⟩
theorem ipI' {f : Int → Int → Int} {a b : Int} (q : Q (.int (f a b)) H) : ipI f (.int a) (.int b) H Q := ⟨a, b, rfl, rfl, q⟩
theorem ifs {c : TT} (h : c σ H fun b H1 => if b = true then t D σ H1 else u D σ H1) : tIfS c t u D σ H := h
theorem ret (h : te σ H D.rt) : tRet te D σ H := h
theorem retN (h : D.rt .non H) : tRetN D σ H := h
theorem next (h : D.nx σ H) : tNext D σ H := h
theorem brk (h : D.bk σ H) : tBreak D σ H := h
theorem drop (h : te σ H fun _ H1 => D.nx σ H1) : tDrop te D σ H := h
theorem bm {T : String} {r : V → List V → Hp → VK → Prop} {to : TE} {a : TA} (h : to σ H fun x H1 => tyV K T x H1 ∧ a σ H1 fun xs H2 => r x xs H2 Q) : tBM K T r to a σ H Q := h
theorem bm0 {T : String} {r : V → List V → Hp → VK → Prop} {to : TE} (h : to σ H fun x H1 => tyV K T x H1 ∧ r x [] H1 Q) : tBM0 K T r to σ H Q := h
theorem app {l : Addr} {xs : List V} {y : V} (h : H l = some (.lst xs)) (z : xs.length < sizeLine) (q : Q .non (upd H l (.lst (xs ++ [y])))) : rAppend (.ref l) [y] H Q := ⟨l, xs, y, rfl, rfl, h, z, q⟩
theorem tyL {p : Addr} {xs : List V} (h : H p = some (.lst xs)) : tyV K "list" (.ref p) H := .inl ⟨rfl, _, SqL.of h⟩
theorem sfld {tv : TE} {f : Str} (h : tv σ H fun y H1 => ta σ H1 fun x H2 => ∃ a C dx fs, x = .ref a ∧ H2 a = some (.ins C dx fs) ∧ Cls K C ∧ NoAttr K C f ∧ fs.length < 1000 ∧ D.nx σ (upd H2 a (.ins C dx (putF f y fs)))) : sFld K ta tv f D σ H := h
theorem sfldaug {tv : TE} {rd : V → V → Hp → VK → Prop} {f : Str} (h : ta σ H fun x H1 => ∃ a C dx fs v, x = .ref a ∧ H1 a = some (.ins C dx fs) ∧ Cls K C ∧ NoAttr K C f ∧ fs.lookup f = some v ∧ tv σ H1 fun y H2 => rd v y H2 fun z H3 => ∃ dx' fs', H3 a = some (.ins C dx' fs') ∧ fs'.length < 1000 ∧ D.nx σ (upd H3 a (.ins C dx' (putF f z fs')))) : sFldAug K ta tv rd f D σ H := h
theorem radd {a b : Int} (q : Q (.int (a + b)) H) : rAdd (.int a) (.int b) H Q := ⟨a, b, rfl, rfl, q⟩
theorem make {C : Addr} {sp : Sp} {dvs : List V} {E : XK} {a : TA} (h : a σ H fun vs H1 => ∀ x dx, H1 x = none → H1 dx = none → dx ≠ x → sp (.ref x :: (vs ++ dvs)) (upd (upd H1 dx (.own x)) x (.ins C dx [])) (fun v H2 => v = .non ∧ Q (.ref x) H2) E) : tMake C sp dvs E a σ H Q := h
/-- while -/
def WhB (W : Nat → St → Hp → Prop) (m : Nat) (tb : TS) (D : Ends) (σ : St) (H1 : Hp) : Prop := ∃ N : St → Hp → Prop, (∀ σ' H', N σ' H' → ∃ m', m' < m ∧ W m' σ' H') ∧ tb { D with nx := N, ct := N, bk := D.nx } σ H1
theorem whb {W : Nat → St → Hp → Prop} {m : Nat} {tb : TS} (h : tb { D with nx := fun σ' H' => ∃ m', m' < m ∧ W m' σ' H', ct := fun σ' H' => ∃ m', m' < m ∧ W m' σ' H', bk := D.nx } σ H) : WhB W m tb D σ H := ⟨_, fun _ _ z => z, h⟩
theorem wh {c : TT} {tb : TS} (W : Nat → St → Hp → Prop) (m : Nat) (h0 : W m σ H) (hs : ∀ m σ H, W m σ H → c σ H fun b H1 => if b = true then WhB W m tb D σ H1 else D.nx σ H1) : tWhile c tb D σ H := ⟨W, ⟨m, h0⟩, hs⟩
/-- calls by values -/
theorem sumL {a : Addr} {ns : List Int} (h : SqL K H a (ns.map V.int)) (q : Q (.int ns.sum) H) : rSum K [.ref a] H Q := ⟨a, ns, rfl, h, q⟩
theorem gcd {a b : Int} (q : Q (.int ((Nat.gcd a.natAbs b.natAbs : Nat) : Int)) H) : rGcd [.int a, .int b] H Q := ⟨a, b, rfl, q⟩
theorem mkN {C : Addr} {sp : Sp} {Q : XK} (h : ∀ a, H a = none → sp [.ref a] (upd H a (exo a C none)) (fun v H2 => v = .non ∧ H2 a = some (exo a C none) ∧ Q (.ref C) none (del H2 a)) (fun _ _ _ => False)) : Sup.tMkN C sp σ H Q := h
theorem gtup {n : Nat} {t : TGs} {a : Addr} {xs : List V} {Q : St → Hp → Prop} (h : SqT K H a xs) (e : xs.length = n) (q : t xs σ H Q) : gTup K n t (.ref a) σ H Q := ⟨a, xs, rfl, h, e, q⟩
theorem gcons {t : TG} {u : TGs} {v : V} {r : List V} {Q : St → Hp → Prop} (q : t v σ H fun σ' H' => u r σ' H' Q) : gCons t u (v :: r) σ H Q := ⟨v, r, rfl, q⟩
theorem gnil {Q : St → Hp → Prop} (q : Q σ H) : gNil [] σ H Q := ⟨rfl, q⟩
theorem lenL {a : Addr} {xs : List V} (h : SqL K H a xs) (q : Q (.int xs.length) H) : rLenN K [.ref a] H Q := ⟨a, xs, rfl, .inl h, q⟩
theorem lenT {a : Addr} {xs : List V} (h : SqT K H a xs) (q : Q (.int xs.length) H) : rLenN K [.ref a] H Q := ⟨a, xs, rfl, .inr h, q⟩
theorem listL {a : Addr} {xs : List V} (h : SqL K H a xs) (q : ∀ p H1, H p = none → Kp [] H H1 → H1 p = some (.lst xs) → Q (.ref p) H1) : rListN K [.ref a] H Q := ⟨a, xs, rfl, .inl h, mk q⟩
theorem isi {A B : String} {x : V} {b : Bool} (ht : TyX K H x (.type A)) (hk : kitB A B = some b) (q : Q (.bl b) H) : rIsi K [x, .ty B] H Q := ⟨x, _, _, _, b, rfl, .ty _, ht, kit_ty hk, q⟩
theorem isiI {B : String} {a : Int} {b : Bool} (hk : kitB "int" B = some b) (q : Q (.bl b) H) : rIsi K [.int a, .ty B] H Q := isi (.base (.int _)) hk q
theorem atM {ns : List Int} {j : Nat} {x : Int} (h : ns[j]? = some x) : atI (ns.map V.int) (j : Int) = some (.int x) := atI_nat (by rw [List.getElem?_map, h]; rfl)
theorem ixN_nat {n j : Nat} (hj : j < n) : ixN n (j : Int) = some j := by
  unfold ixN
  rw [if_pos (by omega), if_pos (by omega)]
  simp
/-- a comprehension, a loop over range(n), over a list -/
def ForK (g : TG) (tb : TS) (D : Ends) (σ : St) (J : It) (H1 : Hp) : Prop := ∃ W : Nat → Nat → St → Hp → Prop, (∃ m, W 0 m σ H1) ∧ ∀ i m σ H, W i m σ H →
  (J.stop i H ∧ D.nx σ H) ∨ (J.go i H ∧ ∃ N : St → Hp → Prop, (∀ σ' H', N σ' H' → ∃ m', m' < m ∧ W (i + 1) m' σ' H') ∧ ∀ x H', J.yld i H x H' → g x σ H' fun σ2 H2 => tb { D with nx := N, ct := N, bk := D.nx } σ2 H2)
def LcK (g : TG) (tt : TT) (te : TE) (vs : List Nat) (σ : St) (Q : VK) (J : It) (H1 : Hp) : Prop := ∀ D, H1 D = none → ∃ W : Nat → Nat → Hp → Prop, (∃ m, W 0 m (upd H1 D (.lst []))) ∧ ∀ i m H, W i m H →
      (J.stop i H ∧ Q (.ref D) H) ∨ (J.go i H ∧ ∃ Nx : Hp → Prop, (∀ H', Nx H' → ∃ m', m' < m ∧ W (i + 1) m' H') ∧ ∀ x H', J.yld i H x H' → g x (wipe σ vs) H' fun σ2 H2 => wipe σ2 vs = wipe σ vs ∧ tt σ2 H2 fun b H3 => if b = true then te σ2 H3 fun y H4 => ∃ acc, H4 D = some (.lst acc) ∧ acc.length < sizeLine ∧ Nx (upd H4 D (.lst (acc ++ [y]))) else Nx H3)
def Rng1K (R : It → Hp → Prop) (vs : List V) (H1 : Hp) : Prop := ∃ j : Int, vs = [.int j] ∧ -(2 ^ 62) ≤ j ∧ j < 2 ^ 62 ∧ R (Itr 0 j.toNat) H1
def ListK (K : PySem.W.Frag) (R : It → Hp → Prop) (x : V) (H1 : Hp) : Prop := ∃ a, x = .ref a ∧ (∃ xs, SqL K H1 a xs) ∧ R (Itl K a) H1
theorem lc {wi : TI} {g : TG} {tt : TT} {vs : List Nat} (h : wi σ H (LcK g tt te vs σ Q)) : tLc wi g tt te vs σ H Q := h
theorem rng1 {a : TA} {R : It → Hp → Prop} (h : a σ H (Rng1K R)) : iRng1 a σ H R := h
theorem ilist {R : It → Hp → Prop} (h : ta σ H (ListK K R)) : iList K ta σ H R := h
theorem for_ {wi : TI} {g : TG} {tb : TS} (h : wi σ H (ForK g tb D σ)) : tFor wi g tb D σ H := h
/-- what one turn of a comprehension asks -/
def LcT (g : TG) (tt : TT) (te : TE) (vs : List Nat) (σ : St) (D : Addr) (P : Hp → Prop) (x : V) (H1 : Hp) : Prop := g x (wipe σ vs) H1 fun σ2 H2 => wipe σ2 vs = wipe σ vs ∧ tt σ2 H2 fun b H3 => if b = true then te σ2 H3 fun y H4 => ∃ acc, H4 D = some (.lst acc) ∧ acc.length < sizeLine ∧ P (upd H4 D (.lst (acc ++ [y]))) else P H3
theorem lcr {g : TG} {tt : TT} {vs : List Nat} {e : Int} (n : Nat) (he : e = (n : Int)) (hb : n < 4611686018427387904) (Pv : Addr → Nat → Hp → Prop) (h0 : ∀ D H1, H D = none → Kp [] H H1 → H1 D = some (.lst []) → Pv D 0 H1)
    (hs : ∀ D i H1, H D = none → i < n → Pv D i H1 → g (.int (i : Int)) (wipe σ vs) H1 fun σ2 H2 => wipe σ2 vs = wipe σ vs ∧ tt σ2 H2 fun b H3 => if b = true then te σ2 H3 fun y H4 => ∃ acc, H4 D = some (.lst acc) ∧ acc.length < sizeLine ∧ Pv D (i + 1) (upd H4 D (.lst (acc ++ [y]))) else Pv D (i + 1) H3)
    (hd : ∀ D H1, H D = none → Pv D n H1 → Q (.ref D) H1) : Rng1K (LcK g tt te vs σ Q) [.int e] H := by
  subst he
  refine ⟨(n : Int), rfl, by omega, by omega, fun D hD => ?_⟩
  rw [show ((n : Int)).toNat = n by simp]
  refine lc_range (lo := 0) (n := n) (Pv D) (h0 D _ hD (Kp.new hD) upd_same) (fun i H1 hi p => ?_) fun H1 p => hd D H1 hD p
  rw [show (0 : Int) + (i : Int) = (i : Int) by omega]
  exact hs D i H1 hD hi p
theorem lcl {g : TG} {tt : TT} {vs : List Nat} {a : Addr} (xs : List V) (hS : SqL K H a xs) (Pv : Addr → Nat → Hp → Prop) (h0 : ∀ D H1, H D = none → Kp [] H H1 → H1 D = some (.lst []) → Pv D 0 H1)
    (hl : ∀ D i H1, H D = none → i ≤ xs.length → Pv D i H1 → SqL K H1 a xs)
    (hs : ∀ D i x H1, H D = none → xs[i]? = some x → Pv D i H1 → g x (wipe σ vs) H1 fun σ2 H2 => wipe σ2 vs = wipe σ vs ∧ tt σ2 H2 fun b H3 => if b = true then te σ2 H3 fun y H4 => ∃ acc, H4 D = some (.lst acc) ∧ acc.length < sizeLine ∧ Pv D (i + 1) (upd H4 D (.lst (acc ++ [y]))) else Pv D (i + 1) H3)
    (hd : ∀ D H1, H D = none → Pv D xs.length H1 → Q (.ref D) H1) : ListK K (LcK g tt te vs σ Q) (.ref a) H :=
  ⟨a, rfl, ⟨xs, hS⟩, fun D hD => lc_list (K := K) (a := a) (xs := xs) (Pv D) (h0 D _ hD (Kp.new hD) upd_same) (fun i H1 hi p => hl D i H1 hD hi p) (fun i x H1 hx p => hs D i x H1 hD hx p) fun H1 p => hd D H1 hD p⟩
/-- over a tuple -/
def TupK (K : PySem.W.Frag) (R : It → Hp → Prop) (x : V) (H1 : Hp) : Prop := ∃ a, x = .ref a ∧ (∃ xs, SqT K H1 a xs) ∧ R (Itt K a) H1
theorem itup {R : It → Hp → Prop} (h : ta σ H (TupK K R)) : iTup K ta σ H R := h
theorem lct {g : TG} {tt : TT} {vs : List Nat} {a : Addr} (xs : List V) (hS : SqT K H a xs) (Pv : Addr → Nat → Hp → Prop) (h0 : ∀ D H1, H D = none → Kp [] H H1 → H1 D = some (.lst []) → Pv D 0 H1)
    (hl : ∀ D i H1, H D = none → i ≤ xs.length → Pv D i H1 → SqT K H1 a xs)
    (hs : ∀ D i x H1, H D = none → xs[i]? = some x → Pv D i H1 → g x (wipe σ vs) H1 fun σ2 H2 => wipe σ2 vs = wipe σ vs ∧ tt σ2 H2 fun b H3 => if b = true then te σ2 H3 fun y H4 => ∃ acc, H4 D = some (.lst acc) ∧ acc.length < sizeLine ∧ Pv D (i + 1) (upd H4 D (.lst (acc ++ [y]))) else Pv D (i + 1) H3)
    (hd : ∀ D H1, H D = none → Pv D xs.length H1 → Q (.ref D) H1) : TupK K (LcK g tt te vs σ Q) (.ref a) H :=
  ⟨a, rfl, ⟨xs, hS⟩, fun D hD => lc_tup (K := K) (a := a) (xs := xs) (Pv D) (h0 D _ hD (Kp.new hD) upd_same) (fun i H1 hi p => hl D i H1 hD hi p) (fun i x H1 hx p => hs D i x H1 hD hx p) fun H1 p => hd D H1 hD p⟩
theorem allL {a : Addr} {bs : List Bool} (h : SqL K H a (bs.map V.bl)) (q : Q (.bl (bs.all id)) H) : rAll K [.ref a] H Q := ⟨a, bs, rfl, h, q⟩
theorem anyL {a : Addr} {bs : List Bool} (h : SqL K H a (bs.map V.bl)) (q : Q (.bl (bs.any id)) H) : rAny K [.ref a] H Q := ⟨a, bs, rfl, h, q⟩
theorem forr {g : TG} {tb : TS} {e : Int} (n : Nat) (he : e = (n : Int)) (hb : n < 4611686018427387904) (Pv : Nat → St → Hp → Prop) (h0 : Pv 0 σ H)
    (hs : ∀ i σ H, i < n → Pv i σ H → g (.int (i : Int)) σ H fun σ2 H2 => tb { D with nx := Pv (i + 1), ct := Pv (i + 1), bk := D.nx } σ2 H2) (hd : ∀ σ H, Pv n σ H → D.nx σ H) : Rng1K (ForK g tb D σ) [.int e] H := by
  subst he
  refine ⟨(n : Int), rfl, by omega, by omega, ?_⟩
  rw [show ((n : Int)).toNat = n by simp]
  refine for_range (lo := 0) (n := n) Pv h0 (fun i σ H1 hi p => ?_) hd
  rw [show (0 : Int) + (i : Int) = (i : Int) by omega]
  exact hs i σ H1 hi p
theorem forl {g : TG} {tb : TS} {a : Addr} (xs : List V) (hS : SqL K H a xs) (Pv : Nat → St → Hp → Prop) (h0 : Pv 0 σ H) (hl : ∀ i σ H, i ≤ xs.length → Pv i σ H → SqL K H a xs)
    (hs : ∀ i x σ H, xs[i]? = some x → Pv i σ H → g x σ H fun σ2 H2 => tb { D with nx := Pv (i + 1), ct := Pv (i + 1), bk := D.nx } σ2 H2) (hd : ∀ σ H, Pv xs.length σ H → D.nx σ H) : ListK K (ForK g tb D σ) (.ref a) H :=
  ⟨a, rfl, ⟨xs, hS⟩, for_list (K := K) (a := a) (xs := xs) Pv h0 hl hs hd⟩
/-! texts -/
def StrK (R : It → Hp → Prop) (v : V) (H1 : Hp) : Prop := ∃ x, v = .str x ∧ R (Its x) H1
theorem istr {R : It → Hp → Prop} (h : ta σ H (StrK R)) : iStr ta σ H R := h
theorem fors {g : TG} {tb : TS} {x : Str} (Pv : Nat → St → Hp → Prop) (h0 : Pv 0 σ H)
    (hs : ∀ i c σ H, x.cps[i]? = some c → Pv i σ H → g (.str ⟨#[c]⟩) σ H fun σ2 H2 => tb { D with nx := Pv (i + 1), ct := Pv (i + 1), bk := D.nx } σ2 H2) (hd : ∀ σ H, Pv x.cps.size σ H → D.nx σ H) : StrK (ForK g tb D σ) (.str x) H :=
  ⟨x, rfl, for_it walk_str Pv h0 (fun _ _ _ _ _ => trivial) (fun i v σ H H' hi p y => by obtain ⟨rfl, c, hc, rfl⟩ := y; exact hs i c σ _ hc p) hd⟩
theorem lcs {g : TG} {tt : TT} {vs : List Nat} {x : Str} (Pv : Addr → Nat → Hp → Prop) (h0 : ∀ D H1, H D = none → Kp [] H H1 → H1 D = some (.lst []) → Pv D 0 H1)
    (hs : ∀ D i c H1, H D = none → x.cps[i]? = some c → Pv D i H1 → g (.str ⟨#[c]⟩) (wipe σ vs) H1 fun σ2 H2 => wipe σ2 vs = wipe σ vs ∧ tt σ2 H2 fun b H3 => if b = true then te σ2 H3 fun y H4 => ∃ acc, H4 D = some (.lst acc) ∧ acc.length < sizeLine ∧ Pv D (i + 1) (upd H4 D (.lst (acc ++ [y]))) else Pv D (i + 1) H3)
    (hd : ∀ D H1, H D = none → Pv D x.cps.size H1 → Q (.ref D) H1) : StrK (LcK g tt te vs σ Q) (.str x) H :=
  ⟨x, rfl, fun D hD => lc_it walk_str (Pv D) (h0 D _ hD (Kp.new hD) upd_same) (fun _ _ _ _ => trivial) (fun i v H H' hi p y => by obtain ⟨rfl, c, hc, rfl⟩ := y; exact hs D i c _ hD hc p) fun H1 p => hd D H1 hD p⟩
theorem lenS {x : Str} (hz : x.cps.size ≤ 10000000) (q : Q (.int (x.cps.size : Nat)) H) : rLenS [.str x] H Q := ⟨x, rfl, hz, q⟩
/-! enumerate -/
def EnumK (K : PySem.W.Frag) (R : It → Hp → Prop) (vs : List V) (H1 : Hp) : Prop := ∃ a xs, vs = [.ref a] ∧ SqL K H1 a xs ∧ R (Ite K a) H1
theorem ienum {a : TA} {R : It → Hp → Prop} (h : a σ H (EnumK K R)) : iEnum K a σ H R := h
theorem fore {g : TG} {tb : TS} {a : Addr} (xs : List V) (hS : SqL K H a xs) (Pv : Nat → St → Hp → Prop) (h0 : Pv 0 σ H) (hl : ∀ i σ H, i ≤ xs.length → Pv i σ H → SqL K H a xs)
    (hs : ∀ i x σ H H' T, xs[i]? = some x → Pv i σ H → H T = none → Kp [] H H' → H' T = some (.tup [.int (i : Nat), x]) → g (.ref T) σ H' fun σ2 H2 => tb { D with nx := Pv (i + 1), ct := Pv (i + 1), bk := D.nx } σ2 H2) (hd : ∀ σ H, Pv xs.length σ H → D.nx σ H) : EnumK K (ForK g tb D σ) [.ref a] H :=
  ⟨a, xs, rfl, hS, for_it (walk_enum (K := K) (a := a) (xs := xs)) Pv h0 hl (fun i v σ H H' hi p y => by
    obtain ⟨T, x, z, rfl, h1, rfl, h2, h3⟩ := y
    cases h2
    exact hs i z σ H _ T h3 p h1 (Kp.new h1) upd_same) hd⟩
/-! dicts -/
theorem dnew (h : ∀ p H1, H p = none → Kp [] H H1 → H1 p = some (.dK []) → Q (.ref p) H1) : tDNewK σ H Q := mk h
theorem din {ty td : TE} (h : ty σ H fun y H1 => td σ H1 fun x H2 => ∃ a o, x = .ref a ∧ DGet H2 a y o ∧ Q (.bl o.isSome) H2) : tDIn ty td σ H Q := h
theorem dput {td ty tv : TE} (h : tv σ H fun v H1 => td σ H1 fun x H2 => ty σ H2 fun y H3 => ∃ a H4, x = .ref a ∧ DPut H3 a y v H4 ∧ D.nx σ H4) : sDPut td ty tv D σ H := h
theorem dget2 {td ty tx : TE} (h : td σ H fun x H1 => ∃ a, x = .ref a ∧ IsD H1 a ∧ ty σ H1 fun y H2 => tx σ H2 fun z H3 => ∃ o, DGet H3 a y o ∧ Q (o.getD z) H3) : tDGet2 td ty tx σ H Q := h
theorem dget {td ty : TE} (h : td σ H fun x H1 => ty σ H1 fun y H2 => ∃ a v, x = .ref a ∧ DGet H2 a y (some v) ∧ Q v H2) : tDGet td ty σ H Q := h
/-! lists and tuples -/
theorem ixA {p : Addr} {xs : List V} {j : Int} (h : SqL K H p xs ∨ SqT K H p xs) (e : atI xs j = some v) (q : Q v H) : rIx K (.ref p) (.int j) H Q := h.elim (fun h => .inl (ixL h e q)) (fun h => .inr (.inl (ixT h e q)))
theorem lenA {a : Addr} {xs : List V} (h : SqL K H a xs ∨ SqT K H a xs) (q : Q (.int xs.length) H) : rLenN K [.ref a] H Q := ⟨a, xs, rfl, h, q⟩
theorem sl {r : V → Option Int → Option Int → Hp → VK → Prop} {tl th : TO} (h : ta σ H fun x H1 => tl σ H1 fun l H2 => th σ H2 fun u H3 => r x l u H3 Q) : tSl r ta tl th σ H Q := h
theorem slno {Q : Option Int → Hp → Prop} (h : Q none H) : tNoPart σ H Q := h
theorem slpart {Q : Option Int → Hp → Prop} (h : ta σ H fun x H1 => ∃ i, x = .int i ∧ Q (some i) H1) : tPart ta σ H Q := h
theorem bint {i : Int} {q : Int → Prop} (h : q i) : ∃ k, V.int i = .int k ∧ q k := ⟨i, rfl, h⟩
theorem slL {p : Addr} {xs : List V} {lo hi : Option Int} (h : SqL K H p xs) (q : ∀ d H1, H d = none → Kp [] H H1 → H1 d = some (.lst (cutV xs lo hi)) → Q (.ref d) H1) : rSlL K (.ref p) lo hi H Q := ⟨p, xs, rfl, h, mk q⟩
theorem cut_take {xs : List V} {k : Nat} (h : k ≤ xs.length) : cutV xs none (some (k : Int)) = xs.take k := by
  unfold cutV
  rw [HT.sIx_none, HT.sIx_nat, List.drop_zero, Nat.sub_zero, Nat.min_eq_left h]
theorem cut_drop {xs : List V} {k : Nat} (h : k ≤ xs.length) : cutV xs (some (k : Int)) none = xs.drop k := by
  unfold cutV
  rw [HT.sIx_none, HT.sIx_nat, Nat.min_eq_left h]
  exact List.take_of_length_le (by rw [List.length_drop] <;> omega)
theorem inq {neg : Bool} {p : Addr} {xs : List V} (h : SqL K H p xs ∨ SqT K H p xs) (fx : flatV x = true) (fs : xs.all flatV = true) (q : Q (.bl (if neg then !inV x xs else inV x xs)) H) : rIn K neg x (.ref p) H Q := ⟨p, xs, rfl, h, fx, fs, q⟩
theorem inV_strs {a : Str} {l : List Str} : inV (.str a) (l.map V.str) = decide (a ∈ l) := by
  unfold inV
  induction l with
  | nil => simp
  | cons b r ih =>
    rw [List.map_cons, List.any_cons, ih]
    show ((b == a) || _) = _
    by_cases e : b = a
    · subst e; simp
    · have e' : ¬ a = b := fun z => e z.symm
      simp [e, e']
theorem strs_flat {l : List Str} : (l.map V.str).all flatV = true := by simp [flatV]
theorem pop {l : Addr} {xs : List V} {y : V} (h : H l = some (.lst xs)) (e : xs[xs.length - 1]? = some y) (q : Q y (upd H l (.lst xs.dropLast))) : rPop (.ref l) [] H Q := ⟨l, xs, y, rfl, rfl, h, e, q⟩
def LRK (K : PySem.W.Frag) (Q : VK) (x : V) (H1 : Hp) : Prop := ∃ a xs, x = .ref a ∧ SqL K H1 a xs ∧ ∀ p, H1 p = none → Q (.ref p) (upd H1 p (.lst xs.reverse))
theorem listrev (h : ta σ H (LRK K Q)) : RL.tListRev K ta σ H Q := h
theorem lrk {a : Addr} {xs : List V} (hS : SqL K H a xs) (q : ∀ p H1, H p = none → Kp [] H H1 → H1 p = some (.lst xs.reverse) → Q (.ref p) H1) : LRK K Q (.ref a) H := ⟨a, xs, rfl, hS, mk q⟩
theorem popS {l : Addr} {xs : List V} {y : V} (h : H l = some (.lst (xs ++ [y]))) (q : Q y (upd H l (.lst xs))) : rPop (.ref l) [] H Q := ⟨l, _, y, rfl, rfl, h, by simp, by rw [List.dropLast_concat]; exact q⟩
theorem extT {l b : Addr} {xs zs : List V} (h : H l = some (.lst xs)) (h2 : H b = some (.tup zs)) (hz : xs.length + zs.length ≤ 10000000) (q : Q .non (upd H l (.lst (xs ++ zs)))) : RL.rExtT (.ref l) [.ref b] H Q := ⟨l, b, xs, zs, rfl, rfl, h, h2, Nat.le_trans hz (by decide), q⟩
theorem slT {p : Addr} {xs : List V} {k : Nat} (h : SqT K H p xs) (h0 : 0 < k) (h1 : k ≤ xs.length) (q : ∀ d H1, H d = none → Kp [] H H1 → H1 d = some (.tup (xs.drop k)) → Q (.ref d) H1) : rSlT K (.ref p) (some (k : Int)) none H Q := ⟨p, xs, rfl, h, fun z => by
  rw [HT.sIx_nat, Nat.min_eq_left h1] at z
  omega, mk (by rw [cut_drop h1]; exact q)⟩
theorem revl (h : ta σ H (LRK K Q)) : tRevL K ta σ H Q := h
theorem idx {a : Addr} {ys : List V} {y : V} (j : Nat) {z : V} (hS : SqL K H a ys) (fy : flatV y = true) (fs : ys.all flatV = true) (hz : ys[j]? = some z) (hy : eqV z y = true) (hn : ∀ (m : Nat) (z' : V), m < j → ys[m]? = some z' → eqV z' y = false) (q : Q (.int (j : Nat)) H) : rIndex K (.ref a) [y] H Q := ⟨a, ys, y, j, z, rfl, rfl, hS, fy, fs, hz, hy, hn, q⟩
theorem truL {p : Addr} {xs : List V} {q : Bool → Prop} (h : H p = some (.lst xs)) (hq : q (!xs.isEmpty)) : ∃ k, TruV K (.ref p) H k ∧ q k := ⟨_, .inl ⟨xs, lstL h, rfl⟩, hq⟩
theorem glst {n : Nat} {t : TGs} {a : Addr} {xs : List V} {Q : St → Hp → Prop} (h : SqL K H a xs) (e : xs.length = n) (q : t xs σ H Q) : gLst K n t (.ref a) σ H Q := ⟨a, xs, rfl, h, e, q⟩
def rSplitQ : V → List V → Hp → VK → Prop := fun x xs H Q => ∃ a b, x = .str a ∧ xs = [.str b] ∧ (b.length == 0) = false ∧ a.length + 2 ≤ sizeLine ∧ rNewStrs (Txt.split a b) H Q
theorem m_split {X : Cx} : MtR X "str.split" rSplitQ := mt_split
theorem split {a b : Str} (hb : (b.length == 0) = false) (hz : a.length ≤ 10000000) (q : ∀ p H1, H p = none → Kp [] H H1 → H1 p = some (.lst ((Txt.split a b).map V.str)) → Q (.ref p) H1) : rSplitQ (.str a) [.str b] H Q := ⟨a, b, rfl, rfl, hb, Nat.le_trans (Nat.add_le_add_right hz 2) (by decide), mk q⟩
def EnSK (K : PySem.W.Frag) (R : It → Hp → Prop) (vs zs : List V) (H2 : Hp) : Prop := ∃ a xs k, vs = [.ref a] ∧ zs = [.int k] ∧ -(2 ^ 63) ≤ k ∧ k < 2 ^ 63 ∧ SqL K H2 a xs ∧ R (RL.IteS K a k) H2
theorem ienumS {a b : TA} {R : It → Hp → Prop} (h : a σ H fun vs H1 => b σ H1 fun zs H2 => EnSK K R vs zs H2) : RL.iEnumS K a b σ H R := h
theorem walk_enumS {a : Addr} {xs : List V} {k : Int} : Walk (RL.IteS K a k) xs.length (fun H => SqL K H a xs) (YPair (fun i => some (.int (k + (i : Nat)))) (fun i => xs[i]?)) := by
  refine ⟨fun i _ hi q => ⟨xs, xs[i], q, by simp [hi]⟩, fun _ q => ⟨xs, q, rfl⟩, fun i H v H' _ q y => ?_⟩
  obtain ⟨T, x, h1, h2, h3, h4⟩ := y
  exact ⟨T, .int (k + (i : Nat)), x, h1, h2, h3, rfl, h4 xs q⟩
theorem fores {g : TG} {tb : TS} {a : Addr} {k : Int} (xs : List V) (hk0 : -(2 ^ 63) ≤ k) (hk1 : k < 2 ^ 63) (hS : SqL K H a xs) (Pv : Nat → St → Hp → Prop) (h0 : Pv 0 σ H) (hl : ∀ i σ H, i ≤ xs.length → Pv i σ H → SqL K H a xs)
    (hs : ∀ i x σ H H' T, xs[i]? = some x → Pv i σ H → H T = none → Kp [] H H' → H' T = some (.tup [.int (k + (i : Nat)), x]) → g (.ref T) σ H' fun σ2 H2 => tb { D with nx := Pv (i + 1), ct := Pv (i + 1), bk := D.nx } σ2 H2) (hd : ∀ σ H, Pv xs.length σ H → D.nx σ H) : EnSK K (ForK g tb D σ) [.ref a] [.int k] H :=
  ⟨a, xs, k, rfl, rfl, hk0, hk1, hS, for_it (walk_enumS (K := K) (a := a) (xs := xs) (k := k)) Pv h0 hl (fun i v σ H H' hi p y => by
    obtain ⟨T, x, z, rfl, h1, rfl, h2, h3⟩ := y
    cases h2
    exact hs i z σ H _ T h3 p h1 (Kp.new h1) upd_same) hd⟩
/-- an f-string of two parts or more -/
def tJoin (ts : List TE) : TE := fun σ H Q => tJs ts Str.empty σ H fun out H1 => Q (.str out) H1
theorem pe_joinedN {X : Cx} {v1 v2 : Expr} {rest : List Expr} {ts : List TE} {pos : Pos} (h : PJ X (v1 :: v2 :: rest) ts) : PE X (.JoinedStr (v1 :: v2 :: rest) pos) (tJoin ts) := pe_joined h
def rJoinQ (K : PySem.W.Frag) : V → List V → Hp → VK → Prop := fun x xs H Q => ∃ a p, ∃ ys : List Str, x = .str a ∧ xs = [.ref p] ∧ (SqL K H p (ys.map V.str) ∨ SqT K H p (ys.map V.str)) ∧ (ys.map (·.length)).sum + ys.length * a.length ≤ 16777216 ∧ Q (.str (Txt.join a ys)) H
theorem m_join {X : Cx} : MtR X "str.join" (rJoinQ X.K) := mt_join
theorem join {a : Str} {p : Addr} {ys : List Str} (h : SqL K H p (ys.map V.str)) (hz : (ys.map (·.length)).sum + ys.length * a.length ≤ 16777216) (q : Q (.str (Txt.join a ys)) H) : rJoinQ K (.str a) [.ref p] H Q := ⟨a, p, ys, rfl, rfl, .inl h, hz, q⟩
theorem lens_le {n : Nat} : ∀ {ys : List Str}, (∀ y ∈ ys, y.length ≤ n) → (ys.map (·.length)).sum ≤ n * ys.length
  | [], _ => by simp
  | y :: r, h => by
    have h1 := h y (by simp)
    have h2 := lens_le (n := n) (ys := r) fun z hz => h z (by simp [hz])
    rw [List.map_cons, List.sum_cons, List.length_cons, Nat.mul_add]
    omega
theorem mulS {x : Str} {k : Nat} (h1 : 2 ≤ k) (h2 : k ≤ 100000) (h3 : 1 ≤ x.length) (h4 : x.length ≤ 100) (q : Q (.str (RL.repS x k)) H) : RL.rMulS (.str x) (.int (k : Int)) H Q := ⟨x, k, rfl, rfl, h1, h2, h3, h4, q⟩
theorem cat {l b : Addr} {xs zs : List V} (h : H l = some (.lst xs)) (h2 : H b = some (.lst zs)) (hz : xs.length + zs.length ≤ 100000) (q : ∀ p H1, H p = none → Kp [] H H1 → H1 p = some (.lst (xs ++ zs)) → Q (.ref p) H1) : rCat (.ref l) (.ref b) H Q := ⟨l, b, xs, zs, rfl, rfl, h, h2, Nat.le_trans hz (by decide), mk q⟩
end
end Z

/-! ### zip of two lists of one length -/
namespace Z
open PySem L2
section
variable {σ : St} {H : Hp} {Q : VK} {te : TE} {D : Ends} {K : PySem.W.Frag}
def ZipK (K : PySem.W.Frag) (R : It → Hp → Prop) (vs : List V) (H1 : Hp) : Prop := ∃ a b xs ys, vs = [.ref a, .ref b] ∧ SqL K H1 a xs ∧ SqL K H1 b ys ∧ R (Itz K a b) H1
theorem izip {a : TA} {R : It → Hp → Prop} (h : a σ H (ZipK K R)) : iZip K a σ H R := h
theorem forz {g : TG} {tb : TS} {a b : Addr} (xs ys : List V) (hn : xs.length = ys.length) (hS : SqL K H a xs) (hS2 : SqL K H b ys) (Pv : Nat → St → Hp → Prop) (h0 : Pv 0 σ H) (hl : ∀ i σ H, i ≤ xs.length → Pv i σ H → SqL K H a xs ∧ SqL K H b ys)
    (hs : ∀ i x y σ H H' T, xs[i]? = some x → ys[i]? = some y → Pv i σ H → H T = none → Kp [] H H' → H' T = some (.tup [x, y]) → g (.ref T) σ H' fun σ2 H2 => tb { D with nx := Pv (i + 1), ct := Pv (i + 1), bk := D.nx } σ2 H2) (hd : ∀ σ H, Pv xs.length σ H → D.nx σ H) : ZipK K (ForK g tb D σ) [.ref a, .ref b] H :=
  ⟨a, b, xs, ys, rfl, hS, hS2, for_it (walk_zip (K := K) (a := a) (b := b) (xs := xs) (ys := ys) (n := xs.length) (by omega)) Pv h0 hl (fun i v σ H H' hi p y => by
    obtain ⟨T, x, z, rfl, h1, rfl, h2, h3⟩ := y
    exact hs i x z σ H _ T h2 h3 p h1 (Kp.new h1) upd_same) hd⟩
theorem lcz {g : TG} {tt : TT} {vs : List Nat} {a b : Addr} (xs ys : List V) (hn : xs.length = ys.length) (hS : SqL K H a xs) (hS2 : SqL K H b ys) (Pv : Addr → Nat → Hp → Prop) (h0 : ∀ D H1, H D = none → Kp [] H H1 → H1 D = some (.lst []) → Pv D 0 H1)
    (hl : ∀ D i H1, H D = none → Pv D i H1 → SqL K H1 a xs ∧ SqL K H1 b ys)
    (hs : ∀ D i x y H1 H1' T, H D = none → xs[i]? = some x → ys[i]? = some y → Pv D i H1 → H1 T = none → Kp [] H1 H1' → H1' T = some (.tup [x, y]) → g (.ref T) (wipe σ vs) H1' fun σ2 H2 => wipe σ2 vs = wipe σ vs ∧ tt σ2 H2 fun b H3 => if b = true then te σ2 H3 fun y H4 => ∃ acc, H4 D = some (.lst acc) ∧ acc.length < sizeLine ∧ Pv D (i + 1) (upd H4 D (.lst (acc ++ [y]))) else Pv D (i + 1) H3)
    (hd : ∀ D H1, H D = none → Pv D xs.length H1 → Q (.ref D) H1) : ZipK K (LcK g tt te vs σ Q) [.ref a, .ref b] H :=
  ⟨a, b, xs, ys, rfl, hS, hS2, fun D hD => lc_it (walk_zip (K := K) (a := a) (b := b) (xs := xs) (ys := ys) (n := xs.length) (by omega)) (Pv D) (h0 D _ hD (Kp.new hD) upd_same) (fun _ _ _ p => hl D _ _ hD p) (fun i v H H' hi p y => by
    obtain ⟨T, x, z, rfl, h1, rfl, h2, h3⟩ := y
    exact hs D i x z H _ T hD h2 h3 p h1 (Kp.new h1) upd_same) fun H1 p => hd D H1 hD p⟩
end
end Z

namespace Z
open PySem L2
/-- what is never reached -/
def tDead : TS := fun _ _ _ => False
theorem ps_dead {X : Cx} {s : Stmt} : PS X s tDead := ⟨fun _ _ _ _ _ _ h => h.elim⟩
theorem u65 {k : Nat} {A : Around} (hr : Room k A) : A.units + 65 < cLine := by have := hr.un; omega
end Z

namespace Z
open PySem L2
/-! range(lo, e) -/
def Rng2K (R : It → Hp → Prop) (vs : List V) (H1 : Hp) : Prop := ∃ i j : Int, vs = [.int i, .int j] ∧ (-(2 ^ 62) ≤ i ∧ i < 2 ^ 62 ∧ -(2 ^ 62) ≤ j ∧ j < 2 ^ 62) ∧ R (Itr i (j - i).toNat) H1
theorem irng2 {a : TA} {σ : L2.St} {H : Hp} {R : It → Hp → Prop} (h : a σ H (Rng2K R)) : iRng2 a σ H R := h
theorem forr2 {σ : L2.St} {H : Hp} {D : Ends} {g : TG} {tb : TS} {lo e : Int} (n : Nat) (he : (e - lo).toNat = n) (hb : -1000000 ≤ lo ∧ lo ≤ 1000000 ∧ -1000000 ≤ e ∧ e ≤ 1000000) (Pv : Nat → L2.St → Hp → Prop) (h0 : Pv 0 σ H)
    (hs : ∀ i σ H, i < n → Pv i σ H → g (.int (lo + (i : Int))) σ H fun σ2 H2 => tb { D with nx := Pv (i + 1), ct := Pv (i + 1), bk := D.nx } σ2 H2) (hd : ∀ σ H, Pv n σ H → D.nx σ H) : Rng2K (ForK g tb D σ) [.int lo, .int e] H := by
  refine ⟨lo, e, rfl, ⟨by omega, by omega, by omega, by omega⟩, ?_⟩
  rw [he]
  exact for_range (lo := lo) (n := n) Pv h0 (fun i σ H1 hi p => hs i σ H1 hi p) hd
end Z

namespace Z
open PySem L2
/-! reversed(range(n)) -/
def RevRK (R : It → Hp → Prop) (a b : Int) (H1 : Hp) : Prop := -(2 ^ 62) ≤ a ∧ a < 2 ^ 62 ∧ -(2 ^ 62) ≤ b ∧ b < 2 ^ 62 ∧ R (Itc (a + (((b - a).toNat : Nat) : Int) - 1) (-1) (b - a).toNat) H1
theorem irevr {tr : L2.St → Hp → (Int → Int → Hp → Prop) → Prop} {σ : L2.St} {H : Hp} {R : It → Hp → Prop} (h : tr σ H (RevRK R)) : iRevR tr σ H R := h
def Rg1K (R : Int → Int → Hp → Prop) (x : V) (H1 : Hp) : Prop := ∃ n : Int, x = .int n ∧ R 0 n H1
theorem rg1 {ta : TE} {σ : L2.St} {H : Hp} {R : Int → Int → Hp → Prop} (h : ta σ H (Rg1K R)) : tRg1 ta σ H R := h
theorem forrv {σ : L2.St} {H : Hp} {D : Ends} {g : TG} {tb : TS} {e : Int} (n : Nat) (he : e = (n : Int)) (hb : n < 4611686018427387904) (Pv : Nat → L2.St → Hp → Prop) (h0 : Pv 0 σ H)
    (hs : ∀ i σ H, i < n → Pv i σ H → g (.int ((n - 1 - i : Nat) : Int)) σ H fun σ2 H2 => tb { D with nx := Pv (i + 1), ct := Pv (i + 1), bk := D.nx } σ2 H2) (hd : ∀ σ H, Pv n σ H → D.nx σ H) : Rg1K (RevRK (ForK g tb D σ)) (.int e) H := by
  subst he
  refine ⟨(n : Int), rfl, by omega, by omega, by omega, by omega, ?_⟩
  rw [show ((n : Int) - 0).toNat = n by omega]
  refine for_rangeC Pv h0 (fun i σ H1 hi p => ?_) hd
  rw [show (0 + (n : Int) - 1 + (i : Int) * -1) = ((n - 1 - i : Nat) : Int) by omega]
  exact hs i σ H1 hi p
end Z

/-! ### sorted of data that are alike -/
namespace RL
open PySem PySem.Spec PyProof.Rows L2 PySem.W
def DBs := List (V × PyData)
def rSortedD (K : PySem.W.Frag) : List V → Hp → VK → Prop := fun vs H Q => ∃ (a : Addr) (bs : List (V × PyData)), vs = [V.ref a] ∧ SqL K H a (bs.map Prod.fst) ∧ (∀ b ∈ bs, Dp K H b.1 b.2) ∧ AllAlike (bs.map Prod.snd) ∧ Sortable (bs.map Prod.snd) ∧ (∀ b ∈ bs, b.2.depth ≤ 60) ∧
  ∀ p, H p = none → Q (.ref p) (upd H p (.lst ((bs.mergeSort (dataLe false Prod.snd)).map Prod.fst)))
theorem each_vals : ∀ {bs : List (V × PyData)} {us : List Value}, Vals (bs.map Prod.fst) us → EachIs (fun (v : Value) (b : V × PyData) => RelV b.1 v) us bs
  | [], us, h => by cases h; exact .nil
  | b :: r, us, h => by
    cases h with
    | cons h1 h2 => exact .cons h1 (each_vals h2)
theorem vals_each : ∀ {bs : List (V × PyData)} {us : List Value}, EachIs (fun (v : Value) (b : V × PyData) => RelV b.1 v) us bs → Vals (bs.map Prod.fst) us
  | _, _, .nil => .nil
  | _, _, .cons h1 h2 => .cons h1 (vals_each h2)
theorem each_and {α β : Type} {R : α → β → Prop} {P : β → Prop} {S : α → β → Prop} (hS : ∀ a b, R a b → P b → S a b) : ∀ {as : List α} {bs : List β}, EachIs R as bs → (∀ b ∈ bs, P b) → EachIs S as bs
  | _, _, .nil, _ => .nil
  | _, _, .cons h1 h2, hp => .cons (hS _ _ h1 (hp _ (by simp))) (each_and hS h2 fun b hb => hp b (by simp [hb]))
theorem cr_sortedD {X : Cx} (hu : X.A.units + 64 < cLine) : CallR X (.builtin "sorted") (rSortedD X.K) := by
  intro pins s σ H vs us Q I r h
  obtain ⟨a, bs, rfl, hs, hD, hal, hk, hd, q⟩ := h
  obtain ⟨its, rv, hl, hz⟩ := I.list hs
  rw [Vals.ref1 r]
  have e := each_vals rv
  have er : EachIs (fun (v : Value) (b : V × PyData) => ∃ as, Reads s.heap v b.2 as) its bs := each_and (P := fun (b : V × PyData) => Dp X.K H b.1 b.2) (fun v b h1 h2 => Dp.reads I _ _ _ h2 h1) e hD
  have hL : bs.length ≤ sizeLine := by rw [List.length_map] at hz; exact hz
  refine sorted_data (enc := Prod.snd) (R := fun (v : Value) (b : V × PyData) => RelV b.1 v) hl.isList e er hal hk hL (fun b hb => by have := hd b hb; omega) fun out hlen ho => ?_
  obtain ⟨ep, he'⟩ := PyProof.Rows.sortedAll_at s.heap its out.toArray
  have hlen2 : ((bs.mergeSort (dataLe false Prod.snd)).map Prod.fst).length ≤ sizeLine := by rw [List.length_map, List.length_mergeSort]; exact hL
  exact ⟨.ref _, upd H (s.heap.objs.size + 1) (.lst ((bs.mergeSort (dataLe false Prod.snd)).map Prod.fst)), I.laid (t' := s.toks) (fun _ _ => PyProof.Rows.sortedAll_old) (Nat.le_succ _) ⟨hlen2, out, ep, vals_each ho, he'⟩, rfl, q _ (I.hok.fresh (Nat.le_succ _))⟩
end RL

/-! ### sorted(xs, key=lambda x: x[0]) -/
namespace LamK
open PySem PySem.Spec PyProof.Rows L2 LamX PySem.W
/-- a lambda's names: its parameter alone, and globals -/
structure KeyS (scope : Scope) (x : Str) : Prop where
  kind : scope.kind = .function
  co : scope.isCoroutine = false
  gen : scope.isGenerator = false
  own : ∀ y ∈ scope.names, y.2 ≠ .cell ∧ y.2 ≠ .free
  loc : scope.names.lookup x = some .local
def keySB (scope : Scope) (x : Str) : Bool := decide (scope.kind = .function) && !scope.isCoroutine && !scope.isGenerator && (scope.names.all fun y => !decide (y.2 = .cell) && !decide (y.2 = .free)) && decide (scope.names.lookup x = some .local)
theorem keyS_by {scope : Scope} {x : Str} (h : keySB scope x = true) : KeyS scope x := by
  unfold keySB at h
  simp only [Bool.and_eq_true, Bool.not_eq_true', decide_eq_true_eq, decide_eq_false_iff_not, List.all_eq_true] at h
  obtain ⟨⟨⟨⟨h1, h2⟩, h3⟩, h4⟩, h5⟩ := h
  exact ⟨h1, h2, h3, h4, h5⟩
section
variable {prog : Program} {w : World} {A : Around} {s : Shared}
theorem key_call {f c' t : Addr} {name qual : Str} {params : Arguments} {scope : Scope} {cl : List (Str × Addr)} {pm ctv : Value} {x : Str} {j : Nat} {p1 p2 p3 : Pos} {its : Array Value} {u : Value} {k : PyData}
    (ho : s.heap.get? f = some (PySem.W.kla_obj name qual params (.Subscript (.Name x p1) (.Constant (.int 0) j p2) p3) scope cl pm c' ctv)) (hcd : s.heap.CodeRec (.ref c') qual) (hroom : A.depth < recursionLimit) (hl : s.heap.NoLimit)
    (hbind : bindArgs (PySem.W.kla_fn name qual params (.Subscript (.Name x p1) (.Constant (.int 0) j p2) p3) scope cl pm (.ref c') ctv) ⟨[.ref t], []⟩ = pure [(x, .ref t)])
    (S : KeyS scope x) (ht : IsTup s.heap t its) (hu : its[0]? = some u) (hk : Reads s.heap u k []) (hd : (x == ("__debug__" : Str)) = false) :
    wpAny (model prog w) A (call (.ref f) [.ref t]) (PySem.W.KeyPure k s) (fun _ _ => False) s := by
  refine wpAny_call (codeAny_mono (R := fun r s' => ∃ v, r = .ok (.ret v) ∧ PySem.W.KeyPure k s v s') ?_ fun r s' hq => ?_)
  · refine PySem.W.kla_callFunE hroom ho rfl S.co S.gen rfl hcd ?_
    rw [hbind]
    refine wpAny_pure (wpAny_newFunctionEnv (fun y hy => (S.own y hy).1) (fun y hy => ?_) (fun h₁ hns hsb => ⟨hl.fresh _ hsb, ?_⟩) S.kind)
    · rw [List.mem_singleton.mp hy]
      exact S.loc
    · have kp : ∀ b o, s.heap.get? b = some o → h₁.get? b = some o := fun b o e => hsb.extBut b o (Nat.ne_of_lt (Heap.lt_size e)) (Heap.get?_push_of_some _ e)
      have ht1 : IsTup h₁ t its := ht.keeps kp
      refine PySem.W.kla_codeExpr ?_
      refine Subscript_ ?_
      refine wpAny_Name (wpAny_loadName_local (v := .ref t) S.kind S.loc hns (by simp) ?_) hd
      refine wpAny_Constant_int ?_
      refine subscriptTail_builtinR (x := u) ht1.typeIs slot_tuple_getitem.lookup (getItem_tuple (j := 0) ht1 (by decide) (by decide) (seqIndex_of (by decide) (by have := (Array.getElem?_eq_some_iff.mp hu).1; omega)) hu ⟨rfl, ?_⟩)
      refine ⟨u, rfl, h₁, _, rfl, kp, PyProof.Rows.Reads.keeps kp hk⟩
  · obtain ⟨v, rfl, h⟩ := hq
    exact h
end
mutual
/-- data without lists and dicts -/
def noLst : PyData → Bool
  | .list _ => false
  | .dict _ => false
  | .tuple xs => noLstAll xs
  | .none => true
  | .bool _ => true
  | .int _ => true
  | .str _ => true
def noLstAll : List PyData → Bool
  | [] => true
  | d :: ds => noLst d && noLstAll ds
end
mutual
theorem reads_flat {h : Heap} : ∀ (d : PyData) {v : Value} {as : List Addr}, noLst d = true → Reads h v d as → as = []
  | .none, _, _, _, .none => rfl
  | .bool _, _, _, _, .bool _ => rfl
  | .int _, _, _, _, .int _ _ => rfl
  | .str _, _, _, _, .str _ _ => rfl
  | .list _, _, _, z, _ => by simp [noLst] at z
  | .dict _, _, _, z, _ => by simp [noLst] at z
  | .tuple xs, _, _, z, .tuple _ _ _ r => reads_flatAll xs (by simpa [noLst] using z) r
theorem reads_flatAll {h : Heap} : ∀ (ds : List PyData) {vs : List Value} {as : List Addr}, noLstAll ds = true → ReadsAll h vs ds as → as = []
  | [], _, _, _, .nil => rfl
  | d :: ds, _, _, z, .cons r rs => by
    have z' : noLst d = true ∧ noLstAll ds = true := by simpa [noLstAll] using z
    rw [reads_flat d z'.1 r, reads_flatAll ds z'.2 rs]
    rfl
end
/-- the rows at ts are tuples, the first items the keys ds -/
def KeyRows (K : PySem.W.Frag) (H : Hp) (bs : List (Addr × PyData)) : Prop := ∀ b ∈ bs, noLst b.2 = true ∧ b.2.depth ≤ 60 ∧ ∃ xs y, SqT K H b.1 xs ∧ xs[0]? = some y ∧ Dp K H y b.2
def KeyOk (ds : List PyData) : Prop := PySem.W.AllAlike ds ∧ PySem.W.Sortable ds
def tSortLam (K : PySem.W.Frag) (T : List (Addr × Str)) (t : TA) : TE := fun σ H Q => t σ H fun vs H1 => Tabs T H1 ∧ ∃ (a : Addr) (bs : List (Addr × PyData)), vs = [.ref a] ∧ SqL K H1 a (bs.map fun b => V.ref b.1) ∧ KeyRows K H1 bs ∧ KeyOk (bs.map Prod.snd) ∧
  ∀ H2 l, ExtN H1 H2 → Tabs T H2 → H2 l = none → Q (.ref l) (upd H2 l (.lst ((bs.mergeSort (PySem.W.dataLe false Prod.snd)).map fun b => V.ref b.1)))
theorem ext_rd {H H' : Hp} (e : ExtN H H') {a : Addr} {u : HO} (n : ∀ ps, u ≠ .tbl ps) (h : Rd H a u) : Rd H' a u := by
  rcases h with h | ⟨o, h⟩
  · exact .inl (e _ _ h n)
  · exact .inr ⟨o, e _ _ h fun ps z => by cases z⟩
theorem ext_seq {K : PySem.W.Frag} {H H' : Hp} (e : ExtN H H') {a : Addr} {xs : List V} (h : SqL K H a xs) : SqL K H' a xs := h.elim (fun h => .inl (ext_rd e (fun ps z => by cases z) h)) .inr
theorem ext_tup {K : PySem.W.Frag} {H H' : Hp} (e : ExtN H H') {a : Addr} {xs : List V} (h : SqT K H a xs) : SqT K H' a xs := h.elim (fun h => .inl (ext_rd e (fun ps z => by cases z) h)) .inr
mutual
theorem ext_dp {K : PySem.W.Frag} {H H' : Hp} (e : ExtN H H') : ∀ (d : PyData) {v : V}, Dp K H v d → Dp K H' v d
  | .none, _, .non => .non
  | .bool _, _, .bl b => .bl b
  | .int _, _, .int i => .int i
  | .str _, _, .str x => .str x
  | .list ds, _, .lst h r => .lst (ext_seq e h) (ext_dpAll e ds r)
  | .tuple ds, _, .tup h r => .tup (ext_tup e h) (ext_dpAll e ds r)
theorem ext_dpAll {K : PySem.W.Frag} {H H' : Hp} (e : ExtN H H') : ∀ (ds : List PyData) {vs : List V}, DpAll K H vs ds → DpAll K H' vs ds
  | [], _, .nil => .nil
  | d :: ds, _, .cons h r => .cons (ext_dp e d h) (ext_dpAll e ds r)
end
theorem ext_rows {K : PySem.W.Frag} {H H' : Hp} (e : ExtN H H') {bs : List (Addr × PyData)} (h : KeyRows K H bs) : KeyRows K H' bs := fun b hb => by
  obtain ⟨h1, h2, xs, y, h3, h4, h5⟩ := h b hb
  exact ⟨h1, h2, xs, y, ext_tup e h3, h4, ext_dp e _ h5⟩
theorem vals_refs : ∀ {bs : List (Addr × PyData)} {us : List Value}, Vals (bs.map fun b => V.ref b.1) us → us = bs.map fun b => Value.ref b.1
  | [], _, .nil => rfl
  | b :: bs, _, .cons r rs => by
    obtain rfl : _ = Value.ref b.1 := r
    rw [vals_refs rs]
    rfl
theorem refs_vals : ∀ bs : List (Addr × PyData), Vals (bs.map fun b => V.ref b.1) (bs.map fun b => Value.ref b.1)
  | [] => .nil
  | _ :: bs => .cons rfl (refs_vals bs)
def KeyAt (h : Heap) (v : Value) (b : Addr × PyData) : Prop := v = .ref b.1 ∧ ∃ its u, IsTup h b.1 its ∧ its[0]? = some u ∧ Reads h u b.2 []
theorem each_at {h : Heap} : ∀ {bs : List (Addr × PyData)}, (∀ b ∈ bs, KeyAt h (.ref b.1) b) → PySem.W.EachIs (KeyAt h) (bs.map fun b => Value.ref b.1) bs
  | [], _ => .nil
  | b :: bs, z => .cons (z b (by simp)) (each_at (bs := bs) fun x hx => z x (by simp [hx]))
theorem each_refs {h : Heap} : ∀ {us : List Value} {bs : List (Addr × PyData)}, PySem.W.EachIs (KeyAt h) us bs → us = bs.map fun b => Value.ref b.1
  | _, _, .nil => rfl
  | _, _, .cons r rs => by rw [r.1, each_refs rs]; rfl
theorem pe_sortLam {X : Cx} {T : List (Addr × Str)} {c P : Addr} {e : Expr} {t : TA} {x : Str} {j k : Nat} {params : Arguments} {scope : Scope} {lpos p1 p2 p3 kpos p pos : Pos} (hg : Gl X "sorted") (hm : X.mg "sorted" = none) (ha : PA X [e] t)
    (TB : TabB X.base X.mg c P) (hcode : X.env.code = .ref c) (hmT : (P, X.env.qual ++ "<lambda>") ∈ T) (hu : ∀ q ∈ T, q.1 = P → q.2 = X.env.qual ++ "<lambda>") (hr : Room k X.A) (S : KeyS scope x) (hdef : defaultsOf params X.env = ([], []))
    (hbind : ∀ (q : Str) (cl : List (Str × Addr)) (pm cv ctv v : Value), bindArgs (PySem.W.kla_fn "<lambda>" q params (.Subscript (.Name x p1) (.Constant (.int 0) j p2) p3) scope cl pm cv ctv) ⟨[v], []⟩ = pure [(x, v)])
    (hd : (x == ("__debug__" : Str)) = false := by decide) (hst : starEach [e] X.env = (false, eval e X.env) :: starEach [] X.env := by rfl) :
    PE X (.Call (.Name "sorted" p) [e] [⟨some "key", .Lambda params (.Subscript (.Name x p1) (.Constant (.int 0) j p2) p3) scope lpos, kpos⟩] pos) (tSortLam X.K T t) := by
  refine ⟨fun pins s σ H Q I h => ?_⟩
  refine wpAny_Call_Name_kw (ld_blt I hg hm PyProof.Rows.boot_sorted ?_ (by decide) (by decide))
  refine PyProof.Rows.callWith_kw ?_ (by rw [hst]; rfl) (by rw [hst]; rfl) (by rfl) (by rfl)
  refine thn (ha.run pos pins s σ H _ I h) fun us s1 ⟨vs, H1, I1, r1, q1⟩ => ?_
  obtain ⟨hT, a, bs, rfl, hS, hK, hO, q⟩ := q1
  obtain rfl := Vals.ref1 r1
  show wpAny _ _ (evalAll ((do let v ← eval (.Lambda params (.Subscript (.Name x p1) (.Constant (.int 0) j p2) p3) scope lpos) X.env; standAt pos; pure v) :: [])) _ _ s1
  refine wpAny_evalAll_cons (wpAny_bind (lam_make2 I1 TB hcode hmT hu hT hdef (fun y hy z => absurd z (S.own y hy).2) fun f c' pm ctv H2 s2 I2 eN T2 hf hfn hfr hco => ?_))
  refine wpAny_bind (wpAny_standAt (wpAny_pure ?_))
  refine wpAny_evalAll_nil ?_
  obtain ⟨⟨oc, us, t, hoc, hdc, hvc⟩, _, _⟩ := I2.hok c' _ hco
  have kS := ext_seq eN hS
  have kR := ext_rows eN hK
  obtain ⟨its, rv, hl, hz⟩ := I2.list kS
  obtain rfl := vals_refs rv
  rw [List.length_map] at hz
  have room := hr.dp
  have roomU := hr.un
  have dpt : X.A.in1.in1.depth = X.A.depth := rfl
  have lim := I2.nolimit
  refine PySem.W.sorted_key_data (b := false) (R := KeyAt s2.heap) (bs := bs) (f := .ref f) (fun b : Addr × PyData => b.2) hl.isList (each_at fun b hb => ⟨rfl, ?_⟩) hO.1 hO.2 hz (fun b hb => ?_) (ksk_s1 _ _) (fun _ => ksk_l1 _ _) (fun _ => ksk_t1 _ _) (fun v b ⟨ev, its, u, ht, hu, hk⟩ hb h tk kp => ?_) fun out cc h' tk kp fresh hD hlen eo => ?_
  · obtain ⟨h1, h2, xs, y, h3, h4, h5⟩ := kR b hb
    obtain ⟨its, rv, pt, _⟩ := I2.tuple h3
    obtain ⟨u, hu, ru⟩ := rv.get h4
    obtain ⟨as, rd⟩ := Dp.reads I2 _ _ _ h5 ru
    rw [reads_flat _ h1 rd] at rd
    exact ⟨_, u, pt, by simpa using hu, rd⟩
  · have := (kR b hb).2.1
    omega
  · subst ev
    refine key_call (s := { s2 with heap := h, toks := tk }) (kp _ _ hf) ⟨c', oc, us, t, rfl, kp _ _ hoc, hdc, hvc⟩ (by rw [dpt]; omega) (lim.keeps kp) (hbind _ _ _ _ _ _) S (ht.keeps kp) hu (PyProof.Rows.Reads.keeps kp hk) hd
  · obtain rfl := each_refs eo
    refine ⟨.ref (s2.heap.objs.size + 1), _, I2.laid (t' := tk) kp (Nat.le_succ _) (o := .lst ((bs.mergeSort (PySem.W.dataLe false Prod.snd)).map fun b => V.ref b.1)) ⟨?_, _, cc, refs_vals _, hD⟩, rfl, q _ _ eN T2 (I2.hok.fresh (Nat.le_succ _))⟩
    rw [List.length_map, List.length_mergeSort]
    exact hz
end LamK
namespace LamK
open PySem PySem.Spec PyProof.Rows L2 LamX
/-- a def that makes lambdas: its code object stands at c -/
def CodeFn (K : PySem.W.Frag) (f : Addr) (fd : FuncData) (st : Stmt) (x : Str) (c : Addr) : Prop :=
  ∃ (oc : Value) (od : Option Addr) (kV doc pm : Value) (an : Option Addr) (ct : Value) (osl : Array (Option Value)),
    fd = PySem.W.fnOf x x (defArgs st) (defBody st) (defScope st) .none kV doc pm an (.ref c) ct ∧ K.lookup f = some ⟨oc, od, .func fd, osl⟩ ∧ PySem.W.codeIn K (.ref c) x = true
/-- at l nothing is tracked, but for a table -/
def Nw (H : Hp) (l : Addr) : Prop := ∀ o, H l = some o → ∃ ps, o = .tbl ps
theorem Nw.of {H : Hp} {l : Addr} (h : H l = none) : Nw H l := fun o e => by rw [h] at e; cases e
theorem Nw.back {H H1 : Hp} {l : Addr} (h : Nw H1 l) (e : ExtN H H1) : Nw H l := fun o ho => by
  by_cases z : ∀ ps, o ≠ .tbl ps
  · obtain ⟨ps, q⟩ := h o (e l o ho z)
    exact absurd q (z ps)
  · simp only [Classical.not_forall, Classical.not_not, ne_eq] at z
    exact z
theorem Nw.ne {H : Hp} {l b : Addr} {o : HO} (h : Nw H l) (e : H b = some o) (n : ∀ ps, o ≠ .tbl ps) : b ≠ l := fun z => by
  rw [z] at e
  obtain ⟨ps, q⟩ := h o e
  exact n ps q
/-- what srt asks where the rows are read -/
def SrtK (K : PySem.W.Frag) (T : List (Addr × Str)) (Q : VK) : List V → Hp → Prop := fun vs H1 => Tabs T H1 ∧ ∃ (a : Addr) (bs : List (Addr × PyData)), vs = [.ref a] ∧ SqL K H1 a (bs.map fun b => V.ref b.1) ∧ KeyRows K H1 bs ∧ KeyOk (bs.map Prod.snd) ∧
  ∀ H2 l, ExtN H1 H2 → Tabs T H2 → H2 l = none → Q (.ref l) (upd H2 l (.lst ((bs.mergeSort (PySem.W.dataLe false Prod.snd)).map fun b => V.ref b.1)))
theorem srt {K : PySem.W.Frag} {T : List (Addr × Str)} {t : TA} {σ : L2.St} {H : Hp} {Q : VK} (h : t σ H (SrtK K T Q)) : tSortLam K T t σ H Q := h
theorem tabs_none {T : List (Addr × Str)} {H : Hp} {l : Addr} {o : HO} (t : Tabs T H) (h : H l = none) : Tabs T (upd H l o) := t.ext fun b u e => by rw [upd_ne (fun z => by rw [z, h] at e; cases e)]; exact e
theorem srtK {K : PySem.W.Frag} {T : List (Addr × Str)} {H : Hp} {Q : VK} {a : Addr} {bs : List (Addr × PyData)} (hT : Tabs T H) (hS : SqL K H a (bs.map fun b => V.ref b.1)) (hK : KeyRows K H bs) (hO : KeyOk (bs.map Prod.snd))
    (q : ∀ H3 l, ExtN H H3 → Tabs T H3 → Nw H l → H3 l = some (.lst ((bs.mergeSort (PySem.W.dataLe false Prod.snd)).map fun b => V.ref b.1)) → Q (.ref l) H3) : SrtK K T Q [.ref a] H :=
  ⟨hT, a, bs, rfl, hS, hK, hO, fun H2 l e t n => q _ l (fun b o h z => by
      have h2 := e b o h z
      rw [upd_ne (fun z => by rw [z, n] at h2; cases h2)]
      exact h2) (tabs_none t n) (Nw.back (Nw.of n) e) upd_same⟩
theorem ext_kp {H H' : Hp} (k : Z.Kp [] H H') : ExtN H H' := fun b o h _ => k b o (by simp) h
theorem ext_put {H H1 H2 : Hp} {l : Addr} (e : ExtN H H1) (k : Z.Kp [l] H1 H2) (n : Nw H l) : ExtN H H2 := fun b o h z => k b o (by
  intro y
  exact n.ne h z (List.mem_singleton.mp y)) (e b o h z)
theorem tabs_kp {T : List (Addr × Str)} {H H' : Hp} (t : Tabs T H) (k : Z.Kp [] H H') : Tabs T H' := t.ext fun b o h => k b o (by simp) h
/-- a list at l is written: tables stay -/
theorem tabs_put {T : List (Addr × Str)} {H H' : Hp} {l : Addr} {xs : List V} (t : Tabs T H) (k : Z.Kp [l] H H') (h : H l = some (.lst xs)) : Tabs T H' := fun p hp => by
  obtain ⟨ps, h1, h2, h3⟩ := t p hp
  have at' : ∀ {b : Addr} {o : HO}, H b = some o → o ≠ .lst xs → H' b = some o := fun {b o} e n => k b o (by
    intro y
    rw [List.mem_singleton.mp y, h] at e
    exact n (Option.some.inj e).symm) e
  exact ⟨ps, at' h1 (by simp), h2, fun pos cv hc => let ⟨c, e1, e2⟩ := h3 pos cv hc; ⟨c, e1, at' e2 (by unfold CodeO; simp)⟩⟩
theorem ext_get {H H' : Hp} (e : ExtN H H') {b : Addr} {o : HO} (h : H b = some o) (n : ∀ ps, o ≠ .tbl ps := by intro ps; simp) : H' b = some o := e b o h n
/-- o.m() within a try -/
def tMethX (C : Addr) (m : Str) (sp : Sp) (E : L2.St → XK) (ta : TE) : TE := fun σ H Q => ta σ H fun x H1 => ∃ a dx fs, x = .ref a ∧ H1 a = some (.ins C dx fs) ∧ fs.lookup m = none ∧ sp [x] H1 Q (E σ)
theorem pe_meth0X {X : Cx} {CX : CXT} {k : Nat} {f C : Addr} {fd : FuncData} {ps : List Str} {sp : Sp} {E : L2.St → XK} {m : Str} {pos apos : Pos} {o : Expr} {ta : TE} {pl : Sem Bool} (he : PE X o ta) (c : Cls X.K C) (hm : Meth X.K C m f) (F : FnOk X.prog X.w X.K X.mg X.base CX k f fd ps sp) (hr : Room k X.A) (hb : Binds X.K fd ps []) (hx : ∀ σ, PassesAt CX X σ (E σ))
    (ht : eval (.Call (.Attribute o m apos) [] [] pos) X.env = (do
      let ov ← eval o X.env
      standAt apos.atName
      let (f, first) ← holding [ov] (getMethod ov m pl)
      callWith pos f first (backTo pos (starEach [] X.env)) (backToKw pos (keywordEach [] X.env))) := by rfl) : PE X (.Call (.Attribute o m apos) [] [] pos) (tMethX C m sp E ta) := by
  refine ⟨fun pins s σ H Q I h => PySem.W.methodCall_KW (pl := pl) (thn (he.run pins s σ H _ I h) fun u s1 ⟨x, H1, I1, rx, a, dx, fs, ex, ea, l, q⟩ => ?_) ht⟩
  subst ex
  obtain rfl : u = Value.ref a := rx
  exact getmeth_ok I1 ea c hm l (PySem.W.callWith_K0 (first := [.ref a]) I1.kIn hm.kp (run_fnS (us := [.ref a]) (vs := [.ref a]) F hr hb (hx σ) I1 (.cons rfl .nil) q))
theorem methX {C : Addr} {m : Str} {sp : Sp} {E : L2.St → XK} {ta : TE} {σ : L2.St} {H : Hp} {Q : VK} (h : ta σ H fun x H1 => ∃ a dx fs, x = .ref a ∧ H1 a = some (.ins C dx fs) ∧ fs.lookup m = none ∧ sp [x] H1 Q (E σ)) : tMethX C m sp E ta σ H Q := h
end LamK

namespace GT
open PySem L2 Z
/-! dicts whose keys are tuples -/
def rListT : List V → Hp → VK → Prop := fun xs H Q => ∃ d kvs, xs = [V.ref d] ∧ Rd H d (.dT kvs) ∧ ∀ p bs, H p = none → IsKeys H kvs bs → Q (.ref p) (upd H p (.lst (bs.map V.ref)))
theorem c_listT {X : Cx} (hc : X.calm = true) : CallR X (.type "list") rListT := call_list_dT hc
theorem dnewT {Q : VK} {σ : L2.St} {H : Hp} (h : ∀ p H1, H p = none → Kp [] H H1 → H1 p = some (.dT []) → Q (.ref p) H1) : tDNewT σ H Q := mk h
/-- a key as data -/
def kD : Key → PyData
  | .inl i => .int i
  | .inr s => .str s
def keyD (k : List Key) : PyData := .tuple (k.map kD)
theorem dp_keys {K : PySem.W.Frag} {H : Hp} : ∀ k : List Key, DpAll K H (k.map kV) (k.map kD)
  | [] => .nil
  | .inl i :: r => .cons (.int i) (dp_keys r)
  | .inr s :: r => .cons (.str s) (dp_keys r)
theorem dp_key {K : PySem.W.Frag} {H : Hp} {b : Addr} {k : List Key} (h : H b = some (.tup (k.map kV))) : Dp K H (.ref b) (keyD k) := .tup (tupT h) (dp_keys k)
theorem keys_depth : ∀ k : List Key, PyData.depthAll (k.map kD) ≤ 1
  | [] => by simp [PyData.depthAll]
  | .inl i :: r => by
    have := keys_depth r
    simp [PyData.depthAll, kD, PyData.depth]
    omega
  | .inr s :: r => by
    have := keys_depth r
    simp [PyData.depthAll, kD, PyData.depth]
    omega
theorem keys_lay : ∀ k : List Key, (∀ s, Sum.inr s ∈ k → PyData.strOk s = true) → PyData.canLayAll0 (k.map kD) = true
  | [], _ => by simp [PyData.canLayAll0]
  | .inl i :: r, h => by
    have := keys_lay r fun s hs => h s (by simp [hs])
    simp [PyData.canLayAll0, kD, PyData.canLay0, this]
  | .inr s :: r, h => by
    have := keys_lay r fun s hs => h s (by simp [hs])
    simp [PyData.canLayAll0, kD, PyData.canLay0, this, h s]
theorem keys_flat : ∀ k : List Key, LamK.noLstAll (k.map kD) = true
  | [] => by simp [LamK.noLstAll]
  | .inl i :: r => by
    have := keys_flat r
    simp [LamK.noLstAll, LamK.noLst, kD, this]
  | .inr s :: r => by
    have := keys_flat r
    simp [LamK.noLstAll, LamK.noLst, kD, this]
end GT

/-! ### dicts whose keys are ints and texts, or tuples of them: which, is the proof's choice -/
namespace GU
open PySem L2 Z GT
abbrev OK := Key ⊕ List Key
def okD : OK → PyData
  | .inl k => kD k
  | .inr ks => keyD ks
/-- a key as a value -/
def OkAt (H : Hp) : OK → V → Prop
  | .inl k, v => v = kV k
  | .inr ks, v => ∃ p, v = .ref p ∧ H p = some (.tup (ks.map kV))
def fm : OK → Bool
  | .inl _ => false
  | .inr _ => true
theorem OkAt.kp {M : List Addr} {H H' : Hp} {k : OK} {v : V} (h : OkAt H k v) (e : Kp M H H') (n : ∀ x ∈ M, ∀ vs, H x ≠ some (.tup vs)) : OkAt H' k v := by
  cases k with
  | inl k => exact h
  | inr ks =>
    obtain ⟨p, e1, e2⟩ := h
    exact ⟨p, e1, e.get (fun z => n _ z _ e2) e2⟩
theorem OkAt.kp0 {H H' : Hp} {k : OK} {v : V} (h : OkAt H k v) (e : Kp [] H H') : OkAt H' k v := h.kp e fun _ h => by cases h
theorem OkAt.dp {K : PySem.W.Frag} {H : Hp} {k : OK} {v : V} (h : OkAt H k v) : Dp K H v (okD k) := by
  cases k with
  | inl k =>
    have h : v = kV k := h
    subst h
    cases k with
    | inl i => exact .int i
    | inr s => exact .str s
  | inr ks =>
    obtain ⟨p, rfl, e⟩ := h
    exact dp_key e
def injK (kvs : List (Key × V)) : List (OK × V) := kvs.map fun x => (.inl x.1, x.2)
def injT (kvs : List (List Key × V)) : List (OK × V) := kvs.map fun x => (.inr x.1, x.2)
theorem valV_injK (kvs : List (Key × V)) (k : Key) : valV (injK kvs) (.inl k) = valV kvs k := by
  unfold valV injK
  rw [List.find?_map, Option.map_map]
  have : ((fun kv : OK × V => decide (kv.1 = Sum.inl k)) ∘ fun x : Key × V => ((Sum.inl x.1 : OK), x.2)) = fun x => decide (x.1 = k) := by
    funext x
    show decide ((Sum.inl x.1 : OK) = Sum.inl k) = decide (x.1 = k)
    by_cases h : x.1 = k
    · rw [h]; simp
    · rw [decide_eq_false h, decide_eq_false (fun z => h (Sum.inl.inj z))]
  rw [this]
  rfl
theorem valV_injT (kvs : List (List Key × V)) (k : List Key) : valV (injT kvs) (.inr k) = valV kvs k := by
  unfold valV injT
  rw [List.find?_map, Option.map_map]
  have : ((fun kv : OK × V => decide (kv.1 = Sum.inr k)) ∘ fun x : List Key × V => ((Sum.inr x.1 : OK), x.2)) = fun x => decide (x.1 = k) := by
    funext x
    show decide ((Sum.inr x.1 : OK) = Sum.inr k) = decide (x.1 = k)
    by_cases h : x.1 = k
    · rw [h]; simp
    · rw [decide_eq_false h, decide_eq_false (fun z => h (Sum.inr.inj z))]
  rw [this]
  rfl
theorem putK_injK (kvs : List (Key × V)) (k : Key) (v : V) : putK (injK kvs) (.inl k) v = injK (putK kvs k v) := by
  have ha : ((injK kvs).any fun kv => decide (kv.1 = Sum.inl k)) = kvs.any fun kv => decide (kv.1 = k) := by
    rw [valV_any, valV_any, valV_injK]
  unfold putK
  rw [ha]
  split
  · unfold injK
    rw [List.map_map, List.map_map]
    refine List.map_congr_left fun x _ => ?_
    show (if (Sum.inl x.1 : OK) = Sum.inl k then ((Sum.inl x.1 : OK), v) else (Sum.inl x.1, x.2)) = ((Sum.inl (if x.1 = k then (x.1, v) else x).1 : OK), (if x.1 = k then (x.1, v) else x).2)
    by_cases h : x.1 = k
    · rw [if_pos (congrArg Sum.inl h), if_pos h]
    · rw [if_neg (fun z => h (Sum.inl.inj z)), if_neg h]
  · unfold injK
    rw [List.map_append]; rfl
theorem putK_injT (kvs : List (List Key × V)) (k : List Key) (v : V) : putK (injT kvs) (.inr k) v = injT (putK kvs k v) := by
  have ha : ((injT kvs).any fun kv => decide (kv.1 = Sum.inr k)) = kvs.any fun kv => decide (kv.1 = k) := by
    rw [valV_any, valV_any, valV_injT]
  unfold putK
  rw [ha]
  split
  · unfold injT
    rw [List.map_map, List.map_map]
    refine List.map_congr_left fun x _ => ?_
    show (if (Sum.inr x.1 : OK) = Sum.inr k then ((Sum.inr x.1 : OK), v) else (Sum.inr x.1, x.2)) = ((Sum.inr (if x.1 = k then (x.1, v) else x).1 : OK), (if x.1 = k then (x.1, v) else x).2)
    by_cases h : x.1 = k
    · rw [if_pos (congrArg Sum.inr h), if_pos h]
    · rw [if_neg (fun z => h (Sum.inr.inj z)), if_neg h]
  · unfold injT
    rw [List.map_append]; rfl
/-- a dict at d; f: its keys are tuples -/
def DA (f : Bool) (H : Hp) (d : Addr) (kvs : List (OK × V)) : Prop := (f = false ∧ ∃ ks, H d = some (.dK ks) ∧ kvs = injK ks) ∨ (f = true ∧ ∃ ks, H d = some (.dT ks) ∧ kvs = injT ks)
theorem DA.kp {M : List Addr} {f : Bool} {H H' : Hp} {d : Addr} {kvs : List (OK × V)} (h : DA f H d kvs) (k : Kp M H H') (n : d ∉ M) : DA f H' d kvs := by
  rcases h with ⟨e, ks, h1, h2⟩ | ⟨e, ks, h1, h2⟩
  · exact .inl ⟨e, ks, k.get n h1, h2⟩
  · exact .inr ⟨e, ks, k.get n h1, h2⟩
theorem DA.kp0 {f : Bool} {H H' : Hp} {d : Addr} {kvs : List (OK × V)} (h : DA f H d kvs) (k : Kp [] H H') : DA f H' d kvs := h.kp k (by simp)
theorem DA.notup {f : Bool} {H : Hp} {d : Addr} {kvs : List (OK × V)} (h : DA f H d kvs) : ∀ x ∈ [d], ∀ vs, H x ≠ some (.tup vs) := fun x hx vs z => by
  rw [List.mem_singleton.mp hx] at z
  rcases h with ⟨_, ks, h1, _⟩ | ⟨_, ks, h1, _⟩ <;> rw [h1] at z <;> cases z
theorem DA.NoTup {f : Bool} {H : Hp} {d : Addr} {kvs : List (OK × V)} (h : DA f H d kvs) : ∃ o, H d = some o ∧ ∀ xs, o ≠ .tup xs ∧ ∀ u, o ≠ .frz u (.tup xs) := by
  rcases h with ⟨_, ks, h1, _⟩ | ⟨_, ks, h1, _⟩
  · exact ⟨_, h1, fun xs => ⟨by simp, by simp⟩⟩
  · exact ⟨_, h1, fun xs => ⟨by simp, by simp⟩⟩
theorem DA.isD {f : Bool} {H : Hp} {d : Addr} {kvs : List (OK × V)} (h : DA f H d kvs) : IsD H d := by
  rcases h with ⟨_, ks, h1, _⟩ | ⟨_, ks, h1, _⟩
  · exact .inl ⟨ks, .inl h1⟩
  · exact .inr ⟨ks, .inl h1⟩
theorem DA.ne {f : Bool} {H : Hp} {d l : Addr} {kvs : List (OK × V)} (h : DA f H d kvs) (n : H l = none) : d ≠ l := by
  rcases h with ⟨_, ks, h1, _⟩ | ⟨_, ks, h1, _⟩ <;> exact ne_of_none h1 n
theorem DA.get {f : Bool} {H : Hp} {d : Addr} {kvs : List (OK × V)} {k : OK} {v : V} (h : DA f H d kvs) (hk : fm k = f) (hv : OkAt H k v) : DGet H d v (valV kvs k) := by
  rcases h with ⟨e, ks, h1, rfl⟩ | ⟨e, ks, h1, rfl⟩
  · cases k with
    | inr ks => rw [e] at hk; cases hk
    | inl k =>
      have hv : v = kV k := hv
      rw [hv, valV_injK]
      exact DGet.k h1
  · cases k with
    | inl k => rw [e] at hk; cases hk
    | inr k =>
      obtain ⟨p, rfl, hp⟩ := hv
      rw [valV_injT]
      exact DGet.t h1 hp
theorem DA.put {f : Bool} {H : Hp} {d : Addr} {kvs : List (OK × V)} {k : OK} {v w : V} (h : DA f H d kvs) (hk : fm k = f) (hv : OkAt H k v) (hl : kvs.length < sizeLine) : ∃ H', DPut H d v w H' ∧ Kp [d] H H' ∧ DA f H' d (putK kvs k w) ∧ ∃ o, H' = upd H d o := by
  rcases h with ⟨e, ks, h1, rfl⟩ | ⟨e, ks, h1, rfl⟩
  · cases k with
    | inr ks => rw [e] at hk; cases hk
    | inl k =>
      have hv : v = kV k := hv
      subst hv
      refine ⟨_, DPut.k h1 (by unfold injK at hl; rwa [List.length_map] at hl), Kp.put (by simp), .inl ⟨e, putK ks k w, upd_same, putK_injK ks k w⟩, _, rfl⟩
  · cases k with
    | inl k => rw [e] at hk; cases hk
    | inr k =>
      obtain ⟨p, rfl, hp⟩ := hv
      refine ⟨_, DPut.t h1 hp (by unfold injT at hl; rwa [List.length_map] at hl), Kp.put (by simp), .inr ⟨e, putK ks k w, upd_same, putK_injT ks k w⟩, _, rfl⟩
/-! {} -/
def tDNewA : TE := fun σ H Q => tDNewK σ H Q ∨ tDNewT σ H Q
theorem pe_dnewA {X : Cx} {pos : Pos} : PE X (.Dict [] [] pos) tDNewA := ⟨fun pins s σ H Q I h => h.elim (fun h => pe_dnewK.run pins s σ H Q I h) (fun h => pe_dnewT.run pins s σ H Q I h)⟩
theorem dnewA {Q : VK} {σ : L2.St} {H : Hp} (f : Bool) (h : ∀ p H1, H p = none → Kp [] H H1 → DA f H1 p [] → Q (.ref p) H1) : tDNewA σ H Q := by
  cases f with
  | false => exact .inl (Z.dnew fun p H1 np k1 e1 => h p H1 np k1 (.inl ⟨rfl, [], e1, rfl⟩))
  | true => exact .inr (GT.dnewT fun p H1 np k1 e1 => h p H1 np k1 (.inr ⟨rfl, [], e1, rfl⟩))
/-! list(d) -/
def rListDK : List V → Hp → VK → Prop := fun xs H Q => ∃ (a : Addr) (kvs : List (Key × V)), xs = [.ref a] ∧ Rd H a (.dK kvs) ∧ ∀ p, H p = none → Q (.ref p) (upd H p (.lst (kvs.map fun kv => kV kv.1)))
def rListA : List V → Hp → VK → Prop := fun xs H Q => rListDK xs H Q ∨ rListT xs H Q
theorem c_listA {X : Cx} (hc : X.calm = true) : CallR X (.type "list") rListA := fun pins s σ H xs us Q I r h => h.elim (fun h => call_listD hc pins s σ H xs us Q I r h) (fun h => c_listT hc pins s σ H xs us Q I r h)
/-- values that stand for these keys -/
inductive KeysAt (H : Hp) : List OK → List V → Prop
  | nil : KeysAt H [] []
  | cons {k : OK} {v : V} {ks : List OK} {vs : List V} : OkAt H k v → KeysAt H ks vs → KeysAt H (k :: ks) (v :: vs)
theorem KeysAt.kp0 {H H' : Hp} (e : Kp [] H H') : ∀ {ks : List OK} {vs : List V}, KeysAt H ks vs → KeysAt H' ks vs
  | _, _, .nil => .nil
  | _, _, .cons h t => .cons (h.kp0 e) (KeysAt.kp0 e t)
theorem KeysAt.dp {K : PySem.W.Frag} {H : Hp} : ∀ {ks : List OK} {vs : List V}, KeysAt H ks vs → DpAll K H vs (ks.map okD)
  | _, _, .nil => .nil
  | _, _, .cons h t => .cons h.dp t.dp
theorem KeysAt.len {H : Hp} : ∀ {ks : List OK} {vs : List V}, KeysAt H ks vs → ks.length = vs.length
  | _, _, .nil => rfl
  | _, _, .cons _ t => by rw [List.length_cons, List.length_cons, t.len]
theorem keysK {H : Hp} : ∀ kvs : List (Key × V), KeysAt H ((injK kvs).map (·.1)) (kvs.map fun kv => kV kv.1)
  | [] => .nil
  | kv :: r => .cons rfl (keysK r)
theorem keysT {H : Hp} : ∀ {kvs : List (List Key × V)} {bs : List Addr}, IsKeys H kvs bs → KeysAt H ((injT kvs).map (·.1)) (bs.map V.ref)
  | [], [], .nil => .nil
  | kv :: kvs, b :: bs, .cons h t => .cons ⟨b, rfl, h⟩ (keysT t)
theorem listA {Q : VK} {f : Bool} {H : Hp} {d : Addr} {kvs : List (OK × V)} (h : DA f H d kvs) (q : ∀ p H1 vs, H p = none → Kp [] H H1 → H1 p = some (.lst vs) → KeysAt H1 (kvs.map (·.1)) vs → Q (.ref p) H1) : rListA [.ref d] H Q := by
  rcases h with ⟨e, ks, h1, rfl⟩ | ⟨e, ks, h1, rfl⟩
  · exact .inl ⟨d, ks, rfl, .inl h1, fun p np => q p _ _ np (Kp.new np) upd_same ((keysK ks).kp0 (Kp.new np))⟩
  · exact .inr ⟨d, ks, rfl, .inl h1, fun p bs np hb => q p _ _ np (Kp.new np) upd_same ((keysT hb).kp0 (Kp.new np))⟩
end GU

/-! ### is True, is not False: of a bool -/
namespace IsB
open PySem PySem.Spec PyProof.Rows L2 PySem.W
def rIsB : R2 := fun x y H Q => ∃ a b, x = .bl a ∧ y = .bl b ∧ Q (.bl (decide (a = b))) H
def rNotB : R2 := fun x y H Q => ∃ a b, x = .bl a ∧ y = .bl b ∧ Q (.bl (!decide (a = b))) H
theorem bl_beq (a b : Bool) : (Value.bool a == Value.bool b) = decide (a = b) := by
  cases a <;> cases b <;> rfl
theorem op_isB {X : Cx} : OpR X (compareOp .Is) rIsB := by
  intro pins s σ H x y v u Q I rx ry h
  obtain ⟨a, b, rfl, rfl, q⟩ := h
  cases (show v = Value.bool a from rx)
  cases (show u = Value.bool b from ry)
  exact wpAny_is_plain rfl (fin_bl I q (bl_beq a b).symm)
theorem op_notB {X : Cx} : OpR X (compareOp .IsNot) rNotB := by
  intro pins s σ H x y v u Q I rx ry h
  obtain ⟨a, b, rfl, rfl, q⟩ := h
  cases (show v = Value.bool a from rx)
  cases (show u = Value.bool b from ry)
  exact wpAny_isNot_plain rfl (fin_bl I q (congrArg not (bl_beq a b).symm))
end IsB

/-! ### one expression, two readings: a method of either of two classes -/
namespace OrP
open PySem PySem.Spec PyProof.Rows L2 PySem.W
def tOr2 (t1 t2 : TE) : TE := fun σ H Q => t1 σ H Q ∨ t2 σ H Q
theorem pe_or2 {X : Cx} {e : Expr} {t1 t2 : TE} (h1 : PE X e t1) (h2 : PE X e t2) : PE X e (tOr2 t1 t2) := ⟨fun pins s σ H Q I h => h.elim (h1.run pins s σ H Q I) (h2.run pins s σ H Q I)⟩
end OrP



namespace K10
open PySem L2 Z
def topS (i : Nat) : Stmt := PySem.Challenge.pw_samphire_k13_whole_fair_dice.main.body.getD i (.Pass ⟨0, 0, 0, 0⟩)
abbrev s_lowest : Stmt := topS 11
abbrev N_lowest : List Str := ["p", "q", "common"]
theorem sc_lowest : FnScope N_lowest ["p", "q"] (defScope s_lowest) := ⟨rfl, rfl, rfl, by decide +kernel, rfl, by decide +kernel, by decide +kernel⟩
abbrev s_plus : Stmt := topS 12
abbrev N_plus : List Str := ["a", "b"]
theorem sc_plus : FnScope N_plus ["a", "b"] (defScope s_plus) := ⟨rfl, rfl, rfl, by decide +kernel, rfl, by decide +kernel, by decide +kernel⟩
abbrev s_times : Stmt := topS 13
abbrev N_times : List Str := ["a", "b"]
theorem sc_times : FnScope N_times ["a", "b"] (defScope s_times) := ⟨rfl, rfl, rfl, by decide +kernel, rfl, by decide +kernel, by decide +kernel⟩
abbrev s_less : Stmt := topS 14
abbrev N_less : List Str := ["a", "b"]
theorem sc_less : FnScope N_less ["a", "b"] (defScope s_less) := ⟨rfl, rfl, rfl, by decide +kernel, rfl, by decide +kernel, by decide +kernel⟩
abbrev s_sum_of : Stmt := topS 15
abbrev N_sum_of : List Str := ["fractions", "total", "fraction"]
theorem sc_sum_of : FnScope N_sum_of ["fractions"] (defScope s_sum_of) := ⟨rfl, rfl, rfl, by decide +kernel, rfl, by decide +kernel, by decide +kernel⟩
abbrev s_check_chances : Stmt := topS 17
abbrev N_check_chances : List Str := ["chances", "chance"]
theorem sc_check_chances : FnScope N_check_chances ["chances"] (defScope s_check_chances) := ⟨rfl, rfl, rfl, by decide +kernel, rfl, by decide +kernel, by decide +kernel⟩
abbrev s_law_from : Stmt := topS 18
abbrev N_law_from : List Str := ["rows", "found", "outcome", "chance"]
theorem sc_law_from : FnScope N_law_from ["rows"] (defScope s_law_from) := ⟨rfl, rfl, rfl, by decide +kernel, rfl, by decide +kernel, by decide +kernel⟩
abbrev s_next_number : Stmt := topS 21
abbrev N_next_number : List Str := ["weights", "start", "number"]
theorem sc_next_number : FnScope N_next_number ["weights", "start"] (defScope s_next_number) := ⟨rfl, rfl, rfl, by decide +kernel, rfl, by decide +kernel, by decide +kernel⟩
abbrev s_chance_behind : Stmt := topS 22
abbrev N_chance_behind : List Str := ["path", "weights", "total", "number", "before"]
theorem sc_chance_behind : FnScope N_chance_behind ["path"] (defScope s_chance_behind) := ⟨rfl, rfl, rfl, by decide +kernel, rfl, by decide +kernel, by decide +kernel⟩
abbrev s_following : Stmt := topS 23
abbrev N_following : List Str := ["path", "place", "weights", "total", "number", "before", "further"]
theorem sc_following : FnScope N_following ["path"] (defScope s_following) := ⟨rfl, rfl, rfl, by decide +kernel, rfl, by decide +kernel, by decide +kernel⟩
abbrev s_Explorer_init : Stmt := inClass (topS 24) 0
abbrev N_Explorer_init : List Str := ["self"]
theorem sc_Explorer_init : FnScope N_Explorer_init ["self"] (defScope s_Explorer_init) := ⟨rfl, rfl, rfl, by decide +kernel, rfl, by decide +kernel, by decide +kernel⟩
abbrev s_Explorer_begin : Stmt := inClass (topS 24) 1
abbrev N_Explorer_begin : List Str := ["self", "path"]
theorem sc_Explorer_begin : FnScope N_Explorer_begin ["self"] (defScope s_Explorer_begin) := ⟨rfl, rfl, rfl, by decide +kernel, rfl, by decide +kernel, by decide +kernel⟩
abbrev s_Explorer_pick : Stmt := inClass (topS 24) 2
abbrev N_Explorer_pick : List Str := ["self", "weights", "number"]
theorem sc_Explorer_pick : FnScope N_Explorer_pick ["self", "weights"] (defScope s_Explorer_pick) := ⟨rfl, rfl, rfl, by decide +kernel, rfl, by decide +kernel, by decide +kernel⟩
abbrev s_Explorer_end : Stmt := inClass (topS 24) 3
abbrev N_Explorer_end : List Str := ["self", "outcome"]
theorem sc_Explorer_end : FnScope N_Explorer_end ["self", "outcome"] (defScope s_Explorer_end) := ⟨rfl, rfl, rfl, by decide +kernel, rfl, by decide +kernel, by decide +kernel⟩
abbrev s_Explorer_runs : Stmt := inClass (topS 24) 4
abbrev N_Explorer_runs : List Str := ["self"]
theorem sc_Explorer_runs : FnScope N_Explorer_runs ["self"] (defScope s_Explorer_runs) := ⟨rfl, rfl, rfl, by decide +kernel, rfl, by decide +kernel, by decide +kernel⟩
abbrev s_Explorer_gathered : Stmt := inClass (topS 24) 5
abbrev N_Explorer_gathered : List Str := ["self"]
theorem sc_Explorer_gathered : FnScope N_Explorer_gathered ["self"] (defScope s_Explorer_gathered) := ⟨rfl, rfl, rfl, by decide +kernel, rfl, by decide +kernel, by decide +kernel⟩
abbrev s_number_at : Stmt := topS 26
abbrev N_number_at : List Str := ["weights", "place", "number", "left"]
theorem sc_number_at : FnScope N_number_at ["weights", "place"] (defScope s_number_at) := ⟨rfl, rfl, rfl, by decide +kernel, rfl, by decide +kernel, by decide +kernel⟩
abbrev s_Tape_init : Stmt := inClass (topS 27) 0
abbrev N_Tape_init : List Str := ["self", "numbers"]
theorem sc_Tape_init : FnScope N_Tape_init ["self", "numbers"] (defScope s_Tape_init) := ⟨rfl, rfl, rfl, by decide +kernel, rfl, by decide +kernel, by decide +kernel⟩
abbrev s_Tape_pick : Stmt := inClass (topS 27) 1
abbrev N_Tape_pick : List Str := ["self", "weights", "place", "picked"]
theorem sc_Tape_pick : FnScope N_Tape_pick ["self", "weights"] (defScope s_Tape_pick) := ⟨rfl, rfl, rfl, by decide +kernel, rfl, by decide +kernel, by decide +kernel⟩
abbrev s__law_deck : Stmt := topS 29
abbrev N__law_deck : List Str := ["script"]
theorem sc__law_deck : FnScope N__law_deck ["script"] (defScope s__law_deck) := ⟨rfl, rfl, rfl, by decide +kernel, rfl, by decide +kernel, by decide +kernel⟩
abbrev s__law_draw : Stmt := topS 30
abbrev N__law_draw : List Str := ["deck", "most", "value", "cell"]
theorem sc__law_draw : FnScope N__law_draw ["deck", "most"] (defScope s__law_draw) := ⟨rfl, rfl, rfl, by decide +kernel, rfl, by decide +kernel, by decide +kernel⟩
abbrev s__law_low : Stmt := topS 31
abbrev N__law_low : List Str := ["p", "q", "first", "second", "turn"]
theorem sc__law_low : FnScope N__law_low ["p", "q"] (defScope s__law_low) := ⟨rfl, rfl, rfl, by decide +kernel, rfl, by decide +kernel, by decide +kernel⟩
abbrev s__law_weights : Stmt := topS 35
abbrev N__law_weights : List Str := ["deck", "most", "weights", "k"]
theorem sc__law_weights : FnScope N__law_weights ["deck", "most"] (defScope s__law_weights) := ⟨rfl, rfl, rfl, by decide +kernel, rfl, by decide +kernel, by decide +kernel⟩
abbrev s__law_tree : Stmt := topS 36
abbrev N__law_tree : List Str := ["deck", "depth", "form", "outcome", "weights", "children", "weight", "child"]
theorem sc__law_tree : FnScope N__law_tree ["deck", "depth", "form"] (defScope s__law_tree) := ⟨rfl, rfl, rfl, by decide +kernel, rfl, by decide +kernel, by decide +kernel⟩
abbrev s__law_deed : Stmt := topS 37
abbrev N__law_deed : List Str := ["tree", "dice", "path", "turn", "number"]
theorem sc__law_deed : FnScope N__law_deed ["tree", "dice", "path"] (defScope s__law_deed) := ⟨rfl, rfl, rfl, by decide +kernel, rfl, by decide +kernel, by decide +kernel⟩
abbrev s__law_depth : Stmt := topS 40
abbrev N__law_depth : List Str := ["tree", "child"]
theorem sc__law_depth : FnScope N__law_depth ["tree"] (defScope s__law_depth) := ⟨rfl, rfl, rfl, by decide +kernel, rfl, by decide +kernel, by decide +kernel⟩
abbrev s__law_common : Stmt := topS 41
abbrev N__law_common : List Str := ["tree", "common", "child", "other"]
theorem sc__law_common : FnScope N__law_common ["tree"] (defScope s__law_common) := ⟨rfl, rfl, rfl, by decide +kernel, rfl, by decide +kernel, by decide +kernel⟩
abbrev s__law_shared : Stmt := topS 42
abbrev N__law_shared : List Str := ["first", "second", "turn"]
theorem sc__law_shared : FnScope N__law_shared ["first", "second"] (defScope s__law_shared) := ⟨rfl, rfl, rfl, by decide +kernel, rfl, by decide +kernel, by decide +kernel⟩
abbrev s__law_lists : Stmt := topS 43
abbrev N__law_lists : List Str := ["side", "depth", "found", "turn", "longer", "one", "number"]
theorem sc__law_lists : FnScope N__law_lists ["side", "depth"] (defScope s__law_lists) := ⟨rfl, rfl, rfl, by decide +kernel, rfl, by decide +kernel, by decide +kernel⟩
abbrev s__law_power : Stmt := topS 44
abbrev N__law_power : List Str := ["side", "depth", "power", "turn"]
theorem sc__law_power : FnScope N__law_power ["side", "depth"] (defScope s__law_power) := ⟨rfl, rfl, rfl, by decide +kernel, rfl, by decide +kernel, by decide +kernel⟩
abbrev s_law : Stmt := topS 45
abbrev N_law : List Str := ["script", "deck", "tree", "side", "depth", "explorer", "turn", "counts", "lists", "numbers", "outcome", "due"]
theorem sc_law : FnScope N_law ["script"] (defScope s_law) := ⟨rfl, rfl, rfl, by decide +kernel, rfl, by decide +kernel, by decide +kernel⟩
abbrev s_TooLarge_init : Stmt := inClass (topS 4) 0
abbrev N_TooLarge_init : List Str := ["self", "limit", "__class__"]
theorem sc_TooLarge_init : NdefX.NScope N_TooLarge_init ["self", "limit"] ["__class__"] (defScope s_TooLarge_init) := NdefX.nscope_by (by decide +kernel)
abbrev NF_TooLarge (cc c : Addr) : NdefX.NF := ⟨"__init__", "TooLarge.__init__", defArgs s_TooLarge_init, defBody s_TooLarge_init, defScope s_TooLarge_init, [(("__class__" : Str), cc)], c⟩
abbrev s_ZeroDenominator_init : Stmt := inClass (topS 5) 0
abbrev N_ZeroDenominator_init : List Str := ["self", "__class__"]
theorem sc_ZeroDenominator_init : NdefX.NScope N_ZeroDenominator_init ["self"] ["__class__"] (defScope s_ZeroDenominator_init) := NdefX.nscope_by (by decide +kernel)
abbrev NF_ZeroDenominator (cc c : Addr) : NdefX.NF := ⟨"__init__", "ZeroDenominator.__init__", defArgs s_ZeroDenominator_init, defBody s_ZeroDenominator_init, defScope s_ZeroDenominator_init, [(("__class__" : Str), cc)], c⟩
abbrev s_InvalidLaw_init : Stmt := inClass (topS 6) 0
abbrev N_InvalidLaw_init : List Str := ["self", "__class__"]
theorem sc_InvalidLaw_init : NdefX.NScope N_InvalidLaw_init ["self"] ["__class__"] (defScope s_InvalidLaw_init) := NdefX.nscope_by (by decide +kernel)
abbrev NF_InvalidLaw (cc c : Addr) : NdefX.NF := ⟨"__init__", "InvalidLaw.__init__", defArgs s_InvalidLaw_init, defBody s_InvalidLaw_init, defScope s_InvalidLaw_init, [(("__class__" : Str), cc)], c⟩
abbrev s_NotEnded_init : Stmt := inClass (topS 7) 0
abbrev N_NotEnded_init : List Str := ["self", "__class__"]
theorem sc_NotEnded_init : NdefX.NScope N_NotEnded_init ["self"] ["__class__"] (defScope s_NotEnded_init) := NdefX.nscope_by (by decide +kernel)
abbrev NF_NotEnded (cc c : Addr) : NdefX.NF := ⟨"__init__", "NotEnded.__init__", defArgs s_NotEnded_init, defBody s_NotEnded_init, defScope s_NotEnded_init, [(("__class__" : Str), cc)], c⟩
set_option maxHeartbeats 4000000 in
structure T (P : Program) (K : PySem.W.Frag) (mg : Str → Option Value) (base : Heap) where
  a_lowest : Addr
  fd_lowest : FuncData
  F_lowest : Fun K "lowest" "lowest" s_lowest a_lowest fd_lowest
  b_lowest : Binds K fd_lowest ["p", "q"] []
  g_lowest : mg "lowest" = some (.ref a_lowest)
  a_plus : Addr
  fd_plus : FuncData
  F_plus : Fun K "plus" "plus" s_plus a_plus fd_plus
  b_plus : Binds K fd_plus ["a", "b"] []
  g_plus : mg "plus" = some (.ref a_plus)
  a_times : Addr
  fd_times : FuncData
  F_times : Fun K "times" "times" s_times a_times fd_times
  b_times : Binds K fd_times ["a", "b"] []
  g_times : mg "times" = some (.ref a_times)
  a_less : Addr
  fd_less : FuncData
  F_less : Fun K "less" "less" s_less a_less fd_less
  b_less : Binds K fd_less ["a", "b"] []
  g_less : mg "less" = some (.ref a_less)
  a_sum_of : Addr
  fd_sum_of : FuncData
  F_sum_of : Fun K "sum_of" "sum_of" s_sum_of a_sum_of fd_sum_of
  b_sum_of : Binds K fd_sum_of ["fractions"] []
  g_sum_of : mg "sum_of" = some (.ref a_sum_of)
  a_check_chances : Addr
  fd_check_chances : FuncData
  F_check_chances : Fun K "check_chances" "check_chances" s_check_chances a_check_chances fd_check_chances
  b_check_chances : Binds K fd_check_chances ["chances"] []
  g_check_chances : mg "check_chances" = some (.ref a_check_chances)
  a_law_from : Addr
  fd_law_from : FuncData
  F_law_from : Fun K "law_from" "law_from" s_law_from a_law_from fd_law_from
  b_law_from : Binds K fd_law_from ["rows"] []
  g_law_from : mg "law_from" = some (.ref a_law_from)
  a_next_number : Addr
  fd_next_number : FuncData
  F_next_number : Fun K "next_number" "next_number" s_next_number a_next_number fd_next_number
  b_next_number : Binds K fd_next_number ["weights", "start"] []
  g_next_number : mg "next_number" = some (.ref a_next_number)
  a_chance_behind : Addr
  fd_chance_behind : FuncData
  F_chance_behind : Fun K "chance_behind" "chance_behind" s_chance_behind a_chance_behind fd_chance_behind
  b_chance_behind : Binds K fd_chance_behind ["path"] []
  g_chance_behind : mg "chance_behind" = some (.ref a_chance_behind)
  a_following : Addr
  fd_following : FuncData
  F_following : Fun K "following" "following" s_following a_following fd_following
  b_following : Binds K fd_following ["path"] []
  g_following : mg "following" = some (.ref a_following)
  a_Explorer_init : Addr
  fd_Explorer_init : FuncData
  F_Explorer_init : Fun K "__init__" "Explorer.__init__" s_Explorer_init a_Explorer_init fd_Explorer_init
  b_Explorer_init : Binds K fd_Explorer_init ["self"] []
  a_Explorer_begin : Addr
  fd_Explorer_begin : FuncData
  F_Explorer_begin : Fun K "begin" "Explorer.begin" s_Explorer_begin a_Explorer_begin fd_Explorer_begin
  b_Explorer_begin : Binds K fd_Explorer_begin ["self"] []
  a_Explorer_pick : Addr
  fd_Explorer_pick : FuncData
  F_Explorer_pick : Fun K "pick" "Explorer.pick" s_Explorer_pick a_Explorer_pick fd_Explorer_pick
  b_Explorer_pick : Binds K fd_Explorer_pick ["self", "weights"] []
  a_Explorer_end : Addr
  fd_Explorer_end : FuncData
  F_Explorer_end : Fun K "end" "Explorer.end" s_Explorer_end a_Explorer_end fd_Explorer_end
  b_Explorer_end : Binds K fd_Explorer_end ["self", "outcome"] []
  a_Explorer_runs : Addr
  fd_Explorer_runs : FuncData
  F_Explorer_runs : Fun K "runs" "Explorer.runs" s_Explorer_runs a_Explorer_runs fd_Explorer_runs
  b_Explorer_runs : Binds K fd_Explorer_runs ["self"] []
  a_Explorer_gathered : Addr
  fd_Explorer_gathered : FuncData
  F_Explorer_gathered : Fun K "gathered" "Explorer.gathered" s_Explorer_gathered a_Explorer_gathered fd_Explorer_gathered
  b_Explorer_gathered : Binds K fd_Explorer_gathered ["self"] []
  a_number_at : Addr
  fd_number_at : FuncData
  F_number_at : Fun K "number_at" "number_at" s_number_at a_number_at fd_number_at
  b_number_at : Binds K fd_number_at ["weights", "place"] []
  g_number_at : mg "number_at" = some (.ref a_number_at)
  a_Tape_init : Addr
  fd_Tape_init : FuncData
  F_Tape_init : Fun K "__init__" "Tape.__init__" s_Tape_init a_Tape_init fd_Tape_init
  b_Tape_init : Binds K fd_Tape_init ["self", "numbers"] []
  a_Tape_pick : Addr
  fd_Tape_pick : FuncData
  F_Tape_pick : Fun K "pick" "Tape.pick" s_Tape_pick a_Tape_pick fd_Tape_pick
  b_Tape_pick : Binds K fd_Tape_pick ["self", "weights"] []
  a__law_deck : Addr
  fd__law_deck : FuncData
  F__law_deck : Fun K "_law_deck" "_law_deck" s__law_deck a__law_deck fd__law_deck
  b__law_deck : Binds K fd__law_deck ["script"] []
  g__law_deck : mg "_law_deck" = some (.ref a__law_deck)
  a__law_draw : Addr
  fd__law_draw : FuncData
  F__law_draw : Fun K "_law_draw" "_law_draw" s__law_draw a__law_draw fd__law_draw
  b__law_draw : Binds K fd__law_draw ["deck", "most"] []
  g__law_draw : mg "_law_draw" = some (.ref a__law_draw)
  a__law_low : Addr
  fd__law_low : FuncData
  F__law_low : Fun K "_law_low" "_law_low" s__law_low a__law_low fd__law_low
  b__law_low : Binds K fd__law_low ["p", "q"] []
  g__law_low : mg "_law_low" = some (.ref a__law_low)
  a__law_weights : Addr
  fd__law_weights : FuncData
  F__law_weights : Fun K "_law_weights" "_law_weights" s__law_weights a__law_weights fd__law_weights
  b__law_weights : Binds K fd__law_weights ["deck", "most"] []
  g__law_weights : mg "_law_weights" = some (.ref a__law_weights)
  a__law_tree : Addr
  fd__law_tree : FuncData
  F__law_tree : Fun K "_law_tree" "_law_tree" s__law_tree a__law_tree fd__law_tree
  b__law_tree : Binds K fd__law_tree ["deck", "depth", "form"] []
  g__law_tree : mg "_law_tree" = some (.ref a__law_tree)
  a__law_deed : Addr
  fd__law_deed : FuncData
  F__law_deed : Fun K "_law_deed" "_law_deed" s__law_deed a__law_deed fd__law_deed
  b__law_deed : Binds K fd__law_deed ["tree", "dice", "path"] []
  g__law_deed : mg "_law_deed" = some (.ref a__law_deed)
  a__law_depth : Addr
  fd__law_depth : FuncData
  F__law_depth : Fun K "_law_depth" "_law_depth" s__law_depth a__law_depth fd__law_depth
  b__law_depth : Binds K fd__law_depth ["tree"] []
  g__law_depth : mg "_law_depth" = some (.ref a__law_depth)
  a__law_common : Addr
  fd__law_common : FuncData
  F__law_common : Fun K "_law_common" "_law_common" s__law_common a__law_common fd__law_common
  b__law_common : Binds K fd__law_common ["tree"] []
  g__law_common : mg "_law_common" = some (.ref a__law_common)
  a__law_shared : Addr
  fd__law_shared : FuncData
  F__law_shared : Fun K "_law_shared" "_law_shared" s__law_shared a__law_shared fd__law_shared
  b__law_shared : Binds K fd__law_shared ["first", "second"] []
  g__law_shared : mg "_law_shared" = some (.ref a__law_shared)
  a__law_lists : Addr
  fd__law_lists : FuncData
  F__law_lists : Fun K "_law_lists" "_law_lists" s__law_lists a__law_lists fd__law_lists
  b__law_lists : Binds K fd__law_lists ["side", "depth"] []
  g__law_lists : mg "_law_lists" = some (.ref a__law_lists)
  a__law_power : Addr
  fd__law_power : FuncData
  F__law_power : Fun K "_law_power" "_law_power" s__law_power a__law_power fd__law_power
  b__law_power : Binds K fd__law_power ["side", "depth"] []
  g__law_power : mg "_law_power" = some (.ref a__law_power)
  a_law : Addr
  fd_law : FuncData
  F_law : Fun K "law" "law" s_law a_law fd_law
  b_law : Binds K fd_law ["script"] []
  g_law : mg "law" = some (.ref a_law)
  C_Explorer : Addr
  cl_Explorer : Cls K C_Explorer
  mg_Explorer : mg "Explorer" = some (.ref C_Explorer)
  mk_Explorer : Mk K C_Explorer a_Explorer_init
  na_Explorer__path : NoAttr K C_Explorer "_path"
  na_Explorer__made : NoAttr K C_Explorer "_made"
  na_Explorer__running : NoAttr K C_Explorer "_running"
  na_Explorer__finished : NoAttr K C_Explorer "_finished"
  na_Explorer__rows : NoAttr K C_Explorer "_rows"
  me_Explorer_begin : Meth K C_Explorer "begin" a_Explorer_begin
  me_Explorer_pick : Meth K C_Explorer "pick" a_Explorer_pick
  me_Explorer_end : Meth K C_Explorer "end" a_Explorer_end
  me_Explorer_runs : Meth K C_Explorer "runs" a_Explorer_runs
  me_Explorer_gathered : Meth K C_Explorer "gathered" a_Explorer_gathered
  C_Tape : Addr
  cl_Tape : Cls K C_Tape
  mg_Tape : mg "Tape" = some (.ref C_Tape)
  mk_Tape : Mk K C_Tape a_Tape_init
  na_Tape__numbers : NoAttr K C_Tape "_numbers"
  na_Tape__picks : NoAttr K C_Tape "_picks"
  me_Tape_pick : Meth K C_Tape "pick" a_Tape_pick
  C_SamphireError : Addr
  mg_SamphireError : mg "SamphireError" = some (.ref C_SamphireError)
  C_TooLarge : Addr
  a_TooLarge_init : Addr
  c_TooLarge : Addr
  cc_TooLarge : Addr
  x_TooLarge : Sup.ExcT P K mg "TooLarge" C_TooLarge a_TooLarge_init c_TooLarge cc_TooLarge
  doc_TooLarge : Value
  pm_TooLarge : Value
  ctv_TooLarge : Value
  oc_TooLarge : Value
  od_TooLarge : Option Addr
  osl_TooLarge : Array (Option Value)
  lk_TooLarge : K.lookup a_TooLarge_init = some ⟨oc_TooLarge, od_TooLarge, .func ((NF_TooLarge cc_TooLarge c_TooLarge).fd doc_TooLarge pm_TooLarge ctv_TooLarge), osl_TooLarge⟩
  hc_TooLarge : PySem.W.codeIn K (.ref c_TooLarge) "TooLarge.__init__" = true
  bx_TooLarge : Binds K ((NF_TooLarge cc_TooLarge c_TooLarge).fd doc_TooLarge pm_TooLarge ctv_TooLarge) ["self", "limit"] []
  nf_TooLarge_limit : PySem.W.findIn K (.ref C_TooLarge) "limit" = some none
  C_ZeroDenominator : Addr
  a_ZeroDenominator_init : Addr
  c_ZeroDenominator : Addr
  cc_ZeroDenominator : Addr
  x_ZeroDenominator : Sup.ExcT P K mg "ZeroDenominator" C_ZeroDenominator a_ZeroDenominator_init c_ZeroDenominator cc_ZeroDenominator
  doc_ZeroDenominator : Value
  pm_ZeroDenominator : Value
  ctv_ZeroDenominator : Value
  oc_ZeroDenominator : Value
  od_ZeroDenominator : Option Addr
  osl_ZeroDenominator : Array (Option Value)
  lk_ZeroDenominator : K.lookup a_ZeroDenominator_init = some ⟨oc_ZeroDenominator, od_ZeroDenominator, .func ((NF_ZeroDenominator cc_ZeroDenominator c_ZeroDenominator).fd doc_ZeroDenominator pm_ZeroDenominator ctv_ZeroDenominator), osl_ZeroDenominator⟩
  hc_ZeroDenominator : PySem.W.codeIn K (.ref c_ZeroDenominator) "ZeroDenominator.__init__" = true
  bx_ZeroDenominator : Binds K ((NF_ZeroDenominator cc_ZeroDenominator c_ZeroDenominator).fd doc_ZeroDenominator pm_ZeroDenominator ctv_ZeroDenominator) ["self"] []
  C_InvalidLaw : Addr
  a_InvalidLaw_init : Addr
  c_InvalidLaw : Addr
  cc_InvalidLaw : Addr
  x_InvalidLaw : Sup.ExcT P K mg "InvalidLaw" C_InvalidLaw a_InvalidLaw_init c_InvalidLaw cc_InvalidLaw
  doc_InvalidLaw : Value
  pm_InvalidLaw : Value
  ctv_InvalidLaw : Value
  oc_InvalidLaw : Value
  od_InvalidLaw : Option Addr
  osl_InvalidLaw : Array (Option Value)
  lk_InvalidLaw : K.lookup a_InvalidLaw_init = some ⟨oc_InvalidLaw, od_InvalidLaw, .func ((NF_InvalidLaw cc_InvalidLaw c_InvalidLaw).fd doc_InvalidLaw pm_InvalidLaw ctv_InvalidLaw), osl_InvalidLaw⟩
  hc_InvalidLaw : PySem.W.codeIn K (.ref c_InvalidLaw) "InvalidLaw.__init__" = true
  bx_InvalidLaw : Binds K ((NF_InvalidLaw cc_InvalidLaw c_InvalidLaw).fd doc_InvalidLaw pm_InvalidLaw ctv_InvalidLaw) ["self"] []
  C_NotEnded : Addr
  a_NotEnded_init : Addr
  c_NotEnded : Addr
  cc_NotEnded : Addr
  x_NotEnded : Sup.ExcT P K mg "NotEnded" C_NotEnded a_NotEnded_init c_NotEnded cc_NotEnded
  doc_NotEnded : Value
  pm_NotEnded : Value
  ctv_NotEnded : Value
  oc_NotEnded : Value
  od_NotEnded : Option Addr
  osl_NotEnded : Array (Option Value)
  lk_NotEnded : K.lookup a_NotEnded_init = some ⟨oc_NotEnded, od_NotEnded, .func ((NF_NotEnded cc_NotEnded c_NotEnded).fd doc_NotEnded pm_NotEnded ctv_NotEnded), osl_NotEnded⟩
  hc_NotEnded : PySem.W.codeIn K (.ref c_NotEnded) "NotEnded.__init__" = true
  bx_NotEnded : Binds K ((NF_NotEnded cc_NotEnded c_NotEnded).fd doc_NotEnded pm_NotEnded ctv_NotEnded) ["self"] []
  z_abs : mg "abs" = none
  z_int : mg "int" = none
  z_len : mg "len" = none
  z_list : mg "list" = none
  z_max : mg "max" = none
  z_range : mg "range" = none
  z_reversed : mg "reversed" = none
  z_sorted : mg "sorted" = none
  z_sum : mg "sum" = none
  z_super : mg "super" = none
  v_MOST_RUNS : Value
  g_MOST_RUNS : mg "MOST_RUNS" = some v_MOST_RUNS
  r_MOST_RUNS : RelV (.int (20000)) v_MOST_RUNS
  k_ZERO : Addr
  g_ZERO : mg "ZERO" = some (.ref k_ZERO)
  q_ZERO : ∀ H, SqT K H k_ZERO [.int (0), .int (1)]
  k_ONE : Addr
  g_ONE : mg "ONE" = some (.ref k_ONE)
  q_ONE : ∀ H, SqT K H k_ONE [.int (1), .int (1)]
  g_gcd : mg "gcd" = some (.builtin "math.gcd")
  c_law_from : Addr
  P_law_from : Addr
  TB_law_from : LamX.TabB base mg c_law_from P_law_from
  L_law_from : LamK.CodeFn K a_law_from fd_law_from s_law_from "law_from" c_law_from
/-! ### the walk by single steps -/
local macro_rules | `(tactic| walk_at "z1") => `(tactic| first
  | with_reducible refine Z.seq ?_
  | with_reducible refine Z.asg ?_
  | ((with_reducible refine' Z.gname ?zv ?_); (case zv => first | (dsimp only [List.set]; done) | (dsimp only [List.set]; exact rfl)))
  | ((with_reducible refine' Z.var ?zv ?_); (case zv => exact rfl))
  | with_reducible refine Z.cst ?_
  | with_reducible refine Z.op ?_
  | with_reducible refine Z.un ?_
  | with_reducible refine Z.i0 ?_
  | with_reducible refine Z.iU ?_
  | with_reducible refine Z.eqII ?_
  | with_reducible refine Z.neII ?_
  | with_reducible refine Z.eqSS ?_
  | with_reducible refine Z.neSS ?_
  | with_reducible refine Z.eqBB ?_
  | with_reducible refine Z.neBB ?_
  | with_reducible refine Z.bl' ?_
  | with_reducible refine Z.test ?_
  | with_reducible refine Z.tbb ?_
  | with_reducible refine Z.tand ?_
  | with_reducible refine Z.tor ?_
  | with_reducible refine Z.tnot ?_
  | with_reducible refine Z.tyes ?_
  | with_reducible refine Z.andV ?_
  | with_reducible refine Z.orV ?_
  | with_reducible refine Z.notV ?_
  | with_reducible refine Z.ifE ?_
  | with_reducible refine Z.chain ?_
  | with_reducible refine Z.yesB ?_
  | with_reducible refine Z.noB ?_
  | with_reducible refine Z.noNB ?_
  | with_reducible refine Z.yesNB ?_
  | with_reducible refine Z.nil ?_
  | with_reducible refine Z.cons ?_
  | with_reducible refine Z.cb ?_
  | with_reducible refine Z.call ?_
  | with_reducible refine Z.meth ?_
  | with_reducible refine Z.fld ?_
  | with_reducible refine Z.int1 ?_
  | with_reducible refine Z.intb ?_
  | with_reducible refine Z.abs1 ?_
  | with_reducible refine Z.gcons ?_
  | with_reducible refine Z.gnil ?_
  | with_reducible refine Z.gcd ?_
  | ((with_reducible refine' Z.par2 ?zv ?_); (case zv => first | (dsimp only [List.set]; done) | (dsimp only [List.set]; exact rfl)))
  | with_reducible refine Z.isN ?_
  | with_reducible refine Z.notN ?_
  | with_reducible refine Z.inSg ?_
  | with_reducible refine Z.ninSg ?_
  | with_reducible refine Z.tup ?_
  | with_reducible refine Z.lst ?_
  | with_reducible refine Z.gsub ?_
  | with_reducible refine Z.par ?_
  | ((with_reducible refine' Z.aug ?zv ?_); (case zv => exact rfl))
  | with_reducible refine Z.ipI' ?_
  | with_reducible refine Z.ifs ?_
  | with_reducible refine Z.ret ?_
  | with_reducible refine Z.retN ?_
  | with_reducible refine Z.next ?_
  | with_reducible refine Z.brk ?_
  | with_reducible refine Z.drop ?_
  | with_reducible refine Z.bm ?_
  | with_reducible refine Z.bm0 ?_
  | with_reducible refine Z.sfld ?_
  | with_reducible refine Z.sfldaug ?_
  | with_reducible refine Z.radd ?_
  | with_reducible refine Z.make ?_
  | with_reducible refine Z.lc ?_
  | with_reducible refine Z.rng1 ?_
  | with_reducible refine Z.ilist ?_
  | with_reducible refine Z.itup ?_
  | with_reducible refine Z.for_ ?_
  | with_reducible refine Z.istr ?_
  | with_reducible refine Z.ienum ?_
  | with_reducible refine Z.izip ?_
  | with_reducible refine Z.irng2 ?_
  | with_reducible refine LamK.srt ?_
  | with_reducible refine Z.irevr ?_
  | with_reducible refine Z.rg1 ?_
  | with_reducible refine LamK.methX ?_
  | with_reducible refine Z.augs ?_
  | with_reducible refine Z.ienumS ?_
  | with_reducible refine Z.din ?_
  | with_reducible refine Z.dput ?_
  | with_reducible refine Z.dget ?_
  | with_reducible refine Z.dget2 ?_
  | with_reducible refine Z.sl ?_
  | with_reducible refine Z.slno ?_
  | with_reducible refine Z.slpart ?_
  | with_reducible refine Z.bint ?_
  | with_reducible refine Z.listrev ?_
  | with_reducible refine Z.revl ?_
  | dsimp only)
local macro_rules | `(tactic| walk_at "z0") => `(tactic| ((try simp only [Z.cxK]); (try dsimp only [L2.start, List.map, List.length, Nat.reduceAdd, Nat.reduceSub, List.replicate, List.cons_append, List.nil_append])))
local macro_rules | `(tactic| walk_at "z") => `(tactic| (repeat (walk_at "z1")))

/-! ### the deck of a law: _law_deck, _law_draw -/
def DeckOk (H : Hp) (a p : Addr) : Prop := ∃ (ns : List Int) (i : Nat) (r s : Int), H a = some (.lst [.ref p, .int (i : Int), .int r, .int s]) ∧ H p = some (.lst (ns.map V.int)) ∧ p ≠ a
theorem DeckOk.ne {H : Hp} {a p l : Addr} (d : DeckOk H a p) (h : H l = none) : a ≠ l ∧ p ≠ l := by
  obtain ⟨ns, i, r, s, ha, hp, _⟩ := d
  exact ⟨ne_of_none ha h, ne_of_none hp h⟩
theorem DeckOk.kp {M : List Addr} {H H' : Hp} {a p : Addr} (d : DeckOk H a p) (k : Kp M H H') (n1 : a ∉ M) (n2 : p ∉ M) : DeckOk H' a p := by
  obtain ⟨ns, i, r, s, ha, hp, hne⟩ := d
  exact ⟨ns, i, r, s, k _ _ n1 ha, k _ _ n2 hp, hne⟩
theorem DeckOk.kp0 {H H' : Hp} {a p : Addr} (d : DeckOk H a p) (k : Kp [] H H') : DeckOk H' a p := d.kp k nin0 nin0
theorem DeckOk.upd {H : Hp} {a p l : Addr} {o : HO} (d : DeckOk H a p) (n1 : a ≠ l) (n2 : p ≠ l) : DeckOk (upd H l o) a p := by
  obtain ⟨ns, i, r, s, ha, hp, hne⟩ := d
  exact ⟨ns, i, r, s, (upd_ne n1).trans ha, (upd_ne n2).trans hp, hne⟩
def spDeck (K : PySem.W.Frag) : Sp := fun vs H Q _ => ∃ (c : Addr) (ns : List Int), vs = [.ref c] ∧ SqL K H c (ns.map V.int) ∧ ∀ a p H', H a = none → H p = none → Kp [] H H' → DeckOk H' a p → Q (.ref a) H'
theorem ok__law_deck {P : Program} {w : World} {K : PySem.W.Frag} {mg : Str → Option Value} {base : Heap} (T : T P K mg base) : FnOk P w K mg base CX0 1 T.a__law_deck T.fd__law_deck ["script"] (spDeck K) := by
  refine T.F__law_deck.ok sc__law_deck (fun vs H Q E h => ?_) (fun cdv A outer s H vs Q E hr h => ?_)
  · obtain ⟨c, ns, rfl, _⟩ := h
    rfl
  · obtain ⟨c, ns, rfl, hS, q⟩ := h
    refine ⟨_, (pss_one (ps_ret (pe_lst (pa_cons (pe_callTy c_list (by rfl) T.z_list (by decide +kernel) (pa_cons (pv 0) pa_nil)) (pa_cons pe_int (pa_cons pe_int (pa_cons pe_int pa_nil))))))), ?_⟩
    walk_at "z0"
    walk_at "z"
    refine Z.listL hS fun p H1 np k1 e1 => ?_
    walk_at "z"
    refine Z.lstK (fun a H2 na k2 e2 => ?_)
    refine q a p H2 (k1.none nin0 na) np (k1.trans k2) ⟨ns, 0, 0, 7, e2, k2.get nin0 e1, ?_⟩
    exact ne_of_none e1 na
def spDraw (K : PySem.W.Frag) : Sp := fun vs H Q _ => ∃ (a p : Addr) (m : Int), vs = [.ref a, .int m] ∧ DeckOk H a p ∧ 1 ≤ m ∧ m < 18446744073709551616 ∧ ∀ H' v, 0 ≤ v → v < m → Kp [a] H H' → DeckOk H' a p → Q (.int v) H'
theorem at4 {p : Addr} {i r s : Int} (v : V) (j : Nat) (h : [V.ref p, .int i, .int r, .int s][j]? = some v) : atI [V.ref p, .int i, .int r, .int s] (j : Int) = some v := atI_nat h
theorem pow18 : (10 : Int) ^ (18 : Int).toNat = 1000000000000000000 := by decide
theorem ok__law_draw {P : Program} {w : World} {K : PySem.W.Frag} {mg : Str → Option Value} {base : Heap} (T : T P K mg base) : FnOk P w K mg base CX0 1 T.a__law_draw T.fd__law_draw ["deck", "most"] (spDraw K) := by
  refine T.F__law_draw.ok sc__law_draw (fun vs H Q E h => ?_) (fun cdv A outer s H vs Q E hr h => ?_)
  · obtain ⟨a, p, m, rfl, _⟩ := h
    rfl
  · obtain ⟨a, p, m, rfl, ⟨ns, i, r, s, ha, hp, hne⟩, hm1, hm2, q⟩ := h
    have hdiv : CDivW r m := wide_div (b := 64) (by omega) (by omega) (by decide) (by decide)
    refine ⟨_, (pss_cons (ps_if (pt_cmpR op_ge (pe_ix ix_list (pv 0) pe_int (fun _ _ => rfl)) (pv 1) (nomark _)) (pss_cons (ps_set (i := 2) sc__law_draw.nd rfl (by first | exact Or.inl rfl | exact Or.inr rfl) (pe_op op_mod (pe_callTy c_int (by rfl) T.z_int (by decide +kernel) (pa_cons (pe_ix ix_list (pv 0) pe_int (fun _ _ => rfl)) pa_nil)) (pv 1)))
      (pss_cons (ps_asg (pe_op op_fdivW (pe_ix ix_list (pv 0) pe_int (fun _ _ => rfl)) (pv 1)) (pg_sub (pv 0) pe_int set_list))
      (pss_one (ps_ret (pv 2))))) pss_nil)
      (pss_cons (ps_set (i := 3) sc__law_draw.nd rfl (by first | exact Or.inl rfl | exact Or.inr rfl) pe_int)
      (Z.pss_consJ (ps_if (pt_cmpR op_lt (pe_ix ix_list (pv 0) pe_int (fun _ _ => rfl)) (pe_callB c_len (by rfl) T.z_len (by decide +kernel) (pa_cons (pe_ix ix_list (pv 0) pe_int (fun _ _ => rfl)) pa_nil)) (nomark _)) (pss_one (ps_set (i := 3) sc__law_draw.nd rfl (by first | exact Or.inl rfl | exact Or.inr rfl) (pe_ix ix_list (pe_ix ix_list (pv 0) pe_int (fun _ _ => rfl)) (pe_ix ix_list (pv 0) pe_int (fun _ _ => rfl)) (fun _ _ => rfl)))) pss_nil)
      (pss_cons (ps_asg (pe_op op_add (pe_ix ix_list (pv 0) pe_int (fun _ _ => rfl)) pe_int) (pg_sub (pv 0) pe_int set_list))
      (pss_cons (ps_asg pe_int (pg_sub (pv 0) pe_int set_list))
      (pss_cons (ps_if (pt_cmpR op_ge (pv 3) (pe_op op_pow pe_int pe_int) (nomark _)) (pss_cons (ps_asg (pe_op op_fdivW (pv 3) (pv 1)) (pg_sub (pv 0) pe_int set_list))
      (pss_one (ps_ret (pe_op op_mod (pe_callTy c_int (by rfl) T.z_int (by decide +kernel) (pa_cons (pv 3) pa_nil)) (pv 1))))) pss_nil)
      (pss_cons (ps_asg (pe_op op_mod (pe_callTy c_int (by rfl) T.z_int (by decide +kernel) (pa_cons (pe_op op_add (pe_op op_add (pe_op op_mul (pe_ix ix_list (pv 0) pe_int (fun _ _ => rfl)) pe_int) (pe_op op_mul (pv 3) pe_int)) (pe_op op_mul (pe_ix ix_list (pv 0) pe_int (fun _ _ => rfl)) pe_int)) pa_nil)) pe_int) (pg_sub (pv 0) pe_int set_list))
      (pss_cons (ps_asg (pe_op op_mod (pe_callTy c_int (by rfl) T.z_int (by decide +kernel) (pa_cons (pe_op op_add (pe_op op_mul (pe_ix ix_list (pv 0) pe_int (fun _ _ => rfl)) pe_int) pe_int) pa_nil)) pe_int) (pg_sub (pv 0) pe_int set_list))
      (pss_one (ps_ret (pe_op op_mod (pe_callTy c_int (by rfl) T.z_int (by decide +kernel) (pa_cons (pe_op op_fdivW (pe_ix ix_list (pv 0) pe_int (fun _ _ => rfl)) pe_int) pa_nil)) (pv 1)))))))))))), ?_⟩
    walk_at "z0"
    walk_at "z"
    refine Z.ixL (lstL ha) (at4 _ 2 rfl) ?_
    walk_at "z"
    refine Z.ite (fun h1 => ?_) (fun h1 => ?_)
    · walk_at "z"
      refine Z.ixL (lstL ha) (at4 _ 2 rfl) ?_
      walk_at "z"
      refine Z.iC (by omega) ?_
      walk_at "z"
      refine Z.ixL (lstL ha) (at4 _ 2 rfl) ?_
      walk_at "z"
      refine Z.iC hdiv ?_
      walk_at "z"
      refine Z.setL ha (ixN_nat (j := 2) (by simp)) ?_
      walk_at "z"
      exact q _ _ (Int.emod_nonneg _ (by omega)) (Int.emod_lt_of_pos _ (by omega)) (Kp.put (by simp)) ⟨ns, i, r / m, s, upd_same, (upd_ne hne).trans hp, hne⟩
    · walk_at "z"
      refine Z.seqJ (fun σ' H' => ∃ c : Int, σ' = [some (.ref a), some (.int m), none, some (.int c)] ∧ H' = H) ?_ ?_
      · rintro σ' H' ⟨c, rfl, rfl⟩
        walk_at "z"
        refine Z.ixL (lstL ha) (at4 _ 1 rfl) ?_
        walk_at "z"
        refine Z.setL ha (ixN_nat (j := 1) (by simp)) ?_
        have ha1 : (upd H' a (.lst [.ref p, .int ((i + 1 : Nat) : Int), .int r, .int s])) a = some (.lst [.ref p, .int ((i + 1 : Nat) : Int), .int r, .int s]) := upd_same
        have hp1 : (upd H' a (.lst [.ref p, .int ((i + 1 : Nat) : Int), .int r, .int s])) p = some (.lst (ns.map V.int)) := (upd_ne hne).trans hp
        have k1 : Kp [a] H' (upd H' a (.lst [.ref p, .int ((i + 1 : Nat) : Int), .int r, .int s])) := Kp.put (by simp)
        dsimp only [List.set]
        rw [show ((i : Int) + 1) = ((i + 1 : Nat) : Int) by omega]
        revert ha1 hp1 k1
        generalize upd H' a (.lst [.ref p, .int ((i + 1 : Nat) : Int), .int r, .int s]) = H1
        intro ha1 hp1 k1
        walk_at "z"
        refine Z.setL ha1 (ixN_nat (j := 2) (by simp)) ?_
        dsimp only [List.set]
        have ha2 : (upd H1 a (.lst [.ref p, .int ((i + 1 : Nat) : Int), .int 0, .int s])) a = some (.lst [.ref p, .int ((i + 1 : Nat) : Int), .int 0, .int s]) := upd_same
        have hp2 : (upd H1 a (.lst [.ref p, .int ((i + 1 : Nat) : Int), .int 0, .int s])) p = some (.lst (ns.map V.int)) := (upd_ne hne).trans hp1
        have k2 : Kp [a] H' (upd H1 a (.lst [.ref p, .int ((i + 1 : Nat) : Int), .int 0, .int s])) := k1.trans (Kp.put (by simp))
        revert ha2 hp2 k2
        generalize upd H1 a (.lst [.ref p, .int ((i + 1 : Nat) : Int), .int 0, .int s]) = H2
        intro ha2 hp2 k2
        walk_at "z"
        refine Z.iC ⟨by decide, by decide, by decide⟩ ?_
        walk_at "z"
        refine Z.ite (fun h2 => ?_) (fun h2 => ?_)
        · walk_at "z"
          refine Z.iC hdiv ?_
          walk_at "z"
          refine Z.setL ha2 (ixN_nat (j := 2) (by simp)) ?_
          walk_at "z"
          refine Z.iC (by omega) ?_
          exact q _ _ (Int.emod_nonneg _ (by omega)) (Int.emod_lt_of_pos _ (by omega)) (k2.trans (Kp.put (by simp))) ⟨ns, i + 1, c / m, s, upd_same, (upd_ne hne).trans hp2, hne⟩
        · walk_at "z"
          refine Z.ixL (lstL ha2) (at4 _ 3 rfl) ?_
          walk_at "z"
          refine Z.iC (.inr (by decide)) ?_
          walk_at "z"
          refine Z.iC (.inr (by decide)) ?_
          walk_at "z"
          refine Z.ixL (lstL ha2) (at4 _ 1 rfl) ?_
          walk_at "z"
          refine Z.iC (.inr (by decide)) ?_
          walk_at "z"
          refine Z.iC (by decide) ?_
          walk_at "z"
          refine Z.setL ha2 (ixN_nat (j := 3) (by simp)) ?_
          dsimp only [List.set]
          generalize (s * 48271 + c * 69621 + ((i + 1 : Nat) : Int) * 911) % 2147483647 = s1
          have ha3 : (upd H2 a (.lst [.ref p, .int ((i + 1 : Nat) : Int), .int 0, .int s1])) a = some (.lst [.ref p, .int ((i + 1 : Nat) : Int), .int 0, .int s1]) := upd_same
          have hp3 : (upd H2 a (.lst [.ref p, .int ((i + 1 : Nat) : Int), .int 0, .int s1])) p = some (.lst (ns.map V.int)) := (upd_ne hne).trans hp2
          have k3 : Kp [a] H' (upd H2 a (.lst [.ref p, .int ((i + 1 : Nat) : Int), .int 0, .int s1])) := k2.trans (Kp.put (by simp))
          revert ha3 hp3 k3
          generalize upd H2 a (.lst [.ref p, .int ((i + 1 : Nat) : Int), .int 0, .int s1]) = H3
          intro ha3 hp3 k3
          walk_at "z"
          refine Z.ixL (lstL ha3) (at4 _ 3 rfl) ?_
          walk_at "z"
          refine Z.iC (.inr (by decide)) ?_
          walk_at "z"
          refine Z.iC (by decide) ?_
          walk_at "z"
          refine Z.setL ha3 (ixN_nat (j := 3) (by simp)) ?_
          dsimp only [List.set]
          generalize (s1 * 48271 + 12345) % 2147483647 = s2
          walk_at "z"
          refine Z.ixL (lstL upd_same) (at4 _ 3 rfl) ?_
          walk_at "z"
          refine Z.iC (wide_div (b := 64) (by decide) (by decide) (by decide) (by decide)) ?_
          walk_at "z"
          refine Z.iC (by omega) ?_
          exact q _ _ (Int.emod_nonneg _ (by omega)) (Int.emod_lt_of_pos _ (by omega)) (k3.trans (Kp.put (by simp))) ⟨ns, i + 1, 0, s2, upd_same, (upd_ne hne).trans hp3, hne⟩
      · intro N jn
        walk_at "z"
        refine Z.ixL (lstL ha) (at4 _ 1 rfl) ?_
        walk_at "z"
        refine Z.ixL (lstL ha) (at4 _ 0 rfl) ?_
        walk_at "z"
        refine Z.lenL (lstL hp) ?_
        walk_at "z"
        refine Z.ite (fun h2 => ?_) (fun h2 => ?_)
        · walk_at "z"
          refine Z.ixL (lstL ha) (at4 _ 0 rfl) ?_
          walk_at "z"
          refine Z.ixL (lstL ha) (at4 _ 1 rfl) ?_
          walk_at "z"
          have hi : i < ns.length := by
            rw [List.length_map] at h2
            omega
          refine Z.ixL (lstL hp) (atM (List.getElem?_eq_getElem hi)) ?_
          walk_at "z"
          exact jn _ _ ⟨_, rfl, rfl⟩
        · walk_at "z"
          exact jn _ _ ⟨_, rfl, rfl⟩

/-! ### sums of lists of ints -/
theorem sum_nonneg : ∀ {l : List Int}, (∀ n ∈ l, 0 ≤ n) → 0 ≤ l.sum
  | [], _ => by simp
  | a :: r, h => by
    have h1 := h a (by simp)
    have h2 := sum_nonneg (l := r) fun n hn => h n (by simp [hn])
    rw [List.sum_cons]
    omega
theorem sum_le {c : Int} : ∀ {l : List Int}, (∀ n ∈ l, n ≤ c) → l.sum ≤ c * l.length
  | [], _ => by simp
  | a :: r, h => by
    have h1 := h a (by simp)
    have h2 := sum_le (c := c) (l := r) fun n hn => h n (by simp [hn])
    rw [List.sum_cons, List.length_cons, show c * ((r.length + 1 : Nat) : Int) = c * r.length + c by rw [Int.natCast_add, Int.mul_add]; simp]
    omega
theorem sum_ge_mem : ∀ {l : List Int}, (∀ n ∈ l, 0 ≤ n) → ∀ x ∈ l, x ≤ l.sum
  | [], _, x, hx => by simp at hx
  | a :: r, h, x, hx => by
    have h1 := h a (by simp)
    have h3 := sum_nonneg (l := r) fun n hn => h n (by simp [hn])
    rw [List.sum_cons]
    rcases List.mem_cons.mp hx with e | e
    · omega
    · have h2 := sum_ge_mem (l := r) (fun n hn => h n (by simp [hn])) x e
      omega
theorem take_nonneg {l : List Int} (h : ∀ n ∈ l, 0 ≤ n) (i : Nat) : 0 ≤ (l.take i).sum := sum_nonneg fun n hn => h n (List.mem_of_mem_take hn)
/-! ### lists of ints as data -/
theorem layInts : ∀ ws : List Int, PyData.canLayAll0 (ws.map PyData.int) = true
  | [] => by simp [PyData.canLayAll0]
  | w :: r => by simp [PyData.canLayAll0, PyData.canLay0, layInts r]
theorem depthInts : ∀ ws : List Int, PyData.depthAll (ws.map PyData.int) = 0
  | [] => by simp [PyData.depthAll]
  | w :: r => by simp [PyData.depthAll, PyData.depth, depthInts r]
theorem shInts (ws : List Int) : SeqAt.shaped (.list (ws.map PyData.int)) = true := by
  simp [SeqAt.shaped, PyData.canLay0, PyData.depth, layInts, depthInts]
theorem dpInts {K : PySem.W.Frag} {H : Hp} : ∀ ws : List Int, DpAll K H (ws.map V.int) (ws.map PyData.int)
  | [] => .nil
  | w :: r => .cons (.int w) (dpInts r)
theorem dpI {K : PySem.W.Frag} {H : Hp} {a : Addr} {ws : List Int} (h : SqL K H a (ws.map V.int)) : Dp K H (.ref a) (.list (ws.map PyData.int)) := .lst h (dpInts ws)
theorem eqvI (ws : List Int) : PyData.eqv (.list (ws.map PyData.int)) (.list (ws.map PyData.int)) = true := SeqAt.eqv_refl _ (by simp [PyData.canLay0, layInts])
theorem neLL {K : PySem.W.Frag} {H : Hp} {Q : VK} {a b : Addr} {ws : List Int} (h1 : SqL K H a (ws.map V.int)) (h2 : SqL K H b (ws.map V.int)) (q : Q (.bl false) H) : rNeD K (.ref a) (.ref b) H Q :=
  ⟨_, _, dpI h1, dpI h2, shInts _, shInts _, by rw [eqvI]; exact q⟩
theorem eqLL {K : PySem.W.Frag} {H : Hp} {Q : VK} {a b : Addr} {ws : List Int} (h1 : SqL K H a (ws.map V.int)) (h2 : SqL K H b (ws.map V.int)) (q : Q (.bl true) H) : rEqD K (.ref a) (.ref b) H Q :=
  ⟨_, _, dpI h1, dpI h2, shInts _, shInts _, by rw [eqvI]; exact q⟩

/-! ### Euclid and lowest terms -/
def eStep (p : Nat × Nat) : Nat × Nat := if p.2 = 0 then p else (p.2, p.1 % p.2)
def euc : Nat → Nat × Nat → Nat × Nat
  | 0, p => p
  | i + 1, p => euc i (eStep p)
theorem euc_succ : ∀ (i : Nat) (p : Nat × Nat), euc (i + 1) p = eStep (euc i p)
  | 0, p => rfl
  | i + 1, p => euc_succ i (eStep p)
theorem eStep_gcd (p : Nat × Nat) : Nat.gcd (eStep p).1 (eStep p).2 = Nat.gcd p.1 p.2 := by
  unfold eStep
  split
  · rfl
  · show Nat.gcd p.2 (p.1 % p.2) = Nat.gcd p.1 p.2
    rw [Nat.gcd_comm p.1 p.2, Nat.gcd_rec p.2 p.1, Nat.gcd_comm]
theorem euc_gcd : ∀ (i : Nat) (p : Nat × Nat), Nat.gcd (euc i p).1 (euc i p).2 = Nat.gcd p.1 p.2
  | 0, p => rfl
  | i + 1, p => (euc_gcd i (eStep p)).trans (eStep_gcd p)
theorem eStep_zero {p : Nat × Nat} (h : p.2 = 0) : eStep p = p := if_pos h
theorem euc_zero : ∀ (i : Nat) {p : Nat × Nat}, p.2 = 0 → euc i p = p
  | 0, _, _ => rfl
  | i + 1, p, h => by
    show euc i (eStep p) = p
    rw [eStep_zero h]
    exact euc_zero i h
theorem eStep2 (p : Nat × Nat) : 2 * (eStep (eStep p)).2 ≤ p.2 := by
  obtain ⟨a, b⟩ := p
  by_cases hb : b = 0
  · rw [eStep_zero (p := (a, b)) hb, eStep_zero (p := (a, b)) hb]
    show 2 * b ≤ b
    omega
  · have e1 : eStep (a, b) = (b, a % b) := if_neg hb
    rw [e1]
    have hc : a % b < b := Nat.mod_lt _ (by omega)
    by_cases h0 : a % b = 0
    · rw [eStep_zero (p := (b, a % b)) h0]
      show 2 * (a % b) ≤ b
      omega
    · have e2 : eStep (b, a % b) = (a % b, b % (a % b)) := if_neg h0
      rw [e2]
      show 2 * (b % (a % b)) ≤ b
      have h1 : b % (a % b) < a % b := Nat.mod_lt _ (by omega)
      have h2 := Nat.div_add_mod b (a % b)
      have h3 : 1 ≤ b / (a % b) := Nat.div_pos (by omega) (by omega)
      have h4 : (a % b) * 1 ≤ (a % b) * (b / (a % b)) := Nat.mul_le_mul_left _ h3
      omega
theorem euc_end : ∀ (n : Nat) (p : Nat × Nat), p.2 < 2 ^ n → (euc (2 * n) p).2 = 0
  | 0, p, h => by
    have h' : p.2 < 1 := h
    show p.2 = 0
    omega
  | n + 1, p, h => by
    show (euc (2 * n) (eStep (eStep p))).2 = 0
    refine euc_end n _ ?_
    have := eStep2 p
    rw [Nat.pow_succ] at h
    omega
theorem euc_add : ∀ (i j : Nat) (p : Nat × Nat), euc (i + j) p = euc j (euc i p)
  | 0, j, p => by rw [Nat.zero_add]; rfl
  | i + 1, j, p => by
    rw [show i + 1 + j = (i + j) + 1 by omega]
    exact euc_add i j (eStep p)
theorem euc_5000 {p : Nat × Nat} (h : p.2 < 2 ^ 2400) : (euc 5000 p).2 = 0 := by
  rw [show (5000 : Nat) = 2 * 2400 + 200 from rfl, euc_add, euc_zero 200 (euc_end 2400 p h)]
  exact euc_end 2400 p h
def gN (p q : Int) : Nat := Nat.gcd p.natAbs q.natAbs
def gI (p q : Int) : Int := if q < 0 then -(gN p q : Int) else (gN p q : Int)
def lo (p q : Int) : Int × Int := (p.fdiv (gI p q), q.fdiv (gI p q))
theorem gN_pos {p q : Int} (h : q ≠ 0) : 0 < gN p q := Nat.gcd_pos_of_pos_right _ (by omega)
theorem gI_ne {p q : Int} (h : q ≠ 0) : gI p q ≠ 0 := by
  have := gN_pos (p := p) h
  unfold gI
  split <;> omega
theorem gN_le {p q : Int} (h : q ≠ 0) : gN p q ≤ q.natAbs := Nat.le_of_dvd (by omega) (Nat.gcd_dvd_right _ _)
theorem gI_abs (p q : Int) : (gI p q).natAbs = gN p q := by
  unfold gI
  split <;> omega
theorem dvdI {g : Nat} {p : Int} (h : g ∣ p.natAbs) : ∃ a : Int, p = (g : Int) * a ∧ p.natAbs = g * a.natAbs := by
  obtain ⟨c, hc⟩ := Int.ofNat_dvd_left.mpr h
  refine ⟨c, hc, ?_⟩
  rw [hc, Int.natAbs_mul]
  simp
/-- lowest terms: exactly divided, a denominator of at least 1, no common part -/
theorem lo_spec {p q : Int} (h : q ≠ 0) : ∃ a b : Int, lo p q = (a, b) ∧ 1 ≤ b ∧ Nat.gcd a.natAbs b.natAbs = 1 ∧ p = gI p q * a ∧ q = gI p q * b := by
  obtain ⟨a, ha, ha2⟩ := dvdI (Nat.gcd_dvd_left p.natAbs q.natAbs)
  obtain ⟨b, hb, hb2⟩ := dvdI (Nat.gcd_dvd_right p.natAbs q.natAbs)
  have hg := gN_pos (p := p) h
  have hcop : Nat.gcd a.natAbs b.natAbs = 1 := by
    have e := Nat.gcd_mul_left (gN p q) a.natAbs b.natAbs
    have e2 : gN p q * a.natAbs = p.natAbs := ha2.symm
    have e3 : gN p q * b.natAbs = q.natAbs := hb2.symm
    rw [e2, e3] at e
    have e4 : gN p q * 1 = gN p q * Nat.gcd a.natAbs b.natAbs := by rw [Nat.mul_one]; exact e
    exact (Nat.eq_of_mul_eq_mul_left hg e4).symm
  have ha' : p = (gN p q : Int) * a := ha
  have hb' : q = (gN p q : Int) * b := hb
  have gpos : (0 : Int) < (gN p q : Int) := by omega
  have hb0 : b ≠ 0 := fun z => by
    rw [z, Int.mul_zero] at hb'
    exact h hb'
  by_cases hq : q < 0
  · have eg : gI p q = -(gN p q : Int) := if_pos hq
    have hbn : b < 0 := by
      rcases Int.lt_or_le b 0 with z | z
      · exact z
      · have := Int.mul_nonneg (Int.le_of_lt gpos) z
        omega
    have ep : p = gI p q * -a := by rw [eg, Int.neg_mul_neg]; exact ha'
    have eq : q = gI p q * -b := by rw [eg, Int.neg_mul_neg]; exact hb'
    refine ⟨-a, -b, ?_, by omega, by rw [Int.natAbs_neg, Int.natAbs_neg]; exact hcop, ep, eq⟩
    have g0 := gI_ne (p := p) h
    unfold lo
    have f1 : p.fdiv (gI p q) = -a := by
      have := Int.mul_fdiv_cancel_left (-a) g0
      rw [← ep] at this
      exact this
    have f2 : q.fdiv (gI p q) = -b := by
      have := Int.mul_fdiv_cancel_left (-b) g0
      rw [← eq] at this
      exact this
    rw [f1, f2]
  · have eg : gI p q = (gN p q : Int) := if_neg hq
    have hbp : 0 < b := by
      rcases Int.lt_or_le 0 b with z | z
      · exact z
      · have := Int.mul_nonpos_of_nonneg_of_nonpos (Int.le_of_lt gpos) z
        omega
    have ep : p = gI p q * a := by rw [eg]; exact ha'
    have eq : q = gI p q * b := by rw [eg]; exact hb'
    refine ⟨a, b, ?_, by omega, hcop, ep, eq⟩
    have g0 := gI_ne (p := p) h
    unfold lo
    have f1 : p.fdiv (gI p q) = a := by
      have := Int.mul_fdiv_cancel_left a g0
      rw [← ep] at this
      exact this
    have f2 : q.fdiv (gI p q) = b := by
      have := Int.mul_fdiv_cancel_left b g0
      rw [← eq] at this
      exact this
    rw [f1, f2]
theorem lo_pos {p q : Int} (h : q ≠ 0) : 1 ≤ (lo p q).2 := by
  obtain ⟨a, b, e, h1, _⟩ := lo_spec (p := p) h
  rw [e]; exact h1
theorem lo_cop {p q : Int} (h : q ≠ 0) : Nat.gcd (lo p q).1.natAbs (lo p q).2.natAbs = 1 := by
  obtain ⟨a, b, e, _, h1, _⟩ := lo_spec (p := p) h
  rw [e]; exact h1
theorem abs_le_mul {g a : Int} (h : g ≠ 0) : a.natAbs ≤ (g * a).natAbs := by
  rw [Int.natAbs_mul]
  exact Nat.le_mul_of_pos_left _ (by omega)
theorem lo_abs1 {p q : Int} (h : q ≠ 0) : (lo p q).1.natAbs ≤ p.natAbs := by
  obtain ⟨a, b, e, _, _, h1, _⟩ := lo_spec (p := p) h
  rw [e]
  have := abs_le_mul (a := a) (gI_ne (p := p) h)
  rw [← h1] at this
  exact this
theorem lo_abs2 {p q : Int} (h : q ≠ 0) : (lo p q).2.natAbs ≤ q.natAbs := by
  obtain ⟨a, b, e, _, _, _, h1⟩ := lo_spec (p := p) h
  rw [e]
  have := abs_le_mul (a := b) (gI_ne (p := p) h)
  rw [← h1] at this
  exact this

/-! ### fractions: tuples of two ints -/
section frac
variable {K : PySem.W.Frag}
abbrev Fr := Int × Int
def frV (f : Fr) : List V := [.int f.1, .int f.2]
/-- at x there is no tuple -/
def NoTup (H : Hp) (x : Addr) : Prop := ∀ xs, ¬ Rd H x (.tup xs)
theorem NoTup.of {H : Hp} {x : Addr} {o : HO} (h : H x = some o) (n : ∀ xs, o ≠ .tup xs ∧ ∀ u, o ≠ .frz u (.tup xs)) : NoTup H x := fun xs r => by
  rcases r with r | ⟨u, r⟩
  · rw [h] at r; exact (n xs).1 (Option.some.inj r)
  · rw [h] at r; exact (n xs).2 u (Option.some.inj r)
theorem NoTup.lst {H : Hp} {x : Addr} {xs : List V} (h : H x = some (.lst xs)) : NoTup H x := NoTup.of h fun ys => ⟨by simp, by simp⟩
theorem NoTup.new {H : Hp} {x : Addr} (h : H x = none) : NoTup H x := fun xs r => by
  rcases r with r | ⟨u, r⟩ <;> rw [h] at r <;> cases r
theorem kpTup {K : PySem.W.Frag} {M : List Addr} {H H' : Hp} {a : Addr} {xs : List V} (h : SqT K H a xs) (k : Kp M H H') (n : ∀ x ∈ M, NoTup H x) : SqT K H' a xs := by
  rcases h with h | h
  · have na : a ∉ M := fun z => n a z xs h
    exact k.tup na (.inl h)
  · exact .inr h
/-- a fraction at a, a new one or one of the top -/
def FrAt (K : PySem.W.Frag) (H : Hp) (a : Addr) (f : Fr) : Prop := SqT K H a (frV f)
theorem FrAt.kp {M : List Addr} {H H' : Hp} {a : Addr} {f : Fr} (h : FrAt K H a f) (k : Kp M H H') (n : ∀ x ∈ M, NoTup H x) : FrAt K H' a f := kpTup h k n
theorem FrAt.kp0 {H H' : Hp} {a : Addr} {f : Fr} (h : FrAt K H a f) (k : Kp [] H H') : FrAt K H' a f := k.tup nin0 h
theorem FrAt.kpl {H H' : Hp} {a l : Addr} {f : Fr} {xs : List V} (h : FrAt K H a f) (k : Kp [l] H H') (e : H l = some (.lst xs)) : FrAt K H' a f := kpTup h k fun x hx => by
  rw [List.mem_singleton.mp hx]
  exact NoTup.lst e
theorem fr0 (f : Fr) : atI (frV f) 0 = some (.int f.1) := rfl
theorem fr1 (f : Fr) : atI (frV f) 1 = some (.int f.2) := rfl
/-- small enough for the machine's ints -/
def FrB (n : Nat) (f : Fr) : Prop := f.1.natAbs < 2 ^ n ∧ f.2.natAbs < 2 ^ n
theorem FrB.mono {n m : Nat} {f : Fr} (h : FrB n f) (l : n ≤ m) : FrB m f := ⟨Nat.lt_of_lt_of_le h.1 (Nat.pow_le_pow_right (by decide) l), Nat.lt_of_lt_of_le h.2 (Nat.pow_le_pow_right (by decide) l)⟩
theorem lo_B {n : Nat} {p q : Int} (h : q ≠ 0) (h1 : p.natAbs < 2 ^ n) (h2 : q.natAbs < 2 ^ n) : FrB n (lo p q) := ⟨Nat.lt_of_le_of_lt (lo_abs1 h) h1, Nat.lt_of_le_of_lt (lo_abs2 h) h2⟩
theorem add_B {n : Nat} {a b : Int} (h1 : a.natAbs < 2 ^ n) (h2 : b.natAbs < 2 ^ n) : (a + b).natAbs < 2 ^ (n + 1) := by
  rw [Nat.pow_succ]
  omega
theorem sub_B {n : Nat} {a b : Int} (h1 : a.natAbs < 2 ^ n) (h2 : b.natAbs < 2 ^ n) : (a - b).natAbs < 2 ^ (n + 1) := by
  rw [Nat.pow_succ]
  omega
theorem mul_B {n m : Nat} {a b : Int} (h1 : a.natAbs < 2 ^ n) (h2 : b.natAbs < 2 ^ m) : (a * b).natAbs < 2 ^ (n + m) := wide_lt h1 h2
theorem up_B {n m : Nat} {a : Int} (h : a.natAbs < 2 ^ n) (l : n ≤ m) : a.natAbs < 2 ^ m := Nat.lt_of_lt_of_le h (Nat.pow_le_pow_right (by decide) l)
theorem mul_ok {n : Nat} {a b : Int} (h1 : a.natAbs < 2 ^ n) (h2 : b.natAbs < 2 ^ n) (h0 : 0 < n := by omega) (h : n ≤ 400000 := by omega) : CMulW a b := wide_mul h1 h2 h0 h0 (by omega)
def fplus (f g : Fr) : Fr := lo (f.1 * g.2 + g.1 * f.2) (f.2 * g.2)
def fminus (f g : Fr) : Fr := lo (f.1 * g.2 - g.1 * f.2) (f.2 * g.2)
def ftimes (f g : Fr) : Fr := lo (f.1 * g.1) (f.2 * g.2)
def fover (f g : Fr) : Fr := lo (f.1 * g.2) (f.2 * g.1)
def fless (f g : Fr) : Bool := decide (f.1 * g.2 < g.1 * f.2)
theorem fplus_B {n m : Nat} {f g : Fr} (hf : FrB n f) (hg : FrB m g) (h1 : f.2 ≠ 0) (h2 : g.2 ≠ 0) : FrB (n + m + 1) (fplus f g) :=
  lo_B (Int.mul_ne_zero h1 h2) (add_B (mul_B hf.1 hg.2) (by rw [Nat.add_comm n m]; exact mul_B hg.1 hf.2)) (up_B (mul_B hf.2 hg.2) (by omega))
theorem fminus_B {n m : Nat} {f g : Fr} (hf : FrB n f) (hg : FrB m g) (h1 : f.2 ≠ 0) (h2 : g.2 ≠ 0) : FrB (n + m + 1) (fminus f g) :=
  lo_B (Int.mul_ne_zero h1 h2) (sub_B (mul_B hf.1 hg.2) (by rw [Nat.add_comm n m]; exact mul_B hg.1 hf.2)) (up_B (mul_B hf.2 hg.2) (by omega))
theorem ftimes_B {n m : Nat} {f g : Fr} (hf : FrB n f) (hg : FrB m g) (h1 : f.2 ≠ 0) (h2 : g.2 ≠ 0) : FrB (n + m) (ftimes f g) := lo_B (Int.mul_ne_zero h1 h2) (mul_B hf.1 hg.1) (mul_B hf.2 hg.2)
theorem fplus_pos {f g : Fr} (h1 : f.2 ≠ 0) (h2 : g.2 ≠ 0) : 1 ≤ (fplus f g).2 := lo_pos (Int.mul_ne_zero h1 h2)
/-! ### samphire.errors, samphire.ratios -/
def spZD (C : Addr) : Sp := fun vs H Q _ => ∃ a : Addr, vs = [.ref a] ∧ H a = some (exo a C none) ∧ Q .non H
theorem ok_ZeroDenominator_init {P : Program} {w : World} {K : PySem.W.Frag} {mg : Str → Option Value} {base : Heap} (T : T P K mg base) : FnOk P w K mg base CX0 1 T.a_ZeroDenominator_init ((NF_ZeroDenominator T.cc_ZeroDenominator T.c_ZeroDenominator).fd T.doc_ZeroDenominator T.pm_ZeroDenominator T.ctv_ZeroDenominator) ["self"] (spZD T.C_ZeroDenominator) := by
  refine Sup.fn_super (F := NF_ZeroDenominator T.cc_ZeroDenominator T.c_ZeroDenominator) (p := "self") (ps' := []) T.x_ZeroDenominator.S T.lk_ZeroDenominator rfl T.hc_ZeroDenominator sc_ZeroDenominator_init rfl ⟨_, rfl, rfl⟩ rfl rfl (fun _ => rfl) (fun _ => ⟨_, rfl⟩) (fun _ => rfl) (fun vs H Q E h => ?_) (fun A outer s H vs Q E hr h => ?_)
  · obtain ⟨a, rfl, _⟩ := h
    rfl
  · obtain ⟨a, rfl, ha, q⟩ := h
    exact ⟨a, [], _, _, rfl, ha, pa_cons pe_str pa_nil, pss_nil, by decide, ha, q⟩
def spLowest (K : PySem.W.Frag) (C : Addr) : Sp := fun vs H Q E => ∃ p q : Int, vs = [.int p, .int q] ∧ q.natAbs < 2 ^ 8000 ∧ (q = 0 → E (.ref C) none H) ∧ (q ≠ 0 → ∀ H' b, H b = none → Kp [] H H' → FrAt K H' b (lo p q) → Q (.ref b) H')
theorem del_upd {H : Hp} {a : Addr} {o : HO} (h : H a = none) : del (upd H a o) a = H := by
  funext b
  by_cases hb : b = a
  · rw [hb, del_same, h]
  · rw [del_ne hb, upd_ne hb]
theorem ok_lowest {P : Program} {w : World} {K : PySem.W.Frag} {mg : Str → Option Value} {base : Heap} (T : T P K mg base) : FnOk P w K mg base (L2.CX P w) 3 T.a_lowest T.fd_lowest ["p", "q"] (spLowest K T.C_ZeroDenominator) := by
  refine T.F_lowest.okX sc_lowest (fun vs H Q E h => ?_) (fun cdv A outer s H vs Q E hr h => ?_)
  · obtain ⟨p, q, rfl, _⟩ := h
    rfl
  · obtain ⟨p, q, rfl, hb, h0, h1⟩ := h
    refine ⟨_, (pss_cons (ps_if (pt_cmpR op_eq (pv 1) pe_int (nomark _)) (pss_one (ps_raise rfl (takes_of rfl rfl rfl rfl) (Sup.pmk_oexN T.x_ZeroDenominator.S.T T.x_ZeroDenominator.iC T.x_ZeroDenominator.tI (ok_ZeroDenominator_init T) (hr.mono (by decide)) (T.bx_ZeroDenominator) pass0 (by rfl) T.x_ZeroDenominator.g))) pss_nil)
      (pss_cons (ps_set (i := 2) sc_lowest.nd rfl (by first | exact Or.inl rfl | exact Or.inr rfl) (pe_callBfun cr_gcd (by rfl) T.g_gcd (pa_cons (pv 0) (pa_cons (pv 1) pa_nil))))
      (Z.pss_consJ (ps_if (pt_cmpR op_lt (pv 1) pe_int (nomark _)) (pss_one (ps_set (i := 2) sc_lowest.nd rfl (by first | exact Or.inl rfl | exact Or.inr rfl) (pe_un un_neg (pv 2)))) pss_nil)
      (pss_one (ps_ret (pe_tup (pa_cons (pe_op Z.op_fdivA (pv 0) (pv 2)) (pa_cons (pe_op Z.op_fdivA (pv 1) (pv 2)) pa_nil)))))))), ?_⟩
    walk_at "z0"
    walk_at "z"
    refine Z.ite (fun hq => ?_) (fun hq => ?_)
    · refine Z.mkN fun a na => ⟨a, rfl, upd_same, rfl, upd_same, ?_⟩
      rw [del_upd na]
      exact h0 hq
    · walk_at "z"
      have hg := gI_ne (p := p) hq
      have hdv : Z.CDivA p (gI p q) := Z.divA (b := 8000) hg (by rw [gI_abs]; exact Nat.lt_of_le_of_lt (gN_le hq) hb) (by decide) (by decide)
      have hdv2 : Z.CDivA q (gI p q) := hdv
      refine Z.seqJ (fun σ' H' => σ' = [some (.int p), some (.int q), some (.int (gI p q))] ∧ H' = H) ?_ ?_
      · rintro σ' H' ⟨rfl, rfl⟩
        walk_at "z"
        refine Z.iC hdv ?_
        walk_at "z"
        refine Z.iC hdv2 ?_
        refine Z.tupK (fun b H1 nb k1 e1 => ?_)
        exact h1 hq _ _ nb k1 (tupT e1)
      · intro N jn
        walk_at "z"
        refine Z.ite (fun h2 => ?_) (fun h2 => ?_)
        · walk_at "z"
          refine jn _ _ ⟨?_, rfl⟩
          unfold gI
          rw [if_pos h2]; rfl
        · walk_at "z"
          refine jn _ _ ⟨?_, rfl⟩
          unfold gI
          rw [if_neg h2]; rfl
/-- two fractions in, a fraction out -/
def spF2 (K : PySem.W.Frag) (o : Fr → Fr → Fr) : Sp := fun vs H Q _ => ∃ (a b : Addr) (f g : Fr), vs = [.ref a, .ref b] ∧ FrAt K H a f ∧ FrAt K H b g ∧ f.2 ≠ 0 ∧ g.2 ≠ 0 ∧ FrB 3900 f ∧ FrB 3900 g ∧ ∀ H' c, H c = none → Kp [] H H' → FrAt K H' c (o f g) → Q (.ref c) H'
theorem ok_plus {P : Program} {w : World} {K : PySem.W.Frag} {mg : Str → Option Value} {base : Heap} (T : T P K mg base) : FnOk P w K mg base CX0 4 T.a_plus T.fd_plus ["a", "b"] (spF2 K fplus) := by
  refine T.F_plus.ok sc_plus (fun vs H Q E h => ?_) (fun cdv A outer s H vs Q E hr h => ?_)
  · obtain ⟨a, b, f, g, rfl, _⟩ := h
    rfl
  · obtain ⟨a, b, f, g, rfl, ha, hb, hf, hg, Bf, Bg, q⟩ := h
    refine ⟨_, (pss_one (ps_ret (pe_call (ok_lowest T) (hr.mono (by decide)) (by rfl) T.g_lowest T.F_lowest.kp T.b_lowest .nil passL (pa_cons (pe_op op_add (pe_op op_mulW (pe_ix ix_tup (pv 0) pe_int (fun _ _ => rfl)) (pe_ix ix_tup (pv 1) pe_int (fun _ _ => rfl))) (pe_op op_mulW (pe_ix ix_tup (pv 1) pe_int (fun _ _ => rfl)) (pe_ix ix_tup (pv 0) pe_int (fun _ _ => rfl)))) (pa_cons (pe_op op_mulW (pe_ix ix_tup (pv 0) pe_int (fun _ _ => rfl)) (pe_ix ix_tup (pv 1) pe_int (fun _ _ => rfl))) pa_nil))))), ?_⟩
    walk_at "z0"
    walk_at "z"
    refine Z.ixT ha (fr0 f) ?_
    walk_at "z"
    refine Z.ixT hb (fr1 g) ?_
    walk_at "z"
    refine Z.iC (mul_ok Bf.1 Bg.2) ?_
    walk_at "z"
    refine Z.ixT hb (fr0 g) ?_
    walk_at "z"
    refine Z.ixT ha (fr1 f) ?_
    walk_at "z"
    refine Z.iC (mul_ok Bg.1 Bf.2) ?_
    walk_at "z"
    refine Z.ixT ha (fr1 f) ?_
    walk_at "z"
    refine Z.ixT hb (fr1 g) ?_
    walk_at "z"
    refine Z.iC (mul_ok Bf.2 Bg.2) ?_
    walk_at "z"
    exact ⟨_, _, rfl, up_B (mul_B Bf.2 Bg.2) (by decide), fun z => absurd z (Int.mul_ne_zero hf hg), fun _ H' c nc k e => q _ _ nc k e⟩
theorem ok_times {P : Program} {w : World} {K : PySem.W.Frag} {mg : Str → Option Value} {base : Heap} (T : T P K mg base) : FnOk P w K mg base CX0 4 T.a_times T.fd_times ["a", "b"] (spF2 K ftimes) := by
  refine T.F_times.ok sc_times (fun vs H Q E h => ?_) (fun cdv A outer s H vs Q E hr h => ?_)
  · obtain ⟨a, b, f, g, rfl, _⟩ := h
    rfl
  · obtain ⟨a, b, f, g, rfl, ha, hb, hf, hg, Bf, Bg, q⟩ := h
    refine ⟨_, (pss_one (ps_ret (pe_call (ok_lowest T) (hr.mono (by decide)) (by rfl) T.g_lowest T.F_lowest.kp T.b_lowest .nil passL (pa_cons (pe_op op_mulW (pe_ix ix_tup (pv 0) pe_int (fun _ _ => rfl)) (pe_ix ix_tup (pv 1) pe_int (fun _ _ => rfl))) (pa_cons (pe_op op_mulW (pe_ix ix_tup (pv 0) pe_int (fun _ _ => rfl)) (pe_ix ix_tup (pv 1) pe_int (fun _ _ => rfl))) pa_nil))))), ?_⟩
    walk_at "z0"
    walk_at "z"
    refine Z.ixT ha (fr0 f) ?_
    walk_at "z"
    refine Z.ixT hb (fr0 g) ?_
    walk_at "z"
    refine Z.iC (mul_ok Bf.1 Bg.1) ?_
    walk_at "z"
    refine Z.ixT ha (fr1 f) ?_
    walk_at "z"
    refine Z.ixT hb (fr1 g) ?_
    walk_at "z"
    refine Z.iC (mul_ok Bf.2 Bg.2) ?_
    walk_at "z"
    exact ⟨_, _, rfl, up_B (mul_B Bf.2 Bg.2) (by decide), fun z => absurd z (Int.mul_ne_zero hf hg), fun _ H' c nc k e => q _ _ nc k e⟩
def spLess (K : PySem.W.Frag) : Sp := fun vs H Q _ => ∃ (a b : Addr) (f g : Fr), vs = [.ref a, .ref b] ∧ FrAt K H a f ∧ FrAt K H b g ∧ FrB 3900 f ∧ FrB 3900 g ∧ Q (.bl (fless f g)) H
theorem ok_less {P : Program} {w : World} {K : PySem.W.Frag} {mg : Str → Option Value} {base : Heap} (T : T P K mg base) : FnOk P w K mg base CX0 1 T.a_less T.fd_less ["a", "b"] (spLess K) := by
  refine T.F_less.ok sc_less (fun vs H Q E h => ?_) (fun cdv A outer s H vs Q E hr h => ?_)
  · obtain ⟨a, b, f, g, rfl, _⟩ := h
    rfl
  · obtain ⟨a, b, f, g, rfl, ha, hb, Bf, Bg, q⟩ := h
    refine ⟨_, (pss_one (ps_ret (pe_cmpR op_lt (pe_op op_mulW (pe_ix ix_tup (pv 0) pe_int (fun _ _ => rfl)) (pe_ix ix_tup (pv 1) pe_int (fun _ _ => rfl))) (pe_op op_mulW (pe_ix ix_tup (pv 1) pe_int (fun _ _ => rfl)) (pe_ix ix_tup (pv 0) pe_int (fun _ _ => rfl))) (nomark _)))), ?_⟩
    walk_at "z0"
    walk_at "z"
    refine Z.ixT ha (fr0 f) ?_
    walk_at "z"
    refine Z.ixT hb (fr1 g) ?_
    walk_at "z"
    refine Z.iC (mul_ok Bf.1 Bg.2) ?_
    walk_at "z"
    refine Z.ixT hb (fr0 g) ?_
    walk_at "z"
    refine Z.ixT ha (fr1 f) ?_
    walk_at "z"
    refine Z.iC (mul_ok Bg.1 Bf.2) ?_
    walk_at "z"
    exact q
/-- lists of fractions -/
def FrsAt (K : PySem.W.Frag) (H : Hp) (as : List Addr) (fs : List Fr) : Prop := Paired (fun a f => FrAt K H a f) as fs
theorem FrsAt.kp {M : List Addr} {H H' : Hp} {as : List Addr} {fs : List Fr} (h : FrsAt K H as fs) (k : Kp M H H') (n : ∀ x ∈ M, NoTup H x) : FrsAt K H' as fs := by
  induction h with
  | nil => exact .nil
  | cons r t ih => exact .cons (FrAt.kp r k n) ih
theorem FrsAt.kp0 {H H' : Hp} {as : List Addr} {fs : List Fr} (h : FrsAt K H as fs) (k : Kp [] H H') : FrsAt K H' as fs := h.kp k fun _ h => by cases h
theorem FrsAt.kpl {H H' : Hp} {as : List Addr} {fs : List Fr} {l : Addr} {xs : List V} (h : FrsAt K H as fs) (k : Kp [l] H H') (e : H l = some (.lst xs)) : FrsAt K H' as fs := h.kp k fun x hx => by
  rw [List.mem_singleton.mp hx]
  exact NoTup.lst e
theorem FrsAt.get {H : Hp} : ∀ {as : List Addr} {fs : List Fr} {i : Nat} {v : V}, FrsAt K H as fs → (as.map V.ref)[i]? = some v → ∃ a f, v = .ref a ∧ fs[i]? = some f ∧ FrAt K H a f
  | _, _, i, v, .nil, h => by simp at h
  | _, _, 0, v, .cons r t, h => by
    simp at h
    exact ⟨_, _, h.symm, rfl, r⟩
  | _, _, i + 1, v, .cons r t, h => by
    obtain ⟨a, f, e1, e2, e3⟩ := FrsAt.get (i := i) t (by simpa using h)
    exact ⟨a, f, e1, by simpa using e2, e3⟩
theorem FrsAt.len {H : Hp} {as : List Addr} {fs : List Fr} (h : FrsAt K H as fs) : as.length = fs.length := Paired.length h
theorem FrsAt.snoc {H : Hp} {as : List Addr} {fs : List Fr} {a : Addr} {f : Fr} (h : FrsAt K H as fs) (r : FrAt K H a f) : FrsAt K H (as ++ [a]) (fs ++ [f]) := by
  induction h with
  | nil => exact .cons r .nil
  | cons r t ih => exact .cons r ih
theorem FrsAt.app {H : Hp} {as bs : List Addr} {fs gs : List Fr} (h : FrsAt K H as fs) (r : FrsAt K H bs gs) : FrsAt K H (as ++ bs) (fs ++ gs) := by
  induction h with
  | nil => exact r
  | cons r t ih => exact .cons r ih
theorem FrsAt.take {H : Hp} : ∀ {as : List Addr} {fs : List Fr} (i : Nat), FrsAt K H as fs → FrsAt K H (as.take i) (fs.take i)
  | _, _, 0, _ => by rw [List.take_zero, List.take_zero]; exact .nil
  | _, _, i + 1, .nil => by rw [List.take_nil, List.take_nil]; exact .nil
  | _, _, i + 1, .cons r t => .cons r (FrsAt.take i t)
theorem FrsAt.drop {H : Hp} : ∀ {as : List Addr} {fs : List Fr} (i : Nat), FrsAt K H as fs → FrsAt K H (as.drop i) (fs.drop i)
  | _, _, 0, h => h
  | _, _, i + 1, .nil => by rw [List.drop_nil, List.drop_nil]; exact .nil
  | _, _, i + 1, .cons r t => FrsAt.drop i t
/-- data -/
def frD (f : Fr) : PyData := .tuple [.int f.1, .int f.2]
theorem dpF {H : Hp} {a : Addr} {f : Fr} (h : FrAt K H a f) : Dp K H (.ref a) (frD f) := .tup h (.cons (.int _) (.cons (.int _) .nil))
theorem frD_sh (f : Fr) : SeqAt.shaped (frD f) = true := by
  simp [frD, SeqAt.shaped, PyData.canLay0, PyData.canLayAll0, PyData.depth, PyData.depthAll]
theorem frD_eq (f : Fr) : PyData.eqv (frD f) (frD f) = true := SeqAt.eqv_refl _ (by simp [frD, PyData.canLay0, PyData.canLayAll0])
theorem neFF {K : PySem.W.Frag} {H : Hp} {Q : VK} {a b : Addr} {f : Fr} (h1 : FrAt K H a f) (h2 : FrAt K H b f) (q : Q (.bl false) H) : rNeD K (.ref a) (.ref b) H Q :=
  ⟨_, _, dpF h1, dpF h2, frD_sh _, frD_sh _, by rw [frD_eq]; exact q⟩
theorem dpFs {K : PySem.W.Frag} {H : Hp} : ∀ {as : List Addr} {fs : List Fr}, FrsAt K H as fs → DpAll K H (as.map V.ref) (fs.map frD)
  | _, _, .nil => .nil
  | _, _, .cons r t => .cons (dpF r) (dpFs t)
theorem layFs : ∀ fs : List Fr, PyData.canLayAll0 (fs.map frD) = true
  | [] => by simp [PyData.canLayAll0]
  | f :: r => by simp [PyData.canLayAll0, frD, PyData.canLay0, layFs r]
theorem depthFs : ∀ fs : List Fr, PyData.depthAll (fs.map frD) ≤ 1
  | [] => by simp [PyData.depthAll]
  | f :: r => by
    have := depthFs r
    simp [PyData.depthAll, frD, PyData.depth]
    exact Nat.max_le.mpr ⟨by omega, this⟩
theorem shFs (fs : List Fr) : SeqAt.shaped (.list (fs.map frD)) = true := by
  have := depthFs fs
  simp only [SeqAt.shaped, PyData.canLay0, PyData.depth, layFs, Bool.true_and]
  exact decide_eq_true (by omega)
theorem neFL {K : PySem.W.Frag} {H : Hp} {Q : VK} {a b : Addr} {as : List Addr} {fs : List Fr} (h1 : H a = some (.lst (as.map V.ref))) (h2 : H b = some (.lst (as.map V.ref))) (h : FrsAt K H as fs) (q : Q (.bl false) H) : rNeD K (.ref a) (.ref b) H Q :=
  ⟨_, _, .lst (lstL h1) (dpFs h), .lst (lstL h2) (dpFs h), shFs _, shFs _, by rw [SeqAt.eqv_refl (.list (fs.map frD)) (by simp [PyData.canLay0, layFs])]; exact q⟩
end frac
/-- sums, from the left -/
def fsum (t : Fr) (fs : List Fr) : Fr := fs.foldl fplus t
theorem fsum_B : ∀ {fs : List Fr} {t : Fr} {n m : Nat}, FrB n t → t.2 ≠ 0 → (∀ f ∈ fs, FrB m f ∧ f.2 ≠ 0) → FrB (n + fs.length * (m + 1)) (fsum t fs) ∧ (fsum t fs).2 ≠ 0
  | [], t, n, m, h, h0, _ => by
    refine ⟨?_, h0⟩
    show FrB (n + 0 * (m + 1)) t
    rw [Nat.zero_mul]
    exact h
  | f :: r, t, n, m, h, h0, hf => by
    have h1 := hf f (by simp)
    have hp := fplus_pos h0 h1.2
    have ih := fsum_B (fs := r) (t := fplus t f) (n := n + m + 1) (m := m) (fplus_B h h1.1 h0 h1.2) (by omega) fun g hg => hf g (by simp [hg])
    refine ⟨?_, ih.2⟩
    have e : n + (f :: r).length * (m + 1) = n + m + 1 + r.length * (m + 1) := by
      rw [List.length_cons, Nat.add_mul]
      omega
    rw [e]
    exact ih.1
theorem fsum_take {t : Fr} {fs : List Fr} {i : Nat} {f : Fr} (h : fs[i]? = some f) : fsum t (fs.take (i + 1)) = fplus (fsum t (fs.take i)) f := by
  unfold fsum
  rw [List.take_add_one, h, List.foldl_append]
  rfl
def spSumOf (K : PySem.W.Frag) (m k : Nat) : Sp := fun vs H Q _ => ∃ (a : Addr) (as : List Addr) (fs : List Fr), vs = [.ref a] ∧ SqL K H a (as.map V.ref) ∧ FrsAt K H as fs ∧ (∀ f ∈ fs, FrB m f ∧ f.2 ≠ 0) ∧ fs.length ≤ k ∧ ∀ H' c, Kp [] H H' → FrAt K H' c (fsum (0, 1) fs) → Q (.ref c) H'
theorem ok_sum_of_any {P : Program} {w : World} {K : PySem.W.Frag} {mg : Str → Option Value} {base : Heap} (T : T P K mg base) (m k : Nat) (hm : m ≤ 3900) (hk : 1 + k * (m + 1) ≤ 3900) : FnOk P w K mg base CX0 5 T.a_sum_of T.fd_sum_of ["fractions"] (spSumOf K m k) := by
  refine T.F_sum_of.ok sc_sum_of (fun vs H Q E h => ?_) (fun cdv A outer s H vs Q E hr h => ?_)
  · obtain ⟨a, as, fs, rfl, _⟩ := h
    rfl
  · obtain ⟨a, as, fs, rfl, hS, hF, hB, hl, q⟩ := h
    refine ⟨_, (pss_cons (ps_set (i := 1) sc_sum_of.nd rfl (by first | exact Or.inl rfl | exact Or.inr rfl) (pe_glob (v := .ref T.k_ZERO) (by rfl) T.g_ZERO rfl))
      (pss_cons (ps_for PassesOwn.never rfl (pi_list (pv 0)) (pg_name (i := 2) sc_sum_of.nd rfl (by first | exact Or.inl rfl | exact Or.inr rfl)) (pss_one (ps_set (i := 1) sc_sum_of.nd rfl (by first | exact Or.inl rfl | exact Or.inr rfl) (pe_call (ok_plus T) (hr.mono (by decide)) (by rfl) T.g_plus T.F_plus.kp T.b_plus .nil pass0 (pa_cons (pv 1) (pa_cons (pv 2) pa_nil))))))
      (pss_one (ps_ret (pv 1))))), ?_⟩
    walk_at "z0"
    walk_at "z"
    refine Z.forl (as.map V.ref) hS (fun i σ' H' => ∃ c y, σ' = [some (.ref a), some (.ref c), y] ∧ Kp [] H H' ∧ FrAt K H' c (fsum (0, 1) (fs.take i))) ?_ ?_ ?_ ?_
    · exact ⟨T.k_ZERO, none, rfl, Kp.refl _, T.q_ZERO H⟩
    · rintro i σ' H' _ ⟨c, y, rfl, k2, _⟩
      exact k2.seq nin0 hS
    · rintro i v σ' H' hv ⟨c, y, rfl, k2, e2⟩
      obtain ⟨x, f, rfl, hf, hx⟩ := (hF.kp0 k2).get hv
      have hfB := hB f (List.mem_of_getElem? hf)
      have hB1 := fsum_B (fs := fs.take i) (t := (0, 1)) (n := 1) (m := m) ⟨by decide, by decide⟩ (by decide) fun g hg => hB g (List.mem_of_mem_take hg)
      have hle : 1 + (fs.take i).length * (m + 1) ≤ 3900 := Nat.le_trans (Nat.add_le_add_left (Nat.mul_le_mul_right _ (Nat.le_trans (by rw [List.length_take]; exact Nat.min_le_right _ _) hl)) 1) hk
      walk_at "z"
      refine ⟨c, x, _, f, rfl, e2, hx, hB1.2, hfB.2, hB1.1.mono hle, hfB.1.mono hm, fun H3 d nd k3 e3 => ?_⟩
      walk_at "z"
      exact ⟨d, _, rfl, k2.trans k3, by rw [fsum_take hf]; exact e3⟩
    · rintro σ' H' ⟨c, y, rfl, k2, e2⟩
      walk_at "z"
      rw [List.length_map, hF.len, List.take_length] at e2
      exact q _ _ k2 e2

/-! ### fractions as rational numbers -/
def rv (f : Int × Int) : Rat := (f.1 : Rat) / (f.2 : Rat)
theorem ratNe {q : Int} (h : q ≠ 0) : (q : Rat) ≠ 0 := fun z => h (by exact_mod_cast z)
theorem ratPos {q : Int} (h : 0 < q) : (0 : Rat) < (q : Rat) := by exact_mod_cast h
theorem div_eqR {a b c : Rat} (h : b ≠ 0) : a / b = c ↔ a = c * b := by
  constructor
  · rintro rfl
    rw [Rat.div_mul_cancel h]
  · rintro rfl
    rw [Rat.mul_div_cancel h]
theorem rv_lo {p q : Int} (h : q ≠ 0) : rv (lo p q) = (p : Rat) / (q : Rat) := by
  obtain ⟨a, b, e, h1, h2, h3, h4⟩ := lo_spec (p := p) h
  rw [e]
  have hb : (b : Rat) ≠ 0 := ratNe (by omega)
  have hg : (gI p q : Rat) ≠ 0 := ratNe (gI_ne h)
  have hq : (q : Rat) = (gI p q : Rat) * (b : Rat) := by exact_mod_cast h4
  have hp : (p : Rat) = (gI p q : Rat) * (a : Rat) := by exact_mod_cast h3
  show (a : Rat) / (b : Rat) = (p : Rat) / (q : Rat)
  rw [hp, hq]
  grind

/-- a fraction in lowest terms -/
def Low (f : Int × Int) : Prop := 1 ≤ f.2 ∧ Nat.gcd f.1.natAbs f.2.natAbs = 1
theorem lo_low {p q : Int} (h : q ≠ 0) : Low (lo p q) := ⟨lo_pos h, lo_cop h⟩
theorem Low.ne {f : Int × Int} (h : Low f) : f.2 ≠ 0 := by have := h.1; omega
theorem Low.pos {f : Int × Int} (h : Low f) : (0 : Rat) < (f.2 : Rat) := ratPos (by have := h.1; omega)
theorem rv_eqI {f g : Int × Int} (h1 : f.2 ≠ 0) (h2 : g.2 ≠ 0) : rv f = rv g ↔ f.1 * g.2 = g.1 * f.2 := by
  have a1 := ratNe h1
  have a2 := ratNe h2
  unfold rv
  constructor
  · intro h
    have h3 : (f.1 : Rat) * (g.2 : Rat) = (g.1 : Rat) * (f.2 : Rat) := by grind
    exact_mod_cast h3
  · intro h
    have h3 : (f.1 : Rat) * (g.2 : Rat) = (g.1 : Rat) * (f.2 : Rat) := by exact_mod_cast h
    grind
theorem low_eq {f g : Int × Int} (h1 : Low f) (h2 : Low g) (h : rv f = rv g) : f = g := by
  have h3 := (rv_eqI h1.ne h2.ne).mp h
  obtain ⟨a, b⟩ := f
  obtain ⟨c, d⟩ := g
  obtain ⟨hb, h1⟩ := h1
  obtain ⟨hd, h2⟩ := h2
  dsimp only at *
  have e1 : a.natAbs * d.natAbs = c.natAbs * b.natAbs := by rw [← Int.natAbs_mul, ← Int.natAbs_mul, h3]
  have d1 : b.natAbs ∣ d.natAbs := by
    have : b.natAbs ∣ a.natAbs * d.natAbs := ⟨c.natAbs, by rw [e1, Nat.mul_comm]⟩
    exact Nat.Coprime.dvd_of_dvd_mul_left (Nat.Coprime.symm h1) this
  have d2 : d.natAbs ∣ b.natAbs := by
    have : d.natAbs ∣ c.natAbs * b.natAbs := ⟨a.natAbs, by rw [← e1, Nat.mul_comm]⟩
    exact Nat.Coprime.dvd_of_dvd_mul_left (Nat.Coprime.symm h2) this
  have e2 := Nat.dvd_antisymm d1 d2
  have e3 : b = d := by omega
  subst e3
  have e4 : a = c := Int.eq_of_mul_eq_mul_right (by omega) h3
  rw [e4]
theorem rv_lt {f g : Int × Int} (h1 : 1 ≤ f.2) (h2 : 1 ≤ g.2) : f.1 * g.2 < g.1 * f.2 ↔ rv f < rv g := by
  have a1 : (0 : Rat) < (f.2 : Rat) := ratPos (by omega)
  have a2 : (0 : Rat) < (g.2 : Rat) := ratPos (by omega)
  have e1 : (f.1 : Rat) = rv f * (f.2 : Rat) := by unfold rv; rw [Rat.div_mul_cancel (ratNe (by omega))]
  have e2 : (g.1 : Rat) = rv g * (g.2 : Rat) := by unfold rv; rw [Rat.div_mul_cancel (ratNe (by omega))]
  have hp : (0 : Rat) < (f.2 : Rat) * (g.2 : Rat) := Rat.mul_pos a1 a2
  have k : f.1 * g.2 < g.1 * f.2 ↔ (f.1 : Rat) * (g.2 : Rat) < (g.1 : Rat) * (f.2 : Rat) := by
    constructor
    · intro h; exact_mod_cast h
    · intro h; exact_mod_cast h
  rw [k, e1, e2]
  have e3 : rv f * (f.2 : Rat) * (g.2 : Rat) = rv f * ((f.2 : Rat) * (g.2 : Rat)) := by grind
  have e4 : rv g * (g.2 : Rat) * (f.2 : Rat) = rv g * ((f.2 : Rat) * (g.2 : Rat)) := by grind
  rw [e3, e4]
  constructor
  · intro h
    by_cases z : rv f < rv g
    · exact z
    · by_cases z2 : rv f = rv g
      · rw [z2] at h; exact absurd h (Rat.lt_irrefl)
      · have z3 : rv g < rv f := by grind
        have := Rat.mul_lt_mul_of_pos_right z3 hp
        grind
  · intro h
    exact Rat.mul_lt_mul_of_pos_right h hp
theorem rv_pos {f : Int × Int} (h1 : 1 ≤ f.2) : 0 < f.1 ↔ 0 < rv f := by
  have := rv_lt (f := (0, 1)) (g := f) (by decide) h1
  have e : rv (0, 1) = 0 := by unfold rv; grind
  rw [e] at this
  rw [← this]
  show _ ↔ 0 * f.2 < f.1 * 1
  rw [Int.zero_mul, Int.mul_one]
theorem rv_int (n : Int) : rv (n, 1) = (n : Rat) := by unfold rv; grind

/-! ### thresholds -/
/-- the sum of the lesser ones of t and the weights -/
def cap (t : Rat) : List Rat → Rat
  | [] => 0
  | w :: r => (if w < t then w else t) + cap t r
structure Thr (ws : List Rat) (k : Nat) (t : Rat) : Prop where
  small : ws.length ≤ k → t = 0
  big : k < ws.length → 0 < t ∧ cap t ws = (k : Rat) * t
theorem cap_app (t : Rat) : ∀ a b : List Rat, cap t (a ++ b) = cap t a + cap t b
  | [], b => by show cap t b = 0 + cap t b; grind
  | w :: r, b => by
    show (if w < t then w else t) + cap t (r ++ b) = (if w < t then w else t) + cap t r + cap t b
    rw [cap_app t r b]
    grind
theorem cap_all {t : Rat} : ∀ {ws : List Rat}, (∀ w ∈ ws, t ≤ w) → cap t ws = (ws.length : Rat) * t
  | [], _ => by show (0 : Rat) = ((0 : Nat) : Rat) * t; grind
  | w :: r, h => by
    have h1 := h w (by simp)
    show (if w < t then w else t) + cap t r = _
    rw [cap_all (ws := r) fun z hz => h z (by simp [hz]), if_neg (by grind), List.length_cons]
    have e : ((r.length + 1 : Nat) : Rat) = (r.length : Rat) + 1 := by exact_mod_cast rfl
    rw [e]
    grind
theorem cap_ge {t : Rat} (ht : 0 ≤ t) : ∀ {ws : List Rat}, (∀ w ∈ ws, 0 < w) → 0 ≤ cap t ws
  | [], _ => by show (0 : Rat) ≤ 0; grind
  | w :: r, h => by
    have h1 := h w (by simp)
    have h2 := cap_ge ht (ws := r) fun z hz => h z (by simp [hz])
    show 0 ≤ (if w < t then w else t) + cap t r
    split <;> grind
theorem cap_one {s t w : Rat} (hs : 0 < s) (h : s < t) (hw : 0 < w) : (if w < t then w else t) * s ≤ (if w < s then w else s) * t ∧ (w < t → (if w < t then w else t) * s < (if w < s then w else s) * t) := by
  have ht : 0 < t := by grind
  by_cases h1 : w < s
  · have h2 : w < t := by grind
    rw [if_pos h1, if_pos h2]
    have := Rat.mul_lt_mul_of_pos_left h hw
    exact ⟨by grind, fun _ => this⟩
  · rw [if_neg h1]
    by_cases h2 : w < t
    · rw [if_pos h2]
      have := Rat.mul_lt_mul_of_pos_right h2 hs
      have e : s * t = t * s := Rat.mul_comm s t
      rw [e]
      exact ⟨by grind, fun _ => this⟩
    · rw [if_neg h2]
      exact ⟨by grind, fun z => absurd z h2⟩
theorem cap_cmp {s t : Rat} (hs : 0 < s) (h : s < t) : ∀ {ws : List Rat}, (∀ w ∈ ws, 0 < w) → cap t ws * s ≤ cap s ws * t ∧ (cap t ws * s = cap s ws * t → ∀ w ∈ ws, t ≤ w)
  | [], _ => ⟨by show (0 : Rat) * s ≤ 0 * t; grind, fun _ w hw => by cases hw⟩
  | w :: r, hp => by
    have h1 := cap_one hs h (hp w (by simp))
    have h2 := cap_cmp hs h (ws := r) fun z hz => hp z (by simp [hz])
    have e1 : cap t (w :: r) = (if w < t then w else t) + cap t r := rfl
    have e2 : cap s (w :: r) = (if w < s then w else s) + cap s r := rfl
    rw [e1, e2, Rat.add_mul, Rat.add_mul]
    generalize (if w < t then w else t) * s = a at *
    generalize (if w < s then w else s) * t = b at *
    generalize cap t r * s = c at *
    generalize cap s r * t = d at *
    refine ⟨by grind, fun e z hz => ?_⟩
    rcases List.mem_cons.mp hz with rfl | hz
    · by_cases hw : z < t
      · have := h1.2 hw
        grind
      · grind
    · exact h2.2 (by grind) z hz
theorem natR_lt {a b : Nat} (h : a < b) : (a : Rat) < (b : Rat) := by exact_mod_cast h
/-- above the threshold there is room -/
theorem thr_le {ws : List Rat} {k : Nat} {t s : Rat} (hp : ∀ w ∈ ws, 0 < w) (h : Thr ws k t) (hk : k < ws.length) (hs : 0 < s) (hc : cap s ws ≤ (k : Rat) * s) : t ≤ s := by
  by_cases z : t ≤ s
  · exact z
  · have hst : s < t := by grind
    obtain ⟨ht, e⟩ := h.big hk
    have h1 := cap_cmp hs hst hp
    have h2 : cap s ws * t ≤ (k : Rat) * s * t := Rat.mul_le_mul_of_nonneg_right hc (by grind)
    rw [e] at h1
    have h3 : (k : Rat) * t * s = (k : Rat) * s * t := by grind
    have h4 := h1.2 (by grind)
    have h5 := cap_all h4
    rw [e] at h5
    have h6 := Rat.mul_lt_mul_of_pos_right (natR_lt hk) ht
    grind
theorem thr_ge {ws : List Rat} {k : Nat} {t s : Rat} (hp : ∀ w ∈ ws, 0 < w) (h : Thr ws k t) (hk : k < ws.length) (hs : 0 < s) (hc : (k : Rat) * s ≤ cap s ws) : s ≤ t := by
  by_cases z : s ≤ t
  · exact z
  · have hst : t < s := by grind
    obtain ⟨ht, e⟩ := h.big hk
    have h1 := cap_cmp ht hst hp
    have h2 : (k : Rat) * s * t ≤ cap s ws * t := Rat.mul_le_mul_of_nonneg_right hc (by grind)
    rw [e] at h1
    have h3 : (k : Rat) * t * s = (k : Rat) * s * t := by grind
    have h4 := h1.2 (by grind)
    have h7 : ∀ w ∈ ws, t ≤ w := fun w hw => by have := h4 w hw; grind
    have h5 := cap_all h7
    rw [e] at h5
    have h6 := Rat.mul_lt_mul_of_pos_right (natR_lt hk) ht
    grind
theorem thr_uniq {ws : List Rat} {k : Nat} {t s : Rat} (hp : ∀ w ∈ ws, 0 < w) (h : Thr ws k t) (h2 : Thr ws k s) : t = s := by
  by_cases hk : k < ws.length
  · obtain ⟨hs, e⟩ := h2.big hk
    have a := thr_le hp h hk hs (by grind)
    have b := thr_ge hp h hk hs (by grind)
    grind
  · rw [h.small (by omega), h2.small (by omega)]
theorem thr_nonneg {ws : List Rat} {k : Nat} {t : Rat} (h : Thr ws k t) : 0 ≤ t := by
  by_cases hk : k < ws.length
  · have := (h.big hk).1; grind
  · rw [h.small (by omega)]; grind
theorem cap_perm {t : Rat} {a b : List Rat} (h : a.Perm b) : cap t a = cap t b := by
  induction h with
  | nil => rfl
  | cons x _ ih => show _ + cap t _ = _ + cap t _; rw [ih]
  | swap x y l => show _ + (_ + cap t l) = _ + (_ + cap t l); grind
  | trans _ _ h1 h2 => exact h1.trans h2
theorem Thr.perm {a b : List Rat} {k : Nat} {t : Rat} (h : Thr a k t) (p : a.Perm b) : Thr b k t := ⟨fun hl => h.small (by rw [p.length_eq]; exact hl), fun hl => by rw [← cap_perm p]; exact h.big (by rw [p.length_eq]; exact hl)⟩

/-! ### calculations with fractions, as rational numbers -/
theorem rv_fplus {f g : Fr} (h1 : f.2 ≠ 0) (h2 : g.2 ≠ 0) : rv (fplus f g) = rv f + rv g := by
  unfold fplus
  rw [rv_lo (Int.mul_ne_zero h1 h2)]
  have a1 := ratNe h1
  have a2 := ratNe h2
  have e1 : ((f.1 * g.2 + g.1 * f.2 : Int) : Rat) = (f.1 : Rat) * (g.2 : Rat) + (g.1 : Rat) * (f.2 : Rat) := by exact_mod_cast rfl
  have e2 : ((f.2 * g.2 : Int) : Rat) = (f.2 : Rat) * (g.2 : Rat) := by exact_mod_cast rfl
  rw [e1, e2]
  unfold rv
  grind
theorem rv_fminus {f g : Fr} (h1 : f.2 ≠ 0) (h2 : g.2 ≠ 0) : rv (fminus f g) = rv f - rv g := by
  unfold fminus
  rw [rv_lo (Int.mul_ne_zero h1 h2)]
  have a1 := ratNe h1
  have a2 := ratNe h2
  have e1 : ((f.1 * g.2 - g.1 * f.2 : Int) : Rat) = (f.1 : Rat) * (g.2 : Rat) - (g.1 : Rat) * (f.2 : Rat) := by exact_mod_cast rfl
  have e2 : ((f.2 * g.2 : Int) : Rat) = (f.2 : Rat) * (g.2 : Rat) := by exact_mod_cast rfl
  rw [e1, e2]
  unfold rv
  grind
theorem rv_ftimes {f g : Fr} (h1 : f.2 ≠ 0) (h2 : g.2 ≠ 0) : rv (ftimes f g) = rv f * rv g := by
  unfold ftimes
  rw [rv_lo (Int.mul_ne_zero h1 h2)]
  have a1 := ratNe h1
  have a2 := ratNe h2
  have e1 : ((f.1 * g.1 : Int) : Rat) = (f.1 : Rat) * (g.1 : Rat) := by exact_mod_cast rfl
  have e2 : ((f.2 * g.2 : Int) : Rat) = (f.2 : Rat) * (g.2 : Rat) := by exact_mod_cast rfl
  rw [e1, e2]
  unfold rv
  grind
theorem fless_iff {f g : Fr} (h1 : 1 ≤ f.2) (h2 : 1 ≤ g.2) : fless f g = decide (rv f < rv g) := by
  unfold fless
  rw [decide_eq_decide]
  exact rv_lt h1 h2
theorem fplus_low {f g : Fr} (h1 : f.2 ≠ 0) (h2 : g.2 ≠ 0) : Low (fplus f g) := lo_low (Int.mul_ne_zero h1 h2)
theorem rv_fsum : ∀ {fs : List Fr} {t : Fr}, Low t → (∀ f ∈ fs, f.2 ≠ 0) → rv (fsum t fs) = rv t + (fs.map rv).sum ∧ Low (fsum t fs)
  | [], t, h, _ => ⟨by show rv t = rv t + 0; grind, h⟩
  | f :: r, t, h, hf => by
    have h1 := hf f (by simp)
    have ih := rv_fsum (fs := r) (t := fplus t f) (fplus_low h.ne h1) fun g hg => hf g (by simp [hg])
    refine ⟨?_, ih.2⟩
    show rv (fsum (fplus t f) r) = _
    rw [ih.1, rv_fplus h.ne h1, List.map_cons, List.sum_cons]
    grind
theorem eqv_fr (f g : Fr) : PyData.eqv (frD f) (frD g) = decide (f = g) := by
  obtain ⟨a, b⟩ := f
  obtain ⟨c, d⟩ := g
  simp [frD, PyData.eqv, PyData.eqvAll, Prod.ext_iff]
  rfl
theorem eqF {K : PySem.W.Frag} {H : Hp} {Q : VK} {a b : Addr} {f g : Fr} (h1 : FrAt K H a f) (h2 : FrAt K H b g) (q : Q (.bl (decide (f = g))) H) : rEqD K (.ref a) (.ref b) H Q :=
  ⟨_, _, dpF h1, dpF h2, frD_sh _, frD_sh _, by rw [eqv_fr]; exact q⟩
theorem neF {K : PySem.W.Frag} {H : Hp} {Q : VK} {a b : Addr} {f g : Fr} (h1 : FrAt K H a f) (h2 : FrAt K H b g) (q : Q (.bl (!decide (f = g))) H) : rNeD K (.ref a) (.ref b) H Q :=
  ⟨_, _, dpF h1, dpF h2, frD_sh _, frD_sh _, by rw [eqv_fr]; exact q⟩

/-! ### samphire.laws: check_chances, law_from -/
section lawfrom
variable {K : PySem.W.Frag}
open LamX LamK
/-- the partial sums are small -/
def SumOk (fs : List Fr) : Prop := (∀ f ∈ fs, FrB 3900 f ∧ f.2 ≠ 0) ∧ ∀ i, FrB 3900 (fsum (0, 1) (fs.take i)) ∧ (fsum (0, 1) (fs.take i)).2 ≠ 0
def spSumG (K : PySem.W.Frag) : Sp := fun vs H Q _ => ∃ (a : Addr) (as : List Addr) (fs : List Fr), vs = [.ref a] ∧ SqL K H a (as.map V.ref) ∧ FrsAt K H as fs ∧ SumOk fs ∧ ∀ H' c, Kp [] H H' → FrAt K H' c (fsum (0, 1) fs) → Q (.ref c) H'
theorem ok_sum_of {P : Program} {w : World} {K : PySem.W.Frag} {mg : Str → Option Value} {base : Heap} (T : T P K mg base) : FnOk P w K mg base CX0 5 T.a_sum_of T.fd_sum_of ["fractions"] (spSumG K) := by
  refine T.F_sum_of.ok sc_sum_of (fun vs H Q E h => ?_) (fun cdv A outer s H vs Q E hr h => ?_)
  · obtain ⟨a, as, fs, rfl, _⟩ := h
    rfl
  · obtain ⟨a, as, fs, rfl, hS, hF, hB, q⟩ := h
    refine ⟨_, (pss_cons (ps_set (i := 1) sc_sum_of.nd rfl (by first | exact Or.inl rfl | exact Or.inr rfl) (pe_glob (v := .ref T.k_ZERO) (by rfl) T.g_ZERO rfl))
      (pss_cons (ps_for PassesOwn.never rfl (pi_list (pv 0)) (pg_name (i := 2) sc_sum_of.nd rfl (by first | exact Or.inl rfl | exact Or.inr rfl)) (pss_one (ps_set (i := 1) sc_sum_of.nd rfl (by first | exact Or.inl rfl | exact Or.inr rfl) (pe_call (ok_plus T) (hr.mono (by decide)) (by rfl) T.g_plus T.F_plus.kp T.b_plus .nil pass0 (pa_cons (pv 1) (pa_cons (pv 2) pa_nil))))))
      (pss_one (ps_ret (pv 1))))), ?_⟩
    walk_at "z0"
    walk_at "z"
    refine Z.forl (as.map V.ref) hS (fun i σ' H' => ∃ c y, σ' = [some (.ref a), some (.ref c), y] ∧ Kp [] H H' ∧ FrAt K H' c (fsum (0, 1) (fs.take i))) ?_ ?_ ?_ ?_
    · exact ⟨T.k_ZERO, none, rfl, Kp.refl _, T.q_ZERO H⟩
    · rintro i σ' H' _ ⟨c, y, rfl, k2, _⟩
      exact k2.seq nin0 hS
    · rintro i v σ' H' hv ⟨c, y, rfl, k2, e2⟩
      obtain ⟨x, f, rfl, hf, hx⟩ := (hF.kp0 k2).get hv
      have hfB := hB.1 f (List.mem_of_getElem? hf)
      have hB1 := hB.2 i
      walk_at "z"
      refine ⟨c, x, _, f, rfl, e2, hx, hB1.2, hfB.2, hB1.1, hfB.1, fun H3 d nd k3 e3 => ?_⟩
      walk_at "z"
      exact ⟨d, _, rfl, k2.trans k3, by rw [fsum_take hf]; exact e3⟩
    · rintro σ' H' ⟨c, y, rfl, k2, e2⟩
      walk_at "z"
      rw [List.length_map, hF.len, List.take_length] at e2
      exact q _ _ k2 e2
def chOkB (fs : List Fr) : Bool := (fs.all fun f => !fless f (0, 1)) && decide (fsum (0, 1) fs = (1, 1))
theorem ok_InvalidLaw_init {P : Program} {w : World} {K : PySem.W.Frag} {mg : Str → Option Value} {base : Heap} (T : T P K mg base) : FnOk P w K mg base CX0 1 T.a_InvalidLaw_init ((NF_InvalidLaw T.cc_InvalidLaw T.c_InvalidLaw).fd T.doc_InvalidLaw T.pm_InvalidLaw T.ctv_InvalidLaw) ["self"] (spZD T.C_InvalidLaw) := by
  refine Sup.fn_super (F := NF_InvalidLaw T.cc_InvalidLaw T.c_InvalidLaw) (p := "self") (ps' := []) T.x_InvalidLaw.S T.lk_InvalidLaw rfl T.hc_InvalidLaw sc_InvalidLaw_init rfl ⟨_, rfl, rfl⟩ rfl rfl (fun _ => rfl) (fun _ => ⟨_, rfl⟩) (fun _ => rfl) (fun vs H Q E h => ?_) (fun A outer s H vs Q E hr h => ?_)
  · obtain ⟨a, rfl, _⟩ := h
    rfl
  · obtain ⟨a, rfl, ha, q⟩ := h
    exact ⟨a, [], _, _, rfl, ha, pa_cons pe_str pa_nil, pss_nil, by decide, ha, q⟩
def spCheck (K : PySem.W.Frag) (C : Addr) : Sp := fun vs H Q E => ∃ (a : Addr) (as : List Addr) (fs : List Fr), vs = [.ref a] ∧ SqL K H a (as.map V.ref) ∧ FrsAt K H as fs ∧ SumOk fs ∧ (chOkB fs = true → ∀ H', Kp [] H H' → Q .non H') ∧ (chOkB fs = false → ∀ H', Kp [] H H' → E (.ref C) none H')
theorem ok_check_chances {P : Program} {w : World} {K : PySem.W.Frag} {mg : Str → Option Value} {base : Heap} (T : T P K mg base) : FnOk P w K mg base (L2.CX P w) 6 T.a_check_chances T.fd_check_chances ["chances"] (spCheck K T.C_InvalidLaw) := by
  refine T.F_check_chances.okX sc_check_chances (fun vs H Q E h => ?_) (fun cdv A outer s H vs Q E hr h => ?_)
  · obtain ⟨a, as, fs, rfl, _⟩ := h
    rfl
  · obtain ⟨a, as, fs, rfl, hS, hF, hB, q, qE⟩ := h
    refine ⟨_, (pss_cons (ps_for (passes_of rfl) rfl (pi_list (pv 0)) (pg_name (i := 1) sc_check_chances.nd rfl (by first | exact Or.inl rfl | exact Or.inr rfl)) (pss_one (ps_if (pt_val (pe_call (ok_less T) (hr.mono (by decide)) (by rfl) T.g_less T.F_less.kp T.b_less .nil pass0 (pa_cons (pv 1) (pa_cons (pe_glob (v := .ref T.k_ZERO) (by rfl) T.g_ZERO rfl) pa_nil)))) (pss_one (ps_raise rfl (takes_of rfl rfl rfl rfl) (Sup.pmk_oexN T.x_InvalidLaw.S.T T.x_InvalidLaw.iC T.x_InvalidLaw.tI (ok_InvalidLaw_init T) (hr.mono (by decide)) (T.bx_InvalidLaw) pass0 (by rfl) T.x_InvalidLaw.g))) pss_nil)))
      (pss_one (ps_if (pt_cmpR (op_neD hr.units) (pe_call (ok_sum_of T) (hr.mono (by decide)) (by rfl) T.g_sum_of T.F_sum_of.kp T.b_sum_of .nil pass0 (pa_cons (pv 0) pa_nil)) (pe_glob (v := .ref T.k_ONE) (by rfl) T.g_ONE rfl) (nomark _)) (pss_one (ps_raise rfl (takes_of rfl rfl rfl rfl) (Sup.pmk_oexN T.x_InvalidLaw.S.T T.x_InvalidLaw.iC T.x_InvalidLaw.tI (ok_InvalidLaw_init T) (hr.mono (by decide)) (T.bx_InvalidLaw) pass0 (by rfl) T.x_InvalidLaw.g))) pss_nil))), ?_⟩
    walk_at "z0"
    walk_at "z"
    refine Z.forl (as.map V.ref) hS (fun i σ' H' => ∃ y, σ' = [some (.ref a), y] ∧ H' = H ∧ ∀ f ∈ fs.take i, fless f (0, 1) = false) ?_ ?_ ?_ ?_
    · exact ⟨_, rfl, rfl, by simp⟩
    · rintro i σ' H' _ ⟨y, rfl, rfl, _⟩
      exact hS
    · rintro i v σ' H' hv ⟨y, rfl, rfl, hl⟩
      obtain ⟨x, f, rfl, hf, hx⟩ := hF.get hv
      have hfB := hB.1 f (List.mem_of_getElem? hf)
      walk_at "z"
      refine ⟨x, T.k_ZERO, f, (0, 1), rfl, hx, T.q_ZERO _, hfB.1, ⟨by decide, by decide⟩, ?_⟩
      cases hfl : fless f (0, 1) with
      | true =>
        walk_at "z"
        refine Z.mkN fun a na => ⟨a, rfl, upd_same, rfl, upd_same, ?_⟩
        rw [del_upd na]
        refine qE ?_ _ (Kp.refl _)
        unfold chOkB
        rw [show (fs.all fun f => !fless f (0, 1)) = false from by
          refine Bool.eq_false_iff.mpr fun z => ?_
          have := List.all_eq_true.mp z f (List.mem_of_getElem? hf)
          rw [hfl] at this
          cases this]
        rfl
      | false =>
        walk_at "z"
        refine ⟨_, rfl, rfl, fun g hg => ?_⟩
        rw [List.take_add_one, hf] at hg
        rcases List.mem_append.mp hg with hg | hg
        · exact hl g hg
        · obtain rfl : g = f := by simpa using hg
          exact hfl
    · rintro σ' H' ⟨y, rfl, rfl, hl⟩
      rw [List.length_map, hF.len, List.take_length] at hl
      have hall : (fs.all fun f => !fless f (0, 1)) = true := List.all_eq_true.mpr fun f hf => by rw [hl f hf]; rfl
      walk_at "z"
      refine ⟨a, as, fs, rfl, hS, hF, hB, fun H2 c k2 e2 => ?_⟩
      walk_at "z"
      refine neF (g := (1, 1)) e2 (T.q_ONE _) ?_
      unfold chOkB at q qE
      rw [hall, Bool.true_and] at q qE
      walk_at "z"
      refine Z.iteN (fun h1 => ?_) (fun h1 => ?_)
      · walk_at "z"
        refine Z.mkN fun a na => ⟨a, rfl, upd_same, rfl, upd_same, ?_⟩
        rw [del_upd na]
        exact qE (decide_eq_false h1) _ k2
      · walk_at "z"
        exact q (decide_eq_true h1) _ k2
end lawfrom

section lawfrom2
variable {K : PySem.W.Frag}
open LamX LamK
/-- a row of a law: the tuple at a, the outcome v, d as data, the chance at c -/
structure LRow where
  a : Addr
  v : V
  d : PyData
  c : Addr
  f : Fr
def LRow.dat (r : LRow) : PyData × Fr := (r.d, r.f)
def LRow.r (r : LRow) : V := .ref r.a
structure DOk (d : PyData) : Prop where
  flat : noLst d = true
  deep : d.depth ≤ 60
  sh : SeqAt.shaped d = true
structure LRowAt (K : PySem.W.Frag) (H : Hp) (r : LRow) : Prop where
  tup : SqT K H r.a [r.v, .ref r.c]
  dp : Dp K H r.v r.d
  fr : FrAt K H r.c r.f
  ok : DOk r.d
mutual
theorem dp_kp {M : List Addr} {H H' : Hp} (k : Kp M H H') (n : ∀ x ∈ M, NoTup H x) : ∀ (d : PyData) {v : V}, noLst d = true → Dp K H v d → Dp K H' v d
  | .none, _, _, .non => .non
  | .bool _, _, _, .bl b => .bl b
  | .int _, _, _, .int i => .int i
  | .str _, _, _, .str x => .str x
  | .list _, _, z, _ => by simp [noLst] at z
  | .dict _, _, z, _ => by simp [noLst] at z
  | .tuple ds, _, z, .tup h r => .tup (kpTup h k n) (dp_kpAll k n ds (by simpa [noLst] using z) r)
theorem dp_kpAll {M : List Addr} {H H' : Hp} (k : Kp M H H') (n : ∀ x ∈ M, NoTup H x) : ∀ (ds : List PyData) {vs : List V}, noLstAll ds = true → DpAll K H vs ds → DpAll K H' vs ds
  | [], _, _, .nil => .nil
  | d :: ds, _, z, .cons h r => by
    have z' : noLst d = true ∧ noLstAll ds = true := by simpa [noLstAll] using z
    exact .cons (dp_kp k n d z'.1 h) (dp_kpAll k n ds z'.2 r)
end
theorem LRowAt.ext {H H' : Hp} {r : LRow} (h : LRowAt K H r) (e : ExtN H H') : LRowAt K H' r := ⟨ext_tup e h.tup, ext_dp e _ h.dp, ext_tup e h.fr, h.ok⟩
theorem LRowAt.kpM {M : List Addr} {H H' : Hp} {r : LRow} (h : LRowAt K H r) (k : Kp M H H') (n : ∀ x ∈ M, NoTup H x) : LRowAt K H' r := ⟨kpTup h.tup k n, dp_kp k n _ h.ok.flat h.dp, FrAt.kp h.fr k n, h.ok⟩
theorem LRowAt.kp0 {H H' : Hp} {r : LRow} (h : LRowAt K H r) (k : Kp [] H H') : LRowAt K H' r := h.kpM k (by simp)
theorem LRowAt.kpl {H H' : Hp} {r : LRow} {l : Addr} {xs : List V} (h : LRowAt K H r) (k : Kp [l] H H') (e : H l = some (.lst xs)) : LRowAt K H' r := h.kpM k fun x hx => by
  rw [List.mem_singleton.mp hx]
  exact NoTup.lst e
/-- rows gathered: equal neighbours are added -/
def stp (acc : List (PyData × Fr)) (x : PyData × Fr) : List (PyData × Fr) := match acc.getLast? with
  | some y => if PyData.eqv y.1 x.1 = true then acc.dropLast ++ [(x.1, fplus y.2 x.2)] else acc ++ [x]
  | none => [x]
theorem stp_nil (x : PyData × Fr) : stp [] x = [x] := rfl
theorem stp_last (o : List (PyData × Fr)) (y x : PyData × Fr) : stp (o ++ [y]) x = if PyData.eqv y.1 x.1 = true then o ++ [(x.1, fplus y.2 x.2)] else o ++ [y] ++ [x] := by
  unfold stp
  rw [List.getLast?_concat, List.dropLast_concat]
def srtd (rs : List LRow) : List LRow := rs.mergeSort (PySem.W.dataLe false LRow.d)
def lawOf (rs : List LRow) : List (PyData × Fr) := (((srtd rs).map LRow.dat).foldl stp []).filter fun x => !decide (x.2 = (0, 1))
/-- all that is added on the way is small -/
def StpOk (rs : List LRow) : Prop := ∀ i, ∀ y ∈ (((srtd rs).map LRow.dat).take i).foldl stp [], FrB 3900 y.2 ∧ y.2.2 ≠ 0
theorem srtd_refs (rs : List LRow) : ((rs.map fun r => (r.a, r.d)).mergeSort (PySem.W.dataLe false Prod.snd)).map (fun b => V.ref b.1) = (srtd rs).map LRow.r := by
  unfold srtd
  have e := List.map_mergeSort (r := PySem.W.dataLe false LRow.d) (s := PySem.W.dataLe false Prod.snd) (f := fun r : LRow => (r.a, r.d)) (l := rs) (fun _ _ _ _ => rfl)
  rw [← e, List.map_map]
  rfl
theorem mem_srtd {rs : List LRow} {r : LRow} : r ∈ srtd rs ↔ r ∈ rs := (List.mergeSort_perm rs _).mem_iff
structure LawIn (K : PySem.W.Frag) (H : Hp) (rs : List LRow) : Prop where
  at_ : ∀ r ∈ rs, LRowAt K H r
  key : KeyOk (rs.map LRow.d)
  sum : SumOk (rs.map LRow.f)
  stp : StpOk rs
  len : rs.length ≤ 100000
abbrev LQ : Str := "law_from.<locals>.<lambda>"
def spLawFrom (K : PySem.W.Frag) (C P : Addr) : Sp := fun vs H Q E => ∃ (a : Addr) (rs : List LRow), vs = [.ref a] ∧ Tabs [(P, LQ)] H ∧ SqL K H a (rs.map LRow.r) ∧ LawIn K H rs ∧ (chOkB (rs.map LRow.f) = false → ∀ H', Kp [] H H' → E (.ref C) none H') ∧
  (chOkB (rs.map LRow.f) = true → ∀ (H' : Hp) (b : Addr) (out : List LRow), Nw H b → ExtN H H' → Tabs [(P, LQ)] H' → H' b = some (.lst (out.map LRow.r)) → (∀ r ∈ out, LRowAt K H' r) → out.map LRow.dat = lawOf rs → Q (.ref b) H')
theorem frs_of {H : Hp} : ∀ {rs : List LRow}, (∀ r ∈ rs, LRowAt K H r) → FrsAt K H (rs.map LRow.c) (rs.map LRow.f)
  | [], _ => .nil
  | r :: rs, h => .cons (h r (by simp)).fr (frs_of fun x hx => h x (by simp [hx]))
theorem keyrows_of {H : Hp} {rs : List LRow} (h : ∀ r ∈ rs, LRowAt K H r) : KeyRows K H (rs.map fun r => (r.a, r.d)) := fun b hb => by
  obtain ⟨r, hr, rfl⟩ := List.mem_map.mp hb
  have hA := h r hr
  exact ⟨hA.ok.flat, hA.ok.deep, _, _, hA.tup, rfl, hA.dp⟩
theorem seq_kpl {H H' : Hp} {a l : Addr} {xs ys : List V} (h : SqL K H a xs) (k : Kp [l] H H') (n : a ≠ l) : SqL K H' a xs := k.seq (nin1 n) h
/-- found, as it stands -/
structure Fnd (K : PySem.W.Frag) (H : Hp) (F : Addr) (D : List (PyData × Fr)) (out : List LRow) : Prop where
  here : H F = some (.lst (out.map LRow.r))
  rows : ∀ r ∈ out, LRowAt K H r
  dat : out.map LRow.dat = D
theorem Fnd.ext {H H' : Hp} {F : Addr} {D : List (PyData × Fr)} {out : List LRow} (f : Fnd K H F D out) (e : ExtN H H') : Fnd K H' F D out := ⟨ext_get e f.here, fun r hr => (f.rows r hr).ext e, f.dat⟩
theorem Fnd.kp0 {H H' : Hp} {F : Addr} {D : List (PyData × Fr)} {out : List LRow} (f : Fnd K H F D out) (k : Kp [] H H') : Fnd K H' F D out := f.ext (ext_kp k)
theorem Fnd.put {H H' : Hp} {F : Addr} {D D' : List (PyData × Fr)} {out out' : List LRow} (f : Fnd K H F D out) (k : Kp [F] H H') (e : H' F = some (.lst (out'.map LRow.r))) (h : ∀ r ∈ out', LRowAt K H r) (d : out'.map LRow.dat = D') : Fnd K H' F D' out' := ⟨e, fun r hr => (h r hr).kpl k f.here, d⟩
theorem ixN_last {n : Nat} : ixN (n + 1) (-1) = some n := by
  unfold ixN
  rw [if_neg (by decide), if_pos (by omega)]
  congr 1
  omega
theorem rmap_snoc (o : List LRow) (y : LRow) : (o ++ [y]).map LRow.r = o.map LRow.r ++ [.ref y.a] := by rw [List.map_append]; rfl
theorem dat_len {out : List LRow} {D : List (PyData × Fr)} (h : out.map LRow.dat = D) : out.length = D.length := by rw [← h, List.length_map]
theorem stp_len {acc : List (PyData × Fr)} {x : PyData × Fr} : (stp acc x).length ≤ acc.length + 1 := by
  unfold stp
  cases h : acc.getLast? with
  | none =>
    rw [List.getLast?_eq_none_iff.mp h]
    simp
  | some y =>
    dsimp only
    split <;> simp
theorem fold_len : ∀ {xs acc : List (PyData × Fr)}, (xs.foldl stp acc).length ≤ acc.length + xs.length
  | [], acc => by simp
  | x :: xs, acc => by
    have h1 := stp_len (acc := acc) (x := x)
    have h2 := fold_len (xs := xs) (acc := stp acc x)
    rw [List.foldl_cons, List.length_cons]
    omega
theorem fold_snoc {xs : List (PyData × Fr)} {i : Nat} {x : PyData × Fr} (h : xs[i]? = some x) : (xs.take (i + 1)).foldl stp [] = stp ((xs.take i).foldl stp []) x := by
  rw [List.take_add_one, h, List.foldl_append]
  rfl
theorem ok_law_from {P : Program} {w : World} {K : PySem.W.Frag} {mg : Str → Option Value} {base : Heap} (T : T P K mg base) : FnOk P w K mg base (L2.CX P w) 7 T.a_law_from T.fd_law_from ["rows"] (spLawFrom K T.C_InvalidLaw T.P_law_from) := by
  obtain ⟨oc, od, kV, doc, pm, an, ct, osl, efd, lk, hcd⟩ := T.L_law_from
  have lk' := lk
  rw [efd] at lk' ⊢
  refine fn_of lk' hcd sc_law_from (fun vs H Q E h => ?_) (fun A outer s H vs Q E hr h => ?_)
  · obtain ⟨a, rs, rfl, _⟩ := h
    rfl
  · obtain ⟨a, rs, rfl, hT, hS, hL, qE, q⟩ := h
    refine ⟨_, (pss_cons (ps_expr (pe_call (ok_check_chances T) (hr.mono (by decide)) (by rfl) T.g_check_chances T.F_check_chances.kp T.b_check_chances .nil (passes_call (takes_of rfl rfl rfl rfl) (fun _ _ _ _ h => h)) (pa_cons (pe_lc (own := [("outcome", 2), ("chance", 3)]) (g := gTup K 2 (gCons (gName 2) (gCons (gName 3) gNil))) rfl sc_law_from.nd (pi_list (pv 0)) (blkOk_by (own := [("outcome", 2), ("chance", 3)]) (N := N_law_from) (sc := defScope s_law_from) (by decide +kernel)) (fun _ _ _ _ _ => (pg_tup rfl (pgs_cons (pg_name (i := 2) sc_law_from.nd rfl (by first | exact Or.inl rfl | exact Or.inr rfl)) (pgs_cons (pg_name (i := 3) sc_law_from.nd rfl (by first | exact Or.inl rfl | exact Or.inr rfl)) pgs_nil)))) (fun _ _ _ _ _ => pts_nil) (fun _ _ _ _ _ => (pv 3))) pa_nil)))
      (pss_cons (ps_set (i := 1) sc_law_from.nd rfl (by first | exact Or.inl rfl | exact Or.inr rfl) (pe_lst pa_nil))
      (pss_cons (ps_for (passes_of rfl) rfl (pi_list (LamK.pe_sortLam (T := [(T.P_law_from, "law_from.<locals>.<lambda>")]) (by rfl) T.z_sorted (pa_cons (pv 0) pa_nil) T.TB_law_from (by rfl) (by simp; rfl) (by intro q hq _; rw [List.mem_singleton.mp hq]; rfl) hr (LamK.keyS_by (by decide +kernel)) (by rfl) (fun _ _ _ _ _ _ => by rfl))) (pg_tup rfl (pgs_cons (pg_name (i := 2) sc_law_from.nd rfl (by first | exact Or.inl rfl | exact Or.inr rfl)) (pgs_cons (pg_name (i := 3) sc_law_from.nd rfl (by first | exact Or.inl rfl | exact Or.inr rfl)) pgs_nil))) (pss_one (ps_if (PW.pt (pw_and (pt_truth (pv 1) (by intro _; rfl)) (pw_and1 (pt_cmpR (op_eqD hr.units) (pe_ix ix_tup (pe_ix ix_list (pv 1) (pe_un un_neg pe_int) (fun _ _ => rfl)) pe_int (fun _ _ => rfl)) (pv 2) (nomark _))))) (pss_one (ps_asg (pe_tup (pa_cons (pv 2) (pa_cons (pe_call (ok_plus T) (hr.mono (by decide)) (by rfl) T.g_plus T.F_plus.kp T.b_plus .nil pass0 (pa_cons (pe_ix ix_tup (pe_ix ix_list (pv 1) (pe_un un_neg pe_int) (fun _ _ => rfl)) pe_int (fun _ _ => rfl)) (pa_cons (pv 3) pa_nil))) pa_nil))) (pg_sub (pv 1) (pe_un un_neg pe_int) set_list))) (pss_one (ps_expr (pe_bm PySem.F.plainAttrs_list PySem.F.slot_list_append PySem.F.type_list_append mt_append (pv 1) (pa_cons (pe_tup (pa_cons (pv 2) (pa_cons (pv 3) pa_nil))) pa_nil)))))))
      (pss_one (ps_ret (pe_lc (own := [("outcome", 2), ("chance", 3)]) (g := gTup K 2 (gCons (gName 2) (gCons (gName 3) gNil))) rfl sc_law_from.nd (pi_list (pv 1)) (blkOk_by (own := [("outcome", 2), ("chance", 3)]) (N := N_law_from) (sc := defScope s_law_from) (by decide +kernel)) (fun _ _ _ _ _ => (pg_tup rfl (pgs_cons (pg_name (i := 2) sc_law_from.nd rfl (by first | exact Or.inl rfl | exact Or.inr rfl)) (pgs_cons (pg_name (i := 3) sc_law_from.nd rfl (by first | exact Or.inl rfl | exact Or.inr rfl)) pgs_nil)))) (fun _ _ _ _ _ => (pts_one (pt_cmpR (op_neD hr.units : OpR _ _ (rNeD K)) (pv 3) (pe_glob (v := .ref T.k_ZERO) (by rfl) T.g_ZERO rfl) (nomark _)))) (fun _ _ _ _ _ => (pe_tup (pa_cons (pv 2) (pa_cons (pv 3) pa_nil)))))))))), ?_⟩
    walk_at "z0"
    walk_at "z"
    refine Z.lcl (rs.map LRow.r) hS (fun D i H1 => Kp [] H H1 ∧ H1 D = some (.lst ((rs.take i).map fun r => V.ref r.c))) ?_ ?_ ?_ ?_
    · intro D H1 nD k1 e1
      exact ⟨k1, e1⟩
    · rintro D i H1 nD hi ⟨k1, e1⟩
      exact k1.seq nin0 hS
    · rintro D i x H1 nD hx ⟨k1, e1⟩
      rw [List.getElem?_map] at hx
      obtain ⟨r, hr2, rfl⟩ := Option.map_eq_some_iff.mp hx
      have hA := (hL.at_ r (List.mem_of_getElem? hr2)).kp0 k1
      have hlen := hL.len
      dsimp only [wipe, List.set]
      refine Z.gtup hA.tup rfl ?_
      walk_at "z"
      refine ⟨rfl, ?_⟩
      walk_at "z"
      refine ⟨_, e1, Z.szl (m := 100000) (by rw [List.length_map, List.length_take]; omega), k1.mut nD rfl, ?_⟩
      rw [upd_same, List.take_add_one, hr2, List.map_append]
      rfl
    · rintro D H1 nD ⟨k1, e1⟩
      rw [List.length_map, List.take_length] at e1
      have hF1 := (frs_of hL.at_).kp0 k1
      refine ⟨D, rs.map LRow.c, rs.map LRow.f, rfl, lstL (by rw [e1, List.map_map]; rfl), hF1, hL.sum, fun ok H2 k2 => ?_, fun bad H2 k2 => qE bad _ (k1.trans k2)⟩
      have q := q ok
      walk_at "z"
      refine Z.lstK (fun F H3 nF k3 e3 => ?_)
      walk_at "z"
      have k03 := (k1.trans k2).trans k3
      have nF0 : H F = none := (k1.trans k2).none nin0 nF
      have hA3 : ∀ r ∈ rs, LRowAt K H3 r := fun r hr => (hL.at_ r hr).kp0 k03
      refine srtK (bs := rs.map fun r => (r.a, r.d)) (tabs_kp hT k03) (by rw [List.map_map]; exact k03.seq nin0 hS) (keyrows_of hA3) (by rw [List.map_map]; exact hL.key) fun H4 l e4 T4 nl el => ?_
      rw [srtd_refs] at el
      have hA4 : ∀ r ∈ srtd rs, LRowAt K H4 r := fun r hr => (hA3 r (mem_srtd.mp hr)).ext e4
      have hlF : F ≠ l := nl.ne e3 (by simp)
      have hlen : (srtd rs).length = rs.length := (List.mergeSort_perm rs _).length_eq
      have e04 : ExtN H H4 := (ext_kp k03).trans e4
      have hnF : Nw H F := Nw.of nF0
      have hsl : SqL K H4 l ((srtd rs).map LRow.r) := lstL el
      have hlenR := hL.len
      refine Z.forl ((srtd rs).map LRow.r) hsl (fun i σ' H' => ∃ y2 y3 out, σ' = [some (.ref a), some (.ref F), y2, y3] ∧ ExtN H H' ∧ Tabs [(T.P_law_from, LQ)] H' ∧ H' l = some (.lst ((srtd rs).map LRow.r)) ∧ (∀ r ∈ srtd rs, LRowAt K H' r) ∧ Fnd K H' F ((((srtd rs).map LRow.dat).take i).foldl stp []) out) ?_ ?_ ?_ ?_
      · exact ⟨_, _, [], rfl, e04, T4, el, hA4, ext_get e4 e3, by simp, rfl⟩
      · rintro i σ' H' hi ⟨y2, y3, out, rfl, e5, T5, l5, A5, F5⟩
        exact lstL l5
      · rintro i v σ' H' hv ⟨y2, y3, out, rfl, e5, T5, l5, A5, F5⟩
        rw [List.getElem?_map] at hv
        obtain ⟨r, hr2, rfl⟩ := Option.map_eq_some_iff.mp hv
        have hrm := List.mem_of_getElem? hr2
        have hA := A5 r hrm
        have hi : i < (srtd rs).length := (List.getElem?_eq_some_iff.mp hr2).1
        have hxd : ((srtd rs).map LRow.dat)[i]? = some r.dat := by rw [List.getElem?_map, hr2]; rfl
        have hfs := fold_snoc hxd
        have hol : out.length ≤ i := by
          have h1 := dat_len F5.dat
          have h2 := fold_len (xs := ((srtd rs).map LRow.dat).take i) (acc := [])
          rw [List.length_take] at h2
          simp only [List.length_nil] at h2
          omega
        have hfB := hL.sum.1 r.f (List.mem_map_of_mem (mem_srtd.mp hrm))
        have hpost : ∀ {H6 : Hp} (out' : List LRow), ExtN H H6 → Tabs [(T.P_law_from, LQ)] H6 → H6 l = some (.lst ((srtd rs).map LRow.r)) → (∀ r ∈ srtd rs, LRowAt K H6 r) → ∀ {out6 : List LRow} {D6 : List (PyData × Fr)}, Fnd K H6 F D6 out6 → (∀ r ∈ out', LRowAt K H6 r) → out'.map LRow.dat = stp ((((srtd rs).map LRow.dat).take i).foldl stp []) r.dat →
            ∃ y2 y3 out, [some (V.ref a), some (.ref F), some r.v, some (.ref r.c)] = [some (.ref a), some (.ref F), y2, y3] ∧ ExtN H (upd H6 F (.lst (out'.map LRow.r))) ∧ Tabs [(T.P_law_from, LQ)] (upd H6 F (.lst (out'.map LRow.r))) ∧ (upd H6 F (.lst (out'.map LRow.r))) l = some (.lst ((srtd rs).map LRow.r)) ∧ (∀ r ∈ srtd rs, LRowAt K (upd H6 F (.lst (out'.map LRow.r))) r) ∧ Fnd K (upd H6 F (.lst (out'.map LRow.r))) F ((((srtd rs).map LRow.dat).take (i + 1)).foldl stp []) out := fun {H6} out' e6 T6 l6 A6 {out6 D6} F6 ho hd => by
          have kF : Kp [F] H6 (upd H6 F (.lst (out'.map LRow.r))) := Kp.put (by simp)
          exact ⟨_, _, out', rfl, ext_put e6 kF hnF, tabs_put T6 kF F6.here, (upd_ne hlF.symm).trans l6, fun r hr => (A6 r hr).kpl kF F6.here, F6.put kF upd_same ho (by rw [hd, hfs])⟩
        refine Z.gtup hA.tup rfl ?_
        walk_at "z"
        refine Z.truL F5.here ?_
        rcases List.eq_nil_or_concat out with rfl | ⟨o, y, hoy⟩
        · rw [show (!(List.map LRow.r []).isEmpty) = false from rfl]
          walk_at "z"
          refine ⟨Z.tyL F5.here, ?_⟩
          walk_at "z"
          refine Z.tupK (fun t H6 nt k6 e6 => ?_)
          have F6 := F5.kp0 k6
          walk_at "z"
          refine Z.app F6.here (Z.szl (m := 100000) (by simp)) ?_
          walk_at "z"
          refine hpost [⟨t, r.v, r.d, r.c, r.f⟩] (e5.trans (ext_kp k6)) (tabs_kp T5 k6) (k6.get nin0 l5) (fun r hr => (A5 r hr).kp0 k6) F6 (fun x hx => ?_) ?_
          · rw [List.mem_singleton.mp hx]
            have hA6 := hA.kp0 k6
            exact ⟨tupT e6, hA6.dp, hA6.fr, hA6.ok⟩
          · rw [← F5.dat]
            rfl
        · rw [List.concat_eq_append] at hoy
          subst hoy
          have hD := F5.dat
          rw [List.map_append, List.map_cons, List.map_nil] at hD
          have hy := F5.rows y (by simp)
          have hyB := hL.stp i (y.d, y.f) (by rw [← hD]; simp [LRow.dat])
          have F5h := F5.here
          rw [rmap_snoc] at F5h ⊢
          rw [show (!(List.map LRow.r o ++ [V.ref y.a]).isEmpty) = true by simp]
          walk_at "z"
          refine Z.ixL (lstL F5h) (atI_last _ _) ?_
          walk_at "z"
          refine Z.ixT hy.tup (v := y.v) rfl ?_
          walk_at "z"
          refine ⟨y.d, r.d, hy.dp, hA.dp, hy.ok.sh, hA.ok.sh, ?_⟩
          cases hev : PyData.eqv y.d r.d with
          | true =>
            walk_at "z"
            refine Z.ixL (lstL F5h) (atI_last _ _) ?_
            walk_at "z"
            refine Z.ixT hy.tup (v := .ref y.c) rfl ?_
            walk_at "z"
            refine ⟨y.c, r.c, y.f, r.f, rfl, hy.fr, hA.fr, hyB.2, hfB.2, hyB.1, hfB.1, fun H6 s ns k6 e6 => ?_⟩
            walk_at "z"
            refine Z.tupK (fun t H7 nt k7 e7 => ?_)
            have k57 := k6.trans k7
            have F7 := F5.kp0 k57
            have F7h := F7.here
            rw [rmap_snoc] at F7h
            walk_at "z"
            refine Z.setL F7h (by rw [List.length_append]; exact ixN_last) ?_
            rw [show (List.map LRow.r o ++ [V.ref y.a]).set (List.map LRow.r o).length (.ref t) = (o ++ [(⟨t, r.v, r.d, s, fplus y.f r.f⟩ : LRow)]).map LRow.r by rw [rmap_snoc, List.set_append_right _ _ (Nat.le_refl _), Nat.sub_self]; rfl]
            refine hpost (o ++ [⟨t, r.v, r.d, s, fplus y.f r.f⟩]) (e5.trans (ext_kp k57)) (tabs_kp T5 k57) (k57.get nin0 l5) (fun r hr => (A5 r hr).kp0 k57) F7 (fun x hx => ?_) ?_
            · rcases List.mem_append.mp hx with hx | hx
              · exact F7.rows x (by simp [hx])
              · rw [List.mem_singleton.mp hx]
                have hA7 := hA.kp0 k57
                exact ⟨tupT e7, hA7.dp, e6.kp0 k7, hA7.ok⟩
            · rw [← hD, stp_last, if_pos (show PyData.eqv y.dat.1 r.dat.1 = true from hev), List.map_append]
              rfl
          | false =>
            walk_at "z"
            refine ⟨Z.tyL F5h, ?_⟩
            walk_at "z"
            refine Z.tupK (fun t H6 nt k6 e6 => ?_)
            have F6 := F5.kp0 k6
            walk_at "z"
            refine Z.app F6.here (Z.szl (m := 100000) (by rw [List.length_map]; omega)) ?_
            walk_at "z"
            rw [show (o ++ [y]).map LRow.r ++ [V.ref t] = (o ++ [y] ++ [(⟨t, r.v, r.d, r.c, r.f⟩ : LRow)]).map LRow.r by rw [List.map_append (l₁ := o ++ [y])]; rfl]
            refine hpost (o ++ [y] ++ [⟨t, r.v, r.d, r.c, r.f⟩]) (e5.trans (ext_kp k6)) (tabs_kp T5 k6) (k6.get nin0 l5) (fun r hr => (A5 r hr).kp0 k6) F6 (fun x hx => ?_) ?_
            · rcases List.mem_append.mp hx with hx | hx
              · exact F6.rows x hx
              · rw [List.mem_singleton.mp hx]
                have hA6 := hA.kp0 k6
                exact ⟨tupT e6, hA6.dp, hA6.fr, hA6.ok⟩
            · rw [← hD, stp_last, if_neg (show ¬ PyData.eqv y.dat.1 r.dat.1 = true by show ¬ PyData.eqv y.d r.d = true; rw [hev]; exact Bool.false_ne_true), List.map_append (l₁ := o ++ [y]), List.map_append]
              rfl
      · rintro σ' H' ⟨y2, y3, out, rfl, e5, T5, l5, A5, F5⟩
        rw [List.length_map, ← List.length_map (f := LRow.dat), List.take_length] at F5
        have hol : out.length ≤ rs.length := by
          have h1 := dat_len F5.dat
          have h2 := fold_len (xs := (srtd rs).map LRow.dat) (acc := [])
          rw [List.length_map] at h2
          simp only [List.length_nil] at h2
          omega
        walk_at "z"
        refine Z.lcl (out.map LRow.r) (lstL F5.here) (fun D2 i H6 => ∃ res : List LRow, Kp [] H' H6 ∧ H6 D2 = some (.lst (res.map LRow.r)) ∧ (∀ r ∈ res, LRowAt K H6 r) ∧ res.map LRow.dat = ((out.take i).map LRow.dat).filter fun x => !decide (x.2 = (0, 1))) ?_ ?_ ?_ ?_
        · intro D2 H6 nD2 k6 e6
          exact ⟨[], k6, e6, by simp, by simp⟩
        · rintro D2 i H6 nD2 hi ⟨res, k6, e6, A6, hd6⟩
          exact lstL (k6.get nin0 F5.here)
        · rintro D2 i x H6 nD2 hx ⟨res, k6, e6, A6, hd6⟩
          rw [List.getElem?_map] at hx
          obtain ⟨r, hr2, rfl⟩ := Option.map_eq_some_iff.mp hx
          have hA := (F5.rows r (List.mem_of_getElem? hr2)).kp0 k6
          have hrl : res.length ≤ i := by
            have h1 := dat_len hd6
            have h2 := List.length_filter_le (fun x : PyData × Fr => !decide (x.2 = (0, 1))) ((out.take i).map LRow.dat)
            rw [List.length_map, List.length_take] at h2
            omega
          have hi : i < out.length := (List.getElem?_eq_some_iff.mp hr2).1
          dsimp only [wipe, List.set]
          refine Z.gtup hA.tup rfl ?_
          walk_at "z"
          refine ⟨rfl, ?_⟩
          walk_at "z"
          refine neF (g := (0, 1)) hA.fr (T.q_ZERO _) ?_
          walk_at "z"
          refine Z.iteN (fun h1 => ?_) (fun h1 => ?_)
          · walk_at "z"
            refine Z.tupK (fun t H7 nt k7 e7 => ?_)
            have e7D := k7.get nin0 e6
            refine ⟨_, e7D, Z.szl (m := 100000) (by rw [List.length_map]; omega), res ++ [⟨t, r.v, r.d, r.c, r.f⟩], (k6.trans k7).mut nD2 rfl, by rw [upd_same, rmap_snoc], fun x hx => ?_, ?_⟩
            · have kD : Kp [D2] H7 (upd H7 D2 (.lst (res.map LRow.r ++ [.ref t]))) := Kp.put (by simp)
              rcases List.mem_append.mp hx with hx | hx
              · exact ((A6 x hx).kp0 k7).kpl kD e7D
              · rw [List.mem_singleton.mp hx]
                have hA7 := hA.kp0 k7
                exact LRowAt.kpl (r := ⟨t, r.v, r.d, r.c, r.f⟩) ⟨tupT e7, hA7.dp, hA7.fr, hA7.ok⟩ kD e7D
            · rw [List.map_append, hd6, List.take_add_one, hr2, List.map_append, List.filter_append]
              congr 1
              show [r.dat] = [r.dat].filter _
              rw [List.filter_cons_of_pos (by simp [LRow.dat, h1]), List.filter_nil]
          · walk_at "z"
            refine ⟨res, k6, e6, A6, ?_⟩
            rw [hd6, List.take_add_one, hr2, List.map_append, List.filter_append]
            show _ = _ ++ [r.dat].filter _
            rw [List.filter_cons_of_neg (by simp [LRow.dat, h1]), List.filter_nil, List.append_nil]
        · rintro D2 H6 nD2 ⟨res, k6, e6, A6, hd6⟩
          rw [List.length_map, List.take_length, F5.dat] at hd6
          walk_at "z"
          exact q H6 D2 res (Nw.back (Nw.of nD2) e5) (e5.trans (ext_kp k6)) (tabs_kp T5 k6) e6 A6 hd6
end lawfrom2

def spLow (K : PySem.W.Frag) : Sp := fun vs H Q _ => ∃ p q : Int, vs = [.int p, .int q] ∧ q ≠ 0 ∧ q.natAbs < 2 ^ 2400 ∧ ∀ H' b, H b = none → Kp [] H H' → H' b = some (.tup (frV (lo p q))) → Q (.ref b) H'
theorem abs_if (i : Int) : (if i < 0 then -i else i) = (i.natAbs : Int) := by
  split <;> omega
theorem ok__law_low {P : Program} {w : World} {K : PySem.W.Frag} {mg : Str → Option Value} {base : Heap} (T : T P K mg base) : FnOk P w K mg base CX0 1 T.a__law_low T.fd__law_low ["p", "q"] (spLow K) := by
  refine T.F__law_low.ok sc__law_low (fun vs H Q E h => ?_) (fun cdv A outer s H vs Q E hr h => ?_)
  · obtain ⟨p, q, rfl, _⟩ := h
    rfl
  · obtain ⟨p, q, rfl, hq, hb, q1⟩ := h
    have hg := gI_ne (p := p) hq
    have hdv : Z.CDivA p (gI p q) := Z.divA (b := 2400) hg (by rw [gI_abs]; exact Nat.lt_of_le_of_lt (gN_le hq) hb) (by decide) (by decide)
    have hdv2 : Z.CDivA q (gI p q) := hdv
    refine ⟨_, (pss_cons (ps_set (i := 2) sc__law_low.nd rfl (by first | exact Or.inl rfl | exact Or.inr rfl) (pe_callB c_abs (by rfl) T.z_abs (by decide +kernel) (pa_cons (pv 0) pa_nil)))
      (pss_cons (ps_set (i := 3) sc__law_low.nd rfl (by first | exact Or.inl rfl | exact Or.inr rfl) (pe_callB c_abs (by rfl) T.z_abs (by decide +kernel) (pa_cons (pv 1) pa_nil)))
      (Z.pss_consJ (ps_for PassesOwn.never rfl (pi_range1 (by rfl) T.z_range (pa_cons pe_int pa_nil)) (pg_name (i := 4) sc__law_low.nd rfl (by first | exact Or.inl rfl | exact Or.inr rfl)) (pss_cons (ps_if (pt_cmpR op_eq (pv 3) pe_int (nomark _)) (pss_one ps_break) pss_nil)
      (pss_one (ps_par (i := 2) (j := 3) rfl sc__law_low.nd rfl rfl (by decide) rfl rfl (pa_cons (pv 3) (pa_cons (pe_op op_mod (pe_callTy c_int (by rfl) T.z_int (by decide +kernel) (pa_cons (pv 2) pa_nil)) (pv 3)) pa_nil)) (by rfl)))))
      (Z.pss_consJ (ps_if (pt_cmpR op_lt (pv 1) pe_int (nomark _)) (pss_one (ps_set (i := 2) sc__law_low.nd rfl (by first | exact Or.inl rfl | exact Or.inr rfl) (pe_op op_sub pe_int (pv 2)))) pss_nil)
      (pss_one (ps_ret (pe_tup (pa_cons (pe_op Z.op_fdivA (pv 0) (pv 2)) (pa_cons (pe_op Z.op_fdivA (pv 1) (pv 2)) pa_nil))))))))), ?_⟩
    walk_at "z0"
    walk_at "z"
    rw [abs_if, abs_if]
    refine Z.seqJ (fun σ' H' => ∃ y z : Option V, σ' = [some (.int p), some (.int q), some (.int (gN p q : Int)), y, z] ∧ H' = H) ?_ ?_
    · rintro σ' H' ⟨y, z, rfl, rfl⟩
      refine Z.seqJ (fun σ' H'' => ∃ y z : Option V, σ' = [some (.int p), some (.int q), some (.int (gI p q)), y, z] ∧ H'' = H') ?_ ?_
      · rintro σ' H'' ⟨y, z, rfl, rfl⟩
        walk_at "z"
        refine Z.iC hdv ?_
        walk_at "z"
        refine Z.iC hdv2 ?_
        refine Z.tupK (fun b H1 nb k1 e1 => ?_)
        exact q1 _ _ nb k1 e1
      · intro N jn
        walk_at "z"
        refine Z.ite (fun h2 => ?_) (fun h2 => ?_)
        · walk_at "z"
          refine jn _ _ ⟨y, z, ?_, rfl⟩
          unfold gI
          rw [if_pos h2, Int.zero_sub]
        · walk_at "z"
          refine jn _ _ ⟨y, z, ?_, rfl⟩
          unfold gI
          rw [if_neg h2]
    · intro N jn
      walk_at "z"
      refine Z.forr 5000 ?_ (by decide) (fun i σ' H' => ∃ z : Option V, σ' = [some (.int p), some (.int q), some (.int ((euc i (p.natAbs, q.natAbs)).1 : Int)), some (.int ((euc i (p.natAbs, q.natAbs)).2 : Int)), z] ∧ H' = H) ?_ ?_ ?_
      · rfl
      · exact ⟨_, rfl, rfl⟩
      · rintro i σ' H' hi ⟨z, rfl, rfl⟩
        walk_at "z"
        refine Z.ite (fun h2 => ?_) (fun h2 => ?_)
        · walk_at "z"
          have h0 : (euc i (p.natAbs, q.natAbs)).2 = 0 := by omega
          have eg := euc_gcd i (p.natAbs, q.natAbs)
          rw [h0, Nat.gcd_zero_right] at eg
          rw [eg]
          exact jn _ _ ⟨_, _, rfl, rfl⟩
        · walk_at "z"
          refine Z.iC (by omega) ?_
          walk_at "z"
          have es : euc (i + 1) (p.natAbs, q.natAbs) = ((euc i (p.natAbs, q.natAbs)).2, (euc i (p.natAbs, q.natAbs)).1 % (euc i (p.natAbs, q.natAbs)).2) := by
            rw [euc_succ]
            exact if_neg (by omega)
          refine ⟨some (.int (i : Int)), ?_, rfl⟩
          rw [es]
          rfl
      · rintro σ' H' ⟨z, rfl, rfl⟩
        have h0 := euc_5000 (p := (p.natAbs, q.natAbs)) hb
        have eg := euc_gcd 5000 (p.natAbs, q.natAbs)
        rw [h0, Nat.gcd_zero_right] at eg
        walk_at "z"
        rw [eg]
        exact jn _ _ ⟨_, _, rfl, rfl⟩

/-- two fractions in, a fraction out; smaller ones -/
def spG2 (K : PySem.W.Frag) (o : Fr → Fr → Fr) : Sp := fun vs H Q _ => ∃ (a b : Addr) (f g : Fr), vs = [.ref a, .ref b] ∧ FrAt K H a f ∧ FrAt K H b g ∧ 1 ≤ f.2 ∧ 1 ≤ g.2 ∧ (∃ n m, FrB n f ∧ FrB m g ∧ n + m ≤ 1900) ∧ ∀ H' c, H c = none → Kp [] H H' → FrAt K H' c (o f g) → Q (.ref c) H'

/-! ### errors of samphire.errors with fields -/
open PySem in
theorem app_len (a b : Str) : (a ++ b).length = a.length + b.length := by
  show (a.cps ++ b.cps).size = _
  rw [Array.size_append]; rfl
/-- what an own __init__ with fields does: ok says what it is called with, fl which fields it keeps -/
def spErr (C : Addr) (ok : List V → Prop) (fl : List V → List (Str × V)) : Sp := fun vs H Q _ => ∃ (a : Addr) (ws : List V), vs = .ref a :: ws ∧ ok ws ∧ H a = some (exo a C none) ∧
  ∀ d H', H d = none → d ≠ a → H' a = some (exo a C (some d)) → H' d = some (exd d (fl ws)) → (∀ b, b ≠ a → b ≠ d → H' b = H b) → Q .non H'
theorem err_heap {H H' : Hp} {a d : Addr} {o : HO} (ha : H a = none) (h : ∀ b, b ≠ a → b ≠ d → H' b = H b) : upd (del H' a) d o = upd H d o := by
  funext b
  by_cases hd : b = d
  · rw [hd, upd_same, upd_same]
  · rw [upd_ne hd, upd_ne hd]
    by_cases hb : b = a
    · rw [hb, del_same, ha]
    · rw [del_ne hb, h b hb hd]
/-- raise C(..) -/
theorem mkErr {C : Addr} {ok : List V → Prop} {fl : List V → List (Str × V)} {ta : TA} {σ : L2.St} {H : Hp} {Q : XK} (h : ta σ H fun vs H1 => vs.length ≤ 1000 ∧ ok vs ∧ ∀ d, H1 d = none → Q (.ref C) (some d) (upd H1 d (.xd (fl vs)))) (mono : ∀ {R S : List V → Hp → Prop}, (∀ v u, R v u → S v u) → ta σ H R → ta σ H S) : tMkO C (spErr C ok fl) [] ta σ H Q := by
  refine mono ?_ h
  rintro vs H1 ⟨hz, hok, q⟩
  refine ⟨hz, fun a ha => ⟨a, vs, by rw [List.append_nil], hok, upd_same, fun d H' hd hda h1 h2 h3 => ⟨rfl, d, fl vs, h1, h2, ?_, ?_⟩⟩⟩
  · rwa [upd_ne hda] at hd
  · rw [err_heap ha fun b hb hd => by rw [h3 b hb hd, upd_ne hb]]
    refine q d ?_
    rwa [upd_ne hda] at hd
def okWord (ws : List V) : Prop := ∃ s : Str, ws = [.str s] ∧ s.length ≤ 1000
def flOne (f : Str) : List V → List (Str × V)
  | [v] => [(f, v)]
  | _ => []
theorem ok_TooLarge_init {P : Program} {w : World} {K : PySem.W.Frag} {mg : Str → Option Value} {base : Heap} (T : T P K mg base) : FnOk P w K mg base CX0 1 T.a_TooLarge_init ((NF_TooLarge T.cc_TooLarge T.c_TooLarge).fd T.doc_TooLarge T.pm_TooLarge T.ctv_TooLarge) ["self", "limit"] (spErr T.C_TooLarge okWord (flOne "limit")) := by
  refine Sup.fn_super (F := NF_TooLarge T.cc_TooLarge T.c_TooLarge) (p := "self") (ps' := ["limit"]) T.x_TooLarge.S T.lk_TooLarge rfl T.hc_TooLarge sc_TooLarge_init rfl ⟨_, rfl, rfl⟩ rfl rfl (fun _ => rfl) (fun _ => ⟨_, rfl⟩) (fun _ => rfl) (fun vs H Q E h => ?_) (fun A outer s H vs Q E hr h => ?_)
  · obtain ⟨a, ws, rfl, ⟨s, rfl, _⟩, _⟩ := h
    rfl
  · obtain ⟨a, ws, rfl, ⟨s, rfl, hz⟩, ha, q⟩ := h
    refine ⟨a, [.str s], _, _, rfl, ha, pa_cons (pe_joined (.cons pe_str (.cons (pe_fmt (pv 1)) .nil))) pa_nil, pss_one (ps_ost (pv 0) (pv 1)), ?_⟩
    refine ⟨_, rfl, ?_, V.str s, rfl, .inl ⟨s, rfl, Nat.le_trans hz (by decide), s, rfl, ?_, ?_⟩⟩
    · decide +kernel
    · rw [app_len]
      refine Nat.le_trans (Nat.add_le_add (Nat.le_of_eq (show _ = 11 by decide +kernel)) hz) (by decide)
    refine ⟨by show 1 ≤ 1000; decide, ha, V.str s, rfl, V.ref a, rfl, a, T.C_TooLarge, rfl, T.x_TooLarge.S.T, T.nf_TooLarge_limit, .inl ⟨ha, fun d hd hda => ?_⟩⟩
    exact q d _ hd hda upd_same (by rw [upd_ne hda]; exact upd_same) (fun b hb hb2 => by rw [upd_ne hb, upd_ne hb2])

/-! ### samphire.explore, for any weights -/
theorem ok_NotEnded_init {P : Program} {w : World} {K : PySem.W.Frag} {mg : Str → Option Value} {base : Heap} (T : T P K mg base) : FnOk P w K mg base CX0 1 T.a_NotEnded_init ((NF_NotEnded T.cc_NotEnded T.c_NotEnded).fd T.doc_NotEnded T.pm_NotEnded T.ctv_NotEnded) ["self"] (spZD T.C_NotEnded) := by
  refine Sup.fn_super (F := NF_NotEnded T.cc_NotEnded T.c_NotEnded) (p := "self") (ps' := []) T.x_NotEnded.S T.lk_NotEnded rfl T.hc_NotEnded sc_NotEnded_init rfl ⟨_, rfl, rfl⟩ rfl rfl (fun _ => rfl) (fun _ => ⟨_, rfl⟩) (fun _ => rfl) (fun vs H Q E h => ?_) (fun A outer s H vs Q E hr h => ?_)
  · obtain ⟨a, rfl, _⟩ := h
    rfl
  · obtain ⟨a, rfl, ha, q⟩ := h
    exact ⟨a, [], _, _, rfl, ha, pa_cons pe_str pa_nil, pss_nil, by decide, ha, q⟩
section explore
variable {K : PySem.W.Frag}
open LamX LamK
def nextG (ws : List Int) : Nat → Nat → Option Nat
  | 0, _ => none
  | n + 1, s => if 0 < ws.getD s 0 then some s else nextG ws n (s + 1)
def nextN (ws : List Int) (s : Nat) : Option Nat := nextG ws (ws.length - s) s
theorem nextG_spec {ws : List Int} : ∀ {n s k : Nat}, nextG ws n s = some k → s ≤ k ∧ k < s + n ∧ 0 < ws.getD k 0 ∧ ∀ j, s ≤ j → j < k → ¬ 0 < ws.getD j 0
  | 0, _, _, h => by cases h
  | n + 1, s, k, h => by
    unfold nextG at h
    split at h
    · obtain rfl := Option.some.inj h
      exact ⟨Nat.le_refl _, by omega, by assumption, fun j h1 h2 => by omega⟩
    · rename_i hz
      obtain ⟨h1, h2, h3, h4⟩ := nextG_spec h
      refine ⟨by omega, by omega, h3, fun j j1 j2 => ?_⟩
      by_cases e : j = s
      · rw [e]; exact hz
      · exact h4 j (by omega) j2
theorem nextG_none {ws : List Int} : ∀ {n s : Nat}, nextG ws n s = none → ∀ j, s ≤ j → j < s + n → ¬ 0 < ws.getD j 0
  | 0, _, _, j, h1, h2 => by omega
  | n + 1, s, h, j, h1, h2 => by
    unfold nextG at h
    split at h
    · cases h
    · rename_i hz
      by_cases e : j = s
      · rw [e]; exact hz
      · exact nextG_none h j (by omega) (by omega)
theorem nextN_spec {ws : List Int} {s k : Nat} (h : nextN ws s = some k) : s ≤ k ∧ k < ws.length ∧ 0 < ws.getD k 0 ∧ ∀ j, s ≤ j → j < k → ¬ 0 < ws.getD j 0 := by
  obtain ⟨h1, h2, h3, h4⟩ := nextG_spec h
  exact ⟨h1, by omega, h3, h4⟩
theorem nextN_none {ws : List Int} {s : Nat} (h : nextN ws s = none) : ∀ j, s ≤ j → j < ws.length → ¬ 0 < ws.getD j 0 := fun j h1 h2 => nextG_none h j h1 (by omega)
def nextV (ws : List Int) (s : Nat) : V := match nextN ws s with
  | some i => .int (i : Int)
  | none => .non
theorem atInts {ws : List Int} {i : Nat} (h : i < ws.length) : (ws.map V.int)[i]? = some (.int (ws.getD i 0)) := by
  rw [List.getElem?_map, List.getD_eq_getElem?_getD, List.getElem?_eq_getElem h]; rfl
def spNext (K : PySem.W.Frag) : Sp := fun vs H Q _ => ∃ (a : Addr) (ws : List Int) (s : Nat), vs = [.ref a, .int (s : Int)] ∧ SqL K H a (ws.map V.int) ∧ ws.length ≤ 1000 ∧ s ≤ 1000 ∧ Q (nextV ws s) H
theorem ok_next_number {P : Program} {w : World} {K : PySem.W.Frag} {mg : Str → Option Value} {base : Heap} (T : T P K mg base) : FnOk P w K mg base CX0 1 T.a_next_number T.fd_next_number ["weights", "start"] (spNext K) := by
  refine T.F_next_number.ok sc_next_number (fun vs H Q E h => ?_) (fun cdv A outer s H vs Q E hr h => ?_)
  · obtain ⟨a, n, s, rfl, _⟩ := h
    rfl
  · obtain ⟨a, ws, z, rfl, hS, hn, hz, q⟩ := h
    refine ⟨_, (pss_cons (ps_for PassesOwn.never rfl (pi_range2 (by rfl) T.z_range (pa_cons (pv 1) (pa_cons (pe_callB c_len (by rfl) T.z_len (by decide +kernel) (pa_cons (pv 0) pa_nil)) pa_nil))) (pg_name (i := 2) sc_next_number.nd rfl (by first | exact Or.inl rfl | exact Or.inr rfl)) (pss_one (ps_if (pt_cmpR op_gt (pe_ix ix_list (pv 0) (pv 2) (fun _ _ => rfl)) pe_int (nomark _)) (pss_one (ps_ret (pv 2))) pss_nil)))
      (pss_one (ps_ret pe_non))), ?_⟩
    unfold nextV nextN at q
    walk_at "z0"
    walk_at "z"
    refine Z.lenL hS ?_
    rw [List.length_map]
    walk_at "z"
    refine Z.forr2 (ws.length - z) (by omega) (by omega) (fun i σ' H' => ∃ y, H' = H ∧ nextG ws (ws.length - z) z = nextG ws (ws.length - z - i) (z + i) ∧ σ' = [some (.ref a), some (.int (z : Int)), y]) ?_ ?_ ?_
    · exact ⟨_, rfl, rfl, rfl⟩
    · rintro i σ' H' hi ⟨y, rfl, e, rfl⟩
      have hzn : z + i < ws.length := by omega
      walk_at "z"
      rw [show (z : Int) + (i : Int) = ((z + i : Nat) : Int) by omega]
      refine Z.ixL hS (atI_nat (atInts hzn)) ?_
      walk_at "z"
      have e2 : ws.length - z - i = (ws.length - z - (i + 1)) + 1 := by omega
      rw [e2, show nextG ws (ws.length - z - (i + 1) + 1) (z + i) = (if 0 < ws.getD (z + i) 0 then some (z + i) else nextG ws (ws.length - z - (i + 1)) (z + i + 1)) from rfl] at e
      refine Z.ite (fun h1 => ?_) (fun h1 => ?_)
      · walk_at "z"
        rw [if_pos h1] at e
        rw [e] at q
        exact q
      · walk_at "z"
        rw [if_neg h1] at e
        exact ⟨_, rfl, e, rfl⟩
    · rintro σ' H' ⟨y, rfl, h0, rfl⟩
      walk_at "z"
      rw [show ws.length - z - (ws.length - z) = 0 by omega] at h0
      rw [h0] at q
      exact q
/-- weights that are picked by -/
structure WOk (ws : List Int) : Prop where
  each : ∀ z ∈ ws, 0 ≤ z ∧ z ≤ 100000
  len : ws.length ≤ 500
  pos : 0 < ws.sum
theorem sum_ge0 : ∀ {l : List Int}, (∀ z ∈ l, 0 ≤ z ∧ z ≤ 100000) → 0 ≤ l.sum ∧ l.sum ≤ 100000 * (l.length : Int)
  | [], _ => by simp
  | a :: r, h => by
    have h1 := h a (by simp)
    have h2 := sum_ge0 (l := r) fun z hz => h z (by simp [hz])
    rw [List.sum_cons, List.length_cons]
    omega
theorem WOk.sumB {ws : List Int} (h : WOk ws) : ws.sum.natAbs < 2 ^ 27 := by
  have := sum_ge0 h.each
  have := h.len
  omega
theorem WOk.at {ws : List Int} (h : WOk ws) (k : Nat) : 0 ≤ ws.getD k 0 ∧ ws.getD k 0 ≤ 100000 := by
  rw [List.getD_eq_getElem?_getD]
  cases e : ws[k]? with
  | none => exact ⟨by decide, by decide⟩
  | some z => exact h.each z (List.mem_of_getElem? e)
theorem sum_zero : ∀ {l : List Int}, (∀ j, j < l.length → ¬ 0 < l.getD j 0) → l.sum ≤ 0
  | [], _ => by simp
  | a :: r, h => by
    have h1 := h 0 (by simp)
    have h2 := sum_zero (l := r) fun j hj => h (j + 1) (by simp; omega)
    rw [List.sum_cons]
    have : (a :: r).getD 0 0 = a := rfl
    omega
theorem WOk.first {ws : List Int} (h : WOk ws) : ∃ k, nextN ws 0 = some k := by
  cases e : nextN ws 0 with
  | some k => exact ⟨k, rfl⟩
  | none =>
    have := sum_zero fun j hj => nextN_none e j (by omega) hj
    have := h.pos
    omega
/-- a place of a path: the tuple at t, the copied weights at w, the number k, the chance before at b -/
structure PI where
  t : Addr
  w : Addr
  k : Nat
  b : Addr
  f : Fr
  ws : List Int
abbrev Dt := List Int × Nat × Fr
def PI.r (x : PI) : V := .ref x.t
def PI.dat (x : PI) : Dt := (x.ws, x.k, x.f)
structure PIAt (K : PySem.W.Frag) (H : Hp) (x : PI) : Prop where
  tup : SqT K H x.t [.ref x.w, .int x.ws.sum, .int (x.k : Int), .ref x.b]
  wat : H x.w = some (.lst (x.ws.map V.int))
  fr : FrAt K H x.b x.f
  lt : x.k < x.ws.length
  wok : WOk x.ws
  small : FrB 1000 x.f ∧ x.f.2 ≠ 0
def isInts (o : Option HO) : Prop := ∃ ws : List Int, ws ≠ [] ∧ o = some (.lst (ws.map V.int))
theorem PIAt.ne {H : Hp} {x : PI} (h : PIAt K H x) : x.ws ≠ [] := fun z => by
  have := h.lt
  rw [z] at this
  exact absurd this (by simp)
theorem PIAt.kpM {M : List Addr} {H H' : Hp} {x : PI} (h : PIAt K H x) (k : Kp M H H') (nt : ∀ y ∈ M, NoTup H y) (nw : ∀ y ∈ M, ¬ isInts (H y)) : PIAt K H' x :=
  ⟨kpTup h.tup k nt, k.get (fun z => nw _ z ⟨x.ws, h.ne, h.wat⟩) h.wat, FrAt.kp h.fr k nt, h.lt, h.wok, h.small⟩
theorem PIAt.kp0 {H H' : Hp} {x : PI} (h : PIAt K H x) (k : Kp [] H H') : PIAt K H' x := h.kpM k (by simp) (by simp)
theorem PIAt.ext {H H' : Hp} {x : PI} (h : PIAt K H x) (e : ExtN H H') : PIAt K H' x := ⟨ext_tup e h.tup, ext_get e h.wat, ext_tup e h.fr, h.lt, h.wok, h.small⟩
def stepF (ws : List Int) (k : Nat) (f : Fr) : Fr := ftimes f (lo (ws.getD k 0) ws.sum)
def chD (ds : List Dt) : Fr := match ds.getLast? with
  | some x => stepF x.1 x.2.1 x.2.2
  | none => (1, 1)
theorem chD_last {o : List Dt} {x : Dt} : chD (o ++ [x]) = stepF x.1 x.2.1 x.2.2 := by unfold chD; rw [List.getLast?_concat]
def spBehind (K : PySem.W.Frag) : Sp := fun vs H Q _ => ∃ (p : Addr) (ps : List PI), vs = [.ref p] ∧ H p = some (.lst (ps.map PI.r)) ∧ (∀ x ∈ ps, PIAt K H x) ∧ ∀ H' c, Kp [] H H' → FrAt K H' c (chD (ps.map PI.dat)) → Q (.ref c) H'
theorem ok_chance_behind {P : Program} {w : World} {K : PySem.W.Frag} {mg : Str → Option Value} {base : Heap} (T : T P K mg base) : FnOk P w K mg base CX0 5 T.a_chance_behind T.fd_chance_behind ["path"] (spBehind K) := by
  refine T.F_chance_behind.ok sc_chance_behind (fun vs H Q E h => ?_) (fun cdv A outer s H vs Q E hr h => ?_)
  · obtain ⟨p, ps, rfl, _⟩ := h
    rfl
  · obtain ⟨p, ps, rfl, hp, hA, q⟩ := h
    refine ⟨_, (pss_cons (ps_if (pt_not (pt_truth (pv 0) (by intro _; rfl))) (pss_one (ps_ret (pe_glob (v := .ref T.k_ONE) (by rfl) T.g_ONE rfl))) pss_nil)
      (pss_cons (ps_asg (pe_ix ix_list (pv 0) (pe_un un_neg pe_int) (fun _ _ => rfl)) (pg_tup rfl (pgs_cons (pg_name (i := 1) sc_chance_behind.nd rfl (by first | exact Or.inl rfl | exact Or.inr rfl)) (pgs_cons (pg_name (i := 2) sc_chance_behind.nd rfl (by first | exact Or.inl rfl | exact Or.inr rfl)) (pgs_cons (pg_name (i := 3) sc_chance_behind.nd rfl (by first | exact Or.inl rfl | exact Or.inr rfl)) (pgs_cons (pg_name (i := 4) sc_chance_behind.nd rfl (by first | exact Or.inl rfl | exact Or.inr rfl)) pgs_nil))))))
      (pss_one (ps_ret (pe_call (ok_times T) (hr.mono (by decide)) (by rfl) T.g_times T.F_times.kp T.b_times .nil pass0 (pa_cons (pv 4) (pa_cons (pe_call (ok_lowest T) (hr.mono (by decide)) (by rfl) T.g_lowest T.F_lowest.kp T.b_lowest .nil passL (pa_cons (pe_ix ix_list (pv 1) (pv 3) (fun _ _ => rfl)) (pa_cons (pv 2) pa_nil))) pa_nil))))))), ?_⟩
    walk_at "z0"
    walk_at "z"
    refine Z.truL hp ?_
    rcases List.eq_nil_or_concat ps with rfl | ⟨o, x, hox⟩
    · rw [show (!(List.map PI.r []).isEmpty) = false from rfl]
      walk_at "z"
      exact q _ _ (Kp.refl _) (T.q_ONE _)
    · rw [List.concat_eq_append] at hox
      subst hox
      rw [show (!(List.map PI.r (o ++ [x])).isEmpty) = true by simp]
      rw [List.map_append] at hp
      have hx := hA x (by simp)
      walk_at "z"
      refine Z.ixL (lstL hp) (atI_last _ _) ?_
      refine Z.gtup hx.tup rfl ?_
      walk_at "z"
      refine Z.ixL (lstL hx.wat) (atI_nat (atInts hx.lt)) ?_
      walk_at "z"
      have hn0 : x.ws.sum ≠ 0 := by have := hx.wok.pos; omega
      have hnb : x.ws.sum.natAbs < 2 ^ 1000 := up_B hx.wok.sumB (by decide)
      have hw := hx.wok.at x.k
      refine ⟨_, _, rfl, up_B hnb (by decide), fun z => absurd z hn0, fun _ H2 c nc k2 e2 => ?_⟩
      walk_at "z"
      refine ⟨x.b, c, x.f, lo (x.ws.getD x.k 0) x.ws.sum, rfl, hx.fr.kp0 k2, e2, hx.small.2, (lo_low hn0).ne, hx.small.1.mono (by decide), (lo_B hn0 (up_B (n := 27) (by omega) (by decide)) hnb).mono (by decide), fun H3 d nd k3 e3 => ?_⟩
      walk_at "z"
      refine q H3 d (k2.trans k3) ?_
      rw [List.map_append, List.map_singleton, chD_last]
      exact e3
/-- what follows -/
def folL : List Dt → Option (List Dt)
  | [] => none
  | x :: r => match folL r with
    | some q => some (x :: q)
    | none => match nextN x.1 (x.2.1 + 1) with
      | some k => some [(x.1, k, x.2.2)]
      | none => none
theorem folL_app {x : Dt} {suf : List Dt} {k : Nat} (h : folL suf = none) (hk : nextN x.1 (x.2.1 + 1) = some k) : ∀ pre : List Dt, folL (pre ++ x :: suf) = some (pre ++ [(x.1, k, x.2.2)])
  | [] => by
    show folL (x :: suf) = _
    unfold folL
    rw [h, hk]
    rfl
  | y :: pre => by
    have ih := folL_app h hk pre
    show folL (y :: (pre ++ x :: suf)) = _
    unfold folL
    rw [ih]
    rfl
theorem folL_none {x : Dt} {suf : List Dt} (h : folL suf = none) (hk : nextN x.1 (x.2.1 + 1) = none) : folL (x :: suf) = none := by
  unfold folL
  rw [h, hk]
def spFol (K : PySem.W.Frag) : Sp := fun vs H Q _ => ∃ (p : Addr) (ps : List PI), vs = [.ref p] ∧ H p = some (.lst (ps.map PI.r)) ∧ (∀ x ∈ ps, PIAt K H x) ∧ ps.length ≤ 1000 ∧ (folL (ps.map PI.dat) = none → ∀ H', Kp [] H H' → Q .non H') ∧
  ∀ (H' : Hp) (p' : Addr) (ps' : List PI), H p' = none → Kp [] H H' → H' p' = some (.lst (ps'.map PI.r)) → (∀ z ∈ ps', PIAt K H' z) → folL (ps.map PI.dat) = some (ps'.map PI.dat) → Q (.ref p') H'
theorem PIAt.up {H : Hp} {x : PI} {t : Addr} {k : Nat} (h : PIAt K H x) (l : k < x.ws.length) (e : H t = some (.tup [.ref x.w, .int x.ws.sum, .int (k : Int), .ref x.b])) : PIAt K H ⟨t, x.w, k, x.b, x.f, x.ws⟩ := ⟨tupT e, h.wat, h.fr, l, h.wok, h.small⟩
theorem ok_following {P : Program} {w : World} {K : PySem.W.Frag} {mg : Str → Option Value} {base : Heap} (T : T P K mg base) : FnOk P w K mg base CX0 2 T.a_following T.fd_following ["path"] (spFol K) := by
  refine T.F_following.ok sc_following (fun vs H Q E h => ?_) (fun cdv A outer s H vs Q E hr h => ?_)
  · obtain ⟨p, ps, rfl, _⟩ := h
    rfl
  · obtain ⟨p, ps, rfl, hp, hA, hpl, q0, q⟩ := h
    refine ⟨_, (pss_cons (ps_for PassesOwn.never rfl (pi_revR (by rfl) T.z_reversed (prg_1 (by rfl) T.z_range (pe_callB c_len (by rfl) T.z_len (by decide +kernel) (pa_cons (pv 0) pa_nil)))) (pg_name (i := 1) sc_following.nd rfl (by first | exact Or.inl rfl | exact Or.inr rfl)) (pss_cons (ps_asg (pe_ix ix_list (pv 0) (pv 1) (fun _ _ => rfl)) (pg_tup rfl (pgs_cons (pg_name (i := 2) sc_following.nd rfl (by first | exact Or.inl rfl | exact Or.inr rfl)) (pgs_cons (pg_name (i := 3) sc_following.nd rfl (by first | exact Or.inl rfl | exact Or.inr rfl)) (pgs_cons (pg_name (i := 4) sc_following.nd rfl (by first | exact Or.inl rfl | exact Or.inr rfl)) (pgs_cons (pg_name (i := 5) sc_following.nd rfl (by first | exact Or.inl rfl | exact Or.inr rfl)) pgs_nil))))))
      (pss_cons (ps_set (i := 6) sc_following.nd rfl (by first | exact Or.inl rfl | exact Or.inr rfl) (pe_call (ok_next_number T) (hr.mono (by decide)) (by rfl) T.g_next_number T.F_next_number.kp T.b_next_number .nil pass0 (pa_cons (pv 2) (pa_cons (pe_op op_add (pv 4) pe_int) pa_nil))))
      (pss_one (ps_if (pt_cmpR o_notN (pv 6) pe_non (nomark _)) (pss_one (ps_ret (pe_op op_cat (pe_slice sl_list (pv 0) po_none (po_some (pv 1))) (pe_lst (pa_cons (pe_tup (pa_cons (pv 2) (pa_cons (pv 3) (pa_cons (pv 6) (pa_cons (pv 5) pa_nil))))) pa_nil))))) pss_nil)))))
      (pss_one (ps_ret pe_non))), ?_⟩
    walk_at "z0"
    walk_at "z"
    refine Z.lenL (lstL hp) ?_
    rw [List.length_map]
    walk_at "z"
    refine Z.forrv ps.length rfl (by omega) (fun i σ' H' => H' = H ∧ folL ((ps.drop (ps.length - i)).map PI.dat) = none ∧ ∃ y1 y2 y3 y4 y5 y6, σ' = [some (.ref p), y1, y2, y3, y4, y5, y6]) ?_ ?_ ?_
    · exact ⟨rfl, by rw [Nat.sub_zero, List.drop_length]; rfl, _, _, _, _, _, _, rfl⟩
    · rintro i σ' H' hi ⟨rfl, hno, y1, y2, y3, y4, y5, y6, rfl⟩
      obtain ⟨j, hj⟩ : ∃ j, ps.length - 1 - i = j := ⟨_, rfl⟩
      have hjl : j < ps.length := by omega
      have hx : ps[j]? = some ps[j] := List.getElem?_eq_getElem hjl
      have hdrop : ps.drop j = ps[j] :: ps.drop (j + 1) := List.drop_eq_getElem_cons hjl
      rw [show ps.length - i = j + 1 by omega] at hno
      generalize ps[j] = x at hx hdrop
      have hxA := hA x (List.mem_of_getElem? hx)
      rw [hj]
      walk_at "z"
      refine Z.ixL (lstL hp) (atI_nat (by rw [List.getElem?_map, hx]; rfl)) ?_
      refine Z.gtup hxA.tup rfl ?_
      walk_at "z"
      have hxl := hxA.lt
      have hwl := hxA.wok.len
      refine ⟨x.w, x.ws, x.k + 1, rfl, lstL hxA.wat, by omega, by omega, ?_⟩
      unfold nextV
      cases hk : nextN x.ws (x.k + 1) with
      | some k =>
        have hks := nextN_spec hk
        walk_at "z"
        refine Z.yesN (by simp) ?_
        walk_at "z"
        refine Z.slL (lstL hp) (fun d H1 nd k1 e1 => ?_)
        rw [Z.cut_take (by rw [List.length_map]; omega), ← List.map_take] at e1
        walk_at "z"
        refine Z.tupK (fun t H2 nt k2 e2 => ?_)
        walk_at "z"
        refine Z.lstK (fun c H3 nc k3 e3 => ?_)
        refine Z.cat ((k2.trans k3).get nin0 e1) e3 (by rw [List.length_map, List.length_take]; show min j ps.length + 1 ≤ 100000; omega) (fun g H4 ng k4 e4 => ?_)
        walk_at "z"
        have k14 := k1.trans (k2.trans (k3.trans k4))
        have ng0 : H' g = none := (k1.trans (k2.trans k3)).none nin0 ng
        refine q H4 g (ps.take j ++ [⟨t, x.w, k, x.b, x.f, x.ws⟩]) ng0 k14 (by rw [e4, List.map_append]; rfl) (fun u hu => ?_) ?_
        · rcases List.mem_append.mp hu with hu | hu
          · exact (hA u (List.mem_of_mem_take hu)).kp0 k14
          · rw [List.mem_singleton.mp hu]
            exact (hxA.kp0 k14).up hks.2.1 ((k3.trans k4).get nin0 e2)
        · have e5 : ps.map PI.dat = (ps.take j).map PI.dat ++ x.dat :: (ps.drop (j + 1)).map PI.dat := by
            rw [← List.map_cons, ← hdrop, ← List.map_append, List.take_append_drop]
          rw [e5, folL_app hno hk, List.map_append]
          rfl
      | none =>
        walk_at "z"
        refine Z.noN rfl ?_
        walk_at "z"
        refine ⟨rfl, ?_, _, _, _, _, _, _, rfl⟩
        rw [show ps.length - (i + 1) = j by omega, hdrop, List.map_cons]
        exact folL_none hno hk
    · rintro σ' H' ⟨rfl, hno, y1, y2, y3, y4, y5, y6, rfl⟩
      walk_at "z"
      rw [Nat.sub_self, List.drop_zero] at hno
      exact q0 hno _ (Kp.refl _)
end explore

section explore2
variable {K : PySem.W.Frag}
open LamX LamK
/-- the fields of an explorer -/
def ef (p : Addr) (m : Nat) (run fin : Bool) (w : Addr) : List (Str × V) := [("_path", .ref p), ("_made", .int (m : Int)), ("_running", .bl run), ("_finished", .bl fin), ("_rows", .ref w)]
section
variable {p p' w w' : Addr} {m m' : Nat} {run fin b : Bool}
theorem ef_p : (ef p m run fin w).lookup ("_path" : Str) = some (.ref p) := by rfl
theorem ef_m : (ef p m run fin w).lookup ("_made" : Str) = some (.int (m : Int)) := by rfl
theorem ef_r : (ef p m run fin w).lookup ("_running" : Str) = some (.bl run) := by rfl
theorem ef_f : (ef p m run fin w).lookup ("_finished" : Str) = some (.bl fin) := by rfl
theorem ef_w : (ef p m run fin w).lookup ("_rows" : Str) = some (.ref w) := by rfl
theorem ef_pp : putF "_path" (.ref p') (ef p m run fin w) = ef p' m run fin w := by kernel_rfl
theorem ef_pm : putF "_made" (.int (m' : Int)) (ef p m run fin w) = ef p m' run fin w := by kernel_rfl
theorem ef_pr : putF "_running" (.bl b) (ef p m run fin w) = ef p m b fin w := by kernel_rfl
theorem ef_pf : putF "_finished" (.bl b) (ef p m run fin w) = ef p m run b w := by kernel_rfl
theorem ef_mk : putF "_rows" (.ref w) (putF "_finished" (.bl false) (putF "_running" (.bl false) (putF "_made" (.int 0) (putF "_path" (.ref p) [])))) = ef p 0 false false w := by kernel_rfl
theorem ef_pm0 : putF "_made" (.int 0) (ef p m run fin w) = ef p 0 run fin w := by kernel_rfl
theorem ef_mup : putF "_made" (.int ((m : Int) + 1)) (ef p m run fin w) = ef p (m + 1) run fin w := by kernel_rfl
end
/-- an explorer -/
structure Ex (K : PySem.W.Frag) (C : Addr) (H : Hp) (e p w : Addr) (ps : List PI) (rs : List LRow) (m : Nat) (run fin : Bool) : Prop where
  ob : ∃ dx, H e = some (.ins C dx (ef p m run fin w))
  path : H p = some (.lst (ps.map PI.r))
  items : ∀ x ∈ ps, PIAt K H x
  rows : H w = some (.lst (rs.map LRow.r))
  rat : ∀ r ∈ rs, LRowAt K H r
  pw : p ≠ w
theorem Ex.kp0 {C : Addr} {H H' : Hp} {e p w : Addr} {ps : List PI} {rs : List LRow} {m : Nat} {run fin : Bool} (h : Ex K C H e p w ps rs m run fin) (k : Kp [] H H') : Ex K C H' e p w ps rs m run fin :=
  ⟨let ⟨dx, o⟩ := h.ob; ⟨dx, k.get nin0 o⟩, k.get nin0 h.path, fun x hx => (h.items x hx).kp0 k, k.get nin0 h.rows, fun r hr => (h.rat r hr).kp0 k, h.pw⟩
theorem refs_noInts {rs : List V} (h : ∀ v ∈ rs, ∃ a, v = .ref a) : ¬ isInts (some (.lst rs)) := fun ⟨ws, hne, e⟩ => by
  have e2 := HO.lst.inj (Option.some.inj e)
  obtain ⟨z, r, rfl⟩ := List.exists_cons_of_ne_nil hne
  obtain ⟨a, ha⟩ := h (.int z) (by rw [e2]; simp)
  cases ha
theorem Ex.nt {C : Addr} {H : Hp} {e p w : Addr} {ps : List PI} {rs : List LRow} {m : Nat} {run fin : Bool} (h : Ex K C H e p w ps rs m run fin) : ∀ y ∈ [e, p, w], NoTup H y := fun y hy => by
  obtain ⟨dx, o⟩ := h.ob
  rcases List.mem_cons.mp hy with rfl | hy
  · exact NoTup.of o fun xs => ⟨by simp, by simp⟩
  rcases List.mem_cons.mp hy with rfl | hy
  · exact NoTup.lst h.path
  · rw [List.mem_singleton.mp hy]
    exact NoTup.lst h.rows
theorem Ex.nw {C : Addr} {H : Hp} {e p w : Addr} {ps : List PI} {rs : List LRow} {m : Nat} {run fin : Bool} (h : Ex K C H e p w ps rs m run fin) : ∀ y ∈ [e, p, w], ¬ isInts (H y) := fun y hy => by
  obtain ⟨dx, o⟩ := h.ob
  rcases List.mem_cons.mp hy with rfl | hy
  · rw [o]
    rintro ⟨ws, _, e⟩
    cases e
  rcases List.mem_cons.mp hy with rfl | hy
  · rw [h.path]
    exact refs_noInts fun v hv => by
      obtain ⟨x, _, rfl⟩ := List.mem_map.mp hv
      exact ⟨_, rfl⟩
  · rw [List.mem_singleton.mp hy, h.rows]
    exact refs_noInts fun v hv => by
      obtain ⟨x, _, rfl⟩ := List.mem_map.mp hv
      exact ⟨_, rfl⟩
theorem Ex.ep {C : Addr} {H : Hp} {e p w : Addr} {ps : List PI} {rs : List LRow} {m : Nat} {run fin : Bool} (h : Ex K C H e p w ps rs m run fin) : p ≠ e := let ⟨_, o⟩ := h.ob; ne_of h.path o (by intro z; cases z)
theorem Ex.ew {C : Addr} {H : Hp} {e p w : Addr} {ps : List PI} {rs : List LRow} {m : Nat} {run fin : Bool} (h : Ex K C H e p w ps rs m run fin) : w ≠ e := let ⟨_, o⟩ := h.ob; ne_of h.rows o (by intro z; cases z)
/-- written at e, p or w: the items and the rows' contents stay -/
theorem Ex.items' {C : Addr} {H H' : Hp} {e p w : Addr} {ps : List PI} {rs : List LRow} {m : Nat} {run fin : Bool} (h : Ex K C H e p w ps rs m run fin) (k : Kp [e, p, w] H H') {x : PI} (hx : PIAt K H x) : PIAt K H' x := hx.kpM k h.nt h.nw
theorem Ex.rat' {C : Addr} {H H' : Hp} {e p w : Addr} {ps : List PI} {rs : List LRow} {m : Nat} {run fin : Bool} (h : Ex K C H e p w ps rs m run fin) (k : Kp [e, p, w] H H') {r : LRow} (hx : LRowAt K H r) : LRowAt K H' r := hx.kpM k h.nt
theorem Ex.ext {C : Addr} {H H' : Hp} {e p w : Addr} {ps : List PI} {rs : List LRow} {m : Nat} {run fin : Bool} (h : Ex K C H e p w ps rs m run fin) (k : ExtN H H') : Ex K C H' e p w ps rs m run fin :=
  ⟨let ⟨dx, o⟩ := h.ob; ⟨dx, ext_get k o⟩, ext_get k h.path, fun x hx => (h.items x hx).ext k, ext_get k h.rows, fun r hr => (h.rat r hr).ext k, h.pw⟩
def spExInit (K : PySem.W.Frag) (C : Addr) : Sp := fun vs H Q _ => ∃ (e dx : Addr), vs = [.ref e] ∧ H e = some (.ins C dx []) ∧ ∀ H' p w, H p = none → H w = none → p ≠ w → Kp [e] H H' → Ex K C H' e p w [] [] 0 false false → Q .non H'
theorem ok_Explorer_init {P : Program} {w : World} {K : PySem.W.Frag} {mg : Str → Option Value} {base : Heap} (T : T P K mg base) : FnOk P w K mg base CX0 1 T.a_Explorer_init T.fd_Explorer_init ["self"] (spExInit K T.C_Explorer) := by
  refine T.F_Explorer_init.ok sc_Explorer_init (fun vs H Q E h => ?_) (fun cdv A outer s H vs Q E hr h => ?_)
  · obtain ⟨e, dx, rfl, _⟩ := h
    rfl
  · obtain ⟨e, dx, rfl, he, q⟩ := h
    refine ⟨_, (pss_cons (ps_fld (pv 0) (pe_lst pa_nil) rfl)
      (pss_cons (ps_fld (pv 0) pe_int rfl)
      (pss_cons (ps_fld (pv 0) pe_bl rfl)
      (pss_cons (ps_fld (pv 0) pe_bl rfl)
      (pss_one (ps_fld (pv 0) (pe_lst pa_nil) rfl)))))), ?_⟩
    walk_at "z0"
    walk_at "z"
    refine Z.lstK (fun p H1 np k1 e1 => ?_)
    have he1 := k1.get nin0 he
    have npe : p ≠ e := ne_of e1 he1 (by intro z; cases z)
    walk_at "z"
    refine ⟨e, _, dx, [], rfl, he1, T.cl_Explorer, T.na_Explorer__path, by decide, ?_⟩
    walk_at "z"
    refine ⟨e, _, dx, _, rfl, upd_same, T.cl_Explorer, T.na_Explorer__made, by show 1 < 1000; decide, ?_⟩
    walk_at "z"
    rw [upd_upd]
    refine ⟨e, _, dx, _, rfl, upd_same, T.cl_Explorer, T.na_Explorer__running, by show 2 < 1000; decide, ?_⟩
    walk_at "z"
    rw [upd_upd]
    refine ⟨e, _, dx, _, rfl, upd_same, T.cl_Explorer, T.na_Explorer__finished, by show 3 < 1000; decide, ?_⟩
    walk_at "z"
    rw [upd_upd]
    refine Z.lstK (fun w H2 nw k2 e2 => ?_)
    walk_at "z"
    refine ⟨e, _, dx, _, rfl, k2.get nin0 upd_same, T.cl_Explorer, T.na_Explorer__rows, by show 4 < 1000; decide, ?_⟩
    walk_at "z"
    rw [ef_mk]
    have hwe : w ≠ e := by
      rintro rfl
      rw [upd_same] at nw
      cases nw
    have nw1 : H1 w = none := by rwa [upd_ne hwe] at nw
    have npw : p ≠ w := ne_of_none e1 nw1
    refine q _ p w np (k1.none nin0 nw1) npw ((((k1.sub (by simp)).trans (Kp.put (by simp))).trans (k2.sub (by simp))).trans (Kp.put (by simp))) ⟨⟨dx, upd_same⟩, ?_, by simp, ?_, by simp, npw⟩
    · rw [upd_ne npe]
      exact k2.get nin0 ((upd_ne npe).trans e1)
    · rw [upd_ne hwe]
      exact e2
end explore2
section explore3
variable {K : PySem.W.Frag}
open LamX LamK
def beginD (ds : List Dt) (rs : List LRow) : Option (List Dt) := match rs with
  | [] => some []
  | _ :: _ => folL ds
/-- the state behind: written at e alone -/
theorem Ex.setE {C : Addr} {H H' : Hp} {e p w : Addr} {ps : List PI} {rs : List LRow} {m m' : Nat} {run fin run' fin' : Bool} (h : Ex K C H e p w ps rs m run fin) (k : Kp [e] H H') (o : ∃ dx, H' e = some (.ins C dx (ef p m' run' fin' w))) : Ex K C H' e p w ps rs m' run' fin' :=
  have k3 : Kp [e, p, w] H H' := k.sub (by simp)
  ⟨o, k.get (nin1 h.ep) h.path, fun x hx => h.items' k3 (h.items x hx), k.get (nin1 h.ew) h.rows, fun r hr => h.rat' k3 (h.rat r hr), h.pw⟩
theorem Ex.setP {C : Addr} {H H' : Hp} {e p w p' : Addr} {ps ps' : List PI} {rs : List LRow} {m m' : Nat} {run fin run' fin' : Bool} (h : Ex K C H e p w ps rs m run fin) (k : Kp [e] H H') (o : ∃ dx, H' e = some (.ins C dx (ef p' m' run' fin' w))) (hp : H p' = some (.lst (ps'.map PI.r))) (ne : p' ≠ e) (nw : p' ≠ w) (hA : ∀ x ∈ ps', PIAt K H x) : Ex K C H' e p' w ps' rs m' run' fin' :=
  have k3 : Kp [e, p, w] H H' := k.sub (by simp)
  ⟨o, k.get (nin1 ne) hp, fun x hx => h.items' k3 (hA x hx), k.get (nin1 h.ew) h.rows, fun r hr => h.rat' k3 (h.rat r hr), nw⟩
def spBegin (K : PySem.W.Frag) (C CT CN : Addr) : Sp := fun vs H Q E => ∃ (e p w : Addr) (ps : List PI) (rs : List LRow) (m : Nat) (run fin : Bool), vs = [.ref e] ∧ Ex K C H e p w ps rs m run fin ∧ ps.length ≤ 1000 ∧
  (run = true → ∀ H', Kp [] H H' → E (.ref CN) none H') ∧
  (run = false → beginD (ps.map PI.dat) rs = none → ∀ H', Kp [e] H H' → Ex K C H' e p w ps rs m false true → Q (.bl false) H') ∧
  (run = false → ∀ D, beginD (ps.map PI.dat) rs = some D → rs.length = 20000 → ∀ (H' : Hp) (d : Addr), Kp [] H H' → H' d = none → E (.ref CT) (some d) (upd H' d (.xd (flOne "limit" [.str "runs"])))) ∧
  (run = false → ∀ D, beginD (ps.map PI.dat) rs = some D → rs.length ≠ 20000 → ∀ (H' : Hp) (p' : Addr) (ps' : List PI), Kp [e] H H' → Ex K C H' e p' w ps' rs 0 true fin → H p' = none → ps'.map PI.dat = D → Q (.bl true) H')
theorem ok_Explorer_begin {P : Program} {w : World} {K : PySem.W.Frag} {mg : Str → Option Value} {base : Heap} (T : T P K mg base) : FnOk P w K mg base (L2.CX P w) 3 T.a_Explorer_begin T.fd_Explorer_begin ["self"] (spBegin K T.C_Explorer T.C_TooLarge T.C_NotEnded) := by
  refine T.F_Explorer_begin.okX sc_Explorer_begin (fun vs H Q E h => ?_) (fun cdv A outer s H vs Q E hr h => ?_)
  · obtain ⟨e, p, w, ps, rs, m, run, fin, rfl, _⟩ := h
    rfl
  · obtain ⟨e, p, w, ps, rs, m, run, fin, rfl, hX, hpl, qN, q0, qE, q1⟩ := h
    obtain ⟨dx, he⟩ := hX.ob
    refine ⟨_, (pss_cons (ps_if (pt_val (pe_fld (pv 0) rfl)) (pss_one (ps_raise rfl (takes_of rfl rfl rfl rfl) (Sup.pmk_oexN T.x_NotEnded.S.T T.x_NotEnded.iC T.x_NotEnded.tI (ok_NotEnded_init T) (hr.mono (by decide)) (T.bx_NotEnded) pass0 (by rfl) T.x_NotEnded.g))) pss_nil)
      (pss_cons (ps_set (i := 1) sc_Explorer_begin.nd rfl (by first | exact Or.inl rfl | exact Or.inr rfl) (pe_lst pa_nil))
      (Z.pss_consJ (ps_if (pt_truth (pe_fld (pv 0) rfl) (by intro _; rfl)) (pss_one (ps_set (i := 1) sc_Explorer_begin.nd rfl (by first | exact Or.inl rfl | exact Or.inr rfl) (pe_call (ok_following T) (hr.mono (by decide)) (by rfl) T.g_following T.F_following.kp T.b_following .nil pass0 (pa_cons (pe_fld (pv 0) rfl) pa_nil)))) pss_nil)
      (pss_cons (ps_if (pt_cmpR o_isN (pv 1) pe_non (nomark _)) (pss_cons (ps_fld (pv 0) pe_bl rfl)
      (pss_one (ps_ret pe_bl))) pss_nil)
      (pss_cons (ps_if (pt_cmpR op_eq (pe_callB c_len (by rfl) T.z_len (by decide +kernel) (pa_cons (pe_fld (pv 0) rfl) pa_nil)) (pe_glob (by rfl) T.g_MOST_RUNS T.r_MOST_RUNS) (nomark _)) (pss_one (ps_raise rfl (takes_of rfl rfl rfl rfl) (pmk_oex T.x_TooLarge.S.T T.x_TooLarge.iC T.x_TooLarge.tI (ok_TooLarge_init T) (hr.mono (by decide)) (T.bx_TooLarge) .nil pass0 (by rfl) T.x_TooLarge.g (pa_cons pe_str pa_nil)))) pss_nil)
      (pss_cons (ps_fld (pv 0) (pv 1) rfl)
      (pss_cons (ps_fld (pv 0) pe_int rfl)
      (pss_cons (ps_fld (pv 0) pe_bl rfl)
      (pss_one (ps_ret pe_bl)))))))))), ?_⟩
    walk_at "z0"
    walk_at "z"
    refine ⟨e, _, dx, _, _, rfl, he, T.cl_Explorer, T.na_Explorer__running, ef_r, ?_⟩
    cases run with
    | true =>
      walk_at "z"
      refine Z.mkN fun a na => ⟨a, rfl, upd_same, rfl, upd_same, ?_⟩
      rw [del_upd na]
      exact qN rfl _ (Kp.refl _)
    | false =>
    have q0 := q0 rfl
    have qE := qE rfl
    have q1 := q1 rfl
    walk_at "z"
    refine Z.lstK (fun p0 H1 np0 k1 e1 => ?_)
    have hX1 := hX.kp0 k1
    obtain ⟨dx1, he1⟩ := hX1.ob
    walk_at "z"
    refine Z.seqJ (fun σ' H' => ∃ pv, σ' = [some (.ref e), some pv] ∧ Kp [] H H' ∧ ((pv = .non ∧ beginD (ps.map PI.dat) rs = none) ∨ ∃ (p' : Addr) (ps' : List PI), pv = .ref p' ∧ H p' = none ∧ H' p' = some (.lst (ps'.map PI.r)) ∧ (∀ z ∈ ps', PIAt K H' z) ∧ beginD (ps.map PI.dat) rs = some (ps'.map PI.dat))) ?_ ?_
    · rintro σ' H2 ⟨pv, rfl, k2, hpv⟩
      have hX2 := hX.kp0 k2
      obtain ⟨dx2, he2⟩ := hX2.ob
      walk_at "z"
      rcases hpv with ⟨rfl, hno⟩ | ⟨p', ps', rfl, np', ep', hA', hD⟩
      · refine Z.yes rfl ?_
        walk_at "z"
        refine ⟨e, _, dx2, _, rfl, he2, T.cl_Explorer, T.na_Explorer__finished, by show 5 < 1000; decide, ?_⟩
        walk_at "z"
        rw [ef_pf]
        have k3 : Kp [e] H2 (upd H2 e (.ins T.C_Explorer dx2 (ef p m false true w))) := Kp.put (by simp)
        exact q0 hno _ ((k2.sub (by simp)).trans k3) (hX2.setE k3 ⟨_, upd_same⟩)
      · refine Z.no (by simp) ?_
        walk_at "z"
        refine ⟨e, _, dx2, _, _, rfl, he2, T.cl_Explorer, T.na_Explorer__rows, ef_w, ?_⟩
        walk_at "z"
        refine Z.lenL (lstL hX2.rows) ?_
        walk_at "z"
        rw [List.length_map]
        refine Z.ite (fun h1 => ?_) (fun h1 => ?_)
        · walk_at "z"
          refine mkErr ?_ (fun hRS h => ?_)
          · exact ⟨by simp, ⟨"runs", rfl, by decide +kernel⟩, fun d hd => qE _ hD (by omega) H2 d k2 hd⟩
          · exact hRS _ _ h
        · walk_at "z"
          refine ⟨e, _, dx2, _, rfl, he2, T.cl_Explorer, T.na_Explorer__path, by show 5 < 1000; decide, ?_⟩
          walk_at "z"
          rw [ef_pp]
          refine ⟨e, _, dx2, _, rfl, upd_same, T.cl_Explorer, T.na_Explorer__made, by show 5 < 1000; decide, ?_⟩
          walk_at "z"
          rw [upd_upd, ef_pm0]
          refine ⟨e, _, dx2, _, rfl, upd_same, T.cl_Explorer, T.na_Explorer__running, by show 5 < 1000; decide, ?_⟩
          walk_at "z"
          rw [upd_upd, ef_pr]
          have k3 : Kp [e] H2 (upd H2 e (.ins T.C_Explorer dx2 (ef p' 0 true fin w))) := Kp.put (by simp)
          exact q1 _ hD (by omega) _ p' ps' ((k2.sub (by simp)).trans k3) (hX2.setP k3 ⟨_, upd_same⟩ ep' (fun z => by rw [z, he] at np'; cases np') (fun z => by rw [z, hX.rows] at np'; cases np') hA') np' rfl
    · intro N jn
      walk_at "z"
      refine ⟨e, _, dx1, _, _, rfl, he1, T.cl_Explorer, T.na_Explorer__rows, ef_w, ?_⟩
      walk_at "z"
      refine Z.truL hX1.rows ?_
      cases hrs : rs with
      | nil =>
        rw [show (!(List.map LRow.r []).isEmpty) = false from rfl]
        walk_at "z"
        exact jn _ _ ⟨_, rfl, k1, .inr ⟨p0, [], rfl, np0, e1, by simp, by rw [hrs]; rfl⟩⟩
      | cons r rr =>
        rw [show (!(List.map LRow.r (r :: rr)).isEmpty) = true from rfl]
        walk_at "z"
        refine ⟨e, _, dx1, _, _, rfl, he1, T.cl_Explorer, T.na_Explorer__path, ef_p, ?_⟩
        walk_at "z"
        have hbd : beginD (ps.map PI.dat) rs = folL (ps.map PI.dat) := by rw [hrs]; rfl
        refine ⟨p, ps, rfl, hX1.path, hX1.items, hpl, fun hno H2 k2 => ?_, fun H2 p' ps' np' k2 ep' hA' hD => ?_⟩
        · walk_at "z"
          exact jn _ _ ⟨_, rfl, k1.trans k2, .inl ⟨rfl, by rw [hbd]; exact hno⟩⟩
        · walk_at "z"
          exact jn _ _ ⟨_, rfl, k1.trans k2, .inr ⟨p', ps', rfl, k1.none nin0 np', ep', hA', by rw [hbd]; exact hD⟩⟩
end explore3

section explore4
variable {K : PySem.W.Frag}
open LamX LamK
def spPick (K : PySem.W.Frag) (C : Addr) : Sp := fun vs H Q _ => ∃ (e p w b : Addr) (ws : List Int) (ps : List PI) (rs : List LRow) (m : Nat) (run fin : Bool), vs = [.ref e, .ref b] ∧ WOk ws ∧ Ex K C H e p w ps rs m run fin ∧ H b = some (.lst (ws.map V.int)) ∧ ps.length ≤ 100 ∧ m ≤ ps.length ∧ FrB 1000 (chD (ps.map PI.dat)) ∧ (chD (ps.map PI.dat)).2 ≠ 0 ∧
  ∀ (H' : Hp) (ps' : List PI) (x : PI), Kp [e, p] H H' → Ex K C H' e p w ps' rs (m + 1) run fin → ps'[m]? = some x → ((m < ps.length ∧ ps' = ps) ∨ (m = ps.length ∧ ps' = ps ++ [x] ∧ x.ws = ws ∧ nextN ws 0 = some x.k ∧ x.f = chD (ps.map PI.dat) ∧ H x.w = none)) → Q (.int (x.k : Int)) H'
theorem ok_Explorer_pick {P : Program} {w : World} {K : PySem.W.Frag} {mg : Str → Option Value} {base : Heap} (T : T P K mg base) : FnOk P w K mg base CX0 6 T.a_Explorer_pick T.fd_Explorer_pick ["self", "weights"] (spPick K T.C_Explorer) := by
  refine T.F_Explorer_pick.ok sc_Explorer_pick (fun vs H Q E h => ?_) (fun cdv A outer s H vs Q E hr h => ?_)
  · obtain ⟨e, p, w, b, ws, ps, rs, m, run, fin, rfl, _⟩ := h
    rfl
  · obtain ⟨e, p, w, b, ws, ps, rs, m, run, fin, rfl, hW, hX, hb, hpl, hm, hB, hB0, q⟩ := h
    obtain ⟨dx, he⟩ := hX.ob
    refine ⟨_, (Z.pss_consJ (ps_if (pt_cmpR op_eq (pe_fld (pv 0) rfl) (pe_callB c_len (by rfl) T.z_len (by decide +kernel) (pa_cons (pe_fld (pv 0) rfl) pa_nil)) (nomark _)) (pss_one (ps_expr (pe_bm PySem.F.plainAttrs_list PySem.F.slot_list_append PySem.F.type_list_append mt_append (pe_fld (pv 0) rfl) (pa_cons (pe_tup (pa_cons (pe_callTy c_list (by rfl) T.z_list (by decide +kernel) (pa_cons (pv 1) pa_nil)) (pa_cons (pe_callB (cr_sum rfl) (by rfl) T.z_sum (by decide +kernel) (pa_cons (pv 1) pa_nil)) (pa_cons (pe_call (ok_next_number T) (hr.mono (by decide)) (by rfl) T.g_next_number T.F_next_number.kp T.b_next_number .nil pass0 (pa_cons (pv 1) (pa_cons pe_int pa_nil))) (pa_cons (pe_call (ok_chance_behind T) (hr.mono (by decide)) (by rfl) T.g_chance_behind T.F_chance_behind.kp T.b_chance_behind .nil pass0 (pa_cons (pe_fld (pv 0) rfl) pa_nil)) pa_nil))))) pa_nil)))) pss_nil)
      (pss_cons (ps_set (i := 2) sc_Explorer_pick.nd rfl (by first | exact Or.inl rfl | exact Or.inr rfl) (pe_ix ix_tup (pe_ix ix_list (pe_fld (pv 0) rfl) (pe_fld (pv 0) rfl) (fun _ _ => rfl)) pe_int (fun _ _ => rfl)))
      (pss_cons (ps_fldaug (pv 0) pe_int in_add)
      (pss_one (ps_ret (pv 2)))))), ?_⟩
    walk_at "z0"
    walk_at "z"
    refine Z.seqJ (fun σ' H' => ∃ (ps' : List PI) (x : PI), σ' = [some (.ref e), some (.ref b), none] ∧ Kp [e, p] H H' ∧ Ex K T.C_Explorer H' e p w ps' rs m run fin ∧ ps'[m]? = some x ∧ ((m < ps.length ∧ ps' = ps) ∨ (m = ps.length ∧ ps' = ps ++ [x] ∧ x.ws = ws ∧ nextN ws 0 = some x.k ∧ x.f = chD (ps.map PI.dat) ∧ H x.w = none))) ?_ ?_
    · rintro σ' H2 ⟨ps', x, rfl, k2, hX2, hx, hor⟩
      obtain ⟨dx2, he2⟩ := hX2.ob
      walk_at "z"
      refine ⟨e, _, dx2, _, _, rfl, he2, T.cl_Explorer, T.na_Explorer__path, ef_p, ?_⟩
      walk_at "z"
      refine ⟨e, _, dx2, _, _, rfl, he2, T.cl_Explorer, T.na_Explorer__made, ef_m, ?_⟩
      walk_at "z"
      refine Z.ixL (v := .ref x.t) (lstL hX2.path) (atI_nat (by rw [List.getElem?_map, hx]; rfl)) ?_
      walk_at "z"
      have hxA := hX2.items x (List.mem_of_getElem? hx)
      refine Z.ixT hxA.tup (v := .int (x.k : Int)) rfl ?_
      walk_at "z"
      refine ⟨e, _, dx2, _, _, rfl, he2, T.cl_Explorer, T.na_Explorer__made, ef_m, ?_⟩
      walk_at "z"
      refine ⟨dx2, _, he2, by show 5 < 1000; decide, ?_⟩
      walk_at "z"
      rw [ef_mup]
      have k3 : Kp [e] H2 (upd H2 e (.ins T.C_Explorer dx2 (ef p (m + 1) run fin w))) := Kp.put (by simp)
      exact q _ ps' x (k2.trans (k3.sub (by simp))) (hX2.setE k3 ⟨_, upd_same⟩) hx hor
    · intro N jn
      walk_at "z"
      refine ⟨e, _, dx, _, _, rfl, he, T.cl_Explorer, T.na_Explorer__made, ef_m, ?_⟩
      walk_at "z"
      refine ⟨e, _, dx, _, _, rfl, he, T.cl_Explorer, T.na_Explorer__path, ef_p, ?_⟩
      walk_at "z"
      refine Z.lenL (lstL hX.path) ?_
      walk_at "z"
      rw [List.length_map]
      refine Z.ite (fun h1 => ?_) (fun h1 => ?_)
      · obtain ⟨k0, hk0⟩ := hW.first
        have hks := nextN_spec hk0
        have hwl := hW.len
        walk_at "z"
        refine ⟨e, _, dx, _, _, rfl, he, T.cl_Explorer, T.na_Explorer__path, ef_p, ?_⟩
        walk_at "z"
        refine ⟨Z.tyL hX.path, ?_⟩
        walk_at "z"
        refine Z.listL (lstL hb) (fun c H1 nc k1 e1 => ?_)
        have hb1 := k1.get nin0 hb
        walk_at "z"
        refine Z.sumL (ns := ws) (lstL hb1) ?_
        walk_at "z"
        refine ⟨b, ws, 0, rfl, lstL hb1, by omega, by decide, ?_⟩
        unfold nextV
        rw [hk0]
        walk_at "z"
        have hX1 := hX.kp0 k1
        obtain ⟨dx1, he1⟩ := hX1.ob
        refine ⟨e, _, dx1, _, _, rfl, he1, T.cl_Explorer, T.na_Explorer__path, ef_p, ?_⟩
        walk_at "z"
        refine ⟨p, ps, rfl, hX1.path, hX1.items, fun H2 f k2 ec => ?_⟩
        walk_at "z"
        refine Z.tupK (fun t H3 nt k3 e3 => ?_)
        have hX3 := (hX1.kp0 k2).kp0 k3
        walk_at "z"
        refine Z.app hX3.path (Z.szl (m := 100000) (by rw [List.length_map]; omega)) ?_
        walk_at "z"
        have k03 := k1.trans (k2.trans k3)
        have x0 : PIAt K H3 ⟨t, c, k0, f, chD (ps.map PI.dat), ws⟩ := ⟨tupT e3, (k2.trans k3).get nin0 e1, ec.kp0 k3, hks.2.1, hW, hB, hB0⟩
        have k4 : Kp [p] H3 (upd H3 p (.lst (ps.map PI.r ++ [.ref t]))) := Kp.put (by simp)
        have k4' : Kp [e, p, w] H3 (upd H3 p (.lst (ps.map PI.r ++ [.ref t]))) := k4.sub (by simp)
        obtain ⟨dx3, he3⟩ := hX3.ob
        refine jn _ _ ⟨ps ++ [⟨t, c, k0, f, chD (ps.map PI.dat), ws⟩], ⟨t, c, k0, f, chD (ps.map PI.dat), ws⟩, rfl, (k03.sub (by simp)).trans (k4.sub (by simp)), ⟨⟨dx3, k4.get (nin1 hX3.ep.symm) he3⟩, by rw [upd_same, List.map_append]; rfl, fun z hz => ?_, k4.get (nin1 hX3.pw.symm) hX3.rows, fun r hr => hX3.rat' k4' (hX3.rat r hr), hX3.pw⟩, ?_, .inr ⟨by omega, rfl, rfl, hk0, rfl, nc⟩⟩
        · rcases List.mem_append.mp hz with hz | hz
          · exact hX3.items' k4' (hX3.items z hz)
          · rw [List.mem_singleton.mp hz]
            exact hX3.items' k4' x0
        · rw [show m = ps.length by omega, List.getElem?_append_right (Nat.le_refl _), Nat.sub_self]
          rfl
      · walk_at "z"
        have hlt : m < ps.length := by omega
        exact jn _ _ ⟨ps, ps[m], rfl, Kp.refl _, hX, List.getElem?_eq_getElem hlt, .inl ⟨hlt, rfl⟩⟩
def spEnd (K : PySem.W.Frag) (C : Addr) : Sp := fun vs H Q _ => ∃ (e p w : Addr) (ps : List PI) (rs : List LRow) (m : Nat) (run fin : Bool) (v : V) (d : PyData), vs = [.ref e, v] ∧ Ex K C H e p w ps rs m run fin ∧ rs.length < 50000 ∧ Dp K H v d ∧ DOk d ∧
  ∀ (H' : Hp) (r : LRow), Kp [e, w] H H' → Ex K C H' e p w ps (rs ++ [r]) m false fin → r.dat = (d, chD (ps.map PI.dat)) → Q .non H'
theorem ok_Explorer_end {P : Program} {w : World} {K : PySem.W.Frag} {mg : Str → Option Value} {base : Heap} (T : T P K mg base) : FnOk P w K mg base CX0 6 T.a_Explorer_end T.fd_Explorer_end ["self", "outcome"] (spEnd K T.C_Explorer) := by
  refine T.F_Explorer_end.ok sc_Explorer_end (fun vs H Q E h => ?_) (fun cdv A outer s H vs Q E hr h => ?_)
  · obtain ⟨e, p, w, ps, rs, m, run, fin, v, d, rfl, _⟩ := h
    rfl
  · obtain ⟨e, p, w, ps, rs, m, run, fin, v, d, rfl, hX, hl, hdp, hdok, q⟩ := h
    obtain ⟨dx, he⟩ := hX.ob
    refine ⟨_, (pss_cons (ps_expr (pe_bm PySem.F.plainAttrs_list PySem.F.slot_list_append PySem.F.type_list_append mt_append (pe_fld (pv 0) rfl) (pa_cons (pe_tup (pa_cons (pv 1) (pa_cons (pe_call (ok_chance_behind T) (hr.mono (by decide)) (by rfl) T.g_chance_behind T.F_chance_behind.kp T.b_chance_behind .nil pass0 (pa_cons (pe_fld (pv 0) rfl) pa_nil)) pa_nil))) pa_nil)))
      (pss_one (ps_fld (pv 0) pe_bl rfl))), ?_⟩
    walk_at "z0"
    walk_at "z"
    refine ⟨e, _, dx, _, _, rfl, he, T.cl_Explorer, T.na_Explorer__rows, ef_w, ?_⟩
    walk_at "z"
    refine ⟨Z.tyL hX.rows, ?_⟩
    walk_at "z"
    refine ⟨e, _, dx, _, _, rfl, he, T.cl_Explorer, T.na_Explorer__path, ef_p, ?_⟩
    walk_at "z"
    refine ⟨p, ps, rfl, hX.path, hX.items, fun H1 f k1 ec => ?_⟩
    walk_at "z"
    refine Z.tupK (fun t H2 nt k2 e2 => ?_)
    have hX2 := (hX.kp0 k1).kp0 k2
    walk_at "z"
    refine Z.app hX2.rows (Z.szl (m := 100000) (by rw [List.length_map]; omega)) ?_
    have k3 : Kp [w] H2 (upd H2 w (.lst (rs.map LRow.r ++ [.ref t]))) := Kp.put (by simp)
    have k3' : Kp [e, p, w] H2 (upd H2 w (.lst (rs.map LRow.r ++ [.ref t]))) := k3.sub (by simp)
    obtain ⟨dx2, he2⟩ := hX2.ob
    have hr0 : LRowAt K H2 ⟨t, v, d, f, chD (ps.map PI.dat)⟩ := ⟨tupT e2, dp_kp (k1.trans k2) (by simp) d hdok.flat hdp, ec.kp0 k2, hdok⟩
    have hX3 : Ex K T.C_Explorer (upd H2 w (.lst (rs.map LRow.r ++ [.ref t]))) e p w ps (rs ++ [⟨t, v, d, f, chD (ps.map PI.dat)⟩]) m run fin := ⟨⟨dx2, k3.get (nin1 hX2.ew.symm) he2⟩, k3.get (nin1 hX2.pw) hX2.path, fun z hz => hX2.items' k3' (hX2.items z hz), by rw [upd_same, List.map_append]; rfl, fun r hr => by
      rcases List.mem_append.mp hr with hr | hr
      · exact hX2.rat' k3' (hX2.rat r hr)
      · rw [List.mem_singleton.mp hr]
        exact hX2.rat' k3' hr0, hX2.pw⟩
    generalize upd H2 w (.lst (rs.map LRow.r ++ [.ref t])) = H3 at k3 hX3 ⊢
    obtain ⟨dx3, he3⟩ := hX3.ob
    walk_at "z"
    refine ⟨e, _, dx3, _, rfl, he3, T.cl_Explorer, T.na_Explorer__running, by show 5 < 1000; decide, ?_⟩
    walk_at "z"
    rw [ef_pr]
    have k4 : Kp [e] H3 (upd H3 e (.ins T.C_Explorer dx3 (ef p m false fin w))) := Kp.put (by simp)
    exact q _ _ ((((k1.trans k2).sub (by simp)).trans (k3.sub (by simp))).trans (k4.sub (by simp))) (hX3.setE k4 ⟨_, upd_same⟩) rfl
def spRuns (K : PySem.W.Frag) (C : Addr) : Sp := fun vs H Q _ => ∃ (e p w : Addr) (ps : List PI) (rs : List LRow) (m : Nat) (run fin : Bool), vs = [.ref e] ∧ Ex K C H e p w ps rs m run fin ∧ Q (.int (rs.length : Int)) H
theorem ok_Explorer_runs {P : Program} {w : World} {K : PySem.W.Frag} {mg : Str → Option Value} {base : Heap} (T : T P K mg base) : FnOk P w K mg base CX0 1 T.a_Explorer_runs T.fd_Explorer_runs ["self"] (spRuns K T.C_Explorer) := by
  refine T.F_Explorer_runs.ok sc_Explorer_runs (fun vs H Q E h => ?_) (fun cdv A outer s H vs Q E hr h => ?_)
  · obtain ⟨e, p, w, ps, rs, m, run, fin, rfl, _⟩ := h
    rfl
  · obtain ⟨e, p, w, ps, rs, m, run, fin, rfl, hX, q⟩ := h
    obtain ⟨dx, he⟩ := hX.ob
    refine ⟨_, (pss_one (ps_ret (pe_callB c_len (by rfl) T.z_len (by decide +kernel) (pa_cons (pe_fld (pv 0) rfl) pa_nil)))), ?_⟩
    walk_at "z0"
    walk_at "z"
    refine ⟨e, _, dx, _, _, rfl, he, T.cl_Explorer, T.na_Explorer__rows, ef_w, ?_⟩
    walk_at "z"
    refine Z.lenL (lstL hX.rows) ?_
    rw [List.length_map]
    exact q
def spGath (K : PySem.W.Frag) (C P CN : Addr) : Sp := fun vs H Q E => ∃ (e p w : Addr) (ps : List PI) (rs : List LRow) (m : Nat) (run fin : Bool), vs = [.ref e] ∧ Ex K C H e p w ps rs m run fin ∧
  (fin = false → ∀ H', Kp [] H H' → E (.ref CN) none H') ∧
  (fin = true → Tabs [(P, LQ)] H ∧ LawIn K H rs ∧ chOkB (rs.map LRow.f) = true ∧
  ∀ (H' : Hp) (b : Addr) (out : List LRow), Nw H b → ExtN H H' → Tabs [(P, LQ)] H' → H' b = some (.lst (out.map LRow.r)) → (∀ r ∈ out, LRowAt K H' r) → out.map LRow.dat = lawOf rs → Q (.ref b) H')
theorem ok_Explorer_gathered {P : Program} {w : World} {K : PySem.W.Frag} {mg : Str → Option Value} {base : Heap} (T : T P K mg base) : FnOk P w K mg base (L2.CX P w) 8 T.a_Explorer_gathered T.fd_Explorer_gathered ["self"] (spGath K T.C_Explorer T.P_law_from T.C_NotEnded) := by
  refine T.F_Explorer_gathered.okX sc_Explorer_gathered (fun vs H Q E h => ?_) (fun cdv A outer s H vs Q E hr h => ?_)
  · obtain ⟨e, p, w, ps, rs, m, run, fin, rfl, _⟩ := h
    rfl
  · obtain ⟨e, p, w, ps, rs, m, run, fin, rfl, hX, qN, q⟩ := h
    obtain ⟨dx, he⟩ := hX.ob
    refine ⟨_, (pss_cons (ps_if (pt_not (pt_val (pe_fld (pv 0) rfl))) (pss_one (ps_raise rfl (takes_of rfl rfl rfl rfl) (Sup.pmk_oexN T.x_NotEnded.S.T T.x_NotEnded.iC T.x_NotEnded.tI (ok_NotEnded_init T) (hr.mono (by decide)) (T.bx_NotEnded) pass0 (by rfl) T.x_NotEnded.g))) pss_nil)
      (pss_one (ps_ret (pe_call (ok_law_from T) (hr.mono (by decide)) (by rfl) T.g_law_from T.F_law_from.kp T.b_law_from .nil (passes_call (takes_of rfl rfl rfl rfl) (fun _ _ _ _ h => h)) (pa_cons (pe_fld (pv 0) rfl) pa_nil))))), ?_⟩
    walk_at "z0"
    walk_at "z"
    refine ⟨e, _, dx, _, _, rfl, he, T.cl_Explorer, T.na_Explorer__finished, ef_f, ?_⟩
    cases fin with
    | false =>
      walk_at "z"
      refine Z.mkN fun a na => ⟨a, rfl, upd_same, rfl, upd_same, ?_⟩
      rw [del_upd na]
      exact qN rfl _ (Kp.refl _)
    | true =>
      obtain ⟨hT, hL, hch, q⟩ := q rfl
      walk_at "z"
      refine ⟨e, _, dx, _, _, rfl, he, T.cl_Explorer, T.na_Explorer__rows, ef_w, ?_⟩
      walk_at "z"
      refine ⟨w, rs, rfl, hT, lstL hX.rows, hL, fun z => ?_, fun _ H' b out nb e1 T1 h1 h2 h3 => ?_⟩
      · rw [hch] at z
        cases z
      · walk_at "z"
        exact q H' b out nb e1 T1 h1 h2 h3
end explore4

section gath
variable {K : PySem.W.Frag}
open GT GU
def StrsOk : OK → Prop
  | .inl (.inl _) => True
  | .inl (.inr s) => PyData.strOk s = true
  | .inr ks => ∀ s, Sum.inr s ∈ ks → PyData.strOk s = true
theorem keyT_ok {k : List Key} (hk : ∀ s, Sum.inr s ∈ k → PyData.strOk s = true) : DOk (keyD k) := by
  have h1 := keys_depth k
  have h2 := keys_lay k hk
  have h3 := keys_flat k
  refine ⟨by unfold keyD; simp [LamK.noLst, h3], by unfold keyD; simp [PyData.depth]; omega, ?_⟩
  unfold keyD
  simp only [SeqAt.shaped, PyData.canLay0, PyData.depth, h2, Bool.true_and]
  exact decide_eq_true (by omega)
theorem key_ok {k : OK} (hk : StrsOk k) : DOk (okD k) := by
  cases k with
  | inr ks => exact keyT_ok hk
  | inl k =>
    cases k with
    | inl i => exact ⟨by simp [okD, kD, LamK.noLst], by simp [okD, kD, PyData.depth], by simp [okD, kD, SeqAt.shaped, PyData.canLay0, PyData.depth]⟩
    | inr s =>
      have hk : PyData.strOk s = true := hk
      exact ⟨by simp [okD, kD, LamK.noLst], by simp [okD, kD, PyData.depth], by simp [okD, kD, SeqAt.shaped, PyData.canLay0, PyData.depth, hk]⟩
theorem ok_depth (k : OK) : (okD k).depth ≤ 60 := by
  cases k with
  | inr ks =>
    have := keys_depth ks
    show (keyD ks).depth ≤ 60
    unfold keyD
    simp [PyData.depth]
    omega
  | inl k => cases k <;> simp [okD, kD, PyData.depth]
abbrev KF := OK × Fr
section gen
variable {κ : Type} [DecidableEq κ]
def gval (acc : List (κ × Fr)) (k : κ) : Option Fr := (acc.find? fun x => decide (x.1 = k)).map (·.2)
def gput (acc : List (κ × Fr)) (k : κ) (g : Fr) : List (κ × Fr) := if (acc.any fun x => decide (x.1 = k)) = true then acc.map (fun x => if x.1 = k then (x.1, g) else x) else acc ++ [(k, g)]
def gstp (acc : List (κ × Fr)) (x : κ × Fr) : List (κ × Fr) := gput acc x.1 (fplus ((gval acc x.1).getD (0, 1)) x.2)
def gsum (xs : List (κ × Fr)) : List (κ × Fr) := xs.foldl gstp []
end gen
def gathOf (xs : List KF) : List KF := ((gsum xs).mergeSort (PySem.W.dataLe false fun x => okD x.1)).filter fun x => !decide (x.2 = (0, 1))
theorem gsum_snoc {xs : List KF} {i : Nat} {x : KF} (h : xs[i]? = some x) : gsum (xs.take (i + 1)) = gstp (gsum (xs.take i)) x := by
  unfold gsum
  rw [List.take_add_one, h, List.foldl_append]
  rfl
/-- what a dict of fractions holds -/
def KvAt (K : PySem.W.Frag) (H : Hp) : List (OK × V) → List KF → Prop := Paired fun kv x => kv.1 = x.1 ∧ ∃ c, kv.2 = .ref c ∧ FrAt K H c x.2
theorem KvAt.mono {H H' : Hp} (f : ∀ c g, FrAt K H c g → FrAt K H' c g) {kvs : List (OK × V)} {acc : List KF} (h : KvAt K H kvs acc) : KvAt K H' kvs acc := by
  unfold KvAt at h ⊢
  induction h with
  | nil => exact .nil
  | cons r t ih =>
    obtain ⟨e, c, e2, hc⟩ := r
    exact .cons ⟨e, c, e2, f _ _ hc⟩ ih
theorem KvAt.val {H : Hp} {k : OK} : ∀ {kvs : List (OK × V)} {acc : List KF}, KvAt K H kvs acc → (valV kvs k = none ∧ gval acc k = none) ∨ ∃ c g, valV kvs k = some (.ref c) ∧ gval acc k = some g ∧ FrAt K H c g
  | [], [], .nil => .inl ⟨rfl, rfl⟩
  | kv :: kvs, x :: acc, .cons ⟨e, c, e2, hc⟩ t => by
    by_cases hk : kv.1 = k
    · refine .inr ⟨c, x.2, ?_, ?_, hc⟩
      · rw [valV_pos hk, e2]
      · unfold gval
        rw [List.find?_cons_of_pos (by rw [← e]; simpa using hk)]
        rfl
    · have ih := KvAt.val (k := k) t
      rw [valV_neg hk]
      have e3 : gval (x :: acc) k = gval acc k := by
        unfold gval
        rw [List.find?_cons_of_neg (by rw [← e]; simpa using hk)]
      rw [e3]
      exact ih
theorem KvAt.any {H : Hp} {k : OK} : ∀ {kvs : List (OK × V)} {acc : List KF}, KvAt K H kvs acc → (kvs.any fun kv => decide (kv.1 = k)) = (acc.any fun x => decide (x.1 = k))
  | [], [], .nil => rfl
  | kv :: kvs, x :: acc, .cons ⟨e, _⟩ t => by rw [List.any_cons, List.any_cons, KvAt.any t, e]
theorem KvAt.len {H : Hp} {kvs : List (OK × V)} {acc : List KF} (h : KvAt K H kvs acc) : kvs.length = acc.length := Paired.length h
theorem KvAt.put {H : Hp} {k : OK} {d : Addr} {g : Fr} (hd : FrAt K H d g) {kvs : List (OK × V)} {acc : List KF} (h : KvAt K H kvs acc) : KvAt K H (putK kvs k (.ref d)) (gput acc k g) := by
  unfold putK gput
  rw [h.any (k := k)]
  split
  · rename_i ha
    clear ha
    unfold KvAt at h ⊢
    induction h with
    | nil => exact .nil
    | cons r t ih =>
      rename_i kv x _ _
      obtain ⟨e, c, e2, hc⟩ := r
      rw [List.map_cons, List.map_cons]
      refine .cons ?_ ih
      by_cases hk : kv.1 = k
      · rw [if_pos hk, if_pos (by rw [← e]; exact hk)]
        exact ⟨e, d, rfl, hd⟩
      · rw [if_neg hk, if_neg (by rw [← e]; exact hk)]
        exact ⟨e, c, e2, hc⟩
  · rename_i ha
    clear ha
    unfold KvAt at h ⊢
    induction h with
    | nil => exact .cons ⟨rfl, d, rfl, hd⟩ .nil
    | cons r t ih => exact .cons r ih
end gath

section tree10
variable {K : PySem.W.Frag}
open GT GU LamK
inductive Tr where
  | z
  | e (k : OK)
  | n (ws : List Int) (cs : List Tr)
def TrAt (K : PySem.W.Frag) (M : List Addr) (H : Hp) : Nat → V → Tr → Prop
  | _, v, .z => v = .non
  | _, v, .e k => ∃ t o, v = .ref t ∧ H t = some (.lst [.str "end", o]) ∧ OkAt H k o ∧ t ∉ M
  | 0, _, .n _ _ => False
  | d + 1, v, .n ws cs => ∃ (t w c : Addr) (vs : List V), v = .ref t ∧ H t = some (.lst [.str "pick", .ref w, .ref c]) ∧ H w = some (.lst (ws.map V.int)) ∧ H c = some (.lst vs) ∧ vs.length = cs.length ∧ t ∉ M ∧ w ∉ M ∧ c ∉ M ∧ ∀ (i : Nat) (v' : V) (c' : Tr), vs[i]? = some v' → cs[i]? = some c' → TrAt K M H d v' c'
theorem TrAt.z_iff {M : List Addr} {H : Hp} {d : Nat} {v : V} : TrAt K M H d v .z ↔ v = .non := by cases d <;> exact Iff.rfl
theorem TrAt.e_iff {M : List Addr} {H : Hp} {d : Nat} {v : V} {k : OK} : TrAt K M H d v (.e k) ↔ ∃ t o, v = .ref t ∧ H t = some (.lst [.str "end", o]) ∧ OkAt H k o ∧ t ∉ M := by cases d <;> exact Iff.rfl
structure WS (ws : List Int) : Prop where
  each : ∀ z ∈ ws, 0 ≤ z ∧ z ≤ 3
  l3 : ws.length ≤ 3
  pos : 0 < ws.sum
theorem WS.ok {ws : List Int} (h : WS ws) : WOk ws := ⟨fun z hz => by have := h.each z hz; omega, by have := h.l3; omega, h.pos⟩
/-- the form of an outcome -/
def kfm : OK → Nat
  | .inl (.inl _) => 0
  | .inl (.inr _) => 1
  | .inr [.inl _, .inr _] => 2
  | .inr _ => 3
def TrOk (fo : Nat) : Nat → Tr → Prop
  | _, .z => False
  | _, .e k => kfm k = fo ∧ StrsOk k
  | 0, .n _ _ => False
  | d + 1, .n ws cs => WS ws ∧ cs.length = ws.length ∧ ∀ i c, cs[i]? = some c → 0 < ws.getD i 0 → TrOk fo d c
theorem TrOk.e_iff {fo d : Nat} {k : OK} : TrOk fo d (.e k) ↔ kfm k = fo ∧ StrsOk k := by cases d <;> exact Iff.rfl
theorem TrOk.z_no {fo d : Nat} (h : TrOk fo d .z) : False := by cases d <;> exact h
theorem ok_kp1 {a : Addr} {H H' : Hp} {k : OK} {v : V} {xs : List V} (h : OkAt H k v) (e : Kp [a] H H') (ha : H a = some (.lst xs)) : OkAt H' k v := h.kp e fun x hx vs z => by
  rw [List.mem_singleton.mp hx, ha] at z
  cases z
/-- what keeps the old things keeps a tree -/
theorem TrAt.of {M M' : List Addr} {H H' : Hp} (k : ∀ (b : Addr) (xs : List V), b ∉ M → H b = some (.lst xs) → H' b = some (.lst xs)) (ko : ∀ k v, OkAt H k v → OkAt H' k v) (hM : ∀ (b : Addr) (xs : List V), b ∉ M → H b = some (.lst xs) → b ∉ M') : ∀ {d : Nat} {v : V} {t : Tr}, TrAt K M H d v t → TrAt K M' H' d v t := by
  intro d
  induction d with
  | zero =>
    intro v t h
    cases t with
    | z => exact h
    | e kk =>
      obtain ⟨t, o, e, h1, h2, h3⟩ := h
      exact ⟨t, o, e, k _ _ h3 h1, ko _ _ h2, hM _ _ h3 h1⟩
    | n ws cs => exact h.elim
  | succ d ih =>
    intro v t h
    cases t with
    | z => exact h
    | e kk =>
      obtain ⟨t, o, e, h1, h2, h3⟩ := h
      exact ⟨t, o, e, k _ _ h3 h1, ko _ _ h2, hM _ _ h3 h1⟩
    | n ws cs =>
      obtain ⟨t, w, c, vs, e, h1, h2, h3, h4, n1, n2, n3, h5⟩ := h
      exact ⟨t, w, c, vs, e, k _ _ n1 h1, k _ _ n2 h2, k _ _ n3 h3, h4, hM _ _ n1 h1, hM _ _ n2 h2, hM _ _ n3 h3, fun i v' c' hv hc => ih (h5 i v' c' hv hc)⟩
theorem TrAt.kp0 {M : List Addr} {H H' : Hp} (k : Kp [] H H') {d : Nat} {v : V} {t : Tr} (h : TrAt K M H d v t) : TrAt K M H' d v t := h.of (fun b xs _ e => k.get nin0 e) (fun _ _ h => h.kp0 k) fun _ _ n _ => n
theorem TrAt.kpx {M : List Addr} {H H' : Hp} {x : Addr} {xs : List V} (hx : x ∈ M) (k : Kp [x] H H') (e : H x = some (.lst xs)) {d : Nat} {v : V} {t : Tr} (h : TrAt K M H d v t) : TrAt K M H' d v t := h.of (fun b xs n e => k.get (nin1 fun z => n (z ▸ hx)) e) (fun _ _ h => ok_kp1 h k e) fun _ _ n _ => n
theorem TrAt.less {M M' : List Addr} {H : Hp} (hM : ∀ x ∈ M', x ∈ M) {d : Nat} {v : V} {t : Tr} (h : TrAt K M H d v t) : TrAt K M' H d v t := h.of (fun _ _ _ e => e) (fun _ _ h => h) fun b _ n _ z => n (hM b z)
def spWeights (K : PySem.W.Frag) : Sp := fun vs H Q _ => ∃ (a p : Addr), vs = [.ref a, .int 3] ∧ DeckOk H a p ∧ ∀ H' w ws, H w = none → Kp [a] H H' → DeckOk H' a p → H' w = some (.lst (ws.map V.int)) → WS ws → Q (.ref w) H'
theorem sum_ge1 : ∀ {l : List Int}, (∀ z ∈ l, 0 ≤ z ∧ z ≤ 3) → 0 ≤ l.sum
  | [], _ => by simp
  | a :: r, h => by
    have h1 := h a (by simp)
    have h2 := sum_ge1 (l := r) fun z hz => h z (by simp [hz])
    rw [List.sum_cons]
    omega
theorem sum_set : ∀ {l : List Int} {j : Nat} {z : Int}, (∀ z ∈ l, 0 ≤ z ∧ z ≤ 3) → j < l.length → z ≤ (l.set j z).sum
  | [], j, _, _, h => by simp at h
  | a :: r, 0, z, h, _ => by
    have h2 := sum_ge1 (l := r) fun z hz => h z (by simp [hz])
    rw [List.set_cons_zero, List.sum_cons]
    omega
  | a :: r, j + 1, z, h, hj => by
    have h1 := h a (by simp)
    have h2 := sum_set (l := r) (j := j) (z := z) (fun z hz => h z (by simp [hz])) (by simpa using hj)
    rw [List.set_cons_succ, List.sum_cons]
    omega
theorem ok__law_weights {P : Program} {w : World} {K : PySem.W.Frag} {mg : Str → Option Value} {base : Heap} (T : T P K mg base) : FnOk P w K mg base CX0 2 T.a__law_weights T.fd__law_weights ["deck", "most"] (spWeights K) := by
  refine T.F__law_weights.ok sc__law_weights (fun vs H Q E h => ?_) (fun cdv A outer s H vs Q E hr h => ?_)
  · obtain ⟨a, p, rfl, _⟩ := h
    rfl
  · obtain ⟨a, p, rfl, hd, q⟩ := h
    refine ⟨_, (pss_cons (ps_setLc (i := 2) (own := [("k", 3)]) (g := gName 3) rfl sc__law_weights.nd rfl rfl (sw_true rfl rfl rfl (by decide +kernel)) (pi_range1 (by rfl) T.z_range (pa_cons (pe_op op_add pe_int (pe_call (ok__law_draw T) (hr.mono (by decide)) (by rfl) T.g__law_draw T.F__law_draw.kp T.b__law_draw .nil pass0 (pa_cons (pv 0) (pa_cons (pv 1) pa_nil)))) pa_nil)) (blkOk_by (own := [("k", 3)]) (N := N__law_weights) (sc := defScope s__law_weights) (by decide +kernel)) (fun _ _ _ _ _ => (pg_name (i := 3) sc__law_weights.nd rfl (by first | exact Or.inl rfl | exact Or.inr rfl))) (fun _ _ _ _ _ => pts_nil) (fun _ _ _ _ _ => (pe_op op_mulW (pe_call (ok__law_draw T) (hr.mono (by decide)) (by rfl) T.g__law_draw T.F__law_draw.kp T.b__law_draw .nil pass0 (pa_cons (pv 0) (pa_cons pe_int pa_nil))) (pe_call (ok__law_draw T) (hr.mono (by decide)) (by rfl) T.g__law_draw T.F__law_draw.kp T.b__law_draw .nil pass0 (pa_cons (pv 0) (pa_cons pe_int pa_nil))))))
      (Z.pss_consJ (ps_if (pt_cmpR op_eq (pe_callB (cr_sum rfl) (by rfl) T.z_sum (by decide +kernel) (pa_cons (pv 2) pa_nil)) pe_int (nomark _)) (pss_one (ps_asg (pe_op op_add pe_int (pe_call (ok__law_draw T) (hr.mono (by decide)) (by rfl) T.g__law_draw T.F__law_draw.kp T.b__law_draw .nil pass0 (pa_cons (pv 0) (pa_cons pe_int pa_nil)))) (pg_sub (pv 2) (pe_call (ok__law_draw T) (hr.mono (by decide)) (by rfl) T.g__law_draw T.F__law_draw.kp T.b__law_draw .nil pass0 (pa_cons (pv 0) (pa_cons (pe_callB c_len (by rfl) T.z_len (by decide +kernel) (pa_cons (pv 2) pa_nil)) pa_nil))) set_list))) pss_nil)
      (pss_one (ps_ret (pv 2))))), ?_⟩
    walk_at "z0"
    walk_at "z"
    refine ⟨a, p, 3, rfl, hd, by decide, by decide, fun H1 v h0 h1 k1 d1 => ?_⟩
    obtain ⟨n, hn⟩ : ∃ n : Nat, 1 + v = (n : Int) := ⟨(1 + v).toNat, by omega⟩
    have hn1 : 1 ≤ n := by omega
    have hn3 : n ≤ 3 := by omega
    walk_at "z"
    rw [hn]
    refine Z.lcr n rfl (by omega) (fun D i H' => ∃ ws : List Int, Kp [a] H H' ∧ DeckOk H' a p ∧ H' D = some (.lst (ws.map V.int)) ∧ ws.length = i ∧ ∀ z ∈ ws, 0 ≤ z ∧ z ≤ 3) ?_ ?_ ?_
    · intro D H2 nD k2 e2
      exact ⟨[], k1.trans (k2.sub (by simp)), d1.kp0 k2, e2, rfl, by simp⟩
    · rintro D i H2 nD hi ⟨ws, k2, d2, e2, hl, hz⟩
      have nDa := (d1.ne nD).1.symm
      dsimp only [wipe, List.set]
      walk_at "z"
      refine ⟨rfl, ?_⟩
      walk_at "z"
      refine ⟨a, p, 4, rfl, d2, by decide, by decide, fun H3 v4 h40 h41 k3 d3 => ?_⟩
      walk_at "z"
      refine ⟨a, p, 2, rfl, d3, by decide, by decide, fun H4 v2 h20 h21 k4 d4 => ?_⟩
      walk_at "z"
      refine Z.iC (mul_ok (n := 3) (by omega) (by omega)) ?_
      have k34 := k3.trans k4
      have e4 := k34.get (nin1 nDa) e2
      have hv : 0 ≤ v4 * v2 ∧ v4 * v2 ≤ 3 := by
        have : v2 = 0 ∨ v2 = 1 := by omega
        rcases this with rfl | rfl <;> omega
      have nDH : H D = none := k1.none (nin1 nDa) nD
      refine ⟨_, e4, Z.szl (m := 1000) (by rw [List.length_map]; omega), ws ++ [v4 * v2], (k2.trans k34).then1 (Kp.put (by simp)) nDH, d4.upd nDa.symm (d1.ne nD).2, by rw [upd_same, List.map_append]; rfl, by rw [List.length_append, hl]; rfl, ?_⟩
      intro z hz2
      rcases List.mem_append.mp hz2 with h | h
      · exact hz z h
      · rw [List.mem_singleton.mp h]; exact hv
    · rintro D H2 nD ⟨ws, k2, d2, e2, hl, hz⟩
      have nDa := (d1.ne nD).1.symm
      have nDH : H D = none := k1.none (nin1 nDa) nD
      walk_at "z"
      refine Z.seqJ (fun σ' H' => ∃ ws' y3, σ' = [some (.ref a), some (.int 3), some (.ref D), y3] ∧ Kp [a] H H' ∧ DeckOk H' a p ∧ H' D = some (.lst (ws'.map V.int)) ∧ WS ws') ?_ ?_
      · rintro σ' H3 ⟨ws', y3, rfl, k3, d3, e3, hS⟩
        walk_at "z"
        exact q H3 D ws' nDH k3 d3 e3 hS
      · intro N jn
        walk_at "z"
        refine Z.sumL (ns := ws) (lstL e2) ?_
        walk_at "z"
        refine Z.ite (fun hs0 => ?_) (fun hs0 => ?_)
        · walk_at "z"
          refine ⟨a, p, 3, rfl, d2, by decide, by decide, fun H3 v3 h30 h31 k3 d3 => ?_⟩
          have e3 := k3.get (nin1 nDa) e2
          walk_at "z"
          refine Z.lenL (lstL e3) ?_
          rw [List.length_map, hl]
          walk_at "z"
          refine ⟨a, p, (n : Int), rfl, d3, by omega, by omega, fun H4 vj hj0 hj1 k4 d4 => ?_⟩
          have e4 := k4.get (nin1 nDa) e3
          obtain ⟨j, hj⟩ : ∃ j : Nat, vj = (j : Int) := ⟨vj.toNat, by omega⟩
          subst hj
          have hjl : j < ws.length := by omega
          walk_at "z"
          refine Z.setL e4 (ixN_nat (by rw [List.length_map]; omega)) ?_
          walk_at "z"
          refine jn _ _ ⟨ws.set j (1 + v3), _, rfl, ((k2.trans k3).trans k4).then1 (Kp.put (by simp)) nDH, d4.upd nDa.symm (d1.ne nD).2, by rw [upd_same, List.map_set], ⟨fun z hz2 => ?_, by rw [List.length_set]; omega, ?_⟩⟩
          · rcases List.mem_or_eq_of_mem_set hz2 with h | h
            · exact hz z h
            · rw [h]; omega
          · have := sum_set (z := 1 + v3) hz hjl
            omega
        · walk_at "z"
          refine jn _ _ ⟨ws, _, rfl, k2, d2, e2, hz, by omega, ?_⟩
          have := sum_ge1 hz
          omega
end tree10

section gath2
variable {K : PySem.W.Frag}
open GT GU
section gen
variable {κ : Type} [DecidableEq κ]
theorem gval_mem {acc : List (κ × Fr)} {k : κ} {g : Fr} (h : gval acc k = some g) : (k, g) ∈ acc := by
  unfold gval at h
  obtain ⟨x, hx, rfl⟩ := Option.map_eq_some_iff.mp h
  have h1 := List.find?_some hx
  have h2 := List.mem_of_find?_eq_some hx
  obtain rfl : x.1 = k := by simpa using h1
  exact h2
theorem gval_none {acc : List (κ × Fr)} {k : κ} (h : ¬ (acc.any fun x => decide (x.1 = k)) = true) : ∀ x ∈ acc, x.1 ≠ k := fun x hx e => h (List.any_eq_true.mpr ⟨x, hx, by simpa using e⟩)
theorem gput_nodup {acc : List (κ × Fr)} {k : κ} {g : Fr} (h : (acc.map Prod.fst).Nodup) : ((gput acc k g).map Prod.fst).Nodup := by
  unfold gput
  split
  · rw [List.map_map]
    rw [show (Prod.fst ∘ fun x : κ × Fr => if x.1 = k then (x.1, g) else x) = Prod.fst from by funext x; dsimp only [Function.comp]; split <;> rfl]
    exact h
  · rename_i ha
    rw [List.map_append, List.map_cons, List.map_nil]
    refine List.nodup_append.mpr ⟨h, by simp, fun a ha2 b hb => ?_⟩
    obtain ⟨x, hx, rfl⟩ := List.mem_map.mp ha2
    rw [List.mem_singleton.mp hb]
    exact gval_none ha x hx
theorem gsum_nodup : ∀ {xs acc : List (κ × Fr)}, (acc.map Prod.fst).Nodup → ((xs.foldl gstp acc).map Prod.fst).Nodup
  | [], _, h => h
  | x :: xs, acc, h => gsum_nodup (xs := xs) (gput_nodup h)
theorem gput_len {acc : List (κ × Fr)} {k : κ} {g : Fr} : (gput acc k g).length ≤ acc.length + 1 := by
  unfold gput
  split
  · rw [List.length_map]; omega
  · simp
theorem gsum_len : ∀ {xs acc : List (κ × Fr)}, (xs.foldl gstp acc).length ≤ acc.length + xs.length
  | [], _ => by simp
  | x :: xs, acc => by
    have h1 := gput_len (acc := acc) (k := x.1) (g := fplus ((gval acc x.1).getD (0, 1)) x.2)
    have h2 := gsum_len (xs := xs) (acc := gstp acc x)
    unfold gstp at h2
    rw [List.foldl_cons, List.length_cons]
    unfold gstp
    omega
theorem gval_of : ∀ {acc : List (κ × Fr)} {x : κ × Fr}, (acc.map Prod.fst).Nodup → x ∈ acc → gval acc x.1 = some x.2
  | y :: acc, x, h, hx => by
    rw [List.map_cons, List.nodup_cons] at h
    unfold gval
    rcases List.mem_cons.mp hx with rfl | hx
    · rw [List.find?_cons_of_pos (by simp)]
      rfl
    · have hne : y.1 ≠ x.1 := fun e => h.1 (by rw [e]; exact List.mem_map_of_mem hx)
      rw [List.find?_cons_of_neg (by simpa using hne)]
      exact gval_of h.2 hx
end gen
/-- a row: a the row, v the outcome, c the chance -/
structure GRow where
  a : Addr
  v : V
  k : OK
  c : Addr
  f : Fr
def GRow.r (g : GRow) : V := .ref g.a
def GRow.kf (g : GRow) : KF := (g.k, g.f)
structure GRowAt (K : PySem.W.Frag) (H : Hp) (g : GRow) : Prop where
  tup : SqT K H g.a [g.v, .ref g.c]
  key : OkAt H g.k g.v
  fr : FrAt K H g.c g.f
  ok : StrsOk g.k
theorem ok_kpM {M : List Addr} {H H' : Hp} {k : OK} {v : V} (h : OkAt H k v) (e : Kp M H H') (n : ∀ x ∈ M, NoTup H x) : OkAt H' k v := h.kp e fun x hx vs z => n x hx vs (.inl z)
theorem GRowAt.kpM {M : List Addr} {H H' : Hp} {g : GRow} (h : GRowAt K H g) (k : Kp M H H') (n : ∀ x ∈ M, NoTup H x) : GRowAt K H' g := ⟨kpTup h.tup k n, ok_kpM h.key k n, FrAt.kp h.fr k n, h.ok⟩
theorem GRowAt.kp0 {H H' : Hp} {g : GRow} (h : GRowAt K H g) (k : Kp [] H H') : GRowAt K H' g := h.kpM k (by simp)
theorem noT {H : Hp} {l : Addr} {o : HO} (e : H l = some o) (n : ∀ xs, o ≠ .tup xs ∧ ∀ u, o ≠ .frz u (.tup xs)) : ∀ x ∈ [l], NoTup H x := fun x hx => by
  rw [List.mem_singleton.mp hx]
  exact NoTup.of e n
structure GathOk (fk : Bool) (xs : List KF) : Prop where
  kind : ∀ x ∈ xs, fm x.1 = fk
  kinds : ∀ x ∈ gsum xs, fm x.1 = fk
  len : xs.length ≤ 1000
  fr : ∀ x ∈ xs, 1 ≤ x.2.2 ∧ FrB 900 x.2
  sums : ∀ i, ∀ y ∈ gsum (xs.take i), 1 ≤ y.2.2 ∧ FrB 900 y.2
  alike : PySem.W.AllAlike ((gsum xs).map fun x => okD x.1)
  sorts : PySem.W.Sortable ((gsum xs).map fun x => okD x.1)
  keys : ∀ x ∈ gsum xs, StrsOk x.1
/-- a row of the ends: the path at p, the outcome v, the chance c -/
structure G3 where
  a : Addr
  p : Addr
  ns : List Int
  v : V
  k : OK
  c : Addr
  f : Fr
def G3.r (g : G3) : V := .ref g.a
def G3.kf (g : G3) : KF := (g.k, g.f)
structure G3At (K : PySem.W.Frag) (H : Hp) (g : G3) : Prop where
  tup : SqT K H g.a [.ref g.p, g.v, .ref g.c]
  path : H g.p = some (.lst (g.ns.map V.int))
  key : OkAt H g.k g.v
  fr : FrAt K H g.c g.f
  ok : StrsOk g.k
theorem G3At.kp0 {H H' : Hp} {g : G3} (h : G3At K H g) (k : Kp [] H H') : G3At K H' g := ⟨kpTup h.tup k (by simp), k.get nin0 h.path, ok_kpM h.key k (by simp), FrAt.kp0 h.fr k, h.ok⟩
theorem G3At.ext {H H' : Hp} {g : G3} (h : G3At K H g) (k : LamX.ExtN H H') : G3At K H' g := ⟨LamK.ext_tup k h.tup, LamK.ext_get k h.path, (by
  have h1 := h.key
  cases e : g.k with
  | inl x => rw [e] at h1; exact h1
  | inr xs =>
    rw [e] at h1
    obtain ⟨p, e1, e2⟩ := h1
    exact ⟨p, e1, LamK.ext_get k e2⟩), LamK.ext_tup k h.fr, h.ok⟩
def spGathered (K : PySem.W.Frag) : Sp := fun vs H Q _ => ∃ (fk : Bool) (a : Addr) (gs : List G3), vs = [.ref a] ∧ SqL K H a (gs.map G3.r) ∧ (∀ g ∈ gs, G3At K H g) ∧ GathOk fk (gs.map G3.kf) ∧
  ∀ (H' : Hp) (d : Addr) (out : List GRow), H d = none → Kp [] H H' → H' d = some (.lst (out.map GRow.r)) → (∀ g ∈ out, GRowAt K H' g) → out.map GRow.kf = gathOf (gs.map G3.kf) → Q (.ref d) H'
/-- keys and sums side by side -/
theorem keys_side {H : Hp} : ∀ {kvs : List (OK × V)} {acc : List KF} {vs : List V}, KvAt K H kvs acc → ∀ {H' : Hp}, KeysAt H' (kvs.map (·.1)) vs → ∃ L : List (KF × V), L.map Prod.fst = acc ∧ L.map Prod.snd = vs ∧ ∀ x ∈ L, OkAt H' x.1.1 x.2
  | [], [], [], .nil, _, .nil => ⟨[], rfl, rfl, by simp⟩
  | kv :: kvs, x :: acc, v :: vs, .cons ⟨e, _⟩ t, H', .cons h2 t2 => by
    obtain ⟨L, e1, e2, e3⟩ := keys_side (kvs := kvs) (acc := acc) (vs := vs) t t2
    refine ⟨(x, v) :: L, by rw [List.map_cons, e1], by rw [List.map_cons, e2], fun y hy => ?_⟩
    rcases List.mem_cons.mp hy with rfl | hy
    · show OkAt H' x.1 v
      rw [← e]
      exact h2
    · exact e3 y hy
end gath2

section gath3
variable {κ : Type} [DecidableEq κ]
/-- the sum of the chances of a key -/
def sK (xs : List (κ × Fr)) (k : κ) : Rat := ((xs.filter fun x => decide (x.1 = k)).map fun x => rv x.2).sum
theorem ratsum_app : ∀ a b : List Rat, (a ++ b).sum = a.sum + b.sum
  | [], b => by show b.sum = 0 + b.sum; grind
  | x :: a, b => by
    rw [List.cons_append, List.sum_cons, List.sum_cons, ratsum_app a b]
    grind
theorem ratsum_perm {a b : List Rat} (h : a.Perm b) : a.sum = b.sum := by
  induction h with
  | nil => rfl
  | cons x _ ih => rw [List.sum_cons, List.sum_cons, ih]
  | swap x y l =>
    rw [List.sum_cons, List.sum_cons, List.sum_cons, List.sum_cons]
    grind
  | trans _ _ h1 h2 => exact h1.trans h2
theorem sK_perm {xs ys : List (κ × Fr)} (h : xs.Perm ys) (k : κ) : sK xs k = sK ys k := ratsum_perm ((h.filter _).map _)
theorem sK_nil (k : κ) : sK ([] : List (κ × Fr)) k = 0 := rfl
theorem sK_snoc (xs : List (κ × Fr)) (x : κ × Fr) (k : κ) : sK (xs ++ [x]) k = sK xs k + if x.1 = k then rv x.2 else 0 := by
  unfold sK
  rw [List.filter_append, List.map_append, ratsum_app]
  by_cases h : x.1 = k
  · rw [if_pos h, List.filter_cons_of_pos (by simpa using h)]
    show _ + (rv x.2 + 0) = _
    grind
  · rw [if_neg h, List.filter_cons_of_neg (by simpa using h)]
    rfl
theorem sK_none {xs : List (κ × Fr)} {k : κ} (h : k ∉ xs.map Prod.fst) : sK xs k = 0 := by
  unfold sK
  rw [List.filter_eq_nil_iff.mpr]
  · rfl
  · intro x hx e
    exact h (by rw [← of_decide_eq_true e]; exact List.mem_map_of_mem hx)
/-- each key once, with the sum of its chances -/
structure Norm (xs R : List (κ × Fr)) : Prop where
  a : ∀ x ∈ R, x.1 ∈ xs.map Prod.fst ∧ Low x.2 ∧ rv x.2 = sK xs x.1
  b : ∀ k ∈ xs.map Prod.fst, ∃ x ∈ R, x.1 = k
theorem Norm.mem {xs R : List (κ × Fr)} (h : Norm xs R) {x : κ × Fr} : x ∈ R ↔ x.1 ∈ xs.map Prod.fst ∧ Low x.2 ∧ rv x.2 = sK xs x.1 := by
  refine ⟨h.a x, fun ⟨h1, h2, h3⟩ => ?_⟩
  obtain ⟨y, hy, e⟩ := h.b _ h1
  obtain ⟨_, l2, l3⟩ := h.a y hy
  have e2 : y.2 = x.2 := low_eq l2 h2 (by rw [l3, h3, e])
  have e3 : y = x := Prod.ext e e2
  rwa [← e3]
theorem Norm.perm {xs ys R : List (κ × Fr)} (h : Norm xs R) (p : xs.Perm ys) : Norm ys R :=
  ⟨fun x hx => ⟨(p.map Prod.fst).mem_iff.mp (h.a x hx).1, (h.a x hx).2.1, by rw [(h.a x hx).2.2, sK_perm p]⟩, fun k hk => h.b k ((p.map Prod.fst).mem_iff.mpr hk)⟩
theorem Norm.permR {xs R R' : List (κ × Fr)} (h : Norm xs R) (p : R.Perm R') : Norm xs R' := ⟨fun x hx => h.a x (p.mem_iff.mpr hx), fun k hk => let ⟨x, hx, e⟩ := h.b k hk; ⟨x, p.mem_iff.mp hx, e⟩⟩
theorem norm_nil : Norm ([] : List (κ × Fr)) [] := ⟨by simp, by simp⟩
theorem gval_some {acc : List (κ × Fr)} {k : κ} (h : (acc.any fun x => decide (x.1 = k)) = true) : ∃ g, gval acc k = some g ∧ (k, g) ∈ acc := by
  obtain ⟨x, hx, e⟩ := List.any_eq_true.mp h
  unfold gval
  cases hf : acc.find? fun x => decide (x.1 = k) with
  | none =>
    have := List.find?_eq_none.mp hf x hx
    exact absurd e this
  | some y =>
    have h1 := List.find?_some hf
    have h2 := List.mem_of_find?_eq_some hf
    have h3 : y.1 = k := of_decide_eq_true h1
    exact ⟨y.2, rfl, by rw [← h3]; exact h2⟩
theorem gval_nil {acc : List (κ × Fr)} {k : κ} (h : ¬ (acc.any fun x => decide (x.1 = k)) = true) : gval acc k = none := by
  unfold gval
  rw [List.find?_eq_none.mpr fun x hx e => gval_none h x hx (of_decide_eq_true e)]
  rfl
theorem fplus_zero {f : Fr} (h : f.2 ≠ 0) : rv (fplus (0, 1) f) = rv f := by
  rw [rv_fplus (by decide) h]
  have e0 : rv (0, 1) = 0 := by unfold rv; grind
  rw [e0]
  grind
theorem norm_step {ps acc : List (κ × Fr)} {x : κ × Fr} (h : Norm ps acc) (hn : (acc.map Prod.fst).Nodup) (hx : x.2.2 ≠ 0) : Norm (ps ++ [x]) (gstp acc x) := by
  have hk : ∀ k, k ∈ (ps ++ [x]).map Prod.fst ↔ k ∈ ps.map Prod.fst ∨ k = x.1 := fun k => by
    rw [List.map_append, List.mem_append]
    simp
  unfold gstp gput
  by_cases ha : (acc.any fun y => decide (y.1 = x.1)) = true
  · rw [if_pos ha]
    obtain ⟨g, hg, hm⟩ := gval_some ha
    obtain ⟨g1, g2, g3⟩ := h.a _ hm
    rw [hg]
    refine ⟨fun y hy => ?_, fun k hkm => ?_⟩
    · obtain ⟨z, hz, rfl⟩ := List.mem_map.mp hy
      obtain ⟨z1, z2, z3⟩ := h.a z hz
      by_cases e : z.1 = x.1
      · rw [if_pos e]
        refine ⟨(hk _).mpr (.inl z1), fplus_low g2.ne hx, ?_⟩
        show rv (fplus g x.2) = _
        rw [rv_fplus g2.ne hx, sK_snoc, if_pos e.symm, g3, e]
      · rw [if_neg e]
        refine ⟨(hk _).mpr (.inl z1), z2, ?_⟩
        rw [sK_snoc, if_neg (fun q => e q.symm), z3]
        grind
    · rcases (hk k).mp hkm with h1 | rfl
      · obtain ⟨z, hz, e⟩ := h.b k h1
        refine ⟨_, List.mem_map_of_mem hz, ?_⟩
        split
        · exact e
        · exact e
      · refine ⟨_, List.mem_map_of_mem hm, ?_⟩
        rw [if_pos rfl]
  · rw [if_neg ha, gval_nil ha]
    have hno : x.1 ∉ ps.map Prod.fst := fun z => by
      obtain ⟨y, hy, e⟩ := h.b _ z
      exact gval_none ha y hy e
    refine ⟨fun y hy => ?_, fun k hkm => ?_⟩
    · rcases List.mem_append.mp hy with hy | hy
      · obtain ⟨y1, y2, y3⟩ := h.a y hy
        refine ⟨(hk _).mpr (.inl y1), y2, ?_⟩
        rw [sK_snoc, if_neg (fun e => hno (by rw [e]; exact y1)), y3]
        grind
      · rw [List.mem_singleton.mp hy]
        refine ⟨(hk _).mpr (.inr rfl), fplus_low (by decide) hx, ?_⟩
        show rv (fplus (0, 1) x.2) = sK (ps ++ [x]) x.1
        rw [fplus_zero hx, sK_snoc, if_pos rfl, sK_none hno]
        grind
    · rcases (hk k).mp hkm with h1 | rfl
      · obtain ⟨z, hz, e⟩ := h.b k h1
        exact ⟨z, List.mem_append_left _ hz, e⟩
      · exact ⟨(x.1, fplus (0, 1) x.2), List.mem_append_right _ (by simp), rfl⟩
theorem norm_fold : ∀ {xs ps acc : List (κ × Fr)}, Norm ps acc → (acc.map Prod.fst).Nodup → (∀ x ∈ xs, x.2.2 ≠ 0) → Norm (ps ++ xs) (xs.foldl gstp acc)
  | [], ps, acc, h, _, _ => by rw [List.append_nil]; exact h
  | x :: xs, ps, acc, h, hn, hx => by
    rw [List.foldl_cons, show ps ++ x :: xs = (ps ++ [x]) ++ xs by simp]
    exact norm_fold (norm_step h hn (hx x (by simp))) (gput_nodup hn) fun y hy => hx y (by simp [hy])
theorem norm_gsum {xs : List (κ × Fr)} (hx : ∀ x ∈ xs, x.2.2 ≠ 0) : Norm xs (gsum xs) := by
  have := norm_fold (xs := xs) (ps := []) (acc := []) norm_nil (by simp) hx
  rwa [List.nil_append] at this
/-- an order of the keys -/
structure KOrd (le : κ → κ → Bool) : Prop where
  trans : ∀ a b c, le a b = true → le b c = true → le a c = true
  total : ∀ a b, le a b = true ∨ le b a = true
  anti : ∀ a b, le a b = true → le b a = true → a = b
def Asc (le : κ → κ → Bool) (R : List (κ × Fr)) : Prop := R.Pairwise fun a b => le a.1 b.1 = true ∧ a.1 ≠ b.1
theorem Asc.nodup {le : κ → κ → Bool} {R : List (κ × Fr)} (h : Asc le R) : R.Nodup := List.Pairwise.imp (fun {a b} h e => h.2 (by rw [e])) h
theorem norm_eq {le : κ → κ → Bool} (O : KOrd le) {xs R R' : List (κ × Fr)} (h : Norm xs R) (h' : Norm xs R') (s : Asc le R) (s' : Asc le R') : R = R' := by
  have hm : ∀ x, x ∈ R ↔ x ∈ R' := fun x => h.mem.trans h'.mem.symm
  refine List.Perm.eq_of_pairwise (le := fun a b : κ × Fr => le a.1 b.1 = true) (fun a b ha hb h1 h2 => ?_) (List.Pairwise.imp (fun {a b} h => h.1) s) (List.Pairwise.imp (fun {a b} h => h.1) s') ((List.perm_ext_iff_of_nodup s.nodup s'.nodup).mpr hm)
  have e := O.anti _ _ h1 h2
  obtain ⟨_, a2, a3⟩ := h.a a ha
  obtain ⟨_, b2, b3⟩ := h'.a b hb
  exact Prod.ext e (low_eq a2 b2 (by rw [a3, b3, e]))
/-- equal neighbours added -/
def stpG (acc : List (κ × Fr)) (x : κ × Fr) : List (κ × Fr) := match acc.getLast? with
  | some y => if y.1 = x.1 then acc.dropLast ++ [(x.1, fplus y.2 x.2)] else acc ++ [x]
  | none => [x]
theorem stpG_last (o : List (κ × Fr)) (y x : κ × Fr) : stpG (o ++ [y]) x = if y.1 = x.1 then o ++ [(x.1, fplus y.2 x.2)] else o ++ [y] ++ [x] := by
  unfold stpG
  rw [List.getLast?_concat, List.dropLast_concat]
theorem stpG_step {le : κ → κ → Bool} (O : KOrd le) {ps acc : List (κ × Fr)} {x : κ × Fr} (h : Norm ps acc) (s : Asc le acc) (hx : Low x.2) (hle : ∀ y ∈ ps, le y.1 x.1 = true) : Norm (ps ++ [x]) (stpG acc x) ∧ Asc le (stpG acc x) := by
  have hk : ∀ k, k ∈ (ps ++ [x]).map Prod.fst ↔ k ∈ ps.map Prod.fst ∨ k = x.1 := fun k => by
    rw [List.map_append, List.mem_append]
    simp
  have hle' : ∀ k ∈ ps.map Prod.fst, le k x.1 = true := fun k hk => by
    obtain ⟨y, hy, rfl⟩ := List.mem_map.mp hk
    exact hle y hy
  have hnew : x.1 ∉ ps.map Prod.fst → Norm (ps ++ [x]) (acc ++ [x]) ∧ Asc le (acc ++ [x]) := fun hno => by
    refine ⟨⟨fun y hy => ?_, fun k hkm => ?_⟩, List.pairwise_append.mpr ⟨s, by simp, fun a ha b hb => ?_⟩⟩
    · rcases List.mem_append.mp hy with hy | hy
      · obtain ⟨y1, y2, y3⟩ := h.a y hy
        refine ⟨(hk _).mpr (.inl y1), y2, ?_⟩
        rw [sK_snoc, if_neg (fun e => hno (by rw [e]; exact y1)), y3]
        grind
      · rw [List.mem_singleton.mp hy]
        refine ⟨(hk _).mpr (.inr rfl), hx, ?_⟩
        rw [sK_snoc, if_pos rfl, sK_none hno]
        grind
    · rcases (hk k).mp hkm with h1 | rfl
      · obtain ⟨z, hz, e⟩ := h.b k h1
        exact ⟨z, List.mem_append_left _ hz, e⟩
      · exact ⟨x, List.mem_append_right _ (by simp), rfl⟩
    · rw [List.mem_singleton.mp hb]
      have ha1 := (h.a a ha).1
      exact ⟨hle' _ ha1, fun e => hno (by rw [← e]; exact ha1)⟩
  rcases List.eq_nil_or_concat acc with rfl | ⟨o, y, hoy⟩
  · refine hnew fun z => ?_
    obtain ⟨y, hy, _⟩ := h.b _ z
    cases hy
  · rw [List.concat_eq_append] at hoy
    subst hoy
    rw [stpG_last]
    obtain ⟨s1, _, s3⟩ := List.pairwise_append.mp s
    obtain ⟨y1, y2, y3⟩ := h.a y (by simp)
    by_cases e : y.1 = x.1
    · rw [if_pos e]
      refine ⟨⟨fun z hz => ?_, fun k hkm => ?_⟩, List.pairwise_append.mpr ⟨s1, by simp, fun a ha b hb => ?_⟩⟩
      · rcases List.mem_append.mp hz with hz | hz
        · obtain ⟨z1, z2, z3⟩ := h.a z (by simp [hz])
          refine ⟨(hk _).mpr (.inl z1), z2, ?_⟩
          rw [sK_snoc, if_neg (fun q => (s3 z hz y (by simp)).2 (by rw [e, q])), z3]
          grind
        · rw [List.mem_singleton.mp hz]
          refine ⟨(hk _).mpr (.inr rfl), fplus_low y2.ne hx.ne, ?_⟩
          show rv (fplus y.2 x.2) = sK (ps ++ [x]) x.1
          rw [rv_fplus y2.ne hx.ne, sK_snoc, if_pos rfl, y3, e]
      · rcases (hk k).mp hkm with h1 | rfl
        · obtain ⟨z, hz, e2⟩ := h.b k h1
          rcases List.mem_append.mp hz with hz | hz
          · exact ⟨z, List.mem_append_left _ hz, e2⟩
          · refine ⟨(x.1, fplus y.2 x.2), List.mem_append_right _ (by simp), ?_⟩
            rw [List.mem_singleton.mp hz] at e2
            show x.1 = k
            rw [← e, e2]
        · exact ⟨(x.1, fplus y.2 x.2), List.mem_append_right _ (by simp), rfl⟩
      · rw [List.mem_singleton.mp hb]
        have := s3 a ha y (by simp)
        rw [e] at this
        exact this
    · rw [if_neg e]
      refine hnew fun z => ?_
      obtain ⟨u, hu, e2⟩ := h.b _ z
      rcases List.mem_append.mp hu with hu | hu
      · have h1 := s3 u hu y (by simp)
        have h2 := hle' _ y1
        rw [e2] at h1
        exact e (O.anti _ _ h2 h1.1)
      · rw [List.mem_singleton.mp hu] at e2
        exact e e2
theorem stpG_fold {le : κ → κ → Bool} (O : KOrd le) : ∀ {xs ps acc : List (κ × Fr)}, Norm ps acc → Asc le acc → (∀ x ∈ xs, Low x.2) → (ps ++ xs).Pairwise (fun a b => le a.1 b.1 = true) → Norm (ps ++ xs) (xs.foldl stpG acc) ∧ Asc le (xs.foldl stpG acc)
  | [], ps, acc, h, s, _, _ => by rw [List.append_nil]; exact ⟨h, s⟩
  | x :: xs, ps, acc, h, s, hx, hp => by
    have hle : ∀ y ∈ ps, le y.1 x.1 = true := fun y hy => (List.pairwise_append.mp hp).2.2 y hy x (by simp)
    obtain ⟨h1, h2⟩ := stpG_step O h s (hx x (by simp)) hle
    rw [show ps ++ x :: xs = (ps ++ [x]) ++ xs by simp] at hp ⊢
    rw [List.foldl_cons]
    exact stpG_fold O h1 h2 (fun y hy => hx y (by simp [hy])) hp
/-- sums in a dict, sorted, are the sorted rows with equal neighbours added -/
theorem gath_both {le : κ → κ → Bool} (O : KOrd le) {xs : List (κ × Fr)} (hx : ∀ x ∈ xs, Low x.2) : (xs.mergeSort fun a b => le a.1 b.1).foldl stpG [] = (gsum xs).mergeSort fun a b => le a.1 b.1 := by
  have T : ∀ a b c : κ × Fr, le a.1 b.1 = true → le b.1 c.1 = true → le a.1 c.1 = true := fun a b c => O.trans a.1 b.1 c.1
  have U : ∀ a b : κ × Fr, (le a.1 b.1 || le b.1 a.1) = true := fun a b => Bool.or_eq_true_iff.mpr (O.total a.1 b.1)
  have p1 := List.mergeSort_perm xs fun a b : κ × Fr => le a.1 b.1
  have p2 := List.mergeSort_perm (gsum xs) fun a b : κ × Fr => le a.1 b.1
  have q1 := List.pairwise_mergeSort (le := fun a b : κ × Fr => le a.1 b.1) T U xs
  have q2 := List.pairwise_mergeSort (le := fun a b : κ × Fr => le a.1 b.1) T U (gsum xs)
  obtain ⟨n1, s1⟩ := stpG_fold O (xs := xs.mergeSort fun a b => le a.1 b.1) (ps := []) (acc := []) norm_nil .nil (fun x h => hx x (p1.mem_iff.mp h)) (by rw [List.nil_append]; exact q1)
  rw [List.nil_append] at n1
  have n2 := (norm_gsum fun x h => (hx x h).ne).permR p2.symm
  refine norm_eq O (n1.perm p1) n2 s1 ?_
  have hn : (gsum xs).Pairwise fun a b => a.1 ≠ b.1 := List.pairwise_map.mp (gsum_nodup (xs := xs) (acc := []) (by simp))
  have hn2 : ((gsum xs).mergeSort fun a b : κ × Fr => le a.1 b.1).Pairwise fun a b => a.1 ≠ b.1 := (p2.pairwise_iff (fun {a b} h => h.symm)).mpr hn
  exact List.Pairwise.and q2 hn2
end gath3

section gathu4
open GT GU
def leK (a b : List Key) : Bool := PySem.W.dataLe false keyD a b
def leK0 (a b : Key) : Bool := PySem.W.dataLe false kD a b
theorem toks_inj : ∀ {a b : List Key}, PySem.W.keyToksAll (a.map kD) = PySem.W.keyToksAll (b.map kD) → a = b
  | [], [], _ => rfl
  | [], x :: b, h => by simp [PySem.W.keyToksAll] at h
  | x :: a, [], h => by simp [PySem.W.keyToksAll] at h
  | x :: a, y :: b, h => by
    have hx : ∀ (z : Key) (r : List Key), PySem.W.keyToksAll ((z :: r).map kD) = .inl 1 :: (match z with | .inl i => Sum.inl i | .inr s => Sum.inr s.cps.toList) :: PySem.W.keyToksAll (r.map kD) := fun z r => by
      cases z <;> simp [PySem.W.keyToksAll, PySem.W.keyToks, kD]
    rw [hx, hx] at h
    have h1 := (List.cons.inj (List.cons.inj h).2).1
    have h2 := toks_inj (List.cons.inj (List.cons.inj h).2).2
    have e : x = y := by
      cases x with
      | inl i => cases y with
        | inl j => rw [Sum.inl.inj h1]
        | inr s => cases h1
      | inr s => cases y with
        | inl j => cases h1
        | inr t =>
          have h3 : s.cps.toList = t.cps.toList := Sum.inr.inj h1
          have h4 : s.cps = t.cps := Array.toList_inj.mp h3
          have h5 : s = t := by
            obtain ⟨c⟩ := s
            obtain ⟨d⟩ := t
            cases h4
            rfl
          rw [h5]
    rw [e, h2]
theorem leK_ord : KOrd leK := by
  have T := PySem.W.sortLe_total (PyProof.Rows.listOrd PyProof.Rows.itemOrd) false fun k : List Key => PySem.W.keyToks (keyD k)
  refine ⟨T.trans, T.total, fun a b h1 h2 => ?_⟩
  have e1 : (!PyProof.Rows.lexLt PyProof.Rows.itemOrd (PySem.W.keyToks (keyD b)) (PySem.W.keyToks (keyD a))) = true := h1
  have e2 : (!PyProof.Rows.lexLt PyProof.Rows.itemOrd (PySem.W.keyToks (keyD a)) (PySem.W.keyToks (keyD b))) = true := h2
  rw [Bool.not_eq_true'] at e1 e2
  have e3 := PyProof.Rows.lex_total (O := PyProof.Rows.itemOrd) _ _ e2 e1
  unfold keyD at e3
  simp only [PySem.W.keyToks] at e3
  exact toks_inj e3
theorem eqv_kD (a b : Key) : PyData.eqv (kD a) (kD b) = decide (a = b) := by
  cases a with
  | inl i => cases b with
    | inl j =>
      simp [kD, PyData.eqv]
      rfl
    | inr t => simp [kD, PyData.eqv]
  | inr s => cases b with
    | inl j => simp [kD, PyData.eqv]
    | inr t =>
      simp [kD, PyData.eqv]
      rfl
theorem eqvAll_keys : ∀ a b : List Key, PyData.eqvAll (a.map kD) (b.map kD) = decide (a = b)
  | [], [] => by simp [PyData.eqvAll]
  | [], y :: b => by simp [PyData.eqvAll]
  | x :: a, [] => by simp [PyData.eqvAll]
  | x :: a, y :: b => by
    rw [List.map_cons, List.map_cons, PyData.eqvAll, eqv_kD, eqvAll_keys a b]
    by_cases h1 : x = y
    · by_cases h2 : a = b
      · simp [h1, h2]
      · simp [h1, h2]
    · simp [h1]
theorem eqv_keys (a b : List Key) : PyData.eqv (keyD a) (keyD b) = decide (a = b) := by
  unfold keyD
  rw [PyData.eqv]
  exact eqvAll_keys a b
theorem kD_inj : ∀ {a b : Key}, PySem.W.keyToks (kD a) = PySem.W.keyToks (kD b) → a = b
  | .inl i, .inl j, h => by
    simp only [kD, PySem.W.keyToks, List.cons.injEq, and_true] at h
    rw [Sum.inl.inj h]
  | .inl i, .inr t, h => by
    simp only [kD, PySem.W.keyToks, List.cons.injEq, and_true] at h
    cases h
  | .inr s, .inl j, h => by
    simp only [kD, PySem.W.keyToks, List.cons.injEq, and_true] at h
    cases h
  | .inr s, .inr t, h => by
    simp only [kD, PySem.W.keyToks, List.cons.injEq, and_true] at h
    rw [PySem.W.str_of_cps (Sum.inr.inj h)]
theorem leK0_ord : KOrd leK0 := by
  have T := PySem.W.sortLe_total (PyProof.Rows.listOrd PyProof.Rows.itemOrd) false fun k : Key => PySem.W.keyToks (kD k)
  refine ⟨T.trans, T.total, fun a b h1 h2 => ?_⟩
  have e1 : (!PyProof.Rows.lexLt PyProof.Rows.itemOrd (PySem.W.keyToks (kD b)) (PySem.W.keyToks (kD a))) = true := h1
  have e2 : (!PyProof.Rows.lexLt PyProof.Rows.itemOrd (PySem.W.keyToks (kD a)) (PySem.W.keyToks (kD b))) = true := h2
  rw [Bool.not_eq_true'] at e1 e2
  exact kD_inj (PyProof.Rows.lex_total (O := PyProof.Rows.itemOrd) _ _ e2 e1)
/-- ints and texts before tuples -/
def leO : OK → OK → Bool
  | .inl a, .inl b => leK0 a b
  | .inr a, .inr b => leK a b
  | .inl _, .inr _ => true
  | .inr _, .inl _ => false
theorem leO_ord : KOrd leO := by
  refine ⟨fun a b c h1 h2 => ?_, fun a b => ?_, fun a b h1 h2 => ?_⟩
  · cases a with
    | inl a => cases b with
      | inl b => cases c with
        | inl c => exact leK0_ord.trans a b c h1 h2
        | inr c => rfl
      | inr b => cases c with
        | inl c => cases h2
        | inr c => rfl
    | inr a => cases b with
      | inl b => cases h1
      | inr b => cases c with
        | inl c => cases h2
        | inr c => exact leK_ord.trans a b c h1 h2
  · cases a with
    | inl a => cases b with
      | inl b => exact leK0_ord.total a b
      | inr b => exact .inl rfl
    | inr a => cases b with
      | inl b => exact .inr rfl
      | inr b => exact leK_ord.total a b
  · cases a with
    | inl a => cases b with
      | inl b => rw [leK0_ord.anti a b h1 h2]
      | inr b => cases h2
    | inr a => cases b with
      | inl b => cases h1
      | inr b => rw [leK_ord.anti a b h1 h2]
theorem kind_K : ∀ {xs : List KF}, (∀ x ∈ xs, fm x.1 = false) → ∃ ys : List (Key × Fr), xs = ys.map fun y => (.inl y.1, y.2)
  | [], _ => ⟨[], rfl⟩
  | x :: xs, h => by
    obtain ⟨ys, e⟩ := kind_K (xs := xs) fun y hy => h y (by simp [hy])
    obtain ⟨k, f⟩ := x
    cases k with
    | inl k => exact ⟨(k, f) :: ys, by rw [e]; rfl⟩
    | inr k => exact absurd (h (.inr k, f) (by simp)) (by simp [fm])
theorem kind_T : ∀ {xs : List KF}, (∀ x ∈ xs, fm x.1 = true) → ∃ ys : List (List Key × Fr), xs = ys.map fun y => (.inr y.1, y.2)
  | [], _ => ⟨[], rfl⟩
  | x :: xs, h => by
    obtain ⟨ys, e⟩ := kind_T (xs := xs) fun y hy => h y (by simp [hy])
    obtain ⟨k, f⟩ := x
    cases k with
    | inl k => exact absurd (h (.inl k, f) (by simp)) (by simp [fm])
    | inr k => exact ⟨(k, f) :: ys, by rw [e]; rfl⟩
/-- for keys of one kind the order by data -/
theorem sort_kind {fk : Bool} {xs : List KF} (h : ∀ x ∈ xs, fm x.1 = fk) : xs.mergeSort (PySem.W.dataLe false fun x => okD x.1) = xs.mergeSort fun a b => leO a.1 b.1 := by
  cases fk with
  | false =>
    obtain ⟨ys, rfl⟩ := kind_K h
    rw [← List.map_mergeSort (r := fun a b : Key × Fr => leK0 a.1 b.1) (s := fun a b : KF => leO a.1 b.1) (f := fun y : Key × Fr => ((.inl y.1, y.2) : KF)) (fun _ _ _ _ => rfl),
      ← List.map_mergeSort (r := fun a b : Key × Fr => leK0 a.1 b.1) (s := PySem.W.dataLe false fun x : KF => okD x.1) (f := fun y : Key × Fr => ((.inl y.1, y.2) : KF)) (fun _ _ _ _ => rfl)]
  | true =>
    obtain ⟨ys, rfl⟩ := kind_T h
    rw [← List.map_mergeSort (r := fun a b : List Key × Fr => leK a.1 b.1) (s := fun a b : KF => leO a.1 b.1) (f := fun y : List Key × Fr => ((.inr y.1, y.2) : KF)) (fun _ _ _ _ => rfl),
      ← List.map_mergeSort (r := fun a b : List Key × Fr => leK a.1 b.1) (s := PySem.W.dataLe false fun x : KF => okD x.1) (f := fun y : List Key × Fr => ((.inr y.1, y.2) : KF)) (fun _ _ _ _ => rfl)]
theorem eqv_ok {a b : OK} : PyData.eqv (okD a) (okD b) = decide (a = b) := by
  cases a with
  | inl a => cases b with
    | inl b =>
      refine (eqv_kD a b).trans ?_
      by_cases h : a = b
      · rw [h]; simp
      · rw [decide_eq_false h, decide_eq_false fun z => h (Sum.inl.inj z)]
    | inr b => cases a <;> simp [okD, kD, keyD, PyData.eqv]
  | inr a => cases b with
    | inl b => cases b <;> simp [okD, kD, keyD, PyData.eqv]
    | inr b =>
      refine (eqv_keys a b).trans ?_
      by_cases h : a = b
      · rw [h]; simp
      · rw [decide_eq_false h, decide_eq_false fun z => h (Sum.inr.inj z)]
/-- a row as data -/
def emb (x : KF) : PyData × Fr := (okD x.1, x.2)
theorem stp_emb (acc : List KF) (x : KF) : stp (acc.map emb) (emb x) = (stpG acc x).map emb := by
  rcases List.eq_nil_or_concat acc with rfl | ⟨o, y, hoy⟩
  · rfl
  · rw [List.concat_eq_append] at hoy
    subst hoy
    rw [stpG_last, List.map_append, List.map_cons, List.map_nil, stp_last]
    by_cases h : y.1 = x.1
    · rw [if_pos h, if_pos (show PyData.eqv (emb y).1 (emb x).1 = true from (eqv_ok (a := y.1) (b := x.1)).trans (decide_eq_true h)), List.map_append]
      rfl
    · rw [if_neg h, if_neg (show ¬ PyData.eqv (emb y).1 (emb x).1 = true from fun z => h (of_decide_eq_true ((eqv_ok (a := y.1) (b := x.1)).symm.trans z))), List.map_append, List.map_append]
      rfl
theorem fold_emb : ∀ (xs acc : List KF), (xs.map emb).foldl stp (acc.map emb) = (xs.foldl stpG acc).map emb
  | [], _ => rfl
  | x :: xs, acc => by rw [List.map_cons, List.foldl_cons, List.foldl_cons, stp_emb, fold_emb xs]
theorem srtd_emb {rs : List LRow} {xs : List KF} (h : rs.map LRow.dat = xs.map emb) : (srtd rs).map LRow.dat = (xs.mergeSort (PySem.W.dataLe false fun x => okD x.1)).map emb := by
  unfold srtd
  rw [List.map_mergeSort (r := PySem.W.dataLe false LRow.d) (s := PySem.W.dataLe false Prod.fst) (f := LRow.dat) (fun _ _ _ _ => rfl), h]
  rw [← List.map_mergeSort (r := PySem.W.dataLe false fun x : KF => okD x.1) (s := PySem.W.dataLe false Prod.fst) (f := emb) (fun _ _ _ _ => rfl)]
/-- law_from, by a dict -/
theorem law_gath {fk : Bool} {rs : List LRow} {xs : List KF} (h : rs.map LRow.dat = xs.map emb) (hx : ∀ x ∈ xs, Low x.2) (hk : ∀ x ∈ xs, fm x.1 = fk) (hg : ∀ x ∈ gsum xs, fm x.1 = fk) : lawOf rs = (gathOf xs).map emb := by
  unfold lawOf
  rw [srtd_emb h, sort_kind hk]
  have e := fold_emb (xs.mergeSort fun a b => leO a.1 b.1) []
  rw [List.map_nil] at e
  rw [e, gath_both leO_ord hx]
  unfold gathOf
  rw [sort_kind hg, List.filter_map]
  rfl
theorem gput_mem {acc : List KF} {k : OK} {g : Fr} {x : KF} (h : x ∈ gput acc k g) : x.1 = k ∨ x ∈ acc := by
  unfold gput at h
  split at h
  · obtain ⟨y, hy, e⟩ := List.mem_map.mp h
    by_cases hk : y.1 = k
    · rw [if_pos hk] at e
      rw [← e]
      exact .inl hk
    · rw [if_neg hk] at e
      rw [← e]
      exact .inr hy
  · rcases List.mem_append.mp h with h | h
    · exact .inr h
    · rw [List.mem_singleton.mp h]
      exact .inl rfl
theorem gsum_keys : ∀ {xs acc : List KF} {x : KF}, x ∈ xs.foldl gstp acc → x.1 ∈ xs.map Prod.fst ∨ x ∈ acc
  | [], _, _, h => .inr h
  | y :: xs, acc, x, h => by
    rcases gsum_keys (xs := xs) (acc := gstp acc y) h with h | h
    · exact .inl (by rw [List.map_cons]; exact List.mem_cons_of_mem _ h)
    · rcases gput_mem h with h | h
      · exact .inl (by rw [List.map_cons, h]; exact List.mem_cons_self)
      · exact .inr h
/-- the keys that are gathered, are those of the rows -/
theorem gsum_key {xs : List KF} {x : KF} (h : x ∈ gsum xs) : ∃ y ∈ xs, y.1 = x.1 := by
  rcases gsum_keys (acc := []) h with h | h
  · obtain ⟨y, hy, e⟩ := List.mem_map.mp h
    exact ⟨y, hy, e⟩
  · cases h
end gathu4

section treeb10
variable {K : PySem.W.Frag}
open GT GU LamK
def Zr : Nat → Tr → Prop
  | _, .e _ => True
  | d + 1, .n ws cs => ∀ i c, cs[i]? = some c → (0 < ws.getD i 0 → Zr d c) ∧ (¬ 0 < ws.getD i 0 → c = .z)
  | _, _ => False
theorem Zr.e_ok {d : Nat} {k : OK} : Zr d (.e k) := by cases d <;> exact True.intro
def spTree (K : PySem.W.Frag) (n : Nat) : Sp := fun vs H Q _ => ∃ (a p : Addr) (d fo : Nat) (M : List Addr), d < n ∧ vs = [.ref a, .int (d : Int), .int (fo : Int)] ∧ DeckOk H a p ∧ fo ≤ 2 ∧ a ∈ M ∧ (∀ x ∈ M, ∃ o, H x = some o) ∧ ∀ H' v t, Kp [a] H H' → DeckOk H' a p → TrAt K M H' d v t → TrOk fo d t → Zr d t → Q v H'
def sAt (s : Str) (i : Nat) : Str := ⟨#[s.cps.toList.getD i 0]⟩
theorem sAt_ix {s : Str} {i : Nat} (h : i < s.cps.toList.length) : atI s.cps.toList (i : Int) = some (s.cps.toList.getD i 0) := by
  rw [atI_nat (List.getElem?_eq_getElem h), List.getD_eq_getElem?_getD, List.getElem?_eq_getElem h]
  rfl
theorem abcd_ok : ∀ i : Fin 4, PyData.strOk (sAt "abcd" i.val) = true := by decide +kernel
theorem xy_ok : ∀ i : Fin 2, PyData.strOk (sAt "xy" i.val) = true := by decide +kernel
theorem tree_rec {P : Program} {w : World} {K : PySem.W.Frag} {mg : Str → Option Value} {base : Heap} (T : T P K mg base) : ∀ n, FnOk P w K mg base CX0 (n + 6) T.a__law_tree T.fd__law_tree ["deck", "depth", "form"] (spTree K n)
  | 0 => ⟨fun _ _ _ _ h => by obtain ⟨_, _, _, _, _, h, _⟩ := h; omega, fun _ _ _ _ _ _ _ _ _ _ _ _ _ h => by obtain ⟨_, _, _, _, _, h, _⟩ := h; omega⟩
  | n + 1 => by
    have ih := tree_rec (w := w) (base := base) T n
    show FnOk P w K mg base CX0 (n + 6 + 1) _ _ _ _
    refine T.F__law_tree.ok sc__law_tree (fun vs H Q E h => ?_) (fun cdv A outer s H vs Q E hr h => ?_)
    · obtain ⟨a, p, d, fo, M, _, rfl, _⟩ := h
      rfl
    · obtain ⟨a, p, d, fo, M, hdn, rfl, hd, hfo, haM0, hM, q⟩ := h
      obtain ⟨xsa, hxa⟩ : ∃ xs, H a = some (.lst xs) := let ⟨_, _, _, _, h, _⟩ := hd; ⟨_, h⟩
      have hMk : ∀ {H' : Hp}, Kp [a] H H' → DeckOk H' a p → ∀ x ∈ M, ∃ o, H' x = some o := fun {H'} k d' x hx => by
        by_cases e : x = a
        · obtain ⟨_, _, _, _, h, _⟩ := d'
          exact ⟨_, e ▸ h⟩
        · obtain ⟨o, ho⟩ := hM x hx
          exact ⟨o, k.get (nin1 e) ho⟩
      have hMn : ∀ {H' : Hp} {t : Addr}, Kp [a] H H' → DeckOk H' a p → H' t = none → t ∉ M := fun k d' nt z => by
        obtain ⟨o, ho⟩ := hMk k d' _ z
        rw [nt] at ho
        cases ho
      refine ⟨_, (pss_cons (ps_if (PW.pt (pw_or (pt_cmpR op_eq (pv 1) pe_int (nomark _)) (pw_or1 (pt_cmpR op_eq (pe_call (ok__law_draw T) (hr.mono (by omega)) (by rfl) T.g__law_draw T.F__law_draw.kp T.b__law_draw .nil pass0 (pa_cons (pv 0) (pa_cons pe_int pa_nil))) pe_int (nomark _))))) (pss_cons (ps_set (i := 3) sc__law_tree.nd rfl (by first | exact Or.inl rfl | exact Or.inr rfl) (pe_call (ok__law_draw T) (hr.mono (by omega)) (by rfl) T.g__law_draw T.F__law_draw.kp T.b__law_draw .nil pass0 (pa_cons (pv 0) (pa_cons pe_int pa_nil))))
      (Z.pss_consJ (ps_if (pt_cmpR op_eq (pv 2) pe_int (nomark _)) (pss_one (ps_set (i := 3) sc__law_tree.nd rfl (by first | exact Or.inl rfl | exact Or.inr rfl) (pe_ix ix_str pe_str (pv 3) (fun _ _ => rfl)))) pss_nil)
      (Z.pss_consJ (ps_if (pt_cmpR op_eq (pv 2) pe_int (nomark _)) (pss_one (ps_set (i := 3) sc__law_tree.nd rfl (by first | exact Or.inl rfl | exact Or.inr rfl) (pe_tup (pa_cons (pv 3) (pa_cons (pe_ix ix_str pe_str (pe_call (ok__law_draw T) (hr.mono (by omega)) (by rfl) T.g__law_draw T.F__law_draw.kp T.b__law_draw .nil pass0 (pa_cons (pv 0) (pa_cons pe_int pa_nil))) (fun _ _ => rfl)) pa_nil))))) pss_nil)
      (pss_one (ps_ret (pe_lst (pa_cons pe_str (pa_cons (pv 3) pa_nil)))))))) pss_nil)
      (pss_cons (ps_set (i := 4) sc__law_tree.nd rfl (by first | exact Or.inl rfl | exact Or.inr rfl) (pe_call (ok__law_weights T) (hr.mono (by omega)) (by rfl) T.g__law_weights T.F__law_weights.kp T.b__law_weights .nil pass0 (pa_cons (pv 0) (pa_cons pe_int pa_nil))))
      (pss_cons (ps_set (i := 5) sc__law_tree.nd rfl (by first | exact Or.inl rfl | exact Or.inr rfl) (pe_lst pa_nil))
      (pss_cons (ps_for PassesOwn.never rfl (pi_list (pv 4)) (pg_name (i := 6) sc__law_tree.nd rfl (by first | exact Or.inl rfl | exact Or.inr rfl)) (pss_cons (ps_set (i := 7) sc__law_tree.nd rfl (by first | exact Or.inl rfl | exact Or.inr rfl) pe_non)
      (Z.pss_consJ (ps_if (pt_cmpR op_gt (pv 6) pe_int (nomark _)) (pss_one (ps_set (i := 7) sc__law_tree.nd rfl (by first | exact Or.inl rfl | exact Or.inr rfl) (pe_call ih (hr.mono (by omega)) (by rfl) T.g__law_tree T.F__law_tree.kp T.b__law_tree .nil pass0 (pa_cons (pv 0) (pa_cons (pe_op op_sub (pv 1) pe_int) (pa_cons (pv 2) pa_nil)))))) pss_nil)
      (pss_one (ps_expr (pe_bm PySem.F.plainAttrs_list PySem.F.slot_list_append PySem.F.type_list_append mt_append (pv 5) (pa_cons (pv 7) pa_nil)))))))
      (pss_one (ps_ret (pe_lst (pa_cons pe_str (pa_cons (pv 4) (pa_cons (pv 5) pa_nil)))))))))), ?_⟩
      walk_at "z0"
      walk_at "z"
      by_cases hd0 : d = 0
      · refine Z.yes (by omega) ?_
        walk_at "z"
        refine ⟨a, p, 4, rfl, hd, by decide, by decide, fun H1 v h0 h1 k1 d1 => ?_⟩
        have k01 := (Kp.refl H : Kp [a] H H).trans k1
        obtain ⟨j, rfl⟩ : ∃ j : Nat, v = (j : Int) := ⟨v.toNat, by omega⟩
        walk_at "z"
        refine Z.seqJ (fun σ' H' => ∃ (o : V), σ' = [some (.ref a), some (.int (d : Int)), some (.int (fo : Int)), some o, none, none, none, none] ∧ H' = H1 ∧ ((fo = 1 ∧ o = .str (sAt "abcd" j)) ∨ (fo ≠ 1 ∧ o = .int (j : Int)))) ?_ ?_
        · rintro σ' H' ⟨o, rfl, rfl, ho⟩
          walk_at "z"
          refine Z.seqJ (fun σ' H2 => ∃ (o : V) (k : OK), σ' = [some (.ref a), some (.int (d : Int)), some (.int (fo : Int)), some o, none, none, none, none] ∧ Kp [a] H H2 ∧ DeckOk H2 a p ∧ OkAt H2 k o ∧ kfm k = fo ∧ StrsOk k) ?_ ?_
          · rintro σ' H2 ⟨o, k, rfl, k2, d2, hk, hkf, hks⟩
            walk_at "z"
            refine Z.lstK (fun t H3 nt k3 e3 => ?_)
            exact q H3 (.ref t) (.e k) (k2.trans (k3.sub (by simp))) (d2.kp0 k3) (TrAt.e_iff.mpr ⟨t, o, rfl, e3, hk.kp0 k3, hMn k2 d2 nt⟩) (TrOk.e_iff.mpr ⟨hkf, hks⟩) Zr.e_ok
          · intro N2 jn2
            walk_at "z"
            refine Z.ite (fun h2 => ?_) (fun h2 => ?_)
            · have hf2 : fo = 2 := by omega
              rcases ho with ⟨hf1, _⟩ | ⟨_, rfl⟩
              · omega
              walk_at "z"
              refine ⟨a, p, 2, rfl, d1, by decide, by decide, fun H2 v2 h20 h21 k2 d2 => ?_⟩
              obtain ⟨j2, rfl⟩ : ∃ j : Nat, v2 = (j : Int) := ⟨v2.toNat, by omega⟩
              walk_at "z"
              refine ⟨_, _, _, rfl, rfl, (show ("xy" : Str).length ≤ sizeLine by decide +kernel), sAt_ix (by have : ("xy" : Str).cps.toList.length = 2 := (by decide +kernel); omega), ?_⟩
              walk_at "z"
              refine Z.tupK (fun t H3 nt k3 e3 => ?_)
              walk_at "z"
              refine jn2 _ _ ⟨_, .inr [.inl (j : Int), .inr (sAt "xy" j2)], rfl, (k01.trans k2).trans (k3.sub (by simp)), d2.kp0 k3, ⟨t, rfl, e3⟩, hf2.symm, fun s hs => ?_⟩
              have hs' : s = sAt "xy" j2 := by simpa using hs
              rw [hs']
              exact xy_ok ⟨j2, by omega⟩
            · have hf2 : fo ≠ 2 := by omega
              walk_at "z"
              rcases ho with ⟨hf1, rfl⟩ | ⟨hf1, rfl⟩
              · exact jn2 _ _ ⟨_, .inl (.inr (sAt "abcd" j)), rfl, k01, d1, rfl, hf1.symm, abcd_ok ⟨j, by omega⟩⟩
              · exact jn2 _ _ ⟨_, .inl (.inl (j : Int)), rfl, k01, d1, rfl, by show 0 = fo; omega, trivial⟩
        · intro N2 jn2
          walk_at "z"
          refine Z.ite (fun h2 => ?_) (fun h2 => ?_)
          · walk_at "z"
            refine ⟨_, _, _, rfl, rfl, (show ("abcd" : Str).length ≤ sizeLine by decide +kernel), sAt_ix (by have : ("abcd" : Str).cps.toList.length = 4 := (by decide +kernel); omega), ?_⟩
            walk_at "z"
            exact jn2 _ _ ⟨_, rfl, rfl, .inl ⟨by omega, rfl⟩⟩
          · walk_at "z"
            exact jn2 _ _ ⟨_, rfl, rfl, .inr ⟨by omega, rfl⟩⟩
      obtain ⟨d', rfl⟩ : ∃ d', d = d' + 1 := ⟨d - 1, by omega⟩
      refine Z.no (by omega) ?_
      walk_at "z"
      refine ⟨a, p, 5, rfl, hd, by decide, by decide, fun H0 v0 h00 h01 k0 d0 => ?_⟩
      walk_at "z"
      refine Z.ite (fun hv0 => ?_) (fun hv0 => ?_)
      · skip
        walk_at "z"
        refine ⟨a, p, 4, rfl, d0, by decide, by decide, fun H1 v h0 h1 k1 d1 => ?_⟩
        have k01 := k0.trans k1
        obtain ⟨j, rfl⟩ : ∃ j : Nat, v = (j : Int) := ⟨v.toNat, by omega⟩
        walk_at "z"
        refine Z.seqJ (fun σ' H' => ∃ (o : V), σ' = [some (.ref a), some (.int ((d' + 1 : Nat) : Int)), some (.int (fo : Int)), some o, none, none, none, none] ∧ H' = H1 ∧ ((fo = 1 ∧ o = .str (sAt "abcd" j)) ∨ (fo ≠ 1 ∧ o = .int (j : Int)))) ?_ ?_
        · rintro σ' H' ⟨o, rfl, rfl, ho⟩
          walk_at "z"
          refine Z.seqJ (fun σ' H2 => ∃ (o : V) (k : OK), σ' = [some (.ref a), some (.int ((d' + 1 : Nat) : Int)), some (.int (fo : Int)), some o, none, none, none, none] ∧ Kp [a] H H2 ∧ DeckOk H2 a p ∧ OkAt H2 k o ∧ kfm k = fo ∧ StrsOk k) ?_ ?_
          · rintro σ' H2 ⟨o, k, rfl, k2, d2, hk, hkf, hks⟩
            walk_at "z"
            refine Z.lstK (fun t H3 nt k3 e3 => ?_)
            exact q H3 (.ref t) (.e k) (k2.trans (k3.sub (by simp))) (d2.kp0 k3) (TrAt.e_iff.mpr ⟨t, o, rfl, e3, hk.kp0 k3, hMn k2 d2 nt⟩) (TrOk.e_iff.mpr ⟨hkf, hks⟩) Zr.e_ok
          · intro N2 jn2
            walk_at "z"
            refine Z.ite (fun h2 => ?_) (fun h2 => ?_)
            · have hf2 : fo = 2 := by omega
              rcases ho with ⟨hf1, _⟩ | ⟨_, rfl⟩
              · omega
              walk_at "z"
              refine ⟨a, p, 2, rfl, d1, by decide, by decide, fun H2 v2 h20 h21 k2 d2 => ?_⟩
              obtain ⟨j2, rfl⟩ : ∃ j : Nat, v2 = (j : Int) := ⟨v2.toNat, by omega⟩
              walk_at "z"
              refine ⟨_, _, _, rfl, rfl, (show ("xy" : Str).length ≤ sizeLine by decide +kernel), sAt_ix (by have : ("xy" : Str).cps.toList.length = 2 := (by decide +kernel); omega), ?_⟩
              walk_at "z"
              refine Z.tupK (fun t H3 nt k3 e3 => ?_)
              walk_at "z"
              refine jn2 _ _ ⟨_, .inr [.inl (j : Int), .inr (sAt "xy" j2)], rfl, (k01.trans k2).trans (k3.sub (by simp)), d2.kp0 k3, ⟨t, rfl, e3⟩, hf2.symm, fun s hs => ?_⟩
              have hs' : s = sAt "xy" j2 := by simpa using hs
              rw [hs']
              exact xy_ok ⟨j2, by omega⟩
            · have hf2 : fo ≠ 2 := by omega
              walk_at "z"
              rcases ho with ⟨hf1, rfl⟩ | ⟨hf1, rfl⟩
              · exact jn2 _ _ ⟨_, .inl (.inr (sAt "abcd" j)), rfl, k01, d1, rfl, hf1.symm, abcd_ok ⟨j, by omega⟩⟩
              · exact jn2 _ _ ⟨_, .inl (.inl (j : Int)), rfl, k01, d1, rfl, by show 0 = fo; omega, trivial⟩
        · intro N2 jn2
          walk_at "z"
          refine Z.ite (fun h2 => ?_) (fun h2 => ?_)
          · walk_at "z"
            refine ⟨_, _, _, rfl, rfl, (show ("abcd" : Str).length ≤ sizeLine by decide +kernel), sAt_ix (by have : ("abcd" : Str).cps.toList.length = 4 := (by decide +kernel); omega), ?_⟩
            walk_at "z"
            exact jn2 _ _ ⟨_, rfl, rfl, .inl ⟨by omega, rfl⟩⟩
          · walk_at "z"
            exact jn2 _ _ ⟨_, rfl, rfl, .inr ⟨by omega, rfl⟩⟩
      · walk_at "z"
        refine ⟨a, p, rfl, d0, fun H1 w ws nw k1 d1 ew hS => ?_⟩
        walk_at "z"
        refine Z.lstK (fun C H2 nC k2 e2 => ?_)
        have k02 := (k0.trans k1).trans (k2.sub (by simp) : Kp [a] H1 H2)
        have d2 := d1.kp0 k2
        have nwM : w ∉ M := hMn k0 d0 nw
        have nCM : C ∉ M := hMn (k0.trans k1) d1 nC
        have naC : a ≠ C := (d1.ne nC).1
        have nwa : w ≠ a := (d0.ne nw).1.symm
        have nwC : w ≠ C := ne_of_none ew nC
        have nCH : H C = none := (k0.trans k1).none (nin1 naC.symm) nC
        walk_at "z"
        refine Z.forl (ws.map V.int) (lstL (k2.get nin0 ew)) (fun i σ' H' => ∃ (y6 y7 : Option V) (vs : List V) (cs : List Tr), σ' = [some (.ref a), some (.int ((d' + 1 : Nat) : Int)), some (.int (fo : Int)), none, some (.ref w), some (.ref C), y6, y7] ∧ Kp [a] H H' ∧ DeckOk H' a p ∧ H' w = some (.lst (ws.map V.int)) ∧ H' C = some (.lst vs) ∧ vs.length = i ∧ cs.length = i ∧ (∀ (j : Nat) (v' : V) (c' : Tr), vs[j]? = some v' → cs[j]? = some c' → TrAt K (C :: M) H' d' v' c') ∧ (∀ (j : Nat) (c' : Tr), cs[j]? = some c' → 0 < ws.getD j 0 → TrOk fo d' c') ∧ ∀ (j : Nat) (c' : Tr), cs[j]? = some c' → (0 < ws.getD j 0 → Zr d' c') ∧ (¬ 0 < ws.getD j 0 → c' = .z)) ?_ ?_ ?_ ?_
        · exact ⟨_, _, [], [], rfl, k02, d2, k2.get nin0 ew, e2, rfl, rfl, (fun j v' c' h => by simp at h), (fun j c' h => by simp at h), fun j c' h => by simp at h⟩
        · rintro i σ' H' hi ⟨y6, y7, vs, cs, rfl, k3, d3, e3w, _⟩
          exact lstL e3w
        · rintro i v σ' H3 hv ⟨y6, y7, vs, cs, rfl, k3, d3, e3w, e3C, hvl, hcl, hTr, hOk, hZr⟩
          rw [List.getElem?_map] at hv
          obtain ⟨z, hz, rfl⟩ := Option.map_eq_some_iff.mp hv
          have hil : i < ws.length := (List.getElem?_eq_some_iff.mp hz).1
          have hl3 := hS.l3
          have hwi : ws.getD i 0 = z := by rw [List.getD_eq_getElem?_getD, hz]; rfl
          walk_at "z"
          refine Z.seqJ (fun σ' H' => ∃ (u : V) (c : Tr), σ' = [some (.ref a), some (.int ((d' + 1 : Nat) : Int)), some (.int (fo : Int)), none, some (.ref w), some (.ref C), some (.int z), some u] ∧ Kp [a] H3 H' ∧ DeckOk H' a p ∧ TrAt K (C :: M) H' d' u c ∧ (0 < z → TrOk fo d' c ∧ Zr d' c) ∧ (¬ 0 < z → c = .z)) ?_ ?_
          · rintro σ' H4 ⟨u, c, rfl, k4, d4, hu, hc, hcz⟩
            have e4C := k4.get (nin1 naC.symm) e3C
            obtain ⟨xs3, hx3⟩ : ∃ xs, H3 a = some (.lst xs) := let ⟨_, _, _, _, h, _⟩ := d3; ⟨_, h⟩
            walk_at "z"
            refine ⟨Z.tyL e4C, ?_⟩
            walk_at "z"
            refine Z.app e4C (Z.szl (m := 1000) (by omega)) ?_
            have k5 : Kp [C] H4 (upd H4 C (.lst (vs ++ [u]))) := Kp.put (by simp)
            have e5 : upd H4 C (.lst (vs ++ [u])) C = some (.lst (vs ++ [u])) := upd_same
            have d5 : DeckOk (upd H4 C (.lst (vs ++ [u]))) a p := d4.upd naC (d1.ne nC).2
            generalize upd H4 C (.lst (vs ++ [u])) = H5 at k5 e5 d5 ⊢
            walk_at "z"
            refine ⟨_, _, vs ++ [u], cs ++ [c], rfl, (k3.trans k4).then1 k5 nCH, d5, k5.get (nin1 nwC) (k4.get (nin1 nwa) e3w), e5, by rw [List.length_append, hvl]; rfl, by rw [List.length_append, hcl]; rfl, fun j v' c' hj hj2 => ?_, fun j c' hj hp => ?_, fun j c' hj => ?_⟩
            · by_cases hji : j < i
              · rw [List.getElem?_append_left (by omega)] at hj hj2
                have h6 := hTr j v' c' hj hj2
                have h7 : TrAt K (C :: M) H4 d' v' c' := h6.of (fun b xs nb e => k4.get (nin1 fun zz => by rw [zz] at nb e; exact nb (by simp [haM0])) e) (fun _ _ h => ok_kp1 h k4 hx3) fun _ _ n _ => n
                exact h7.kpx (by simp) k5 e4C
              · have : j = i := by
                  have := (List.getElem?_eq_some_iff.mp hj).1
                  rw [List.length_append] at this
                  simp at this
                  omega
                subst this
                rw [List.getElem?_append_right (by omega), hvl, Nat.sub_self] at hj
                rw [List.getElem?_append_right (by omega), hcl, Nat.sub_self] at hj2
                obtain rfl : u = v' := Option.some.inj hj
                obtain rfl : c = c' := Option.some.inj hj2
                exact hu.kpx (by simp) k5 e4C
            · by_cases hji : j < i
              · rw [List.getElem?_append_left (by omega)] at hj
                exact hOk j c' hj hp
              · have : j = i := by
                  have := (List.getElem?_eq_some_iff.mp hj).1
                  rw [List.length_append] at this
                  simp at this
                  omega
                subst this
                rw [List.getElem?_append_right (by omega), hcl, Nat.sub_self] at hj
                obtain rfl : c = c' := Option.some.inj hj
                exact (hc (by rw [← hwi]; exact hp)).1
            · by_cases hji : j < i
              · rw [List.getElem?_append_left (by omega)] at hj
                exact hZr j c' hj
              · have : j = i := by
                  have := (List.getElem?_eq_some_iff.mp hj).1
                  rw [List.length_append] at this
                  simp at this
                  omega
                subst this
                rw [List.getElem?_append_right (by omega), hcl, Nat.sub_self] at hj
                obtain rfl : c = c' := Option.some.inj hj
                rw [hwi]
                exact ⟨fun h => (hc h).2, hcz⟩
          · intro N jn
            walk_at "z"
            refine Z.ite (fun hz0 => ?_) (fun hz0 => ?_)
            · walk_at "z"
              rw [show ((d' + 1 : Nat) : Int) - 1 = (d' : Int) by omega]
              refine ⟨a, p, d', fo, C :: M, by omega, rfl, d3, hfo, by simp [haM0], ?_, fun H4 u c k4 d4 hu hc hcz => ?_⟩
              · intro x hx
                rcases List.mem_cons.mp hx with rfl | hx
                · exact ⟨_, e3C⟩
                · exact hMk k3 d3 x hx
              · walk_at "z"
                exact jn _ _ ⟨u, c, rfl, k4, d4, hu, fun _ => ⟨hc, hcz⟩, fun h => absurd hz0 h⟩
            · walk_at "z"
              exact jn _ _ ⟨.non, .z, rfl, Kp.refl _, d3, TrAt.z_iff.mpr rfl, fun h => absurd h hz0, fun _ => rfl⟩
        · rintro σ' H3 ⟨y6, y7, vs, cs, rfl, k3, d3, e3w, e3C, hvl, hcl, hTr, hOk, hZr⟩
          rw [List.length_map] at hvl hcl
          walk_at "z"
          refine Z.lstK (fun t H4 nt k4 e4 => ?_)
          refine q H4 (.ref t) (.n ws cs) (k3.trans (k4.sub (by simp))) (d3.kp0 k4) ⟨t, w, C, vs, rfl, e4, k4.get nin0 e3w, k4.get nin0 e3C, by omega, hMn k3 d3 nt, nwM, nCM, fun i v' c' hv hc => ((hTr i v' c' hv hc).less (by simp +contextual)).kp0 k4⟩ ⟨hS, hcl, hOk⟩ hZr
theorem ok__law_tree {P : Program} {w : World} {K : PySem.W.Frag} {mg : Str → Option Value} {base : Heap} (T : T P K mg base) : FnOk P w K mg base CX0 11 T.a__law_tree T.fd__law_tree ["deck", "depth", "form"] (spTree K 5) := tree_rec T 5
end treeb10

section runs10
variable {K : PySem.W.Frag}
open GT GU LamK
instance : Inhabited Tr := ⟨.z⟩
def runs : Nat → Tr → Fr → List (List Dt × OK)
  | _, .z, _ => []
  | _, .e k, _ => [([], k)]
  | 0, .n _ _, _ => []
  | d + 1, .n ws cs, c => (List.range ws.length).flatMap fun i => if 0 < ws.getD i 0 then (runs d (cs.getD i .z) (stepF ws i c)).map (fun r => ((ws, i, c) :: r.1, r.2)) else []
theorem runs_e {d : Nat} {k : OK} {c : Fr} : runs d (.e k) c = [([], k)] := by cases d <;> rfl
def chO (c : Fr) (p : List Dt) : Fr := match p.getLast? with
  | some x => stepF x.1 x.2.1 x.2.2
  | none => c
theorem chO_cons (c : Fr) (ws : List Int) (i : Nat) (c0 : Fr) (p : List Dt) : chO c ((ws, i, c0) :: p) = chO (stepF ws i c0) p := by
  unfold chO
  cases p with
  | nil => rfl
  | cons x r => rw [List.getLast?_cons_cons]; cases e : (x :: r).getLast? with
    | none => simp at e
    | some y => rfl
theorem chO_one (p : List Dt) : chO (1, 1) p = chD p := rfl
def blk (d : Nat) (ws : List Int) (cs : List Tr) (c : Fr) (i : Nat) : List (List Dt × OK) := if 0 < ws.getD i 0 then (runs d (cs.getD i .z) (stepF ws i c)).map (fun r => ((ws, i, c) :: r.1, r.2)) else []
theorem runs_n {d : Nat} {ws : List Int} {cs : List Tr} {c : Fr} : runs (d + 1) (.n ws cs) c = (List.range ws.length).flatMap (blk d ws cs c) := rfl
def fd : Nat → Tr → Fr → List Dt → List Dt × Option OK
  | _, .e k, _, [] => ([], some k)
  | d + 1, .n _ cs, _, x :: q => let r := fd d (cs.getD x.2.1 .z) (stepF x.1 x.2.1 x.2.2) q; (x :: r.1, r.2)
  | d + 1, .n ws cs, c, [] => match nextN ws 0 with
    | some i => let r := fd d (cs.getD i .z) (stepF ws i c) []; ((ws, i, c) :: r.1, r.2)
    | none => ([], none)
  | _, _, _, _ => ([], none)
/-- the runs follow one another -/
inductive Chn (d : Nat) (t : Tr) (c : Fr) : List (List Dt × OK) → Prop where
  | last {r : List Dt × OK} : folL r.1 = none → Chn d t c [r]
  | more {r r' : List Dt × OK} {l : List (List Dt × OK)} {q : List Dt} : folL r.1 = some q → fd d t c q = (r'.1, some r'.2) → Chn d t c (r' :: l) → Chn d t c (r :: r' :: l)
theorem getD_get {cs : List Tr} {i : Nat} (h : i < cs.length) : cs[i]? = some (cs.getD i .z) := by
  rw [List.getD_eq_getElem?_getD, List.getElem?_eq_getElem h]; rfl
theorem fd_e {d : Nat} {k : OK} {c : Fr} : fd d (.e k) c [] = ([], some k) := by cases d <;> rfl
theorem fd_e' {d : Nat} {k : OK} {c : Fr} {x : Dt} {q : List Dt} : fd d (.e k) c (x :: q) = ([], none) := by cases d <;> rfl
/-- a block, and behind it the blocks from i' on -/
theorem chn_app {d : Nat} {ws : List Int} {cs : List Tr} {c : Fr} {i : Nat} {rest : List (List Dt × OK)} : ∀ {R : List (List Dt × OK)}, Chn d (cs.getD i .z) (stepF ws i c) R →
    ((rest = [] ∧ nextN ws (i + 1) = none) ∨ ∃ r' l k, rest = r' :: l ∧ nextN ws (i + 1) = some k ∧ fd (d + 1) (.n ws cs) c [(ws, k, c)] = (r'.1, some r'.2) ∧ Chn (d + 1) (.n ws cs) c rest) →
    Chn (d + 1) (.n ws cs) c (R.map (fun r => ((ws, i, c) :: r.1, r.2)) ++ rest) := by
  intro R h hr
  induction h with
  | @last r h0 =>
    rcases hr with ⟨rfl, hn⟩ | ⟨r', l, k, rfl, hk, hf, hc⟩
    · refine .last ?_
      show folL ((ws, i, c) :: r.1) = none
      exact folL_none h0 hn
    · refine .more (q := [(ws, k, c)]) ?_ hf hc
      show folL ((ws, i, c) :: r.1) = _
      exact folL_app (pre := []) h0 hk
  | @more r r' l q h0 h1 h2 ih =>
    refine .more (q := (ws, i, c) :: q) ?_ ?_ ih
    · show folL ((ws, i, c) :: r.1) = _
      unfold folL
      rw [h0]
    · show (let r := fd d (cs.getD i .z) (stepF ws i c) q; ((ws, i, c) :: r.1, r.2)) = _
      rw [h1]
theorem Chn.head {d : Nat} {t : Tr} {c : Fr} {R : List (List Dt × OK)} (h : Chn d t c R) : ∃ r l, R = r :: l := by
  cases h with
  | last => exact ⟨_, _, rfl⟩
  | more => exact ⟨_, _, rfl⟩
theorem runs_chn {fo : Nat} : ∀ {d : Nat} {t : Tr} {c : Fr}, TrOk fo d t → Chn d t c (runs d t c) ∧ ∃ r l, runs d t c = r :: l ∧ fd d t c [] = (r.1, some r.2) := by
  intro d
  induction d with
  | zero =>
    intro t c h
    cases t with
    | z => exact h.elim
    | e k => exact ⟨.last rfl, _, _, rfl, rfl⟩
    | n ws cs => exact h.elim
  | succ d ih =>
    intro t c h
    cases t with
    | z => exact h.elim
    | e k => exact ⟨.last rfl, _, _, rfl, rfl⟩
    | n ws cs =>
      obtain ⟨hS, hl, hc⟩ := h
      have hch : ∀ i, i < ws.length → 0 < ws.getD i 0 → TrOk fo d (cs.getD i .z) := fun i hi hp => hc i _ (getD_get (by omega)) hp
      -- the blocks from s on
      have key : ∀ m s, s + m = ws.length → (nextN ws s = none ∧ (List.range' s m).flatMap (blk d ws cs c) = []) ∨ ∃ r' l k, (List.range' s m).flatMap (blk d ws cs c) = r' :: l ∧ nextN ws s = some k ∧ fd (d + 1) (.n ws cs) c [(ws, k, c)] = (r'.1, some r'.2) ∧ Chn (d + 1) (.n ws cs) c ((List.range' s m).flatMap (blk d ws cs c)) := by
        intro m
        induction m with
        | zero =>
          intro s hs
          left
          refine ⟨?_, by simp⟩
          unfold nextN
          rw [show ws.length - s = 0 by omega]
          rfl
        | succ m ihm =>
          intro s hs
          have hnx : nextN ws s = if 0 < ws.getD s 0 then some s else nextN ws (s + 1) := by
            unfold nextN
            rw [show ws.length - s = (ws.length - (s + 1)) + 1 by omega]
            rfl
          rw [List.range'_succ, List.flatMap_cons]
          have ih2 := ihm (s + 1) (by omega)
          by_cases hp : 0 < ws.getD s 0
          · right
            obtain ⟨h1, r, l, h2, h3⟩ := ih (c := stepF ws s c) (hch s (by omega) hp)
            have hb : blk d ws cs c s = (runs d (cs.getD s .z) (stepF ws s c)).map (fun r => ((ws, s, c) :: r.1, r.2)) := by unfold blk; rw [if_pos hp]
            rw [hnx, if_pos hp]
            refine ⟨((ws, s, c) :: r.1, r.2), l.map (fun r => ((ws, s, c) :: r.1, r.2)) ++ (List.range' (s + 1) m).flatMap (blk d ws cs c), s, ?_, rfl, ?_, ?_⟩
            · rw [hb, h2]
              rfl
            · show (let r := fd d (cs.getD s .z) (stepF ws s c) []; ((ws, s, c) :: r.1, r.2)) = _
              rw [h3]
            · rw [hb]
              refine chn_app h1 ?_
              rcases ih2 with ⟨e1, e2⟩ | ⟨r', l', k, e1, e2, e3, e4⟩
              · exact .inl ⟨e2, e1⟩
              · exact .inr ⟨r', l', k, e1, e2, e3, e4⟩
          · have hb : blk d ws cs c s = [] := by unfold blk; rw [if_neg hp]
            rw [hnx, if_neg hp, hb, List.nil_append]
            exact ih2
      have h0 := key ws.length 0 (by omega)
      rw [← List.range_eq_range', ← runs_n] at h0
      obtain ⟨k0, hk0⟩ := hS.ok.first
      rcases h0 with ⟨e1, _⟩ | ⟨r', l, k, e1, e2, e3, e4⟩
      · rw [hk0] at e1
        cases e1
      · refine ⟨e4, r', l, e1, ?_⟩
        rw [show fd (d + 1) (.n ws cs) c [] = fd (d + 1) (.n ws cs) c [(ws, k, c)] by
          show (match nextN ws 0 with
            | some i => let r := fd d (cs.getD i .z) (stepF ws i c) []; ((ws, i, c) :: r.1, r.2)
            | none => ([], none)) = _
          rw [e2]
          rfl]
        exact e3
end runs10

section runsb10
variable {K : PySem.W.Frag}
open GT GU LamK
theorem mem_blk {d : Nat} {ws : List Int} {cs : List Tr} {c : Fr} {i : Nat} {r : List Dt × OK} (h : r ∈ blk d ws cs c i) : 0 < ws.getD i 0 ∧ ∃ r' ∈ runs d (cs.getD i .z) (stepF ws i c), r = ((ws, i, c) :: r'.1, r'.2) := by
  unfold blk at h
  split at h
  · rename_i hp
    obtain ⟨r', hr, rfl⟩ := List.mem_map.mp h
    exact ⟨hp, r', hr, rfl⟩
  · cases h
theorem WS.sum9 {ws : List Int} (h : WS ws) : ws.sum ≤ 9 := by
  have : ∀ {l : List Int}, (∀ z ∈ l, 0 ≤ z ∧ z ≤ 3) → l.sum ≤ 3 * (l.length : Int) := fun {l} h => by
    induction l with
    | nil => simp
    | cons a r ih =>
      have h1 := h a (by simp)
      have h2 := ih fun z hz => h z (by simp [hz])
      rw [List.sum_cons, List.length_cons]
      omega
  have h1 := this h.each
  have := h.l3
  omega
theorem WS.at3 {ws : List Int} (h : WS ws) (k : Nat) : 0 ≤ ws.getD k 0 ∧ ws.getD k 0 ≤ 3 := by
  rw [List.getD_eq_getElem?_getD]
  cases e : ws[k]? with
  | none => exact ⟨by decide, by decide⟩
  | some z => exact h.each z (List.mem_of_getElem? e)
theorem WS.part {ws : List Int} (h : WS ws) (k : Nat) : Low (lo (ws.getD k 0) ws.sum) ∧ FrB 8 (lo (ws.getD k 0) ws.sum) ∧ rv (lo (ws.getD k 0) ws.sum) = (ws.getD k 0 : Rat) / (ws.sum : Rat) := by
  have h0 := h.pos
  have h9 := h.sum9
  have h3 := h.at3 k
  have hn : ws.sum ≠ 0 := by omega
  exact ⟨lo_low hn, lo_B hn (by omega) (by omega), rv_lo hn⟩
theorem WS.step {ws : List Int} (h : WS ws) {c : Fr} (hc : Low c) {m : Nat} (hB : FrB m c) (k : Nat) : Low (stepF ws k c) ∧ FrB (m + 8) (stepF ws k c) ∧ rv (stepF ws k c) = rv c * ((ws.getD k 0 : Rat) / (ws.sum : Rat)) := by
  obtain ⟨h1, h2, h3⟩ := h.part k
  refine ⟨lo_low (Int.mul_ne_zero hc.ne h1.ne), ftimes_B hB h2 hc.ne h1.ne, ?_⟩
  unfold stepF
  rw [rv_ftimes hc.ne h1.ne, h3]
structure RunG (fo d m : Nat) (c : Fr) (r : List Dt × OK) : Prop where
  len : r.1.length ≤ d
  form : kfm r.2 = fo
  str : StrsOk r.2
  low : Low (chO c r.1)
  B : FrB (m + 8 * d) (chO c r.1)
  pos : 0 < rv (chO c r.1)
  items : ∀ x ∈ r.1, x.2.1 < x.1.length ∧ WS x.1 ∧ 0 < x.1.getD x.2.1 0
theorem runs_mem {fo : Nat} : ∀ {d : Nat} {t : Tr} {c : Fr} {m : Nat}, TrOk fo d t → Low c → FrB m c → 0 < rv c → ∀ r ∈ runs d t c, RunG fo d m c r := by
  intro d
  induction d with
  | zero =>
    intro t c m h hc hB hp r hr
    cases t with
    | z => exact h.elim
    | e k =>
      rw [runs_e, List.mem_singleton] at hr
      subst hr
      exact ⟨Nat.le_refl _, h.1, h.2, hc, hB, hp, by simp⟩
    | n ws cs => exact h.elim
  | succ d ih =>
    intro t c m h hc hB hp r hr
    cases t with
    | z => exact h.elim
    | e k =>
      rw [runs_e, List.mem_singleton] at hr
      subst hr
      exact ⟨Nat.zero_le _, h.1, h.2, hc, hB.mono (by omega), hp, by simp⟩
    | n ws cs =>
      obtain ⟨hS, hl, hk⟩ := h
      rw [runs_n] at hr
      obtain ⟨i, hi, hb⟩ := List.mem_flatMap.mp hr
      have hil := List.mem_range.mp hi
      obtain ⟨hw, r', hr', rfl⟩ := mem_blk hb
      obtain ⟨s1, s2, s3⟩ := hS.step hc hB i
      have hsp : 0 < rv (stepF ws i c) := by
        rw [s3, Rat.div_def]
        have a1 : (0 : Rat) < (ws.getD i 0 : Rat) := ratPos hw
        have a2 : (0 : Rat) < (ws.sum : Rat) := ratPos hS.pos
        exact Rat.mul_pos hp (Rat.mul_pos a1 (Rat.inv_pos.mpr a2))
      have g := ih (hk i _ (getD_get (by omega)) hw) s1 s2 hsp r' hr'
      refine ⟨by show r'.1.length + 1 ≤ d + 1; have := g.len; omega, g.form, g.str, ?_, ?_, ?_, ?_⟩
      · show Low (chO c ((ws, i, c) :: r'.1))
        rw [chO_cons]; exact g.low
      · show FrB _ (chO c ((ws, i, c) :: r'.1))
        rw [chO_cons]; exact g.B.mono (by omega)
      · show 0 < rv (chO c ((ws, i, c) :: r'.1))
        rw [chO_cons]; exact g.pos
      · intro x hx
        rcases List.mem_cons.mp hx with rfl | hx
        · exact ⟨hil, hS, hw⟩
        · exact g.items x hx
theorem flat_len {α β : Type} {f : α → List β} {k : Nat} : ∀ {l : List α}, (∀ x ∈ l, (f x).length ≤ k) → (l.flatMap f).length ≤ l.length * k
  | [], _ => by simp
  | a :: r, h => by
    have h1 := h a (by simp)
    have h2 := flat_len (l := r) fun x hx => h x (by simp [hx])
    rw [List.flatMap_cons, List.length_append, List.length_cons, Nat.add_mul]
    omega
theorem runs_len {fo : Nat} : ∀ {d : Nat} {t : Tr} {c : Fr}, TrOk fo d t → (runs d t c).length ≤ 3 ^ d := by
  intro d
  induction d with
  | zero =>
    intro t c h
    cases t with
    | z => exact h.elim
    | e k => exact Nat.le_refl _
    | n ws cs => exact h.elim
  | succ d ih =>
    intro t c h
    cases t with
    | z => exact h.elim
    | e k => exact Nat.one_le_pow _ _ (by decide)
    | n ws cs =>
      obtain ⟨hS, hl, hk⟩ := h
      have h3 := hS.l3
      have h1 := flat_len (f := blk d ws cs c) (k := 3 ^ d) (l := List.range ws.length) fun i hi => by
        have hil := List.mem_range.mp hi
        unfold blk
        split
        · rename_i hw
          rw [List.length_map]
          exact ih (hk i _ (getD_get (by omega)) hw)
        · exact Nat.zero_le _
      rw [List.length_range] at h1
      rw [runs_n, Nat.pow_succ, Nat.mul_comm]
      exact Nat.le_trans h1 (Nat.mul_le_mul_right _ h3)
theorem sum_flat {α β : Type} (f : α → List β) (g : β → Rat) : ∀ l : List α, ((l.flatMap f).map g).sum = (l.map fun x => ((f x).map g).sum).sum
  | [] => rfl
  | a :: r => by rw [List.flatMap_cons, List.map_append, List.sum_append, sum_flat f g r, List.map_cons, List.sum_cons]
theorem sum_getD : ∀ (l : List Int) (a : Rat), ((List.range l.length).map fun i => a * ((l.getD i 0 : Int) : Rat)).sum = a * ((l.sum : Int) : Rat) := by
  intro l a
  have e : (List.range l.length).map (fun i => a * ((l.getD i 0 : Int) : Rat)) = l.map fun z : Int => a * (z : Rat) := by
    refine List.ext_getElem (by simp) fun i h1 h2 => ?_
    rw [List.getElem_map, List.getElem_map, List.getElem_range, List.getD_eq_getElem?_getD, List.getElem?_eq_getElem (by simpa using h2)]
    rfl
  rw [e]
  clear e
  induction l with
  | nil => show (0 : Rat) = a * ((0 : Int) : Rat); rw [show ((0 : Int) : Rat) = 0 by rfl]; grind
  | cons z r ih =>
    rw [List.map_cons, List.sum_cons, ih, List.sum_cons]
    have e : ((z + r.sum : Int) : Rat) = (z : Rat) + ((r.sum : Int) : Rat) := by exact_mod_cast rfl
    rw [e]
    grind
theorem runs_sum {fo : Nat} : ∀ {d : Nat} {t : Tr} {c : Fr} {m : Nat}, TrOk fo d t → Low c → FrB m c → ((runs d t c).map fun r => rv (chO c r.1)).sum = rv c := by
  intro d
  induction d with
  | zero =>
    intro t c m h hc hB
    cases t with
    | z => exact h.elim
    | e k => rw [runs_e]; show rv c + 0 = rv c; grind
    | n ws cs => exact h.elim
  | succ d ih =>
    intro t c m h hc hB
    cases t with
    | z => exact h.elim
    | e k => rw [runs_e]; show rv c + 0 = rv c; grind
    | n ws cs =>
      obtain ⟨hS, hl, hk⟩ := h
      rw [runs_n, sum_flat]
      have e : (List.range ws.length).map (fun i => ((blk d ws cs c i).map fun r => rv (chO c r.1)).sum) = (List.range ws.length).map fun i => rv c / (ws.sum : Rat) * ((ws.getD i 0 : Int) : Rat) := List.map_congr_left fun i hi => by
        have hil := List.mem_range.mp hi
        have hsr : (ws.sum : Rat) ≠ 0 := ratNe (by have := hS.pos; omega)
        obtain ⟨s1, s2, s3⟩ := hS.step hc hB i
        unfold blk
        split
        · rename_i hw
          rw [List.map_map]
          have e2 : ((fun r : List Dt × OK => rv (chO c r.1)) ∘ fun r : List Dt × OK => ((ws, i, c) :: r.1, r.2)) = fun r => rv (chO (stepF ws i c) r.1) := by
            funext r
            simp only [Function.comp_apply]
            rw [chO_cons]
          rw [e2, ih (hk i _ (getD_get (by omega)) hw) s1 s2, s3]
          grind
        · have h3 := hS.at3 i
          have hz : ws.getD i 0 = 0 := by omega
          rw [hz]
          show (0 : Rat) = _
          rw [show ((0 : Int) : Rat) = 0 by rfl]
          grind
      rw [e, sum_getD]
      have hsr : (ws.sum : Rat) ≠ 0 := ratNe (by have := hS.pos; omega)
      grind
end runsb10

theorem castNe {n : Nat} (h : 1 ≤ n) : (n : Rat) ≠ 0 := by
  have : (0 : Rat) < (n : Rat) := by exact_mod_cast h
  grind
/-! ### common denominators -/
def DenB (D n : Nat) (x : Rat) : Prop := ∃ z : Int, x * (D : Rat) = (z : Rat) ∧ z.natAbs ≤ 2 ^ n
theorem DenB.mono {D n m : Nat} {x : Rat} (h : DenB D n x) (l : n ≤ m) : DenB D m x := let ⟨z, h1, h2⟩ := h; ⟨z, h1, Nat.le_trans h2 (Nat.pow_le_pow_right (by decide) l)⟩
theorem DenB.add {D n : Nat} {x y : Rat} (h : DenB D n x) (g : DenB D n y) : DenB D (n + 1) (x + y) := by
  obtain ⟨z, h1, h2⟩ := h
  obtain ⟨t, g1, g2⟩ := g
  refine ⟨z + t, ?_, ?_⟩
  · have e : ((z + t : Int) : Rat) = (z : Rat) + (t : Rat) := by exact_mod_cast rfl
    rw [e, ← h1, ← g1]; grind
  · rw [Nat.pow_succ]; omega
theorem DenB.neg {D n : Nat} {x : Rat} (h : DenB D n x) : DenB D n (-x) := by
  obtain ⟨z, h1, h2⟩ := h
  refine ⟨-z, ?_, by omega⟩
  have e : ((-z : Int) : Rat) = -(z : Rat) := by exact_mod_cast rfl
  rw [e, ← h1]; grind
theorem DenB.sub {D n : Nat} {x y : Rat} (h : DenB D n x) (g : DenB D n y) : DenB D (n + 1) (x - y) := by
  have := h.add g.neg
  rw [show x - y = x + -y by grind]
  exact this
theorem DenB.mul {D E n m : Nat} {x y : Rat} (h : DenB D n x) (g : DenB E m y) : DenB (D * E) (n + m) (x * y) := by
  obtain ⟨z, h1, h2⟩ := h
  obtain ⟨t, g1, g2⟩ := g
  refine ⟨z * t, ?_, ?_⟩
  · have e : ((z * t : Int) : Rat) = (z : Rat) * (t : Rat) := by exact_mod_cast rfl
    have e2 : ((D * E : Nat) : Rat) = (D : Rat) * (E : Rat) := by exact_mod_cast rfl
    rw [e, e2, ← h1, ← g1]; grind
  · rw [Int.natAbs_mul, Nat.pow_add]
    exact Nat.mul_le_mul h2 g2
theorem DenB.int {D d n : Nat} {z : Int} (hD : D ≤ 2 ^ d) (h : z.natAbs ≤ 2 ^ n) : DenB D (n + d) (z : Rat) := by
  refine ⟨z * (D : Int), by exact_mod_cast rfl, ?_⟩
  rw [Int.natAbs_mul, Int.natAbs_natCast, Nat.pow_add]
  exact Nat.mul_le_mul h hD
theorem DenB.up {D E n e : Nat} {x : Rat} (h : DenB D n x) (hE : E ≤ 2 ^ e) : DenB (D * E) (n + e) x := by
  obtain ⟨z, h1, h2⟩ := h
  refine ⟨z * (E : Int), ?_, ?_⟩
  · have e : ((z * (E : Int) : Int) : Rat) = (z : Rat) * (E : Rat) := by exact_mod_cast rfl
    have e2 : ((D * E : Nat) : Rat) = (D : Rat) * (E : Rat) := by exact_mod_cast rfl
    rw [e, e2, ← h1]; grind
  · rw [Int.natAbs_mul, Int.natAbs_natCast, Nat.pow_add]
    exact Nat.mul_le_mul h2 hE
theorem DenB.div6 {D n k : Nat} {x : Rat} (h : DenB D n x) (hk : k = 1 ∨ k = 2 ∨ k = 3 ∨ k = 6) : DenB (D * 6) (n + 3) (x / (k : Rat)) := by
  obtain ⟨z, h1, h2⟩ := h
  obtain ⟨q, hq, hq6⟩ : ∃ q : Nat, k * q = 6 ∧ q ≤ 6 := by
    rcases hk with rfl | rfl | rfl | rfl
    · exact ⟨6, rfl, by decide⟩
    · exact ⟨3, rfl, by decide⟩
    · exact ⟨2, rfl, by decide⟩
    · exact ⟨1, rfl, by decide⟩
  refine ⟨z * (q : Int), ?_, ?_⟩
  · have e : ((z * (q : Int) : Int) : Rat) = (z : Rat) * (q : Rat) := by exact_mod_cast rfl
    have e2 : ((D * 6 : Nat) : Rat) = (D : Rat) * ((k : Rat) * (q : Rat)) := by rw [← hq]; exact_mod_cast rfl
    have hk0 := castNe (n := k) (by omega)
    rw [e, e2, ← h1]; grind
  · rw [Int.natAbs_mul, Int.natAbs_natCast, Nat.pow_add]
    exact Nat.mul_le_mul h2 (Nat.le_trans hq6 (by decide))
theorem DenB.sum3 {D n : Nat} : ∀ {l : List Rat}, l.length ≤ 3 → (∀ x ∈ l, DenB D n x) → DenB D (n + 2) l.sum
  | [], _, _ => ⟨0, by show (0 : Rat) * _ = ((0 : Int) : Rat); grind, by simp⟩
  | [a], _, h => by
    rw [show [a].sum = a by show a + 0 = a; grind]
    exact (h a (by simp)).mono (by omega)
  | [a, b], _, h => by
    rw [show [a, b].sum = a + b by show a + (b + 0) = a + b; grind]
    exact ((h a (by simp)).add (h b (by simp))).mono (by omega)
  | [a, b, c], _, h => by
    rw [show [a, b, c].sum = (a + b) + c by show a + (b + (c + 0)) = _; grind]
    exact ((h a (by simp)).add (h b (by simp))).add ((h c (by simp)).mono (by omega))
  | _ :: _ :: _ :: _ :: r, h, _ => by simp at h
theorem DenB.sumN {D n : Nat} : ∀ {l : List Rat}, (∀ x ∈ l, DenB D n x) → ∃ z : Int, l.sum * (D : Rat) = (z : Rat) ∧ z.natAbs ≤ l.length * 2 ^ n
  | [], _ => ⟨0, by show (0 : Rat) * _ = ((0 : Int) : Rat); grind, by simp⟩
  | a :: r, h => by
    obtain ⟨z, h1, h2⟩ := h a (by simp)
    obtain ⟨t, g1, g2⟩ := DenB.sumN (l := r) fun x hx => h x (by simp [hx])
    refine ⟨z + t, ?_, ?_⟩
    · have e : ((z + t : Int) : Rat) = (z : Rat) + (t : Rat) := by exact_mod_cast rfl
      rw [List.sum_cons, e, ← h1, ← g1]; grind
    · rw [List.length_cons, Nat.add_mul]; omega
theorem DenB.sum64 {D n : Nat} {l : List Rat} (hl : l.length ≤ 64) (h : ∀ x ∈ l, DenB D n x) : DenB D (n + 6) l.sum := by
  obtain ⟨z, h1, h2⟩ := DenB.sumN h
  refine ⟨z, h1, Nat.le_trans h2 ?_⟩
  rw [Nat.pow_add, Nat.mul_comm]
  exact Nat.mul_le_mul (Nat.le_refl _) (Nat.le_trans hl (by decide))
/-- what a common denominator says of a fraction in lowest terms -/
theorem den_B {D n d k : Nat} {f : Fr} (hL : Low f) (h : DenB D n (rv f)) (hD1 : 1 ≤ D) (hD : D ≤ 2 ^ d) (hd : d < k) (hn : n < k) : FrB k f := by
  obtain ⟨z, h1, h2⟩ := h
  obtain ⟨p, q⟩ := f
  have hq1 : 1 ≤ q := hL.1
  have hco : Nat.gcd p.natAbs q.natAbs = 1 := hL.2
  have hq0 : (q : Rat) ≠ 0 := ratNe (by omega)
  have e : p * (D : Int) = z * q := by
    have : (p : Rat) * (D : Rat) = (z : Rat) * (q : Rat) := by
      rw [← h1]; unfold rv; grind
    exact_mod_cast this
  have e2 : p.natAbs * D = z.natAbs * q.natAbs := by
    have := congrArg Int.natAbs e
    rwa [Int.natAbs_mul, Int.natAbs_mul, Int.natAbs_natCast] at this
  have hdv : q.natAbs ∣ D := by
    have h3 : q.natAbs ∣ p.natAbs * D := ⟨z.natAbs, by rw [e2, Nat.mul_comm]⟩
    exact Nat.Coprime.dvd_of_dvd_mul_left (show Nat.Coprime q.natAbs p.natAbs from (Nat.gcd_comm _ _).trans hco) h3
  obtain ⟨c, hc⟩ := hdv
  have hc1 : 1 ≤ c := by
    rcases Nat.eq_zero_or_pos c with z | z
    · rw [z] at hc; omega
    · exact z
  have hp : p.natAbs ≤ z.natAbs := by
    rw [hc, ← Nat.mul_assoc, Nat.mul_right_comm] at e2
    have h5 : p.natAbs * c = z.natAbs := Nat.eq_of_mul_eq_mul_right (show 0 < q.natAbs by omega) e2
    rw [← h5]
    exact Nat.le_mul_of_pos_right _ hc1
  have hq : q.natAbs ≤ D := Nat.le_of_dvd hD1 ⟨c, hc⟩
  exact ⟨Nat.lt_of_le_of_lt hp (Nat.lt_of_le_of_lt h2 (Nat.pow_lt_pow_right (by decide) hn)), Nat.lt_of_le_of_lt hq (Nat.lt_of_le_of_lt hD (Nat.pow_lt_pow_right (by decide) hd))⟩
/-! products of a list -/
def prodN : List Nat → Nat
  | [] => 1
  | x :: r => x * prodN r
theorem prodN_le {b : Nat} : ∀ {l : List Nat}, (∀ x ∈ l, 1 ≤ x ∧ x ≤ 2 ^ b) → 1 ≤ prodN l ∧ prodN l ≤ 2 ^ (b * l.length)
  | [], _ => by simp [prodN]
  | x :: r, h => by
    have h1 := h x (by simp)
    have h2 := prodN_le (l := r) fun z hz => h z (by simp [hz])
    refine ⟨Nat.mul_le_mul h1.1 h2.1, ?_⟩
    show x * prodN r ≤ _
    rw [List.length_cons, Nat.mul_add, Nat.mul_one, Nat.add_comm, Nat.pow_add]
    exact Nat.mul_le_mul h1.2 h2.2
theorem prodN_mem : ∀ {l : List Nat} {x : Nat}, x ∈ l → ∃ c, prodN l = x * c
  | [], _, h => by cases h
  | y :: r, x, h => by
    rcases List.mem_cons.mp h with rfl | h
    · exact ⟨prodN r, rfl⟩
    · obtain ⟨c, hc⟩ := prodN_mem h
      exact ⟨y * c, by show y * prodN r = _; rw [hc]; exact Nat.mul_left_comm _ _ _⟩
/-- p / x, where x divides D -/
theorem den_frac {D d n : Nat} {p x : Int} {c : Nat} (hx : 1 ≤ x) (hD : D = x.natAbs * c) (hD1 : 1 ≤ D) (hDd : D ≤ 2 ^ d) (hp : p.natAbs ≤ 2 ^ n) : DenB D (n + d) ((p : Rat) / (x : Rat)) := by
  refine ⟨p * (c : Int), ?_, ?_⟩
  · have e : ((p * (c : Int) : Int) : Rat) = (p : Rat) * (c : Rat) := by exact_mod_cast rfl
    have hx0 : (x : Rat) ≠ 0 := ratNe (by omega)
    have e2 : (D : Rat) = (x : Rat) * (c : Rat) := by
      have : (D : Int) = x * (c : Int) := by
        rw [hD, Int.natCast_mul]
        congr 1
        omega
      exact_mod_cast this
    rw [e, e2]; grind
  · rw [Int.natAbs_mul, Int.natAbs_natCast, Nat.pow_add]
    refine Nat.mul_le_mul hp (Nat.le_trans ?_ hDd)
    rw [hD]
    exact Nat.le_mul_of_pos_left _ (by omega)

section fair13
variable {K : PySem.W.Frag}
open GT GU LamK
def numAt : List Int → Int → Nat
  | [], _ => 0
  | w :: r, p => if p < w then 0 else numAt r (p - w) + 1
def sumN (n : Nat) (F : Nat → Rat) : Rat := ((List.range n).map F).sum
theorem sumN_zero (F : Nat → Rat) : sumN 0 F = 0 := rfl
theorem sumN_succ (n : Nat) (F : Nat → Rat) : sumN (n + 1) F = sumN n F + F n := by
  unfold sumN
  rw [List.range_succ, List.map_append, List.sum_append]
  show _ + (F n + 0) = _
  grind
theorem sumN_add (a : Nat) (F : Nat → Rat) : ∀ b, sumN (a + b) F = sumN a F + sumN b (fun i => F (a + i))
  | 0 => by rw [sumN_zero]; show sumN a F = _; grind
  | b + 1 => by
    show sumN (a + b + 1) F = _
    rw [sumN_succ, sumN_add a F b, sumN_succ]
    grind
theorem sumN_congr {n : Nat} {F G : Nat → Rat} (h : ∀ i, i < n → F i = G i) : sumN n F = sumN n G := by
  unfold sumN
  rw [List.map_congr_left fun i hi => h i (List.mem_range.mp hi)]
theorem sumN_mul (c : Rat) (F : Nat → Rat) : ∀ n, sumN n (fun i => c * F i) = c * sumN n F
  | 0 => by rw [sumN_zero, sumN_zero]; grind
  | n + 1 => by rw [sumN_succ, sumN_succ, sumN_mul c F n]; grind
theorem sumN_const (c : Rat) : ∀ n, sumN n (fun _ => c) = (n : Rat) * c
  | 0 => by rw [sumN_zero, show ((0 : Nat) : Rat) = 0 by rfl]; grind
  | n + 1 => by
    have e : ((n + 1 : Nat) : Rat) = (n : Rat) + 1 := by exact_mod_cast rfl
    rw [sumN_succ, sumN_const c n, e]; grind
theorem sumN_front (F : Nat → Rat) : ∀ n, sumN (n + 1) F = F 0 + sumN n (fun i => F (i + 1)) := fun n => by
  rw [Nat.add_comm, sumN_add 1 F n, sumN_succ, sumN_zero]
  have e : (fun i => F (1 + i)) = fun i => F (i + 1) := by funext i; rw [Nat.add_comm]
  rw [e]
  grind
theorem sumN_per {s : Nat} (hs : 1 ≤ s) (F : Nat → Rat) : ∀ q : Nat, sumN (q * s) (fun n => F (n % s)) = (q : Rat) * sumN s F
  | 0 => by rw [Nat.zero_mul, sumN_zero, show ((0 : Nat) : Rat) = 0 by rfl]; grind
  | q + 1 => by
    have e : ((q + 1 : Nat) : Rat) = (q : Rat) + 1 := by exact_mod_cast rfl
    rw [Nat.add_mul, Nat.one_mul, sumN_add, sumN_per hs F q, e]
    have e2 : sumN s (fun i => F ((q * s + i) % s)) = sumN s F := sumN_congr fun i hi => by
      rw [Nat.add_comm, Nat.add_mul_mod_self_right, Nat.mod_eq_of_lt hi]
    rw [e2]
    grind
theorem numAt_sum (G : Nat → Rat) : ∀ {ws : List Int}, (∀ z ∈ ws, 0 ≤ z) → sumN ws.sum.toNat (fun p => G (numAt ws (p : Int))) = sumN ws.length fun k => ((ws.getD k 0 : Int) : Rat) * G k := by
  intro ws
  induction ws generalizing G with
  | nil => intro _; rfl
  | cons w r ih =>
    intro h
    have hw := h w (by simp)
    have hr : ∀ z ∈ r, 0 ≤ z := fun z hz => h z (by simp [hz])
    have hrs : 0 ≤ r.sum := by
      clear ih h
      induction r with
      | nil => simp
      | cons a b ih2 =>
        have h1 := hr a (by simp)
        have h2 := ih2 fun z hz => hr z (by simp [hz])
        rw [List.sum_cons]; omega
    have e : (w :: r).sum.toNat = w.toNat + r.sum.toNat := by rw [List.sum_cons]; omega
    rw [e, sumN_add, List.length_cons, sumN_front]
    have e1 : sumN w.toNat (fun p => G (numAt (w :: r) (p : Int))) = (w : Rat) * G 0 := by
      have e2 : sumN w.toNat (fun p => G (numAt (w :: r) (p : Int))) = sumN w.toNat (fun _ => G 0) := sumN_congr fun i hi => by
        unfold numAt
        rw [if_pos (by omega)]
      rw [e2, sumN_const]
      have e3 : ((w.toNat : Nat) : Rat) = (w : Rat) := by
        have : ((w.toNat : Nat) : Int) = w := by omega
        exact_mod_cast this
      rw [e3]
    have e4 : sumN r.sum.toNat (fun i => G (numAt (w :: r) ((w.toNat + i : Nat) : Int))) = sumN r.length fun k => ((r.getD k 0 : Int) : Rat) * G (k + 1) := by
      rw [← ih (fun k => G (k + 1)) hr]
      refine sumN_congr fun i hi => ?_
      show G (if ((w.toNat + i : Nat) : Int) < w then 0 else numAt r (((w.toNat + i : Nat) : Int) - w) + 1) = _
      rw [if_neg (by omega), show ((w.toNat + i : Nat) : Int) - w = (i : Int) by omega]
    rw [e1, e4]
    rfl
theorem numAt_lt : ∀ {ws : List Int} {p : Int}, (∀ z ∈ ws, 0 ≤ z) → 0 ≤ p → p < ws.sum → numAt ws p < ws.length ∧ 0 < ws.getD (numAt ws p) 0
  | [], p, _, h0, h1 => by simp at h1; omega
  | w :: r, p, h, h0, h1 => by
    unfold numAt
    split
    · rename_i hp
      exact ⟨by simp, by show 0 < w; omega⟩
    · rename_i hp
      rw [List.sum_cons] at h1
      obtain ⟨a, b⟩ := numAt_lt (ws := r) (p := p - w) (fun z hz => h z (by simp [hz])) (by omega) (by omega)
      exact ⟨by simp; omega, b⟩
/-! all lists -/
def lsts (side : Nat) : Nat → List (List Int)
  | 0 => [[]]
  | m + 1 => (lsts side m).flatMap fun one => (List.range side).map fun n : Nat => one ++ [(n : Int)]
def sumL (side m : Nat) (F : List Int → Rat) : Rat := ((lsts side m).map F).sum
theorem sumL_zero (side : Nat) (F : List Int → Rat) : sumL side 0 F = F [] := by
  show F [] + 0 = _
  grind
theorem sumL_back (side m : Nat) (F : List Int → Rat) : sumL side (m + 1) F = sumL side m fun l => sumN side fun n => F (l ++ [(n : Int)]) := by
  unfold sumL
  show (((lsts side m).flatMap fun one => (List.range side).map fun n : Nat => one ++ [(n : Int)]).map F).sum = _
  rw [sum_flat]
  congr 1
  refine List.map_congr_left fun l _ => ?_
  unfold sumN
  rw [List.map_map]
  rfl
theorem sumL_front (side : Nat) : ∀ (m : Nat) (F : List Int → Rat), sumL side (m + 1) F = sumN side fun n => sumL side m fun l => F ((n : Int) :: l)
  | 0, F => by
    rw [sumL_back, sumL_zero]
    refine sumN_congr fun n _ => ?_
    rw [sumL_zero]
    rfl
  | m + 1, F => by
    rw [sumL_back, sumL_front side m]
    refine sumN_congr fun n _ => ?_
    rw [sumL_back]
    rfl
theorem sumL_const (side : Nat) (c : Rat) : ∀ m, sumL side m (fun _ => c) = ((side ^ m : Nat) : Rat) * c
  | 0 => by rw [sumL_zero, Nat.pow_zero, show ((1 : Nat) : Rat) = 1 by rfl]; grind
  | m + 1 => by
    have e : ((side ^ (m + 1) : Nat) : Rat) = ((side ^ m : Nat) : Rat) * (side : Rat) := by rw [Nat.pow_succ]; exact_mod_cast rfl
    rw [sumL_front, sumN_congr (G := fun _ => ((side ^ m : Nat) : Rat) * c) fun n _ => sumL_const side c m, sumN_const, e]
    grind
def tout : Nat → Tr → List Int → Option OK
  | _, .e k, _ => some k
  | d + 1, .n ws cs, l => tout d (cs.getD (numAt ws (l.headD 0 % ws.sum)) .z) l.tail
  | _, _, _ => none
theorem tout_e {d : Nat} {k : OK} {l : List Int} : tout d (.e k) l = some k := by cases d <;> rfl
def Fit (side : Nat) : Nat → Nat → Tr → Prop
  | _, _, .e _ => True
  | d + 1, m + 1, .n ws cs => (∃ q, side = q * ws.sum.toNat) ∧ ∀ i, 0 < ws.getD i 0 → Fit side d m (cs.getD i .z)
  | _, _, _ => False
theorem Fit.e_ok {side d m : Nat} {k : OK} : Fit side d m (.e k) := by cases d <;> cases m <;> exact True.intro
theorem sum_range_blk {α : Type} (f : Nat → List α) (g : α → Rat) (n : Nat) : (((List.range n).flatMap f).map g).sum = sumN n fun i => ((f i).map g).sum := by
  rw [sum_flat]
  rfl
/-- tapes of all lists tell the law -/
theorem fair {fo side : Nat} (φ : Option OK → Rat) : ∀ {d m : Nat} {t : Tr} {c : Fr} {b : Nat}, TrOk fo d t → Fit side d m t → Low c → FrB b c → rv c * sumL side m (fun l => φ (tout d t l)) = ((side ^ m : Nat) : Rat) * ((runs d t c).map fun r => φ (some r.2) * rv (chO c r.1)).sum := by
  intro d
  induction d with
  | zero =>
    intro m t c b h hF hc hB
    cases t with
    | z => exact h.elim
    | e k =>
      rw [runs_e]
      have e : sumL side m (fun l => φ (tout 0 (.e k) l)) = sumL side m fun _ => φ (some k) := rfl
      rw [e, sumL_const]
      show _ = _ * (φ (some k) * rv c + 0)
      grind
    | n ws cs => exact h.elim
  | succ d ih =>
    intro m t c b h hF hc hB
    cases t with
    | z => exact h.elim
    | e k =>
      rw [runs_e]
      have e : sumL side m (fun l => φ (tout (d + 1) (.e k) l)) = sumL side m fun _ => φ (some k) := rfl
      rw [e, sumL_const]
      show _ = _ * (φ (some k) * rv c + 0)
      grind
    | n ws cs =>
      cases m with
      | zero => exact hF.elim
      | succ m =>
        obtain ⟨hS, hl, hk⟩ := h
        obtain ⟨⟨q, hq⟩, hFk⟩ := hF
        have hpos := hS.pos
        have hs1 : 1 ≤ ws.sum.toNat := by omega
        have hsr : (ws.sum : Rat) ≠ 0 := ratNe (by omega)
        have est : ((ws.sum.toNat : Nat) : Rat) = (ws.sum : Rat) := by
          have : ((ws.sum.toNat : Nat) : Int) = ws.sum := by omega
          exact_mod_cast this
        have eside : ((side ^ (m + 1) : Nat) : Rat) = ((side ^ m : Nat) : Rat) * ((q : Rat) * (ws.sum : Rat)) := by
          have e1 : ((side ^ (m + 1) : Nat) : Rat) = ((side ^ m : Nat) : Rat) * (side : Rat) := by rw [Nat.pow_succ]; exact_mod_cast rfl
          have e2 : (side : Rat) = (q : Rat) * ((ws.sum.toNat : Nat) : Rat) := by
            have : (side : Rat) = ((q * ws.sum.toNat : Nat) : Rat) := by rw [← hq]
            rw [this]
            exact_mod_cast rfl
          rw [e1, e2, est]
        have e0 : sumL side (m + 1) (fun l => φ (tout (d + 1) (.n ws cs) l)) = (q : Rat) * sumN ws.length fun k => ((ws.getD k 0 : Int) : Rat) * sumL side m (fun l => φ (tout d (cs.getD k .z) l)) := by
          rw [sumL_front, ← numAt_sum (fun k => sumL side m (fun l => φ (tout d (cs.getD k .z) l))) fun z hz => (hS.each z hz).1]
          have e1 := sumN_per hs1 (fun p => sumL side m (fun l => φ (tout d (cs.getD (numAt ws (p : Int)) .z) l))) q
          rw [← hq] at e1
          rw [← e1]
          refine sumN_congr fun n _ => ?_
          have e2 : ((n % ws.sum.toNat : Nat) : Int) = (n : Int) % ws.sum := by
            rw [Int.natCast_emod]
            congr 1
            omega
          rw [e2]
          rfl
        rw [e0, runs_n, sum_range_blk, eside]
        have e3 : sumN ws.length (fun i => ((blk d ws cs c i).map fun r => φ (some r.2) * rv (chO c r.1)).sum) * ((side ^ m : Nat) : Rat) = sumN ws.length (fun k => rv c / (ws.sum : Rat) * (((ws.getD k 0 : Int) : Rat) * sumL side m (fun l => φ (tout d (cs.getD k .z) l)))) := by
          rw [Rat.mul_comm, ← sumN_mul]
          refine sumN_congr fun i hi => ?_
          unfold blk
          split
          · rename_i hw
            obtain ⟨s1, s2, s3⟩ := hS.step hc hB i
            have hih := ih (hk i _ (getD_get (by omega)) hw) (hFk i hw) s1 s2
            rw [List.map_map]
            have e4 : ((fun r : List Dt × OK => φ (some r.2) * rv (chO c r.1)) ∘ fun r : List Dt × OK => ((ws, i, c) :: r.1, r.2)) = fun r => φ (some r.2) * rv (chO (stepF ws i c) r.1) := by
              funext r
              simp only [Function.comp_apply]
              rw [chO_cons]
            rw [e4, ← hih, s3]
            grind
          · have h3 := hS.at3 i
            have hz : ws.getD i 0 = 0 := by omega
            rw [hz, show ((0 : Int) : Rat) = 0 by rfl]
            show _ * (0 : Rat) = _
            grind
        rw [sumN_mul] at e3
        generalize sumN ws.length (fun i => ((blk d ws cs c i).map fun r => φ (some r.2) * rv (chO c r.1)).sum) = A at e3 ⊢
        generalize sumN ws.length (fun k => ((ws.getD k 0 : Int) : Rat) * sumL side m (fun l => φ (tout d (cs.getD k .z) l))) = B at e3 ⊢
        generalize ((side ^ m : Nat) : Rat) = S at e3 ⊢
        have e5 : S * ((q : Rat) * (ws.sum : Rat)) * A = (q : Rat) * (ws.sum : Rat) * (A * S) := by grind
        rw [e5, e3]
        grind
end fair13

/-- a promise for each of many -/
def spEx {ι : Type} (p : ι → Prop) (sp : ι → Sp) : Sp := fun vs H Q E => ∃ i, p i ∧ sp i vs H Q E
theorem fnEx {ι : Type} {P : Program} {w : World} {K : PySem.W.Frag} {mg : Str → Option Value} {base : Heap} {CX : CXT} {k : Nat} {f : Addr} {fd : FuncData} {ps : List Str} {p : ι → Prop} {sp : ι → Sp} (F : ∀ i, p i → FnOk P w K mg base CX k f fd ps (sp i)) : FnOk P w K mg base CX k f fd ps (spEx p sp) :=
  ⟨fun vs H Q E ⟨i, hi, q⟩ => (F i hi).len vs H Q E q, fun A outer s H args us vs Q E hr he hb hv ⟨i, hi, hs⟩ => (F i hi).run A outer s H args us vs Q E hr he hb hv hs⟩

section deed10
variable {K : PySem.W.Frag}
open GT GU LamK
def numsD (ds : List Dt) : List Int := ds.map fun x => (x.2.1 : Int)
theorem runs_cons {d fo : Nat} {ws : List Int} {cs : List Tr} {c : Fr} {R : List Dt} {k : OK} (h : (R, k) ∈ runs (d + 1) (.n ws cs) c) (_ : TrOk fo (d + 1) (.n ws cs)) : ∃ i R', i < ws.length ∧ 0 < ws.getD i 0 ∧ R = (ws, i, c) :: R' ∧ (R', k) ∈ runs d (cs.getD i .z) (stepF ws i c) := by
  rw [runs_n] at h
  obtain ⟨i, hi, hb⟩ := List.mem_flatMap.mp h
  obtain ⟨hw, r', hr', e⟩ := mem_blk hb
  obtain ⟨R', k'⟩ := r'
  obtain ⟨rfl, rfl⟩ := Prod.mk.inj e
  exact ⟨i, R', List.mem_range.mp hi, hw, rfl, hr'⟩
theorem runs_pre {fo : Nat} : ∀ {d : Nat} {t : Tr} {c : Fr} {m : Nat}, TrOk fo d t → Low c → FrB m c → m + 8 * d ≤ 400 → ∀ r ∈ runs d t c, ∀ pre suf, r.1 = pre ++ suf → Low (chO c pre) ∧ FrB 400 (chO c pre) := by
  intro d
  induction d with
  | zero =>
    intro t c m h hc hB hm r hr pre suf e
    cases t with
    | z => exact h.elim
    | e k =>
      rw [runs_e, List.mem_singleton] at hr
      subst hr
      have : pre = [] := (List.append_eq_nil_iff.mp e.symm).1
      subst this
      exact ⟨hc, hB.mono (by omega)⟩
    | n ws cs => exact h.elim
  | succ d ih =>
    intro t c m h hc hB hm r hr pre suf e
    cases t with
    | z => exact h.elim
    | e k =>
      rw [runs_e, List.mem_singleton] at hr
      subst hr
      have : pre = [] := (List.append_eq_nil_iff.mp e.symm).1
      subst this
      exact ⟨hc, hB.mono (by omega)⟩
    | n ws cs =>
      obtain ⟨R, k⟩ := r
      obtain ⟨i, R', hi, hw, rfl, hr'⟩ := runs_cons hr h
      obtain ⟨hS, hl, hk⟩ := h
      obtain ⟨s1, s2, _⟩ := hS.step hc hB i
      cases pre with
      | nil => exact ⟨hc, hB.mono (by omega)⟩
      | cons x pre =>
        obtain ⟨rfl, e2⟩ := List.cons.inj e
        rw [chO_cons]
        exact ih (hk i _ (getD_get (by omega)) hw) s1 s2 (by omega) _ hr' pre suf e2
theorem fd_pre : ∀ {d : Nat} {t : Tr} {c : Fr} {q R : List Dt} {k : OK}, fd d t c q = (R, some k) → ∃ suf, R = q ++ suf := by
  intro d
  induction d with
  | zero =>
    intro t c q R k h
    cases t with
    | z => cases (Prod.mk.inj h).2
    | e k' =>
      cases q with
      | nil => exact ⟨R, rfl⟩
      | cons x r => cases (Prod.mk.inj h).2
    | n ws cs => cases (Prod.mk.inj h).2
  | succ d ih =>
    intro t c q R k h
    cases t with
    | z => cases (Prod.mk.inj h).2
    | e k' =>
      cases q with
      | nil => exact ⟨R, rfl⟩
      | cons x r => cases (Prod.mk.inj h).2
    | n ws cs =>
      cases q with
      | nil => exact ⟨R, rfl⟩
      | cons x r =>
        have h2 : (let y := fd d (cs.getD x.2.1 .z) (stepF x.1 x.2.1 x.2.2) r; (x :: y.1, y.2)) = (R, some k) := h
        obtain ⟨h3, h4⟩ := Prod.mk.inj h2
        obtain ⟨suf, e⟩ := ih (Prod.ext (x := fd d (cs.getD x.2.1 .z) (stepF x.1 x.2.1 x.2.2) r) (y := (_, some k)) rfl h4)
        exact ⟨suf, by rw [← h3]; exact congrArg (x :: ·) e⟩
theorem TrAt.kpM {M N : List Addr} {H H' : Hp} (k : Kp N H H') (hN : ∀ x ∈ N, x ∈ M) (nt : ∀ y ∈ N, NoTup H y) {d : Nat} {v : V} {t : Tr} (h : TrAt K M H d v t) : TrAt K M H' d v t := h.of (fun b xs n e => k.get (fun z => n (hN _ z)) e) (fun _ _ h => ok_kpM h k nt) fun _ _ n _ => n
def spDeed (K : PySem.W.Frag) (C : Addr) : Sp := fun vs H Q _ => ∃ (v : V) (d fo : Nat) (t : Tr) (M : List Addr) (e p w pt : Addr) (ps : List PI) (rs : List LRow) (fin : Bool) (R : List Dt) (k : OK), vs = [v, .ref e, .ref pt] ∧ TrAt K M H d v t ∧ TrOk fo d t ∧ d ≤ 4 ∧ e ∈ M ∧ p ∈ M ∧ pt ∈ M ∧ pt ≠ e ∧ pt ≠ p ∧ pt ≠ w ∧ Ex K C H e p w ps rs 0 true fin ∧ ps.length ≤ 10 ∧ (∀ z ∈ ps, z.w ≠ pt) ∧ H pt = some (.lst []) ∧ fd d t (1, 1) (ps.map PI.dat) = (R, some k) ∧ (R, k) ∈ runs d t (1, 1) ∧
  ∀ H' o ps' m, Kp [e, p, pt] H H' → Ex K C H' e p w ps' rs m true fin → ps'.map PI.dat = R → OkAt H' k o → H' pt = some (.lst ((numsD R).map V.int)) → Q o H'
theorem chD_chO (p : List Dt) : chD p = chO (1, 1) p := rfl
end deed10

section tape13
variable {K : PySem.W.Frag}
open GT GU LamK
def spNumAt (K : PySem.W.Frag) : Sp := fun vs H Q _ => ∃ (a : Addr) (ws : List Int) (p : Int), vs = [.ref a, .int p] ∧ SqL K H a (ws.map V.int) ∧ WOk ws ∧ 0 ≤ p ∧ p < ws.sum ∧ Q (.int (numAt ws p : Int)) H
theorem numAt_drop {ws : List Int} {j : Nat} {left : Int} (h : j < ws.length) : numAt (ws.drop j) left = if left < ws.getD j 0 then 0 else numAt (ws.drop (j + 1)) (left - ws.getD j 0) + 1 := by
  have e : ws.drop j = ws.getD j 0 :: ws.drop (j + 1) := by
    rw [List.drop_eq_getElem_cons h, List.getD_eq_getElem?_getD, List.getElem?_eq_getElem h]; rfl
  rw [e]
  rfl
theorem drop_sum {ws : List Int} {j : Nat} (h : j < ws.length) : (ws.drop j).sum = ws.getD j 0 + (ws.drop (j + 1)).sum := by
  have e : ws.drop j = ws.getD j 0 :: ws.drop (j + 1) := by
    rw [List.drop_eq_getElem_cons h, List.getD_eq_getElem?_getD, List.getElem?_eq_getElem h]; rfl
  rw [e, List.sum_cons]
theorem ok_number_at {P : Program} {w : World} {K : PySem.W.Frag} {mg : Str → Option Value} {base : Heap} (T : T P K mg base) : FnOk P w K mg base CX0 1 T.a_number_at T.fd_number_at ["weights", "place"] (spNumAt K) := by
  refine T.F_number_at.ok sc_number_at (fun vs H Q E h => ?_) (fun cdv A outer s H vs Q E hr h => ?_)
  · obtain ⟨a, ws, p, rfl, _⟩ := h
    rfl
  · obtain ⟨a, ws, p, rfl, hS, hW, hp0, hp1, q⟩ := h
    refine ⟨_, (pss_cons (ps_set (i := 2) sc_number_at.nd rfl (by first | exact Or.inl rfl | exact Or.inr rfl) pe_int)
      (pss_cons (ps_set (i := 3) sc_number_at.nd rfl (by first | exact Or.inl rfl | exact Or.inr rfl) (pv 1))
      (pss_cons (ps_while PassesOwn.never (pt_cmpR op_ge (pv 3) (pe_ix ix_list (pv 0) (pv 2) (fun _ _ => rfl)) (nomark _)) (pss_cons (ps_aug (i := 3) sc_number_at.nd rfl (by first | exact Or.inl rfl | exact Or.inr rfl) (pe_ix ix_list (pv 0) (pv 2) (fun _ _ => rfl)) ip_sub)
      (pss_one (ps_aug (i := 2) sc_number_at.nd rfl (by first | exact Or.inl rfl | exact Or.inr rfl) pe_int ip_add))))
      (pss_one (ps_ret (pv 2)))))), ?_⟩
    walk_at "z0"
    walk_at "z"
    refine Z.wh (fun m σ' H' => ∃ (j : Nat) (left : Int), σ' = [some (.ref a), some (.int p), some (.int (j : Int)), some (.int left)] ∧ H' = H ∧ 0 ≤ left ∧ left < (ws.drop j).sum ∧ j + numAt (ws.drop j) left = numAt ws p ∧ m = ws.length - j) ws.length ⟨0, p, rfl, rfl, hp0, hp1, by rw [Nat.zero_add]; rfl, rfl⟩ ?_
    rintro m σ' H' ⟨j, left, rfl, rfl, hl0, hl1, hn, rfl⟩
    have hj : j < ws.length := by
      by_cases z : j < ws.length
      · exact z
      · rw [List.drop_eq_nil_of_le (by omega)] at hl1
        simp at hl1
        omega
    have hd := numAt_drop (left := left) hj
    have hs := drop_sum hj
    walk_at "z"
    refine Z.ixL hS (atI_nat (atInts hj)) ?_
    walk_at "z"
    refine Z.ite (fun h2 => ?_) (fun h2 => ?_)
    · refine Z.whb ?_
      walk_at "z"
      refine Z.ixL hS (atI_nat (atInts hj)) ?_
      walk_at "z"
      rw [if_neg (by omega)] at hd
      refine ⟨ws.length - (j + 1), by omega, j + 1, left - ws.getD j 0, rfl, rfl, by omega, by omega, by rw [← hn, hd]; omega, rfl⟩
    · walk_at "z"
      rw [if_pos (by omega)] at hd
      rw [hd] at hn
      rw [← hn] at q
      exact q
def tf (n : Addr) (k : Nat) : List (Str × V) := [("_numbers", .ref n), ("_picks", .int (k : Int))]
theorem tf_n {n : Addr} {k : Nat} : (tf n k).lookup ("_numbers" : Str) = some (.ref n) := by rfl
theorem tf_p {n : Addr} {k : Nat} : (tf n k).lookup ("_picks" : Str) = some (.int (k : Int)) := by rfl
theorem tf_mk {n : Addr} : putF "_picks" (.int 0) (putF "_numbers" (.ref n) []) = tf n 0 := by kernel_rfl
theorem tf_up {n : Addr} {k : Nat} : putF "_picks" (.int ((k : Int) + 1)) (tf n k) = tf n (k + 1) := by kernel_rfl
structure TpAt (C : Addr) (H : Hp) (x n : Addr) (ns : List Int) (k : Nat) : Prop where
  ob : ∃ dx, H x = some (.ins C dx (tf n k))
  nums : H n = some (.lst (ns.map V.int))
def spTInit (K : PySem.W.Frag) (C : Addr) : Sp := fun vs H Q _ => ∃ (x b dx : Addr) (ns : List Int), vs = [.ref x, .ref b] ∧ H x = some (.ins C dx []) ∧ H b = some (.lst (ns.map V.int)) ∧ ∀ H' n, H n = none → Kp [x] H H' → TpAt C H' x n ns 0 → Q .non H'
theorem ok_Tape_init {P : Program} {w : World} {K : PySem.W.Frag} {mg : Str → Option Value} {base : Heap} (T : T P K mg base) : FnOk P w K mg base CX0 1 T.a_Tape_init T.fd_Tape_init ["self", "numbers"] (spTInit K T.C_Tape) := by
  refine T.F_Tape_init.ok sc_Tape_init (fun vs H Q E h => ?_) (fun cdv A outer s H vs Q E hr h => ?_)
  · obtain ⟨x, b, dx, ns, rfl, _⟩ := h
    rfl
  · obtain ⟨x, b, dx, ns, rfl, hx, hb, q⟩ := h
    refine ⟨_, (pss_cons (ps_fld (pv 0) (pe_callTy c_list (by rfl) T.z_list (by decide +kernel) (pa_cons (pv 1) pa_nil)) rfl)
      (pss_one (ps_fld (pv 0) pe_int rfl))), ?_⟩
    walk_at "z0"
    walk_at "z"
    refine Z.listL (lstL hb) (fun n H1 nn k1 e1 => ?_)
    have hx1 := k1.get nin0 hx
    have nnx : n ≠ x := (ne_of_none hx nn).symm
    walk_at "z"
    refine ⟨x, _, dx, [], rfl, hx1, T.cl_Tape, T.na_Tape__numbers, by decide, ?_⟩
    walk_at "z"
    refine ⟨x, _, dx, _, rfl, upd_same, T.cl_Tape, T.na_Tape__picks, by show 1 < 1000; decide, ?_⟩
    walk_at "z"
    rw [upd_upd, tf_mk]
    exact q _ n nn ((k1.sub (by simp)).trans (Kp.put (by simp))) ⟨⟨dx, upd_same⟩, (upd_ne nnx).trans e1⟩
def spTPick (K : PySem.W.Frag) (C : Addr) : Sp := fun vs H Q _ => ∃ (x n b : Addr) (ns ws : List Int) (k : Nat), vs = [.ref x, .ref b] ∧ TpAt C H x n ns k ∧ H b = some (.lst (ws.map V.int)) ∧ WOk ws ∧ (∀ z ∈ ns, z.natAbs < 2 ^ 20) ∧ ns.length ≤ 1000 ∧ k ≤ 1000 ∧
  ∀ H', Kp [x] H H' → TpAt C H' x n ns (k + 1) → Q (.int (numAt ws (ns.getD k 0 % ws.sum) : Int)) H'
theorem ok_Tape_pick {P : Program} {w : World} {K : PySem.W.Frag} {mg : Str → Option Value} {base : Heap} (T : T P K mg base) : FnOk P w K mg base CX0 2 T.a_Tape_pick T.fd_Tape_pick ["self", "weights"] (spTPick K T.C_Tape) := by
  refine T.F_Tape_pick.ok sc_Tape_pick (fun vs H Q E h => ?_) (fun cdv A outer s H vs Q E hr h => ?_)
  · obtain ⟨x, n, b, ns, ws, k, rfl, _⟩ := h
    rfl
  · obtain ⟨x, n, b, ns, ws, k, rfl, hX, hb, hW, hz, hnl, hkl, q⟩ := h
    obtain ⟨⟨dx, hx⟩, hn⟩ := hX
    have nnx : n ≠ x := fun z => by rw [z, hx] at hn; cases hn
    refine ⟨_, (pss_cons (ps_set (i := 2) sc_Tape_pick.nd rfl (by first | exact Or.inl rfl | exact Or.inr rfl) pe_int)
      (Z.pss_consJ (ps_if (pt_cmpR op_lt (pe_fld (pv 0) rfl) (pe_callB c_len (by rfl) T.z_len (by decide +kernel) (pa_cons (pe_fld (pv 0) rfl) pa_nil)) (nomark _)) (pss_one (ps_set (i := 2) sc_Tape_pick.nd rfl (by first | exact Or.inl rfl | exact Or.inr rfl) (pe_ix ix_list (pe_fld (pv 0) rfl) (pe_fld (pv 0) rfl) (fun _ _ => rfl)))) pss_nil)
      (pss_cons (ps_set (i := 3) sc_Tape_pick.nd rfl (by first | exact Or.inl rfl | exact Or.inr rfl) (pe_call (ok_number_at T) (hr.mono (by decide)) (by rfl) T.g_number_at T.F_number_at.kp T.b_number_at .nil pass0 (pa_cons (pv 1) (pa_cons (pe_op op_mod (pv 2) (pe_callB (cr_sum rfl) (by rfl) T.z_sum (by decide +kernel) (pa_cons (pv 1) pa_nil))) pa_nil))))
      (pss_cons (ps_fldaug (pv 0) pe_int in_add)
      (pss_one (ps_ret (pv 3))))))), ?_⟩
    walk_at "z0"
    walk_at "z"
    refine Z.seqJ (fun σ' H' => σ' = [some (.ref x), some (.ref b), some (.int (ns.getD k 0)), none] ∧ H' = H) ?_ ?_
    · rintro σ' H' ⟨rfl, rfl⟩
      walk_at "z"
      refine Z.sumL (ns := ws) (lstL hb) ?_
      have hpos := hW.pos
      walk_at "z"
      refine Z.iC (by omega) ?_
      walk_at "z"
      refine ⟨b, ws, ns.getD k 0 % ws.sum, rfl, lstL hb, hW, Int.emod_nonneg _ (by omega), Int.emod_lt_of_pos _ hpos, ?_⟩
      walk_at "z"
      refine ⟨x, _, dx, _, _, rfl, hx, T.cl_Tape, T.na_Tape__picks, tf_p, ?_⟩
      walk_at "z"
      refine ⟨dx, _, hx, by show 2 < 1000; decide, ?_⟩
      walk_at "z"
      rw [tf_up]
      exact q _ (Kp.put (by simp)) ⟨⟨dx, upd_same⟩, (upd_ne nnx).trans hn⟩
    · intro N jn
      walk_at "z"
      refine ⟨x, _, dx, _, _, rfl, hx, T.cl_Tape, T.na_Tape__picks, tf_p, ?_⟩
      walk_at "z"
      refine ⟨x, _, dx, _, _, rfl, hx, T.cl_Tape, T.na_Tape__numbers, tf_n, ?_⟩
      walk_at "z"
      refine Z.lenL (lstL hn) ?_
      rw [List.length_map]
      walk_at "z"
      refine Z.ite (fun h1 => ?_) (fun h1 => ?_)
      · walk_at "z"
        refine ⟨x, _, dx, _, _, rfl, hx, T.cl_Tape, T.na_Tape__numbers, tf_n, ?_⟩
        walk_at "z"
        refine ⟨x, _, dx, _, _, rfl, hx, T.cl_Tape, T.na_Tape__picks, tf_p, ?_⟩
        walk_at "z"
        refine Z.ixL (lstL hn) (atI_nat (atInts (by omega))) ?_
        walk_at "z"
        exact jn _ _ ⟨rfl, rfl⟩
      · walk_at "z"
        refine jn _ _ ⟨?_, rfl⟩
        rw [List.getD_eq_getElem?_getD, List.getElem?_eq_none (by omega)]
        rfl
def spDeedT (K : PySem.W.Frag) (C : Addr) : Sp := fun vs H Q _ => ∃ (v : V) (d fo : Nat) (t : Tr) (M : List Addr) (x n pt : Addr) (ns : List Int), vs = [v, .ref x, .ref pt] ∧ TrAt K M H d v t ∧ TrOk fo d t ∧ d ≤ 4 ∧ x ∈ M ∧ pt ∈ M ∧ pt ≠ x ∧ n ≠ pt ∧ TpAt C H x n ns 0 ∧ (∀ z ∈ ns, z.natAbs < 2 ^ 20) ∧ ns.length ≤ 900 ∧ H pt = some (.lst []) ∧
  ∀ H' o k, Kp [x, pt] H H' → tout d t ns = some k → kfm k = fo → StrsOk k → OkAt H' k o → Q o H'
theorem deed_tp {P : Program} {w : World} {K : PySem.W.Frag} {mg : Str → Option Value} {base : Heap} (T : T P K mg base) : FnOk P w K mg base CX0 7 T.a__law_deed T.fd__law_deed ["tree", "dice", "path"] (spDeedT K T.C_Tape) := by
  refine T.F__law_deed.ok sc__law_deed (fun vs H Q E h => ?_) (fun cdv A outer s H vs Q E hr h => ?_)
  · obtain ⟨v, d, fo, t, M, x, n, pt, ns, rfl, _⟩ := h
    rfl
  · obtain ⟨v, d, fo, t, M, x, n, pt, ns, rfl, hT, hO, hd4, hxM, hptM, npx, nnp, hX, hz, hnl, hpt, q⟩ := h
    refine ⟨_, (pss_cons (ps_for PassesOwn.never rfl (pi_range1 (by rfl) T.z_range (pa_cons pe_int pa_nil)) (pg_name (i := 3) sc__law_deed.nd rfl (by first | exact Or.inl rfl | exact Or.inr rfl)) (pss_cons (ps_if (pt_cmpR op_eq (pe_ix ix_list (pv 0) pe_int (fun _ _ => rfl)) pe_str (nomark _)) (pss_one (ps_ret (pe_ix ix_list (pv 0) pe_int (fun _ _ => rfl)))) pss_nil)
      (pss_cons (ps_set (i := 4) sc__law_deed.nd rfl (by first | exact Or.inl rfl | exact Or.inr rfl) (OrP.pe_or2 (pe_meth (pv 1) T.cl_Explorer T.me_Explorer_pick (ok_Explorer_pick T) (hr.mono (by decide)) T.b_Explorer_pick .nil pass0 (pa_cons (pe_callTy c_list (by rfl) T.z_list (by decide +kernel) (pa_cons (pe_ix ix_list (pv 0) pe_int (fun _ _ => rfl)) pa_nil)) pa_nil)) (pe_meth (pv 1) T.cl_Tape T.me_Tape_pick (ok_Tape_pick T) (hr.mono (by decide)) T.b_Tape_pick .nil pass0 (pa_cons (pe_callTy c_list (by rfl) T.z_list (by decide +kernel) (pa_cons (pe_ix ix_list (pv 0) pe_int (fun _ _ => rfl)) pa_nil)) pa_nil))))
      (pss_cons (ps_expr (pe_bm PySem.F.plainAttrs_list PySem.F.slot_list_append PySem.F.type_list_append mt_append (pv 2) (pa_cons (pv 4) pa_nil)))
      (pss_one (ps_set (i := 0) sc__law_deed.nd rfl (by first | exact Or.inl rfl | exact Or.inr rfl) (pe_ix ix_list (pe_ix ix_list (pv 0) pe_int (fun _ _ => rfl)) (pv 4) (fun _ _ => rfl))))))))
      (pss_one (ps_ret pe_non))), ?_⟩
    walk_at "z0"
    walk_at "z"
    refine Z.forr 9 rfl (by decide) (fun i σ' H' => ∃ (y3 y4 : Option V) (u : V) (di : Nat) (ti : Tr) (L : List Int), σ' = [some u, some (.ref x), some (.ref pt), y3, y4] ∧ Kp [x, pt] H H' ∧ TrAt K M H' di u ti ∧ TrOk fo di ti ∧ di + i ≤ 4 ∧ TpAt T.C_Tape H' x n ns i ∧ H' pt = some (.lst (L.map V.int)) ∧ L.length = i ∧ tout di ti (ns.drop i) = tout d t ns) ?_ ?_ ?_
    · exact ⟨_, _, v, d, t, [], rfl, Kp.refl _, hT, hO, by omega, hX, hpt, rfl, rfl⟩
    · rintro i σ' H1 hi ⟨y3, y4, u, di, ti, L, rfl, k1, hT1, hO1, hdi, hX1, ep1, hLl, htt⟩
      walk_at "z"
      cases ti with
      | z => exact (TrOk.z_no hO1).elim
      | e k' =>
        obtain ⟨ta, o, rfl, ht, hk, _⟩ := TrAt.e_iff.mp hT1
        obtain ⟨hkf, hks⟩ := TrOk.e_iff.mp hO1
        refine Z.ixL (lstL ht) (show atI [V.str "end", o] 0 = some (.str "end") from rfl) ?_
        walk_at "z"
        refine Z.yes rfl ?_
        walk_at "z"
        refine Z.ixL (lstL ht) (show atI [V.str "end", o] 1 = some o from rfl) ?_
        walk_at "z"
        rw [tout_e] at htt
        exact q H1 o k' k1 htt.symm hkf hks hk
      | n ws cs =>
        cases di with
        | zero => exact hO1.elim
        | succ di =>
          obtain ⟨hS, hcl, hck⟩ := id hO1
          obtain ⟨ta, w', cc, vs, rfl, ht, hw, hcc, hvl, n1, n2, n3, hch⟩ := id hT1
          have hpos := hS.pos
          have hhd : (ns.drop i).headD 0 = ns.getD i 0 := by
            rw [List.getD_eq_getElem?_getD]
            by_cases hil : i < ns.length
            · rw [List.drop_eq_getElem_cons hil, List.getElem?_eq_getElem hil]; rfl
            · rw [List.drop_eq_nil_of_le (by omega), List.getElem?_eq_none (by omega)]; rfl
          have htl : (ns.drop i).tail = ns.drop (i + 1) := List.tail_drop
          have htt2 : tout di (cs.getD (numAt ws ((ns.drop i).headD 0 % ws.sum)) .z) (ns.drop i).tail = tout d t ns := htt
          rw [hhd, htl] at htt2
          obtain ⟨hj1, hj2⟩ := numAt_lt (ws := ws) (p := ns.getD i 0 % ws.sum) (fun z hz => (hS.each z hz).1) (Int.emod_nonneg _ (by omega)) (Int.emod_lt_of_pos _ hpos)
          generalize hj0 : numAt ws (ns.getD i 0 % ws.sum) = j0 at htt2 hj1 hj2
          refine Z.ixL (lstL ht) (show atI [V.str "pick", .ref w', .ref cc] 0 = some (.str "pick") from rfl) ?_
          walk_at "z"
          refine Z.no (by decide +kernel) ?_
          walk_at "z"
          obtain ⟨⟨dx1, he1⟩, hn1⟩ := id hX1
          refine Or.inr ?_
          walk_at "z"
          refine ⟨x, dx1, _, rfl, he1, rfl, ?_⟩
          walk_at "z"
          refine Z.ixL (lstL ht) (show atI [V.str "pick", .ref w', .ref cc] 1 = some (.ref w') from rfl) ?_
          walk_at "z"
          refine Z.listL (lstL hw) (fun b H2 nb k2 e2 => ?_)
          have hT2 := hT1.kp0 k2
          have ep2 := k2.get nin0 ep1
          walk_at "z"
          refine ⟨x, n, b, ns, ws, i, rfl, ⟨⟨dx1, k2.get nin0 he1⟩, k2.get nin0 hn1⟩, e2, hS.ok, hz, by omega, by omega, fun H3 k3 hX3 => ?_⟩
          rw [hj0]
          have ntx : ∀ y ∈ [x], NoTup H2 y := fun y hy => by
            rw [List.mem_singleton.mp hy]
            exact NoTup.of (k2.get nin0 he1) fun xs => ⟨by simp, by simp⟩
          have hT3 := hT2.kpM k3 (by simp [hxM]) ntx
          have ep3 := k3.get (nin1 npx) ep2
          walk_at "z"
          refine ⟨Z.tyL ep3, ?_⟩
          walk_at "z"
          refine Z.app ep3 (Z.szl (m := 1000) (by rw [List.length_map]; omega)) ?_
          have k4 : Kp [pt] H3 (upd H3 pt (.lst (L.map V.int ++ [V.int (j0 : Int)]))) := Kp.put (by simp)
          have ep4 : upd H3 pt (.lst (L.map V.int ++ [V.int (j0 : Int)])) pt = some (.lst ((L ++ [(j0 : Int)]).map V.int)) := by rw [upd_same, List.map_append]; rfl
          generalize upd H3 pt (.lst (L.map V.int ++ [V.int (j0 : Int)])) = H4 at k4 ep4 ⊢
          have hT4 := hT3.kpx hptM k4 ep3
          have k04 : Kp [x, pt] H H4 := ((k1.trans (k2.sub (by simp))).trans (k3.sub (by simp))).trans (k4.sub (by simp))
          have hX4 : TpAt T.C_Tape H4 x n ns (i + 1) := by
            obtain ⟨⟨dx3, o3⟩, n3'⟩ := hX3
            exact ⟨⟨dx3, k4.get (nin1 npx.symm) o3⟩, k4.get (nin1 nnp) n3'⟩
          obtain ⟨ta', w2, cc2, vs2, hta, ht4, hw4, hcc4, hvl4, _, _, _, hch4⟩ := id hT4
          obtain rfl : ta = ta' := V.ref.inj hta
          obtain ⟨v', hv'⟩ : ∃ v', vs2[j0]? = some v' := ⟨vs2[j0]'(by omega), List.getElem?_eq_getElem (by omega)⟩
          walk_at "z"
          refine Z.ixL (lstL ht4) (show atI [V.str "pick", .ref w2, .ref cc2] 2 = some (.ref cc2) from rfl) ?_
          walk_at "z"
          refine Z.ixL (lstL hcc4) (atI_nat hv') ?_
          walk_at "z"
          exact ⟨_, _, v', di, cs.getD j0 .z, L ++ [(j0 : Int)], rfl, k04, hch4 j0 v' _ hv' (getD_get (by omega)), hck j0 _ (getD_get (by omega)) hj2, by omega, hX4, ep4, by rw [List.length_append, hLl]; rfl, htt2⟩
    · rintro σ' H1 ⟨y3, y4, u, di, ti, L, rfl, k1, hT1, hO1, hdi, _⟩
      omega
end tape13

section deed13
variable {K : PySem.W.Frag}
open GT GU LamK
theorem deed_ex {P : Program} {w : World} {K : PySem.W.Frag} {mg : Str → Option Value} {base : Heap} (T : T P K mg base) : FnOk P w K mg base CX0 7 T.a__law_deed T.fd__law_deed ["tree", "dice", "path"] (spDeed K T.C_Explorer) := by
  refine T.F__law_deed.ok sc__law_deed (fun vs H Q E h => ?_) (fun cdv A outer s H vs Q E hr h => ?_)
  · obtain ⟨v, d, fo, t, M, e, p, w, pt, ps, rs, fin, R, k, rfl, _⟩ := h
    rfl
  · obtain ⟨v, d, fo, t, M, e, p, w, pt, ps, rs, fin, R, k, rfl, hT, hO, hd4, heM, hpM, hptM, npe, npp, npw, hX, hpl, hzw, hpt, hfd, hR, q⟩ := h
    have hpre := fun pre suf (e : R = pre ++ suf) => runs_pre (m := 1) hO (c := (1, 1)) ⟨by decide, by decide⟩ ⟨by decide, by decide⟩ (by omega) _ hR pre suf e
    refine ⟨_, (pss_cons (ps_for PassesOwn.never rfl (pi_range1 (by rfl) T.z_range (pa_cons pe_int pa_nil)) (pg_name (i := 3) sc__law_deed.nd rfl (by first | exact Or.inl rfl | exact Or.inr rfl)) (pss_cons (ps_if (pt_cmpR op_eq (pe_ix ix_list (pv 0) pe_int (fun _ _ => rfl)) pe_str (nomark _)) (pss_one (ps_ret (pe_ix ix_list (pv 0) pe_int (fun _ _ => rfl)))) pss_nil)
      (pss_cons (ps_set (i := 4) sc__law_deed.nd rfl (by first | exact Or.inl rfl | exact Or.inr rfl) (OrP.pe_or2 (pe_meth (pv 1) T.cl_Explorer T.me_Explorer_pick (ok_Explorer_pick T) (hr.mono (by decide)) T.b_Explorer_pick .nil pass0 (pa_cons (pe_callTy c_list (by rfl) T.z_list (by decide +kernel) (pa_cons (pe_ix ix_list (pv 0) pe_int (fun _ _ => rfl)) pa_nil)) pa_nil)) (pe_meth (pv 1) T.cl_Tape T.me_Tape_pick (ok_Tape_pick T) (hr.mono (by decide)) T.b_Tape_pick .nil pass0 (pa_cons (pe_callTy c_list (by rfl) T.z_list (by decide +kernel) (pa_cons (pe_ix ix_list (pv 0) pe_int (fun _ _ => rfl)) pa_nil)) pa_nil))))
      (pss_cons (ps_expr (pe_bm PySem.F.plainAttrs_list PySem.F.slot_list_append PySem.F.type_list_append mt_append (pv 2) (pa_cons (pv 4) pa_nil)))
      (pss_one (ps_set (i := 0) sc__law_deed.nd rfl (by first | exact Or.inl rfl | exact Or.inr rfl) (pe_ix ix_list (pe_ix ix_list (pv 0) pe_int (fun _ _ => rfl)) (pv 4) (fun _ _ => rfl))))))))
      (pss_one (ps_ret pe_non))), ?_⟩
    walk_at "z0"
    walk_at "z"
    refine Z.forr 9 rfl (by decide) (fun i σ' H' => ∃ (y3 y4 : Option V) (u : V) (di : Nat) (ti : Tr) (ps' : List PI) (Ri : List Dt), σ' = [some u, some (.ref e), some (.ref pt), y3, y4] ∧ Kp [e, p, pt] H H' ∧ TrAt K M H' di u ti ∧ TrOk fo di ti ∧ di + i ≤ 4 ∧ Ex K T.C_Explorer H' e p w ps' rs i true fin ∧ i ≤ ps'.length ∧ ps'.length ≤ 10 + i ∧ (∀ z ∈ ps', z.w ≠ pt) ∧ H' pt = some (.lst ((numsD ((ps'.take i).map PI.dat)).map V.int)) ∧ R = (ps'.take i).map PI.dat ++ Ri ∧ fd di ti (chD ((ps'.take i).map PI.dat)) ((ps'.drop i).map PI.dat) = (Ri, some k) ∧ (Ri, k) ∈ runs di ti (chD ((ps'.take i).map PI.dat))) ?_ ?_ ?_
    · exact ⟨_, _, v, d, t, ps, R, rfl, Kp.refl _, hT, hO, by omega, hX, Nat.zero_le _, by omega, hzw, hpt, rfl, hfd, hR⟩
    · rintro i σ' H1 hi ⟨y3, y4, u, di, ti, ps', Ri, rfl, k1, hT1, hO1, hdi, hX1, hip, hpl1, hzw1, ep1, hRe, hf1, hR1⟩
      walk_at "z"
      cases ti with
      | z => exact (TrOk.z_no hO1).elim
      | e k' =>
        obtain ⟨ta, o, rfl, ht, hk, _⟩ := TrAt.e_iff.mp hT1
        have hq : ps'.drop i = [] := by
          cases hq : ps'.drop i with
          | nil => rfl
          | cons x r =>
            rw [hq, List.map_cons, fd_e'] at hf1
            cases (Prod.mk.inj hf1).2
        rw [hq, List.map_nil, fd_e] at hf1
        obtain ⟨rfl, hkk⟩ := Prod.mk.inj hf1
        obtain rfl : k' = k := Option.some.inj hkk
        have htk : ps'.take i = ps' := List.take_of_length_le (by have := congrArg List.length hq; rw [List.length_drop, List.length_nil] at this; omega)
        rw [htk, List.append_nil] at hRe
        rw [htk, ← hRe] at ep1
        refine Z.ixL (lstL ht) (show atI [V.str "end", o] 0 = some (.str "end") from rfl) ?_
        walk_at "z"
        refine Z.yes rfl ?_
        walk_at "z"
        refine Z.ixL (lstL ht) (show atI [V.str "end", o] 1 = some o from rfl) ?_
        walk_at "z"
        exact q H1 o ps' i k1 hX1 hRe.symm hk ep1
      | n ws cs =>
        cases di with
        | zero => exact hO1.elim
        | succ di =>
          obtain ⟨i0, R', hi0, hw0, rfl, hR'⟩ := runs_cons hR1 hO1
          obtain ⟨hS, hcl, hck⟩ := id hO1
          obtain ⟨ta, w', cc, vs, rfl, ht, hw, hcc, hvl, n1, n2, n3, hch⟩ := id hT1
          refine Z.ixL (lstL ht) (show atI [V.str "pick", .ref w', .ref cc] 0 = some (.str "pick") from rfl) ?_
          walk_at "z"
          refine Z.no (by decide +kernel) ?_
          walk_at "z"
          obtain ⟨dx1, he1⟩ := hX1.ob
          refine Or.inl ?_
          walk_at "z"
          refine ⟨e, dx1, _, rfl, he1, rfl, ?_⟩
          walk_at "z"
          refine Z.ixL (lstL ht) (show atI [V.str "pick", .ref w', .ref cc] 1 = some (.ref w') from rfl) ?_
          walk_at "z"
          refine Z.listL (lstL hw) (fun b H2 nb k2 e2 => ?_)
          have hX2 := hX1.kp0 k2
          have hT2 := hT1.kp0 k2
          have ep2 := k2.get nin0 ep1
          walk_at "z"
          obtain ⟨suf, hsuf⟩ := fd_pre hf1
          have hall : R = ps'.map PI.dat ++ suf := by
            rw [hRe, hsuf, ← List.append_assoc, ← List.map_append, List.take_append_drop]
          obtain ⟨l1, l2⟩ := hpre _ _ hall
          rw [← chD_chO] at l1 l2
          refine ⟨e, p, w, b, ws, ps', rs, i, true, fin, rfl, hS.ok, hX2, e2, by omega, hip, l2.mono (by decide), l1.ne, fun H3 ps3 x k3 hX3 hx hor => ?_⟩
          have hkey : x.dat = (ws, i0, chD ((ps'.take i).map PI.dat)) ∧ fd di (cs.getD i0 .z) (stepF ws i0 (chD ((ps'.take i).map PI.dat))) ((ps3.drop (i + 1)).map PI.dat) = (R', some k) ∧ ps3.take (i + 1) = ps'.take i ++ [x] ∧ ps3.length ≤ 10 + (i + 1) ∧ i + 1 ≤ ps3.length := by
            rcases hor with ⟨hlt, rfl⟩ | ⟨hlt, rfl, hxw, hxk, hxf, _⟩
            · have hdr : ps3.drop i = x :: ps3.drop (i + 1) := by
                have h1 : ps3.drop i = ps3[i] :: ps3.drop (i + 1) := List.drop_eq_getElem_cons hlt
                rw [List.getElem?_eq_getElem hlt] at hx
                rw [h1, Option.some.inj hx]
              rw [hdr, List.map_cons] at hf1
              have hf2 : (let r := fd di (cs.getD x.dat.2.1 .z) (stepF x.dat.1 x.dat.2.1 x.dat.2.2) ((ps3.drop (i + 1)).map PI.dat); (x.dat :: r.1, r.2)) = ((ws, i0, chD ((ps3.take i).map PI.dat)) :: R', some k) := hf1
              obtain ⟨h3, h4⟩ := Prod.mk.inj hf2
              obtain ⟨h5, h6⟩ := List.cons.inj h3
              rw [h5] at h6 h4
              refine ⟨h5, Prod.ext h6 h4, ?_, by omega, hlt⟩
              rw [List.take_add_one, hx]
              rfl
            · have hdr : ps'.drop i = [] := List.drop_eq_nil_of_le (by omega)
              have htk : ps'.take i = ps' := List.take_of_length_le (by omega)
              rw [hdr, List.map_nil, htk] at hf1
              rw [htk]
              have hf2 : (match nextN ws 0 with
                | some i => let r := fd di (cs.getD i .z) (stepF ws i (chD (ps'.map PI.dat))) []; ((ws, i, chD (ps'.map PI.dat)) :: r.1, r.2)
                | none => ([], none)) = ((ws, i0, chD (ps'.map PI.dat)) :: R', some k) := hf1
              rw [hxk] at hf2
              obtain ⟨h3, h4⟩ := Prod.mk.inj hf2
              obtain ⟨h5, h6⟩ := List.cons.inj h3
              have h7 : x.k = i0 := (Prod.mk.inj (Prod.mk.inj h5).2).1
              have hdr3 : (ps' ++ [x]).drop (i + 1) = [] := List.drop_eq_nil_of_le (by rw [List.length_append]; show ps'.length + 1 ≤ i + 1; omega)
              refine ⟨?_, ?_, ?_, by rw [List.length_append]; show ps'.length + 1 ≤ _; omega, by rw [List.length_append]; show i + 1 ≤ ps'.length + 1; omega⟩
              · show (x.ws, x.k, x.f) = _
                rw [hxw, h7, hxf]
              · rw [hdr3, List.map_nil, ← h7]
                exact Prod.ext h6 h4
              · rw [hlt, List.take_of_length_le (by rw [List.length_append]; exact Nat.le_refl _)]
          obtain ⟨hxd, hf3, htk3, hl3, hi3⟩ := hkey
          have hxk : x.k = i0 := (Prod.mk.inj (Prod.mk.inj hxd).2).1
          have hzw3 : ∀ z ∈ ps3, z.w ≠ pt := by
            rcases hor with ⟨_, rfl⟩ | ⟨_, rfl, _, _, _, hn⟩
            · exact hzw1
            · intro z hz
              rcases List.mem_append.mp hz with h | h
              · exact hzw1 z h
              · rw [List.mem_singleton.mp h]
                exact fun zz => by rw [zz, ep2] at hn; cases hn
          have nte : ∀ y ∈ [e, p], NoTup H2 y := fun y hy => hX2.nt y (by
            rcases List.mem_cons.mp hy with rfl | hy
            · simp
            · rw [List.mem_singleton.mp hy]; simp)
          have hT3 := hT2.kpM k3 (by simp [heM, hpM]) nte
          have ep3 := k3.get (show pt ∉ [e, p] by simp [npe, npp]) ep2
          walk_at "z"
          rw [hxk]
          refine ⟨Z.tyL ep3, ?_⟩
          walk_at "z"
          refine Z.app ep3 (Z.szl (m := 1000) (by unfold numsD; rw [List.length_map, List.length_map, List.length_map, List.length_take]; omega)) ?_
          have k4 : Kp [pt] H3 (upd H3 pt (.lst ((numsD ((ps'.take i).map PI.dat)).map V.int ++ [V.int (i0 : Int)]))) := Kp.put (by simp)
          have ep4 : upd H3 pt (.lst ((numsD ((ps'.take i).map PI.dat)).map V.int ++ [V.int (i0 : Int)])) pt = some (.lst ((numsD ((ps3.take (i + 1)).map PI.dat)).map V.int)) := by
            rw [upd_same, htk3]
            unfold numsD
            rw [List.map_append, List.map_append, List.map_append]
            show _ = some (HO.lst (_ ++ [V.int ((x.dat.2.1 : Nat) : Int)]))
            rw [hxd]
          generalize upd H3 pt (.lst ((numsD ((ps'.take i).map PI.dat)).map V.int ++ [V.int (i0 : Int)])) = H4 at k4 ep4 ⊢
          have hT4 := hT3.kpx hptM k4 ep3
          have k04 : Kp [e, p, pt] H H4 := ((k1.trans (k2.sub (by simp))).trans (k3.sub (by simp))).trans (k4.sub (by simp))
          have ntpt : ∀ y ∈ [pt], NoTup H3 y := fun y hy => by
            rw [List.mem_singleton.mp hy]
            exact NoTup.lst ep3
          have hX4 : Ex K T.C_Explorer H4 e p w ps3 rs (i + 1) true fin := by
            obtain ⟨dx3, o3⟩ := hX3.ob
            refine ⟨⟨dx3, k4.get (nin1 npe.symm) o3⟩, k4.get (nin1 npp.symm) hX3.path, fun z hz => ?_, k4.get (nin1 npw.symm) hX3.rows, fun r hr => (hX3.rat r hr).kpM k4 ntpt, hX3.pw⟩
            have hz3 := hX3.items z hz
            exact ⟨kpTup hz3.tup k4 ntpt, k4.get (nin1 (hzw3 z hz)) hz3.wat, FrAt.kp hz3.fr k4 ntpt, hz3.lt, hz3.wok, hz3.small⟩
          obtain ⟨ta', w2, cc2, vs2, hta, ht4, hw4, hcc4, hvl4, _, _, _, hch4⟩ := id hT4
          obtain rfl : ta = ta' := V.ref.inj hta
          have hvi : ∃ v', vs2[i0]? = some v' := ⟨vs2[i0]'(by omega), List.getElem?_eq_getElem (by omega)⟩
          obtain ⟨v', hv'⟩ := hvi
          walk_at "z"
          refine Z.ixL (lstL ht4) (show atI [V.str "pick", .ref w2, .ref cc2] 2 = some (.ref cc2) from rfl) ?_
          walk_at "z"
          refine Z.ixL (lstL hcc4) (atI_nat hv') ?_
          walk_at "z"
          refine ⟨_, _, v', di, cs.getD i0 .z, ps3, R', rfl, k04, hch4 i0 v' _ hv' (getD_get (by omega)), hck i0 _ (getD_get (by omega)) hw0, by omega, hX4, hi3, hl3, hzw3, ep4, ?_, ?_, ?_⟩
          · rw [htk3, List.map_append, List.append_assoc, hRe]
            show _ = _ ++ ([x.dat] ++ R')
            rw [hxd]
            rfl
          · rw [htk3, List.map_append]
            show fd di _ (chD (_ ++ [x.dat])) _ = _
            rw [hxd, chD_last]
            exact hf3
          · rw [htk3, List.map_append]
            show _ ∈ runs di _ (chD (_ ++ [x.dat]))
            rw [hxd, chD_last]
            exact hR'
    · rintro σ' H1 ⟨y3, y4, u, di, ti, ps', Ri, rfl, k1, hT1, hO1, hdi, _⟩
      omega
def spDeed2 {P : Program} {K : PySem.W.Frag} {mg : Str → Option Value} {base : Heap} (T : K10.T P K mg base) : Sp := spEx (fun _ : Bool => True) fun b => match b with
  | true => spDeed K T.C_Explorer
  | false => spDeedT K T.C_Tape
theorem ok__law_deed {P : Program} {w : World} {K : PySem.W.Frag} {mg : Str → Option Value} {base : Heap} (T : T P K mg base) : FnOk P w K mg base CX0 7 T.a__law_deed T.fd__law_deed ["tree", "dice", "path"] (spDeed2 T) := fnEx fun b _ => by
  cases b with
  | true => exact deed_ex T
  | false => exact deed_tp T
end deed13

section bnd10
variable {K : PySem.W.Frag}
open GT GU LamK
theorem low_zero : Low (0, 1) := ⟨by decide, by decide⟩
theorem rv_zero : rv (0, 1) = 0 := by unfold rv; grind
theorem natR0 (n : Nat) : (0 : Rat) ≤ (n : Rat) := by exact_mod_cast Nat.zero_le n
def DW (D n : Nat) (y : Fr) : Prop := Low y ∧ ∃ z : Int, rv y * (D : Rat) = (z : Rat) ∧ z.natAbs ≤ n * 2 ^ 46
theorem DW.mono {D n m : Nat} {y : Fr} (h : DW D n y) (l : n ≤ m) : DW D m y := let ⟨a, z, h1, h2⟩ := h; ⟨a, z, h1, Nat.le_trans h2 (Nat.mul_le_mul_right _ l)⟩
theorem DW.add {D n m : Nat} {y x : Fr} (h : DW D n y) (g : DW D m x) : DW D (n + m) (fplus y x) := by
  obtain ⟨a, z, h1, h2⟩ := h
  obtain ⟨b, u, g1, g2⟩ := g
  refine ⟨fplus_low a.ne b.ne, z + u, ?_, ?_⟩
  · have e : ((z + u : Int) : Rat) = (z : Rat) + (u : Rat) := by exact_mod_cast rfl
    rw [rv_fplus a.ne b.ne, e, ← h1, ← g1]
    grind
  · rw [Nat.add_mul]; omega
theorem DW.zero (D : Nat) : DW D 0 (0, 1) := ⟨low_zero, 0, by rw [rv_zero, show ((0 : Int) : Rat) = 0 by rfl]; grind, by simp⟩
theorem DW.B {D n : Nat} {y : Fr} (h : DW D n y) (hn : n ≤ 100) (hD1 : 1 ≤ D) (hD : D ≤ 2 ^ 46) : FrB 60 y := by
  obtain ⟨a, z, h1, h2⟩ := h
  refine den_B (D := D) (n := 53) (d := 46) a ⟨z, h1, ?_⟩ hD1 hD (by decide) (by decide)
  exact Nat.le_trans h2 (Nat.le_trans (Nat.mul_le_mul_right _ hn) (by decide))
theorem stp_dw {D n : Nat} {acc : List (PyData × Fr)} {x : PyData × Fr} (ha : ∀ y ∈ acc, DW D n y.2) (hx : DW D 1 x.2) : ∀ y ∈ stp acc x, DW D (n + 1) y.2 := fun y hy => by
  rcases List.eq_nil_or_concat acc with rfl | ⟨o, z, e⟩
  · rw [stp_nil, List.mem_singleton] at hy
    rw [hy]
    exact hx.mono (by omega)
  · rw [List.concat_eq_append] at e
    subst e
    rw [stp_last] at hy
    split at hy
    · rcases List.mem_append.mp hy with h | h
      · exact (ha y (by simp [h])).mono (by omega)
      · rw [List.mem_singleton.mp h]
        exact (ha z (by simp)).add hx
    · rcases List.mem_append.mp hy with h | h
      · exact (ha y h).mono (by omega)
      · rw [List.mem_singleton.mp h]
        exact hx.mono (by omega)
theorem fold_dw {D : Nat} : ∀ {l acc : List (PyData × Fr)} {n : Nat}, (∀ y ∈ acc, DW D n y.2) → (∀ x ∈ l, DW D 1 x.2) → ∀ y ∈ l.foldl stp acc, DW D (n + l.length) y.2
  | [], acc, n, ha, _ => ha
  | x :: l, acc, n, ha, hl => fun y hy => by
    have := fold_dw (l := l) (acc := stp acc x) (n := n + 1) (stp_dw ha (hl x (by simp))) (fun z hz => hl z (by simp [hz])) y hy
    exact this.mono (by rw [List.length_cons]; omega)
theorem gstp_dw {D n : Nat} {acc : List KF} {x : KF} (ha : ∀ y ∈ acc, DW D n y.2) (hx : DW D 1 x.2) : ∀ y ∈ gstp acc x, DW D (n + 1) y.2 := fun y hy => by
  have hg : DW D n ((gval acc x.1).getD (0, 1)) := by
    cases e : gval acc x.1 with
    | none => exact (DW.zero D).mono (Nat.zero_le _)
    | some g => exact ha _ (gval_mem e)
  unfold gstp gput at hy
  split at hy
  · obtain ⟨z, hz, rfl⟩ := List.mem_map.mp hy
    split
    · exact hg.add hx
    · exact (ha z hz).mono (by omega)
  · rcases List.mem_append.mp hy with hy | hy
    · exact (ha y hy).mono (by omega)
    · rw [List.mem_singleton.mp hy]
      exact hg.add hx
theorem gfold_dw {D : Nat} : ∀ {l acc : List KF} {n : Nat}, (∀ y ∈ acc, DW D n y.2) → (∀ x ∈ l, DW D 1 x.2) → ∀ y ∈ l.foldl gstp acc, DW D (n + l.length) y.2
  | [], acc, n, ha, _ => ha
  | x :: l, acc, n, ha, hl => fun y hy => by
    have := gfold_dw (l := l) (acc := gstp acc x) (n := n + 1) (gstp_dw ha (hl x (by simp))) (fun z hz => hl z (by simp [hz])) y hy
    exact this.mono (by rw [List.length_cons]; omega)
theorem fsum_dw {D : Nat} : ∀ {l : List Fr} {t : Fr} {n : Nat}, DW D n t → (∀ x ∈ l, DW D 1 x) → DW D (n + l.length) (fsum t l)
  | [], t, n, ha, _ => ha
  | x :: l, t, n, ha, hl => by
    have := fsum_dw (l := l) (t := fplus t x) (ha.add (hl x (by simp))) fun z hz => hl z (by simp [hz])
    exact this.mono (by rw [List.length_cons]; omega)
theorem div2520 {s : Int} (h1 : 1 ≤ s) (h9 : s ≤ 9) : ∃ q : Int, s * q = 2520 := by
  have : s = 1 ∨ s = 2 ∨ s = 3 ∨ s = 4 ∨ s = 5 ∨ s = 6 ∨ s = 7 ∨ s = 8 ∨ s = 9 := by omega
  rcases this with rfl | rfl | rfl | rfl | rfl | rfl | rfl | rfl | rfl
  · exact ⟨2520, rfl⟩
  · exact ⟨1260, rfl⟩
  · exact ⟨840, rfl⟩
  · exact ⟨630, rfl⟩
  · exact ⟨504, rfl⟩
  · exact ⟨420, rfl⟩
  · exact ⟨360, rfl⟩
  · exact ⟨315, rfl⟩
  · exact ⟨280, rfl⟩
theorem runs_den {fo : Nat} : ∀ {d : Nat} {t : Tr} {c : Fr} {m E : Nat}, TrOk fo d t → Low c → FrB m c → (∃ z : Int, rv c * (E : Rat) = (z : Rat)) → ∀ r ∈ runs d t c, ∃ z : Int, rv (chO c r.1) * ((E * 2520 ^ d : Nat) : Rat) = (z : Rat) := by
  intro d
  induction d with
  | zero =>
    intro t c m E h hc hB hz r hr
    cases t with
    | z => exact h.elim
    | e k =>
      rw [runs_e, List.mem_singleton] at hr
      subst hr
      rw [Nat.pow_zero, Nat.mul_one]
      exact hz
    | n ws cs => exact h.elim
  | succ d ih =>
    intro t c m E h hc hB hz r hr
    cases t with
    | z => exact h.elim
    | e k =>
      rw [runs_e, List.mem_singleton] at hr
      subst hr
      obtain ⟨z, hz⟩ := hz
      refine ⟨z * ((2520 ^ (d + 1) : Nat) : Int), ?_⟩
      have e1 : ((z * ((2520 ^ (d + 1) : Nat) : Int) : Int) : Rat) = (z : Rat) * ((2520 ^ (d + 1) : Nat) : Rat) := by exact_mod_cast rfl
      have e2 : ((E * 2520 ^ (d + 1) : Nat) : Rat) = (E : Rat) * ((2520 ^ (d + 1) : Nat) : Rat) := by exact_mod_cast rfl
      rw [e1, e2, ← hz]
      show rv c * _ = _
      grind
    | n ws cs =>
      obtain ⟨R, k⟩ := r
      obtain ⟨i, R', hi, hw, rfl, hr'⟩ := runs_cons hr h
      obtain ⟨hS, hl, hk⟩ := h
      obtain ⟨s1, s2, s3⟩ := hS.step hc hB i
      obtain ⟨z, hz⟩ := hz
      obtain ⟨q, hq⟩ := div2520 (s := ws.sum) hS.pos hS.sum9
      have hsr : (ws.sum : Rat) ≠ 0 := ratNe (by have := hS.pos; omega)
      have hz2 : ∃ z : Int, rv (stepF ws i c) * ((E * 2520 : Nat) : Rat) = (z : Rat) := by
        refine ⟨z * ws.getD i 0 * q, ?_⟩
        have e1 : ((z * ws.getD i 0 * q : Int) : Rat) = (z : Rat) * (ws.getD i 0 : Rat) * (q : Rat) := by exact_mod_cast rfl
        have e2 : ((E * 2520 : Nat) : Rat) = (E : Rat) * ((ws.sum : Rat) * (q : Rat)) := by
          have h3 : ((E * 2520 : Nat) : Rat) = (E : Rat) * ((2520 : Int) : Rat) := by exact_mod_cast rfl
          have h4 : ((2520 : Int) : Rat) = (ws.sum : Rat) * (q : Rat) := by rw [← hq]; exact_mod_cast rfl
          rw [h3, h4]
        rw [s3, e1, e2, ← hz]
        grind
      obtain ⟨u, hu⟩ := ih (hk i _ (getD_get (by omega)) hw) s1 s2 hz2 _ hr'
      refine ⟨u, ?_⟩
      rw [chO_cons, ← hu]
      congr 2
      rw [Nat.pow_succ, Nat.mul_assoc, Nat.mul_comm 2520]
theorem le_sum {x : Rat} : ∀ {l : List Rat}, (∀ y ∈ l, 0 ≤ y) → x ∈ l → x ≤ l.sum
  | [], _, h => by cases h
  | y :: l, h0, h => by
    have hs : ∀ {l : List Rat}, (∀ y ∈ l, 0 ≤ y) → 0 ≤ l.sum := fun {l} h => by
      induction l with
      | nil => show (0 : Rat) ≤ 0; grind
      | cons a r ih =>
        have h1 := h a (by simp)
        have h2 := ih fun z hz => h z (by simp [hz])
        rw [List.sum_cons]; grind
    rw [List.sum_cons]
    have hy := h0 y (by simp)
    rcases List.mem_cons.mp h with rfl | h
    · have := hs (l := l) fun z hz => h0 z (by simp [hz])
      grind
    · have := le_sum (l := l) (fun z hz => h0 z (by simp [hz])) h
      grind
def D4 : Nat := 2520 ^ 4
theorem D4_B : 1 ≤ D4 ∧ D4 ≤ 2 ^ 46 := by unfold D4; exact ⟨by decide, by decide⟩
/-- the runs of a tree, all that is asked of them -/
theorem runs_dw {fo : Nat} {t : Tr} (h : TrOk fo 4 t) : ∀ r ∈ runs 4 t (1, 1), DW D4 1 (chD r.1) ∧ kfm r.2 = fo ∧ StrsOk r.2 ∧ 0 < rv (chD r.1) ∧ r.1.length ≤ 4 := fun r hr => by
  have h1 : Low (1, 1) := ⟨by decide, by decide⟩
  have hB : FrB 1 (1, 1) := ⟨by decide, by decide⟩
  have hr1 : rv (1, 1) = 1 := by rw [rv_int]; rfl
  have hp : 0 < rv (1, 1) := by rw [hr1]; decide
  have g := runs_mem h h1 hB hp r hr
  obtain ⟨z, hz⟩ := runs_den (E := 1) h h1 hB ⟨1, by rw [hr1, show ((1 : Nat) : Rat) = 1 by rfl, show ((1 : Int) : Rat) = 1 by rfl]; grind⟩ r hr
  rw [Nat.one_mul] at hz
  have hle : rv (chO (1, 1) r.1) ≤ 1 := by
    have hs := runs_sum h h1 hB
    rw [hr1] at hs
    rw [← hs]
    refine le_sum (fun y hy => ?_) (List.mem_map.mpr ⟨r, hr, rfl⟩)
    obtain ⟨r', hr', rfl⟩ := List.mem_map.mp hy
    have := (runs_mem h h1 hB hp r' hr').pos
    grind
  have hDB := D4_B.2
  unfold D4
  unfold D4 at hDB
  generalize (2520 ^ 4 : Nat) = N at hz hDB ⊢
  refine ⟨⟨g.low, z, hz, ?_⟩, g.form, g.str, g.pos, g.len⟩
  have hD : (0 : Rat) ≤ (N : Rat) := natR0 N
  have a1 := Rat.mul_nonneg (show 0 ≤ rv (chO (1, 1) r.1) by have := g.pos; grind) hD
  have a2 := Rat.mul_le_mul_of_nonneg_right hle hD
  rw [hz] at a1 a2
  have b1 : 0 ≤ z := by exact_mod_cast a1
  have b2 : z ≤ (N : Int) := by
    have : (z : Rat) ≤ ((N : Int) : Rat) := by
      have e : ((N : Int) : Rat) = (N : Rat) := by exact_mod_cast rfl
      rw [e]; grind
    exact_mod_cast this
  omega
end bnd10

section facts10
variable {K : PySem.W.Frag}
open GT GU
open LamX hiding takes0
open LamK
theorem kfm0 {k : OK} (h : kfm k = 0) : ∃ i, k = .inl (.inl i) := by
  unfold kfm at h
  split at h <;> first | exact ⟨_, rfl⟩ | cases h
theorem kfm1 {k : OK} (h : kfm k = 1) : ∃ s, k = .inl (.inr s) := by
  unfold kfm at h
  split at h <;> first | exact ⟨_, rfl⟩ | cases h
theorem kfm2 {k : OK} (h : kfm k = 2) : ∃ i s, k = .inr [.inl i, .inr s] := by
  unfold kfm at h
  split at h <;> first | exact ⟨_, _, rfl⟩ | cases h
theorem kfm_alike {fo : Nat} (hfo : fo ≤ 2) {a b : OK} (ha : kfm a = fo) (hb : kfm b = fo) : PySem.W.alike (okD a) (okD b) = true := by
  have : fo = 0 ∨ fo = 1 ∨ fo = 2 := by omega
  rcases this with rfl | rfl | rfl
  · obtain ⟨i, rfl⟩ := kfm0 ha
    obtain ⟨j, rfl⟩ := kfm0 hb
    rfl
  · obtain ⟨i, rfl⟩ := kfm1 ha
    obtain ⟨j, rfl⟩ := kfm1 hb
    rfl
  · obtain ⟨i, s, rfl⟩ := kfm2 ha
    obtain ⟨j, u, rfl⟩ := kfm2 hb
    rfl
theorem keys_ok {fo : Nat} (hfo : fo ≤ 2) {ks : List OK} (h : ∀ k ∈ ks, kfm k = fo) : KeyOk (ks.map okD) := by
  refine ⟨fun d hd d' hd' => ?_, ?_⟩
  · obtain ⟨a, ha, rfl⟩ := List.mem_map.mp hd
    obtain ⟨b, hb, rfl⟩ := List.mem_map.mp hd'
    exact kfm_alike hfo (h a ha) (h b hb)
  · by_cases h2 : fo = 2
    · refine .inl fun d hd => ?_
      obtain ⟨a, ha, rfl⟩ := List.mem_map.mp hd
      obtain ⟨i, s, rfl⟩ := kfm2 ((h a ha).trans h2)
      exact ⟨_, _, rfl⟩
    · refine .inr fun d hd => ?_
      obtain ⟨a, ha, rfl⟩ := List.mem_map.mp hd
      have : fo = 0 ∨ fo = 1 := by omega
      rcases this with rfl | rfl
      · obtain ⟨i, rfl⟩ := kfm0 (h a ha)
        exact ⟨by simp [okD, kD], by simp [okD, kD]⟩
      · obtain ⟨i, rfl⟩ := kfm1 (h a ha)
        exact ⟨by simp [okD, kD], by simp [okD, kD]⟩
theorem kfm_fm {fo : Nat} (hfo : fo ≤ 2) {k : OK} (h : kfm k = fo) : fm k = decide (fo = 2) := by
  have : fo = 0 ∨ fo = 1 ∨ fo = 2 := by omega
  rcases this with rfl | rfl | rfl
  · obtain ⟨i, rfl⟩ := kfm0 h
    rfl
  · obtain ⟨i, rfl⟩ := kfm1 h
    rfl
  · obtain ⟨i, s, rfl⟩ := kfm2 h
    rfl
def rKF (r : List Dt × OK) : KF := (r.2, chD r.1)
theorem runs_81 {fo : Nat} {t : Tr} (h : TrOk fo 4 t) : (runs 4 t (1, 1)).length ≤ 81 := runs_len h
theorem low_rv {f : Fr} (h : Low f) : fless f (0, 1) = decide (rv f < 0) := by rw [fless_iff h.1 (by decide), rv_zero]
theorem law_in10 {fo : Nat} {t : Tr} (hO : TrOk fo 4 t) (hfo : fo ≤ 2) {rs : List LRow} {H : Hp} (h : rs.map LRow.dat = ((runs 4 t (1, 1)).map rKF).map emb) (hA : ∀ r ∈ rs, LRowAt K H r) : LawIn K H rs ∧ chOkB (rs.map LRow.f) = true := by
  have hdw := runs_dw hO
  have h81 := runs_81 hO
  have hlen : rs.length = (runs 4 t (1, 1)).length := by
    have := congrArg List.length h
    rwa [List.length_map, List.length_map, List.length_map] at this
  have hf : rs.map LRow.f = (runs 4 t (1, 1)).map fun r => chD r.1 := by
    have e : rs.map LRow.f = (rs.map LRow.dat).map Prod.snd := by rw [List.map_map]; rfl
    rw [e, h, List.map_map, List.map_map]
    rfl
  have hd : rs.map LRow.d = ((runs 4 t (1, 1)).map Prod.snd).map okD := by
    have e : rs.map LRow.d = (rs.map LRow.dat).map Prod.fst := by rw [List.map_map]; rfl
    rw [e, h, List.map_map, List.map_map, List.map_map]
    rfl
  have hfd : ∀ f ∈ rs.map LRow.f, DW D4 1 f := fun f hff => by
    rw [hf] at hff
    obtain ⟨r, hr, rfl⟩ := List.mem_map.mp hff
    exact (hdw r hr).1
  have hrd : ∀ r ∈ rs, DW D4 1 r.f := fun r hr => hfd r.f (List.mem_map.mpr ⟨r, hr, rfl⟩)
  refine ⟨⟨hA, ?_, ⟨fun f hff => ?_, fun i => ?_⟩, fun i y hy => ?_, by omega⟩, ?_⟩
  · rw [hd]
    refine keys_ok hfo fun k hk => ?_
    obtain ⟨r, hr, rfl⟩ := List.mem_map.mp hk
    exact (hdw r hr).2.1
  · have g := hfd f hff
    exact ⟨(g.B (by decide) D4_B.1 D4_B.2).mono (by decide), g.1.ne⟩
  · have g := fsum_dw (l := (rs.map LRow.f).take i) (DW.zero D4) fun x hx => hfd x (List.mem_of_mem_take hx)
    exact ⟨(g.B (by rw [List.length_take, List.length_map]; omega) D4_B.1 D4_B.2).mono (by decide), g.1.ne⟩
  · have g := fold_dw (D := D4) (l := ((srtd rs).map LRow.dat).take i) (acc := []) (n := 0) (by simp) (fun x hx => by
      obtain ⟨r, hr, rfl⟩ := List.mem_map.mp (List.mem_of_mem_take hx)
      exact hrd r (mem_srtd.mp hr)) y hy
    have hsl : (srtd rs).length = rs.length := (List.mergeSort_perm rs _).length_eq
    exact ⟨(g.B (by rw [List.length_take, List.length_map, hsl]; omega) D4_B.1 D4_B.2).mono (by decide), g.1.ne⟩
  · unfold chOkB
    have hall : ((rs.map LRow.f).all fun f => !fless f (0, 1)) = true := List.all_eq_true.mpr fun f hff => by
      rw [hf] at hff
      obtain ⟨r, hr, rfl⟩ := List.mem_map.mp hff
      have g := hdw r hr
      rw [low_rv g.1.1, decide_eq_false (by have := g.2.2.2.1; grind)]
      rfl
    rw [hall, Bool.true_and, decide_eq_true_eq]
    have hs := rv_fsum (fs := rs.map LRow.f) low_zero fun f hff => (hfd f hff).1.ne
    refine low_eq hs.2 ⟨by decide, by decide⟩ ?_
    rw [hs.1, rv_zero, hf, List.map_map]
    have h1 := runs_sum (c := (1, 1)) (m := 1) hO ⟨by decide, by decide⟩ ⟨by decide, by decide⟩
    have e : (runs 4 t (1, 1)).map (rv ∘ fun r => chD r.1) = (runs 4 t (1, 1)).map fun r => rv (chO (1, 1) r.1) := rfl
    rw [e, h1]
    grind
theorem gath_ok10 {fo : Nat} {t : Tr} (hO : TrOk fo 4 t) (hfo : fo ≤ 2) : GathOk (decide (fo = 2)) ((runs 4 t (1, 1)).map rKF) ∧ (∀ x ∈ (runs 4 t (1, 1)).map rKF, Low x.2 ∧ fm x.1 = decide (fo = 2)) ∧ (∀ x ∈ gathOf ((runs 4 t (1, 1)).map rKF), StrsOk x.1) := by
  have hdw := runs_dw hO
  have h81 := runs_81 hO
  have hx : ∀ x ∈ (runs 4 t (1, 1)).map rKF, DW D4 1 x.2 ∧ kfm x.1 = fo ∧ StrsOk x.1 := fun x hx => by
    obtain ⟨r, hr, rfl⟩ := List.mem_map.mp hx
    exact ⟨(hdw r hr).1, (hdw r hr).2.1, (hdw r hr).2.2.1⟩
  have hg : ∀ x ∈ gsum ((runs 4 t (1, 1)).map rKF), kfm x.1 = fo ∧ StrsOk x.1 := fun x hxx => by
    rcases gsum_keys hxx with h | h
    · obtain ⟨y, hy, e⟩ := List.mem_map.mp h
      rw [← e]
      exact (hx y hy).2
    · cases h
  refine ⟨⟨fun x h => kfm_fm hfo (hx x h).2.1, fun x h => kfm_fm hfo (hg x h).1, by rw [List.length_map]; omega, fun x h => ⟨(hx x h).1.1.1, ((hx x h).1.B (by decide) D4_B.1 D4_B.2).mono (by decide)⟩, fun i y hy => ?_, ?_, ?_, fun x h => (hg x h).2⟩, fun x h => ⟨(hx x h).1.1, kfm_fm hfo (hx x h).2.1⟩, fun x h => ?_⟩
  · have g := gfold_dw (D := D4) (l := ((runs 4 t (1, 1)).map rKF).take i) (acc := []) (n := 0) (by simp) (fun x h => (hx x (List.mem_of_mem_take h)).1) y hy
    exact ⟨g.1.1, (g.B (by rw [List.length_take, List.length_map]; omega) D4_B.1 D4_B.2).mono (by decide)⟩
  · have h := (keys_ok hfo (ks := (gsum ((runs 4 t (1, 1)).map rKF)).map Prod.fst) fun k hk => by
      obtain ⟨y, hy, rfl⟩ := List.mem_map.mp hk
      exact (hg y hy).1).1
    rw [List.map_map] at h
    exact h
  · have h := (keys_ok hfo (ks := (gsum ((runs 4 t (1, 1)).map rKF)).map Prod.fst) fun k hk => by
      obtain ⟨y, hy, rfl⟩ := List.mem_map.mp hk
      exact (hg y hy).1).2
    rw [List.map_map] at h
    exact h
  · unfold gathOf at h
    exact (hg x ((List.mergeSort_perm _ _).mem_iff.mp (List.mem_filter.mp h).1)).2
/-! rows as data -/
def rowP (x : PyData × Fr) : PyData := .tuple [x.1, frD x.2]
theorem dpLRow {H : Hp} {r : LRow} (h : LRowAt K H r) : Dp K H r.r (rowP r.dat) := .tup h.tup (.cons h.dp (.cons (dpF h.fr) .nil))
theorem dpLRows {H : Hp} : ∀ {rs : List LRow}, (∀ r ∈ rs, LRowAt K H r) → DpAll K H (rs.map LRow.r) ((rs.map LRow.dat).map rowP)
  | [], _ => .nil
  | r :: rs, h => .cons (dpLRow (h r (by simp))) (dpLRows fun x hx => h x (by simp [hx]))
theorem dpGRows {H : Hp} : ∀ {gs : List GRow}, (∀ g ∈ gs, GRowAt K H g) → DpAll K H (gs.map GRow.r) (((gs.map GRow.kf).map emb).map rowP)
  | [], _ => .nil
  | g :: gs, h => .cons (.tup (h g (by simp)).tup (.cons (h g (by simp)).key.dp (.cons (dpF (h g (by simp)).fr) .nil))) (dpGRows fun x hx => h x (by simp [hx]))
theorem lay_rows : ∀ {xs : List KF}, (∀ x ∈ xs, StrsOk x.1) → PyData.canLayAll0 ((xs.map emb).map rowP) = true
  | [], _ => by simp [PyData.canLayAll0]
  | x :: r, h => by
    have ih := lay_rows (xs := r) fun y hy => h y (by simp [hy])
    have h1 : PyData.canLay0 (okD x.1) = true := SeqAt.canLay_of_shaped (key_ok (h x (by simp))).sh
    show PyData.canLayAll0 (rowP (emb x) :: (r.map emb).map rowP) = true
    have e : PyData.canLay0 (rowP (emb x)) = true := by simp [rowP, emb, frD, PyData.canLay0, PyData.canLayAll0, h1]
    rw [PyData.canLayAll0, e, ih]; rfl
theorem ok_depth2 (k : OK) : (okD k).depth ≤ 5 := by
  cases k with
  | inr ks =>
    have := keys_depth ks
    show (keyD ks).depth ≤ 5
    unfold keyD
    simp [PyData.depth]
    omega
  | inl k => cases k <;> simp [okD, kD, PyData.depth]
theorem depth_rows : ∀ xs : List KF, PyData.depthAll ((xs.map emb).map rowP) ≤ 6
  | [] => by simp [PyData.depthAll]
  | x :: r => by
    have ih := depth_rows r
    have h1 := ok_depth2 x.1
    show PyData.depthAll (rowP (emb x) :: (r.map emb).map rowP) ≤ 6
    have e : (rowP (emb x)).depth ≤ 6 := by
      simp [rowP, emb, frD, PyData.depth, PyData.depthAll]
      omega
    rw [PyData.depthAll]
    omega
theorem sh_rows {xs : List KF} (h : ∀ x ∈ xs, StrsOk x.1) : SeqAt.shaped (.list ((xs.map emb).map rowP)) = true := by
  have := depth_rows xs
  simp only [SeqAt.shaped, PyData.canLay0, PyData.depth, lay_rows h, Bool.true_and]
  exact decide_eq_true (by omega)
theorem eqv_rows10 {xs : List KF} (h : ∀ x ∈ xs, StrsOk x.1) : PyData.eqv (.list ((xs.map emb).map rowP)) (.list ((xs.map emb).map rowP)) = true := SeqAt.eqv_refl _ (by rw [PyData.canLay0]; exact lay_rows h)
/-! lists of paths -/
def pathP (ns : List Int) : PyData := .list (ns.map PyData.int)
theorem dpInts10 {H : Hp} : ∀ ns : List Int, DpAll K H (ns.map V.int) (ns.map PyData.int)
  | [] => .nil
  | n :: r => .cons (.int n) (dpInts10 r)
def PthAt (H : Hp) (qs : List Addr) (nss : List (List Int)) : Prop := Paired (fun q ns => H q = some (.lst (ns.map V.int))) qs nss
theorem dpPaths {H : Hp} {qs : List Addr} {nss : List (List Int)} (h : PthAt H qs nss) : DpAll K H (qs.map V.ref) (nss.map pathP) := by
  induction h with
  | nil => exact .nil
  | cons r t ih => exact .cons (.lst (lstL r) (dpInts10 _)) ih
theorem lay_ints : ∀ ns : List Int, PyData.canLayAll0 (ns.map PyData.int) = true
  | [] => by simp [PyData.canLayAll0]
  | n :: r => by
    have := lay_ints r
    rw [List.map_cons, PyData.canLayAll0, this]
    simp [PyData.canLay0]
theorem depth_ints : ∀ ns : List Int, PyData.depthAll (ns.map PyData.int) ≤ 1
  | [] => by simp [PyData.depthAll]
  | n :: r => by
    have := depth_ints r
    rw [List.map_cons, PyData.depthAll]
    simp [PyData.depth]
    omega
theorem lay_paths : ∀ nss : List (List Int), PyData.canLayAll0 (nss.map pathP) = true
  | [] => by simp [PyData.canLayAll0]
  | n :: r => by
    have := lay_paths r
    rw [List.map_cons, PyData.canLayAll0, this]
    simp [pathP, PyData.canLay0, lay_ints]
theorem depth_paths : ∀ nss : List (List Int), PyData.depthAll (nss.map pathP) ≤ 3
  | [] => by simp [PyData.depthAll]
  | n :: r => by
    have h1 := depth_paths r
    have h2 := depth_ints n
    rw [List.map_cons, PyData.depthAll]
    simp [pathP, PyData.depth]
    omega
theorem nePaths {H : Hp} {Q : VK} {a b : Addr} {qs us : List Addr} {nss : List (List Int)} (h1 : H a = some (.lst (qs.map V.ref))) (h2 : H b = some (.lst (us.map V.ref))) (f1 : PthAt H qs nss) (f2 : PthAt H us nss) (q : Q (.bl false) H) : rNeD K (.ref a) (.ref b) H Q := by
  have sh : SeqAt.shaped (.list (nss.map pathP)) = true := by
    have h3 := depth_paths nss
    have h4 := lay_paths nss
    simp only [SeqAt.shaped, PyData.canLay0, PyData.depth, h4, Bool.true_and]
    exact decide_eq_true (by omega)
  exact ⟨_, _, .lst (lstL h1) (dpPaths f1), .lst (lstL h2) (dpPaths f2), sh, sh, by
    rw [SeqAt.eqv_refl _ (by rw [PyData.canLay0]; exact lay_paths nss)]
    exact q⟩
end facts10

section help13
variable {K : PySem.W.Frag}
open GT GU LamK
def Div (c : Nat) : Nat → Tr → Prop
  | _, .e _ => True
  | d + 1, .n ws cs => ws.sum.toNat ∣ c ∧ ∀ i, 0 < ws.getD i 0 → Div c d (cs.getD i .z)
  | _, _ => False
theorem Div.e_ok {c d : Nat} {k : OK} : Div c d (.e k) := by cases d <;> exact True.intro
theorem Div.mono {c c' : Nat} (h : c ∣ c') : ∀ {d : Nat} {t : Tr}, Div c d t → Div c' d t := by
  intro d
  induction d with
  | zero =>
    intro t hd
    cases t with
    | z => exact hd.elim
    | e k => exact True.intro
    | n ws cs => exact hd.elim
  | succ d ih =>
    intro t hd
    cases t with
    | z => exact hd.elim
    | e k => exact True.intro
    | n ws cs => exact ⟨Nat.dvd_trans hd.1 h, fun i hi => ih (hd.2 i hi)⟩
def Dep : Nat → Nat → Tr → Prop
  | _, _, .e _ => True
  | d + 1, m + 1, .n ws cs => ∀ i, 0 < ws.getD i 0 → Dep d m (cs.getD i .z)
  | _, _, _ => False
theorem Dep.e_ok {d m : Nat} {k : OK} : Dep d m (.e k) := by cases d <;> cases m <;> exact True.intro
theorem Dep.mono : ∀ {d m m' : Nat} {t : Tr}, m ≤ m' → Dep d m t → Dep d m' t := by
  intro d
  induction d with
  | zero =>
    intro m m' t hm h
    cases t with
    | z => cases m <;> exact h.elim
    | e k => exact Dep.e_ok
    | n ws cs => cases m <;> exact h.elim
  | succ d ih =>
    intro m m' t hm h
    cases t with
    | z => cases m <;> exact h.elim
    | e k => exact Dep.e_ok
    | n ws cs =>
      cases m with
      | zero => exact h.elim
      | succ m =>
        cases m' with
        | zero => omega
        | succ m' => exact fun i hi => ih (by omega) (h i hi)
theorem fit_of {side : Nat} : ∀ {d m : Nat} {t : Tr}, Div side d t → Dep d m t → Fit side d m t := by
  intro d
  induction d with
  | zero =>
    intro m t h g
    cases t with
    | z => exact h.elim
    | e k => exact Fit.e_ok
    | n ws cs => exact h.elim
  | succ d ih =>
    intro m t h g
    cases t with
    | z => exact h.elim
    | e k => exact Fit.e_ok
    | n ws cs =>
      cases m with
      | zero => exact g.elim
      | succ m =>
        obtain ⟨q, hq⟩ := h.1
        exact ⟨⟨q, by rw [hq, Nat.mul_comm]⟩, fun i hi => ih (h.2 i hi) (g i hi)⟩
def spShared (K : PySem.W.Frag) : Sp := fun vs H Q _ => ∃ (p q : Nat), vs = [.int (p : Int), .int (q : Int)] ∧ q < 2 ^ 2400 ∧ Q (.int (Nat.gcd p q : Int)) H
theorem ok__law_shared {P : Program} {w : World} {K : PySem.W.Frag} {mg : Str → Option Value} {base : Heap} (T : T P K mg base) : FnOk P w K mg base CX0 1 T.a__law_shared T.fd__law_shared ["first", "second"] (spShared K) := by
  refine T.F__law_shared.ok sc__law_shared (fun vs H Q E h => ?_) (fun cdv A outer s H vs Q E hr h => ?_)
  · obtain ⟨p, q, rfl, _⟩ := h
    rfl
  · obtain ⟨p, q, rfl, hq, q1⟩ := h
    refine ⟨_, (Z.pss_consJ (ps_for PassesOwn.never rfl (pi_range1 (by rfl) T.z_range (pa_cons pe_int pa_nil)) (pg_name (i := 2) sc__law_shared.nd rfl (by first | exact Or.inl rfl | exact Or.inr rfl)) (pss_cons (ps_if (pt_cmpR op_eq (pv 1) pe_int (nomark _)) (pss_one ps_break) pss_nil)
      (pss_one (ps_par (i := 0) (j := 1) rfl sc__law_shared.nd rfl rfl (by decide) rfl rfl (pa_cons (pv 1) (pa_cons (pe_op op_mod (pe_callTy c_int (by rfl) T.z_int (by decide +kernel) (pa_cons (pv 0) pa_nil)) (pv 1)) pa_nil)) (by rfl)))))
      (pss_one (ps_ret (pv 0)))), ?_⟩
    walk_at "z0"
    walk_at "z"
    refine Z.seqJ (fun σ' H' => ∃ (y z : Option V), σ' = [some (.int (Nat.gcd p q : Int)), y, z] ∧ H' = H) ?_ ?_
    · rintro σ' H' ⟨y, z, rfl, rfl⟩
      walk_at "z"
      exact q1
    · intro N jn
      walk_at "z"
      refine Z.forr 5000 rfl (by decide) (fun i σ' H' => ∃ z : Option V, σ' = [some (.int ((euc i (p, q)).1 : Int)), some (.int ((euc i (p, q)).2 : Int)), z] ∧ H' = H) ?_ ?_ ?_
      · exact ⟨none, rfl, rfl⟩
      · rintro i σ' H' hi ⟨z, rfl, rfl⟩
        walk_at "z"
        refine Z.ite (fun h2 => ?_) (fun h2 => ?_)
        · walk_at "z"
          have h0 : (euc i (p, q)).2 = 0 := by omega
          have eg := euc_gcd i (p, q)
          rw [h0, Nat.gcd_zero_right] at eg
          exact jn _ _ ⟨_, _, by rw [eg], rfl⟩
        · walk_at "z"
          refine Z.iC (by omega) ?_
          walk_at "z"
          have es : euc (i + 1) (p, q) = ((euc i (p, q)).2, (euc i (p, q)).1 % (euc i (p, q)).2) := by
            rw [euc_succ]
            exact if_neg (by omega)
          refine ⟨some (.int (i : Int)), ?_, rfl⟩
          rw [es]
          rfl
      · rintro σ' H' ⟨z, rfl, rfl⟩
        walk_at "z"
        have h0 : (euc 5000 (p, q)).2 = 0 := by
          rw [show (5000 : Nat) = 2 * 2400 + 200 from rfl, euc_add, euc_zero 200 (euc_end 2400 (p, q) hq)]
          exact euc_end 2400 (p, q) hq
        have eg := euc_gcd 5000 (p, q)
        rw [h0, Nat.gcd_zero_right] at eg
        exact jn _ _ ⟨_, _, by rw [eg], rfl⟩
def spPower (K : PySem.W.Frag) : Sp := fun vs H Q _ => ∃ (s m : Nat), vs = [.int (s : Int), .int (m : Int)] ∧ s ≤ 2520 ∧ m ≤ 4 ∧ Q (.int ((s ^ m : Nat) : Int)) H
theorem ok__law_power {P : Program} {w : World} {K : PySem.W.Frag} {mg : Str → Option Value} {base : Heap} (T : T P K mg base) : FnOk P w K mg base CX0 1 T.a__law_power T.fd__law_power ["side", "depth"] (spPower K) := by
  refine T.F__law_power.ok sc__law_power (fun vs H Q E h => ?_) (fun cdv A outer s H vs Q E hr h => ?_)
  · obtain ⟨s, m, rfl, _⟩ := h
    rfl
  · obtain ⟨s, m, rfl, hs, hm, q⟩ := h
    refine ⟨_, (pss_cons (ps_set (i := 2) sc__law_power.nd rfl (by first | exact Or.inl rfl | exact Or.inr rfl) pe_int)
      (pss_cons (ps_for PassesOwn.never rfl (pi_range1 (by rfl) T.z_range (pa_cons (pv 1) pa_nil)) (pg_name (i := 3) sc__law_power.nd rfl (by first | exact Or.inl rfl | exact Or.inr rfl)) (pss_one (ps_set (i := 2) sc__law_power.nd rfl (by first | exact Or.inl rfl | exact Or.inr rfl) (pe_op op_mulW (pv 2) (pv 0)))))
      (pss_one (ps_ret (pv 2))))), ?_⟩
    walk_at "z0"
    walk_at "z"
    refine Z.forr m rfl (by omega) (fun i σ' H' => ∃ y, σ' = [some (.int (s : Int)), some (.int (m : Int)), some (.int ((s ^ i : Nat) : Int)), y] ∧ H' = H) ?_ ?_ ?_
    · exact ⟨none, rfl, rfl⟩
    · rintro i σ' H' hi ⟨y, rfl, rfl⟩
      walk_at "z"
      have hb : s ^ i ≤ 2520 ^ 4 := Nat.le_trans (Nat.pow_le_pow_left hs i) (Nat.pow_le_pow_right (by decide) (by omega))
      refine Z.iC (mul_ok (n := 60) (by rw [Int.natAbs_natCast]; exact Nat.lt_of_le_of_lt hb (by decide)) (by omega)) ?_
      walk_at "z"
      refine ⟨some (.int (i : Int)), ?_, rfl⟩
      rw [← Int.natCast_mul, Nat.pow_succ]
    · rintro σ' H' ⟨y, rfl, rfl⟩
      walk_at "z"
      exact q
def spLists (K : PySem.W.Frag) : Sp := fun vs H Q _ => ∃ (s m : Nat), vs = [.int (s : Int), .int (m : Int)] ∧ 1 ≤ s ∧ m ≤ 4 ∧ s ^ m ≤ 1800 ∧ ∀ (H' : Hp) (D : Addr) (qs : List Addr), Kp [] H H' → H' D = some (.lst (qs.map V.ref)) → PthAt H' qs (lsts s m) → Q (.ref D) H'
theorem lsts_len (s : Nat) : ∀ m, (lsts s m).length = s ^ m
  | 0 => rfl
  | m + 1 => by
    have ih := lsts_len s m
    have : ∀ l : List (List Int), (l.flatMap fun one => (List.range s).map fun n : Nat => one ++ [(n : Int)]).length = l.length * s := fun l => by
      induction l with
      | nil => simp
      | cons a r ih2 => rw [List.flatMap_cons, List.length_append, List.length_map, List.length_range, ih2, List.length_cons, Nat.add_mul]; omega
    show ((lsts s m).flatMap fun one => (List.range s).map fun n : Nat => one ++ [(n : Int)]).length = _
    rw [this, ih, Nat.pow_succ]
theorem lsts_mem {s : Nat} : ∀ {m : Nat} {l : List Int}, l ∈ lsts s m → l.length = m ∧ ∀ z ∈ l, 0 ≤ z ∧ z < (s : Int)
  | 0, l, h => by
    rw [List.mem_singleton.mp h]
    simp
  | m + 1, l, h => by
    obtain ⟨one, h1, h2⟩ := List.mem_flatMap.mp h
    obtain ⟨n, hn, rfl⟩ := List.mem_map.mp h2
    obtain ⟨a, b⟩ := lsts_mem h1
    have hn2 := List.mem_range.mp hn
    refine ⟨by rw [List.length_append, a]; rfl, fun z hz => ?_⟩
    rcases List.mem_append.mp hz with h | h
    · exact b z h
    · rw [List.mem_singleton.mp h]; omega
end help13

section lists13
variable {K : PySem.W.Frag}
open GT GU LamK
theorem TrAt.ref {M : List Addr} {H : Hp} {d : Nat} {v : V} {t : Tr} (h : TrAt K M H d v t) : v = .non ∨ ∃ a, v = .ref a := by
  cases t with
  | z => exact .inl (TrAt.z_iff.mp h)
  | e k =>
    obtain ⟨t, _, e, _⟩ := TrAt.e_iff.mp h
    exact .inr ⟨t, e⟩
  | n ws cs =>
    cases d with
    | zero => exact h.elim
    | succ d =>
      obtain ⟨t, _, _, _, e, _⟩ := h
      exact .inr ⟨t, e⟩
def extL (s : Nat) (one : List Int) : List (List Int) := (List.range s).map fun n : Nat => one ++ [(n : Int)]
theorem pth_app {H : Hp} {qs us : List Addr} {n1 n2 : List (List Int)} (h : PthAt H qs n1) (g : PthAt H us n2) : PthAt H (qs ++ us) (n1 ++ n2) := by
  induction h with
  | nil => exact g
  | cons r t ih => exact .cons r ih
theorem pth_get {H : Hp} : ∀ {qs : List Addr} {nss : List (List Int)} {i : Nat} {v : V}, PthAt H qs nss → (qs.map V.ref)[i]? = some v → ∃ q ns, v = .ref q ∧ nss[i]? = some ns ∧ H q = some (.lst (ns.map V.int))
  | _, _, i, v, .nil, h => by simp at h
  | _, _, 0, v, .cons r t, h => by
    simp at h
    exact ⟨_, _, h.symm, rfl, r⟩
  | _, _, i + 1, v, .cons r t, h => by
    obtain ⟨a, f, e1, e2, e3⟩ := pth_get (i := i) t (by simpa using h)
    exact ⟨a, f, e1, by simpa using e2, e3⟩
theorem pth_kpq {H H' : Hp} {N : List Addr} {qs : List Addr} {nss : List (List Int)} (h : PthAt H qs nss) (k : Kp N H H') (n : ∀ q ∈ qs, q ∉ N) : PthAt H' qs nss := by
  induction h with
  | nil => exact .nil
  | cons r t ih => exact .cons (k.get (n _ (by simp)) r) (ih fun q hq => n q (by simp [hq]))
theorem pth_one {H : Hp} {qs : List Addr} {nss : List (List Int)} {q : Addr} {ns : List Int} (h : PthAt H qs nss) (r : H q = some (.lst (ns.map V.int))) : PthAt H (qs ++ [q]) (nss ++ [ns]) := pth_app h (.cons r .nil)
theorem ok__law_lists {P : Program} {w : World} {K : PySem.W.Frag} {mg : Str → Option Value} {base : Heap} (T : T P K mg base) : FnOk P w K mg base CX0 1 T.a__law_lists T.fd__law_lists ["side", "depth"] (spLists K) := by
  refine T.F__law_lists.ok sc__law_lists (fun vs H Q E h => ?_) (fun cdv A outer s H vs Q E hr h => ?_)
  · obtain ⟨s, m, rfl, _⟩ := h
    rfl
  · obtain ⟨s, m, rfl, hs1, hm, hsm, q⟩ := h
    refine ⟨_, (pss_cons (ps_set (i := 2) sc__law_lists.nd rfl (by first | exact Or.inl rfl | exact Or.inr rfl) (pe_lst (pa_cons (pe_lst pa_nil) pa_nil)))
      (pss_cons (ps_for PassesOwn.never rfl (pi_range1 (by rfl) T.z_range (pa_cons (pv 1) pa_nil)) (pg_name (i := 3) sc__law_lists.nd rfl (by first | exact Or.inl rfl | exact Or.inr rfl)) (pss_cons (ps_set (i := 4) sc__law_lists.nd rfl (by first | exact Or.inl rfl | exact Or.inr rfl) (pe_lst pa_nil))
      (pss_cons (ps_for PassesOwn.never rfl (pi_list (pv 2)) (pg_name (i := 5) sc__law_lists.nd rfl (by first | exact Or.inl rfl | exact Or.inr rfl)) (pss_one (ps_set (i := 4) sc__law_lists.nd rfl (by first | exact Or.inl rfl | exact Or.inr rfl) (pe_op op_cat (pv 4) (pe_lc (own := [("number", 6)]) (g := gName 6) rfl sc__law_lists.nd (pi_range1 (by rfl) T.z_range (pa_cons (pv 0) pa_nil)) (blkOk_by (own := [("number", 6)]) (N := N__law_lists) (sc := defScope s__law_lists) (by decide +kernel)) (fun _ _ _ _ _ => (pg_name (i := 6) sc__law_lists.nd rfl (by first | exact Or.inl rfl | exact Or.inr rfl))) (fun _ _ _ _ _ => pts_nil) (fun _ _ _ _ _ => (pe_op op_cat (pv 5) (pe_lst (pa_cons (pv 6) pa_nil)))))))))
      (pss_one (ps_set (i := 2) sc__law_lists.nd rfl (by first | exact Or.inl rfl | exact Or.inr rfl) (pv 4))))))
      (pss_one (ps_ret (pv 2))))), ?_⟩
    walk_at "z0"
    walk_at "z"
    refine Z.lstK (fun em H1 n1 k1 e1 => ?_)
    walk_at "z"
    refine Z.lstK (fun D0 H2 n2 k2 e2 => ?_)
    walk_at "z"
    refine Z.forr m rfl (by omega) (fun i σ' H' => ∃ (y3 y4 y5 y6 : Option V) (D : Addr) (qs : List Addr), σ' = [some (.int (s : Int)), some (.int (m : Int)), some (.ref D), y3, y4, y5, y6] ∧ Kp [] H H' ∧ H' D = some (.lst (qs.map V.ref)) ∧ PthAt H' qs (lsts s i)) ?_ ?_ ?_
    · exact ⟨_, _, _, _, D0, [em], rfl, k1.trans k2, e2, .cons (k2.get nin0 e1) .nil⟩
    · rintro i σ' H3 hi ⟨y3, y4, y5, y6, D, qs, rfl, k3, eD, hP⟩
      have hqs := Paired.length hP
      rw [lsts_len] at hqs
      have hsi : s ^ (i + 1) ≤ 1800 := Nat.le_trans (Nat.pow_le_pow_right hs1 (by omega)) hsm
      rw [Nat.pow_succ] at hsi
      have hs18 : s ≤ 1800 := Nat.le_trans (Nat.le_mul_of_pos_left _ (Nat.pow_pos hs1)) hsi
      walk_at "z"
      refine Z.lstK (fun L0 H4 n4 k4 e4 => ?_)
      walk_at "z"
      refine Z.forl (qs.map V.ref) (lstL (k4.get nin0 eD)) (fun j σ' H' => ∃ (y5 y6 : Option V) (L : Addr) (us : List Addr), σ' = [some (.int (s : Int)), some (.int (m : Int)), some (.ref D), some (.int (i : Int)), some (.ref L), y5, y6] ∧ Kp [] H3 H' ∧ H' L = some (.lst (us.map V.ref)) ∧ PthAt H' us (((lsts s i).take j).flatMap (extL s)) ∧ us.length = j * s) ?_ ?_ ?_ ?_
      · exact ⟨_, _, L0, [], rfl, k4, e4, .nil, by simp⟩
      · rintro j σ' H5 _ ⟨y5, y6, L, us, rfl, k5, _⟩
        exact lstL (k5.get nin0 eD)
      · rintro j v σ' H5 hv ⟨y5, y6, L, us, rfl, k5, eL, hU, hul⟩
        obtain ⟨one, ns, rfl, hns, hone⟩ := pth_get (pth_kpq hP k5 (by simp)) hv
        have hj : j < qs.length := by
          have := (List.getElem?_eq_some_iff.mp hv).1
          rwa [List.length_map] at this
        have hnl : ns.length = i := (lsts_mem (List.mem_of_getElem? hns)).1
        walk_at "z"
        refine Z.lcr s rfl (by omega) (fun C k H' => ∃ rs : List Addr, Kp [] H5 H' ∧ H' C = some (.lst (rs.map V.ref)) ∧ PthAt H' rs ((List.range k).map fun n : Nat => ns ++ [(n : Int)]) ∧ (∀ r ∈ rs, r ≠ C) ∧ rs.length = k) ?_ ?_ ?_
        · intro C H6 nC k6 e6
          exact ⟨[], k6, e6, .nil, by simp, rfl⟩
        · rintro C k H6 nC hk ⟨rs, k6, e6, hR, hrC, hrl⟩
          dsimp only [wipe, List.set]
          walk_at "z"
          refine ⟨rfl, ?_⟩
          walk_at "z"
          refine Z.lstK (fun o H7 no k7 e7 => ?_)
          refine Z.cat ((k6.trans k7).get nin0 hone) e7 (by rw [List.length_map]; show ns.length + 1 ≤ 100000; omega) (fun r H8 nr k8 e8 => ?_)
          have k78 := k7.trans k8
          have e8' : H8 r = some (.lst ((ns ++ [(k : Int)]).map V.int)) := by rw [e8, List.map_append]; rfl
          have e8C := k78.get nin0 e6
          have nrC : r ≠ C := (ne_of_none (k7.get nin0 e6) nr).symm
          refine ⟨_, e8C, Z.szl (m := 10000) (by rw [List.length_map]; omega), rs ++ [r], (k6.trans k78).mut nC rfl, by rw [upd_same, List.map_append]; rfl, ?_, ?_, by rw [List.length_append, hrl]; rfl⟩
          · rw [List.range_succ, List.map_append]
            have kC : Kp [C] H8 (upd H8 C (.lst (rs.map V.ref ++ [V.ref r]))) := Kp.put (by simp)
            refine pth_one (pth_kpq (pth_kpq hR k78 (by simp)) kC fun x hx => nin1 (hrC x hx)) ?_
            rw [upd_ne nrC]
            exact e8'
          · intro x hx
            rcases List.mem_append.mp hx with h | h
            · exact hrC x h
            · rw [List.mem_singleton.mp h]; exact nrC
        · rintro C H6 nC ⟨rs, k6, e6, hR, hrC, hrl⟩
          walk_at "z"
          have hjs : j * s ≤ 1800 := Nat.le_trans (Nat.mul_le_mul_right _ (by omega : j ≤ s ^ i)) hsi
          refine Z.cat (k6.get nin0 eL) e6 (by rw [List.length_map, List.length_map]; omega) (fun L2 H7 nL2 k7 e7 => ?_)
          walk_at "z"
          refine ⟨_, _, L2, us ++ rs, rfl, (k5.trans k6).trans k7, by rw [e7, List.map_append], ?_, by rw [List.length_append, hul, hrl, Nat.add_mul]; omega⟩
          rw [List.take_add_one, hns, List.flatMap_append]
          refine pth_app (pth_kpq hU (k6.trans k7) (by simp)) ?_
          rw [show (some ns).toList.flatMap (extL s) = extL s ns by simp]
          exact pth_kpq hR k7 (by simp)
      · rintro σ' H5 ⟨y5, y6, L, us, rfl, k5, eL, hU, hul⟩
        rw [List.length_map, hqs, ← lsts_len, List.take_length] at hU
        walk_at "z"
        exact ⟨_, _, _, _, L, us, rfl, k3.trans k5, eL, hU⟩
    · rintro σ' H3 ⟨y3, y4, y5, y6, D, qs, rfl, k3, eD, hP⟩
      walk_at "z"
      exact q H3 D qs k3 eD hP
def spCommon (K : PySem.W.Frag) (n : Nat) : Sp := fun vs H Q _ => ∃ (v : V) (d fo : Nat) (t : Tr), d < n ∧ vs = [v] ∧ TrAt K [] H d v t ∧ TrOk fo d t ∧ Zr d t ∧ ∀ H' (c : Nat), Kp [] H H' → 1 ≤ c → c ∣ 2520 → Div c d t → Q (.int (c : Int)) H'
theorem common_rec {P : Program} {w : World} {K : PySem.W.Frag} {mg : Str → Option Value} {base : Heap} (T : T P K mg base) : ∀ n, FnOk P w K mg base CX0 (n + 6) T.a__law_common T.fd__law_common ["tree"] (spCommon K n)
  | 0 => ⟨fun _ _ _ _ h => by obtain ⟨_, _, _, _, h, _⟩ := h; omega, fun _ _ _ _ _ _ _ _ _ _ _ _ _ h => by obtain ⟨_, _, _, _, h, _⟩ := h; omega⟩
  | n + 1 => by
    have ih := common_rec (w := w) (base := base) T n
    show FnOk P w K mg base CX0 (n + 6 + 1) _ _ _ _
    refine T.F__law_common.ok sc__law_common (fun vs H Q E h => ?_) (fun cdv A outer s H vs Q E hr h => ?_)
    · obtain ⟨v, d, fo, t, _, rfl, _⟩ := h
      rfl
    · obtain ⟨v, d, fo, t, hdn, rfl, hT, hO, hZ, q⟩ := h
      refine ⟨_, (pss_cons (ps_if (pt_cmpR op_eq (pe_ix ix_list (pv 0) pe_int (fun _ _ => rfl)) pe_str (nomark _)) (pss_one (ps_ret pe_int)) pss_nil)
      (pss_cons (ps_set (i := 1) sc__law_common.nd rfl (by first | exact Or.inl rfl | exact Or.inr rfl) (pe_callB (cr_sum rfl) (by rfl) T.z_sum (by decide +kernel) (pa_cons (pe_ix ix_list (pv 0) pe_int (fun _ _ => rfl)) pa_nil)))
      (pss_cons (ps_for PassesOwn.never rfl (pi_list (pe_ix ix_list (pv 0) pe_int (fun _ _ => rfl))) (pg_name (i := 2) sc__law_common.nd rfl (by first | exact Or.inl rfl | exact Or.inr rfl)) (pss_one (ps_if (pt_cmpR o_notN (pv 2) pe_non (nomark _)) (pss_cons (ps_set (i := 3) sc__law_common.nd rfl (by first | exact Or.inl rfl | exact Or.inr rfl) (pe_call ih (hr.mono (by omega)) (by rfl) T.g__law_common T.F__law_common.kp T.b__law_common .nil pass0 (pa_cons (pv 2) pa_nil)))
      (pss_one (ps_set (i := 1) sc__law_common.nd rfl (by first | exact Or.inl rfl | exact Or.inr rfl) (pe_op op_fdivW (pe_op op_mulW (pv 1) (pv 3)) (pe_callB (call_max2 rfl) (by rfl) T.z_max (by decide +kernel) (pa_cons pe_int (pa_cons (pe_callB c_abs (by rfl) T.z_abs (by decide +kernel) (pa_cons (pe_call (ok__law_shared T) (hr.mono (by omega)) (by rfl) T.g__law_shared T.F__law_shared.kp T.b__law_shared .nil pass0 (pa_cons (pv 1) (pa_cons (pv 3) pa_nil))) pa_nil)) pa_nil))))))) pss_nil)))
      (pss_one (ps_ret (pv 1)))))), ?_⟩
      cases t with
      | z => exact (TrOk.z_no hO).elim
      | e k =>
        obtain ⟨t, o, rfl, ht, hk, _⟩ := TrAt.e_iff.mp hT
        walk_at "z0"
        walk_at "z"
        refine Z.ixL (lstL ht) (show atI [V.str "end", o] 0 = some (.str "end") from rfl) ?_
        walk_at "z"
        refine Z.yes rfl ?_
        walk_at "z"
        exact q H 1 (Kp.refl _) (by decide) ⟨2520, rfl⟩ Div.e_ok
      | n ws cs =>
        cases d with
        | zero => exact hO.elim
        | succ d =>
          obtain ⟨hS, hcl, hck⟩ := hO
          obtain ⟨t, w, cc, vs, rfl, ht, hw, hcc, hvl, _, _, _, hch⟩ := hT
          walk_at "z0"
          walk_at "z"
          refine Z.ixL (lstL ht) (show atI [V.str "pick", .ref w, .ref cc] 0 = some (.str "pick") from rfl) ?_
          walk_at "z"
          refine Z.no (by decide +kernel) ?_
          walk_at "z"
          refine Z.ixL (lstL ht) (show atI [V.str "pick", .ref w, .ref cc] 1 = some (.ref w) from rfl) ?_
          walk_at "z"
          refine Z.sumL (ns := ws) (lstL hw) ?_
          walk_at "z"
          refine Z.ixL (lstL ht) (show atI [V.str "pick", .ref w, .ref cc] 2 = some (.ref cc) from rfl) ?_
          walk_at "z"
          have h9 := hS.sum9
          have hp0 := hS.pos
          have hl3 := hS.l3
          have hs0 : ws.sum = ((ws.sum.toNat : Nat) : Int) := by omega
          have hd0 : ws.sum.toNat ∣ 2520 := by
            obtain ⟨q, hq⟩ := div2520 (s := ws.sum) (by omega) h9
            have : (ws.sum.toNat : Int) ∣ ((2520 : Nat) : Int) := ⟨q, by rw [← hs0]; exact hq.symm⟩
            exact Int.natCast_dvd_natCast.mp this
          refine Z.forl vs (lstL hcc) (fun i σ' H' => ∃ (y2 y3 : Option V) (c : Nat), σ' = [some (.ref t), some (.int (c : Int)), y2, y3] ∧ Kp [] H H' ∧ 1 ≤ c ∧ c ∣ 2520 ∧ ws.sum.toNat ∣ c ∧ ∀ j, j < i → 0 < ws.getD j 0 → Div c d (cs.getD j .z)) ?_ ?_ ?_ ?_
          · exact ⟨_, _, ws.sum.toNat, by rw [← hs0], Kp.refl _, by omega, hd0, Nat.dvd_refl _, fun j hj => by omega⟩
          · rintro i σ' H1 _ ⟨y2, y3, c, rfl, k1, _⟩
            exact lstL (k1.get nin0 hcc)
          · rintro i v σ' H1 hv ⟨y2, y3, c, rfl, k1, hc1, hc2, hc3, hc4⟩
            have hi : i < vs.length := (List.getElem?_eq_some_iff.mp hv).1
            have hci := getD_get (cs := cs) (i := i) (by omega)
            have hTi := hch i v _ hv hci
            obtain ⟨hz1, hz2⟩ := hZ i _ hci
            by_cases hw0 : 0 < ws.getD i 0
            · have hOi := hck i _ hci hw0
              obtain ⟨b, rfl⟩ : ∃ b, v = .ref b := by
                rcases hTi.ref with h | h
                · cases e : cs.getD i .z with
                  | z => rw [e] at hOi; exact (TrOk.z_no hOi).elim
                  | e k =>
                    rw [e] at hTi
                    obtain ⟨t, _, e2, _⟩ := TrAt.e_iff.mp hTi
                    exact ⟨t, e2⟩
                  | n ws2 cs2 =>
                    rw [e] at hTi hOi
                    cases d with
                    | zero => exact hOi.elim
                    | succ d =>
                      obtain ⟨t, _, _, _, e2, _⟩ := hTi
                      exact ⟨t, e2⟩
                · exact h
              walk_at "z"
              refine Z.yesN (by simp) ?_
              walk_at "z"
              refine ⟨.ref b, d, fo, cs.getD i .z, by omega, rfl, hTi.kp0 k1, hOi, hz1 hw0, fun H2 o k2 ho1 ho2 hoD => ?_⟩
              have hcl' := Nat.le_of_dvd (by decide) hc2
              have hol := Nat.le_of_dvd (by decide) ho2
              walk_at "z"
              refine Z.iC (mul_ok (n := 12) (by omega) (by omega)) ?_
              walk_at "z"
              refine ⟨c, o, rfl, Nat.lt_of_le_of_lt hol (by decide), ?_⟩
              have hg1 : 1 ≤ Nat.gcd c o := Nat.gcd_pos_of_pos_left _ hc1
              have hgl : Nat.gcd c o ≤ 2520 := Nat.le_trans (Nat.gcd_le_left _ hc1) hcl'
              walk_at "z"
              rw [abs_if]
              refine ⟨_, _, rfl, ?_⟩
              have eg : (if (((Nat.gcd c o : Nat) : Int).natAbs : Int) > 1 then (((Nat.gcd c o : Nat) : Int).natAbs : Int) else 1) = ((Nat.gcd c o : Nat) : Int) := by
                rw [Int.natAbs_natCast]
                split <;> omega
              rw [eg]
              have hco : c * o ≤ 2520 * 2520 := Nat.mul_le_mul hcl' hol
              refine Z.iC (wide_div (b := 64) (by omega) (by omega) (by decide) (by decide)) ?_
              have el : (c : Int) * (o : Int) / ((Nat.gcd c o : Nat) : Int) = ((Nat.lcm c o : Nat) : Int) := by
                unfold Nat.lcm
                rw [Int.natCast_ediv, Int.natCast_mul]
              rw [el]
              walk_at "z"
              refine ⟨_, _, Nat.lcm c o, rfl, k1.trans k2, Nat.lcm_pos hc1 ho1, Nat.lcm_dvd hc2 ho2, Nat.dvd_trans hc3 (Nat.dvd_lcm_left _ _), fun j hj hp => ?_⟩
              by_cases hji : j < i
              · exact (hc4 j hji hp).mono (Nat.dvd_lcm_left _ _)
              · have : j = i := by omega
                rw [this]
                exact hoD.mono (Nat.dvd_lcm_right _ _)
            · have hv0 : v = .non := by
                rw [hz2 hw0] at hTi
                exact TrAt.z_iff.mp hTi
              subst hv0
              walk_at "z"
              refine Z.noN rfl ?_
              walk_at "z"
              refine ⟨_, _, c, rfl, k1, hc1, hc2, hc3, fun j hj hp => ?_⟩
              by_cases hji : j < i
              · exact hc4 j hji hp
              · have : j = i := by omega
                rw [this] at hp
                exact absurd hp hw0
          · rintro σ' H1 ⟨y2, y3, c, rfl, k1, hc1, hc2, hc3, hc4⟩
            walk_at "z"
            refine q H1 c k1 hc1 hc2 ⟨hc3, fun j hp => ?_⟩
            refine hc4 j ?_ hp
            by_cases z : j < vs.length
            · exact z
            · rw [List.getD_eq_getElem?_getD, List.getElem?_eq_none (by omega)] at hp
              exact absurd hp (by decide)
theorem ok__law_common {P : Program} {w : World} {K : PySem.W.Frag} {mg : Str → Option Value} {base : Heap} (T : T P K mg base) : FnOk P w K mg base CX0 11 T.a__law_common T.fd__law_common ["tree"] (spCommon K 5) := common_rec T 5
def spDepth (K : PySem.W.Frag) (n : Nat) : Sp := fun vs H Q _ => ∃ (v : V) (d fo : Nat) (t : Tr), d < n ∧ vs = [v] ∧ TrAt K [] H d v t ∧ TrOk fo d t ∧ Zr d t ∧ ∀ H' (m : Nat), Kp [] H H' → m ≤ d → Dep d m t → Q (.int (m : Int)) H'
theorem depth_rec {P : Program} {w : World} {K : PySem.W.Frag} {mg : Str → Option Value} {base : Heap} (T : T P K mg base) : ∀ n, FnOk P w K mg base CX0 (n + 6) T.a__law_depth T.fd__law_depth ["tree"] (spDepth K n)
  | 0 => ⟨fun _ _ _ _ h => by obtain ⟨_, _, _, _, h, _⟩ := h; omega, fun _ _ _ _ _ _ _ _ _ _ _ _ _ h => by obtain ⟨_, _, _, _, h, _⟩ := h; omega⟩
  | n + 1 => by
    have ih := depth_rec (w := w) (base := base) T n
    show FnOk P w K mg base CX0 (n + 6 + 1) _ _ _ _
    refine T.F__law_depth.ok sc__law_depth (fun vs H Q E h => ?_) (fun cdv A outer s H vs Q E hr h => ?_)
    · obtain ⟨v, d, fo, t, _, rfl, _⟩ := h
      rfl
    · obtain ⟨v, d, fo, t, hdn, rfl, hT, hO, hZ, q⟩ := h
      refine ⟨_, (pss_cons (ps_if (pt_cmpR op_eq (pe_ix ix_list (pv 0) pe_int (fun _ _ => rfl)) pe_str (nomark _)) (pss_one (ps_ret pe_int)) pss_nil)
      (pss_one (ps_ret (pe_op op_add pe_int (pe_callB (cr_max rfl) (by rfl) T.z_max (by decide +kernel) (pa_cons (pe_lc (own := [("child", 1)]) (g := gName 1) rfl sc__law_depth.nd (pi_list (pe_ix ix_list (pv 0) pe_int (fun _ _ => rfl))) (blkOk_by (own := [("child", 1)]) (N := N__law_depth) (sc := defScope s__law_depth) (by decide +kernel)) (fun _ _ _ _ _ => (pg_name (i := 1) sc__law_depth.nd rfl (by first | exact Or.inl rfl | exact Or.inr rfl))) (fun _ _ _ _ _ => (pts_one (pt_cmpR o_notN (pv 1) pe_non (nomark _)))) (fun _ _ _ _ _ => (pe_call ih (hr.mono (by omega)) (by rfl) T.g__law_depth T.F__law_depth.kp T.b__law_depth .nil pass0 (pa_cons (pv 1) pa_nil)))) pa_nil)))))), ?_⟩
      cases t with
      | z => exact (TrOk.z_no hO).elim
      | e k =>
        obtain ⟨t, o, rfl, ht, hk, _⟩ := TrAt.e_iff.mp hT
        walk_at "z0"
        walk_at "z"
        refine Z.ixL (lstL ht) (show atI [V.str "end", o] 0 = some (.str "end") from rfl) ?_
        walk_at "z"
        refine Z.yes rfl ?_
        walk_at "z"
        exact q H 0 (Kp.refl _) (Nat.zero_le _) Dep.e_ok
      | n ws cs =>
        cases d with
        | zero => exact hO.elim
        | succ d =>
          obtain ⟨hS, hcl, hck⟩ := hO
          obtain ⟨t, w, cc, vs, rfl, ht, hw, hcc, hvl, _, _, _, hch⟩ := hT
          walk_at "z0"
          walk_at "z"
          refine Z.ixL (lstL ht) (show atI [V.str "pick", .ref w, .ref cc] 0 = some (.str "pick") from rfl) ?_
          walk_at "z"
          refine Z.no (by decide +kernel) ?_
          walk_at "z"
          refine Z.ixL (lstL ht) (show atI [V.str "pick", .ref w, .ref cc] 2 = some (.ref cc) from rfl) ?_
          walk_at "z"
          have hl3 := hS.l3
          refine Z.lcl vs (lstL hcc) (fun D i H' => ∃ ms : List Nat, Kp [] H H' ∧ H' D = some (.lst ((ms.map fun m : Nat => (m : Int)).map V.int)) ∧ (∀ m ∈ ms, m ≤ d) ∧ (∀ j, j < i → 0 < ws.getD j 0 → ∃ m ∈ ms, Dep d m (cs.getD j .z)) ∧ ms.length ≤ i) ?_ ?_ ?_ ?_
          · intro D H1 nD k1 e1
            exact ⟨[], k1, e1, by simp, fun j hj => by omega, Nat.le_refl _⟩
          · rintro D i H1 nD hi ⟨ms, k1, e1, _⟩
            exact lstL (k1.get nin0 hcc)
          · rintro D i v H1 nD hv ⟨ms, k1, e1, hm1, hm2, hml⟩
            have hi : i < vs.length := (List.getElem?_eq_some_iff.mp hv).1
            have hci := getD_get (cs := cs) (i := i) (by omega)
            have hTi := hch i v _ hv hci
            obtain ⟨hz1, hz2⟩ := hZ i _ hci
            dsimp only [wipe, List.set]
            by_cases hw0 : 0 < ws.getD i 0
            · have hOi := hck i _ hci hw0
              obtain ⟨b, rfl⟩ : ∃ b, v = .ref b := by
                rcases hTi.ref with h | h
                · cases e : cs.getD i .z with
                  | z => rw [e] at hOi; exact (TrOk.z_no hOi).elim
                  | e k =>
                    rw [e] at hTi
                    obtain ⟨t, _, e2, _⟩ := TrAt.e_iff.mp hTi
                    exact ⟨t, e2⟩
                  | n ws2 cs2 =>
                    rw [e] at hTi hOi
                    cases d with
                    | zero => exact hOi.elim
                    | succ d =>
                      obtain ⟨t, _, _, _, e2, _⟩ := hTi
                      exact ⟨t, e2⟩
                · exact h
              walk_at "z"
              refine ⟨rfl, ?_⟩
              walk_at "z"
              refine Z.yesN (by simp) ?_
              walk_at "z"
              refine ⟨.ref b, d, fo, cs.getD i .z, by omega, rfl, hTi.kp0 k1, hOi, hz1 hw0, fun H2 m k2 hmd hmD => ?_⟩
              have e2 := k2.get nin0 e1
              refine ⟨_, e2, Z.szl (m := 1000) (by rw [List.length_map, List.length_map]; omega), ms ++ [m], (k1.trans k2).mut nD rfl, by rw [upd_same, List.map_append, List.map_append]; rfl, ?_, ?_, by rw [List.length_append]; show ms.length + 1 ≤ i + 1; omega⟩
              · intro x hx
                rcases List.mem_append.mp hx with h | h
                · exact hm1 x h
                · rw [List.mem_singleton.mp h]; exact hmd
              · intro j hj hp
                by_cases hji : j < i
                · obtain ⟨x, hx, hxd⟩ := hm2 j hji hp
                  exact ⟨x, by simp [hx], hxd⟩
                · have : j = i := by omega
                  rw [this]
                  exact ⟨m, by simp, hmD⟩
            · have hv0 : v = .non := by
                rw [hz2 hw0] at hTi
                exact TrAt.z_iff.mp hTi
              subst hv0
              walk_at "z"
              refine ⟨rfl, ?_⟩
              walk_at "z"
              refine Z.noN rfl ?_
              walk_at "z"
              refine ⟨ms, k1, e1, hm1, fun j hj hp => ?_, by omega⟩
              by_cases hji : j < i
              · exact hm2 j hji hp
              · have : j = i := by omega
                rw [this] at hp
                exact absurd hp hw0
          · rintro D H1 nD ⟨ms, k1, e1, hm1, hm2, hml⟩
            obtain ⟨i0, hi0⟩ := hS.ok.first
            obtain ⟨_, hi1, hi2, _⟩ := nextN_spec hi0
            obtain ⟨m0, hm0, _⟩ := hm2 i0 (by omega) hi2
            walk_at "z"
            refine ⟨D, ms.map fun m : Nat => (m : Int), rfl, lstL e1, by rw [List.length_map]; exact List.length_pos_of_mem hm0, fun mx hmx hmax => ?_⟩
            obtain ⟨m, hm, rfl⟩ := List.mem_map.mp hmx
            walk_at "z"
            have e : (1 : Int) + (m : Int) = ((m + 1 : Nat) : Int) := by omega
            rw [e]
            refine q H1 (m + 1) k1 (by have := hm1 m hm; omega) fun j hp => ?_
            have hj : j < vs.length := by
              by_cases z : j < vs.length
              · exact z
              · rw [List.getD_eq_getElem?_getD, List.getElem?_eq_none (by omega)] at hp
                exact absurd hp (by decide)
            obtain ⟨x, hx, hxd⟩ := hm2 j hj hp
            have := hmax (x : Int) (List.mem_map.mpr ⟨x, hx, rfl⟩)
            exact hxd.mono (by omega)
theorem ok__law_depth {P : Program} {w : World} {K : PySem.W.Frag} {mg : Str → Option Value} {base : Heap} (T : T P K mg base) : FnOk P w K mg base CX0 11 T.a__law_depth T.fd__law_depth ["tree"] (spDepth K 5) := depth_rec T 5
end lists13

section count13
variable {K : PySem.W.Frag}
open GT GU
open LamX hiding takes0
open LamK
theorem TrOk.mono {fo : Nat} : ∀ {d d' : Nat} {t : Tr}, d ≤ d' → TrOk fo d t → TrOk fo d' t := by
  intro d
  induction d with
  | zero =>
    intro d' t hd h
    cases t with
    | z => exact h.elim
    | e k => exact TrOk.e_iff.mpr h
    | n ws cs => exact h.elim
  | succ d ih =>
    intro d' t hd h
    cases t with
    | z => exact h.elim
    | e k => exact TrOk.e_iff.mpr h
    | n ws cs =>
      cases d' with
      | zero => omega
      | succ d' => exact ⟨h.1, h.2.1, fun i c hc hp => ih (by omega) (h.2.2 i c hc hp)⟩
theorem TrAt.mono {M : List Addr} {H : Hp} : ∀ {d d' : Nat} {v : V} {t : Tr}, d ≤ d' → TrAt K M H d v t → TrAt K M H d' v t := by
  intro d
  induction d with
  | zero =>
    intro d' v t hd h
    cases t with
    | z => exact TrAt.z_iff.mpr h
    | e k => exact TrAt.e_iff.mpr h
    | n ws cs => exact h.elim
  | succ d ih =>
    intro d' v t hd h
    cases t with
    | z => exact TrAt.z_iff.mpr h
    | e k => exact TrAt.e_iff.mpr h
    | n ws cs =>
      cases d' with
      | zero => omega
      | succ d' =>
        obtain ⟨t, w, c, vs, e, h1, h2, h3, h4, n1, n2, n3, h5⟩ := h
        exact ⟨t, w, c, vs, e, h1, h2, h3, h4, n1, n2, n3, fun i v' c' hv hc => ih (by omega) (h5 i v' c' hv hc)⟩
theorem Div.up {c : Nat} : ∀ {d d' : Nat} {t : Tr}, d ≤ d' → Div c d t → Div c d' t := by
  intro d
  induction d with
  | zero =>
    intro d' t hd h
    cases t with
    | z => exact h.elim
    | e k => exact Div.e_ok
    | n ws cs => exact h.elim
  | succ d ih =>
    intro d' t hd h
    cases t with
    | z => exact h.elim
    | e k => exact Div.e_ok
    | n ws cs =>
      cases d' with
      | zero => omega
      | succ d' => exact ⟨h.1, fun i hi => ih (by omega) (h.2 i hi)⟩
theorem Dep.up : ∀ {d d' m : Nat} {t : Tr}, d ≤ d' → Dep d m t → Dep d' m t := by
  intro d
  induction d with
  | zero =>
    intro d' m t hd h
    cases t with
    | z => cases m <;> exact h.elim
    | e k => exact Dep.e_ok
    | n ws cs => cases m <;> exact h.elim
  | succ d ih =>
    intro d' m t hd h
    cases t with
    | z => cases m <;> exact h.elim
    | e k => exact Dep.e_ok
    | n ws cs =>
      cases m with
      | zero => exact h.elim
      | succ m =>
        cases d' with
        | zero => omega
        | succ d' => exact fun i hi => ih (by omega) (h i hi)
def cntK (d : Nat) (t : Tr) (L : List (List Int)) (k : OK) : Nat := (L.filter fun l => decide (tout d t l = some k)).length
theorem cntK_snoc {d : Nat} {t : Tr} {L : List (List Int)} {l : List Int} {k : OK} : cntK d t (L ++ [l]) k = cntK d t L k + if tout d t l = some k then 1 else 0 := by
  unfold cntK
  rw [List.filter_append, List.length_append]
  by_cases h : tout d t l = some k
  · rw [if_pos h, List.filter_cons_of_pos (by simpa using h)]
    rfl
  · rw [if_neg h, List.filter_cons_of_neg (by simpa using h)]
    rfl
theorem cnt_sum {d : Nat} {t : Tr} (k : OK) : ∀ L : List (List Int), (L.map fun l => if tout d t l = some k then (1 : Rat) else 0).sum = (cntK d t L k : Rat)
  | [] => rfl
  | l :: r => by
    have ih := cnt_sum (d := d) (t := t) k r
    rw [List.map_cons, List.sum_cons, ih]
    unfold cntK
    by_cases h : tout d t l = some k
    · rw [if_pos h, List.filter_cons_of_pos (by simpa using h), List.length_cons]
      have e : (((r.filter fun l => decide (tout d t l = some k)).length + 1 : Nat) : Rat) = ((r.filter fun l => decide (tout d t l = some k)).length : Rat) + 1 := by exact_mod_cast rfl
      rw [e]; grind
    · rw [if_neg h, List.filter_cons_of_neg (by simpa using h)]
      grind
theorem sK_runs (k : OK) : ∀ R : List (List Dt × OK), (R.map fun r => (if some r.2 = some k then (1 : Rat) else 0) * rv (chO (1, 1) r.1)).sum = sK (R.map rKF) k
  | [] => rfl
  | r :: R => by
    have ih := sK_runs k R
    rw [List.map_cons, List.sum_cons, ih]
    unfold sK
    rw [List.map_cons]
    by_cases h : r.2 = k
    · rw [if_pos (by rw [h]), List.filter_cons_of_pos (by show decide (r.2 = k) = true; simpa using h), List.map_cons, List.sum_cons]
      show 1 * rv (chD r.1) + _ = rv (chD r.1) + _
      grind
    · rw [if_neg (by intro z; exact h (Option.some.inj z)), List.filter_cons_of_neg (by show ¬ decide (r.2 = k) = true; simpa using h)]
      grind
/-- the counts are the chances -/
theorem cnt_fair {fo side m : Nat} {t : Tr} (hO : TrOk fo 4 t) (hF : Fit side 4 m t) (k : OK) : (cntK 4 t (lsts side m) k : Rat) = ((side ^ m : Nat) : Rat) * sK ((runs 4 t (1, 1)).map rKF) k := by
  have h := fair (fun o => if o = some k then (1 : Rat) else 0) hO hF (c := (1, 1)) (b := 1) ⟨by decide, by decide⟩ ⟨by decide, by decide⟩
  rw [sK_runs] at h
  rw [← h]
  have e : sumL side m (fun l => if tout 4 t l = some k then (1 : Rat) else 0) = (cntK 4 t (lsts side m) k : Rat) := cnt_sum k _
  have e2 : rv (1, 1) = 1 := by rw [rv_int]; rfl
  rw [e, e2]
  grind
theorem sK_pos {xs : List KF} (hp : ∀ x ∈ xs, 0 < rv x.2) {k : OK} : (k ∈ xs.map Prod.fst → 0 < sK xs k) ∧ (k ∉ xs.map Prod.fst → sK xs k = 0) := by
  induction xs with
  | nil => exact ⟨fun h => (by cases h), fun _ => rfl⟩
  | cons x r ih =>
    obtain ⟨ih1, ih2⟩ := ih fun y hy => hp y (by simp [hy])
    have hx := hp x (by simp)
    have h0 : 0 ≤ sK r k := by
      by_cases z : k ∈ r.map Prod.fst
      · have := ih1 z; grind
      · rw [ih2 z]; grind
    have e : sK (x :: r) k = (if x.1 = k then rv x.2 else 0) + sK r k := by
      unfold sK
      by_cases h : x.1 = k
      · rw [if_pos h, List.filter_cons_of_pos (by simpa using h), List.map_cons, List.sum_cons]
      · rw [if_neg h, List.filter_cons_of_neg (by simpa using h)]; grind
    rw [e, List.map_cons]
    refine ⟨fun h => ?_, fun h => ?_⟩
    · by_cases hk : x.1 = k
      · rw [if_pos hk]; grind
      · rw [if_neg hk]
        have hk2 : k ∈ r.map Prod.fst := (List.mem_cons.mp h).resolve_left fun z => hk z.symm
        have := ih1 hk2
        grind
    · rw [if_neg (fun z => h (by simp [z])), ih2 (fun z => h (by simp [z]))]; grind
def dueF (N : Nat) (c : OK → Nat) (ks : List OK) : List KF := ks.map fun k => (k, lo (c k : Int) (N : Int))
/-- the sorted counts, as chances, are what is gathered -/
theorem due_gath {fo side m : Nat} {t : Tr} (hO : TrOk fo 4 t) (hfo : fo ≤ 2) (hF : Fit side 4 m t) (hs1 : 1 ≤ side) {ks : List OK} (hnd : ks.Nodup) (hks : ∀ k, k ∈ ks ↔ 0 < cntK 4 t (lsts side m) k) (hst : ks.Pairwise fun a b => leO a b = true) : dueF (side ^ m) (cntK 4 t (lsts side m)) ks = gathOf ((runs 4 t (1, 1)).map rKF) := by
  have hdw := runs_dw hO
  have hx : ∀ x ∈ (runs 4 t (1, 1)).map rKF, Low x.2 ∧ 0 < rv x.2 ∧ fm x.1 = decide (fo = 2) := fun x hx => by
    obtain ⟨r, hr, rfl⟩ := List.mem_map.mp hx
    exact ⟨(hdw r hr).1.1, (hdw r hr).2.2.2.1, kfm_fm hfo (hdw r hr).2.1⟩
  have hcf := cnt_fair hO hF
  have hN1 : 1 ≤ side ^ m := Nat.pow_pos hs1
  have hNr : ((side ^ m : Nat) : Rat) ≠ 0 := castNe hN1
  have hNp : (0 : Rat) < ((side ^ m : Nat) : Rat) := by exact_mod_cast hN1
  generalize hxs : (runs 4 t (1, 1)).map rKF = xs at hx hcf ⊢
  generalize side ^ m = N at hcf hN1 hNr hNp ⊢
  generalize cntK 4 t (lsts side m) = c at hcf hks ⊢
  have hsk := fun k => sK_pos (xs := xs) (fun x h => (hx x h).2.1) (k := k)
  have hkx : ∀ k, k ∈ ks ↔ k ∈ xs.map Prod.fst := fun k => by
    rw [hks]
    constructor
    · intro h
      by_cases z : k ∈ xs.map Prod.fst
      · exact z
      · have h1 := hcf k
        rw [(hsk k).2 z] at h1
        have h2 : (c k : Rat) = 0 := by rw [h1]; grind
        have h3 : c k = 0 := by exact_mod_cast h2
        omega
    · intro h
      have h1 := hcf k
      have h2 := Rat.mul_pos hNp ((hsk k).1 h)
      rw [← h1] at h2
      exact_mod_cast h2
  have hN0 : (N : Int) ≠ 0 := by omega
  have hrv : ∀ k, rv (lo (c k : Int) (N : Int)) = sK xs k := fun k => by
    rw [rv_lo hN0]
    have e1 : (((c k : Nat) : Int) : Rat) = (c k : Rat) := by exact_mod_cast rfl
    have e2 : (((N : Nat) : Int) : Rat) = (N : Rat) := by exact_mod_cast rfl
    rw [e1, e2, hcf k]
    grind
  have n1 : Norm xs (dueF N c ks) := by
    refine ⟨fun y hy => ?_, fun k hk => ?_⟩
    · obtain ⟨k, hk, rfl⟩ := List.mem_map.mp hy
      exact ⟨(hkx k).mp hk, lo_low hN0, hrv k⟩
    · exact ⟨(k, lo (c k : Int) (N : Int)), List.mem_map.mpr ⟨k, (hkx k).mpr hk, rfl⟩, rfl⟩
  have s1 : Asc leO (dueF N c ks) := by
    unfold Asc dueF
    rw [List.pairwise_map]
    exact List.Pairwise.and hst hnd
  have p2 := List.mergeSort_perm (gsum xs) fun a b : KF => leO a.1 b.1
  have q2 := List.pairwise_mergeSort (le := fun a b : KF => leO a.1 b.1) (fun a b c => leO_ord.trans a.1 b.1 c.1) (fun a b => Bool.or_eq_true_iff.mpr (leO_ord.total a.1 b.1)) (gsum xs)
  have n2 := (norm_gsum fun x h => (hx x h).1.ne).permR p2.symm
  have hn : (gsum xs).Pairwise fun a b => a.1 ≠ b.1 := List.pairwise_map.mp (gsum_nodup (xs := xs) (acc := []) (by simp))
  have hn2 : ((gsum xs).mergeSort fun a b : KF => leO a.1 b.1).Pairwise fun a b => a.1 ≠ b.1 := (p2.pairwise_iff (fun {a b} h => h.symm)).mpr hn
  have s2 : Asc leO ((gsum xs).mergeSort fun a b : KF => leO a.1 b.1) := List.Pairwise.and q2 hn2
  have e := norm_eq leO_ord n1 n2 s1 s2
  have hgk : ∀ x ∈ gsum xs, fm x.1 = decide (fo = 2) := fun x h => by
    rcases gsum_keys h with h | h
    · obtain ⟨y, hy, e⟩ := List.mem_map.mp h
      rw [← e]
      exact (hx y hy).2.2
    · cases h
  unfold gathOf
  rw [sort_kind hgk, ← e]
  refine (List.filter_eq_self.mpr fun y hy => ?_).symm
  obtain ⟨k, hk, rfl⟩ := List.mem_map.mp hy
  have h1 := (hsk k).1 ((hkx k).mp hk)
  rw [← hrv k] at h1
  have : lo (c k : Int) (N : Int) ≠ (0, 1) := fun z => by
    rw [z, rv_zero] at h1
    exact absurd h1 (by decide)
  simpa using this
end count13

theorem tyTup {K : PySem.W.Frag} {H : Hp} {a : Addr} {xs : List V} (h : SqT K H a xs) : TyX K H (.ref a) (.type "tuple") := by
  rcases h with (h | ⟨o, h⟩) | ⟨o, its, n, h1, h2, _⟩
  · exact .base (.tup h)
  · exact .fTuple h
  · exact .kTuple h1 h2

section law10
variable {K : PySem.W.Frag}
open GT GU
open LamX hiding takes0
open LamK
theorem thenN {M N : List Addr} {H H1 H2 : Hp} (k : Kp M H H1) (k2 : Kp N H1 H2) (h : ∀ y ∈ N, y ∈ M ∨ H y = none) : Kp M H H2 := fun b o nb e => k2 b o (fun hb => by
  rcases h b hb with m | n
  · exact nb m
  · rw [n] at e; cases e) (k b o nb e)
theorem deck_tabs {T : List (Addr × Str)} {H H' : Hp} {a p : Addr} (t : Tabs T H) (d : DeckOk H a p) (k : Kp [a] H H') : Tabs T H' := let ⟨_, _, _, _, ha, _⟩ := d; tabs_put t k ha
theorem tabs_M {T : List (Addr × Str)} {M : List Addr} {H H' : Hp} (t : Tabs T H) (k : Kp M H H') (hM : ∀ y ∈ M, ∃ o, H y = some o ∧ (∀ ps, o ≠ .tbl ps) ∧ ∀ f, o ≠ .ext f) : Tabs T H' := fun p hp => by
  obtain ⟨ps, h1, h2, h3⟩ := t p hp
  refine ⟨ps, k.get (fun z => ?_) h1, h2, fun pos cv hc => ?_⟩
  · obtain ⟨o, e, n1, _⟩ := hM _ z
    rw [h1] at e
    exact n1 ps (Option.some.inj e).symm
  · obtain ⟨c, e1, e2⟩ := h3 pos cv hc
    refine ⟨c, e1, k.get (fun z => ?_) e2⟩
    obtain ⟨o, e, _, n2⟩ := hM _ z
    rw [e2] at e
    exact n2 _ (Option.some.inj e).symm
theorem Ex.noTab {C : Addr} {H : Hp} {e p w : Addr} {ps : List PI} {rs : List LRow} {m : Nat} {run fin : Bool} (h : Ex K C H e p w ps rs m run fin) : ∀ y ∈ [e, p, w], ∃ o, H y = some o ∧ (∀ ps, o ≠ .tbl ps) ∧ ∀ f, o ≠ .ext f := fun y hy => by
  obtain ⟨dx, o⟩ := h.ob
  rcases List.mem_cons.mp hy with rfl | hy
  · exact ⟨_, o, by simp, by simp⟩
  rcases List.mem_cons.mp hy with rfl | hy
  · exact ⟨_, h.path, by simp, by simp⟩
  · rw [List.mem_singleton.mp hy]
    exact ⟨_, h.rows, by simp, by simp⟩
theorem Chn.step {d : Nat} {t : Tr} {c : Fr} {R : List (List Dt × OK)} (h : Chn d t c R) : ∀ (i : Nat) (r r' : List Dt × OK), R[i]? = some r → R[i + 1]? = some r' → ∃ q, folL r.1 = some q ∧ fd d t c q = (r'.1, some r'.2) := by
  induction h with
  | last h0 => intro i r r' h1 h2; simp at h2
  | @more r0 r1 l q h0 h1 h2 ih =>
    intro i r r' e1 e2
    cases i with
    | zero =>
      obtain rfl : r0 = r := Option.some.inj e1
      obtain rfl : r1 = r' := Option.some.inj e2
      exact ⟨q, h0, h1⟩
    | succ i => exact ih i r r' e1 e2
theorem Chn.fin {d : Nat} {t : Tr} {c : Fr} {R : List (List Dt × OK)} (h : Chn d t c R) : ∀ (i : Nat) (r : List Dt × OK), i + 1 = R.length → R[i]? = some r → folL r.1 = none := by
  induction h with
  | @last r0 h0 =>
    intro i r h1 h2
    have : i = 0 := by simp at h1; omega
    subst this
    obtain rfl : r0 = r := Option.some.inj h2
    exact h0
  | @more r0 r1 l q h0 h1 h2 ih =>
    intro i r e1 e2
    cases i with
    | zero => simp at e1
    | succ i => exact ih i r (by simpa using e1) e2
/-- the world behind the ends: all but the deck is as it was -/
structure Bs (Hb H : Hp) (a : Addr) : Prop where
  kp : Kp [a] Hb H
  at_ : ∃ xs, H a = some (.lst xs)
theorem Bs.step {Hb H1 H2 : Hp} {a : Addr} {N : List Addr} (b : Bs Hb H1 a) (ha : ∃ o, Hb a = some o) (k : Kp N H1 H2) (h : ∀ y ∈ N, Hb y = none) : Bs Hb H2 a := by
  obtain ⟨o, ho⟩ := ha
  obtain ⟨xs, hx⟩ := b.at_
  exact ⟨thenN b.kp k fun y hy => .inr (h y hy), xs, k.get (fun z => by have := h a z; rw [ho] at this; cases this) hx⟩
theorem Bs.none {Hb H1 : Hp} {a y : Addr} (b : Bs Hb H1 a) (n : H1 y = none) : Hb y = none := b.kp.none (nin1 fun z => by
  obtain ⟨xs, hx⟩ := b.at_
  rw [z, hx] at n
  cases n) n
theorem tr_base {Hb H : Hp} {a : Addr} {xs : List V} (b : Kp [a] Hb H) (hxa : Hb a = some (.lst xs)) {M : List Addr} (hM : ∀ y ∈ M, Hb y = none) {d : Nat} {v : V} {t : Tr} (h : TrAt K [a] Hb d v t) : TrAt K M H d v t :=
  h.of (fun c ys nc e => b.get nc e) (fun _ _ h => ok_kp1 h b hxa) fun c ys _ e z => by
    rw [hM c z] at e
    cases e
theorem DeckOk.at2 {H : Hp} {a p : Addr} (d : DeckOk H a p) : ∃ (i : Int) (xs : List V), H a = some (.lst (.ref p :: .int i :: xs)) := by
  obtain ⟨ns, i, r, s, ha, hp, hne⟩ := d
  exact ⟨_, _, ha⟩
theorem g3_base {Hb H : Hp} {a p0 : Addr} (b : Kp [a] Hb H) (db : DeckOk Hb a p0) {g : G3} (h : G3At K Hb g) : G3At K H g := by
  obtain ⟨i, xs, hxa⟩ := db.at2
  have nt : ∀ y ∈ [a], NoTup Hb y := fun y hy => by
    rw [List.mem_singleton.mp hy]
    exact NoTup.lst hxa
  refine ⟨kpTup h.tup b nt, b.get (nin1 fun z => ?_) h.path, ok_kpM h.key b nt, FrAt.kp h.fr b nt, h.ok⟩
  have h2 := h.path
  rw [z, hxa] at h2
  have e := HO.lst.inj (Option.some.inj h2)
  cases hns : g.ns with
  | nil => rw [hns] at e; cases e
  | cons n r => rw [hns] at e; cases e
theorem ok_ext {H H' : Hp} {k : OK} {v : V} (e : ExtN H H') (h : OkAt H k v) : OkAt H' k v := by
  cases k with
  | inl x => exact h
  | inr xs =>
    obtain ⟨p, e1, e2⟩ := h
    exact ⟨p, e1, ext_get e e2⟩
theorem pth_kp {H H' : Hp} {N : List Addr} {qs : List Addr} {nss : List (List Int)} (h : PthAt H qs nss) (k : Kp N H H') (n : ∀ q ∈ qs, q ∉ N) : PthAt H' qs nss := by
  induction h with
  | nil => exact .nil
  | cons r t ih => exact .cons (k.get (n _ (by simp)) r) (ih fun q hq => n q (by simp [hq]))
theorem pth_at {H : Hp} {qs : List Addr} {nss : List (List Int)} (h : PthAt H qs nss) : ∀ q ∈ qs, ∃ o, H q = some o := by
  induction h with
  | nil => intro q hq; cases hq
  | cons r t ih =>
    intro q hq
    rcases List.mem_cons.mp hq with rfl | hq
    · exact ⟨_, r⟩
    · exact ih q hq
theorem pth_snoc {H : Hp} {qs : List Addr} {nss : List (List Int)} {q : Addr} {ns : List Int} (h : PthAt H qs nss) (r : H q = some (.lst (ns.map V.int))) : PthAt H (qs ++ [q]) (nss ++ [ns]) := by
  induction h with
  | nil => exact .cons r .nil
  | cons r t ih => exact .cons r ih
end law10

set_option maxHeartbeats 20000000
section law13
variable {K : PySem.W.Frag}
open GT GU
open LamX hiding takes0
open LamK
theorem tr_fresh {Hb H : Hp} (b : Kp [] Hb H) {M : List Addr} (hM : ∀ y ∈ M, Hb y = none) {d : Nat} {v : V} {t : Tr} (h : TrAt K [] Hb d v t) : TrAt K M H d v t :=
  h.of (fun c ys nc e => b.get nin0 e) (fun _ _ h => h.kp0 b) fun c ys _ e z => by
    rw [hM c z] at e
    cases e
theorem keys_zip {H : Hp} : ∀ {ks : List OK} {vs : List V}, KeysAt H ks vs → ∃ L : List (OK × V), L.map Prod.fst = ks ∧ L.map Prod.snd = vs ∧ ∀ x ∈ L, OkAt H x.1 x.2
  | _, _, .nil => ⟨[], rfl, rfl, by simp⟩
  | _, _, .cons (k := k) (v := v) h t => by
    obtain ⟨L, e1, e2, e3⟩ := keys_zip t
    refine ⟨(k, v) :: L, by rw [List.map_cons, e1], by rw [List.map_cons, e2], fun y hy => ?_⟩
    rcases List.mem_cons.mp hy with rfl | hy
    · exact h
    · exact e3 y hy
theorem da_nolst {f : Bool} {H : Hp} {d : Addr} {kvs : List (OK × V)} {xs : List V} {G : Prop} (h : DA f H d kvs) (e : H d = some (.lst xs)) : G := by
  rcases h with ⟨_, ks, h1, _⟩ | ⟨_, ks, h1, _⟩ <;> rw [h1] at e <;> cases e
theorem sort_keys {fk : Bool} {ks : List OK} (h : ∀ k ∈ ks, fm k = fk) : (ks.mergeSort (PySem.W.dataLe false okD)).Pairwise fun a b => leO a b = true := by
  have e0 : ks.mergeSort (PySem.W.dataLe false okD) = ((ks.map fun k => ((k, (0, 1)) : KF)).mergeSort (PySem.W.dataLe false fun x => okD x.1)).map Prod.fst := by
    rw [← List.map_mergeSort (r := PySem.W.dataLe false okD) (s := PySem.W.dataLe false fun x : KF => okD x.1) (f := fun k => ((k, (0, 1)) : KF)) (fun _ _ _ _ => rfl), List.map_map]
    exact (List.map_id _).symm
  rw [e0, sort_kind (fk := fk) fun x hx => by
    obtain ⟨k, hk, rfl⟩ := List.mem_map.mp hx
    exact h k hk, List.pairwise_map]
  exact List.pairwise_mergeSort (le := fun a b : KF => leO a.1 b.1) (fun a b c => leO_ord.trans a.1 b.1 c.1) (fun a b => Bool.or_eq_true_iff.mpr (leO_ord.total a.1 b.1)) _
theorem pth_lst {H : Hp} {qs : List Addr} {nss : List (List Int)} (h : PthAt H qs nss) : ∀ q ∈ qs, ∃ xs, H q = some (.lst xs) := by
  induction h with
  | nil => intro q hq; cases hq
  | cons r t ih =>
    intro q hq
    rcases List.mem_cons.mp hq with rfl | hq
    · exact ⟨_, r⟩
    · exact ih q hq
theorem putK_nd {kvs : List (OK × V)} {k : OK} {v : V} (h : (kvs.map Prod.fst).Nodup) : ((putK kvs k v).map Prod.fst).Nodup := by
  unfold putK
  split
  · rw [List.map_map]
    rw [show (Prod.fst ∘ fun x : OK × V => if x.1 = k then (x.1, v) else x) = Prod.fst from by funext x; dsimp only [Function.comp]; split <;> rfl]
    exact h
  · rename_i hn
    rw [List.map_append, List.map_cons, List.map_nil]
    refine List.nodup_append.mpr ⟨h, by simp, fun a ha b hb => ?_⟩
    obtain ⟨x, hx, rfl⟩ := List.mem_map.mp ha
    rw [List.mem_singleton.mp hb]
    intro z
    exact hn (List.any_eq_true.mpr ⟨x, hx, by simpa using z⟩)
theorem putK_keys {kvs : List (OK × V)} {k : OK} {v : V} {x : OK × V} (h : x ∈ putK kvs k v) : x.1 = k ∨ x.1 ∈ kvs.map Prod.fst := by
  unfold putK at h
  split at h
  · obtain ⟨y, hy, rfl⟩ := List.mem_map.mp h
    right
    refine List.mem_map.mpr ⟨y, hy, ?_⟩
    split <;> rfl
  · rcases List.mem_append.mp h with h | h
    · exact .inr (List.mem_map.mpr ⟨x, h, rfl⟩)
    · rw [List.mem_singleton.mp h]
      exact .inl rfl
theorem putK_len1 {kvs : List (OK × V)} {k : OK} {v : V} : (putK kvs k v).length ≤ kvs.length + 1 := by
  unfold putK
  split
  · rw [List.length_map]; omega
  · simp
theorem valV_key {kvs : List (OK × V)} {k : OK} : k ∈ kvs.map Prod.fst ↔ valV kvs k ≠ none := by
  induction kvs with
  | nil => simp [valV_nil]
  | cons p r ih =>
    by_cases h : p.1 = k
    · rw [valV_pos h]
      simp [h]
    · rw [valV_neg h, ← ih, List.map_cons, List.mem_cons]
      exact ⟨fun z => z.resolve_left fun y => h y.symm, .inr⟩
/-- what the counts hold -/
structure CInv (fo : Nat) (c : OK → Nat) (kvs : List (OK × V)) : Prop where
  nd : (kvs.map Prod.fst).Nodup
  val : ∀ k, valV kvs k = if c k = 0 then none else some (.int (c k : Int))
  keys : ∀ x ∈ kvs, kfm x.1 = fo ∧ StrsOk x.1
theorem CInv.put {fo : Nat} {c : OK → Nat} {kvs : List (OK × V)} (h : CInv fo c kvs) {k : OK} (hk : kfm k = fo) (hs : StrsOk k) : CInv fo (fun j => c j + if j = k then 1 else 0) (putK kvs k (.int ((c k : Int) + 1))) := by
  refine ⟨putK_nd h.nd, fun j => ?_, fun x hx => ?_⟩
  · rw [valV_put]
    by_cases hj : j = k
    · subst hj
      rw [if_pos rfl, if_neg (by simp)]
      simp
    · rw [if_neg hj, h.val j]
      simp [hj]
  · rcases putK_keys hx with e | e
    · rw [e]; exact ⟨hk, hs⟩
    · obtain ⟨y, hy, e2⟩ := List.mem_map.mp e
      rw [← e2]; exact h.keys y hy
def spLaw (K : PySem.W.Frag) (P : Addr) : Sp := fun vs H Q _ => ∃ (a : Addr) (ns : List Int), vs = [.ref a] ∧ SqL K H a (ns.map V.int) ∧ ns.length ≤ 63 ∧ (∀ z ∈ ns, Builtin.Int.intBits z ≤ 1048576) ∧ Tabs [(P, LQ)] H ∧ ∀ H', Q (.bl true) H'
theorem spLaw_in {K : PySem.W.Frag} {P : Addr} (H : Hp) (a : Addr) (ns : List Int) (h1 : ns.length ≤ 63) (h2 : ∀ z ∈ ns, Builtin.Int.intBits z ≤ 1048576) (hP : H P = some (.tbl #[])) (hS : SqL K H a (ns.map V.int)) : spLaw K P [.ref a] H (fun v _ => v = .bl true) fun _ _ _ => False :=
  ⟨a, ns, rfl, hS, h1, h2, fun p hp => by rw [List.mem_singleton.mp hp]; exact TabS.nil hP, fun _ => rfl⟩
theorem ok_law {P : Program} {w : World} {K : PySem.W.Frag} {mg : Str → Option Value} {base : Heap} (T : T P K mg base) : FnOk P w K mg base CX0 12 T.a_law T.fd_law ["script"] (spLaw K T.P_law_from) := by
  refine T.F_law.ok sc_law (fun vs H Q E h => ?_) (fun cdv A outer s H vs Q E hr h => ?_)
  · obtain ⟨c, ns, rfl, _⟩ := h
    rfl
  · obtain ⟨c, ns, rfl, hS, hl, hbit, hT, q⟩ := h
    refine ⟨_, (pss_cons (ps_set (i := 1) sc_law.nd rfl (by first | exact Or.inl rfl | exact Or.inr rfl) (pe_call (ok__law_deck T) (hr.mono (by decide)) (by rfl) T.g__law_deck T.F__law_deck.kp T.b__law_deck .nil pass0 (pa_cons (pv 0) pa_nil)))
      (pss_cons (ps_set (i := 2) sc_law.nd rfl (by first | exact Or.inl rfl | exact Or.inr rfl) (pe_call (ok__law_tree T) (hr.mono (by decide)) (by rfl) T.g__law_tree T.F__law_tree.kp T.b__law_tree .nil pass0 (pa_cons (pv 1) (pa_cons (pe_op op_add pe_int (pe_callTy c_int (by rfl) T.z_int (by decide +kernel) (pa_cons (pe_cmpR op_eq (pe_call (ok__law_draw T) (hr.mono (by decide)) (by rfl) T.g__law_draw T.F__law_draw.kp T.b__law_draw .nil pass0 (pa_cons (pv 1) (pa_cons pe_int pa_nil))) pe_int (nomark _)) pa_nil))) (pa_cons (pe_call (ok__law_draw T) (hr.mono (by decide)) (by rfl) T.g__law_draw T.F__law_draw.kp T.b__law_draw .nil pass0 (pa_cons (pv 1) (pa_cons pe_int pa_nil))) pa_nil)))))
      (pss_cons (ps_set (i := 3) sc_law.nd rfl (by first | exact Or.inl rfl | exact Or.inr rfl) (pe_call (ok__law_common T) (hr.mono (by decide)) (by rfl) T.g__law_common T.F__law_common.kp T.b__law_common .nil pass0 (pa_cons (pv 2) pa_nil)))
      (pss_cons (ps_set (i := 4) sc_law.nd rfl (by first | exact Or.inl rfl | exact Or.inr rfl) (pe_call (ok__law_depth T) (hr.mono (by decide)) (by rfl) T.g__law_depth T.F__law_depth.kp T.b__law_depth .nil pass0 (pa_cons (pv 2) pa_nil)))
      (Z.pss_consJ (ps_if (pt_cmpR op_gt (pe_call (ok__law_power T) (hr.mono (by decide)) (by rfl) T.g__law_power T.F__law_power.kp T.b__law_power .nil pass0 (pa_cons (pv 3) (pa_cons (pv 4) pa_nil))) pe_int (nomark _)) (pss_cons (ps_set (i := 2) sc_law.nd rfl (by first | exact Or.inl rfl | exact Or.inr rfl) (pe_lst (pa_cons pe_str (pa_cons (pe_lst (pa_cons pe_int (pa_cons pe_int pa_nil))) (pa_cons (pe_lst (pa_cons (pe_lst (pa_cons pe_str (pa_cons pe_int pa_nil))) (pa_cons (pe_lst (pa_cons pe_str (pa_cons pe_int pa_nil))) pa_nil))) pa_nil)))))
      (pss_cons (ps_set (i := 3) sc_law.nd rfl (by first | exact Or.inl rfl | exact Or.inr rfl) pe_int)
      (pss_one (ps_set (i := 4) sc_law.nd rfl (by first | exact Or.inl rfl | exact Or.inr rfl) pe_int)))) pss_nil)
      (pss_cons (ps_set (i := 5) sc_law.nd rfl (by first | exact Or.inl rfl | exact Or.inr rfl) (pe_make0 T.mk_Explorer (ok_Explorer_init T) (hr.mono (by decide)) (by rfl) T.mg_Explorer T.b_Explorer_init .nil pass0))
      (Z.pss_consJ (ps_for PassesOwn.never rfl (pi_range1 (by rfl) T.z_range (pa_cons pe_int pa_nil)) (pg_name (i := 6) sc_law.nd rfl (by first | exact Or.inl rfl | exact Or.inr rfl)) (pss_cons (ps_if (pt_not (pt_val (pe_meth0 (pv 5) T.cl_Explorer T.me_Explorer_begin (ok_Explorer_begin T) (hr.mono (by decide)) T.b_Explorer_begin .nil passL))) (pss_one ps_break) pss_nil)
      (pss_one (ps_expr (pe_meth (pv 5) T.cl_Explorer T.me_Explorer_end (ok_Explorer_end T) (hr.mono (by decide)) T.b_Explorer_end .nil pass0 (pa_cons (pe_call (ok__law_deed T) (hr.mono (by decide)) (by rfl) T.g__law_deed T.F__law_deed.kp T.b__law_deed .nil pass0 (pa_cons (pv 2) (pa_cons (pv 5) (pa_cons (pe_lst pa_nil) pa_nil)))) pa_nil))))))
      (pss_cons (ps_set (i := 7) sc_law.nd rfl (by first | exact Or.inl rfl | exact Or.inr rfl) GU.pe_dnewA)
      (pss_cons (ps_set (i := 8) sc_law.nd rfl (by first | exact Or.inl rfl | exact Or.inr rfl) (pe_call (ok__law_lists T) (hr.mono (by decide)) (by rfl) T.g__law_lists T.F__law_lists.kp T.b__law_lists .nil pass0 (pa_cons (pv 3) (pa_cons (pv 4) pa_nil))))
      (pss_cons (ps_for PassesOwn.never rfl (pi_list (pv 8)) (pg_name (i := 9) sc_law.nd rfl (by first | exact Or.inl rfl | exact Or.inr rfl)) (pss_cons (ps_set (i := 10) sc_law.nd rfl (by first | exact Or.inl rfl | exact Or.inr rfl) (pe_call (ok__law_deed T) (hr.mono (by decide)) (by rfl) T.g__law_deed T.F__law_deed.kp T.b__law_deed .nil pass0 (pa_cons (pv 2) (pa_cons (pe_make T.mk_Tape (ok_Tape_init T) (hr.mono (by decide)) (by rfl) T.mg_Tape T.b_Tape_init .nil pass0 (pa_cons (pv 9) pa_nil)) (pa_cons (pe_lst pa_nil) pa_nil)))))
      (pss_one (ps_dput (hu_of hr) (pv 7) (pv 10) (pe_op op_add (pe_dget2 (Nat.lt_of_le_of_lt (Nat.add_le_add_left (by decide) _) (hu_of hr)) (pv 7) (pv 10) pe_int ⟨by rfl, by rfl, by rfl, by rfl⟩) pe_int) rfl))))
      (pss_cons (ps_setLc (i := 11) (own := [("outcome", 10)]) (g := gName 10) rfl sc_law.nd rfl rfl (sw_true rfl rfl rfl (by decide +kernel)) (pi_list (pe_callB ((RL.cr_sortedD hr.units) : CallR _ _ (RL.rSortedD K)) (by rfl) T.z_sorted (by decide +kernel) (pa_cons (pe_callTy ((GU.c_listA rfl) : CallR _ _ GU.rListA) (by rfl) T.z_list (by decide +kernel) (pa_cons (pv 7) pa_nil)) pa_nil))) (blkOk_by (own := [("outcome", 10)]) (N := N_law) (sc := defScope s_law) (by decide +kernel)) (fun _ _ _ _ _ => (pg_name (i := 10) sc_law.nd rfl (by first | exact Or.inl rfl | exact Or.inr rfl))) (fun _ _ _ _ _ => pts_nil) (fun _ _ _ _ _ => (pe_tup (pa_cons (pv 10) (pa_cons (pe_call (ok__law_low T) (hr.mono (by decide)) (by rfl) T.g__law_low T.F__law_low.kp T.b__law_low .nil pass0 (pa_cons (pe_dget (hu_of hr) (pv 7) (pv 10) (fun _ _ => rfl)) (pa_cons (pe_callB (c_len : CallR _ _ (Z.rLenN K)) (by rfl) T.z_len (by decide +kernel) (pa_cons (pv 8) pa_nil)) pa_nil))) pa_nil)))))
      (pss_one (ps_ret (pe_cmpR (op_eqD hr.units) (pe_meth0 (pv 5) T.cl_Explorer T.me_Explorer_gathered (ok_Explorer_gathered T) (hr.mono (by decide)) T.b_Explorer_gathered .nil passL) (pv 11) (nomark _))))))))))))))), ?_⟩
    walk_at "z0"
    walk_at "z"
    refine ⟨c, ns, rfl, hS, fun a p0 H1 na np k1 d1 => ?_⟩
    have T1 := tabs_kp hT k1
    walk_at "z"
    refine ⟨a, p0, 4, rfl, d1, by decide, by decide, fun H2 v4 h40 h41 k2 d2 => ?_⟩
    have T2 := deck_tabs T1 d1 k2
    walk_at "z"
    obtain ⟨dd, hdd, hd3⟩ : ∃ dd : Nat, (2 : Int) + (if decide (v4 = 0) = true then 1 else 0) = (dd : Int) ∧ dd ≤ 3 := by
      by_cases z : v4 = 0
      · exact ⟨3, by rw [decide_eq_true z]; rfl, by decide⟩
      · exact ⟨2, by rw [decide_eq_false z]; rfl, by decide⟩
    rw [hdd]
    refine ⟨a, p0, 3, rfl, d2, by decide, by decide, fun H3 vf h0 h12 k3 d3 => ?_⟩
    have T3 := deck_tabs T2 d2 k3
    obtain ⟨fo, rfl⟩ : ∃ j : Nat, vf = (j : Int) := ⟨vf.toNat, by omega⟩
    walk_at "z"
    obtain ⟨xsa, hxa⟩ : ∃ xs, H3 a = some (.lst xs) := let ⟨_, _, _, _, h, _⟩ := d3; ⟨_, h⟩
    refine ⟨a, p0, dd, fo, [a], by omega, rfl, d3, by omega, by simp, fun x hx => ⟨_, (List.mem_singleton.mp hx) ▸ hxa⟩, fun H4 v t k4 d4 hTr hO hZr => ?_⟩
    have T4 := deck_tabs T3 d3 k4
    have hfo : fo ≤ 2 := by omega
    have hTr0 : TrAt K [] H4 dd v t := hTr.less (by simp)
    clear k1 k2 k3 k4 T1 T2 T3 d1 d2 d3 hxa hTr
    walk_at "z"
    refine ⟨v, dd, fo, t, by omega, rfl, hTr0, hO, hZr, fun H5 side k5 hs1 hs2 hDv => ?_⟩
    walk_at "z"
    refine ⟨v, dd, fo, t, by omega, rfl, hTr0.kp0 k5, hO, hZr, fun H6 m k6 hmd hDp => ?_⟩
    have hsl := Nat.le_of_dvd (by decide) hs2
    have hTr6 := (hTr0.kp0 k5).kp0 k6
    have T6 := tabs_kp (tabs_kp T4 k5) k6
    have hF := (fit_of hDv hDp)
    have hF4 : Fit side 4 m t := fit_of (hDv.up (by omega)) (hDp.up (by omega))
    clear hTr0 k5 k6 T4 d4
    walk_at "z"
    refine Z.seqJ (fun σ' H' => ∃ (v : V) (t : Tr) (side m fo : Nat), σ' = [some (.ref c), some (.ref a), some v, some (.int (side : Int)), some (.int (m : Int)), none, none, none, none, none, none, none] ∧ TrAt K [] H' 4 v t ∧ TrOk fo 4 t ∧ fo ≤ 2 ∧ Fit side 4 m t ∧ 1 ≤ side ∧ side ≤ 2520 ∧ m ≤ 4 ∧ side ^ m ≤ 1800 ∧ Tabs [(T.P_law_from, LQ)] H') ?_ ?_
    · clear hTr6 hF hF4 hDv hDp hO hZr hs1 hs2 hsl T6 hfo h0 h12 hmd hdd hd3 h40 h41
      clear t fo v m side
      rintro σ' Hb ⟨v, t, side, m, fo, rfl, hTb, hO, hfo, hF, hs1, hsl, hm4, hsm, Tb⟩
      have h81 := runs_81 hO
      obtain ⟨hchn, r0, l0, hr0, hfd0⟩ := runs_chn (c := (1, 1)) hO
      have hN1 : 1 ≤ (runs 4 t (1, 1)).length := by rw [hr0]; simp
      have hdw := runs_dw hO
      walk_at "z"
      intro x dx nx ndx nxd
      refine ⟨x, dx, rfl, upd_same, fun H7 p w np7 nw7 hpw k7 hX7 => ⟨rfl, ?_⟩⟩
      have kb7 : Kp [] Hb H7 := (Kp.made (M := []) nx ndx).then1 k7 nx
      have nbx : Hb x = none := nx
      have nbp : Hb p = none := (Kp.made (M := []) nx ndx).none nin0 np7
      have nbw : Hb w = none := (Kp.made (M := []) nx ndx).none nin0 nw7
      have T7 := tabs_kp Tb kb7
      generalize hRS : runs 4 t (1, 1) = RS at h81 hchn hr0 hN1 hdw
      walk_at "z"
      refine Z.seqJ (fun σ' H' => ∃ (y6 : Option V) (p : Addr) (ps : List PI) (rs : List LRow) (m' : Nat), σ' = [some (.ref c), some (.ref a), some v, some (.int (side : Int)), some (.int (m : Int)), some (.ref x), y6, none, none, none, none, none] ∧ Kp [] Hb H' ∧ Tabs [(T.P_law_from, LQ)] H' ∧ Ex K T.C_Explorer H' x p w ps rs m' false true ∧ rs.map LRow.dat = (RS.map rKF).map emb) ?_ ?_
      · clear hX7 T7 kb7 np7 hpw nbp
        clear p
        rintro σ' Hc ⟨y6, p, ps, rs, m', rfl, kbc, Tc, hXc, hrs⟩
        have hTc : TrAt K [] Hc 4 v t := hTb.kp0 kbc
        walk_at "z"
        refine GU.dnewA (decide (fo = 2)) (fun D H1 nD k1 e1 => ?_)
        walk_at "z"
        refine ⟨side, m, rfl, hs1, hm4, hsm, fun H2 Lt qs k2 e2 hP2 => ?_⟩
        have hql := Paired.length hP2
        have hLl := lsts_len side m
        have k12 := k1.trans k2
        walk_at "z"
        refine Z.forl (qs.map V.ref) (lstL e2) (fun j σ' H' => ∃ (y9 y10 : Option V) (kvs : List (OK × V)), σ' = [some (.ref c), some (.ref a), some v, some (.int (side : Int)), some (.int (m : Int)), some (.ref x), y6, some (.ref D), some (.ref Lt), y9, y10, none] ∧ Kp [] Hc H' ∧ DA (decide (fo = 2)) H' D kvs ∧ CInv fo (cntK 4 t ((lsts side m).take j)) kvs ∧ kvs.length ≤ j ∧ H' Lt = some (.lst (qs.map V.ref)) ∧ PthAt H' qs (lsts side m)) ?_ ?_ ?_ ?_
        · exact ⟨_, _, [], rfl, k12, e1.kp0 k2, ⟨by simp, fun k => by rw [valV_nil]; rfl, by simp⟩, by simp, e2, hP2⟩
        · rintro j σ' H3 _ ⟨y9, y10, kvs, rfl, k3, e3, hC, hkl, eL, hP⟩
          exact lstL eL
        · rintro j u σ' H3 hu ⟨y9, y10, kvs, rfl, k3, e3, hC, hkl, eL, hP⟩
          obtain ⟨one, l, rfl, hl, hone⟩ := pth_get hP hu
          have hj : j < qs.length := by
            have := (List.getElem?_eq_some_iff.mp hu).1
            rwa [List.length_map] at this
          obtain ⟨hll, hlz⟩ := lsts_mem (List.mem_of_getElem? hl)
          have nDt : ∀ {H : Hp} {kk : List (OK × V)} {y : Addr} {o : HO}, DA (decide (fo = 2)) H D kk → H y = none → D ≠ y := fun h n => h.ne n
          walk_at "z"
          intro xt dxt nxt ndxt nxdt
          refine ⟨xt, one, dxt, l, rfl, upd_same, ?_, fun H4 nn nnn k4 hX4 => ⟨rfl, ?_⟩⟩
          · rw [upd_ne (ne_of_none hone nxt), upd_ne (ne_of_none hone ndxt)]; exact hone
          have k34 : Kp [] H3 H4 := (Kp.made (M := []) nxt ndxt).then1 k4 nxt
          walk_at "z"
          refine Z.lstK (fun pt H5 npt k5 e5 => ?_)
          have k35 := k34.trans k5
          have kc5 := k3.trans k35
          have ncxt : Hc xt = none := k3.none nin0 nxt
          have ncpt : Hc pt = none := (k3.trans k34).none nin0 npt
          obtain ⟨⟨dx4, o4⟩, n4⟩ := id hX4
          have nptx : pt ≠ xt := (ne_of_none o4 npt).symm
          have nnpt : nn ≠ pt := ne_of_none n4 npt
          have hT5 : TrAt K [xt, pt] H5 4 v t := tr_fresh kc5 (by simp [ncxt, ncpt]) hTc
          have e3D5 := e3.kp0 k35
          have nDxt : D ≠ xt := e3.ne nxt
          have nDpt : D ≠ pt := (e3.kp0 k34).ne npt
          have eL5 := k35.get nin0 eL
          have nLxt : Lt ≠ xt := ne_of_none eL nxt
          have nLpt : Lt ≠ pt := ne_of_none (k34.get nin0 eL) npt
          have hP5 := pth_kpq hP k35 (by simp)
          have hPn : ∀ q ∈ qs, q ∉ [xt, pt] := fun q hq => by
            obtain ⟨o, ho⟩ := pth_at hP q hq
            have h1 := ne_of_none ho nxt
            have h2 := ne_of_none (k34.get nin0 ho) npt
            simp [h1, h2]
          walk_at "z"
          refine ⟨false, trivial, v, 4, fo, t, [xt, pt], xt, nn, pt, l, rfl, hT5, hO, by decide, by simp, by simp, nptx, nnpt, ⟨⟨dx4, k5.get nin0 o4⟩, k5.get nin0 n4⟩, fun z hz => by have := hlz z hz; omega, by omega, e5, fun H6 o k k6 hto hkf hks hok => ?_⟩
          have kc6 : Kp [] Hc H6 := thenN kc5 k6 fun y hy => .inr (by
            rcases List.mem_cons.mp hy with rfl | hy
            · exact ncxt
            · rw [List.mem_singleton.mp hy]; exact ncpt)
          have e6 : DA (decide (fo = 2)) H6 D kvs := e3D5.kp k6 (by simp [nDxt, nDpt])
          have eL6 := k6.get (by simp [nLxt, nLpt]) eL5
          have hP6 := pth_kpq hP5 k6 hPn
          have hfk := kfm_fm hfo hkf
          have hval := hC.val k
          walk_at "z"
          refine ⟨D, rfl, e6.isD, ?_⟩
          walk_at "z"
          refine ⟨_, e6.get (k := k) hfk hok, ?_⟩
          have hgd : (valV kvs k).getD (.int 0) = .int ((cntK 4 t ((lsts side m).take j) k : Nat) : Int) := by
            rw [hval]
            split
            · rename_i h0
              rw [h0]; rfl
            · rfl
          rw [hgd]
          walk_at "z"
          obtain ⟨H7, hput, k7, e7, o7, eo7⟩ := e6.put (k := k) (w := .int (((cntK 4 t ((lsts side m).take j) k : Nat) : Int) + 1)) hfk hok (Z.szl (m := 10000) (by omega))
          refine ⟨D, _, rfl, hput, ?_⟩
          have ncD : Hc D = none := nD
          have hDo : ∀ {y : Addr} {xs : List V}, H6 y = some (.lst xs) → y ∉ [D] := fun {y xs} hy => nin1 fun z => by
            obtain ⟨od, hod, _⟩ := e6.NoTup
            have hd := e6.isD
            rw [z] at hy
            exact da_nolst e6 hy
          refine ⟨_, _, putK kvs k (.int (((cntK 4 t ((lsts side m).take j) k : Nat) : Int) + 1)), rfl, kc6.then1 k7 ncD, e7, ?_, ?_, k7.get (hDo eL6) eL6, pth_kpq hP6 k7 fun q hq => ?_⟩
          · have hnew := hC.put hkf hks
            have efn : (fun j' => cntK 4 t ((lsts side m).take j) j' + if j' = k then 1 else 0) = cntK 4 t ((lsts side m).take (j + 1)) := by
              funext k'
              rw [List.take_add_one, hl]
              show _ = cntK 4 t (_ ++ [l]) k'
              rw [cntK_snoc, hto]
              by_cases z : k' = k
              · subst z
                simp
              · rw [if_neg z, if_neg fun y => z (Option.some.inj y).symm]
            rw [efn] at hnew
            exact hnew
          · have := putK_len1 (kvs := kvs) (k := k) (v := .int (((cntK 4 t ((lsts side m).take j) k : Nat) : Int) + 1))
            omega
          · obtain ⟨o', ho'⟩ := pth_lst hP6 q hq
            exact hDo ho'
        · rintro σ' H3 ⟨y9, y10, kvs, rfl, k3, e3, hC, hkl, eL, hP⟩
          rw [List.length_map, hql, List.take_length] at hC
          rw [List.length_map] at hkl
          have kc3 := k3
          have hXc3 := hXc.kp0 kc3
          have Tc3 := tabs_kp Tc kc3
          have hNl : qs.length = side ^ m := by rw [hql, hLl]
          have hN1' : 1 ≤ side ^ m := Nat.pow_pos hs1
          walk_at "z"
          refine GU.listA e3 (fun pl H4 bs npl k4 e4 hbs => ?_)
          obtain ⟨L, hL1, hL2, hL3⟩ := keys_zip hbs
          have hkf : ∀ k ∈ kvs.map Prod.fst, kfm k = fo ∧ StrsOk k := fun k hk => by
            obtain ⟨y, hy, rfl⟩ := List.mem_map.mp hk
            exact hC.keys y hy
          have hKO := keys_ok hfo (ks := kvs.map Prod.fst) fun k hk => (hkf k hk).1
          have hLk : ∀ y ∈ L, y.1 ∈ kvs.map Prod.fst := fun y hy => by
            have : y.1 ∈ L.map Prod.fst := List.mem_map.mpr ⟨y, hy, rfl⟩
            rw [hL1] at this
            exact this
          walk_at "z"
          refine ⟨pl, L.map (fun x => (x.2, okD x.1)), rfl, lstL (by rw [e4, ← hL2, List.map_map]; rfl), fun b hb => ?_, ?_, ?_, fun b hb => ?_, fun l nl => ?_⟩
          · obtain ⟨y, hy, rfl⟩ := List.mem_map.mp hb
            exact (hL3 y hy).dp
          · have e := hKO.1
            have hL1' : L.map Prod.fst = kvs.map Prod.fst := hL1
            rw [← hL1', List.map_map] at e
            rw [List.map_map]
            exact e
          · have e := hKO.2
            have hL1' : L.map Prod.fst = kvs.map Prod.fst := hL1
            rw [← hL1', List.map_map] at e
            rw [List.map_map]
            exact e
          · obtain ⟨y, hy, rfl⟩ := List.mem_map.mp hb
            exact ok_depth y.1
          · have es : ((L.map fun x : OK × V => (x.2, okD x.1)).mergeSort (PySem.W.dataLe false Prod.snd)).map Prod.fst = (L.mergeSort (PySem.W.dataLe false fun x : OK × V => okD x.1)).map fun x => x.2 := by
              rw [← List.map_mergeSort (r := PySem.W.dataLe false fun x : OK × V => okD x.1) (s := PySem.W.dataLe false Prod.snd) (f := fun x : OK × V => (x.2, okD x.1)) (fun _ _ _ _ => rfl), List.map_map]
              rfl
            have es2 : (L.mergeSort (PySem.W.dataLe false fun x : OK × V => okD x.1)).map Prod.fst = (kvs.map Prod.fst).mergeSort (PySem.W.dataLe false okD) := by
              rw [List.map_mergeSort (r := PySem.W.dataLe false fun x : OK × V => okD x.1) (s := PySem.W.dataLe false okD) (f := Prod.fst) (fun _ _ _ _ => rfl)]
              exact congrArg (fun z => List.mergeSort z (PySem.W.dataLe false okD)) hL1
            rw [es]
            have hmem : ∀ x ∈ L.mergeSort (PySem.W.dataLe false fun x : OK × V => okD x.1), x ∈ L := fun x hx => (List.mergeSort_perm L _).mem_iff.mp hx
            have hLS : (L.mergeSort (PySem.W.dataLe false fun x : OK × V => okD x.1)).length = L.length := (List.mergeSort_perm L _).length_eq
            have hLl2 : L.length = kvs.length := by
              have := congrArg List.length hL1
              rw [List.length_map, List.length_map] at this
              exact this
            generalize L.mergeSort (PySem.W.dataLe false fun x : OK × V => okD x.1) = LS at es2 hmem hLS ⊢
            have hpk := List.mergeSort_perm (kvs.map Prod.fst) (PySem.W.dataLe false okD)
            rw [← es2] at hpk
            have hdue := due_gath (fo := fo) (ks := LS.map Prod.fst) hO hfo hF hs1 (hpk.nodup_iff.mpr hC.nd) (fun k => by
              rw [hpk.mem_iff, valV_key, hC.val k]
              by_cases z : cntK 4 t (lsts side m) k = 0
              · rw [if_pos z]; simp [z]
              · rw [if_neg z]; simp; omega) (by
              rw [es2]
              exact sort_keys (fk := decide (fo = 2)) fun k hk => kfm_fm hfo (hkf k hk).1)
            rw [hRS] at hdue
            have kl : Kp [] H4 (upd H4 l (.lst (LS.map fun x => x.2))) := Kp.new nl
            have el : upd H4 l (.lst (LS.map fun x => x.2)) l = some (.lst (LS.map fun x => x.2)) := upd_same
            generalize upd H4 l (.lst (LS.map fun x => x.2)) = H5 at kl el ⊢
            have k45 := k4.trans kl
            walk_at "z"
            refine Z.lcl (LS.map fun x => x.2) (lstL el) (fun D2 i H' => ∃ res : List GRow, Kp [] H5 H' ∧ H' D2 = some (.lst (res.map GRow.r)) ∧ (∀ g ∈ res, GRowAt K H' g) ∧ res.map GRow.kf = dueF (side ^ m) (cntK 4 t (lsts side m)) ((LS.take i).map Prod.fst)) ?_ ?_ ?_ ?_
            · intro D2 H6 nD2 k6 e6
              exact ⟨[], k6, e6, by simp, rfl⟩
            · rintro D2 i H6 nD2 hi ⟨res, k6, e6, A6, d6⟩
              exact lstL (k6.get nin0 el)
            · rintro D2 i u H6 nD2 hu ⟨res, k6, e6, A6, d6⟩
              rw [List.getElem?_map] at hu
              obtain ⟨y, hy, rfl⟩ := Option.map_eq_some_iff.mp hu
              have hyL := hmem y (List.mem_of_getElem? hy)
              have hyk := hLk y hyL
              have hil : i < LS.length := (List.getElem?_eq_some_iff.mp hy).1
              have hrl : res.length ≤ i := by
                have h1 := congrArg List.length d6
                unfold dueF at h1
                rw [List.length_map, List.length_map, List.length_map, List.length_take] at h1
                omega
              have hkey : OkAt H6 y.1 y.2 := (hL3 y hyL).kp0 (kl.trans k6)
              have k46 := k45.trans k6
              have hval : valV kvs y.1 = some (.int ((cntK 4 t (lsts side m) y.1 : Nat) : Int)) := by
                have h1 := valV_key.mp hyk
                have h2 := hC.val y.1
                rw [h2] at h1
                rw [h2]
                by_cases z : cntK 4 t (lsts side m) y.1 = 0
                · rw [if_pos z] at h1; exact absurd rfl h1
                · rw [if_neg z]
              have hcl : cntK 4 t (lsts side m) y.1 ≤ side ^ m := by
                unfold cntK
                exact Nat.le_trans (List.length_filter_le _ _) (Nat.le_of_eq hLl)
              dsimp only [wipe, List.set]
              walk_at "z"
              refine ⟨rfl, ?_⟩
              walk_at "z"
              refine ⟨D, _, rfl, by rw [← hval]; exact (e3.kp0 k46).get (kfm_fm hfo (hkf y.1 hyk).1) hkey, ?_⟩
              walk_at "z"
              refine Z.lenL (lstL (k46.get nin0 eL)) ?_
              rw [List.length_map, hNl]
              walk_at "z"
              refine ⟨_, _, rfl, by omega, by rw [Int.natAbs_natCast]; exact Nat.lt_of_le_of_lt hsm (by decide), fun H7 lw nlw k7 e7 => ?_⟩
              walk_at "z"
              refine Z.tupK (fun tt H8 ntt k8 e8 => ?_)
              have k78 := k7.trans k8
              have e8D := k78.get nin0 e6
              have hrow : GRowAt K H8 ⟨tt, y.2, y.1, lw, lo ((cntK 4 t (lsts side m) y.1 : Nat) : Int) ((side ^ m : Nat) : Int)⟩ := ⟨tupT e8, hkey.kp0 k78, (show FrAt K H7 lw _ from tupT e7).kp0 k8, (hkf y.1 hyk).2⟩
              have nt : ∀ z ∈ [D2], NoTup H8 z := fun z hz => by
                rw [List.mem_singleton.mp hz]
                exact NoTup.lst e8D
              refine ⟨_, e8D, Z.szl (m := 100000) (by rw [List.length_map]; omega), res ++ [⟨tt, y.2, y.1, lw, lo ((cntK 4 t (lsts side m) y.1 : Nat) : Int) ((side ^ m : Nat) : Int)⟩], (k6.trans k78).mut nD2 rfl, by rw [upd_same, List.map_append]; rfl, fun g hg => ?_, ?_⟩
              · have kD : Kp [D2] H8 (upd H8 D2 (.lst (res.map GRow.r ++ [V.ref tt]))) := Kp.put (by simp)
                rcases List.mem_append.mp hg with h | h
                · exact ((A6 g h).kp0 k78).kpM kD nt
                · rw [List.mem_singleton.mp h]
                  exact hrow.kpM kD nt
              · rw [List.map_append, d6, List.take_add_one, hy]
                unfold dueF
                rw [List.map_append, List.map_append]
                rfl
            · rintro D2 H6 nD2 ⟨res, k6, e6, A6, d6⟩
              rw [List.length_map, List.take_length, hdue] at d6
              have kc6 := (kc3.trans k45).trans k6
              have hX6 := hXc.kp0 kc6
              have T6 := tabs_kp Tc kc6
              obtain ⟨dx6, o6⟩ := hX6.ob
              have hrs' : rs.map LRow.dat = ((runs 4 t (1, 1)).map rKF).map emb := by rw [hRS]; exact hrs
              have hgo := gath_ok10 hO hfo
              rw [hRS] at hgo
              obtain ⟨hgo1, hgo2, hgo3⟩ := hgo
              have hlg : lawOf rs = (gathOf (RS.map rKF)).map emb := law_gath hrs (fun y hy => (hgo2 y hy).1) (fun y hy => (hgo2 y hy).2) hgo1.kinds
              have hli := law_in10 hO hfo hrs' hX6.rat
              walk_at "z"
              refine ⟨x, dx6, _, rfl, o6, by rfl, ?_⟩
              walk_at "z"
              refine ⟨x, p, w, ps, rs, m', false, true, rfl, hX6, (fun h => by cases h), fun _ => ⟨T6, hli.1, hli.2, fun H7 b out nb e7 T7 hb7 hA7 hd7 => ?_⟩⟩
              rw [hlg] at hd7
              walk_at "z"
              have d1 := dpLRows hA7
              have d2 := dpGRows fun g hg => (⟨ext_tup e7 (A6 g hg).tup, ok_ext e7 (A6 g hg).key, ext_tup e7 (A6 g hg).fr, (A6 g hg).ok⟩ : GRowAt K H7 g)
              rw [hd7] at d1
              rw [d6] at d2
              refine ⟨_, _, .lst (lstL hb7) d1, .lst (lstL (ext_get e7 e6)) d2, sh_rows hgo3, sh_rows hgo3, ?_⟩
              rw [eqv_rows10 hgo3]
              exact q _
      · intro N jn
        walk_at "z"
        refine Z.forr 99 rfl (by decide) (fun i σ' H' => ∃ (y6 : Option V) (p : Addr) (ps : List PI) (rs : List LRow) (m' : Nat), σ' = [some (.ref c), some (.ref a), some v, some (.int (side : Int)), some (.int (m : Int)), some (.ref x), y6, none, none, none, none, none] ∧ Kp [] Hb H' ∧ Tabs [(T.P_law_from, LQ)] H' ∧ Ex K T.C_Explorer H' x p w ps rs m' false false ∧ ps.length ≤ 10 ∧ i ≤ RS.length ∧ rs.map LRow.dat = ((RS.take i).map rKF).map emb ∧ (i = 0 ∨ ∃ j r, j + 1 = i ∧ RS[j]? = some r ∧ ps.map PI.dat = r.1)) ?_ ?_ ?_
        · exact ⟨_, p, [], [], 0, rfl, kb7, T7, hX7, by simp, Nat.zero_le _, rfl, .inl rfl⟩
        · clear hX7 T7 kb7 np7 hpw nbp
          clear p
          rintro i σ' H1 hi ⟨y6, p, ps, rs, m', rfl, kb1, T1, hX1, hpl, hiN, hrs, hlast⟩
          have hrl : rs.length = i := by
            have := congrArg List.length hrs
            rw [List.length_map, List.length_map, List.length_map, List.length_take] at this
            omega
          obtain ⟨dx1, o1⟩ := hX1.ob
          walk_at "z"
          refine ⟨x, dx1, _, rfl, o1, by rfl, ?_⟩
          walk_at "z"
          by_cases hlt : i < RS.length
          · obtain ⟨r, hr⟩ : ∃ r, RS[i]? = some r := ⟨RS[i], List.getElem?_eq_getElem hlt⟩
            have hrm : r ∈ RS := List.mem_of_getElem? hr
            obtain ⟨hw1, hw2, hw3, hw4, hw5⟩ := hdw r hrm
            obtain ⟨q0, hq0, hfq⟩ : ∃ q0, beginD (ps.map PI.dat) rs = some q0 ∧ fd 4 t (1, 1) q0 = (r.1, some r.2) := by
              rcases hlast with h0 | ⟨j, r', hj, hr', hp'⟩
              · subst h0
                have : rs = [] := List.length_eq_zero_iff.mp hrl
                subst this
                refine ⟨[], rfl, ?_⟩
                rw [hr0] at hr
                obtain rfl : r0 = r := Option.some.inj hr
                exact hfd0
              · obtain ⟨q0, e1, e2⟩ := hchn.step j r' r hr' (by rw [hj]; exact hr)
                refine ⟨q0, ?_, e2⟩
                cases rs with
                | nil => simp at hrl; omega
                | cons a b =>
                  show folL _ = _
                  rw [hp']
                  exact e1
            have hq4 : q0.length ≤ 4 := by
              obtain ⟨suf, e⟩ := fd_pre hfq
              rw [e, List.length_append] at hw5
              omega
            refine ⟨x, p, w, ps, rs, m', false, false, rfl, hX1, by omega, (fun h => by cases h), (fun _ hno => by rw [hq0] at hno; cases hno), (fun _ D hD hl => by omega), fun _ D' hD' _ H2 p' ps' k2 hX2 np' hpd => ?_⟩
            obtain rfl : q0 = D' := Option.some.inj (hq0.symm.trans hD')
            have kb2 := kb1.then1 k2 nbx
            have nbp' : Hb p' = none := kb1.none nin0 np'
            have T2 := tabs_M T1 k2 fun y hy => hX1.noTab y (by rw [List.mem_singleton.mp hy]; simp)
            have hpl2 : ps'.length ≤ 4 := by
              have := congrArg List.length hpd
              rw [List.length_map] at this
              omega
            obtain ⟨dx2, o2⟩ := hX2.ob
            walk_at "z"
            refine ⟨x, dx2, _, rfl, o2, by rfl, ?_⟩
            walk_at "z"
            refine Z.lstK (fun pt H4 npt k4 e4 => ?_)
            have kb4 := kb2.trans k4
            have nbpt : Hb pt = none := kb2.none nin0 npt
            have T4 := tabs_kp T2 k4
            have hX4 := hX2.kp0 k4
            have npx : pt ≠ x := (ne_of_none o2 npt).symm
            have npp : pt ≠ p' := (ne_of_none hX2.path npt).symm
            have npw : pt ≠ w := (ne_of_none hX2.rows npt).symm
            have hzw : ∀ z ∈ ps', z.w ≠ pt := fun z hz => ne_of_none (hX2.items z hz).wat npt
            have hTr4 : TrAt K [x, p', pt] H4 4 v t := tr_fresh kb4 (by simp [nbx, nbp', nbpt]) hTb
            walk_at "z"
            refine ⟨true, trivial, v, 4, fo, t, [x, p', pt], x, p', w, pt, ps', rs, false, r.1, r.2, rfl, hTr4, hO, by decide, by simp, by simp, by simp, npx, npp, npw, hX4, by omega, hzw, e4, by rw [hpd]; exact hfq, by rw [hRS]; exact hrm, fun H5 o ps5 m5 k5 hX5 hp5 hk5 ept5 => ?_⟩
            have kb5 : Kp [] Hb H5 := thenN kb4 k5 fun y hy => .inr (by
              rcases List.mem_cons.mp hy with rfl | hy
              · exact nbx
              rcases List.mem_cons.mp hy with rfl | hy
              · exact nbp'
              · rw [List.mem_singleton.mp hy]; exact nbpt)
            have T5 := tabs_M T4 k5 fun y hy => by
              rcases List.mem_cons.mp hy with rfl | hy
              · exact hX4.noTab _ (by simp)
              rcases List.mem_cons.mp hy with rfl | hy
              · exact hX4.noTab _ (by simp)
              · rw [List.mem_singleton.mp hy]
                exact ⟨_, e4, by simp, by simp⟩
            walk_at "z"
            refine ⟨x, p', w, ps5, rs, m5, true, false, o, okD r.2, rfl, hX5, by omega, hk5.dp, key_ok hw3, fun H7 r7 k7 hX7 hr7 => ?_⟩
            have kb7 : Kp [] Hb H7 := thenN kb5 k7 fun y hy => .inr (by
              rcases List.mem_cons.mp hy with rfl | hy
              · exact nbx
              · rw [List.mem_singleton.mp hy]; exact nbw)
            have T7 := tabs_M T5 k7 fun y hy => hX5.noTab y (by
              rcases List.mem_cons.mp hy with rfl | hy
              · simp
              · rw [List.mem_singleton.mp hy]; simp)
            walk_at "z"
            refine ⟨_, p', ps5, rs ++ [r7], m5, rfl, kb7, T7, hX7, ?_, hlt, ?_, .inr ⟨i, r, rfl, hr, hp5⟩⟩
            · have := congrArg List.length hp5
              rw [List.length_map] at this
              omega
            · rw [List.map_append, hrs, List.take_add_one, hr, List.map_append, List.map_append]
              congr 1
              show [r7.dat] = [emb (rKF r)]
              rw [hr7, hp5]
              rfl
          · have hiN' : i = RS.length := by omega
            have hend : beginD (ps.map PI.dat) rs = none := by
              rcases hlast with h0 | ⟨j, r', hj, hr', hp'⟩
              · omega
              · cases rs with
                | nil => simp at hrl; omega
                | cons a b =>
                  show folL _ = _
                  rw [hp']
                  exact hchn.fin j r' (by omega) hr'
            refine ⟨x, p, w, ps, rs, m', false, false, rfl, hX1, by omega, (fun h => by cases h), fun _ _ H2 k2 hX2 => ?_, (fun _ D hD => by rw [hend] at hD; cases hD), (fun _ D hD => by rw [hend] at hD; cases hD)⟩
            walk_at "z"
            refine jn _ _ ⟨_, p, ps, rs, m', rfl, kb1.then1 k2 nbx, tabs_M T1 k2 fun y hy => hX1.noTab y (by rw [List.mem_singleton.mp hy]; simp), hX2, ?_⟩
            rw [hrs, hiN', List.take_length]
        · rintro σ' H1 ⟨y6, p, ps, rs, m', rfl, kb1, T1, hX1, hpl, hiN, hrs, hlast⟩
          omega
    · intro N jn
      walk_at "z"
      refine ⟨side, m, rfl, hsl, by omega, ?_⟩
      walk_at "z"
      refine Z.ite (fun hp => ?_) (fun hp => ?_)
      · walk_at "z"
        refine Z.lstK (fun w1 H7 n7 k7 e7 => ?_)
        walk_at "z"
        refine Z.lstK (fun c1 H8 n8 k8 e8 => ?_)
        walk_at "z"
        refine Z.lstK (fun c2 H9 n9 k9 e9 => ?_)
        walk_at "z"
        refine Z.lstK (fun cc H10 n10 k10 e10 => ?_)
        walk_at "z"
        refine Z.lstK (fun tt H11 n11 k11 e11 => ?_)
        walk_at "z"
        refine jn _ _ ⟨.ref tt, .n [1, 2] [.e (.inl (.inl 3)), .e (.inl (.inl 5))], 3, 1, 0, rfl, ⟨tt, w1, cc, [.ref c1, .ref c2], rfl, e11, ((k8.trans k9).trans (k10.trans k11)).get nin0 e7, k11.get nin0 e10, rfl, by simp, by simp, by simp, fun i v' c' hv hc => ?_⟩, ⟨⟨by decide, by decide, by decide⟩, rfl, fun i c' hc hp => ?_⟩, by decide, ⟨⟨1, rfl⟩, fun i hi => ?_⟩, by decide, by decide, by decide, by decide, tabs_kp (tabs_kp (tabs_kp (tabs_kp (tabs_kp T6 k7) k8) k9) k10) k11⟩
        · match i, hv, hc with
          | 0, hv, hc =>
            obtain rfl := Option.some.inj hv
            obtain rfl := Option.some.inj hc
            exact ⟨c1, .int 3, rfl, ((k9.trans k10).trans k11).get nin0 e8, rfl, by simp⟩
          | 1, hv, hc =>
            obtain rfl := Option.some.inj hv
            obtain rfl := Option.some.inj hc
            exact ⟨c2, .int 5, rfl, (k10.trans k11).get nin0 e9, rfl, by simp⟩
          | i + 2, hv, hc => simp at hv
        · match i, hc with
          | 0, hc =>
            obtain rfl := Option.some.inj hc
            exact ⟨rfl, trivial⟩
          | 1, hc =>
            obtain rfl := Option.some.inj hc
            exact ⟨rfl, trivial⟩
          | i + 2, hc => simp at hc
        · match i, hi with
          | 0, _ => exact Fit.e_ok
          | 1, _ => exact Fit.e_ok
          | i + 2, hi => exact absurd hi (by simp)
      · walk_at "z"
        exact jn _ _ ⟨v, t, side, m, fo, rfl, hTr6.mono (by omega), hO.mono (by omega), hfo, hF4, hs1, hsl, by omega, by omega, T6⟩
end law13

set_option maxHeartbeats 2000000 in
set_option maxHeartbeats 4000000 in
theorem all_mk {l : PySem.W.OpenLaw} {w : World} {K : PySem.W.Frag} {h : Heap} {mg : Str → Option Value} {fa : Addr} {ts : List Addr} (X : K.In h) (G : h.Ns mainGlobals mg) (hts : ∀ P ∈ ts, h.get? P = some (PySem.W.tabObj #[])) (hfa : mg "law" = some (.ref fa))
    {CSamphireError : Addr}
    {CTooLarge fTooLarge cTooLarge ccTooLarge : Addr}
    {CZeroDenominator fZeroDenominator cZeroDenominator ccZeroDenominator : Addr}
    {CInvalidLaw fInvalidLaw cInvalidLaw ccInvalidLaw : Addr}
    {CNotEnded fNotEnded cNotEnded ccNotEnded : Addr}
    {CExplorer : Addr}
    {CTape : Addr}
    {od1 an1 : Option Addr} {sl1 : Array (Option Value)} {oc1 kV1 dc1 pm1 cd1 ct1 : Value} {f1 : Addr}
    {od2 an2 : Option Addr} {sl2 : Array (Option Value)} {oc2 kV2 dc2 pm2 cd2 ct2 : Value} {f2 : Addr}
    {od3 an3 : Option Addr} {sl3 : Array (Option Value)} {oc3 kV3 dc3 pm3 cd3 ct3 : Value} {f3 : Addr}
    {od4 an4 : Option Addr} {sl4 : Array (Option Value)} {oc4 kV4 dc4 pm4 cd4 ct4 : Value} {f4 : Addr}
    {od5 an5 : Option Addr} {sl5 : Array (Option Value)} {oc5 kV5 dc5 pm5 cd5 ct5 : Value} {f5 : Addr}
    {od6 an6 : Option Addr} {sl6 : Array (Option Value)} {oc6 kV6 dc6 pm6 cd6 ct6 : Value} {f6 : Addr}
    {od7 an7 : Option Addr} {sl7 : Array (Option Value)} {oc7 kV7 dc7 pm7 ct7 : Value} {f7 : Addr}
    {tc7 tP7 : Addr} {toc7 : Value} {tod7 : Option Addr} {tcv7 : List Value} {tsl7 : Array (Option Value)}
    {od8 an8 : Option Addr} {sl8 : Array (Option Value)} {oc8 kV8 dc8 pm8 cd8 ct8 : Value} {f8 : Addr}
    {od9 an9 : Option Addr} {sl9 : Array (Option Value)} {oc9 kV9 dc9 pm9 cd9 ct9 : Value} {f9 : Addr}
    {od10 an10 : Option Addr} {sl10 : Array (Option Value)} {oc10 kV10 dc10 pm10 cd10 ct10 : Value} {f10 : Addr}
    {od11 an11 : Option Addr} {sl11 : Array (Option Value)} {oc11 kV11 dc11 pm11 cd11 ct11 : Value} {f11 : Addr}
    {od12 an12 : Option Addr} {sl12 : Array (Option Value)} {oc12 kV12 dc12 pm12 cd12 ct12 : Value} {f12 : Addr}
    {od13 an13 : Option Addr} {sl13 : Array (Option Value)} {oc13 kV13 dc13 pm13 cd13 ct13 : Value} {f13 : Addr}
    {od14 an14 : Option Addr} {sl14 : Array (Option Value)} {oc14 kV14 dc14 pm14 cd14 ct14 : Value} {f14 : Addr}
    {od15 an15 : Option Addr} {sl15 : Array (Option Value)} {oc15 kV15 dc15 pm15 cd15 ct15 : Value} {f15 : Addr}
    {od16 an16 : Option Addr} {sl16 : Array (Option Value)} {oc16 kV16 dc16 pm16 cd16 ct16 : Value} {f16 : Addr}
    {od17 an17 : Option Addr} {sl17 : Array (Option Value)} {oc17 kV17 dc17 pm17 cd17 ct17 : Value} {f17 : Addr}
    {od18 an18 : Option Addr} {sl18 : Array (Option Value)} {oc18 kV18 dc18 pm18 cd18 ct18 : Value} {f18 : Addr}
    {od19 an19 : Option Addr} {sl19 : Array (Option Value)} {oc19 kV19 dc19 pm19 cd19 ct19 : Value} {f19 : Addr}
    {od20 an20 : Option Addr} {sl20 : Array (Option Value)} {oc20 kV20 dc20 pm20 cd20 ct20 : Value} {f20 : Addr}
    {od21 an21 : Option Addr} {sl21 : Array (Option Value)} {oc21 kV21 dc21 pm21 cd21 ct21 : Value} {f21 : Addr}
    {od22 an22 : Option Addr} {sl22 : Array (Option Value)} {oc22 kV22 dc22 pm22 cd22 ct22 : Value} {f22 : Addr}
    {od23 an23 : Option Addr} {sl23 : Array (Option Value)} {oc23 kV23 dc23 pm23 cd23 ct23 : Value} {f23 : Addr}
    {od24 an24 : Option Addr} {sl24 : Array (Option Value)} {oc24 kV24 dc24 pm24 cd24 ct24 : Value} {f24 : Addr}
    {od25 an25 : Option Addr} {sl25 : Array (Option Value)} {oc25 kV25 dc25 pm25 cd25 ct25 : Value} {f25 : Addr}
    {od26 an26 : Option Addr} {sl26 : Array (Option Value)} {oc26 kV26 dc26 pm26 cd26 ct26 : Value} {f26 : Addr}
    {od27 an27 : Option Addr} {sl27 : Array (Option Value)} {oc27 kV27 dc27 pm27 cd27 ct27 : Value} {f27 : Addr}
    {od28 an28 : Option Addr} {sl28 : Array (Option Value)} {oc28 kV28 dc28 pm28 cd28 ct28 : Value} {f28 : Addr}
    {od29 an29 : Option Addr} {sl29 : Array (Option Value)} {oc29 kV29 dc29 pm29 cd29 ct29 : Value} {f29 : Addr}
    {od30 an30 : Option Addr} {sl30 : Array (Option Value)} {oc30 kV30 dc30 pm30 cd30 ct30 : Value} {f30 : Addr}
    {od31 an31 : Option Addr} {sl31 : Array (Option Value)} {oc31 kV31 dc31 pm31 cd31 ct31 : Value} {f31 : Addr}
    {nmTooLarge qTooLarge : Str} {NTooLarge : Addr} {bsTooLarge : List Value} {snTooLarge : List Str} {subTooLarge : List Value} {abTooLarge : Bool} {colTooLarge : Option Bool} {ddTooLarge : Option Addr} {m0TooLarge m1TooLarge m2TooLarge m3TooLarge m5TooLarge : Option Value} {occTooLarge : Value} {cddTooLarge : Option Addr} {cvsTooLarge : List Value} {cslTooLarge : Array (Option Value)} {cclTooLarge : Value} {ccdTooLarge : Option Addr} {ccsTooLarge : Array (Option Value)} {ocTooLarge : Value} {odTooLarge : Option Addr} {oslTooLarge : Array (Option Value)} {docTooLarge pmTooLarge ctvTooLarge : Value}
    {nmZeroDenominator qZeroDenominator : Str} {NZeroDenominator : Addr} {bsZeroDenominator : List Value} {snZeroDenominator : List Str} {subZeroDenominator : List Value} {abZeroDenominator : Bool} {colZeroDenominator : Option Bool} {ddZeroDenominator : Option Addr} {m0ZeroDenominator m1ZeroDenominator m2ZeroDenominator m3ZeroDenominator m5ZeroDenominator : Option Value} {occZeroDenominator : Value} {cddZeroDenominator : Option Addr} {cvsZeroDenominator : List Value} {cslZeroDenominator : Array (Option Value)} {cclZeroDenominator : Value} {ccdZeroDenominator : Option Addr} {ccsZeroDenominator : Array (Option Value)} {ocZeroDenominator : Value} {odZeroDenominator : Option Addr} {oslZeroDenominator : Array (Option Value)} {docZeroDenominator pmZeroDenominator ctvZeroDenominator : Value}
    {nmInvalidLaw qInvalidLaw : Str} {NInvalidLaw : Addr} {bsInvalidLaw : List Value} {snInvalidLaw : List Str} {subInvalidLaw : List Value} {abInvalidLaw : Bool} {colInvalidLaw : Option Bool} {ddInvalidLaw : Option Addr} {m0InvalidLaw m1InvalidLaw m2InvalidLaw m3InvalidLaw m5InvalidLaw : Option Value} {occInvalidLaw : Value} {cddInvalidLaw : Option Addr} {cvsInvalidLaw : List Value} {cslInvalidLaw : Array (Option Value)} {cclInvalidLaw : Value} {ccdInvalidLaw : Option Addr} {ccsInvalidLaw : Array (Option Value)} {ocInvalidLaw : Value} {odInvalidLaw : Option Addr} {oslInvalidLaw : Array (Option Value)} {docInvalidLaw pmInvalidLaw ctvInvalidLaw : Value}
    {nmNotEnded qNotEnded : Str} {NNotEnded : Addr} {bsNotEnded : List Value} {snNotEnded : List Str} {subNotEnded : List Value} {abNotEnded : Bool} {colNotEnded : Option Bool} {ddNotEnded : Option Addr} {m0NotEnded m1NotEnded m2NotEnded m3NotEnded m5NotEnded : Option Value} {occNotEnded : Value} {cddNotEnded : Option Addr} {cvsNotEnded : List Value} {cslNotEnded : Array (Option Value)} {cclNotEnded : Value} {ccdNotEnded : Option Addr} {ccsNotEnded : Array (Option Value)} {ocNotEnded : Value} {odNotEnded : Option Addr} {oslNotEnded : Array (Option Value)} {docNotEnded pmNotEnded ctvNotEnded : Value}
    {t_MOST_RUNS : Tok}
    {k_ZERO : Addr} {od_ZERO : Option Addr} {nn_ZERO : Nat} {sl_ZERO : Array (Option Value)} {t0_ZERO t1_ZERO : Tok}
    {k_ONE : Addr} {od_ONE : Option Addr} {nn_ONE : Nat} {sl_ONE : Array (Option Value)} {t0_ONE t1_ONE : Tok}
    (a1 : PySem.W.nsIn K mainGlobals "lowest" = some (some (.ref f1)))
    (l1 : K.lookup f1 = some ⟨oc1, od1, .func (PySem.W.fnOf "lowest" "lowest" (defArgs s_lowest) (defBody s_lowest) (defScope s_lowest) .none kV1 dc1 pm1 an1 cd1 ct1), sl1⟩)
    (c1 : PySem.W.codeIn K cd1 "lowest" = true)
    (k1 : PySem.W.keepIn K (.ref f1) = true)
    (a2 : PySem.W.nsIn K mainGlobals "plus" = some (some (.ref f2)))
    (l2 : K.lookup f2 = some ⟨oc2, od2, .func (PySem.W.fnOf "plus" "plus" (defArgs s_plus) (defBody s_plus) (defScope s_plus) .none kV2 dc2 pm2 an2 cd2 ct2), sl2⟩)
    (c2 : PySem.W.codeIn K cd2 "plus" = true)
    (k2 : PySem.W.keepIn K (.ref f2) = true)
    (a3 : PySem.W.nsIn K mainGlobals "times" = some (some (.ref f3)))
    (l3 : K.lookup f3 = some ⟨oc3, od3, .func (PySem.W.fnOf "times" "times" (defArgs s_times) (defBody s_times) (defScope s_times) .none kV3 dc3 pm3 an3 cd3 ct3), sl3⟩)
    (c3 : PySem.W.codeIn K cd3 "times" = true)
    (k3 : PySem.W.keepIn K (.ref f3) = true)
    (a4 : PySem.W.nsIn K mainGlobals "less" = some (some (.ref f4)))
    (l4 : K.lookup f4 = some ⟨oc4, od4, .func (PySem.W.fnOf "less" "less" (defArgs s_less) (defBody s_less) (defScope s_less) .none kV4 dc4 pm4 an4 cd4 ct4), sl4⟩)
    (c4 : PySem.W.codeIn K cd4 "less" = true)
    (k4 : PySem.W.keepIn K (.ref f4) = true)
    (a5 : PySem.W.nsIn K mainGlobals "sum_of" = some (some (.ref f5)))
    (l5 : K.lookup f5 = some ⟨oc5, od5, .func (PySem.W.fnOf "sum_of" "sum_of" (defArgs s_sum_of) (defBody s_sum_of) (defScope s_sum_of) .none kV5 dc5 pm5 an5 cd5 ct5), sl5⟩)
    (c5 : PySem.W.codeIn K cd5 "sum_of" = true)
    (k5 : PySem.W.keepIn K (.ref f5) = true)
    (a6 : PySem.W.nsIn K mainGlobals "check_chances" = some (some (.ref f6)))
    (l6 : K.lookup f6 = some ⟨oc6, od6, .func (PySem.W.fnOf "check_chances" "check_chances" (defArgs s_check_chances) (defBody s_check_chances) (defScope s_check_chances) .none kV6 dc6 pm6 an6 cd6 ct6), sl6⟩)
    (c6 : PySem.W.codeIn K cd6 "check_chances" = true)
    (k6 : PySem.W.keepIn K (.ref f6) = true)
    (a7 : PySem.W.nsIn K mainGlobals "law_from" = some (some (.ref f7)))
    (l7 : K.lookup f7 = some ⟨oc7, od7, .func (PySem.W.fnOf "law_from" "law_from" (defArgs s_law_from) (defBody s_law_from) (defScope s_law_from) .none kV7 dc7 pm7 an7 (.ref tc7) ct7), sl7⟩)
    (c7 : PySem.W.codeIn K (.ref tc7) "law_from" = true)
    (k7 : PySem.W.keepIn K (.ref f7) = true)
    (tl7 : K.lookup tc7 = some ⟨toc7, tod7, .fields tcv7.toArray, tsl7⟩)
    (tp7 : tcv7[11]? = some (.ref tP7))
    (th7 : PySem.W.codeHdIn K tc7 tP7 = true) (tn7 : K.lookup tP7 = none)
    (tm7 : tP7 ∈ ts)
    (a8 : PySem.W.nsIn K mainGlobals "next_number" = some (some (.ref f8)))
    (l8 : K.lookup f8 = some ⟨oc8, od8, .func (PySem.W.fnOf "next_number" "next_number" (defArgs s_next_number) (defBody s_next_number) (defScope s_next_number) .none kV8 dc8 pm8 an8 cd8 ct8), sl8⟩)
    (c8 : PySem.W.codeIn K cd8 "next_number" = true)
    (k8 : PySem.W.keepIn K (.ref f8) = true)
    (a9 : PySem.W.nsIn K mainGlobals "chance_behind" = some (some (.ref f9)))
    (l9 : K.lookup f9 = some ⟨oc9, od9, .func (PySem.W.fnOf "chance_behind" "chance_behind" (defArgs s_chance_behind) (defBody s_chance_behind) (defScope s_chance_behind) .none kV9 dc9 pm9 an9 cd9 ct9), sl9⟩)
    (c9 : PySem.W.codeIn K cd9 "chance_behind" = true)
    (k9 : PySem.W.keepIn K (.ref f9) = true)
    (a10 : PySem.W.nsIn K mainGlobals "following" = some (some (.ref f10)))
    (l10 : K.lookup f10 = some ⟨oc10, od10, .func (PySem.W.fnOf "following" "following" (defArgs s_following) (defBody s_following) (defScope s_following) .none kV10 dc10 pm10 an10 cd10 ct10), sl10⟩)
    (c10 : PySem.W.codeIn K cd10 "following" = true)
    (k10 : PySem.W.keepIn K (.ref f10) = true)
    (a11 : PySem.W.findIn K (.ref CExplorer) "__init__" = some (some (.ref f11)))
    (i11 : PySem.W.isFn K (.ref f11) = true)
    (l11 : K.lookup f11 = some ⟨oc11, od11, .func (PySem.W.fnOf "__init__" "Explorer.__init__" (defArgs s_Explorer_init) (defBody s_Explorer_init) (defScope s_Explorer_init) .none kV11 dc11 pm11 an11 cd11 ct11), sl11⟩)
    (c11 : PySem.W.codeIn K cd11 "Explorer.__init__" = true)
    (k11 : PySem.W.keepIn K (.ref f11) = true)
    (a12 : PySem.W.findIn K (.ref CExplorer) "begin" = some (some (.ref f12)))
    (i12 : PySem.W.isFn K (.ref f12) = true)
    (l12 : K.lookup f12 = some ⟨oc12, od12, .func (PySem.W.fnOf "begin" "Explorer.begin" (defArgs s_Explorer_begin) (defBody s_Explorer_begin) (defScope s_Explorer_begin) .none kV12 dc12 pm12 an12 cd12 ct12), sl12⟩)
    (c12 : PySem.W.codeIn K cd12 "Explorer.begin" = true)
    (k12 : PySem.W.keepIn K (.ref f12) = true)
    (a13 : PySem.W.findIn K (.ref CExplorer) "pick" = some (some (.ref f13)))
    (i13 : PySem.W.isFn K (.ref f13) = true)
    (l13 : K.lookup f13 = some ⟨oc13, od13, .func (PySem.W.fnOf "pick" "Explorer.pick" (defArgs s_Explorer_pick) (defBody s_Explorer_pick) (defScope s_Explorer_pick) .none kV13 dc13 pm13 an13 cd13 ct13), sl13⟩)
    (c13 : PySem.W.codeIn K cd13 "Explorer.pick" = true)
    (k13 : PySem.W.keepIn K (.ref f13) = true)
    (a14 : PySem.W.findIn K (.ref CExplorer) "end" = some (some (.ref f14)))
    (i14 : PySem.W.isFn K (.ref f14) = true)
    (l14 : K.lookup f14 = some ⟨oc14, od14, .func (PySem.W.fnOf "end" "Explorer.end" (defArgs s_Explorer_end) (defBody s_Explorer_end) (defScope s_Explorer_end) .none kV14 dc14 pm14 an14 cd14 ct14), sl14⟩)
    (c14 : PySem.W.codeIn K cd14 "Explorer.end" = true)
    (k14 : PySem.W.keepIn K (.ref f14) = true)
    (a15 : PySem.W.findIn K (.ref CExplorer) "runs" = some (some (.ref f15)))
    (i15 : PySem.W.isFn K (.ref f15) = true)
    (l15 : K.lookup f15 = some ⟨oc15, od15, .func (PySem.W.fnOf "runs" "Explorer.runs" (defArgs s_Explorer_runs) (defBody s_Explorer_runs) (defScope s_Explorer_runs) .none kV15 dc15 pm15 an15 cd15 ct15), sl15⟩)
    (c15 : PySem.W.codeIn K cd15 "Explorer.runs" = true)
    (k15 : PySem.W.keepIn K (.ref f15) = true)
    (a16 : PySem.W.findIn K (.ref CExplorer) "gathered" = some (some (.ref f16)))
    (i16 : PySem.W.isFn K (.ref f16) = true)
    (l16 : K.lookup f16 = some ⟨oc16, od16, .func (PySem.W.fnOf "gathered" "Explorer.gathered" (defArgs s_Explorer_gathered) (defBody s_Explorer_gathered) (defScope s_Explorer_gathered) .none kV16 dc16 pm16 an16 cd16 ct16), sl16⟩)
    (c16 : PySem.W.codeIn K cd16 "Explorer.gathered" = true)
    (k16 : PySem.W.keepIn K (.ref f16) = true)
    (a17 : PySem.W.nsIn K mainGlobals "number_at" = some (some (.ref f17)))
    (l17 : K.lookup f17 = some ⟨oc17, od17, .func (PySem.W.fnOf "number_at" "number_at" (defArgs s_number_at) (defBody s_number_at) (defScope s_number_at) .none kV17 dc17 pm17 an17 cd17 ct17), sl17⟩)
    (c17 : PySem.W.codeIn K cd17 "number_at" = true)
    (k17 : PySem.W.keepIn K (.ref f17) = true)
    (a18 : PySem.W.findIn K (.ref CTape) "__init__" = some (some (.ref f18)))
    (i18 : PySem.W.isFn K (.ref f18) = true)
    (l18 : K.lookup f18 = some ⟨oc18, od18, .func (PySem.W.fnOf "__init__" "Tape.__init__" (defArgs s_Tape_init) (defBody s_Tape_init) (defScope s_Tape_init) .none kV18 dc18 pm18 an18 cd18 ct18), sl18⟩)
    (c18 : PySem.W.codeIn K cd18 "Tape.__init__" = true)
    (k18 : PySem.W.keepIn K (.ref f18) = true)
    (a19 : PySem.W.findIn K (.ref CTape) "pick" = some (some (.ref f19)))
    (i19 : PySem.W.isFn K (.ref f19) = true)
    (l19 : K.lookup f19 = some ⟨oc19, od19, .func (PySem.W.fnOf "pick" "Tape.pick" (defArgs s_Tape_pick) (defBody s_Tape_pick) (defScope s_Tape_pick) .none kV19 dc19 pm19 an19 cd19 ct19), sl19⟩)
    (c19 : PySem.W.codeIn K cd19 "Tape.pick" = true)
    (k19 : PySem.W.keepIn K (.ref f19) = true)
    (a20 : PySem.W.nsIn K mainGlobals "_law_deck" = some (some (.ref f20)))
    (l20 : K.lookup f20 = some ⟨oc20, od20, .func (PySem.W.fnOf "_law_deck" "_law_deck" (defArgs s__law_deck) (defBody s__law_deck) (defScope s__law_deck) .none kV20 dc20 pm20 an20 cd20 ct20), sl20⟩)
    (c20 : PySem.W.codeIn K cd20 "_law_deck" = true)
    (k20 : PySem.W.keepIn K (.ref f20) = true)
    (a21 : PySem.W.nsIn K mainGlobals "_law_draw" = some (some (.ref f21)))
    (l21 : K.lookup f21 = some ⟨oc21, od21, .func (PySem.W.fnOf "_law_draw" "_law_draw" (defArgs s__law_draw) (defBody s__law_draw) (defScope s__law_draw) .none kV21 dc21 pm21 an21 cd21 ct21), sl21⟩)
    (c21 : PySem.W.codeIn K cd21 "_law_draw" = true)
    (k21 : PySem.W.keepIn K (.ref f21) = true)
    (a22 : PySem.W.nsIn K mainGlobals "_law_low" = some (some (.ref f22)))
    (l22 : K.lookup f22 = some ⟨oc22, od22, .func (PySem.W.fnOf "_law_low" "_law_low" (defArgs s__law_low) (defBody s__law_low) (defScope s__law_low) .none kV22 dc22 pm22 an22 cd22 ct22), sl22⟩)
    (c22 : PySem.W.codeIn K cd22 "_law_low" = true)
    (k22 : PySem.W.keepIn K (.ref f22) = true)
    (a23 : PySem.W.nsIn K mainGlobals "_law_weights" = some (some (.ref f23)))
    (l23 : K.lookup f23 = some ⟨oc23, od23, .func (PySem.W.fnOf "_law_weights" "_law_weights" (defArgs s__law_weights) (defBody s__law_weights) (defScope s__law_weights) .none kV23 dc23 pm23 an23 cd23 ct23), sl23⟩)
    (c23 : PySem.W.codeIn K cd23 "_law_weights" = true)
    (k23 : PySem.W.keepIn K (.ref f23) = true)
    (a24 : PySem.W.nsIn K mainGlobals "_law_tree" = some (some (.ref f24)))
    (l24 : K.lookup f24 = some ⟨oc24, od24, .func (PySem.W.fnOf "_law_tree" "_law_tree" (defArgs s__law_tree) (defBody s__law_tree) (defScope s__law_tree) .none kV24 dc24 pm24 an24 cd24 ct24), sl24⟩)
    (c24 : PySem.W.codeIn K cd24 "_law_tree" = true)
    (k24 : PySem.W.keepIn K (.ref f24) = true)
    (a25 : PySem.W.nsIn K mainGlobals "_law_deed" = some (some (.ref f25)))
    (l25 : K.lookup f25 = some ⟨oc25, od25, .func (PySem.W.fnOf "_law_deed" "_law_deed" (defArgs s__law_deed) (defBody s__law_deed) (defScope s__law_deed) .none kV25 dc25 pm25 an25 cd25 ct25), sl25⟩)
    (c25 : PySem.W.codeIn K cd25 "_law_deed" = true)
    (k25 : PySem.W.keepIn K (.ref f25) = true)
    (a26 : PySem.W.nsIn K mainGlobals "_law_depth" = some (some (.ref f26)))
    (l26 : K.lookup f26 = some ⟨oc26, od26, .func (PySem.W.fnOf "_law_depth" "_law_depth" (defArgs s__law_depth) (defBody s__law_depth) (defScope s__law_depth) .none kV26 dc26 pm26 an26 cd26 ct26), sl26⟩)
    (c26 : PySem.W.codeIn K cd26 "_law_depth" = true)
    (k26 : PySem.W.keepIn K (.ref f26) = true)
    (a27 : PySem.W.nsIn K mainGlobals "_law_common" = some (some (.ref f27)))
    (l27 : K.lookup f27 = some ⟨oc27, od27, .func (PySem.W.fnOf "_law_common" "_law_common" (defArgs s__law_common) (defBody s__law_common) (defScope s__law_common) .none kV27 dc27 pm27 an27 cd27 ct27), sl27⟩)
    (c27 : PySem.W.codeIn K cd27 "_law_common" = true)
    (k27 : PySem.W.keepIn K (.ref f27) = true)
    (a28 : PySem.W.nsIn K mainGlobals "_law_shared" = some (some (.ref f28)))
    (l28 : K.lookup f28 = some ⟨oc28, od28, .func (PySem.W.fnOf "_law_shared" "_law_shared" (defArgs s__law_shared) (defBody s__law_shared) (defScope s__law_shared) .none kV28 dc28 pm28 an28 cd28 ct28), sl28⟩)
    (c28 : PySem.W.codeIn K cd28 "_law_shared" = true)
    (k28 : PySem.W.keepIn K (.ref f28) = true)
    (a29 : PySem.W.nsIn K mainGlobals "_law_lists" = some (some (.ref f29)))
    (l29 : K.lookup f29 = some ⟨oc29, od29, .func (PySem.W.fnOf "_law_lists" "_law_lists" (defArgs s__law_lists) (defBody s__law_lists) (defScope s__law_lists) .none kV29 dc29 pm29 an29 cd29 ct29), sl29⟩)
    (c29 : PySem.W.codeIn K cd29 "_law_lists" = true)
    (k29 : PySem.W.keepIn K (.ref f29) = true)
    (a30 : PySem.W.nsIn K mainGlobals "_law_power" = some (some (.ref f30)))
    (l30 : K.lookup f30 = some ⟨oc30, od30, .func (PySem.W.fnOf "_law_power" "_law_power" (defArgs s__law_power) (defBody s__law_power) (defScope s__law_power) .none kV30 dc30 pm30 an30 cd30 ct30), sl30⟩)
    (c30 : PySem.W.codeIn K cd30 "_law_power" = true)
    (k30 : PySem.W.keepIn K (.ref f30) = true)
    (a31 : PySem.W.nsIn K mainGlobals "law" = some (some (.ref f31)))
    (l31 : K.lookup f31 = some ⟨oc31, od31, .func (PySem.W.fnOf "law" "law" (defArgs s_law) (defBody s_law) (defScope s_law) .none kV31 dc31 pm31 an31 cd31 ct31), sl31⟩)
    (c31 : PySem.W.codeIn K cd31 "law" = true)
    (k31 : PySem.W.keepIn K (.ref f31) = true)
    (aCSamphireError : PySem.W.nsIn K mainGlobals "SamphireError" = some (some (.ref CSamphireError)))
    (aCTooLarge : PySem.W.nsIn K mainGlobals "TooLarge" = some (some (.ref CTooLarge)))
    (iCTooLarge : PySem.W.findIn K (.ref CTooLarge) "__init__" = some (some (.ref fTooLarge)))
    (tITooLarge : PySem.W.typeIn K (.ref fTooLarge) = some (.type "function"))
    (lkTooLarge : K.lookup fTooLarge = some ⟨ocTooLarge, odTooLarge, .func ((NF_TooLarge ccTooLarge cTooLarge).fd docTooLarge pmTooLarge ctvTooLarge), oslTooLarge⟩)
    (hcTooLarge : PySem.W.codeIn K (.ref cTooLarge) "TooLarge.__init__" = true)
    (xLTooLarge : K.lookup CTooLarge = some (excClassObj nmTooLarge qTooLarge CTooLarge NTooLarge bsTooLarge [.ref CSamphireError, .type "ValueError", .type "Exception", .type "BaseException", .type "object"] true snTooLarge subTooLarge abTooLarge colTooLarge ddTooLarge m0TooLarge m1TooLarge m2TooLarge m3TooLarge m5TooLarge "ValueError.__new__"))
    (saTooLarge : PySem.W.findIn K (.ref CTooLarge) "__setattr__" = some (some (.builtin "object.__setattr__")))
    (sBTooLarge : PySem.W.subIn K (.ref CTooLarge) (.type "BaseException") = some true)
    (tCTooLarge : PySem.W.typeIn K (.ref CTooLarge) = some (.type "type"))
    (kCTooLarge : PySem.W.keepIn K (.ref CTooLarge) = true)
    (coTooLarge : K.lookup cTooLarge = some ⟨occTooLarge, cddTooLarge, .fields cvsTooLarge.toArray, cslTooLarge⟩)
    (flTooLarge : Sup.flIs cvsTooLarge l.prog.main.file = true)
    (ceTooLarge : K.lookup ccTooLarge = some ⟨cclTooLarge, ccdTooLarge, .cell (some (.ref CTooLarge)), ccsTooLarge⟩)
    (mrTooLarge : PySem.W.mroIn K CTooLarge (.ref CTooLarge) = some true)
    (sVTooLarge : PySem.W.subIn K (.ref CTooLarge) (.type "ValueError") = some true)
    (anTooLarge : PySem.W.nsIn K PySem.cStatics "thirdparty.any" = some none)
    (suTooLarge : PySem.W.ks_superIn K CTooLarge CTooLarge "__init__" = some (some (.builtin "ValueError.__init__")))
    (tpTooLarge : (l.prog.main.scope.names.lookup ("super" : Str)).isSome = false)
    (hgTooLarge : PySem.W.findIn K (.ref CTooLarge) "__getattribute__" = some (some (.builtin "BaseException.__getattribute__")))
    (hkTooLarge : PySem.W.findIn K (.ref CTooLarge) "__getattr__" = some none)
    (hdTooLarge : PySem.W.hasDictIn K CTooLarge = true)
    (haTooLarge : PySem.W.findIn K (.ref CTooLarge) "__class__" = some (some (.builtin "object.__class__")))
    (hnTooLarge : PySem.W.specialIn K (.builtin "object.__class__") "__get__" = some (some (.builtin "getset_descriptor.__get__")))
    (htTooLarge : PySem.W.takesIn K (.builtin "object.__class__") = some true)
    (hmTooLarge : PySem.W.mroIn K CTooLarge (.type "object") = some true)
    (icTooLarge : PySem.W.isClsIn K CTooLarge = true)
    (sCTooLarge : PySem.W.subIn K (.ref CTooLarge) (.ref CTooLarge) = some true)
    (nf_limit_TooLarge : PySem.W.findIn K (.ref CTooLarge) "limit" = some none)
    (aCZeroDenominator : PySem.W.nsIn K mainGlobals "ZeroDenominator" = some (some (.ref CZeroDenominator)))
    (iCZeroDenominator : PySem.W.findIn K (.ref CZeroDenominator) "__init__" = some (some (.ref fZeroDenominator)))
    (tIZeroDenominator : PySem.W.typeIn K (.ref fZeroDenominator) = some (.type "function"))
    (lkZeroDenominator : K.lookup fZeroDenominator = some ⟨ocZeroDenominator, odZeroDenominator, .func ((NF_ZeroDenominator ccZeroDenominator cZeroDenominator).fd docZeroDenominator pmZeroDenominator ctvZeroDenominator), oslZeroDenominator⟩)
    (hcZeroDenominator : PySem.W.codeIn K (.ref cZeroDenominator) "ZeroDenominator.__init__" = true)
    (xLZeroDenominator : K.lookup CZeroDenominator = some (excClassObj nmZeroDenominator qZeroDenominator CZeroDenominator NZeroDenominator bsZeroDenominator [.ref CSamphireError, .type "ValueError", .type "Exception", .type "BaseException", .type "object"] true snZeroDenominator subZeroDenominator abZeroDenominator colZeroDenominator ddZeroDenominator m0ZeroDenominator m1ZeroDenominator m2ZeroDenominator m3ZeroDenominator m5ZeroDenominator "ValueError.__new__"))
    (saZeroDenominator : PySem.W.findIn K (.ref CZeroDenominator) "__setattr__" = some (some (.builtin "object.__setattr__")))
    (sBZeroDenominator : PySem.W.subIn K (.ref CZeroDenominator) (.type "BaseException") = some true)
    (tCZeroDenominator : PySem.W.typeIn K (.ref CZeroDenominator) = some (.type "type"))
    (kCZeroDenominator : PySem.W.keepIn K (.ref CZeroDenominator) = true)
    (coZeroDenominator : K.lookup cZeroDenominator = some ⟨occZeroDenominator, cddZeroDenominator, .fields cvsZeroDenominator.toArray, cslZeroDenominator⟩)
    (flZeroDenominator : Sup.flIs cvsZeroDenominator l.prog.main.file = true)
    (ceZeroDenominator : K.lookup ccZeroDenominator = some ⟨cclZeroDenominator, ccdZeroDenominator, .cell (some (.ref CZeroDenominator)), ccsZeroDenominator⟩)
    (mrZeroDenominator : PySem.W.mroIn K CZeroDenominator (.ref CZeroDenominator) = some true)
    (sVZeroDenominator : PySem.W.subIn K (.ref CZeroDenominator) (.type "ValueError") = some true)
    (anZeroDenominator : PySem.W.nsIn K PySem.cStatics "thirdparty.any" = some none)
    (suZeroDenominator : PySem.W.ks_superIn K CZeroDenominator CZeroDenominator "__init__" = some (some (.builtin "ValueError.__init__")))
    (tpZeroDenominator : (l.prog.main.scope.names.lookup ("super" : Str)).isSome = false)
    (hgZeroDenominator : PySem.W.findIn K (.ref CZeroDenominator) "__getattribute__" = some (some (.builtin "BaseException.__getattribute__")))
    (hkZeroDenominator : PySem.W.findIn K (.ref CZeroDenominator) "__getattr__" = some none)
    (hdZeroDenominator : PySem.W.hasDictIn K CZeroDenominator = true)
    (haZeroDenominator : PySem.W.findIn K (.ref CZeroDenominator) "__class__" = some (some (.builtin "object.__class__")))
    (hnZeroDenominator : PySem.W.specialIn K (.builtin "object.__class__") "__get__" = some (some (.builtin "getset_descriptor.__get__")))
    (htZeroDenominator : PySem.W.takesIn K (.builtin "object.__class__") = some true)
    (hmZeroDenominator : PySem.W.mroIn K CZeroDenominator (.type "object") = some true)
    (icZeroDenominator : PySem.W.isClsIn K CZeroDenominator = true)
    (sCZeroDenominator : PySem.W.subIn K (.ref CZeroDenominator) (.ref CZeroDenominator) = some true)
    (aCInvalidLaw : PySem.W.nsIn K mainGlobals "InvalidLaw" = some (some (.ref CInvalidLaw)))
    (iCInvalidLaw : PySem.W.findIn K (.ref CInvalidLaw) "__init__" = some (some (.ref fInvalidLaw)))
    (tIInvalidLaw : PySem.W.typeIn K (.ref fInvalidLaw) = some (.type "function"))
    (lkInvalidLaw : K.lookup fInvalidLaw = some ⟨ocInvalidLaw, odInvalidLaw, .func ((NF_InvalidLaw ccInvalidLaw cInvalidLaw).fd docInvalidLaw pmInvalidLaw ctvInvalidLaw), oslInvalidLaw⟩)
    (hcInvalidLaw : PySem.W.codeIn K (.ref cInvalidLaw) "InvalidLaw.__init__" = true)
    (xLInvalidLaw : K.lookup CInvalidLaw = some (excClassObj nmInvalidLaw qInvalidLaw CInvalidLaw NInvalidLaw bsInvalidLaw [.ref CSamphireError, .type "ValueError", .type "Exception", .type "BaseException", .type "object"] true snInvalidLaw subInvalidLaw abInvalidLaw colInvalidLaw ddInvalidLaw m0InvalidLaw m1InvalidLaw m2InvalidLaw m3InvalidLaw m5InvalidLaw "ValueError.__new__"))
    (saInvalidLaw : PySem.W.findIn K (.ref CInvalidLaw) "__setattr__" = some (some (.builtin "object.__setattr__")))
    (sBInvalidLaw : PySem.W.subIn K (.ref CInvalidLaw) (.type "BaseException") = some true)
    (tCInvalidLaw : PySem.W.typeIn K (.ref CInvalidLaw) = some (.type "type"))
    (kCInvalidLaw : PySem.W.keepIn K (.ref CInvalidLaw) = true)
    (coInvalidLaw : K.lookup cInvalidLaw = some ⟨occInvalidLaw, cddInvalidLaw, .fields cvsInvalidLaw.toArray, cslInvalidLaw⟩)
    (flInvalidLaw : Sup.flIs cvsInvalidLaw l.prog.main.file = true)
    (ceInvalidLaw : K.lookup ccInvalidLaw = some ⟨cclInvalidLaw, ccdInvalidLaw, .cell (some (.ref CInvalidLaw)), ccsInvalidLaw⟩)
    (mrInvalidLaw : PySem.W.mroIn K CInvalidLaw (.ref CInvalidLaw) = some true)
    (sVInvalidLaw : PySem.W.subIn K (.ref CInvalidLaw) (.type "ValueError") = some true)
    (anInvalidLaw : PySem.W.nsIn K PySem.cStatics "thirdparty.any" = some none)
    (suInvalidLaw : PySem.W.ks_superIn K CInvalidLaw CInvalidLaw "__init__" = some (some (.builtin "ValueError.__init__")))
    (tpInvalidLaw : (l.prog.main.scope.names.lookup ("super" : Str)).isSome = false)
    (hgInvalidLaw : PySem.W.findIn K (.ref CInvalidLaw) "__getattribute__" = some (some (.builtin "BaseException.__getattribute__")))
    (hkInvalidLaw : PySem.W.findIn K (.ref CInvalidLaw) "__getattr__" = some none)
    (hdInvalidLaw : PySem.W.hasDictIn K CInvalidLaw = true)
    (haInvalidLaw : PySem.W.findIn K (.ref CInvalidLaw) "__class__" = some (some (.builtin "object.__class__")))
    (hnInvalidLaw : PySem.W.specialIn K (.builtin "object.__class__") "__get__" = some (some (.builtin "getset_descriptor.__get__")))
    (htInvalidLaw : PySem.W.takesIn K (.builtin "object.__class__") = some true)
    (hmInvalidLaw : PySem.W.mroIn K CInvalidLaw (.type "object") = some true)
    (icInvalidLaw : PySem.W.isClsIn K CInvalidLaw = true)
    (sCInvalidLaw : PySem.W.subIn K (.ref CInvalidLaw) (.ref CInvalidLaw) = some true)
    (aCNotEnded : PySem.W.nsIn K mainGlobals "NotEnded" = some (some (.ref CNotEnded)))
    (iCNotEnded : PySem.W.findIn K (.ref CNotEnded) "__init__" = some (some (.ref fNotEnded)))
    (tINotEnded : PySem.W.typeIn K (.ref fNotEnded) = some (.type "function"))
    (lkNotEnded : K.lookup fNotEnded = some ⟨ocNotEnded, odNotEnded, .func ((NF_NotEnded ccNotEnded cNotEnded).fd docNotEnded pmNotEnded ctvNotEnded), oslNotEnded⟩)
    (hcNotEnded : PySem.W.codeIn K (.ref cNotEnded) "NotEnded.__init__" = true)
    (xLNotEnded : K.lookup CNotEnded = some (excClassObj nmNotEnded qNotEnded CNotEnded NNotEnded bsNotEnded [.ref CSamphireError, .type "ValueError", .type "Exception", .type "BaseException", .type "object"] true snNotEnded subNotEnded abNotEnded colNotEnded ddNotEnded m0NotEnded m1NotEnded m2NotEnded m3NotEnded m5NotEnded "ValueError.__new__"))
    (saNotEnded : PySem.W.findIn K (.ref CNotEnded) "__setattr__" = some (some (.builtin "object.__setattr__")))
    (sBNotEnded : PySem.W.subIn K (.ref CNotEnded) (.type "BaseException") = some true)
    (tCNotEnded : PySem.W.typeIn K (.ref CNotEnded) = some (.type "type"))
    (kCNotEnded : PySem.W.keepIn K (.ref CNotEnded) = true)
    (coNotEnded : K.lookup cNotEnded = some ⟨occNotEnded, cddNotEnded, .fields cvsNotEnded.toArray, cslNotEnded⟩)
    (flNotEnded : Sup.flIs cvsNotEnded l.prog.main.file = true)
    (ceNotEnded : K.lookup ccNotEnded = some ⟨cclNotEnded, ccdNotEnded, .cell (some (.ref CNotEnded)), ccsNotEnded⟩)
    (mrNotEnded : PySem.W.mroIn K CNotEnded (.ref CNotEnded) = some true)
    (sVNotEnded : PySem.W.subIn K (.ref CNotEnded) (.type "ValueError") = some true)
    (anNotEnded : PySem.W.nsIn K PySem.cStatics "thirdparty.any" = some none)
    (suNotEnded : PySem.W.ks_superIn K CNotEnded CNotEnded "__init__" = some (some (.builtin "ValueError.__init__")))
    (tpNotEnded : (l.prog.main.scope.names.lookup ("super" : Str)).isSome = false)
    (hgNotEnded : PySem.W.findIn K (.ref CNotEnded) "__getattribute__" = some (some (.builtin "BaseException.__getattribute__")))
    (hkNotEnded : PySem.W.findIn K (.ref CNotEnded) "__getattr__" = some none)
    (hdNotEnded : PySem.W.hasDictIn K CNotEnded = true)
    (haNotEnded : PySem.W.findIn K (.ref CNotEnded) "__class__" = some (some (.builtin "object.__class__")))
    (hnNotEnded : PySem.W.specialIn K (.builtin "object.__class__") "__get__" = some (some (.builtin "getset_descriptor.__get__")))
    (htNotEnded : PySem.W.takesIn K (.builtin "object.__class__") = some true)
    (hmNotEnded : PySem.W.mroIn K CNotEnded (.type "object") = some true)
    (icNotEnded : PySem.W.isClsIn K CNotEnded = true)
    (sCNotEnded : PySem.W.subIn K (.ref CNotEnded) (.ref CNotEnded) = some true)
    (aCExplorer : PySem.W.nsIn K mainGlobals "Explorer" = some (some (.ref CExplorer)))
    (pgExplorer : PySem.W.plainGet K CExplorer Str.empty = true) (hdExplorer : PySem.W.hasDictIn K CExplorer = true) (poExplorer : PySem.W.plainOver K CExplorer = true) (saExplorer : PySem.W.findIn K (.ref CExplorer) "__setattr__" = some (some (.builtin "object.__setattr__"))) (mkExplorer : PySem.W.makesIn K CExplorer = true) (kcExplorer : PySem.W.keepIn K (.ref CExplorer) = true)
    (nExplorer__path : PySem.W.findIn K (.ref CExplorer) "_path" = some none)
    (nExplorer__made : PySem.W.findIn K (.ref CExplorer) "_made" = some none)
    (nExplorer__running : PySem.W.findIn K (.ref CExplorer) "_running" = some none)
    (nExplorer__finished : PySem.W.findIn K (.ref CExplorer) "_finished" = some none)
    (nExplorer__rows : PySem.W.findIn K (.ref CExplorer) "_rows" = some none)
    (aCTape : PySem.W.nsIn K mainGlobals "Tape" = some (some (.ref CTape)))
    (pgTape : PySem.W.plainGet K CTape Str.empty = true) (hdTape : PySem.W.hasDictIn K CTape = true) (poTape : PySem.W.plainOver K CTape = true) (saTape : PySem.W.findIn K (.ref CTape) "__setattr__" = some (some (.builtin "object.__setattr__"))) (mkTape : PySem.W.makesIn K CTape = true) (kcTape : PySem.W.keepIn K (.ref CTape) = true)
    (nTape__numbers : PySem.W.findIn K (.ref CTape) "_numbers" = some none)
    (nTape__picks : PySem.W.findIn K (.ref CTape) "_picks" = some none)
    (z_abs : PySem.W.nsIn K mainGlobals "abs" = some none)
    (z_int : PySem.W.nsIn K mainGlobals "int" = some none)
    (z_len : PySem.W.nsIn K mainGlobals "len" = some none)
    (z_list : PySem.W.nsIn K mainGlobals "list" = some none)
    (z_max : PySem.W.nsIn K mainGlobals "max" = some none)
    (z_range : PySem.W.nsIn K mainGlobals "range" = some none)
    (z_reversed : PySem.W.nsIn K mainGlobals "reversed" = some none)
    (z_sorted : PySem.W.nsIn K mainGlobals "sorted" = some none)
    (z_sum : PySem.W.nsIn K mainGlobals "sum" = some none)
    (z_super : PySem.W.nsIn K mainGlobals "super" = some none)
    (v_MOST_RUNS : PySem.W.nsIn K mainGlobals "MOST_RUNS" = some (some (.int (20000) t_MOST_RUNS)))
    (v_ZERO : PySem.W.nsIn K mainGlobals "ZERO" = some (some (.ref k_ZERO)))
    (l_ZERO : K.lookup k_ZERO = some ⟨.type "tuple", od_ZERO, .seq #[.int (0) t0_ZERO, .int (1) t1_ZERO] nn_ZERO, sl_ZERO⟩)
    (v_ONE : PySem.W.nsIn K mainGlobals "ONE" = some (some (.ref k_ONE)))
    (l_ONE : K.lookup k_ONE = some ⟨.type "tuple", od_ONE, .seq #[.int (1) t0_ONE, .int (1) t1_ONE] nn_ONE, sl_ONE⟩)
    (g_gcd : PySem.W.nsIn K mainGlobals "gcd" = some (some (.builtin "math.gcd"))) :
    LamX.LawAtS l w K (CX0) 12 63 "script" mg fa h := by
  have e : f31 = fa := by
    have e := hfa.symm.trans (PySem.W.mg_of X G a31)
    cases e
    rfl
  subst e
  have mk : ∀ base : Heap, (∀ p ∈ [(tc7, tP7)], LamX.TabB base mg p.1 p.2) → ∃ t : T l.prog K mg base, t.a_law = f31 ∧ t.fd_law = PySem.W.fnOf "law" "law" (defArgs s_law) (defBody s_law) (defScope s_law) .none kV31 dc31 pm31 an31 cd31 ct31 ∧ t.P_law_from = tP7 := fun base hTB => ⟨{
    a_lowest := f1, fd_lowest := _, F_lowest := fun_mk (st := s_lowest) l1 c1 k1, b_lowest := (fun_mk (st := s_lowest) l1 c1 k1).binds (ps := ["p", "q"]) (fun _ _ _ _ _ _ us hl => match us, hl with | [_, _], _ => rfl),
    g_lowest := PySem.W.mg_of X G a1,
    a_plus := f2, fd_plus := _, F_plus := fun_mk (st := s_plus) l2 c2 k2, b_plus := (fun_mk (st := s_plus) l2 c2 k2).binds (ps := ["a", "b"]) (fun _ _ _ _ _ _ us hl => match us, hl with | [_, _], _ => rfl),
    g_plus := PySem.W.mg_of X G a2,
    a_times := f3, fd_times := _, F_times := fun_mk (st := s_times) l3 c3 k3, b_times := (fun_mk (st := s_times) l3 c3 k3).binds (ps := ["a", "b"]) (fun _ _ _ _ _ _ us hl => match us, hl with | [_, _], _ => rfl),
    g_times := PySem.W.mg_of X G a3,
    a_less := f4, fd_less := _, F_less := fun_mk (st := s_less) l4 c4 k4, b_less := (fun_mk (st := s_less) l4 c4 k4).binds (ps := ["a", "b"]) (fun _ _ _ _ _ _ us hl => match us, hl with | [_, _], _ => rfl),
    g_less := PySem.W.mg_of X G a4,
    a_sum_of := f5, fd_sum_of := _, F_sum_of := fun_mk (st := s_sum_of) l5 c5 k5, b_sum_of := (fun_mk (st := s_sum_of) l5 c5 k5).binds (ps := ["fractions"]) (fun _ _ _ _ _ _ us hl => match us, hl with | [_], _ => rfl),
    g_sum_of := PySem.W.mg_of X G a5,
    a_check_chances := f6, fd_check_chances := _, F_check_chances := fun_mk (st := s_check_chances) l6 c6 k6, b_check_chances := (fun_mk (st := s_check_chances) l6 c6 k6).binds (ps := ["chances"]) (fun _ _ _ _ _ _ us hl => match us, hl with | [_], _ => rfl),
    g_check_chances := PySem.W.mg_of X G a6,
    c_law_from := tc7, P_law_from := tP7, TB_law_from := hTB (tc7, tP7) (by simp), L_law_from := ⟨_, _, _, _, _, _, _, _, rfl, l7, c7⟩,
    a_law_from := f7, fd_law_from := _, F_law_from := fun_mk (st := s_law_from) l7 c7 k7, b_law_from := (fun_mk (st := s_law_from) l7 c7 k7).binds (ps := ["rows"]) (fun _ _ _ _ _ _ us hl => match us, hl with | [_], _ => rfl),
    g_law_from := PySem.W.mg_of X G a7,
    a_next_number := f8, fd_next_number := _, F_next_number := fun_mk (st := s_next_number) l8 c8 k8, b_next_number := (fun_mk (st := s_next_number) l8 c8 k8).binds (ps := ["weights", "start"]) (fun _ _ _ _ _ _ us hl => match us, hl with | [_, _], _ => rfl),
    g_next_number := PySem.W.mg_of X G a8,
    a_chance_behind := f9, fd_chance_behind := _, F_chance_behind := fun_mk (st := s_chance_behind) l9 c9 k9, b_chance_behind := (fun_mk (st := s_chance_behind) l9 c9 k9).binds (ps := ["path"]) (fun _ _ _ _ _ _ us hl => match us, hl with | [_], _ => rfl),
    g_chance_behind := PySem.W.mg_of X G a9,
    a_following := f10, fd_following := _, F_following := fun_mk (st := s_following) l10 c10 k10, b_following := (fun_mk (st := s_following) l10 c10 k10).binds (ps := ["path"]) (fun _ _ _ _ _ _ us hl => match us, hl with | [_], _ => rfl),
    g_following := PySem.W.mg_of X G a10,
    a_Explorer_init := f11, fd_Explorer_init := _, F_Explorer_init := fun_mk (st := s_Explorer_init) l11 c11 k11, b_Explorer_init := (fun_mk (st := s_Explorer_init) l11 c11 k11).binds (ps := ["self"]) (fun _ _ _ _ _ _ us hl => match us, hl with | [_], _ => rfl),
    a_Explorer_begin := f12, fd_Explorer_begin := _, F_Explorer_begin := fun_mk (st := s_Explorer_begin) l12 c12 k12, b_Explorer_begin := (fun_mk (st := s_Explorer_begin) l12 c12 k12).binds (ps := ["self"]) (fun _ _ _ _ _ _ us hl => match us, hl with | [_], _ => rfl),
    a_Explorer_pick := f13, fd_Explorer_pick := _, F_Explorer_pick := fun_mk (st := s_Explorer_pick) l13 c13 k13, b_Explorer_pick := (fun_mk (st := s_Explorer_pick) l13 c13 k13).binds (ps := ["self", "weights"]) (fun _ _ _ _ _ _ us hl => match us, hl with | [_, _], _ => rfl),
    a_Explorer_end := f14, fd_Explorer_end := _, F_Explorer_end := fun_mk (st := s_Explorer_end) l14 c14 k14, b_Explorer_end := (fun_mk (st := s_Explorer_end) l14 c14 k14).binds (ps := ["self", "outcome"]) (fun _ _ _ _ _ _ us hl => match us, hl with | [_, _], _ => rfl),
    a_Explorer_runs := f15, fd_Explorer_runs := _, F_Explorer_runs := fun_mk (st := s_Explorer_runs) l15 c15 k15, b_Explorer_runs := (fun_mk (st := s_Explorer_runs) l15 c15 k15).binds (ps := ["self"]) (fun _ _ _ _ _ _ us hl => match us, hl with | [_], _ => rfl),
    a_Explorer_gathered := f16, fd_Explorer_gathered := _, F_Explorer_gathered := fun_mk (st := s_Explorer_gathered) l16 c16 k16, b_Explorer_gathered := (fun_mk (st := s_Explorer_gathered) l16 c16 k16).binds (ps := ["self"]) (fun _ _ _ _ _ _ us hl => match us, hl with | [_], _ => rfl),
    a_number_at := f17, fd_number_at := _, F_number_at := fun_mk (st := s_number_at) l17 c17 k17, b_number_at := (fun_mk (st := s_number_at) l17 c17 k17).binds (ps := ["weights", "place"]) (fun _ _ _ _ _ _ us hl => match us, hl with | [_, _], _ => rfl),
    g_number_at := PySem.W.mg_of X G a17,
    a_Tape_init := f18, fd_Tape_init := _, F_Tape_init := fun_mk (st := s_Tape_init) l18 c18 k18, b_Tape_init := (fun_mk (st := s_Tape_init) l18 c18 k18).binds (ps := ["self", "numbers"]) (fun _ _ _ _ _ _ us hl => match us, hl with | [_, _], _ => rfl),
    a_Tape_pick := f19, fd_Tape_pick := _, F_Tape_pick := fun_mk (st := s_Tape_pick) l19 c19 k19, b_Tape_pick := (fun_mk (st := s_Tape_pick) l19 c19 k19).binds (ps := ["self", "weights"]) (fun _ _ _ _ _ _ us hl => match us, hl with | [_, _], _ => rfl),
    a__law_deck := f20, fd__law_deck := _, F__law_deck := fun_mk (st := s__law_deck) l20 c20 k20, b__law_deck := (fun_mk (st := s__law_deck) l20 c20 k20).binds (ps := ["script"]) (fun _ _ _ _ _ _ us hl => match us, hl with | [_], _ => rfl),
    g__law_deck := PySem.W.mg_of X G a20,
    a__law_draw := f21, fd__law_draw := _, F__law_draw := fun_mk (st := s__law_draw) l21 c21 k21, b__law_draw := (fun_mk (st := s__law_draw) l21 c21 k21).binds (ps := ["deck", "most"]) (fun _ _ _ _ _ _ us hl => match us, hl with | [_, _], _ => rfl),
    g__law_draw := PySem.W.mg_of X G a21,
    a__law_low := f22, fd__law_low := _, F__law_low := fun_mk (st := s__law_low) l22 c22 k22, b__law_low := (fun_mk (st := s__law_low) l22 c22 k22).binds (ps := ["p", "q"]) (fun _ _ _ _ _ _ us hl => match us, hl with | [_, _], _ => rfl),
    g__law_low := PySem.W.mg_of X G a22,
    a__law_weights := f23, fd__law_weights := _, F__law_weights := fun_mk (st := s__law_weights) l23 c23 k23, b__law_weights := (fun_mk (st := s__law_weights) l23 c23 k23).binds (ps := ["deck", "most"]) (fun _ _ _ _ _ _ us hl => match us, hl with | [_, _], _ => rfl),
    g__law_weights := PySem.W.mg_of X G a23,
    a__law_tree := f24, fd__law_tree := _, F__law_tree := fun_mk (st := s__law_tree) l24 c24 k24, b__law_tree := (fun_mk (st := s__law_tree) l24 c24 k24).binds (ps := ["deck", "depth", "form"]) (fun _ _ _ _ _ _ us hl => match us, hl with | [_, _, _], _ => rfl),
    g__law_tree := PySem.W.mg_of X G a24,
    a__law_deed := f25, fd__law_deed := _, F__law_deed := fun_mk (st := s__law_deed) l25 c25 k25, b__law_deed := (fun_mk (st := s__law_deed) l25 c25 k25).binds (ps := ["tree", "dice", "path"]) (fun _ _ _ _ _ _ us hl => match us, hl with | [_, _, _], _ => rfl),
    g__law_deed := PySem.W.mg_of X G a25,
    a__law_depth := f26, fd__law_depth := _, F__law_depth := fun_mk (st := s__law_depth) l26 c26 k26, b__law_depth := (fun_mk (st := s__law_depth) l26 c26 k26).binds (ps := ["tree"]) (fun _ _ _ _ _ _ us hl => match us, hl with | [_], _ => rfl),
    g__law_depth := PySem.W.mg_of X G a26,
    a__law_common := f27, fd__law_common := _, F__law_common := fun_mk (st := s__law_common) l27 c27 k27, b__law_common := (fun_mk (st := s__law_common) l27 c27 k27).binds (ps := ["tree"]) (fun _ _ _ _ _ _ us hl => match us, hl with | [_], _ => rfl),
    g__law_common := PySem.W.mg_of X G a27,
    a__law_shared := f28, fd__law_shared := _, F__law_shared := fun_mk (st := s__law_shared) l28 c28 k28, b__law_shared := (fun_mk (st := s__law_shared) l28 c28 k28).binds (ps := ["first", "second"]) (fun _ _ _ _ _ _ us hl => match us, hl with | [_, _], _ => rfl),
    g__law_shared := PySem.W.mg_of X G a28,
    a__law_lists := f29, fd__law_lists := _, F__law_lists := fun_mk (st := s__law_lists) l29 c29 k29, b__law_lists := (fun_mk (st := s__law_lists) l29 c29 k29).binds (ps := ["side", "depth"]) (fun _ _ _ _ _ _ us hl => match us, hl with | [_, _], _ => rfl),
    g__law_lists := PySem.W.mg_of X G a29,
    a__law_power := f30, fd__law_power := _, F__law_power := fun_mk (st := s__law_power) l30 c30 k30, b__law_power := (fun_mk (st := s__law_power) l30 c30 k30).binds (ps := ["side", "depth"]) (fun _ _ _ _ _ _ us hl => match us, hl with | [_, _], _ => rfl),
    g__law_power := PySem.W.mg_of X G a30,
    a_law := f31, fd_law := _, F_law := fun_mk (st := s_law) l31 c31 k31, b_law := (fun_mk (st := s_law) l31 c31 k31).binds (ps := ["script"]) (fun _ _ _ _ _ _ us hl => match us, hl with | [_], _ => rfl),
    g_law := PySem.W.mg_of X G a31,
    C_SamphireError := CSamphireError, mg_SamphireError := PySem.W.mg_of X G aCSamphireError,
    C_TooLarge := CTooLarge, a_TooLarge_init := fTooLarge, c_TooLarge := cTooLarge, cc_TooLarge := ccTooLarge, doc_TooLarge := docTooLarge, pm_TooLarge := pmTooLarge, ctv_TooLarge := ctvTooLarge, oc_TooLarge := ocTooLarge, od_TooLarge := odTooLarge, osl_TooLarge := oslTooLarge, lk_TooLarge := lkTooLarge, hc_TooLarge := hcTooLarge,
    x_TooLarge := Sup.excT_mk xLTooLarge rfl saTooLarge sBTooLarge tCTooLarge kCTooLarge coTooLarge flTooLarge ceTooLarge mrTooLarge sVTooLarge (PySem.W.mg_none_of X G z_super) anTooLarge suTooLarge tpTooLarge (PySem.W.mg_of X G aCTooLarge) iCTooLarge tITooLarge ⟨hgTooLarge, hkTooLarge, sBTooLarge, hdTooLarge, haTooLarge, hnTooLarge, htTooLarge, hmTooLarge⟩ icTooLarge sCTooLarge,
    bx_TooLarge := .all (fun us hl => match us, hl with | [_, _], _ => rfl),
    nf_TooLarge_limit := nf_limit_TooLarge,
    C_ZeroDenominator := CZeroDenominator, a_ZeroDenominator_init := fZeroDenominator, c_ZeroDenominator := cZeroDenominator, cc_ZeroDenominator := ccZeroDenominator, doc_ZeroDenominator := docZeroDenominator, pm_ZeroDenominator := pmZeroDenominator, ctv_ZeroDenominator := ctvZeroDenominator, oc_ZeroDenominator := ocZeroDenominator, od_ZeroDenominator := odZeroDenominator, osl_ZeroDenominator := oslZeroDenominator, lk_ZeroDenominator := lkZeroDenominator, hc_ZeroDenominator := hcZeroDenominator,
    x_ZeroDenominator := Sup.excT_mk xLZeroDenominator rfl saZeroDenominator sBZeroDenominator tCZeroDenominator kCZeroDenominator coZeroDenominator flZeroDenominator ceZeroDenominator mrZeroDenominator sVZeroDenominator (PySem.W.mg_none_of X G z_super) anZeroDenominator suZeroDenominator tpZeroDenominator (PySem.W.mg_of X G aCZeroDenominator) iCZeroDenominator tIZeroDenominator ⟨hgZeroDenominator, hkZeroDenominator, sBZeroDenominator, hdZeroDenominator, haZeroDenominator, hnZeroDenominator, htZeroDenominator, hmZeroDenominator⟩ icZeroDenominator sCZeroDenominator,
    bx_ZeroDenominator := .all (fun us hl => match us, hl with | [_], _ => rfl),
    C_InvalidLaw := CInvalidLaw, a_InvalidLaw_init := fInvalidLaw, c_InvalidLaw := cInvalidLaw, cc_InvalidLaw := ccInvalidLaw, doc_InvalidLaw := docInvalidLaw, pm_InvalidLaw := pmInvalidLaw, ctv_InvalidLaw := ctvInvalidLaw, oc_InvalidLaw := ocInvalidLaw, od_InvalidLaw := odInvalidLaw, osl_InvalidLaw := oslInvalidLaw, lk_InvalidLaw := lkInvalidLaw, hc_InvalidLaw := hcInvalidLaw,
    x_InvalidLaw := Sup.excT_mk xLInvalidLaw rfl saInvalidLaw sBInvalidLaw tCInvalidLaw kCInvalidLaw coInvalidLaw flInvalidLaw ceInvalidLaw mrInvalidLaw sVInvalidLaw (PySem.W.mg_none_of X G z_super) anInvalidLaw suInvalidLaw tpInvalidLaw (PySem.W.mg_of X G aCInvalidLaw) iCInvalidLaw tIInvalidLaw ⟨hgInvalidLaw, hkInvalidLaw, sBInvalidLaw, hdInvalidLaw, haInvalidLaw, hnInvalidLaw, htInvalidLaw, hmInvalidLaw⟩ icInvalidLaw sCInvalidLaw,
    bx_InvalidLaw := .all (fun us hl => match us, hl with | [_], _ => rfl),
    C_NotEnded := CNotEnded, a_NotEnded_init := fNotEnded, c_NotEnded := cNotEnded, cc_NotEnded := ccNotEnded, doc_NotEnded := docNotEnded, pm_NotEnded := pmNotEnded, ctv_NotEnded := ctvNotEnded, oc_NotEnded := ocNotEnded, od_NotEnded := odNotEnded, osl_NotEnded := oslNotEnded, lk_NotEnded := lkNotEnded, hc_NotEnded := hcNotEnded,
    x_NotEnded := Sup.excT_mk xLNotEnded rfl saNotEnded sBNotEnded tCNotEnded kCNotEnded coNotEnded flNotEnded ceNotEnded mrNotEnded sVNotEnded (PySem.W.mg_none_of X G z_super) anNotEnded suNotEnded tpNotEnded (PySem.W.mg_of X G aCNotEnded) iCNotEnded tINotEnded ⟨hgNotEnded, hkNotEnded, sBNotEnded, hdNotEnded, haNotEnded, hnNotEnded, htNotEnded, hmNotEnded⟩ icNotEnded sCNotEnded,
    bx_NotEnded := .all (fun us hl => match us, hl with | [_], _ => rfl),
    C_Explorer := CExplorer, cl_Explorer := ⟨pgExplorer, hdExplorer, poExplorer, saExplorer⟩, mg_Explorer := PySem.W.mg_of X G aCExplorer,
    mk_Explorer := ⟨mkExplorer, a11, i11, kcExplorer⟩,
    na_Explorer__path := nExplorer__path,
    na_Explorer__made := nExplorer__made,
    na_Explorer__running := nExplorer__running,
    na_Explorer__finished := nExplorer__finished,
    na_Explorer__rows := nExplorer__rows,
    me_Explorer_begin := ⟨a12, i12, k12⟩,
    me_Explorer_pick := ⟨a13, i13, k13⟩,
    me_Explorer_end := ⟨a14, i14, k14⟩,
    me_Explorer_runs := ⟨a15, i15, k15⟩,
    me_Explorer_gathered := ⟨a16, i16, k16⟩,
    C_Tape := CTape, cl_Tape := ⟨pgTape, hdTape, poTape, saTape⟩, mg_Tape := PySem.W.mg_of X G aCTape,
    mk_Tape := ⟨mkTape, a18, i18, kcTape⟩,
    na_Tape__numbers := nTape__numbers,
    na_Tape__picks := nTape__picks,
    me_Tape_pick := ⟨a19, i19, k19⟩,
    z_abs := PySem.W.mg_none_of X G z_abs,
    z_int := PySem.W.mg_none_of X G z_int,
    z_len := PySem.W.mg_none_of X G z_len,
    z_list := PySem.W.mg_none_of X G z_list,
    z_max := PySem.W.mg_none_of X G z_max,
    z_range := PySem.W.mg_none_of X G z_range,
    z_reversed := PySem.W.mg_none_of X G z_reversed,
    z_sorted := PySem.W.mg_none_of X G z_sorted,
    z_sum := PySem.W.mg_none_of X G z_sum,
    z_super := PySem.W.mg_none_of X G z_super,
    v_MOST_RUNS := _, g_MOST_RUNS := PySem.W.mg_of X G v_MOST_RUNS, r_MOST_RUNS := ⟨_, rfl⟩,
    k_ZERO := k_ZERO, g_ZERO := PySem.W.mg_of X G v_ZERO, q_ZERO := fun H => .inr ⟨_, _, _, l_ZERO, rfl, rfl, (show 2 ≤ sizeLine by decide), (.cons ⟨_, rfl⟩ (.cons ⟨_, rfl⟩ .nil))⟩,
    k_ONE := k_ONE, g_ONE := PySem.W.mg_of X G v_ONE, q_ONE := fun H => .inr ⟨_, _, _, l_ONE, rfl, rfl, (show 2 ≤ sizeLine by decide), (.cons ⟨_, rfl⟩ (.cons ⟨_, rfl⟩ .nil))⟩,
    g_gcd := PySem.W.mg_of X G g_gcd }, rfl, rfl, rfl⟩
  refine ⟨PySem.W.fnOf "law" "law" (defArgs s_law) (defBody s_law) (defScope s_law) .none kV31 dc31 pm31 an31 cd31 ct31, [(tc7, tP7)], spLaw K tP7, List.forall_mem_cons.mpr ⟨hts _ tm7, fun _ h => nomatch h⟩, List.forall_mem_cons.mpr ⟨tn7, fun _ h => nomatch h⟩, List.forall_mem_cons.mpr ⟨PySem.W.codeHd_of_K X th7, fun _ h => nomatch h⟩, fun s v => .of_eq rfl, fun H a ns h1 h2 hT hS => spLaw_in H a ns h1 h2 (hT (tc7, tP7) (by simp)) hS, fun base KX G' hTB => ?_⟩
  obtain ⟨t, e1, e2, e3⟩ := mk base hTB
  have z := ok_law (w := w) t
  rw [e1, e2, e3] at z
  exact z

end K10
open PySem PySem.W PyProof.Rows in
set_option maxRecDepth 100000 in
set_option maxHeartbeats 0 in
theorem PySem.Challenge.cw_samphire_k13_whole_fair_dice_holds : PySem.Challenge.rw_samphire_k13_whole_fair_dice.Holds := by
  w_on; o_law; k_head; (case hw => w_witness2)
  k_fill
  refine LamX.walk_ofTs (l := PySem.Challenge.rw_samphire_k13_whole_fair_dice) (n := 63) (k := 12) (x := "script") (CX := fun w => L2.CX0) rfl (by decide) rfl ⟨rfl, by decide, by decide⟩ (fun w h Y => PySem.W.km_in_of Y) ?F (fun _ _ _ _ _ h => h)
  case F =>
    intro w mg fa h Y KX G hmg
    have hts := PySem.W.km_tabs_of Y
    refine' K10.all_mk KX G hts hmg ?a1 ?l1 ?c1 ?k1 ?a2 ?l2 ?c2 ?k2 ?a3 ?l3 ?c3 ?k3 ?a4 ?l4 ?c4 ?k4 ?a5 ?l5 ?c5 ?k5 ?a6 ?l6 ?c6 ?k6 ?a7 ?l7 ?c7 ?k7 ?tl7 ?tp7 ?th7 ?tn7 ?tm7 ?a8 ?l8 ?c8 ?k8 ?a9 ?l9 ?c9 ?k9 ?a10 ?l10 ?c10 ?k10 ?a11 ?i11 ?l11 ?c11 ?k11 ?a12 ?i12 ?l12 ?c12 ?k12 ?a13 ?i13 ?l13 ?c13 ?k13 ?a14 ?i14 ?l14 ?c14 ?k14 ?a15 ?i15 ?l15 ?c15 ?k15 ?a16 ?i16 ?l16 ?c16 ?k16 ?a17 ?l17 ?c17 ?k17 ?a18 ?i18 ?l18 ?c18 ?k18 ?a19 ?i19 ?l19 ?c19 ?k19 ?a20 ?l20 ?c20 ?k20 ?a21 ?l21 ?c21 ?k21 ?a22 ?l22 ?c22 ?k22 ?a23 ?l23 ?c23 ?k23 ?a24 ?l24 ?c24 ?k24 ?a25 ?l25 ?c25 ?k25 ?a26 ?l26 ?c26 ?k26 ?a27 ?l27 ?c27 ?k27 ?a28 ?l28 ?c28 ?k28 ?a29 ?l29 ?c29 ?k29 ?a30 ?l30 ?c30 ?k30 ?a31 ?l31 ?c31 ?k31 ?aCSamphireError ?aCTooLarge ?iCTooLarge ?tITooLarge ?lkTooLarge ?hcTooLarge ?xLTooLarge ?saTooLarge ?sBTooLarge ?tCTooLarge ?kCTooLarge ?coTooLarge ?flTooLarge ?ceTooLarge ?mrTooLarge ?sVTooLarge ?anTooLarge ?suTooLarge ?tpTooLarge ?hgTooLarge ?hkTooLarge ?hdTooLarge ?haTooLarge ?hnTooLarge ?htTooLarge ?hmTooLarge ?icTooLarge ?sCTooLarge ?nf_limit_TooLarge ?aCZeroDenominator ?iCZeroDenominator ?tIZeroDenominator ?lkZeroDenominator ?hcZeroDenominator ?xLZeroDenominator ?saZeroDenominator ?sBZeroDenominator ?tCZeroDenominator ?kCZeroDenominator ?coZeroDenominator ?flZeroDenominator ?ceZeroDenominator ?mrZeroDenominator ?sVZeroDenominator ?anZeroDenominator ?suZeroDenominator ?tpZeroDenominator ?hgZeroDenominator ?hkZeroDenominator ?hdZeroDenominator ?haZeroDenominator ?hnZeroDenominator ?htZeroDenominator ?hmZeroDenominator ?icZeroDenominator ?sCZeroDenominator ?aCInvalidLaw ?iCInvalidLaw ?tIInvalidLaw ?lkInvalidLaw ?hcInvalidLaw ?xLInvalidLaw ?saInvalidLaw ?sBInvalidLaw ?tCInvalidLaw ?kCInvalidLaw ?coInvalidLaw ?flInvalidLaw ?ceInvalidLaw ?mrInvalidLaw ?sVInvalidLaw ?anInvalidLaw ?suInvalidLaw ?tpInvalidLaw ?hgInvalidLaw ?hkInvalidLaw ?hdInvalidLaw ?haInvalidLaw ?hnInvalidLaw ?htInvalidLaw ?hmInvalidLaw ?icInvalidLaw ?sCInvalidLaw ?aCNotEnded ?iCNotEnded ?tINotEnded ?lkNotEnded ?hcNotEnded ?xLNotEnded ?saNotEnded ?sBNotEnded ?tCNotEnded ?kCNotEnded ?coNotEnded ?flNotEnded ?ceNotEnded ?mrNotEnded ?sVNotEnded ?anNotEnded ?suNotEnded ?tpNotEnded ?hgNotEnded ?hkNotEnded ?hdNotEnded ?haNotEnded ?hnNotEnded ?htNotEnded ?hmNotEnded ?icNotEnded ?sCNotEnded ?aCExplorer ?pgExplorer ?hdExplorer ?poExplorer ?saExplorer ?mkExplorer ?kcExplorer ?nExplorer__path ?nExplorer__made ?nExplorer__running ?nExplorer__finished ?nExplorer__rows ?aCTape ?pgTape ?hdTape ?poTape ?saTape ?mkTape ?kcTape ?nTape__numbers ?nTape__picks ?z_abs ?z_int ?z_len ?z_list ?z_max ?z_range ?z_reversed ?z_sorted ?z_sum ?z_super ?v_MOST_RUNS ?v_ZERO ?l_ZERO ?v_ONE ?l_ONE ?g_gcd
    (case aCSamphireError => k_is)
    (case aCTooLarge => k_is)
    (case aCZeroDenominator => k_is)
    (case aCInvalidLaw => k_is)
    (case aCNotEnded => k_is)
    (case aCExplorer => k_is)
    (case aCTape => k_is)
    (case a1 => k_is)
    (case l1 => k_is)
    (case c1 => k_is)
    (case k1 => k_is)
    (case a2 => k_is)
    (case l2 => k_is)
    (case c2 => k_is)
    (case k2 => k_is)
    (case a3 => k_is)
    (case l3 => k_is)
    (case c3 => k_is)
    (case k3 => k_is)
    (case a4 => k_is)
    (case l4 => k_is)
    (case c4 => k_is)
    (case k4 => k_is)
    (case a5 => k_is)
    (case l5 => k_is)
    (case c5 => k_is)
    (case k5 => k_is)
    (case a6 => k_is)
    (case l6 => k_is)
    (case c6 => k_is)
    (case k6 => k_is)
    (case a7 => k_is)
    (case l7 => k_is)
    (case c7 => k_is)
    (case k7 => k_is)
    (case tl7 => k_is)
    (case tp7 => first | rfl | kernel_rfl)
    (case th7 => first | kernel_rfl | decide +kernel)
    (case tn7 => first | rfl | kernel_rfl)
    (case tm7 => simp)
    (case a8 => k_is)
    (case l8 => k_is)
    (case c8 => k_is)
    (case k8 => k_is)
    (case a9 => k_is)
    (case l9 => k_is)
    (case c9 => k_is)
    (case k9 => k_is)
    (case a10 => k_is)
    (case l10 => k_is)
    (case c10 => k_is)
    (case k10 => k_is)
    (case a11 => k_is)
    (case i11 => k_is)
    (case l11 => k_is)
    (case c11 => k_is)
    (case k11 => k_is)
    (case a12 => k_is)
    (case i12 => k_is)
    (case l12 => k_is)
    (case c12 => k_is)
    (case k12 => k_is)
    (case a13 => k_is)
    (case i13 => k_is)
    (case l13 => k_is)
    (case c13 => k_is)
    (case k13 => k_is)
    (case a14 => k_is)
    (case i14 => k_is)
    (case l14 => k_is)
    (case c14 => k_is)
    (case k14 => k_is)
    (case a15 => k_is)
    (case i15 => k_is)
    (case l15 => k_is)
    (case c15 => k_is)
    (case k15 => k_is)
    (case a16 => k_is)
    (case i16 => k_is)
    (case l16 => k_is)
    (case c16 => k_is)
    (case k16 => k_is)
    (case a17 => k_is)
    (case l17 => k_is)
    (case c17 => k_is)
    (case k17 => k_is)
    (case a18 => k_is)
    (case i18 => k_is)
    (case l18 => k_is)
    (case c18 => k_is)
    (case k18 => k_is)
    (case a19 => k_is)
    (case i19 => k_is)
    (case l19 => k_is)
    (case c19 => k_is)
    (case k19 => k_is)
    (case a20 => k_is)
    (case l20 => k_is)
    (case c20 => k_is)
    (case k20 => k_is)
    (case a21 => k_is)
    (case l21 => k_is)
    (case c21 => k_is)
    (case k21 => k_is)
    (case a22 => k_is)
    (case l22 => k_is)
    (case c22 => k_is)
    (case k22 => k_is)
    (case a23 => k_is)
    (case l23 => k_is)
    (case c23 => k_is)
    (case k23 => k_is)
    (case a24 => k_is)
    (case l24 => k_is)
    (case c24 => k_is)
    (case k24 => k_is)
    (case a25 => k_is)
    (case l25 => k_is)
    (case c25 => k_is)
    (case k25 => k_is)
    (case a26 => k_is)
    (case l26 => k_is)
    (case c26 => k_is)
    (case k26 => k_is)
    (case a27 => k_is)
    (case l27 => k_is)
    (case c27 => k_is)
    (case k27 => k_is)
    (case a28 => k_is)
    (case l28 => k_is)
    (case c28 => k_is)
    (case k28 => k_is)
    (case a29 => k_is)
    (case l29 => k_is)
    (case c29 => k_is)
    (case k29 => k_is)
    (case a30 => k_is)
    (case l30 => k_is)
    (case c30 => k_is)
    (case k30 => k_is)
    (case a31 => k_is)
    (case l31 => k_is)
    (case c31 => k_is)
    (case k31 => k_is)
    (case iCTooLarge => k_is)
    (case tITooLarge => k_is)
    (case lkTooLarge => k_is)
    (case hcTooLarge => k_is)
    (case xLTooLarge => k_is)
    (case saTooLarge => k_is)
    (case sBTooLarge => k_is)
    (case tCTooLarge => k_is)
    (case kCTooLarge => k_is)
    (case coTooLarge => k_is)
    (case flTooLarge => first | rfl | decide +kernel)
    (case ceTooLarge => k_is)
    (case mrTooLarge => first | rfl | k_is)
    (case sVTooLarge => k_is)
    (case anTooLarge => k_is)
    (case suTooLarge => ks_is)
    (case tpTooLarge => first | rfl | decide +kernel)
    (case hgTooLarge => k_is)
    (case hkTooLarge => k_is)
    (case hdTooLarge => k_is)
    (case haTooLarge => k_is)
    (case hnTooLarge => k_is)
    (case htTooLarge => k_is)
    (case hmTooLarge => k_is)
    (case icTooLarge => k_is)
    (case sCTooLarge => first | rfl | k_is)
    (case nf_limit_TooLarge => k_is)
    (case iCZeroDenominator => k_is)
    (case tIZeroDenominator => k_is)
    (case lkZeroDenominator => k_is)
    (case hcZeroDenominator => k_is)
    (case xLZeroDenominator => k_is)
    (case saZeroDenominator => k_is)
    (case sBZeroDenominator => k_is)
    (case tCZeroDenominator => k_is)
    (case kCZeroDenominator => k_is)
    (case coZeroDenominator => k_is)
    (case flZeroDenominator => first | rfl | decide +kernel)
    (case ceZeroDenominator => k_is)
    (case mrZeroDenominator => first | rfl | k_is)
    (case sVZeroDenominator => k_is)
    (case anZeroDenominator => k_is)
    (case suZeroDenominator => ks_is)
    (case tpZeroDenominator => first | rfl | decide +kernel)
    (case hgZeroDenominator => k_is)
    (case hkZeroDenominator => k_is)
    (case hdZeroDenominator => k_is)
    (case haZeroDenominator => k_is)
    (case hnZeroDenominator => k_is)
    (case htZeroDenominator => k_is)
    (case hmZeroDenominator => k_is)
    (case icZeroDenominator => k_is)
    (case sCZeroDenominator => first | rfl | k_is)
    (case iCInvalidLaw => k_is)
    (case tIInvalidLaw => k_is)
    (case lkInvalidLaw => k_is)
    (case hcInvalidLaw => k_is)
    (case xLInvalidLaw => k_is)
    (case saInvalidLaw => k_is)
    (case sBInvalidLaw => k_is)
    (case tCInvalidLaw => k_is)
    (case kCInvalidLaw => k_is)
    (case coInvalidLaw => k_is)
    (case flInvalidLaw => first | rfl | decide +kernel)
    (case ceInvalidLaw => k_is)
    (case mrInvalidLaw => first | rfl | k_is)
    (case sVInvalidLaw => k_is)
    (case anInvalidLaw => k_is)
    (case suInvalidLaw => ks_is)
    (case tpInvalidLaw => first | rfl | decide +kernel)
    (case hgInvalidLaw => k_is)
    (case hkInvalidLaw => k_is)
    (case hdInvalidLaw => k_is)
    (case haInvalidLaw => k_is)
    (case hnInvalidLaw => k_is)
    (case htInvalidLaw => k_is)
    (case hmInvalidLaw => k_is)
    (case icInvalidLaw => k_is)
    (case sCInvalidLaw => first | rfl | k_is)
    (case iCNotEnded => k_is)
    (case tINotEnded => k_is)
    (case lkNotEnded => k_is)
    (case hcNotEnded => k_is)
    (case xLNotEnded => k_is)
    (case saNotEnded => k_is)
    (case sBNotEnded => k_is)
    (case tCNotEnded => k_is)
    (case kCNotEnded => k_is)
    (case coNotEnded => k_is)
    (case flNotEnded => first | rfl | decide +kernel)
    (case ceNotEnded => k_is)
    (case mrNotEnded => first | rfl | k_is)
    (case sVNotEnded => k_is)
    (case anNotEnded => k_is)
    (case suNotEnded => ks_is)
    (case tpNotEnded => first | rfl | decide +kernel)
    (case hgNotEnded => k_is)
    (case hkNotEnded => k_is)
    (case hdNotEnded => k_is)
    (case haNotEnded => k_is)
    (case hnNotEnded => k_is)
    (case htNotEnded => k_is)
    (case hmNotEnded => k_is)
    (case icNotEnded => k_is)
    (case sCNotEnded => first | rfl | k_is)
    (case pgExplorer => k_is)
    (case hdExplorer => k_is)
    (case poExplorer => k_is)
    (case saExplorer => k_is)
    (case mkExplorer => k_is)
    (case kcExplorer => k_is)
    (case nExplorer__path => k_is)
    (case nExplorer__made => k_is)
    (case nExplorer__running => k_is)
    (case nExplorer__finished => k_is)
    (case nExplorer__rows => k_is)
    (case pgTape => k_is)
    (case hdTape => k_is)
    (case poTape => k_is)
    (case saTape => k_is)
    (case mkTape => k_is)
    (case kcTape => k_is)
    (case nTape__numbers => k_is)
    (case nTape__picks => k_is)
    (case z_abs => k_is)
    (case z_int => k_is)
    (case z_len => k_is)
    (case z_list => k_is)
    (case z_max => k_is)
    (case z_range => k_is)
    (case z_reversed => k_is)
    (case z_sorted => k_is)
    (case z_sum => k_is)
    (case z_super => k_is)
    (case v_MOST_RUNS => k_is)
    (case v_ZERO => k_is)
    (case l_ZERO => k_is)
    (case v_ONE => k_is)
    (case l_ONE => k_is)
    (case g_gcd => k_is)
