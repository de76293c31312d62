import PyProof.Rows.All
import PyProof.ListStr
import HandS.Flow
import HandS.StrMore
import HandS.Iter
import HandS.Walk
import Wide.All
import OpenK.AllK
import Wide.FinOn
import HandS.ForMost
import HandS.Style
import HandS.IsInst
import HandS.ExcInit
import HandS.ExcIs
import HandS.ExcField
import HandS.ForExc
import HandS.TupAny
import PySem.Challenge.RW_textorlist_k04_parts_wrapped
set_option Elab.async false
set_option linter.all false
set_option maxRecDepth 100000
set_option maxHeartbeats 4000000
namespace TX
open PySem PySem.Spec PyProof.Rows L2

/-! ### either of two rules -/
section
variable {X : Cx}
theorem pe_alt {e : Expr} {t u : TE} (h1 : PE X e t) (h2 : PE X e u) : PE X e (fun σ H Q => t σ H Q ∨ u σ H Q) :=
  ⟨fun pins s σ H Q I h => h.elim (h1.run pins s σ H Q I) (h2.run pins s σ H Q I)⟩
theorem ps_alt {e : Stmt} {t u : TS} (h1 : PS X e t) (h2 : PS X e u) : PS X e (fun D σ H => t D σ H ∨ u D σ H) :=
  ⟨fun pins s σ H D I h => h.elim (h1.run pins s σ H D I) (h2.run pins s σ H D I)⟩
theorem pi_alt {tg e : Expr} {t u : TI} (h1 : PI X tg e t) (h2 : PI X tg e u) : PI X tg e (fun σ H R => t σ H R ∨ u σ H R) :=
  ⟨fun pins s σ H R I h => h.elim (h1.run pins s σ H R I) (h2.run pins s σ H R I)⟩
end

/-! ### data stays where the heap grows -/
theorem same_sqt {K : PySem.W.Frag} {H H' : Hp} {a : Addr} {xs : List V} (e : Same H H') (h : SqT K H a xs) : SqT K H' a xs := by
  rcases h with (h | ⟨o, h⟩) | h
  · exact .inl (.inl (e _ _ h))
  · exact .inl (.inr ⟨o, e _ _ h⟩)
  · exact .inr h
mutual
theorem dp_same {K : PySem.W.Frag} {H H' : Hp} (e : Same H H') : ∀ (d : PyData) (v : V), Dp K H v d → Dp K H' v d
  | .none, _, h => by cases h; exact .non
  | .bool b, _, h => by cases h; exact .bl b
  | .int i, _, h => by cases h; exact .int i
  | .str x, _, h => by cases h; exact .str x
  | .list xs, _, h => by
    cases h with
    | lst h1 h2 => exact .lst (e.seq h1) (dpAll_same e xs _ h2)
  | .tuple xs, _, h => by
    cases h with
    | tup h1 h2 => exact .tup (same_sqt e h1) (dpAll_same e xs _ h2)
  | .dict _, _, h => nomatch h
theorem dpAll_same {K : PySem.W.Frag} {H H' : Hp} (e : Same H H') : ∀ (ds : List PyData) (vs : List V), DpAll K H vs ds → DpAll K H' vs ds
  | [], _, h => by cases h; exact .nil
  | d :: ds, _, h => by
    cases h with
    | cons h1 h2 => exact .cons (dp_same e d _ h1) (dpAll_same e ds _ h2)
end
theorem DpAll.length {K : PySem.W.Frag} {H : Hp} : ∀ {ds : List PyData} {vs : List V}, DpAll K H vs ds → vs.length = ds.length
  | [], _, h => by cases h; rfl
  | _ :: _, _, h => by
    cases h with
    | cons _ h2 => exact congrArg (· + 1) (DpAll.length h2)
theorem DpAll.append {K : PySem.W.Frag} {H : Hp} : ∀ {ds es : List PyData} {vs ws : List V}, DpAll K H vs ds → DpAll K H ws es → DpAll K H (vs ++ ws) (ds ++ es)
  | [], _, _, _, h, g => by cases h; exact g
  | _ :: _, _, _, _, h, g => by
    cases h with
    | cons h1 h2 => exact .cons h1 (DpAll.append h2 g)
theorem DpAll.split {K : PySem.W.Frag} {H : Hp} : ∀ {ds es : List PyData} {vs : List V}, DpAll K H vs (ds ++ es) → ∃ a b, vs = a ++ b ∧ DpAll K H a ds ∧ DpAll K H b es
  | [], _, vs, h => ⟨[], vs, rfl, .nil, h⟩
  | d :: ds, es, _, h => by
    cases h with
    | cons h1 h2 =>
      obtain ⟨a, b, rfl, ha, hb⟩ := DpAll.split (ds := ds) (es := es) h2
      exact ⟨_ :: a, b, rfl, .cons h1 ha, hb⟩
theorem same_upd {H : Hp} {p : Addr} {o : HO} (h : H p = none) : Same H (upd H p o) := fun b x e => by
  rw [upd_ne (ne_of_none e h)]
  exact e
/-- a fresh place may be written again and again -/
theorem same_fresh {H0 H : Hp} {p : Addr} {o : HO} (h : H0 p = none) (e : Same H0 H) : Same H0 (upd H p o) := fun b x q => by
  rw [upd_ne (ne_of_none q h)]
  exact e b x q

/-! ### the number of parts -/
mutual
def nd : PyData → Nat
  | .list xs => ndAll xs + 1
  | .tuple xs => ndAll xs + 1
  | _ => 1
def ndAll : List PyData → Nat
  | [] => 0
  | d :: ds => nd d + ndAll ds
end
theorem ndAll_append : ∀ (a b : List PyData), ndAll (a ++ b) = ndAll a + ndAll b
  | [], b => by simp [ndAll]
  | d :: a, b => by
    rw [List.cons_append, ndAll, ndAll, ndAll_append a b]
    omega
theorem nd_pos : ∀ d : PyData, 1 ≤ nd d
  | .none => by simp [nd]
  | .bool _ => by simp [nd]
  | .int _ => by simp [nd]
  | .str _ => by simp [nd]
  | .list _ => by simp [nd]
  | .tuple _ => by simp [nd]
  | .dict _ => by simp [nd]
theorem ndAll_len : ∀ ds : List PyData, ds.length ≤ ndAll ds
  | [] => by simp
  | d :: ds => by
    have := ndAll_len ds
    have := nd_pos d
    rw [ndAll, List.length_cons]
    omega

/-! ### what a value's type is, for isinstance -/
/-- the type of a value that represents data -/
def tyD : PyData → String
  | .none => "NoneType"
  | .bool _ => "bool"
  | .int _ => "int"
  | .str _ => "str"
  | .list _ => "list"
  | .tuple _ => "tuple"
  | .dict _ => "dict"
theorem dp_ty {K : PySem.W.Frag} {H : Hp} {v : V} {d : PyData} (h : Dp K H v d) : TyX K H v (.type (tyD d)) := by
  cases h with
  | non => exact .base .non
  | bl b => exact .base (.bl b)
  | int i => exact .base (.int i)
  | str x => exact .base (.str x)
  | lst h1 _ =>
    rcases h1 with (h | ⟨o, h⟩) | ⟨o, its, n, hk, hc, _⟩
    · exact .base (.lst h)
    · exact .base (.frz h)
    · exact .kList hk hc
  | tup h1 _ =>
    rcases h1 with (h | ⟨o, h⟩) | ⟨o, its, n, hk, hc, _⟩
    · exact .base (.tup h)
    · exact .fTuple h
    · exact .kTuple hk hc

/-! ### repr of data -/
section
variable {X : Cx}
def rRepr (K : PySem.W.Frag) : List V → Hp → VK → Prop := fun xs H Q => ∃ v d, xs = [v] ∧ Dp K H v d ∧ d.showable = true ∧ d.hasDict = false ∧ d.depth ≤ 60 ∧ d.shown.length ≤ sizeLine ∧ Q (.str d.shown) H
theorem call_repr (hg : X.A.guards = some []) (hu : X.A.units + 64 < cLine) : CallR X (.builtin "repr") (rRepr X.K) := by
  intro pins s σ H xs us Q I r h
  obtain ⟨v, d, rfl, hd, hs, hn, hz, hl, q⟩ := h
  obtain ⟨u, rfl, rv⟩ := r.one
  have fin : ∀ tk t, EP X pins σ Q (.str d.shown t) { s with toks := tk } := fun tk t => ⟨.str _, H, I.tok tk, ⟨t, rfl⟩, q⟩
  obtain ⟨as, rd⟩ := Dp.reads I d v u hd rv
  cases hd with
  | non =>
    cases rv
    simp only [PyData.shown] at fin
    exact PySem.P.repr_of_none (fin _ _)
  | bl b =>
    cases rv
    simp only [PyData.shown] at fin
    exact PySem.P.repr_of_bool (fin _ _)
  | int i =>
    obtain ⟨t, rfl⟩ := rv
    simp only [PyData.shown] at fin
    exact PySem.P.repr_of_int (by simpa [PyData.showable] using hs) (fin _ _)
  | str x =>
    obtain ⟨t, rfl⟩ := rv
    simp only [PyData.shown] at fin hl
    exact PySem.P.repr_of_str (fin _ _) hl
  | lst h1 h2 =>
    cases rv
    exact repr_of_reads' rd hs (PyData.noDict_hsm hn) hg (by omega) (fun _ _ e => e) (fun h' t tk hk => ⟨.str _, H, I.kept hk, ⟨t, rfl⟩, q⟩) hl
  | tup h1 h2 =>
    cases rv
    exact repr_of_reads' rd hs (PyData.noDict_hsm hn) hg (by omega) (fun _ _ e => e) (fun h' t tk hk => ⟨.str _, H, I.kept hk, ⟨t, rfl⟩, q⟩) hl
end
end TX
namespace TX
open PySem PySem.Spec PyProof.Rows L2
/-! ### a def that is called where nothing is being shown (no repr under way) -/
structure FnG (P : Program) (w : World) (K : PySem.W.Frag) (mg : Str → Option Value) (base : Heap) (C : CXT) (k : Nat) (f : Addr) (fd : FuncData) (ps : List Str) (sp : Sp) : Prop where
  len : ∀ vs H Q E, sp vs H Q E → vs.length = ps.length
  go : ∀ (A : Around), A.guards = some [] → ∀ (outer : List Env) (s : Shared) (H : Hp) (args : Args) (us : List Value) (vs : List V) (Q : VK) (E : XK), Room k A → Env0 P w K mg base A outer s H →
    BindsTo s fd args (ps.zip us) → Vals vs us → sp vs H Q E → codeAny (model P w) A (.call (.ref f) args) (CR C outer P w H s Q E) s
section
variable {P : Program} {w : World} {K : PySem.W.Frag} {mg : Str → Option Value} {base : Heap} {C : CXT} {k : Nat} {f : Addr} {fd : FuncData} {N ps : List Str} {sp : Sp}
theorem fng_of {x qual : Str} {st : Stmt} (F : Fun K x qual st f fd) (S : FnScope N ps (defScope st)) (len : ∀ vs H Q E, sp vs H Q E → vs.length = ps.length)
    (hb : ∀ (cdv : Value) (A : Around) (outer : List Env) (s : Shared) (H : Hp) (vs : List V) (Q : VK) (E : XK), A.guards = some [] → Room k (A.deeper (envOfC qual (defScope st) s.heap.objs.size f cdv)) → sp vs H Q E →
      ∃ t, PSs (cxOf CX0 P w K mg base N qual (defScope st) f cdv A outer s H E).nox (defBody st) t ∧ t { nx := fun _ H' => Q .non H', rt := Q } (start N vs) H) : FnG P w K mg base CX0 (k + 1) f fd ps sp := by
  obtain ⟨oc, od, kV, doc, pm, an, cdv, ct, osl, rfl, lk, hcd⟩ := F.ex
  refine ⟨len, fun A hg outer s H args us vs Q E hr e0 hbd r hsp => ?_⟩
  have up : ∀ b o, base.get? b = some o → s.heap.get? b = some o := fun b o e => (e0.bs b o e).1
  have KX : K.In s.heap := e0.mod.kin.keeps up
  have par : ∀ y ∈ ps.zip us, (defScope st).names.lookup y.1 = some .local ∨ ((defScope st).names.lookup y.1 = some .cell ∧ ((cellsFrom (s.heap.objs.size + 1) (defScope st).names []).lookup y.1).isSome = true) := by
    rintro ⟨n, v⟩ hy
    exact (S.par n (List.of_mem_zip hy).1).imp id fun q => ⟨q, PySem.W.cellsFrom_some _ _ _ (.inl q)⟩
  refine codeAny_call_function hr.depth (KX _ _ lk) rfl S.co S.gen rfl (PySem.W.codeRec_of KX hcd) (hbd _ _ _ _ (wpAny_newFunctionEnv_cells S.kind par fun env he s1 x => ?_))
  cases he
  obtain ⟨t, ht, hq⟩ := hb cdv A outer s H vs Q E hg (hr.deeper _) hsp
  refine ⟨(e0.mod.nolimit.keeps up).keeps x.toInCall.keep, codeAny_func (wpAny_mono (ht.nox.run [] s1 (start N vs) H _ (inv_start S hr.hd e0 (len _ _ _ _ hsp) r x) hq) (fun fl s' hs => ?_) fun e s' hs => hs)⟩
  cases fl with
  | next => exact let ⟨σ', H', J, q⟩ := hs; ⟨.non, H', J.os, J.bare, J.base, J.hok, rfl, q⟩
  | ret u => exact let ⟨v, σ', H', J, rv, q⟩ := hs; ⟨v, H', J.os, J.bare, J.base, J.hok, rv, q⟩
  | brk => exact let ⟨_, _, _, q⟩ := hs; False.elim q
  | cont => exact let ⟨_, _, _, q⟩ := hs; False.elim q
theorem deeper_guards {A : Around} {env : Env} : (A.deeper env).guards = A.guards := rfl
end
section
variable {X : Cx} {C : CXT} {k : Nat} {f : Addr} {fd : FuncData} {ps : List Str} {sp : Sp} {dvs : List V} {ds : List Value} {E : XK} {x : Str} {p pos : Pos} {e : Expr} {es : List Expr} {t : TA}
theorem pe_callG (F : FnG X.prog X.w X.K X.mg X.base C k f fd ps sp) (hgd : X.A.guards = some []) (hr : Room k X.A) (hg : Gl X x) (hm : X.mg x = some (.ref f)) (hk : PySem.W.keepIn X.K (.ref f) = true) (hb : Binds X.K fd ps ds) (hd : Vals dvs ds)
    (hx : Passes C X E) (ha : PA X (e :: es) t) (hdb : (x == ("__debug__" : Str)) = false := by decide) (he : starEach (e :: es) X.env = (false, eval e X.env) :: starEach es X.env := by rfl)
    (hpl : (backTo pos (starEach es X.env)).any (·.1) = false := by rfl) : PE X (.Call (.Name x p) (e :: es) [] pos) (tCall sp dvs E t) := by
  refine ⟨fun pins s σ H Q I h => wpAny_Call_Name_kw (ld_glob I hg hm (PySem.W.callWith_K (h₀ := X.base) I.ok.mod.kin hk (thn (ha.run pos pins s σ H _ I h) fun us s1 h1 => ?_) he hpl) hdb)⟩
  obtain ⟨vs, H1, I1, r, q⟩ := h1
  have r2 := r.append hd
  have hl : (us ++ ds).length = ps.length := r2.length.symm.trans (F.len _ _ _ _ q)
  refine ⟨I1.kIn, wpAny_call (codeAny_mono (F.go X.A hgd X.stack s1 H1 ⟨us, []⟩ _ _ _ _ hr I1.env0 (hb s1 us I1.kIn hl) r2 q) fun r s' hq => ?_)⟩
  cases r with
  | error er => exact hx pins σ H1 s1 er s' I1 hq
  | ok fl => cases fl with
    | ret u => exact I1.after hq
    | next => exact hq.elim
    | brk => exact hq.elim
    | cont => exact hq.elim
end
/-- the law's def, called by the claim -/
theorem lawG {P : Program} {w : World} {K : PySem.W.Frag} {mg mb : Str → Option Value} {k : Nat} {fa a : Addr} {fd : FuncData} {x : Str} {sp : Sp} {s₁ : Shared} {vs : List Value} {ns : List Int}
    (KX : K.In s₁.heap) (hns : s₁.heap.Ns mainGlobals mg) (hb : s₁.heap.Ns builtinsNs mb) (hbb : ∀ x : Str, x ≠ "__name__" → mb x = bootBuiltins x) (hlim : s₁.heap.NoLimit) (hg : s₁.gens = #[])
    (ha : s₁.heap.get? a = some { cls := .type "list", data := .seq vs.toArray }) (hi : IntsAre vs ns) (hl : ns.length ≤ sizeLine) (hr : Room k callerA)
    (F : ∀ base : Heap, K.In base → base.Ns mainGlobals mg → FnG P w K mg base CX0 k fa fd [x] sp) (hbind : ∀ (s : Shared) (u : Value), BindsTo s fd ⟨[u], []⟩ [(x, u)])
    (hsp : ∀ H : Hp, Only H → SqL K H a (ns.map V.int) → sp [.ref a] H (fun v _ => v = .bl true) fun _ _ _ => False) :
    codeAny (model P w) callerA (.call (.ref fa) ⟨[.ref a], []⟩) (fun r s' => r = .ok (.ret (.bool true)) ∧ OldK s₁.heap s'.heap ∧ s'.os = s₁.os ∧ AllBare s'.gens) s₁ := by
  have rv := vals_ints hi
  have lenV := hi.length
  have main : ∀ H : Hp, Only H → SqL K H a (ns.map V.int) → HOk P w H s₁.heap → (∀ b, H b ≠ none → b = a) → (H a ≠ none → K.lookup a = none) →
      codeAny (model P w) callerA (.call (.ref fa) ⟨[.ref a], []⟩) (fun r s' => r = .ok (.ret (.bool true)) ∧ OldK s₁.heap s'.heap ∧ s'.os = s₁.os ∧ AllBare s'.gens) s₁ := by
    intro H hO hS hok hA hK
    have atA : ∀ {b : Addr} {u : HO}, H b = some u → b = a := fun q => hA _ (by rw [q]; exact fun z => nomatch z)
    have noD : ∀ {b : Addr} {o : Obj} {es : Array DictEntry} {ep : Nat}, s₁.heap.get? b = some o → o.data = .dict es ep → H b = none := by
      intro b o es ep e d
      cases q : H b with
      | none => rfl
      | some u =>
        cases atA q
        rw [ha] at e
        cases e
        exact absurd d (fun z => nomatch z)
    have nsK : ∀ {b : Addr} {m : Str → Option Value}, s₁.heap.Ns b m → (hidT s₁.heap H).Ns b m := fun ⟨o, es, ep, e, d, r⟩ => ⟨o, es, ep, hidT_get e (noD e d), d, r⟩
    have hKb : K.In (hidT s₁.heap H) := by
      intro b o e
      refine hidT_get (KX b o e) ?_
      cases q : H b with
      | none => rfl
      | some u =>
        cases atA q
        rw [hK (by rw [q]; exact fun z => nomatch z)] at e
        cases e
    have hM : Mod K mg (hidT s₁.heap H) := ⟨hKb, nsK hns, ⟨mb, nsK hb, hbb⟩, let ⟨mc, h1, h2⟩ := hlim; ⟨mc, nsK h1, h2⟩⟩
    have e0 : Env0 P w K mg (hidT s₁.heap H) callerA [] s₁ H := ⟨rfl, hM, fun b o e => of_hidT e, Nat.le_of_eq (hidT_size _ _), trivial, fun b hb => (nomatch hb), hok, .of_eq hg⟩
    refine codeAny_mono ((F _ hKb (nsK hns)).go callerA rfl [] s₁ H ⟨[.ref a], []⟩ [.ref a] [.ref a] _ _ hr e0 (hbind s₁ (.ref a)) (.cons rfl .nil) (hsp H hO hS)) fun r s' h => ?_
    cases r with
    | error e => exact (show False from h).elim
    | ok fl => cases fl with
      | next => exact h.elim
      | brk => exact h.elim
      | cont => exact h.elim
      | ret u =>
        obtain ⟨v, H', os, bare, un, hok', r', q⟩ := h
        cases (show v = .bl true from q)
        cases (show u = Value.bool true from r')
        refine ⟨rfl, OldK.of_keep fun b o e => ?_, os, bare⟩
        cases q : H b with
        | none => exact un.keep b o e q (fun z => nomatch z) (fun z => nomatch z)
        | some u =>
          rcases hO b with z | ⟨ob, xs, z⟩
          · rw [q] at z
            cases z
          · obtain ⟨e1, _⟩ := hok b _ z
            obtain ⟨e2, _⟩ := hok' b _ (un.frzs b ob _ z)
            rw [e] at e1
            cases e1
            exact e2
  cases hk : K.lookup a with
  | some o =>
    have e := KX a o hk
    rw [ha] at e
    cases e
    exact main (fun _ => none) (fun _ => .inl rfl) (.inr ⟨_, vs.toArray, _, hk, rfl, rfl, rfl, by rw [List.size_toArray, lenV]; exact hl, by simpa using rv⟩) (fun b u z => nomatch z) (fun b z => absurd rfl z) fun z => absurd rfl z
  | none =>
    refine main (fun b => if b = a then some (.frz { cls := .type "list", data := .seq vs.toArray } (.lst (ns.map V.int))) else none) (fun b => ?_) (.inl (.inr ⟨{ cls := .type "list", data := .seq vs.toArray }, if_pos rfl⟩)) (fun b u z => ?_) (fun b z => ?_) fun _ => hk
    · by_cases hb : b = a
      · exact .inr ⟨_, _, if_pos hb⟩
      · exact .inl (if_neg hb)
    · by_cases hb : b = a
      · cases hb
        cases (if_pos rfl).symm.trans z
        exact ⟨ha, by rw [List.length_map]; exact hl, vs, _, rv, ha⟩
      · cases (if_neg hb).symm.trans z
    · exact Classical.byContradiction fun hb => z (if_neg hb)
theorem walkG {l : PySem.W.OpenLaw} {n k : Nat} {q : Program} {loose : List Str} {XP : (Str → Option Value) → Heap → Prop} {YP : World → Heap → Prop} {d : DefRec} {K : Params → PySem.W.Frag} {sp : World → Sp} {x : Str}
    (hn : l.most = some n) (hn2 : n ≤ sizeLine) (hdf : d.params.defaults = []) (hr : Room k callerA) (hY : ∀ (w : World) (h : Heap), YP w h → (K w.params).In h)
    (F : ∀ (w : World) (mg : Str → Option Value) (fa : Addr) (h : Heap), (K w.params).In h → h.Ns mainGlobals mg → mg d.name = some (.ref fa) →
      ∃ fd : FuncData, (∀ (s : Shared) (u : Value), BindsTo s fd ⟨[u], []⟩ [(x, u)]) ∧ ∀ base : Heap, (K w.params).In base → base.Ns mainGlobals mg → FnG l.prog w (K w.params) mg base CX0 k fa fd [x] (sp w))
    (hsp : ∀ (w : World) (H : Hp) (a : Addr) (ns : List Int), ns.length ≤ n → Only H → SqL (K w.params) H a (ns.map V.int) → sp w [.ref a] H (fun v _ => v = .bl true) fun _ _ _ => False) :
    PySem.W.WalkO q loose XP YP l.row.toRowW d [] (fun f vs => PySem.call f vs) := by
  refine Att.attach_call hn hdf fun w s₀ s₁ mg mb fa o pm cd doc a vs ns G Y ho hd hcd hmg hobj hints hlen hg => ?_
  obtain ⟨fd, hb, hF⟩ := F w mg fa _ (hY w _ Y) G.T.g hmg
  exact lawG (hY w _ Y) G.T.g G.T.b G.T.builtins G.T.nolimit hg hobj hints (Nat.le_trans hlen hn2) hr hF hb fun H hO hS => hsp w H a ns hlen hO hS
end TX
namespace TX
open PySem PySem.Spec PyProof.Rows L2
section
variable {prog : Program} {w : World} {A : Around} {E : Value → Shared → Prop} {s : Shared}
theorem slAdj_back (n : Nat) : Builtin.Slice.sliceAdjust none none (-1) (n : Int) = ((n : Int) - 1, -1) := rfl
theorem slPl_back (n : Nat) : Builtin.Slice.slicePlaces ((n : Int) - 1) (-1) (-1) = n := by
  unfold Builtin.Slice.slicePlaces
  rw [if_neg (by decide)]
  split
  · have e : -(-1 : Int) = 1 := by decide
    rw [e, Int.ediv_one]
    omega
  · omega
theorem slApp_back {sl : Addr} {n : Nat} {u : Tok} {Q : Int × Int × Nat → Shared → Prop} (hs : s.heap.IsSliceOf sl .none .none (.int (-1) u)) (h : Q ((n : Int) - 1, -1, n) s) :
    wpAny (model prog w) A (Builtin.Slice.sliceApplied (.ref sl) (pure (n : Int))) Q E s := by
  obtain ⟨os, g1, g2, g3⟩ := hs
  unfold Builtin.Slice.sliceApplied Builtin.Slice.sliceFields
  refine wpAny_bind (wpAny_bind (wpAny_field g1 g3 (x := .none) rfl (wpAny_bind (wpAny_field g1 g3 (x := .none) rfl (wpAny_bind (wpAny_field g1 g3 (x := .int (-1) u) rfl (wpAny_pure ?_)))))))
  refine wpAny_bind (slicePart_int ?_)
  show wpAny _ _ (if ((-1 : Int) == 0) = true then _ else _) _ _ s
  rw [if_neg (by decide)]
  refine wpAny_bind (slicePart_none (wpAny_bind (slicePart_none (wpAny_bind (wpAny_pure ?_)))))
  show wpAny _ _ (match Builtin.Slice.sliceAdjust none none (-1) (n : Int) with | (lo, hi) => pure (lo, (-1 : Int), Builtin.Slice.slicePlaces lo hi (-1))) _ _ s
  rw [slAdj_back]
  show wpAny _ _ (pure ((n : Int) - 1, (-1 : Int), Builtin.Slice.slicePlaces ((n : Int) - 1) (-1) (-1))) _ _ s
  rw [slPl_back]
  exact wpAny_pure h
theorem fm_congr {f g : Nat → Option Value} : ∀ l : List Nat, (∀ k ∈ l, f k = g k) → l.filterMap f = l.filterMap g
  | [], _ => rfl
  | k :: l, h => by
    rw [List.filterMap_cons, List.filterMap_cons, h k List.mem_cons_self, fm_congr l fun j hj => h j (List.mem_cons_of_mem _ hj)]
theorem pick_back (l : List Value) : ((List.range l.length).filterMap fun (k : Nat) => l.toArray[(((l.length : Nat) : Int) - 1 + (k : Int) * (-1)).toNat]?) = l.reverse := by
  have e : ∀ k ∈ List.range l.length, (fun (k : Nat) => l.toArray[(((l.length : Nat) : Int) - 1 + (k : Int) * (-1)).toNat]?) k = (some ∘ fun k => (l.reverse[k]?).getD .none) k := by
    intro k hk
    have hk' := List.mem_range.mp hk
    have e1 : (((l.length : Nat) : Int) - 1 + (k : Int) * (-1)).toNat = l.length - 1 - k := by omega
    show l.toArray[(((l.length : Nat) : Int) - 1 + (k : Int) * (-1)).toNat]? = some ((l.reverse[k]?).getD .none)
    rw [e1, List.getElem?_toArray, List.getElem?_reverse (by omega), List.getElem?_eq_getElem (by omega)]
    rfl
  rw [fm_congr _ e, List.filterMap_eq_map]
  apply List.ext_getElem?
  intro i
  rw [List.getElem?_map]
  by_cases h : i < l.length
  · rw [List.getElem?_range h, List.getElem?_eq_getElem (by simpa using h)]
    simp [List.getElem?_eq_getElem, h]
  · rw [List.getElem?_eq_none (by simpa using h), List.getElem?_eq_none (by simpa using h)]
    rfl
/-- t[::-1] of a tuple -/
theorem getItem_tuple_back {t sl : Addr} {items : List Value} {u : Tok} {Q : Value → Shared → Prop} (ht : IsTup s.heap t items.toArray) (hs : s.heap.IsSliceOf sl .none .none (.int (-1) u))
    (h : Q (.ref s.heap.objs.size) { s with heap := s.heap.push { cls := .type "tuple", data := .seq items.reverse.toArray } }) (hsz : items.length ≤ sizeLine) : wpAny (model prog w) A (getItem (.ref t) (.ref sl)) Q E s := by
  have hTs : s.TypeIs (.ref sl) "slice" := let ⟨os, g1, g2, _⟩ := hs; ⟨os, g1, g2⟩
  have hfit : sizeOk (.seq items.reverse.toArray) := by
    show items.reverse.toArray.size ≤ sizeLine
    rw [List.size_toArray, List.length_reverse]
    exact hsz
  unfold getItem
  try with_reducible refine wpAny_holding ?_
  first | refine wpAny_bind (wpAny_pure ?_) | skip
  refine wpAny_bind (wpAny_sequenceKey ht.typeIs (by decide) ?_)
  refine wpAny_bind (wpAny_callSpecial?_slot (name := Str.ofString "__getitem__") ht.typeIs PyProof.Rows.slot_tuple_getitem (wpAny_call_entry PyProof.Rows.slot_tuple_getitem ht.typeIs entry_tuple_getitem ?_ (args_tuple_getitem _ _)))
  show wpAny _ _ (Builtin.Tuple.tupleItemsOf (.ref t) >>= _) _ _ s
  refine wpAny_bind (tupleItemsOf_ ht (wpAny_bind (wpAny_typeOf hTs ?_)))
  rw [if_pos (by decide)]
  refine wpAny_bind (slApp_back hs ?_)
  have no : ¬ ((((items.toArray.size : Nat) : Int) - 1 == 0 && (-1 : Int) == 1 && items.toArray.size == items.toArray.size) = true) := by
    intro q
    rw [Bool.and_eq_true, Bool.and_eq_true] at q
    exact absurd (eq_of_beq q.1.2) (by decide)
  show wpAny _ _ (if (((items.toArray.size : Nat) : Int) - 1 == 0 && (-1 : Int) == 1 && items.toArray.size == items.toArray.size) = true then _ else _) _ _ s
  rw [if_neg no]
  have e : ((List.range items.toArray.size).filterMap fun (k : Nat) => items.toArray[(((items.toArray.size : Nat) : Int) - 1 + (k : Int) * (-1)).toNat]?) = items.reverse := by
    rw [List.size_toArray]
    exact pick_back items
  rw [e]
  first
    | exact wpAny_bind (m := Builtin.Tuple.tupleExact _) (wpAny_newObj_type (wpAny_pure ⟨_, rfl, wpAny_pure h⟩) hfit)
    | exact wpAny_bind (m := Builtin.Tuple.tupleExact _) (wpAny_newObj_type (wpAny_bind (wpAny_pure (wpAny_pure ⟨_, rfl, wpAny_pure h⟩))) hfit)
    | exact wpAny_bind (wpAny_bind (m := Builtin.Tuple.tupleExact _) (wpAny_newObj_type (wpAny_pure (wpAny_pure ⟨_, rfl, wpAny_pure h⟩)) hfit))
    | exact wpAny_bind (wpAny_bind (m := Builtin.Tuple.tupleExact _) (wpAny_newObj_type (wpAny_pure ⟨_, rfl, wpAny_pure h⟩) hfit))
end
section
variable {X : Cx}
def tRevT (K : PySem.W.Frag) (te : TE) : TE := fun σ H Q => te σ H fun x H1 => ∃ a xs, x = .ref a ∧ SqT K H1 a xs ∧ ∀ p, H1 p = none → Q (.ref p) (upd H1 p (.tup xs.reverse))
theorem pe_revT {e : Expr} {te : TE} {k : Nat} {p1 p2 p3 pos : Pos} (he : PE X e te) : PE X (.Subscript e (.Slice none none (some (.UnaryOp .USub (.Constant (.int 1) k p1) p2)) p3) pos) (tRevT X.K te) := by
  refine ⟨fun pins s σ H Q I h => Subscript_ (thn (he.run pins s σ H _ I h) fun v s1 ⟨x, H1, I1, r1, a, xs, ex, hx, q⟩ => ?_)⟩
  subst ex
  cases r1
  have hst : PO X (some (.UnaryOp .USub (.Constant (.int 1) k p1) p2)) (tPart (tUn (rU fun i => .int (-i)) (tC (.int 1)))) := po_some (pe_un un_neg pe_int)
  refine wpAny_Slice (thn (po_none.run pins s1 σ H1 (fun o H2 => o = none ∧ H2 = H1) I1 ⟨rfl, rfl⟩) fun vl s2 ⟨l, H2, I2, pl, el, e2⟩ => ?_)
  subst el e2
  refine thn (po_none.run pins s2 σ H2 (fun o H3 => o = none ∧ H3 = H2) I2 ⟨rfl, rfl⟩) fun vu s3 ⟨u, H3, I3, pu, eu, e3⟩ => ?_
  subst eu e3
  refine thn (hst.run pins s3 σ H3 (fun o H4 => o = some (-1) ∧ H4 = H3) I3 ⟨1, rfl, -1, rfl, rfl, rfl⟩) fun vs s4 ⟨o, H4, I4, ps, eo, e4⟩ => ?_
  subst eo e4
  have I5 : Inv X pins σ H4 { s4 with heap := s4.heap.push { cls := .type "slice", data := .fields #[vl, vu, vs] } } := I4.kept (t' := s4.toks) fun b ob q => Heap.get?_push_of_some _ q
  obtain ⟨its, r, ht, hz⟩ := I5.tuple hx
  have hlen := r.length
  cases pl
  cases pu
  obtain ⟨tk, rfl⟩ : ∃ tk, vs = .int (-1) tk := by
    cases ps
    exact ⟨_, rfl⟩
  show wpAny (model X.prog X.w) X.A (subscriptTail e (.Slice none none (some (.UnaryOp .USub (.Constant (.int 1) k p1) p2)) p3) (.ref a) (.ref s4.heap.objs.size)) (EP X pins σ Q) X.xe { s4 with heap := s4.heap.push { cls := .type "slice", data := .fields #[.none, .none, .int (-1) tk] } }
  refine tail_any (ops := [.ref a, .ref s4.heap.objs.size]) ht.typeIs PyProof.Rows.slot_tuple_getitem.lookup ?_ (by with_unfolding_all rfl)
  refine getItem_tuple_back ht (Heap.IsSliceOf.new _ _ _ _) ?_ (by omega)
  refine ⟨.ref _, _, I5.laid (t' := s4.toks) (o := .tup xs.reverse) (fun b ob q => Heap.get?_push_of_some _ q) (Nat.le_refl _) ?_, rfl, q _ (I5.hok.fresh (Nat.le_refl _))⟩
  exact ⟨by rw [List.length_reverse]; exact hz, _, r.reverse, ⟨_, Heap.get?_push_size _ rfl, rfl, _, rfl⟩⟩
end
theorem ext_tup (l : Addr) (items : Array Value) (n : Nat) (b : Addr) (items2 : Array Value) (n2 : Nat) (dd : Option Addr) (sl : Array (Option Value)) (hs0 : ¬(!items.isEmpty && Builtin.List.listTooLong (items.size + items2.size)) = true)
    (hs1 : items.size ≤ sizeLine) (hs2 : items.size + items2.size ≤ sizeLine + 1) :
    Meets (Builtin.«list.extend» ⟨[.ref l, .ref b], []⟩) (fun _ R s => s.heap.get? l = some { cls := .type "list", dict := none, data := .seq items n, slots := #[] } ∧ s.heap.get? b = some { cls := .type "tuple", dict := dd, data := .seq items2 n2, slots := sl } ∧
      R (.ok (.ret Value.none)) { s with heap := s.heap.update l (Obj.mapSeq fun x => x ++ items2), toks := s.toks }) :=
  .of_wp fun prog w A R s h => by
    obtain ⟨hp, g, d, tk, os⟩ := s
    obtain ⟨hl, hb, h⟩ := h
    have f1 := AutoSeq1.idx_int
    have f2 := AutoSeq1.sub_tuple_tuple
    have f3 := AutoSeq1.sub_list_list
    have f4 := AutoSeq1.sub_tuple_list
    have f5 := AutoSeq1.sub_list_tuple
    have hz' : (items ++ items2).size ≤ sizeLine + 1 := by
      rw [Array.size_append]
      exact hs2
    wp_walk using (wpAny_updateSeq hl rfl (hz := hs1) (_hz' := hz')), AutoSeq1.wpAny_loadPart' hl, AutoSeq1.wpAny_loadPart' hb
    exact ⟨_, rfl, h⟩
section
variable {X : Cx}
def rExtT (K : PySem.W.Frag) : V → List V → Hp → VK → Prop := fun x vs H Q => ∃ l b xs zs, x = .ref l ∧ vs = [.ref b] ∧ H l = some (.lst xs) ∧ SqT K H b zs ∧ xs.length + zs.length ≤ sizeLine ∧ Q .non (upd H l (.lst (xs ++ zs)))
theorem mt_extT : MtM X "list.extend" (rExtT X.K) := by
  intro pins s σ H x vs v us Q I rx rv h
  obtain ⟨l, b, xs, zs, rfl, rfl, hH, hB, hz, q⟩ := h
  cases rx
  obtain ⟨u, rfl, ru⟩ := rv.one
  cases ru
  obtain ⟨z, its, n, r, hl, e⟩ := I.lstM hH
  obtain ⟨its2, r2, ⟨⟨cls, dd, data, sl⟩, e2, hc, n2, hd⟩, hz2⟩ := I.tuple hB
  simp only at hc hd
  subst hc hd
  have hl2 := r2.length
  have hsz : its.toArray.size + its2.toArray.size ≤ sizeLine := by
    rw [List.size_toArray, List.size_toArray]
    omega
  have hlong : ¬ (!its.toArray.isEmpty && Builtin.List.listTooLong (its.toArray.size + its2.toArray.size)) = true := by
    rw [notLongL hsz, Bool.and_false]
    exact Bool.false_ne_true
  refine call_meets F.slot_list_extend ⟨_, e, rfl⟩ F.entry_list_extend (F.args_list_extend_2 _ _) (ext_tup l its.toArray n b its2.toArray n2 dd sl hlong (by rw [List.size_toArray]; omega) (by omega)) ⟨e, e2, ?_⟩
  refine ⟨.non, _, I.lset (its' := its ++ its2) hH e (by simp) (r.append r2) ?_, rfl, q⟩
  rw [List.length_append]
  omega
end
end TX
namespace TX
open PySem PySem.Spec PySem.Calls PyProof.Rows L2
open PySem.W (Frag InstAt findIn subIn hasDictIn specialIn takesIn mroIn clsIn Looks looks_findIn looks_find looks_subIn KitX)
section
variable {prog : Program} {w : World} {A : Around} {E : Value → Shared → Prop} {s : Shared} {K : Frag} {x D : Addr} {ox : Obj} {od : Option Obj}
theorem clsSome {D : Addr} (h : hasDictIn K D = true) : (clsIn K D).isSome = true := by
  unfold hasDictIn at h
  cases e : clsIn K D with
  | none => rw [e] at h; cases h
  | some c => rfl
theorem findData {C : Addr} {name : Str} {a g : Value} (hc : (clsIn K C).isSome = true) (ha : findIn K (.ref C) name = some (some a)) (hg : specialIn K a "__get__" = some (some g)) (ht : takesIn K a = some true) :
    PySem.W.findObj K C od name = some (.bind g a) := by
  obtain ⟨cd, hc⟩ := Option.isSome_iff_exists.mp hc
  simp [PySem.W.findObj, hc, ha, hg, ht]
/-- e.__class__ of an exception of an own class, with or without a dict of its own -/
theorem classOf {Q : Option Value → Shared → Prop} (T : ExcC K D) (X : K.In s.heap) (I : InstAt s.heap x ox D od) (h : Q (some (.ref D)) { s with toks := s.toks + 1 }) : wpAny (model prog w) A (getAttr? (.ref x) "__class__") Q E s := by
  have hf : PySem.W.findObj K D od "__class__" = some (.bind (.builtin "getset_descriptor.__get__") (.builtin "object.__class__")) := findData (clsSome T.hd) T.ha T.hn T.ht
  obtain ⟨hp, g, d, t, os⟩ := s
  have L0 := I.type (M := model prog w)
  have L1 := looks_findIn (M := model prog w) X T.hg
  have L2 := looks_findIn (M := model prog w) X T.hk
  have L3 := looks_find (M := model prog w) X I hf
  have sub : Looks (model prog w) hp (isInstance (.ref x) (.type "BaseException")) true := L0.andThen (looks_subIn X T.hs)
  have n0 : (false && onTheHeap (Value.builtin "BaseException.__getattribute__")) = false := rfl
  have n2 : (Value.builtin "BaseException.__getattribute__" == Value.builtin "object.__getattribute__") = false := by decide +kernel
  have n1 : (onTheHeap (Value.ref D) && Value.builtin "BaseException.__getattribute__" == Value.builtin "object.__getattribute__") = false := by
    rw [n2]
    rfl
  unfold getAttr? getAttrBy? getAttrBy
  refine wpAny_bind (wpAny_mkText (wpAny_bind (wpAny_attempt (wpAny_holding (wpAny_bind (L0.at (wpAny_bind (L1.at ?_))))))))
  show wpAny _ _ (if (onTheHeap (Value.ref D) && Value.builtin "BaseException.__getattribute__" == Value.builtin "object.__getattribute__") = true then _ else _) _ _ _
  rw [n1, if_neg Bool.false_ne_true]
  unfold getAttrByItsOwn hookBefore
  refine wpAny_bind ?_
  rw [if_pos (show onTheHeap (Value.ref D) = true from rfl)]
  refine L2.at (wpAny_bind (wpAny_attempt (wpAny_holding ?_)))
  unfold callGetattribute
  rw [n0, if_neg Bool.false_ne_true]
  unfold boundAndCalled
  rw [PySem.F.excAttr_ValueError.ga.bind (.ref x)]
  refine wpAny_bind (wpAny_pure ?_)
  show wpAny _ _ (call (.builtin "BaseException.__getattribute__") [.ref x, .str "__class__" t]) _ _ _
  refine wpAny_call (codeAny_call_builtin PySem.F.excAttr_ValueError.ga.plain PySem.F.entry_bexc_ga ?_)
  refine @PySem.W.check_slot (model prog w) _ _ ⟨hp, g, d, t + 1, os⟩ "BaseException.__getattribute__" "BaseException" "__getattribute__" (.ref x) [.str "__class__" t] [] _ (by decide +kernel) (by decide +kernel) sub (PySem.F.args_bexc_ga (.ref x) (.str "__class__" t)) ?_
  unfold Builtin.«object.__getattribute__»
  refine wpAny_bind (wpAny_of_eq (a := ((Value.ref x : Value), [Value.str "__class__" t])) (by first | rfl | (simp only [slotArgs]; rfl)) ?_)
  refine wpAny_bind (wpAny_pure (wpAny_bind (L0.at (wpAny_bind (L3.at ?_)))))
  show wpAny _ _ (holding [Value.builtin "object.__class__"] (call (.builtin "getset_descriptor.__get__") [.builtin "object.__class__", .ref x, .ref D]) >>= ret) _ _ _
  refine wpAny_bind (wpAny_holding (wpAny_call (PySem.W.class_get (s := ⟨hp, g, d, t + 1, os⟩) (ox := ox) (od := od) X I T.hm (wpAny_pure ?_))))
  show wpAny _ _ (handedOut (.ref D)) _ _ _
  rw [PySem.W.handedOut_of (v := .ref D) rfl]
  first
    | exact wpAny_pure (wpAny_pure h)
    | exact wpAny_pure h
    | exact wpAny_pure (wpAny_bind (wpAny_pure (wpAny_pure h)))
theorem kitE (T : ExcC K D) : KitX K (.ref x) (.ref D) (fun h => InstAt h x ox D od) where
  ty := fun _ _ _ I => I.type
  it := fun _ _ X _ => by
    obtain ⟨cd, hc⟩ := Option.isSome_iff_exists.mp (clsSome T.hd)
    unfold clsIn at hc
    split at hc
    · rename_i c' d' cd' sl' ho
      intro A' Q' E' s' k q
      unfold isType loadHead
      exact wpAny_bind (wpAny_loadPart (k _ _ (X _ _ ho)) (wpAny_pure q))
    · cases hc
  ne := fun h tp dd its n sl X htp => by
    obtain ⟨cd, hc⟩ := Option.isSome_iff_exists.mp (clsSome T.hd)
    refine Bool.eq_false_iff.mpr fun q => ?_
    have e : D = tp := Value.ref.inj (beq_iff_eq.mp q)
    subst e
    unfold clsIn at hc
    split at hc
    · rename_i c' d' cd' sl' ho
      have z := (X _ _ ho).symm.trans htp
      cases z
    · cases hc
  ca := fun X I k => classOf T X I k
end
/-- the exception that the suite holds, as the state has it -/
theorem atE {X : Cx} {pins : List (Addr × Obj)} {σ : L2.St} {H : Hp} {s : Shared} {a D : Addr} {oe : Obj} {d : Option Addr} {pn : List (Addr × Obj)} (I : Inv (X.suite a ((a, oe) :: pn)) pins σ H s) (hz : Zc (.ref D) d oe) (hf : ∃ vs, oe.data = .fields vs)
    (hd : ∀ dd, d = some dd → ∃ fs, H dd = some (.xd fs)) : ∃ od, InstAt s.heap a oe D od := by
  obtain ⟨hget, _⟩ := I.pin (a, oe) (List.mem_append.mpr (.inl List.mem_cons_self))
  obtain ⟨vs, hv⟩ := hf
  obtain ⟨oc, odd, oda, osl⟩ := oe
  obtain ⟨h1, h2⟩ := hz
  dsimp only at h1 h2 hv
  subst h1 h2 hv
  cases odd with
  | none => exact ⟨none, hget, rfl, rfl, trivial⟩
  | some dd =>
    obtain ⟨fs, hx⟩ := hd dd rfl
    have ob : ObjOk X.prog X.w H s.heap dd (.xd fs) := I.hok dd _ hx
    obtain ⟨mA, ⟨o, es, ep, ho, _⟩, _⟩ := ob
    exact ⟨some o, hget, rfl, rfl, ho⟩
/-- isinstance(e, c) -/
def rIsE2 (K : Frag) (D a : Addr) (d : Option Addr) : List V → Hp → VK → Prop := fun xs H Q => ∃ (c : V) (cv : Value) (b : Bool), xs = [.ref a, c] ∧ ClsV c cv ∧ PySem.W.kitOne K (.ref D) cv = some b ∧ (∀ dd, d = some dd → ∃ fs, H dd = some (.xd fs)) ∧ Q (.bl b) H
theorem call_isE2 {X : Cx} {a D : Addr} {oe : Obj} {d : Option Addr} {pn : List (Addr × Obj)} (C : ExcC X.K D) (hz : Zc (.ref D) d oe) (hf : ∃ vs, oe.data = .fields vs) : CallR (X.suite a ((a, oe) :: pn)) (.builtin "isinstance") (rIsE2 X.K D a d) := by
  intro pins s σ H xs us Q I r h
  obtain ⟨c, cv, b, rfl, hcv, e, hd, q⟩ := h
  obtain ⟨u1, u2, rfl, r1, r2⟩ := vals2 r
  cases (show u1 = Value.ref a from r1)
  cases hcv.eq r2
  obtain ⟨od, J⟩ := atE I hz hf hd
  exact PySem.W.kia_one (kitE C) I.kIn J e (fun z => nomatch z) fun tk => ⟨.bl b, H, I.tok tk, rfl, q⟩
/-- isinstance(e, (c1, c2, ..)) -/
def rIsET (K : Frag) (D a : Addr) (d : Option Addr) : List V → Hp → VK → Prop := fun xs H Q => ∃ (tp : Addr) (cs : List V) (us : List Value) (b : Bool), xs = [.ref a, .ref tp] ∧ H tp = some (.tup cs) ∧ Paired ClsV cs us ∧ PySem.W.kitAny K (.ref D) us = some b ∧
  (∀ dd, d = some dd → ∃ fs, H dd = some (.xd fs)) ∧ Q (.bl b) H
theorem call_isET {X : Cx} {a D : Addr} {oe : Obj} {d : Option Addr} {pn : List (Addr × Obj)} (C : ExcC X.K D) (hz : Zc (.ref D) d oe) (hf : ∃ vs, oe.data = .fields vs) : CallR (X.suite a ((a, oe) :: pn)) (.builtin "isinstance") (rIsET X.K D a d) := by
  intro pins s σ H xs us Q I r h
  obtain ⟨tp, cs, ws, b, rfl, hT, k, e, hd, q⟩ := h
  obtain ⟨u1, u2, rfl, r1, r2⟩ := vals2 r
  cases (show u1 = Value.ref a from r1)
  cases (show u2 = Value.ref tp from r2)
  obtain ⟨_, its, rv, o, h1, h2, n, h3⟩ := (show ObjOk X.prog X.w H s.heap tp (.tup cs) from I.hok tp _ hT)
  cases ClsV.all k rv
  obtain ⟨oc, odd, dt, sl⟩ := o
  simp only at h2 h3
  subst h2 h3
  obtain ⟨od, J⟩ := atE I hz hf hd
  exact PySem.W.kia_tup (kitE C) I.kIn J h1 e (fun z => nomatch z) fun tk => ⟨.bl b, H, I.tok tk, rfl, q⟩
/-! ### X(), an own exception class whose __init__ stores nothing -/
def tMkN (C : Addr) (sp : Sp) : L2.St → Hp → XK → Prop := fun _ H Q => ∀ a, H a = none → sp [.ref a] (upd H a (exo a C none)) (fun v H2 => v = .non ∧ H2 a = some (exo a C none) ∧ Q (.ref C) none (del H2 a)) (fun _ _ _ => False)
theorem pmk_oexN {X : Cx} {CX : CXT} {x : Str} {C fI : Addr} {k : Nat} {fd : FuncData} {ps : List Str} {sp : Sp} {p pos : Pos} (T : OexC X.K C) (iC : findIn X.K (.ref C) "__init__" = some (some (.ref fI))) (tI : PySem.W.typeIn X.K (.ref fI) = some (.type "function"))
    (F1 : FnOk X.prog X.w X.K X.mg X.base CX k fI fd ps sp) (hr : Room (k + 1) X.A) (hb : Binds X.K fd ps []) (hx : Passes CX X (fun _ _ _ => False)) (hg : Gl X x) (hm : X.mg x = some (.ref C)) (hdb : (x == ("__debug__" : Str)) = false := by decide) :
    PMk X (.Call (.Name x p) [] [] pos) (tMkN C sp) := by
  intro pins s σ H Q I h
  obtain ⟨nm, q, N, bs, bm, sn, sub, ab, col, dd, k0, k1, k2, k3, k5, hC, hbm⟩ := T.cls
  refine wpAny_Call_Name_kw (ld_glob I hg hm (PySem.W.callWith_K0 I.kIn T.kC ?_) hdb)
  obtain ⟨hp, g, dr, tk, os⟩ := s
  have hsz : hp.objs.size ≤ hp.objs.size + 1 := Nat.le_succ _
  have hn : H (hp.objs.size + 1) = none := I.hok.fresh hsz
  have hq := h (hp.objs.size + 1) hn
  have kk : ∀ b o, hp.get? b = some o → ((hp.push (PySem.W.kdv_tup [])).push (PySem.HandSPX.excO C hp.objs.size)).get? b = some o := fun b o e => Heap.get?_push_of_some _ (Heap.get?_push_of_some _ e)
  have hget : ((hp.push (PySem.W.kdv_tup [])).push (PySem.HandSPX.excO C hp.objs.size)).get? (hp.objs.size + 1) = some (PySem.HandSPX.excO C hp.objs.size) := by heap_get
  have I2 : Inv X pins σ (upd H (hp.objs.size + 1) (exo (hp.objs.size + 1) C none)) ⟨(hp.push (PySem.W.kdv_tup [])).push (PySem.HandSPX.excO C hp.objs.size), g, dr, tk, os⟩ :=
    I.laid (t' := tk) (a := hp.objs.size + 1) (o := exo (hp.objs.size + 1) C none) (h' := (hp.push (PySem.W.kdv_tup [])).push (PySem.HandSPX.excO C hp.objs.size)) kk hsz (exo_ok hget)
  have r2 : Vals [V.ref (hp.objs.size + 1)] [Value.ref (hp.objs.size + 1)] := .cons rfl .nil
  have hl : ([Value.ref (hp.objs.size + 1)] ++ ([] : List Value)).length = ps.length := (F1.len _ _ _ _ hq).symm ▸ rfl
  refine wpAny_call (PySem.HandSPX.call_own F.excBase_ValueError (fun Y => PySem.HandSPX.refsVE_contains Y bm hbm) (I.kIn _ _ hC) (looks_findIn I.kIn iC) (fun self => PySem.W.bind_fn I.kIn self tI) (by show 0 ≤ sizeLine; exact Nat.zero_le _)
    (codeAny_mono (F1.run _ X.stack _ _ ⟨[Value.ref (hp.objs.size + 1)], []⟩ [Value.ref (hp.objs.size + 1)] _ _ (fun _ _ _ => False) (hr.make C [] []) (I2.env0.make C [] []) (hb _ [Value.ref (hp.objs.size + 1)] I2.kIn hl) r2 hq) fun r s' hq' => ?_))
  cases r with
  | error er => exact hx pins σ _ _ er s' I2 hq'
  | ok fl => cases fl with
    | next => exact False.elim hq'
    | brk => exact False.elim hq'
    | cont => exact False.elim hq'
    | ret u =>
      obtain ⟨v, H2, os2, bare2, un2, hok2, rv, ev, ea, q2⟩ := hq'
      subst ev
      refine ⟨rv, ?_⟩
      obtain ⟨h2, g2, d2, t2, os'⟩ := s'
      generalize hA : hp.objs.size + 1 = a at *
      obtain ⟨t0, hoe⟩ := exo_at hok2 ea
      obtain ⟨G, g1', g2'⟩ := restrict h2 fun b => decide (b ≠ a)
      have gk : ∀ b, b ≠ a → G.get? b = h2.get? b := fun b hb => g1' b (decide_eq_true hb)
      have ge : G.get? a = none := g2' a (by simp)
      have nha : ∀ {b : Addr} {o : Obj}, hp.get? b = some o → b ≠ a := fun {b o} z => Nat.ne_of_lt (Nat.lt_of_lt_of_le (Heap.lt_size z) hsz)
      have up : ∀ {b : Addr}, b ≠ a → H b = none → upd H a (exo a C none) b = none := fun {b} hb n => by
        rw [upd_ne hb]
        exact n
      have U : Un (frs X.stack) [] H (del H2 a) hp G := {
        keep := fun b o z n hf hx => (gk b (nha z)).trans (un2.keep b o (kk b o z) (up (nha z) n) hf hx)
        slot := fun b o z n hf hx => by
          rw [gk b (nha z)]
          exact un2.slot b o (kk b o z) (up (nha z) n) hf hx
        free := fun b o z n hx => by
          rw [del_ne (nha z)]
          exact un2.free b o (kk b o z) (up (nha z) n) hx
        there := fun b o z hx => by
          rw [gk b (nha z)]
          exact un2.there b o (kk b o z) hx
        tups := fun b xs z => by
          rw [del_ne (ne_of_none z hn)]
          exact un2.tups b xs (by rw [upd_ne (ne_of_none z hn)]; exact z)
        frzs := fun b o v z => by
          rw [del_ne (ne_of_none z hn)]
          exact un2.frzs b o v (by rw [upd_ne (ne_of_none z hn)]; exact z)
        tbls := fun b ps z => by
          rw [del_ne (ne_of_none z hn)]
          exact un2.tbls b ps (by rw [upd_ne (ne_of_none z hn)]; exact z) }
      have hok3 : HOk X.prog X.w (del H2 a) G := fun b o z => by
        have hba : b ≠ a := fun e => by
          rw [e, del_same] at z
          cases z
        rw [del_ne hba] at z
        have noa : ∀ {c : Addr}, H2 c = some (.own b) → c ≠ a := fun {c} hc => at_ne ea hc exo_own
        refine (hok2 b o z).stay (fun c v hc y => ?_) (fun c hc => by rw [del_ne (noa hc)]; exact hc) (fun c xs hc => by rw [del_ne (at_ne ea hc exo_tup)]; exact hc)
        have hca : c ≠ a := hc.elim (fun e => e ▸ hba) noa
        exact (gk c hca).trans y
      have J : Inv X pins σ (del H2 a) ⟨G, g2, d2, t2, os'⟩ := I.call' (ch := []) os2 U hok3 bare2 (fun b z => absurd z (by simp))
      refine ⟨a, _, _, ⟨G, g2, d2, t2, os'⟩, _, .ref C, none, rfl, J, fun b o z => ?_, ge, hoe, ⟨rfl, rfl⟩, rfl, rfl, del_same, rfl, bare2, raises_own T.exC T.tyC, q2⟩
      by_cases hba : b = a
      · rw [hba] at z
        have z' : G.get? a = some o := z
        rw [ge] at z'
        cases z'
      · exact (gk b hba).symm.trans z
end TX
namespace TX
open PySem PySem.Spec PyProof.Rows L2
def top (i : Nat) : Stmt := PySem.Challenge.pw_textorlist_k04_parts_wrapped.main.body.getD i (.Pass ⟨0, 0, 0, 0⟩)
abbrev sParts : Stmt := top 1
abbrev sCopy : Stmt := top 2
abbrev cTextorlistError : Stmt := top 4
abbrev cNoPlace : Stmt := top 5
abbrev mNoPlace_init : Stmt := inClass (top 5) 0
abbrev mNoPlace_str : Stmt := inClass (top 5) 1
abbrev cNoItems : Stmt := top 6
abbrev mNoItems_init : Stmt := inClass (top 6) 0
abbrev mNoItems_str : Stmt := inClass (top 6) 1
abbrev s_is_whole_number : Stmt := top 8
abbrev s_inner_of : Stmt := top 9
abbrev s_found_at : Stmt := top 10
abbrev s_is_torn : Stmt := top 11
abbrev s_wrapped : Stmt := top 12
abbrev sBag : Stmt := top 14
abbrev sTake : Stmt := top 15
abbrev sText : Stmt := top 16
abbrev sSize : Stmt := top 17
abbrev sValue : Stmt := top 18
abbrev sGreat : Stmt := top 19
abbrev s__law_places : Stmt := top 20
abbrev s__law_put : Stmt := top 21
abbrev sTold : Stmt := top 22
abbrev sSpoil : Stmt := top 23
abbrev sLaw : Stmt := top 24
end TX
namespace TX
open PySem PySem.Spec PyProof.Rows L2
/-! ### the walk over data: a step takes the first of the parts that wait -/
inductive Stp (K : PySem.W.Frag) (H : Hp) : List V × List PyData → V → List V × List PyData → Prop
  | leaf {v : V} {d : PyData} {r : List V} {rd : List PyData} : Dp K H v d → (tyD d == "list" || tyD d == "tuple") = false → Stp K H (v :: r, d :: rd) v (r, rd)
  | lst {a : Addr} {xs r : List V} {es rd : List PyData} : SqL K H a xs → DpAll K H xs es → Stp K H (.ref a :: r, .list es :: rd) (.ref a) (xs ++ r, es ++ rd)
  | tup {a : Addr} {xs r : List V} {es rd : List PyData} : SqT K H a xs → DpAll K H xs es → Stp K H (.ref a :: r, .tuple es :: rd) (.ref a) (xs ++ r, es ++ rd)
/-- the parts so far, the last one first -/
inductive Path (K : PySem.W.Frag) (H : Hp) (S0 : List V × List PyData) : List V → List V × List PyData → Prop
  | nil : Path K H S0 [] S0
  | cons {rs : List V} {S S' : List V × List PyData} {p : V} : Path K H S0 rs S → Stp K H S p S' → Path K H S0 (p :: rs) S'
theorem isLT (d : PyData) (K : PySem.W.Frag) : PySem.W.kitAny K (.type (tyD d)) [.type "list", .type "tuple"] = some (tyD d == "list" || tyD d == "tuple") := by
  cases d with
  | none => exact kitAny_cons (b := false) (kit_ty (a := "NoneType") (b := "list") (by decide +kernel)) (fun _ => kitAny_cons (b := false) (kit_ty (a := "NoneType") (b := "tuple") (by decide +kernel)) (fun _ => kitAny_nil) (fun z => nomatch z)) (fun z => nomatch z)
  | bool _ => exact kitAny_cons (b := false) (kit_ty (a := "bool") (b := "list") (by decide +kernel)) (fun _ => kitAny_cons (b := false) (kit_ty (a := "bool") (b := "tuple") (by decide +kernel)) (fun _ => kitAny_nil) (fun z => nomatch z)) (fun z => nomatch z)
  | int _ => exact kitAny_cons (b := false) (kit_ty (a := "int") (b := "list") (by decide +kernel)) (fun _ => kitAny_cons (b := false) (kit_ty (a := "int") (b := "tuple") (by decide +kernel)) (fun _ => kitAny_nil) (fun z => nomatch z)) (fun z => nomatch z)
  | str _ => exact kitAny_cons (b := false) (kit_ty (a := "str") (b := "list") (by decide +kernel)) (fun _ => kitAny_cons (b := false) (kit_ty (a := "str") (b := "tuple") (by decide +kernel)) (fun _ => kitAny_nil) (fun z => nomatch z)) (fun z => nomatch z)
  | dict _ => exact kitAny_cons (b := false) (kit_ty (a := "dict") (b := "list") (by decide +kernel)) (fun _ => kitAny_cons (b := false) (kit_ty (a := "dict") (b := "tuple") (by decide +kernel)) (fun _ => kitAny_nil) (fun z => nomatch z)) (fun z => nomatch z)
  | list _ => exact kitAny_cons (b := true) (kit_ty (a := "list") (b := "list") (by decide +kernel)) (fun z => nomatch z) (fun _ => rfl)
  | tuple _ => exact kitAny_cons (b := false) (kit_ty (a := "tuple") (b := "list") (by decide +kernel)) (fun _ => kitAny_cons (b := true) (kit_ty (a := "tuple") (b := "tuple") (by decide +kernel)) (fun z => nomatch z) (fun _ => rfl)) (fun z => nomatch z)
/-- what the walk asks of the names of the top -/
structure Nm (mg : Str → Option Value) : Prop where
  isi : mg "isinstance" = none
  lst : mg "list" = none
  tpl : mg "tuple" = none
def spParts (K : PySem.W.Frag) : Sp := fun vs H Q _ => ∃ (v : V) (d : PyData) (Hv : Hp), vs = [v] ∧ Same Hv H ∧ Dp K Hv v d ∧ nd d ≤ 1000000 ∧
  ∀ (H' : Hp) (p : Addr) (rs : List V), Same H H' → H p = none → H' p = some (.lst rs.reverse) → Path K Hv ([v], [d]) rs ([], []) → rs.length = nd d → Q (.ref p) H'
section
variable {P : Program} {w : World} {K : PySem.W.Frag} {mg : Str → Option Value} {base : Heap}
theorem scParts : FnScope ["thing", "waiting", "parts", "part"] ["thing"] (defScope sParts) := ⟨rfl, rfl, rfl, by decide +kernel, rfl, by decide +kernel, by decide +kernel⟩
theorem ok_parts {f : Addr} {fd : FuncData} {k : Nat} (F : Fun K "all_parts" "all_parts" sParts f fd) (T : Nm mg) : FnOk P w K mg base CX0 (k + 1) f fd ["thing"] (spParts K) := by
  refine F.ok scParts (fun vs H Q E h => ?_) (fun cdv A outer s H vs Q E hr h => ?_)
  · obtain ⟨v, d, Hv, rfl, _⟩ := h
    rfl
  · obtain ⟨v, d, Hv, rfl, sv, hd, hn, q⟩ := h
    refine ⟨_, pss_cons (ps_set (i := 1) scParts.nd rfl (.inl rfl) (pe_lst (pa_cons (pv 0) pa_nil)))
      (pss_cons (ps_set (i := 2) scParts.nd rfl (.inl rfl) (pe_lst pa_nil))
      (pss_cons (ps_while PassesOwn.never (pt_truth (pv 1) (by intro _; rfl))
        (pss_cons (ps_set (i := 3) scParts.nd rfl (.inl rfl) (pe_bm0 PySem.F.plainAttrs_list PySem.F.slot_list_pop PySem.F.type_list_pop mt_pop (pv 1)))
        (pss_cons (ps_expr (pe_bm PySem.F.plainAttrs_list PySem.F.slot_list_append PySem.F.type_list_append mt_append (pv 2) (pa_cons (pv 3) pa_nil)))
        (pss_one (ps_if (pt_val (pe_callB call_isiT (by rfl) T.isi (by decide +kernel) (pa_cons (pv 3) (pa_cons (pe_tup (pa_cons (pe_bltn (v := .ty "list") (by rfl) T.lst (by decide +kernel) rfl) (pa_cons (pe_bltn (v := .ty "tuple") (by rfl) T.tpl (by decide +kernel) rfl) pa_nil))) pa_nil))))
          (pss_one (ps_alt (ps_expr (pe_bm PySem.F.plainAttrs_list PySem.F.slot_list_extend PySem.F.type_list_extend mt_extend (pv 1) (pa_cons (pe_revL (pv 3)) pa_nil)))
            (ps_expr (pe_bm PySem.F.plainAttrs_list PySem.F.slot_list_extend PySem.F.type_list_extend mt_extT (pv 1) (pa_cons (pe_revT (pv 3)) pa_nil)))))
          pss_nil)))))
      (pss_one (ps_ret (pv 2))))), ?_⟩
    refine ⟨_, rfl, (by show 1 ≤ sizeLine; decide), fun wa nwa => ⟨by decide, fun pa npa => ?_⟩⟩
    have nwa' : pa ≠ wa := fun e => by
      rw [e, upd_same] at npa
      cases npa
    have npa0 : H pa = none := by
      rw [upd_ne nwa'] at npa
      exact npa
    -- the invariant
    refine ⟨fun m σ H1 => ∃ (rs : List V) (S : List V × List PyData) (y : Option V), σ = [some v, some (.ref wa), some (.ref pa), y] ∧ Same H H1 ∧ H1 wa = some (.lst S.1.reverse) ∧ H1 pa = some (.lst rs.reverse) ∧
      DpAll K Hv S.1 S.2 ∧ Path K Hv ([v], [d]) rs S ∧ rs.length + ndAll S.2 = nd d ∧ m = ndAll S.2, ⟨_, [], ([v], [d]), none, rfl, (same_upd nwa).trans (same_upd npa), ?_, upd_same, .cons hd .nil, .nil, ?_, rfl⟩, ?_⟩
    · rw [upd_ne nwa'.symm, upd_same]
      rfl
    · simp [ndAll]
    rintro m σ H1 ⟨rs, ⟨vs, ds⟩, y, rfl, sm, hw, hp, hS, hP, hc, rfl⟩
    refine ⟨_, rfl, _, .inl ⟨_, SqL.of hw, rfl⟩, ?_⟩
    cases hS with
    | nil =>
      -- nothing waits any more
      refine iteF ?_
      refine ⟨_, rfl, q H1 pa rs sm npa0 hp hP ?_⟩
      simpa [ndAll] using hc
    | @cons v1 r1 d1 rd1 h1 h2 =>
      have hne : (!((v1 :: r1, d1 :: rd1) : List V × List PyData).1.reverse.isEmpty) = true := by simp
      rw [hne]
      refine iteT ?_
      have hlen : rs.length + (nd d1 + ndAll rd1) = nd d := by simpa [ndAll] using hc
      have hrl : rs.length ≤ 1000000 := by omega
      have hvl : r1.length ≤ ndAll rd1 := by
        have e := DpAll.length h2
        have e2 := ndAll_len rd1
        omega
      refine ⟨fun σ' H2 => ∃ (S' : List V × List PyData), σ' = [some v, some (.ref wa), some (.ref pa), some v1] ∧ Same H H2 ∧ H2 wa = some (.lst S'.1.reverse) ∧ H2 pa = some (.lst (v1 :: rs).reverse) ∧ DpAll K Hv S'.1 S'.2 ∧ Stp K Hv (v1 :: r1, d1 :: rd1) v1 S' ∧ ndAll S'.2 + 1 = nd d1 + ndAll rd1, ?_, ?_⟩
      · rintro σ' H2 ⟨S', rfl, g1, g2, g3, g4, g5, g6⟩
        exact ⟨_, by simp only [ndAll]; omega, v1 :: rs, S', _, rfl, g1, g2, g3, g4, .cons hP g5, by rw [List.length_cons]; omega, rfl⟩
      -- part = waiting.pop()
      have ep : ((v1 :: r1, d1 :: rd1) : List V × List PyData).1.reverse = r1.reverse ++ [v1] := by simp
      rw [ep] at hw
      refine ⟨_, rfl, .inl ⟨rfl, _, SqL.of hw⟩, wa, _, v1, rfl, rfl, hw, by simp, ?_⟩
      rw [List.dropLast_concat]
      have sm1 : Same H (upd H1 wa (.lst r1.reverse)) := same_fresh nwa sm
      have hp1 : (upd H1 wa (.lst r1.reverse)) pa = some (.lst rs.reverse) := by
        rw [upd_ne nwa']
        exact hp
      -- parts.append(part)
      refine ⟨_, rfl, .inl ⟨rfl, _, SqL.of hp1⟩, _, rfl, pa, _, _, rfl, rfl, hp1, Nat.lt_of_le_of_lt (by simpa using hrl) (by decide), ?_⟩
      have sm2 := same_fresh (o := .lst (rs.reverse ++ [v1])) npa0 sm1
      have hw2 : (upd (upd H1 wa (.lst r1.reverse)) pa (.lst (rs.reverse ++ [v1]))) wa = some (.lst r1.reverse) := by
        rw [upd_ne nwa'.symm, upd_same]
      have hp2 : (upd (upd H1 wa (.lst r1.reverse)) pa (.lst (rs.reverse ++ [v1]))) pa = some (.lst (rs.reverse ++ [v1])) := upd_same
      -- if isinstance(part, (list, tuple))
      refine ⟨_, rfl, by decide, fun tp ntp => ?_⟩
      have t1 : wa ≠ tp := ne_of_none hw2 ntp
      have t2 : pa ≠ tp := ne_of_none hp2 ntp
      have sm3 : Same H (upd (upd (upd H1 wa (.lst r1.reverse)) pa (.lst (rs.reverse ++ [v1]))) tp (.tup [.ty "list", .ty "tuple"])) := sm2.trans (same_upd ntp)
      have hw3 : (upd (upd (upd H1 wa (.lst r1.reverse)) pa (.lst (rs.reverse ++ [v1]))) tp (.tup [.ty "list", .ty "tuple"])) wa = some (.lst r1.reverse) := by
        rw [upd_ne t1]
        exact hw2
      have hp3 : (upd (upd (upd H1 wa (.lst r1.reverse)) pa (.lst (rs.reverse ++ [v1]))) tp (.tup [.ty "list", .ty "tuple"])) pa = some (.lst (rs.reverse ++ [v1])) := by
        rw [upd_ne t2]
        exact hp2
      refine ⟨v1, tp, _, .type (tyD d1), [.type "list", .type "tuple"], _, rfl, upd_same, .cons (.ty _) (.cons (.ty _) .nil), dp_ty (dp_same (sv.trans sm3) _ _ h1), isLT d1 K, _, rfl, ?_⟩
      have er : (v1 :: rs).reverse = rs.reverse ++ [v1] := by simp
      generalize hG : upd (upd (upd H1 wa (.lst r1.reverse)) pa (.lst (rs.reverse ++ [v1]))) tp (.tup [.ty "list", .ty "tuple"]) = G at sm3 hw3 hp3
      -- what the reversed part puts behind
      have go : ∀ (rp : Addr) (o : HO) (xs : List V) (es : List PyData), G rp = none → DpAll K Hv xs es → nd d1 = ndAll es + 1 → Stp K Hv (v1 :: r1, d1 :: rd1) v1 (xs ++ r1, es ++ rd1) →
          ∃ S' : List V × List PyData, Same H (upd (upd G rp o) wa (.lst (r1.reverse ++ xs.reverse))) ∧ (upd (upd G rp o) wa (.lst (r1.reverse ++ xs.reverse))) wa = some (.lst S'.1.reverse) ∧
            (upd (upd G rp o) wa (.lst (r1.reverse ++ xs.reverse))) pa = some (.lst (v1 :: rs).reverse) ∧ DpAll K Hv S'.1 S'.2 ∧ Stp K Hv (v1 :: r1, d1 :: rd1) v1 S' ∧ ndAll S'.2 + 1 = nd d1 + ndAll rd1 := by
        intro rp o xs es nrp hxs hnd hst
        refine ⟨(xs ++ r1, es ++ rd1), same_fresh nwa (sm3.trans (same_upd nrp)), ?_, ?_, DpAll.append hxs h2, hst, ?_⟩
        · rw [upd_same]
          simp
        · rw [upd_ne nwa', upd_ne (ne_of_none hp3 nrp), er]
          exact hp3
        · show ndAll (es ++ rd1) + 1 = _
          rw [ndAll_append]
          omega
      have fit : ∀ (xs : List V) (es : List PyData), DpAll K Hv xs es → nd d1 = ndAll es + 1 → r1.reverse.length + xs.reverse.length ≤ sizeLine := by
        intro xs es hxs hnd
        have e1 := DpAll.length hxs
        have e2 := ndAll_len es
        rw [List.length_reverse, List.length_reverse]
        exact Nat.le_trans (show r1.length + xs.length ≤ 1000000 by omega) (by decide)
      have wne : ∀ {rp : Addr}, G rp = none → wa ≠ rp := fun h => ne_of_none hw3 h
      have leafy : (tyD d1 == "list" || tyD d1 == "tuple") = false → nd d1 = 1 → if (tyD d1 == "list" || tyD d1 == "tuple") = true then False else ∃ S' : List V × List PyData, Same H G ∧ G wa = some (.lst S'.1.reverse) ∧ G pa = some (.lst (v1 :: rs).reverse) ∧ DpAll K Hv S'.1 S'.2 ∧ Stp K Hv (v1 :: r1, d1 :: rd1) v1 S' ∧ ndAll S'.2 + 1 = nd d1 + ndAll rd1 := by
        intro e1 e2
        rw [e1]
        refine iteF ⟨(r1, rd1), sm3, hw3, by rw [er]; exact hp3, h2, .leaf h1 e1, ?_⟩
        show ndAll rd1 + 1 = _
        omega
      cases h1 with
      | non => exact let ⟨S', g⟩ := leafy rfl rfl; ⟨S', rfl, g⟩
      | bl b => exact let ⟨S', g⟩ := leafy rfl rfl; ⟨S', rfl, g⟩
      | int i => exact let ⟨S', g⟩ := leafy rfl rfl; ⟨S', rfl, g⟩
      | str x => exact let ⟨S', g⟩ := leafy rfl rfl; ⟨S', rfl, g⟩
      | @lst a xs es g1 g2 =>
        refine iteT (.inl ?_)
        refine ⟨_, rfl, .inl ⟨rfl, _, SqL.of hw3⟩, _, rfl, a, xs, rfl, (sv.trans sm3).seq g1, fun rp nrp => ?_⟩
        obtain ⟨S', g⟩ := go rp (.lst xs.reverse) xs es nrp g2 rfl (.lst g1 g2)
        exact ⟨wa, rp, _, _, rfl, rfl, by rw [upd_ne (wne nrp)]; exact hw3, upd_same, fit xs es g2 rfl, S', rfl, g⟩
      | @tup a xs es g1 g2 =>
        refine iteT (.inr ?_)
        refine ⟨_, rfl, .inl ⟨rfl, _, SqL.of hw3⟩, _, rfl, a, xs, rfl, same_sqt (sv.trans sm3) g1, fun rp nrp => ?_⟩
        obtain ⟨S', g⟩ := go rp (.tup xs.reverse) xs es nrp g2 rfl (.tup g1 g2)
        exact ⟨wa, rp, _, _, rfl, rfl, by rw [upd_ne (wne nrp)]; exact hw3, .inl (.inl upd_same), fit xs es g2 rfl, S', rfl, g⟩
end
end TX
namespace TX
open PySem PySem.Spec PyProof.Rows L2
/-- what is new behind H, but the place x -/
def newB (H : Hp) (x : Addr) (H' : Hp) : Hp := fun b => if b = x then none else match H b with
  | none => H' b
  | some _ => none
def newp (H H' : Hp) : Hp := fun b => match H b with
  | none => H' b
  | some _ => none
theorem newp_at {H H' : Hp} {b : Addr} (h : H b = none) : newp H H' b = H' b := by
  unfold newp
  rw [h]
theorem newp_old {H H' : Hp} {b : Addr} {o : HO} (h : H b = some o) : newp H H' b = none := by
  unfold newp
  rw [h]
theorem newp_less {H H1 H2 : Hp} (h : Same H H1) : Same (newp H1 H2) (newp H H2) := fun b o e => by
  cases h1 : H1 b with
  | some u =>
    rw [newp_old h1] at e
    cases e
  | none =>
    rw [newp_at h1] at e
    rw [newp_at (h.free h1)]
    exact e
theorem newB_newp {H H' : Hp} {x : Addr} : Same (newB H x H') (newp H H') := fun b o e => by
  unfold newB at e
  by_cases hb : b = x
  · rw [if_pos hb] at e
    cases e
  · rw [if_neg hb] at e
    exact e
theorem newp_same {H H' : Hp} : Same (newp H H') H' := fun b o e => by
  cases h : H b with
  | none =>
    rw [newp_at h] at e
    exact e
  | some u =>
    rw [newp_old h] at e
    cases e
theorem newB_at {H H' : Hp} {x b : Addr} (h : H b = none) (hx : b ≠ x) : newB H x H' b = H' b := by
  unfold newB
  rw [if_neg hx, h]
theorem newB_mono {H H1 H2 : Hp} {x : Addr} (h : ∀ b o, b ≠ x → H1 b = some o → H2 b = some o) : Same (newB H x H1) (newB H x H2) := fun b o e => by
  by_cases hb : b = x
  · unfold newB at e
    rw [if_pos hb] at e
    cases e
  · cases hh : H b with
    | none =>
      rw [newB_at hh hb] at e ⊢
      exact h b o hb e
    | some u =>
      unfold newB at e
      rw [if_neg hb, hh] at e
      cases e
/-- a leaf is data in any heap -/
theorem dp_leaf {K : PySem.W.Frag} {H H' : Hp} {v : V} {d : PyData} (h : Dp K H v d) (e : (tyD d == "list" || tyD d == "tuple") = false) : Dp K H' v d := by
  cases h with
  | non => exact .non
  | bl b => exact .bl b
  | int i => exact .int i
  | str x => exact .str x
  | lst _ _ => simp [tyD] at e
  | tup _ _ => simp [tyD] at e
def spCopy (K : PySem.W.Frag) : Sp := fun vs H Q _ => ∃ (v : V) (d : PyData) (Hv : Hp), vs = [v] ∧ Same Hv H ∧ Dp K Hv v d ∧ nd d ≤ 1000000 ∧
  ∀ (H' : Hp) (v' : V), Same H H' → Dp K (newp H H') v' d → Q v' H'
theorem kit1 (d : PyData) (K : PySem.W.Frag) : PySem.W.kitOne K (.type (tyD d)) (.type "tuple") = some (tyD d == "tuple") := by
  cases d with
  | none => exact (kit_ty (a := "NoneType") (b := "tuple") (r := false) (by decide +kernel)).trans (by simp [tyD])
  | bool _ => exact (kit_ty (a := "bool") (b := "tuple") (r := false) (by decide +kernel)).trans (by simp [tyD])
  | int _ => exact (kit_ty (a := "int") (b := "tuple") (r := false) (by decide +kernel)).trans (by simp [tyD])
  | str _ => exact (kit_ty (a := "str") (b := "tuple") (r := false) (by decide +kernel)).trans (by simp [tyD])
  | list _ => exact (kit_ty (a := "list") (b := "tuple") (r := false) (by decide +kernel)).trans (by simp [tyD])
  | tuple _ => exact (kit_ty (a := "tuple") (b := "tuple") (r := true) (by decide +kernel)).trans (by simp [tyD])
  | dict _ => exact (kit_ty (a := "dict") (b := "tuple") (r := false) (by decide +kernel)).trans (by simp [tyD])
theorem rev_drop {c : List V} {j : Nat} {y : V} (h : c[j]? = some y) : (c.drop j).reverse = (c.drop (j + 1)).reverse ++ [y] := by
  obtain ⟨hj, e⟩ := List.getElem?_eq_some_iff.mp h
  rw [List.drop_eq_getElem_cons hj, e]
  simp
theorem path_count {K : PySem.W.Frag} {Hv : Hp} {S0 : List V × List PyData} : ∀ {rs : List V} {S : List V × List PyData}, Path K Hv S0 rs S → rs.length + ndAll S.2 = ndAll S0.2
  | _, _, .nil => by simp
  | _, _, .cons hP hs => by
    have ih := path_count hP
    cases hs with
    | @leaf v0 d0 r0 rd0 h e =>
      have one : nd d0 = 1 := by
        cases h with
        | non => rfl
        | bl b => rfl
        | int i => rfl
        | str x => rfl
        | lst _ _ => simp [tyD] at e
        | tup _ _ => simp [tyD] at e
      simp only [ndAll, one] at ih
      rw [List.length_cons]
      dsimp only
      omega
    | lst h g =>
      simp only [ndAll, nd] at ih
      rw [List.length_cons, ndAll_append]
      omega
    | tup h g =>
      simp only [ndAll, nd] at ih
      rw [List.length_cons, ndAll_append]
      omega
section
variable {P : Program} {w : World} {K : PySem.W.Frag} {mg : Str → Option Value} {base : Heap}
theorem scCopy : FnScope ["thing", "done", "part", "made", "_"] ["thing"] (defScope sCopy) := ⟨rfl, rfl, rfl, by decide +kernel, rfl, by decide +kernel, by decide +kernel⟩
theorem ok_copy {f fP : Addr} {fd fdP : FuncData} {k : Nat} (F : Fun K "copy_of" "copy_of" sCopy f fd) (T : Nm mg) (FP : Fun K "all_parts" "all_parts" sParts fP fdP) (bP : Binds K fdP ["thing"] []) (gP : mg "all_parts" = some (.ref fP)) :
    FnOk P w K mg base CX0 (k + 2) f fd ["thing"] (spCopy K) := by
  have GP : FnOk P w K mg base CX0 (k + 1) fP fdP ["thing"] (spParts K) := ok_parts FP T
  refine F.ok scCopy (fun vs H Q E h => ?_) (fun cdv A outer s H vs Q E hr h => ?_)
  · obtain ⟨v, d, Hv, rfl, _⟩ := h
    rfl
  · obtain ⟨v, d, Hv, rfl, sv, hd, hn, q⟩ := h
    refine ⟨_, pss_cons (ps_if (pt_not (pt_val (pe_callB call_isiT (by rfl) T.isi (by decide +kernel) (pa_cons (pv 0) (pa_cons (pe_tup (pa_cons (pe_bltn (v := .ty "list") (by rfl) T.lst (by decide +kernel) rfl) (pa_cons (pe_bltn (v := .ty "tuple") (by rfl) T.tpl (by decide +kernel) rfl) pa_nil))) pa_nil))))) (pss_one (ps_ret (pv 0))) pss_nil) <| pss_cons (ps_set (i := 1) scCopy.nd rfl (.inr rfl) (pe_lst pa_nil))
      (pss_cons (ps_for PassesOwn.never rfl (pi_list (pe_revL (pe_call GP hr (by rfl) gP FP.kp bP .nil pass0 (pa_cons (pv 0) pa_nil)))) (pg_name (i := 2) scCopy.nd rfl (.inl rfl))
        (pss_cons (ps_set (i := 3) scCopy.nd rfl (.inl rfl) (pv 2))
        (pss_cons (ps_if (pt_val (pe_callB call_isiT (by rfl) T.isi (by decide +kernel) (pa_cons (pv 2) (pa_cons (pe_tup (pa_cons (pe_bltn (v := .ty "list") (by rfl) T.lst (by decide +kernel) rfl) (pa_cons (pe_bltn (v := .ty "tuple") (by rfl) T.tpl (by decide +kernel) rfl) pa_nil))) pa_nil))))
          (pss_one (ps_alt
            (ps_setLc (i := 3) (own := [("_", 4)]) (g := gName 4) (tt := tYes) (te := tBM0 K "list" rPop (tVar 1)) rfl scCopy.nd rfl rfl (sw_true rfl rfl rfl (by decide +kernel)) (pi_list (pv 2)) (blkOk_by (N := ["thing", "done", "part", "made", "_"]) (sc := defScope sCopy) (by decide +kernel))
              (fun _ _ _ _ _ => pg_name (i := 4) scCopy.nd rfl (Or.inl rfl)) (fun _ _ _ _ _ => pts_nil) (fun _ _ _ _ _ => pe_bm0 PySem.F.plainAttrs_list PySem.F.slot_list_pop PySem.F.type_list_pop mt_pop (pv 1)))
            (ps_setLc (i := 3) (own := [("_", 4)]) (g := gName 4) (tt := tYes) (te := tBM0 K "list" rPop (tVar 1)) rfl scCopy.nd rfl rfl (sw_true rfl rfl rfl (by decide +kernel)) (pi_tup (pv 2)) (blkOk_by (N := ["thing", "done", "part", "made", "_"]) (sc := defScope sCopy) (by decide +kernel))
              (fun _ _ _ _ _ => pg_name (i := 4) scCopy.nd rfl (Or.inl rfl)) (fun _ _ _ _ _ => pts_nil) (fun _ _ _ _ _ => pe_bm0 PySem.F.plainAttrs_list PySem.F.slot_list_pop PySem.F.type_list_pop mt_pop (pv 1)))))
          pss_nil)
        (pss_cons (ps_if (pt_val (pe_callB call_isi (by rfl) T.isi (by decide +kernel) (pa_cons (pv 2) (pa_cons (pe_bltn (v := .ty "tuple") (by rfl) T.tpl (by decide +kernel) rfl) pa_nil))))
          (pss_one (ps_set (i := 3) scCopy.nd rfl (.inl rfl) (pe_callTy call_tuple_of (by rfl) T.tpl (by decide +kernel) (pa_cons (pv 3) pa_nil))))
          pss_nil)
        (pss_one (ps_expr (pe_bm PySem.F.plainAttrs_list PySem.F.slot_list_append PySem.F.type_list_append mt_append (pv 1) (pa_cons (pv 3) pa_nil))))))))
      (pss_one (ps_ret (pe_ix ix_list (pv 1) pe_int (fun _ _ => rfl))))), ?_⟩
    refine ⟨_, rfl, by decide, fun tp0 ntp0 => ?_⟩
    refine ⟨v, tp0, _, .type (tyD d), [.type "list", .type "tuple"], _, rfl, upd_same, .cons (.ty _) (.cons (.ty _) .nil), dp_ty (dp_same (sv.trans (same_upd ntp0)) _ _ hd), isLT d K, _, rfl, ?_⟩
    have q2 : ∀ (H' : Hp) (v' : V), Same (upd H tp0 (.tup [.ty "list", .ty "tuple"])) H' → Dp K (newp (upd H tp0 (.tup [.ty "list", .ty "tuple"])) H') v' d → Q v' H' := fun H' v' e1 e2 => q H' v' ((same_upd ntp0).trans e1) (dp_same (newp_less (same_upd ntp0)) _ _ e2)
    have sv2 : Same Hv (upd H tp0 (.tup [.ty "list", .ty "tuple"])) := sv.trans (same_upd ntp0)
    cases hlt : (tyD d == "list" || tyD d == "tuple") with
    | false =>
      exact iteT ⟨_, rfl, q2 _ _ (fun _ _ e => e) (dp_leaf hd hlt)⟩
    | true =>
    refine iteF ?_
    generalize upd H tp0 (.tup [.ty "list", .ty "tuple"]) = H at sv2 q2
    clear q sv ntp0 tp0
    have sv := sv2
    have q := q2
    refine ⟨by decide, fun da nda => ?_⟩
    -- all_parts(thing)[::-1]
    refine ⟨_, rfl, v, d, Hv, rfl, sv.trans (same_upd nda), hd, hn, fun H1 p rs sm1 np hp hP hlen => ?_⟩
    have hda1 : H1 da = some (.lst []) := sm1 _ _ upd_same
    refine ⟨p, _, rfl, SqL.of hp, fun r nr => ?_⟩
    rw [List.reverse_reverse]
    have rda : da ≠ r := ne_of_none hda1 nr
    have s0 : Same H (upd H1 r (.lst rs)) := ((same_upd nda).trans sm1).trans (same_upd nr)
    have hr0 : H r = none := ((same_upd nda).trans sm1).free nr
    have nda0 : H da = none := nda
    refine ⟨r, rfl, ⟨_, SqL.of upd_same⟩, for_list (K := K) (a := r) (xs := rs) (fun i σ H2 => ∃ (S : List V × List PyData) (cs : List V) (y2 y3 : Option V), σ = [some v, some (.ref da), y2, y3, none] ∧ Same H H2 ∧ H2 r = some (.lst rs) ∧
      Path K Hv ([v], [d]) (rs.drop i) S ∧ H2 da = some (.lst cs.reverse) ∧ DpAll K (newB H da H2) cs S.2) ?_ ?_ ?_ ?_⟩
    · exact ⟨([], []), [], none, none, rfl, s0, upd_same, hP, by rw [upd_ne rda]; exact hda1, .nil⟩
    · rintro i σ H2 hi ⟨S, cs, y2, y3, rfl, _, g, _⟩
      exact SqL.of g
    · rintro i x σ H2 hx ⟨S, cs, y2, y3, rfl, sm, hrs, hPi, hda, hcs⟩
      have edrop : rs.drop i = x :: rs.drop (i + 1) := by
        obtain ⟨hj, e⟩ := List.getElem?_eq_some_iff.mp hx
        rw [List.drop_eq_getElem_cons hj, e]
      rw [edrop] at hPi
      cases hPi with
      | @cons _ S1 _ _ hP1 hst =>
      have cnt := path_count (.cons hP1 hst)
      have cnt0 : ndAll ([d] : List PyData) = nd d := by simp [ndAll]
      have lcs : cs.length ≤ 1000000 := by
        have e1 := DpAll.length hcs
        have e2 := ndAll_len S.2
        have e3 : ndAll (([v], [d]) : List V × List PyData).2 = nd d := cnt0
        omega
      -- the part's data
      obtain ⟨dx, hdx⟩ : ∃ dx, Dp K Hv x dx ∧ ((∃ r1 rd1, S1 = (x :: r1, dx :: rd1) ∧ S = (r1, rd1) ∧ (tyD dx == "list" || tyD dx == "tuple") = false) ∨
          (∃ a xs es r1 rd1, x = .ref a ∧ dx = .list es ∧ SqL K Hv a xs ∧ DpAll K Hv xs es ∧ S1 = (x :: r1, .list es :: rd1) ∧ S = (xs ++ r1, es ++ rd1)) ∨
          (∃ a xs es r1 rd1, x = .ref a ∧ dx = .tuple es ∧ SqT K Hv a xs ∧ DpAll K Hv xs es ∧ S1 = (x :: r1, .tuple es :: rd1) ∧ S = (xs ++ r1, es ++ rd1))) := by
        cases hst with
        | leaf h e => exact ⟨_, h, .inl ⟨_, _, rfl, rfl, e⟩⟩
        | lst h g => exact ⟨_, .lst h g, .inr (.inl ⟨_, _, _, _, _, rfl, rfl, h, g, rfl, rfl⟩)⟩
        | tup h g => exact ⟨_, .tup h g, .inr (.inr ⟨_, _, _, _, _, rfl, rfl, h, g, rfl, rfl⟩)⟩
      obtain ⟨hx1, hcase⟩ := hdx
      -- made = part; isinstance(part, (list, tuple))
      refine ⟨_, rfl, _, rfl, by decide, fun tp ntp => ?_⟩
      have sm3 : Same H (upd H2 tp (.tup [.ty "list", .ty "tuple"])) := sm.trans (same_upd ntp)
      have hda3 : (upd H2 tp (.tup [.ty "list", .ty "tuple"])) da = some (.lst cs.reverse) := same_upd ntp _ _ hda
      have hrs3 : (upd H2 tp (.tup [.ty "list", .ty "tuple"])) r = some (.lst rs) := same_upd ntp _ _ hrs
      have hcs3 : DpAll K (newB H da (upd H2 tp (.tup [.ty "list", .ty "tuple"]))) cs S.2 := dpAll_same (newB_mono fun b o _ e => same_upd ntp b o e) _ _ hcs
      refine ⟨x, tp, _, .type (tyD dx), [.type "list", .type "tuple"], _, rfl, upd_same, .cons (.ty _) (.cons (.ty _) .nil), dp_ty (dp_same (sv.trans sm3) _ _ hx1), isLT dx K, _, rfl, ?_⟩
      generalize upd H2 tp (.tup [.ty "list", .ty "tuple"]) = G at sm3 hda3 hrs3 hcs3
      rcases hcase with ⟨r1, rd1, rfl, rfl, e⟩ | ⟨a, xs, es, r1, rd1, rfl, rfl, g1, g2, rfl, rfl⟩ | ⟨a, xs, es, r1, rd1, rfl, rfl, g1, g2, rfl, rfl⟩
      · rw [e]
        refine iteF ?_
        have e2 : (tyD dx == "tuple") = false := (Bool.or_eq_false_iff.mp e).2
        refine ⟨_, rfl, x, .ty "tuple", .type (tyD dx), .type "tuple", _, rfl, .ty _, dp_ty (dp_leaf hx1 e), kit1 dx K, _, rfl, ?_⟩
        rw [e2]
        refine iteF ?_
        refine ⟨_, rfl, .inl ⟨rfl, _, SqL.of hda3⟩, _, rfl, da, _, _, rfl, rfl, hda3, Nat.lt_of_le_of_lt (by simpa using lcs) (by decide), ?_⟩
        refine ⟨_, x :: cs, _, _, rfl, same_fresh nda0 sm3, by rw [upd_ne rda.symm]; exact hrs3, hP1, ?_, ?_⟩
        · rw [upd_same]
          simp
        · exact .cons (dp_leaf hx1 e) (dpAll_same (newB_mono fun b o hb e => by rw [upd_ne hb]; exact e) _ _ hcs3)
      · obtain ⟨c1, c2, rfl, hc1, hc2⟩ := DpAll.split hcs3
        have hxl : xs.length = c1.length := (DpAll.length g2).trans (DpAll.length hc1).symm
        refine iteT (.inl ?_)
        refine ⟨_, rfl, a, rfl, ⟨_, (sv.trans sm3).seq g1⟩, fun D nD => lc_list (K := K) (a := a) (xs := xs) (fun j H4 => H4 da = some (.lst (c2.reverse ++ (c1.drop j).reverse)) ∧ H4 D = some (.lst (c1.take j)) ∧ ∀ b o, b ≠ da → b ≠ D → G b = some o → H4 b = some o) ?_ ?_ ?_ ?_⟩
        · have ne : da ≠ D := ne_of_none hda3 nD
          refine ⟨?_, upd_same, fun b o _ hb e => by rw [upd_ne hb]; exact e⟩
          rw [upd_ne ne, hda3]
          simp
        · rintro j H4 hj ⟨_, _, kp⟩
          have nDH : H D = none := sm3.free nD
          exact Same.seq (fun b o e => kp b o (ne_of_none e nda0) (ne_of_none e nDH) (sm3 b o e)) (sv.seq g1)
        · rintro j y H4 hy ⟨k1, k2, kp⟩
          have ne : da ≠ D := ne_of_none hda3 nD
          have hjl : j < c1.length := by
            have := (List.getElem?_eq_some_iff.mp hy).1
            omega
          have hcj : c1[j]? = some c1[j] := List.getElem?_eq_getElem hjl
          rw [rev_drop hcj, ← List.append_assoc] at k1
          refine ⟨rfl, .ref da, rfl, .inl ⟨rfl, _, SqL.of k1⟩, da, _, c1[j], rfl, rfl, k1, by simp, ?_⟩
          rw [List.dropLast_concat]
          refine ⟨c1.take j, by rw [upd_ne ne.symm]; exact k2, ?_, ?_, ?_, fun b o h1 h2 e => ?_⟩
          · refine Nat.lt_of_le_of_lt (show (c1.take j).length ≤ 1000000 from ?_) (by decide)
            rw [List.length_append] at lcs
            have := List.length_take_le j c1
            omega
          · rw [upd_ne ne, upd_same]
          · rw [upd_same, List.take_add_one, hcj]
            rfl
          · rw [upd_ne h2, upd_ne h1]
            exact kp b o h1 h2 e
        · rintro H4 ⟨k1, k2, kp⟩
          have ne : da ≠ D := ne_of_none hda3 nD
          have nDH : H D = none := sm3.free nD
          have sm4 : Same H H4 := fun b o e => kp b o (ne_of_none e nda0) (ne_of_none e nDH) (sm3 b o e)
          have rD : r ≠ D := ne_of_none hrs3 nD
          have hr4 : H4 r = some (.lst rs) := kp r _ rda.symm rD hrs3
          rw [hxl] at k1 k2
          rw [List.drop_length, List.reverse_nil, List.append_nil] at k1
          rw [List.take_length] at k2
          have mono4 : Same (newB H da G) (newB H da H4) := fun b o e => by
            by_cases hb : b = da
            · unfold newB at e
              rw [if_pos hb] at e
              cases e
            · cases hh : H b with
              | some u =>
                unfold newB at e
                rw [if_neg hb, hh] at e
                cases e
              | none =>
                rw [newB_at hh hb] at e ⊢
                exact kp b o hb (ne_of_none e nD) e
          have hd4 : DpAll K (newB H da H4) c1 es := dpAll_same mono4 _ _ hc1
          have hd5 : DpAll K (newB H da H4) c2 rd1 := dpAll_same mono4 _ _ hc2
          have hD4 : (newB H da H4) D = some (.lst c1) := by
            rw [newB_at nDH ne.symm]
            exact k2
          have hc1l : c1.length ≤ 1000000 ∧ c2.length ≤ 1000000 := by
            rw [List.length_append] at lcs
            omega
          refine ⟨_, rfl, .ref a, .ty "tuple", .type "list", .type "tuple", _, rfl, .ty _, dp_ty (d := .list es) (.lst (Same.seq sm4 (sv.seq g1)) (dpAll_same (sv.trans sm4) _ _ g2)), kit1 (.list es) K, _, rfl, ?_⟩
          refine iteF ?_
          refine ⟨_, rfl, .inl ⟨rfl, _, SqL.of k1⟩, _, rfl, da, _, _, rfl, rfl, k1, Nat.lt_of_le_of_lt (by simpa using hc1l.2) (by decide), ?_⟩
          refine ⟨_, .ref D :: c2, _, _, rfl, same_fresh nda0 sm4, by rw [upd_ne rda.symm]; exact hr4, hP1, ?_, ?_⟩
          · rw [upd_same]
            simp
          · have up : Same (newB H da H4) (newB H da (upd H4 da (.lst (c2.reverse ++ [.ref D])))) := newB_mono fun b o hb e => by
              rw [upd_ne hb]
              exact e
            exact .cons (.lst (SqL.of (up _ _ hD4)) (dpAll_same up _ _ hd4)) (dpAll_same up _ _ hd5)
      · obtain ⟨c1, c2, rfl, hc1, hc2⟩ := DpAll.split hcs3
        have hxl : xs.length = c1.length := (DpAll.length g2).trans (DpAll.length hc1).symm
        refine iteT (.inr ?_)
        refine ⟨_, rfl, a, rfl, ⟨_, same_sqt (sv.trans sm3) g1⟩, fun D nD => lc_tup (K := K) (a := a) (xs := xs) (fun j H4 => H4 da = some (.lst (c2.reverse ++ (c1.drop j).reverse)) ∧ H4 D = some (.lst (c1.take j)) ∧ ∀ b o, b ≠ da → b ≠ D → G b = some o → H4 b = some o) ?_ ?_ ?_ ?_⟩
        · have ne : da ≠ D := ne_of_none hda3 nD
          refine ⟨?_, upd_same, fun b o _ hb e => by rw [upd_ne hb]; exact e⟩
          rw [upd_ne ne, hda3]
          simp
        · rintro j H4 hj ⟨_, _, kp⟩
          have nDH : H D = none := sm3.free nD
          exact same_sqt (fun b o e => kp b o (ne_of_none e nda0) (ne_of_none e nDH) (sm3 b o e)) (same_sqt sv g1)
        · rintro j y H4 hy ⟨k1, k2, kp⟩
          have ne : da ≠ D := ne_of_none hda3 nD
          have hjl : j < c1.length := by
            have := (List.getElem?_eq_some_iff.mp hy).1
            omega
          have hcj : c1[j]? = some c1[j] := List.getElem?_eq_getElem hjl
          rw [rev_drop hcj, ← List.append_assoc] at k1
          refine ⟨rfl, .ref da, rfl, .inl ⟨rfl, _, SqL.of k1⟩, da, _, c1[j], rfl, rfl, k1, by simp, ?_⟩
          rw [List.dropLast_concat]
          refine ⟨c1.take j, by rw [upd_ne ne.symm]; exact k2, ?_, ?_, ?_, fun b o h1 h2 e => ?_⟩
          · refine Nat.lt_of_le_of_lt (show (c1.take j).length ≤ 1000000 from ?_) (by decide)
            rw [List.length_append] at lcs
            have := List.length_take_le j c1
            omega
          · rw [upd_ne ne, upd_same]
          · rw [upd_same, List.take_add_one, hcj]
            rfl
          · rw [upd_ne h2, upd_ne h1]
            exact kp b o h1 h2 e
        · rintro H4 ⟨k1, k2, kp⟩
          have ne : da ≠ D := ne_of_none hda3 nD
          have nDH : H D = none := sm3.free nD
          have sm4 : Same H H4 := fun b o e => kp b o (ne_of_none e nda0) (ne_of_none e nDH) (sm3 b o e)
          have rD : r ≠ D := ne_of_none hrs3 nD
          have hr4 : H4 r = some (.lst rs) := kp r _ rda.symm rD hrs3
          rw [hxl] at k1 k2
          rw [List.drop_length, List.reverse_nil, List.append_nil] at k1
          rw [List.take_length] at k2
          have mono4 : Same (newB H da G) (newB H da H4) := fun b o e => by
            by_cases hb : b = da
            · unfold newB at e
              rw [if_pos hb] at e
              cases e
            · cases hh : H b with
              | some u =>
                unfold newB at e
                rw [if_neg hb, hh] at e
                cases e
              | none =>
                rw [newB_at hh hb] at e ⊢
                exact kp b o hb (ne_of_none e nD) e
          have hd4 : DpAll K (newB H da H4) c1 es := dpAll_same mono4 _ _ hc1
          have hd5 : DpAll K (newB H da H4) c2 rd1 := dpAll_same mono4 _ _ hc2
          have hD4 : (newB H da H4) D = some (.lst c1) := by
            rw [newB_at nDH ne.symm]
            exact k2
          have hc1l : c1.length ≤ 1000000 ∧ c2.length ≤ 1000000 := by
            rw [List.length_append] at lcs
            omega
          refine ⟨_, rfl, .ref a, .ty "tuple", .type "tuple", .type "tuple", _, rfl, .ty _, dp_ty (d := .tuple es) (.tup (same_sqt sm4 (same_sqt sv g1)) (dpAll_same (sv.trans sm4) _ _ g2)), kit1 (.tuple es) K, _, rfl, ?_⟩
          refine iteT ?_
          -- made = tuple(made)
          refine ⟨_, rfl, D, c1, rfl, .inl ⟨SqL.of k2, fun tq ntq => ?_⟩⟩
          have nq : H tq = none := sm4.free ntq
          have dq : da ≠ tq := ne_of_none k1 ntq
          have rq : r ≠ tq := ne_of_none hr4 ntq
          have k5 : (upd H4 tq (.tup c1)) da = some (.lst c2.reverse) := by
            rw [upd_ne dq]
            exact k1
          refine ⟨_, rfl, .inl ⟨rfl, _, SqL.of k5⟩, _, rfl, da, _, _, rfl, rfl, k5, Nat.lt_of_le_of_lt (by simpa using hc1l.2) (by decide), ?_⟩
          refine ⟨_, .ref tq :: c2, _, _, rfl, same_fresh nda0 (sm4.trans (same_upd ntq)), by rw [upd_ne rda.symm, upd_ne rq]; exact hr4, hP1, ?_, ?_⟩
          · rw [upd_same]
            simp
          · have up : Same (newB H da H4) (newB H da (upd (upd H4 tq (.tup c1)) da (.lst (c2.reverse ++ [.ref tq])))) := newB_mono fun b o hb e => by
              rw [upd_ne hb, upd_ne (ne_of_none e ntq)]
              exact e
            have at_ : (newB H da (upd (upd H4 tq (.tup c1)) da (.lst (c2.reverse ++ [.ref tq])))) tq = some (.tup c1) := by
              rw [newB_at nq dq.symm, upd_ne dq.symm, upd_same]
            exact .cons (.tup (SqT.of at_) (dpAll_same up _ _ hd4)) (dpAll_same up _ _ hd5)
    · rintro σ H2 ⟨S, cs, y2, y3, rfl, sm, hrs, hPi, hda, hcs⟩
      rw [List.drop_length] at hPi
      cases hPi
      cases hcs with
      | @cons c1 _ _ _ h1 h2 =>
        cases h2
        refine ⟨_, rfl, da, [c1], 0, c1, rfl, rfl, SqL.of hda, atI_nat (j := 0) rfl, ?_⟩
        exact q H2 c1 sm (dp_same newB_newp _ _ h1)
end
end TX
namespace TX
open PySem PySem.Spec PyProof.Rows L2
structure Nb (mg : Str → Option Value) : Prop where
  len : mg "len" = none
  abs : mg "abs" = none
  enum : mg "enumerate" = none
  int : mg "int" = none
/-- a bag of draws: two ints -/
def BagAt (H : Hp) (p : Addr) : Prop := ∃ x y : Int, H p = some (.lst [.int x, .int y])
def spBag (K : PySem.W.Frag) : Sp := fun vs H Q _ => ∃ (a : Addr) (ns : List Int) (at_ : Nat), vs = [.ref a, .int at_] ∧ SqL K H a (ns.map V.int) ∧ ns.length ≤ 63 ∧
  ∀ (H' : Hp) (p : Addr), Same H H' → H p = none → BagAt H' p → Q (.ref p) H'
def spTake : Sp := fun vs H Q _ => ∃ (p : Addr) (m : Int), vs = [.ref p, .int m] ∧ BagAt H p ∧ 0 < m ∧ m ≤ 1000000 ∧
  ∀ (x y d : Int), 0 ≤ d → d < m → Q (.int d) (upd H p (.lst [.int x, .int y]))
section
variable {P : Program} {w : World} {K : PySem.W.Frag} {mg : Str → Option Value} {base : Heap}
theorem scBag : FnScope ["_law_script", "_law_at", "_law_cell", "_law_mixed", "_law_place", "_law_each"] ["_law_script", "_law_at"] (defScope sBag) := ⟨rfl, rfl, rfl, by decide +kernel, rfl, by decide +kernel, by decide +kernel⟩
theorem ok_bag {f : Addr} {fd : FuncData} {k : Nat} (F : Fun K "_law_bag" "_law_bag" sBag f fd) (T : Nb mg) : FnOk P w K mg base CX0 (k + 1) f fd ["_law_script", "_law_at"] (spBag K) := by
  refine F.ok scBag (fun vs H Q E h => ?_) (fun cdv A outer s H vs Q E hr h => ?_)
  · obtain ⟨a, ns, i, rfl, _⟩ := h
    rfl
  · obtain ⟨a, ns, i, rfl, hS, hn, q⟩ := h
    refine ⟨_, pss_cons (ps_par (i := 2) (j := 3) rfl scBag.nd rfl rfl (by decide) rfl rfl
        (pa_cons (pe_ifExp (pt_cmpR op_lt (pv 1) (pe_callB call_len_seq (by rfl) T.len PySem.boot_len (pa_cons (pv 0) pa_nil)) (nomark _)) (pe_callB call_abs (by rfl) T.abs (by decide +kernel) (pa_cons (pe_ix ix_list (pv 0) (pv 1) (fun _ _ => rfl)) pa_nil)) pe_int)
          (pa_cons (pe_op op_add (pe_op op_mul pe_int (pv 1)) pe_int) pa_nil)) (by rfl))
      (pss_cons (ps_for PassesOwn.never rfl (pi_enum (by rfl) T.enum (pa_cons (pe_slice sl_list (pv 0) po_none (po_some pe_int)) pa_nil))
          (pg_tup rfl (pgs_cons (pg_name (i := 4) scBag.nd rfl (.inl rfl)) (pgs_cons (pg_name (i := 5) scBag.nd rfl (.inl rfl)) pgs_nil)))
        (pss_one (ps_set (i := 3) scBag.nd rfl (.inl rfl) (pe_op op_mod (pe_callTy call_int1 (by rfl) T.int (by decide +kernel)
          (pa_cons (pe_op op_add (pe_op op_add (pe_op op_mul (pv 3) pe_int) (pe_op op_mod (pe_callTy call_int1 (by rfl) T.int (by decide +kernel) (pa_cons (pv 5) pa_nil)) pe_int)) (pe_op op_mul pe_int (pv 4))) pa_nil)) pe_int))))
      (pss_one (ps_ret (pe_lst (pa_cons (pe_ifExp (pt_cmpR op_ge (pv 2) (pe_op op_pow pe_int pe_int) (nomark _)) (pv 2) pe_int) (pa_cons (pv 3) pa_nil)))))), ?_⟩
    refine ⟨_, rfl, _, rfl, a, _, rfl, .inl hS, _, _, rfl, rfl, _, rfl, ?_⟩
    have cut63 : ∀ x ∈ cutV (ns.map V.int) none (some 63), ∃ z, x = V.int z := by
      intro x hx
      unfold cutV at hx
      obtain ⟨z, _, e⟩ := List.mem_map.mp (List.mem_of_mem_drop (List.mem_of_mem_take hx))
      exact ⟨z, e.symm⟩
    generalize hC : cutV (ns.map V.int) none (some 63) = C at *
    refine ite2 (fun hlt => ?_) (fun hge => ?_)
    · have hlt' : i < ns.length := by
        have e := of_decide_eq_true hlt
        rw [List.length_map] at e
        omega
      refine ⟨_, rfl, _, rfl, a, _, _, .int ns[i], rfl, rfl, hS, atI_nat (by rw [List.getElem?_map, List.getElem?_eq_getElem hlt']; rfl), _, rfl, ?_⟩
      refine ⟨_, rfl, _, _, rfl, rfl, .inl ⟨by decide, by decide⟩, _, _, rfl, rfl, _, _, rfl, ?_⟩
      refine ⟨_, rfl, 63, rfl, a, _, rfl, hS, fun c nc => ?_⟩
      have nc0 : H c = none := nc
      refine ⟨c, C, rfl, SqL.of (by rw [upd_same, hC]), fun j m σ H3 => ∃ (y3 : Int) (y4 y5 : Option V), σ = [some (.ref a), some (.int i), some (.int (if ns[i] < 0 then -ns[i] else ns[i])), some (.int y3), y4, y5] ∧ j + m = C.length ∧ Same H H3 ∧ H3 c = some (.lst C),
        ⟨C.length, _, none, none, rfl, by omega, same_upd nc, by rw [upd_same, hC]⟩, fun j m σ H3 hW => ?_⟩
      obtain ⟨y3, y4, y5, rfl, ejm, sm, hc⟩ := hW
      by_cases hj : j < C.length
      · refine .inr ⟨⟨_, _, SqL.of hc, List.getElem?_eq_getElem hj⟩, fun σ' H' => ∃ (y3 : Int) (y4 y5 : Option V), σ' = [some (.ref a), some (.int i), some (.int (if ns[i] < 0 then -ns[i] else ns[i])), some (.int y3), y4, y5] ∧ Same H H' ∧ H' c = some (.lst C), fun σ' H' hN => ?_, fun x H' hy => ?_⟩
        · obtain ⟨z3, z4, z5, e, sm', hc'⟩ := hN
          exact ⟨m - 1, by omega, z3, z4, z5, e, by omega, sm', hc'⟩
        · obtain ⟨tp, x1, rfl, nT, rfl, f1⟩ := hy
          have g1 := f1 _ (SqL.of hc)
          obtain ⟨z, rfl⟩ := cut63 x1 (List.mem_of_getElem? g1)
          have hcT : (upd H3 tp (.tup [.int (j : Nat), .int z])) c = some (.lst C) := same_upd nT _ _ hc
          refine ⟨tp, _, rfl, SqT.of upd_same, rfl, _, _, rfl, _, _, rfl, rfl, ?_⟩
          refine ⟨_, rfl, _, _, rfl, rfl, .inr ⟨by decide, by decide⟩, _, rfl, .inl ⟨_, rfl, _, _, rfl, rfl, (by show (0 : Int) < 2147483629; decide), _, _, rfl, rfl, _, rfl, _, _, rfl, rfl, .inl ⟨by decide, by decide⟩, _, _, rfl, rfl, ?_⟩⟩
          refine .inl ⟨_, rfl, _, _, rfl, rfl, (by show (0 : Int) < 2147483647; decide), ?_⟩
          exact ⟨_, _, _, rfl, sm.trans (same_upd nT), hcT⟩
      · refine .inl ⟨⟨_, SqL.of hc, by omega⟩, ?_⟩
        refine ⟨_, rfl, _, _, rfl, rfl, ⟨by decide, by decide, by decide⟩, _, _, rfl, rfl, _, rfl, ?_⟩
        refine ite2 (fun _ => ?_) (fun _ => ?_)
        all_goals
          first
            | refine ⟨_, rfl, _, rfl, (by show 2 ≤ sizeLine; decide), fun p np => ?_⟩
            | refine ⟨_, rfl, (by show 2 ≤ sizeLine; decide), fun p np => ?_⟩
          exact q _ p (sm.trans (same_upd np)) (sm.free np) ⟨_, _, upd_same⟩
    · refine ⟨_, rfl, _, _, rfl, rfl, .inl ⟨by decide, by decide⟩, _, _, rfl, rfl, _, _, rfl, ?_⟩
      refine ⟨_, rfl, 63, rfl, a, _, rfl, hS, fun c nc => ?_⟩
      have nc0 : H c = none := nc
      refine ⟨c, C, rfl, SqL.of (by rw [upd_same, hC]), fun j m σ H3 => ∃ (y3 : Int) (y4 y5 : Option V), σ = [some (.ref a), some (.int i), some (.int 0), some (.int y3), y4, y5] ∧ j + m = C.length ∧ Same H H3 ∧ H3 c = some (.lst C),
        ⟨C.length, _, none, none, rfl, by omega, same_upd nc, by rw [upd_same, hC]⟩, fun j m σ H3 hW => ?_⟩
      obtain ⟨y3, y4, y5, rfl, ejm, sm, hc⟩ := hW
      by_cases hj : j < C.length
      · refine .inr ⟨⟨_, _, SqL.of hc, List.getElem?_eq_getElem hj⟩, fun σ' H' => ∃ (y3 : Int) (y4 y5 : Option V), σ' = [some (.ref a), some (.int i), some (.int 0), some (.int y3), y4, y5] ∧ Same H H' ∧ H' c = some (.lst C), fun σ' H' hN => ?_, fun x H' hy => ?_⟩
        · obtain ⟨z3, z4, z5, e, sm', hc'⟩ := hN
          exact ⟨m - 1, by omega, z3, z4, z5, e, by omega, sm', hc'⟩
        · obtain ⟨tp, x1, rfl, nT, rfl, f1⟩ := hy
          have g1 := f1 _ (SqL.of hc)
          obtain ⟨z, rfl⟩ := cut63 x1 (List.mem_of_getElem? g1)
          have hcT : (upd H3 tp (.tup [.int (j : Nat), .int z])) c = some (.lst C) := same_upd nT _ _ hc
          refine ⟨tp, _, rfl, SqT.of upd_same, rfl, _, _, rfl, _, _, rfl, rfl, ?_⟩
          refine ⟨_, rfl, _, _, rfl, rfl, .inr ⟨by decide, by decide⟩, _, rfl, .inl ⟨_, rfl, _, _, rfl, rfl, (by show (0 : Int) < 2147483629; decide), _, _, rfl, rfl, _, rfl, _, _, rfl, rfl, .inl ⟨by decide, by decide⟩, _, _, rfl, rfl, ?_⟩⟩
          refine .inl ⟨_, rfl, _, _, rfl, rfl, (by show (0 : Int) < 2147483647; decide), ?_⟩
          exact ⟨_, _, _, rfl, sm.trans (same_upd nT), hcT⟩
      · refine .inl ⟨⟨_, SqL.of hc, by omega⟩, ?_⟩
        refine ⟨_, rfl, _, _, rfl, rfl, ⟨by decide, by decide, by decide⟩, _, _, rfl, rfl, _, rfl, ?_⟩
        refine ite2 (fun _ => ?_) (fun _ => ?_)
        all_goals
          first
            | refine ⟨_, rfl, _, rfl, (by show 2 ≤ sizeLine; decide), fun p np => ?_⟩
            | refine ⟨_, rfl, (by show 2 ≤ sizeLine; decide), fun p np => ?_⟩
          exact q _ p (sm.trans (same_upd np)) (sm.free np) ⟨_, _, upd_same⟩
theorem scTake : FnScope ["_law_bag_here", "_law_many", "_law_digit"] ["_law_bag_here", "_law_many"] (defScope sTake) := ⟨rfl, rfl, rfl, by decide +kernel, rfl, by decide +kernel, by decide +kernel⟩
theorem ok_take {f : Addr} {fd : FuncData} {k : Nat} (F : Fun K "_law_take" "_law_take" sTake f fd) (T : Nb mg) : FnOk P w K mg base CX0 (k + 1) f fd ["_law_bag_here", "_law_many"] spTake := by
  refine F.ok scTake (fun vs H Q E h => ?_) (fun cdv A outer s H vs Q E hr h => ?_)
  · obtain ⟨p, m, rfl, _⟩ := h
    rfl
  · obtain ⟨p, m, rfl, ⟨x, y, hp⟩, hm, hm2, q⟩ := h
    refine ⟨_, pss_cons (ps_if (pt_cmpR op_gt (pe_ix ix_list (pv 0) pe_int (fun _ _ => rfl)) pe_int (nomark _))
        (pss_cons (ps_set (i := 2) scTake.nd rfl (.inl rfl) (pe_op op_mod (pe_callTy call_int1 (by rfl) T.int (by decide +kernel) (pa_cons (pe_ix ix_list (pv 0) pe_int (fun _ _ => rfl)) pa_nil)) (pv 1)))
        (pss_cons (ps_asg (pe_op op_fdiv (pe_ix ix_list (pv 0) pe_int (fun _ _ => rfl)) (pv 1)) (pg_sub (pv 0) pe_int set_list))
        (pss_one (ps_ret (pv 2))))) pss_nil)
      (pss_cons (ps_asg (pe_op op_mod (pe_callTy call_int1 (by rfl) T.int (by decide +kernel) (pa_cons (pe_op op_add (pe_op op_mul (pe_ix ix_list (pv 0) pe_int (fun _ _ => rfl)) pe_int) pe_int) pa_nil)) pe_int) (pg_sub (pv 0) pe_int set_list))
      (pss_one (ps_ret (pe_op op_mod (pe_op op_fdiv (pe_op op_mod (pe_callTy call_int1 (by rfl) T.int (by decide +kernel) (pa_cons (pe_op op_mul (pe_op op_fdiv (pe_ix ix_list (pv 0) pe_int (fun _ _ => rfl)) pe_int) pe_int) pa_nil)) pe_int) pe_int) (pv 1))))), ?_⟩
    have i0 : atI [V.int x, V.int y] 0 = some (.int x) := atI_nat (j := 0) rfl
    have i1 : atI [V.int x, V.int y] 1 = some (.int y) := atI_nat (j := 1) rfl
    refine ⟨_, rfl, p, _, 0, _, rfl, rfl, SqL.of hp, i0, _, _, rfl, rfl, _, rfl, ?_⟩
    refine ite2 (fun hx => ?_) (fun hx => ?_)
    · refine ⟨_, rfl, p, _, 0, _, rfl, rfl, SqL.of hp, i0, .inl ⟨_, rfl, _, rfl, _, _, rfl, rfl, hm, ?_⟩⟩
      refine ⟨_, rfl, p, _, 0, _, rfl, rfl, SqL.of hp, i0, _, rfl, _, _, rfl, rfl, ⟨hm, by omega⟩, ?_⟩
      refine ⟨_, rfl, p, _, 0, 0, rfl, rfl, hp, rfl, ?_⟩
      refine ⟨_, rfl, ?_⟩
      exact q _ _ _ (Int.emod_nonneg _ (by omega)) (Int.emod_lt_of_pos _ hm)
    · refine ⟨_, rfl, p, _, 1, _, rfl, rfl, SqL.of hp, i1, _, _, rfl, rfl, .inr ⟨by decide, by decide⟩, _, _, rfl, rfl, .inl ⟨_, rfl, _, _, rfl, rfl, (by show (0 : Int) < 2147483629; decide), ?_⟩⟩
      refine ⟨_, rfl, p, _, 1, 1, rfl, rfl, hp, rfl, ?_⟩
      refine ⟨_, rfl, p, _, 1, _, rfl, rfl, SqL.of upd_same, atI_nat (j := 1) rfl, _, _, rfl, rfl, ⟨by decide, by decide⟩, _, _, rfl, rfl, .inr ⟨by decide, by decide⟩, .inl ⟨_, rfl, _, _, rfl, rfl, (by show (0 : Int) < 2147483587; decide), ?_⟩⟩
      refine ⟨_, _, rfl, rfl, ⟨by decide, by decide⟩, _, rfl, _, _, rfl, rfl, hm, ?_⟩
      exact q _ _ _ (Int.emod_nonneg _ (by omega)) (Int.emod_lt_of_pos _ hm)
end
end TX
namespace TX
open PySem PySem.Spec PyProof.Rows L2
/-! ### values as data -/
def Lt (z : Str) : Prop := ∀ c ∈ z.cps.toList, 97 ≤ c ∧ c ≤ 122
mutual
def valD : PyData → Prop
  | .none => True
  | .str x => Lt x
  | .list xs => valAll xs
  | _ => False
def valAll : List PyData → Prop
  | [] => True
  | d :: ds => valD d ∧ valAll ds
end
mutual
def sz : PyData → Nat
  | .str x => x.length + 1
  | .list xs => szAll xs + 1
  | _ => 1
def szAll : List PyData → Nat
  | [] => 0
  | d :: ds => sz d + szAll ds
end
theorem szAll_append : ∀ (a b : List PyData), szAll (a ++ b) = szAll a + szAll b
  | [], b => by simp [szAll]
  | d :: a, b => by
    rw [List.cons_append, szAll, szAll, szAll_append a b]
    omega
theorem valAll_append : ∀ (a b : List PyData), valAll (a ++ b) ↔ valAll a ∧ valAll b
  | [], b => by simp [valAll]
  | d :: a, b => by
    rw [List.cons_append, valAll, valAll, valAll_append a b]
    exact ⟨fun ⟨x, y, z⟩ => ⟨⟨x, y⟩, z⟩, fun ⟨⟨x, y⟩, z⟩ => ⟨x, y, z⟩⟩
theorem depthAll_append : ∀ (a b : List PyData), PyData.depthAll (a ++ b) = max (PyData.depthAll a) (PyData.depthAll b)
  | [], b => by simp [PyData.depthAll]
  | d :: a, b => by
    rw [List.cons_append, PyData.depthAll, PyData.depthAll, depthAll_append a b]
    omega
theorem DpAll.get {K : PySem.W.Frag} {H : Hp} : ∀ {ds : List PyData} {vs : List V} {i : Nat} {v : V}, DpAll K H vs ds → vs[i]? = some v → ∃ d, ds[i]? = some d ∧ Dp K H v d
  | [], _, i, v, h, e => by
    cases h
    simp at e
  | d :: ds, _, 0, v, h, e => by
    cases h with
    | cons h1 h2 =>
      simp at e
      subst e
      exact ⟨d, rfl, h1⟩
  | d :: ds, _, i + 1, v, h, e => by
    cases h with
    | cons h1 h2 =>
      obtain ⟨d', e1, e2⟩ := DpAll.get (ds := ds) (i := i) h2 (by simpa using e)
      exact ⟨d', by simpa using e1, e2⟩
theorem val_get : ∀ {ds : List PyData} {i : Nat} {d : PyData}, valAll ds → ds[i]? = some d → valD d
  | [], i, d, h, e => by simp at e
  | x :: ds, 0, d, h, e => by
    simp at e
    subst e
    exact h.1
  | x :: ds, i + 1, d, h, e => val_get h.2 (by simpa using e)
theorem depth_get : ∀ {ds : List PyData} {i : Nat} {d : PyData}, ds[i]? = some d → d.depth ≤ PyData.depthAll ds
  | [], i, d, e => by simp at e
  | x :: ds, 0, d, e => by
    simp at e
    subst e
    simp only [PyData.depthAll]
    omega
  | x :: ds, i + 1, d, e => by
    have := depth_get (ds := ds) (i := i) (d := d) (by simpa using e)
    simp only [PyData.depthAll]
    omega
theorem sz_get : ∀ {ds : List PyData} {i : Nat} {d : PyData}, ds[i]? = some d → sz d ≤ szAll ds
  | [], i, d, e => by simp at e
  | x :: ds, 0, d, e => by
    simp at e
    subst e
    simp only [szAll]
    omega
  | x :: ds, i + 1, d, e => by
    have := sz_get (ds := ds) (i := i) (d := d) (by simpa using e)
    simp only [szAll]
    omega
theorem szAll_sum : ∀ ds : List PyData, ((ds.map fun d => ((sz d : Nat) : Int)).sum : Int) = ((szAll ds : Nat) : Int)
  | [] => rfl
  | d :: ds => by
    rw [List.map_cons, List.sum_cons, szAll_sum ds, szAll]
    omega
theorem szAll_len : ∀ ds : List PyData, ds.length ≤ szAll ds
  | [] => by simp
  | d :: ds => by
    have := szAll_len ds
    have h1 : 1 ≤ sz d := by cases d <;> simp [sz]
    rw [szAll, List.length_cons]
    omega
/-! ### isinstance against one built-in type -/
theorem kitL (d : PyData) (K : PySem.W.Frag) : PySem.W.kitOne K (.type (tyD d)) (.type "list") = some (tyD d == "list") := by
  cases d with
  | none => exact (kit_ty (a := "NoneType") (b := "list") (r := false) (by decide +kernel)).trans (by simp [tyD])
  | bool _ => exact (kit_ty (a := "bool") (b := "list") (r := false) (by decide +kernel)).trans (by simp [tyD])
  | int _ => exact (kit_ty (a := "int") (b := "list") (r := false) (by decide +kernel)).trans (by simp [tyD])
  | str _ => exact (kit_ty (a := "str") (b := "list") (r := false) (by decide +kernel)).trans (by simp [tyD])
  | list _ => exact (kit_ty (a := "list") (b := "list") (r := true) (by decide +kernel)).trans (by simp [tyD])
  | tuple _ => exact (kit_ty (a := "tuple") (b := "list") (r := false) (by decide +kernel)).trans (by simp [tyD])
  | dict _ => exact (kit_ty (a := "dict") (b := "list") (r := false) (by decide +kernel)).trans (by simp [tyD])
theorem kitS (d : PyData) (K : PySem.W.Frag) : PySem.W.kitOne K (.type (tyD d)) (.type "str") = some (tyD d == "str") := by
  cases d with
  | none => exact (kit_ty (a := "NoneType") (b := "str") (r := false) (by decide +kernel)).trans (by simp [tyD])
  | bool _ => exact (kit_ty (a := "bool") (b := "str") (r := false) (by decide +kernel)).trans (by simp [tyD])
  | int _ => exact (kit_ty (a := "int") (b := "str") (r := false) (by decide +kernel)).trans (by simp [tyD])
  | str _ => exact (kit_ty (a := "str") (b := "str") (r := true) (by decide +kernel)).trans (by simp [tyD])
  | list _ => exact (kit_ty (a := "list") (b := "str") (r := false) (by decide +kernel)).trans (by simp [tyD])
  | tuple _ => exact (kit_ty (a := "tuple") (b := "str") (r := false) (by decide +kernel)).trans (by simp [tyD])
  | dict _ => exact (kit_ty (a := "dict") (b := "str") (r := false) (by decide +kernel)).trans (by simp [tyD])
structure Nv (mg : Str → Option Value) : Prop where
  range : mg "range" = none
  sum : mg "sum" = none
  min : mg "min" = none
/-! ### _law_text -/
def spText : Sp := fun vs H Q _ => ∃ (p : Addr) (m : Int), vs = [.ref p, .int m] ∧ BagAt H p ∧ 0 ≤ m ∧ m ≤ 1000 ∧
  ∀ (H' : Hp) (z : Str), (∀ b o, b ≠ p → H b = some o → H' b = some o) → BagAt H' p → Lt z → (z.length : Int) ≤ m → Q (.str z) H'
theorem lt_append {a b : Str} (h : Lt a) (g : Lt b) : Lt (a ++ b) := by
  intro c hc
  have e : (a ++ b).cps.toList = a.cps.toList ++ b.cps.toList := by
    show (a.cps ++ b.cps).toList = _
    simp
  rw [e] at hc
  rcases List.mem_append.mp hc with x | x
  · exact h c x
  · exact g c x
section
variable {P : Program} {w : World} {K : PySem.W.Frag} {mg : Str → Option Value} {base : Heap}
theorem scText : FnScope ["_law_bag_here", "_law_most", "_law_word", "_law_signs", "_law_turn"] ["_law_bag_here", "_law_most"] (defScope sText) := ⟨rfl, rfl, rfl, by decide +kernel, rfl, by decide +kernel, by decide +kernel⟩
theorem ok_text {f fT : Addr} {fd fdT : FuncData} (F : Fun K "_law_text" "_law_text" sText f fd) (B : Nb mg) (N : Nv mg) (FT : Fun K "_law_take" "_law_take" sTake fT fdT) (bT : Binds K fdT ["_law_bag_here", "_law_many"] []) (gT : mg "_law_take" = some (.ref fT)) :
    FnOk P w K mg base CX0 2 f fd ["_law_bag_here", "_law_most"] spText := by
  have GT : FnOk P w K mg base CX0 1 fT fdT ["_law_bag_here", "_law_many"] spTake := ok_take FT B
  refine F.ok scText (fun vs H Q E h => ?_) (fun cdv A outer s H vs Q E hr h => ?_)
  · obtain ⟨p, m, rfl, _⟩ := h
    rfl
  · obtain ⟨p, m, rfl, bag, hm0, hm1, q⟩ := h
    refine ⟨_, pss_cons (ps_par (i := 2) (j := 3) rfl scText.nd rfl rfl (by decide) rfl rfl (pa_cons pe_str (pa_cons (pe_ix ix_list (pe_lst (pa_cons pe_str (pa_cons pe_str (pa_cons pe_str pa_nil)))) (pe_call GT hr (by rfl) gT FT.kp bT .nil pass0 (pa_cons (pv 0) (pa_cons pe_int pa_nil))) (fun _ _ => rfl)) pa_nil)) (by rfl))
      (pss_cons (ps_for PassesOwn.never rfl (pi_range1 (by rfl) N.range (pa_cons (pe_call GT hr (by rfl) gT FT.kp bT .nil pass0 (pa_cons (pv 0) (pa_cons (pe_op op_add (pv 1) pe_int) pa_nil))) pa_nil)) (pg_name (i := 4) scText.nd rfl (.inl rfl))
        (pss_one (ps_set (i := 2) scText.nd rfl (.inl rfl) (pe_op op_add_str (pv 2) (pe_ix ix_str (pv 3) (pe_call GT hr (by rfl) gT FT.kp bT .nil pass0 (pa_cons (pv 0) (pa_cons (pe_callB call_len_str (by rfl) B.len PySem.boot_len (pa_cons (pv 3) pa_nil)) pa_nil))) (fun _ _ => rfl))))))
      (pss_one (ps_ret (pv 2)))), ?_⟩
    refine ⟨(by show 3 ≤ sizeLine; decide), fun l nl => ?_⟩
    have bag1 : BagAt (upd H l (.lst [.str "abcdefghijklmnopqrstuvwxyz", .str "ab", .str "za"])) p := let ⟨x, y, e⟩ := bag; ⟨x, y, same_upd nl _ _ e⟩
    have lp : l ≠ p := fun e => by
      obtain ⟨x, y, e2⟩ := bag
      rw [e, e2] at nl
      cases nl
    refine ⟨_, rfl, p, 3, rfl, bag1, by decide, by decide, fun x1 y1 k hk0 hk1 => ?_⟩
    have hl : (upd (upd H l (.lst [.str "abcdefghijklmnopqrstuvwxyz", .str "ab", .str "za"])) p (.lst [.int x1, .int y1])) l = some (.lst [.str "abcdefghijklmnopqrstuvwxyz", .str "ab", .str "za"]) := by
      rw [upd_ne lp, upd_same]
    have kp : ∀ b o, b ≠ p → H b = some o → (upd (upd H l (.lst [.str "abcdefghijklmnopqrstuvwxyz", .str "ab", .str "za"])) p (.lst [.int x1, .int y1])) b = some o := fun b o hb e => by
      rw [upd_ne hb]
      exact same_upd nl _ _ e
    have bag2 : BagAt (upd (upd H l (.lst [.str "abcdefghijklmnopqrstuvwxyz", .str "ab", .str "za"])) p (.lst [.int x1, .int y1])) p := ⟨_, _, upd_same⟩
    generalize upd (upd H l (.lst [.str "abcdefghijklmnopqrstuvwxyz", .str "ab", .str "za"])) p (.lst [.int x1, .int y1]) = G at hl kp bag2
    obtain ⟨sg, hsg, hat⟩ : ∃ sg : Str, (0 < sg.length ∧ sg.length ≤ 26 ∧ Lt sg) ∧ atI ([.str "abcdefghijklmnopqrstuvwxyz", .str "ab", .str "za"] : List V) k = some (.str sg) := by
      obtain rfl | rfl | rfl : k = 0 ∨ k = 1 ∨ k = 2 := by omega
      · exact ⟨"abcdefghijklmnopqrstuvwxyz", ⟨by decide +kernel, by decide +kernel, by unfold Lt; decide +kernel⟩, atI_nat (j := 0) rfl⟩
      · exact ⟨"ab", ⟨by decide +kernel, by decide +kernel, by unfold Lt; decide +kernel⟩, atI_nat (j := 1) rfl⟩
      · exact ⟨"za", ⟨by decide +kernel, by decide +kernel, by unfold Lt; decide +kernel⟩, atI_nat (j := 2) rfl⟩
    refine ⟨l, _, k, _, rfl, rfl, SqL.of hl, hat, _, _, rfl, ?_⟩
    refine ⟨_, rfl, _, rfl, _, _, rfl, rfl, p, m + 1, rfl, bag2, by omega, by omega, fun x2 y2 t ht0 ht1 => ?_⟩
    refine ⟨t, rfl, by omega, by omega, for_range (lo := 0) (n := t.toNat) (fun i σ H2 => ∃ (z : Str) (y4 : Option V), σ = [some (.ref p), some (.int m), some (.str z), some (.str sg), y4] ∧ (∀ b o, b ≠ p → H b = some o → H2 b = some o) ∧ BagAt H2 p ∧ Lt z ∧ z.length = i) ?_ ?_ ?_⟩
    · refine ⟨"", none, rfl, fun b o hb e => by rw [upd_ne hb]; exact kp b o hb e, ⟨_, _, upd_same⟩, by unfold Lt; decide +kernel, by decide +kernel⟩
    · rintro i σ H2 hi ⟨z, y4, rfl, k2, b2, lz, ez⟩
      have hsl : sg.length ≤ sizeLine := Nat.le_trans hsg.2.1 (by decide)
      refine ⟨_, rfl, _, rfl, _, rfl, _, rfl, sg, rfl, hsl, p, (sg.length : Int), rfl, b2, by omega, by omega, fun x3 y3 c hc0 hc1 => ?_⟩
      obtain ⟨j, rfl⟩ : ∃ j : Nat, c = j := ⟨c.toNat, by omega⟩
      have hjl : j < sg.cps.toList.length := by
        have e : sg.cps.toList.length = sg.length := by simp [Str.length]
        omega
      have hcj : sg.cps.toList[j]? = some sg.cps.toList[j] := List.getElem?_eq_getElem hjl
      have lone : Lt ⟨#[sg.cps.toList[j]]⟩ := by
        intro c hc
        have e : c = sg.cps.toList[j] := by simpa using hc
        rw [e]
        exact hsg.2.2 _ (List.getElem_mem hjl)
      have one : (⟨#[sg.cps.toList[j]]⟩ : Str).length = 1 := rfl
      refine ⟨sg, _, _, rfl, rfl, hsl, atI_nat hcj, _, _, rfl, rfl, ?_, ?_⟩
      · rw [one, ez]
        exact Nat.le_trans (show i + 1 ≤ 2000 by omega) (by decide)
      · refine ⟨_, _, rfl, fun b o hb e => by rw [upd_ne hb]; exact k2 b o hb e, ⟨_, _, upd_same⟩, lt_append lz lone, ?_⟩
        rw [strLen_append, one, ez]
    · rintro σ H2 ⟨z, y4, rfl, k2, b2, lz, ez⟩
      exact ⟨_, rfl, q H2 z k2 b2 lz (by omega)⟩
/-! ### _law_size: one level more for each depth -/
def spSize (K : PySem.W.Frag) (N : Nat) : Sp := fun vs H Q _ => ∃ (v : V) (d : PyData) (Hv : Hp), vs = [v] ∧ Same Hv H ∧ Dp K Hv v d ∧ valD d ∧ d.depth ≤ N ∧ sz d ≤ 1000000 ∧ ∀ H', Same H H' → Q (.int (sz d : Nat)) H'
theorem scSize : FnScope ["_law_value_here", "_law_one"] ["_law_value_here"] (defScope sSize) := ⟨rfl, rfl, rfl, by decide +kernel, rfl, by decide +kernel, by decide +kernel⟩
/-- what is no list: one, or one more than the letters -/
theorem val_leaf {K : PySem.W.Frag} {H : Hp} {v : V} {d : PyData} (h : Dp K H v d) (hv : valD d) (e : (tyD d == "list") = false) : (v = .non ∧ d = .none) ∨ ∃ x, v = .str x ∧ d = .str x := by
  cases h with
  | non => exact .inl ⟨rfl, rfl⟩
  | str x => exact .inr ⟨x, rfl, rfl⟩
  | bl _ => exact hv.elim
  | int _ => exact hv.elim
  | lst _ _ => simp [tyD] at e
  | tup _ _ => exact hv.elim
theorem ok_size {f : Addr} {fd : FuncData} (F : Fun K "_law_size" "_law_size" sSize f fd) (T : Nm mg) (B : Nb mg) (Y : Nv mg) (b : Binds K fd ["_law_value_here"] []) (g : mg "_law_size" = some (.ref f)) : ∀ N : Nat, FnOk P w K mg base CX0 (N + 1) f fd ["_law_value_here"] (spSize K N)
  | 0 => by
    refine F.ok scSize (fun vs H Q E h => ?_) (fun cdv A outer s H vs Q E hr h => ?_)
    · obtain ⟨v, d, Hv, rfl, _⟩ := h
      rfl
    · obtain ⟨v, d, Hv, rfl, sv, hd, hv, hz, hn, q⟩ := h
      refine ⟨_, pss_cons (ps_if (pt_val (pe_callB call_isi (by rfl) T.isi (by decide +kernel) (pa_cons (pv 0) (pa_cons (pe_bltn (v := .ty "list") (by rfl) T.lst (by decide +kernel) rfl) pa_nil)))) pss_never pss_nil)
        (pss_one (ps_ret (pe_ifExp (pt_cmp (pc_isN (pv 0))) pe_int (pe_op op_add pe_int (pe_callB call_len_str (by rfl) B.len PySem.boot_len (pa_cons (pv 0) pa_nil)))))), ?_⟩
      refine ⟨_, rfl, v, .ty "list", .type (tyD d), .type "list", _, rfl, .ty _, dp_ty (dp_same sv _ _ hd), kitL d K, _, rfl, ?_⟩
      have e : (tyD d == "list") = false := by
        cases hd with
        | lst _ _ => simp [PyData.depth] at hz
        | _ => simp [tyD]
      rw [e]
      refine iteF ?_
      rcases val_leaf hd hv e with ⟨rfl, rfl⟩ | ⟨x, rfl, rfl⟩
      · exact ⟨_, rfl, _, rfl, iteT (q H (Same.refl _))⟩
      · refine ⟨_, rfl, _, rfl, iteF ⟨_, rfl, x, rfl, Nat.le_trans (show x.length ≤ 1000000 by simp only [sz] at hn; omega) (by decide), _, _, rfl, rfl, ?_⟩⟩
        have e2 : (1 : Int) + ((x.length : Nat) : Int) = ((sz (.str x) : Nat) : Int) := by simp only [sz]; omega
        show Q (.int (1 + ((x.length : Nat) : Int))) H
        rw [e2]
        exact q H (Same.refl _)
  | N + 1 => by
    have G := ok_size F T B Y b g N
    refine F.ok scSize (fun vs H Q E h => ?_) (fun cdv A outer s H vs Q E hr h => ?_)
    · obtain ⟨v, d, Hv, rfl, _⟩ := h
      rfl
    · obtain ⟨v, d, Hv, rfl, sv, hd, hv, hz, hn, q⟩ := h
      refine ⟨_, pss_cons (ps_if (pt_val (pe_callB call_isi (by rfl) T.isi (by decide +kernel) (pa_cons (pv 0) (pa_cons (pe_bltn (v := .ty "list") (by rfl) T.lst (by decide +kernel) rfl) pa_nil))))
          (pss_one (ps_ret (pe_op op_add pe_int (pe_callB (cr_sum rfl) (by rfl) Y.sum (by decide +kernel) (pa_cons (pe_lc (own := [("_law_one", 1)]) (g := gName 1) (tt := tYes) (te := tCall (spSize K N) [] E0 (tCons (tVar 1) tNil)) rfl scSize.nd (pi_list (pv 0))
            (blkOk_by (own := [("_law_one", 1)]) (N := ["_law_value_here", "_law_one"]) (sc := defScope sSize) (by decide +kernel)) (fun _ _ _ _ _ => pg_name (i := 1) scSize.nd rfl (Or.inl rfl)) (fun _ _ _ _ _ => pts_nil)
            (fun _ _ _ _ _ => pe_call G hr (by rfl) g F.kp b .nil pass0 (pa_cons (pv 1) pa_nil))) pa_nil))))) pss_nil)
        (pss_one (ps_ret (pe_ifExp (pt_cmp (pc_isN (pv 0))) pe_int (pe_op op_add pe_int (pe_callB call_len_str (by rfl) B.len PySem.boot_len (pa_cons (pv 0) pa_nil)))))), ?_⟩
      refine ⟨_, rfl, v, .ty "list", .type (tyD d), .type "list", _, rfl, .ty _, dp_ty (dp_same sv _ _ hd), kitL d K, _, rfl, ?_⟩
      by_cases e : (tyD d == "list") = true
      · rw [e]
        refine iteT ?_
        cases hd with
        | @lst a xs es h1 h2 =>
          have hl : xs.length = es.length := DpAll.length h2
          have hvs : valAll es := hv
          have hz2 : PyData.depthAll es ≤ N := by
            simp only [PyData.depth] at hz
            omega
          have hn2 : szAll es + 1 ≤ 1000000 := by simpa only [sz] using hn
          refine ⟨_, rfl, a, rfl, ⟨_, sv.seq h1⟩, fun D nD => lc_list (K := K) (a := a) (xs := xs) (fun i H' => H' D = some (.lst ((es.take i).map fun e => V.int ((sz e : Nat) : Int))) ∧ Same H H') ⟨upd_same, same_upd nD⟩ (fun i H' hi ⟨_, sm⟩ => sm.seq (sv.seq h1)) ?_ ?_⟩
          · rintro i x H' hx ⟨k1, k2⟩
            obtain ⟨ei, hei, dei⟩ := DpAll.get h2 hx
            refine ⟨rfl, x, rfl, x, ei, Hv, rfl, sv.trans k2, dei, val_get hvs hei, Nat.le_trans (depth_get hei) hz2, Nat.le_trans (sz_get hei) (by omega), fun H'' s2 => ?_⟩
            have il := (List.getElem?_eq_some_iff.mp hei).1
            have el := szAll_len es
            refine ⟨_, s2 _ _ k1, Nat.lt_of_le_of_lt (show ((es.take i).map fun e => V.int ((sz e : Nat) : Int)).length ≤ 1000000 by rw [List.length_map, List.length_take]; omega) (by decide), ?_, same_fresh nD (k2.trans s2)⟩
            rw [upd_same, List.take_add_one, hei, List.map_append]
            rfl
          · rintro H' ⟨k1, k2⟩
            rw [hl, List.take_length] at k1
            have k1' : H' D = some (.lst ((es.map fun e => ((sz e : Nat) : Int)).map V.int)) := by
              rw [k1, List.map_map]
              rfl
            refine ⟨D, _, rfl, SqL.of k1', _, _, rfl, rfl, ?_⟩
            have e2 : (1 : Int) + (es.map fun e => ((sz e : Nat) : Int)).sum = ((sz (.list es) : Nat) : Int) := by
              rw [szAll_sum, sz]
              omega
            show Q (.int (1 + (es.map fun e => ((sz e : Nat) : Int)).sum)) H'
            rw [e2]
            exact q H' k2
        | _ => simp [tyD] at e
      · have e' : (tyD d == "list") = false := by simpa using e
        rw [e']
        refine iteF ?_
        rcases val_leaf hd hv e' with ⟨rfl, rfl⟩ | ⟨x, rfl, rfl⟩
        · exact ⟨_, rfl, _, rfl, iteT (q H (Same.refl _))⟩
        · refine ⟨_, rfl, _, rfl, iteF ⟨_, rfl, x, rfl, Nat.le_trans (show x.length ≤ 1000000 by simp only [sz] at hn; omega) (by decide), _, _, rfl, rfl, ?_⟩⟩
          have e2 : (1 : Int) + ((x.length : Nat) : Int) = ((sz (.str x) : Nat) : Int) := by simp only [sz]; omega
          show Q (.int (1 + ((x.length : Nat) : Int))) H
          rw [e2]
          exact q H (Same.refl _)
end
end TX
namespace TX
open PySem PySem.Spec PyProof.Rows L2
theorem eqT {n m : Int} {A B : Prop} (h : n = m) (a : A) : if decide (V.int n = V.int m) = true then A else B := by
  rw [h, decide_eq_true rfl]
  exact iteT a
theorem eqF {n m : Int} {A B : Prop} (h : n ≠ m) (b : B) : if decide (V.int n = V.int m) = true then A else B := by
  rw [decide_eq_false fun e => h (V.int.inj e)]
  exact iteF b
theorem ltT {n m : Int} {A B : Prop} (h : n < m) (a : A) : if decide (n < m) = true then A else B := by
  rw [decide_eq_true h]
  exact iteT a
theorem ltF {n m : Int} {A B : Prop} (h : ¬ n < m) (b : B) : if decide (n < m) = true then A else B := by
  rw [decide_eq_false h]
  exact iteF b
/-! ### _law_value -/
def spValue (K : PySem.W.Frag) (N : Nat) : Sp := fun vs H Q _ => ∃ (p : Addr) (deep room : Nat), vs = [.ref p, .int deep, .int room] ∧ BagAt H p ∧ deep ≤ N ∧ 1 ≤ room ∧ room ≤ 1000 ∧
  ∀ (H' : Hp) (v : V) (d : PyData), (∀ b o, b ≠ p → H b = some o → H' b = some o) → BagAt H' p → Dp K (newp H H') v d → valD d → d.depth ≤ deep → sz d ≤ room → Q v H'
theorem szAll_snoc (ds : List PyData) (d : PyData) : szAll (ds ++ [d]) = szAll ds + sz d := by
  rw [szAll_append]
  simp [szAll]
section
variable {P : Program} {w : World} {K : PySem.W.Frag} {mg : Str → Option Value} {base : Heap}
theorem scValue : FnScope ["_law_bag_here", "_law_deep", "_law_room", "_law_pick", "_law_made", "_law_left", "_law_turn"] ["_law_bag_here", "_law_deep", "_law_room"] (defScope sValue) := ⟨rfl, rfl, rfl, by decide +kernel, rfl, by decide +kernel, by decide +kernel⟩
/-- what value calls -/
structure Vc (P : Program) (w : World) (K : PySem.W.Frag) (mg : Str → Option Value) (base : Heap) (fT fX fS : Addr) (dT dX dS : FuncData) : Prop where
  GT : FnOk P w K mg base CX0 1 fT dT ["_law_bag_here", "_law_many"] spTake
  bT : Binds K dT ["_law_bag_here", "_law_many"] []
  gT : mg "_law_take" = some (.ref fT)
  kT : PySem.W.keepIn K (.ref fT) = true
  GX : FnOk P w K mg base CX0 2 fX dX ["_law_bag_here", "_law_most"] spText
  bX : Binds K dX ["_law_bag_here", "_law_most"] []
  gX : mg "_law_text" = some (.ref fX)
  kX : PySem.W.keepIn K (.ref fX) = true
  GS : ∀ N : Nat, FnOk P w K mg base CX0 (N + 1) fS dS ["_law_value_here"] (spSize K N)
  bS : Binds K dS ["_law_value_here"] []
  gS : mg "_law_size" = some (.ref fS)
  kS : PySem.W.keepIn K (.ref fS) = true
theorem pe_ex {X : Cx} {i : Type} {e : Expr} {t : i → TE} (h : ∀ j, PE X e (t j)) : PE X e (fun σ H Q => ∃ j, t j σ H Q) := ⟨fun pins s σ H Q I ⟨j, q⟩ => (h j).run pins s σ H Q I q⟩
theorem ok_value {f fT fX fS : Addr} {fd dT dX dS : FuncData} (F : Fun K "_law_value" "_law_value" sValue f fd) (b : Binds K fd ["_law_bag_here", "_law_deep", "_law_room"] []) (g : mg "_law_value" = some (.ref f)) (Y : Nv mg) (C : Vc P w K mg base fT fX fS dT dX dS) (N : Nat)
    (G : ∀ j : { M : Nat // M + 1 = N }, FnOk P w K mg base CX0 (j.1 + 3) f fd ["_law_bag_here", "_law_deep", "_law_room"] (spValue K j.1)) : FnOk P w K mg base CX0 (N + 3) f fd ["_law_bag_here", "_law_deep", "_law_room"] (spValue K N) := by
  refine F.ok scValue (fun vs H Q E h => ?_) (fun cdv A outer s H vs Q E hr h => ?_)
  · obtain ⟨p, deep, room, rfl, _⟩ := h
    rfl
  · obtain ⟨p, deep, room, rfl, bag, hdN, hr1, hr2, q⟩ := h
    have hrT : Room 1 _ := hr.mono (by omega)
    have hrX : Room 2 _ := hr.mono (by omega)
    have hrS : Room (N + 1) _ := hr.mono (by omega)
    have hrR : ∀ j : { M : Nat // M + 1 = N }, Room (j.1 + 3) _ := fun j => hr.mono (by have := j.2; omega)
    refine ⟨_, pss_cons (ps_set (i := 3) scValue.nd rfl (.inl rfl) (pe_call C.GT hrT (by rfl) C.gT C.kT C.bT .nil pass0 (pa_cons (pv 0) (pa_cons pe_int pa_nil))))
      (pss_cons (ps_if (PW.pt (pw_or (pt_cmpR op_eq (pv 3) pe_int (nomark _)) (pw_or1 (pt_cmpR op_eq (pv 2) pe_int (nomark _)))))
        (pss_one (ps_ret (pe_ix ix_list (pe_lst (pa_cons pe_non (pa_cons pe_str (pa_cons (pe_lst pa_nil) pa_nil)))) (pe_call C.GT hrT (by rfl) C.gT C.kT C.bT .nil pass0 (pa_cons (pv 0) (pa_cons (pe_ifExp (pt_cmpR op_gt (pv 1) pe_int (nomark _)) pe_int pe_int) pa_nil))) (fun _ _ => rfl)))) pss_nil)
      (pss_cons (ps_if (PW.pt (pw_or (pt_cmpR op_eq (pv 3) pe_int (nomark _)) (pw_or1 (pt_cmpR op_eq (pv 1) pe_int (nomark _)))))
        (pss_one (ps_ret (pe_call C.GX hrX (by rfl) C.gX C.kX C.bX .nil pass0 (pa_cons (pv 0) (pa_cons (pe_callB (call_min2 rfl) (by rfl) Y.min (by decide +kernel) (pa_cons pe_int (pa_cons (pe_op op_sub (pv 2) pe_int) pa_nil))) pa_nil))))) pss_nil)
      (pss_cons (ps_par (i := 4) (j := 5) rfl scValue.nd rfl rfl (by decide) rfl rfl (pa_cons (pe_lst pa_nil) (pa_cons (pe_op op_sub (pv 2) pe_int) pa_nil)) (by rfl))
      (pss_cons (ps_for PassesOwn.never rfl (pi_range1 (by rfl) Y.range (pa_cons (pe_call C.GT hrT (by rfl) C.gT C.kT C.bT .nil pass0 (pa_cons (pv 0) (pa_cons pe_int pa_nil))) pa_nil)) (pg_name (i := 6) scValue.nd rfl (.inl rfl))
        (pss_one (ps_if (pt_cmpR op_gt (pv 5) pe_int (nomark _))
          (pss_cons (ps_expr (pe_bm PySem.F.plainAttrs_list PySem.F.slot_list_append PySem.F.type_list_append mt_append (pv 4) (pa_cons (pe_ex fun j => pe_call (G j) (hrR j) (by rfl) g F.kp b .nil pass0 (pa_cons (pv 0) (pa_cons (pe_op op_sub (pv 1) pe_int) (pa_cons (pv 5) pa_nil)))) pa_nil)))
          (pss_one (ps_set (i := 5) scValue.nd rfl (.inl rfl) (pe_op op_sub (pv 5) (pe_call (C.GS N) hrS (by rfl) C.gS C.kS C.bS .nil pass0 (pa_cons (pe_ix ix_list (pv 4) (pe_un un_neg pe_int) (fun _ _ => rfl)) pa_nil)))))) pss_nil)))
      (pss_one (ps_ret (pv 4))))))), ?_⟩
    refine ⟨_, rfl, p, 5, rfl, bag, by decide, by decide, fun x1 y1 k hk0 hk1 => ?_⟩
    have kp : ∀ b o, b ≠ p → H b = some o → upd H p (.lst [.int x1, .int y1]) b = some o := fun b o hb e => by
      rw [upd_ne hb]
      exact e
    have bag1 : BagAt (upd H p (.lst [.int x1, .int y1])) p := ⟨_, _, upd_same⟩
    have keepAll : ∀ b, H b ≠ none → upd H p (.lst [.int x1, .int y1]) b ≠ none := fun b hb => by
      by_cases e : b = p
      · rw [e, upd_same]
        exact fun z => nomatch z
      · rw [upd_ne e]
        exact hb
    have pH : H p ≠ none := by
      obtain ⟨x, y, e⟩ := bag
      rw [e]
      exact fun z => nomatch z
    generalize upd H p (.lst [.int x1, .int y1]) = G1 at kp bag1 keepAll
    have newOf : ∀ {b : Addr}, G1 b = none → H b = none := fun {b} e => Classical.byContradiction fun hb => keepAll b hb e
    -- the first return: one of three small things
    have small : (tRet (tOp (rIxL K) (tLst (tCons (tC .non) (tCons (tC (.str "")) (tCons (tLst tNil) tNil)))) (tCall spTake [] E0 (tCons (tVar 0) (tCons (tIf (tTest (tOp (rI0 fun i j => .bl (decide (j < i))) (tVar 1) (tC (.int 0)))) (tC (.int 3)) (tC (.int 2))) tNil))))) { nx := fun _ H' => Q .non H', rt := Q } [some (.ref p), some (.int deep), some (.int room), some (.int k), none, none, none] G1 := by
      refine ⟨Nat.zero_le _, fun l0 n0 => ⟨(by show 3 ≤ sizeLine; decide), fun l n => ?_⟩⟩
      have b2 : BagAt (upd (upd G1 l0 (.lst [])) l (.lst [.non, .str "", .ref l0])) p := let ⟨x, y, e⟩ := bag1; ⟨x, y, same_upd n _ _ (same_upd n0 _ _ e)⟩
      have p0 : p ≠ l0 := fun e => by
        obtain ⟨x, y, e2⟩ := bag1
        rw [← e, e2] at n0
        cases n0
      have p1 : p ≠ l := fun e => by
        obtain ⟨x, y, e2⟩ := bag1
        have e3 := same_upd n0 (o := .lst []) _ _ e2
        rw [e, n] at e3
        cases e3
      have l01 : l0 ≠ l := fun e => by
        rw [← e, upd_same] at n
        cases n
      refine ⟨_, rfl, _, rfl, _, _, rfl, rfl, _, rfl, ?_⟩
      by_cases hd0 : (0 : Int) < (deep : Int)
      · refine ltT hd0 ?_
        refine ⟨p, 3, rfl, b2, by decide, by decide, fun x2 y2 c hc0 hc1 => ?_⟩
        have hl : (upd (upd (upd G1 l0 (.lst [])) l (.lst [.non, .str "", .ref l0])) p (.lst [.int x2, .int y2])) l = some (.lst [.non, .str "", .ref l0]) := by
          rw [upd_ne p1.symm, upd_same]
        have hl0 : (upd (upd (upd G1 l0 (.lst [])) l (.lst [.non, .str "", .ref l0])) p (.lst [.int x2, .int y2])) l0 = some (.lst []) := by
          rw [upd_ne p0.symm, upd_ne l01, upd_same]
        have k2 : ∀ b o, b ≠ p → H b = some o → (upd (upd (upd G1 l0 (.lst [])) l (.lst [.non, .str "", .ref l0])) p (.lst [.int x2, .int y2])) b = some o := fun b o hb e => by
          rw [upd_ne hb]
          exact same_upd n _ _ (same_upd n0 _ _ (kp b o hb e))
        have b3 : BagAt (upd (upd (upd G1 l0 (.lst [])) l (.lst [.non, .str "", .ref l0])) p (.lst [.int x2, .int y2])) p := ⟨_, _, upd_same⟩
        obtain rfl | rfl | rfl : c = 0 ∨ c = 1 ∨ c = 2 := by omega
        · exact ⟨l, _, 0, _, rfl, rfl, SqL.of hl, atI_nat (j := 0) rfl, q _ _ .none k2 b3 .non trivial (by simp [PyData.depth]) (by simpa [sz] using hr1)⟩
        · exact ⟨l, _, 1, _, rfl, rfl, SqL.of hl, atI_nat (j := 1) rfl, q _ _ (.str "") k2 b3 (.str _) (by show Lt ""; unfold Lt; decide +kernel) (by simp [PyData.depth]) (by simp only [sz]; exact hr1)⟩
        · refine ⟨l, _, 2, _, rfl, rfl, SqL.of hl, atI_nat (j := 2) rfl, q _ _ (.list []) k2 b3 (.lst (SqL.of ?_) .nil) trivial (by simp [PyData.depth, PyData.depthAll]; omega) (by simp [sz, szAll]; exact hr1)⟩
          rw [newp_at (newOf n0)]
          exact hl0
      · refine ltF hd0 ?_
        refine ⟨p, 2, rfl, b2, by decide, by decide, fun x2 y2 c hc0 hc1 => ?_⟩
        have hl : (upd (upd (upd G1 l0 (.lst [])) l (.lst [.non, .str "", .ref l0])) p (.lst [.int x2, .int y2])) l = some (.lst [.non, .str "", .ref l0]) := by
          rw [upd_ne p1.symm, upd_same]
        have hl0 : (upd (upd (upd G1 l0 (.lst [])) l (.lst [.non, .str "", .ref l0])) p (.lst [.int x2, .int y2])) l0 = some (.lst []) := by
          rw [upd_ne p0.symm, upd_ne l01, upd_same]
        have k2 : ∀ b o, b ≠ p → H b = some o → (upd (upd (upd G1 l0 (.lst [])) l (.lst [.non, .str "", .ref l0])) p (.lst [.int x2, .int y2])) b = some o := fun b o hb e => by
          rw [upd_ne hb]
          exact same_upd n _ _ (same_upd n0 _ _ (kp b o hb e))
        have b3 : BagAt (upd (upd (upd G1 l0 (.lst [])) l (.lst [.non, .str "", .ref l0])) p (.lst [.int x2, .int y2])) p := ⟨_, _, upd_same⟩
        obtain rfl | rfl : c = 0 ∨ c = 1 := by omega
        · exact ⟨l, _, 0, _, rfl, rfl, SqL.of hl, atI_nat (j := 0) rfl, q _ _ .none k2 b3 .non trivial (by simp [PyData.depth]) (by simpa [sz] using hr1)⟩
        · exact ⟨l, _, 1, _, rfl, rfl, SqL.of hl, atI_nat (j := 1) rfl, q _ _ (.str "") k2 b3 (.str _) (by show Lt ""; unfold Lt; decide +kernel) (by simp [PyData.depth]) (by simp only [sz]; exact hr1)⟩
    refine ⟨_, rfl, rfl, _, rfl, ?_⟩
    by_cases e0 : k = 0
    · exact eqT e0 (iteT small)
    refine eqF e0 ⟨_, rfl, rfl, _, rfl, ?_⟩
    by_cases er : (room : Int) = 1
    · exact eqT er small
    refine eqF er ?_
    -- a text
    have text : (tRet (tCall spText [] E0 (tCons (tVar 0) (tCons (tCB (fun xs H Q => ∃ i j, xs = [.int i, .int j] ∧ Q (.int (if j < i then j else i)) H) (tCons (tC (.int 4)) (tCons (tOp (rI0 fun i j => .int (i - j)) (tVar 2) (tC (.int 1))) tNil))) tNil)))) { nx := fun _ H' => Q .non H', rt := Q } [some (.ref p), some (.int deep), some (.int room), some (.int k), none, none, none] G1 := by
      refine ⟨_, rfl, _, rfl, _, _, rfl, rfl, _, _, rfl, p, _, rfl, bag1, ?_, ?_, fun H' z k2 b2 lz hz => ?_⟩
      · split <;> omega
      · split <;> omega
      · refine q H' (.str z) (.str z) (fun b o hb e => k2 b o hb (kp b o hb e)) b2 (.str z) lz (by simp [PyData.depth]) ?_
        simp only [sz]
        split at hz <;> omega
    refine ⟨_, rfl, rfl, _, rfl, ?_⟩
    by_cases e1 : k = 1
    · exact eqT e1 (iteT text)
    refine eqF e1 ⟨_, rfl, rfl, _, rfl, ?_⟩
    by_cases ed : (deep : Int) = 0
    · exact eqT ed text
    refine eqF ed ?_
    clear small text
    obtain ⟨M, rfl⟩ : ∃ M, deep = M + 1 := ⟨deep - 1, by omega⟩
    -- made, left = [], room - 1
    refine ⟨Nat.zero_le _, fun m nm => ⟨_, rfl, _, _, rfl, rfl, _, _, rfl, ?_⟩⟩
    have nmH : H m = none := newOf nm
    have mp : m ≠ p := fun e => by
      rw [e] at nmH
      exact pH nmH
    have b2 : BagAt (upd G1 m (.lst [])) p := let ⟨x, y, e⟩ := bag1; ⟨x, y, same_upd nm _ _ e⟩
    refine ⟨_, rfl, p, 5, rfl, b2, by decide, by decide, fun x2 y2 c hc0 hc1 => ?_⟩
    refine ⟨c, rfl, by omega, by omega, for_range (lo := 0) (n := c.toNat) (fun i σ H2 => ∃ (left : Nat) (ws : List V) (ds : List PyData) (y6 : Option V), σ = [some (.ref p), some (.int ((M + 1 : Nat) : Int)), some (.int room), some (.int k), some (.ref m), some (.int left), y6] ∧
      (∀ b o, b ≠ p → H b = some o → H2 b = some o) ∧ BagAt H2 p ∧ H2 m = some (.lst ws) ∧ DpAll K (newB H m H2) ws ds ∧ valAll ds ∧ PyData.depthAll ds ≤ M ∧ szAll ds + left + 1 = room) ?_ ?_ ?_⟩
    · refine ⟨room - 1, [], [], none, ?_, fun b o hb e => ?_, ⟨_, _, upd_same⟩, ?_, .nil, trivial, by simp [PyData.depthAll], by simp [szAll]; omega⟩
      · have e : ((room : Int) - 1) = ((room - 1 : Nat) : Int) := by omega
        show _ = _
        rw [← e]
        rfl
      · rw [upd_ne hb]
        exact same_upd nm _ _ (kp b o hb e)
      · rw [upd_ne mp, upd_same]
    · rintro i σ H2 hi ⟨left, ws, ds, y6, rfl, k2, b2, hm2, hws, hvs, hdp, hsz⟩
      refine ⟨_, rfl, _, _, rfl, rfl, _, rfl, ?_⟩
      by_cases hl : (0 : Int) < (left : Int)
      · refine ltT hl ?_
        have em : ((M + 1 : Nat) : Int) - 1 = ((M : Nat) : Int) := by omega
        refine ⟨_, rfl, .inl ⟨rfl, _, SqL.of hm2⟩, ⟨N - 1, by omega⟩, _, rfl, _, rfl, _, _, rfl, rfl, _, rfl, p, M, left, ?_, b2, (by show M ≤ N - 1; omega), by omega, by omega, fun H3 v d k3 b3 hv vd dd ds3 => ?_⟩
        · show [V.ref p, V.int (((M + 1 : Nat) : Int) - 1), V.int left] ++ [] = _
          rw [em]
          rfl
        have hm3 : H3 m = some (.lst ws) := k3 m _ mp hm2
        have wl : ws.length ≤ 1000 := by
          have e1 := DpAll.length hws
          have e2 := szAll_len ds
          omega
        refine ⟨m, ws, v, rfl, rfl, hm3, Nat.lt_of_le_of_lt wl (by decide), ?_⟩
        have all2 : ∀ b, H b ≠ none → H2 b ≠ none := fun b hb => by
          cases e : H b with
          | none => exact absurd e hb
          | some o =>
            by_cases eb : b = p
            · rw [eb]
              obtain ⟨x, y, e2⟩ := b2
              rw [e2]
              exact fun z => nomatch z
            · rw [k2 b o eb e]
              exact fun z => nomatch z
        have old : Same (newB H m H2) (newB H m (upd H3 m (.lst (ws ++ [v])))) := fun b o e => by
          by_cases bm : b = m
          · unfold newB at e
            rw [if_pos bm] at e
            cases e
          · cases hh : H b with
            | some u =>
              unfold newB at e
              rw [if_neg bm, hh] at e
              cases e
            | none =>
              have bp : b ≠ p := fun z => by
                rw [z] at hh
                exact pH hh
              rw [newB_at hh bm] at e ⊢
              rw [upd_ne bm]
              exact k3 b o bp e
        have new : Same (newp H2 H3) (newB H m (upd H3 m (.lst (ws ++ [v])))) := fun b o e => by
          cases h2 : H2 b with
          | some u =>
            rw [newp_old h2] at e
            cases e
          | none =>
            rw [newp_at h2] at e
            have hh : H b = none := Classical.byContradiction fun z => all2 b z h2
            have bm : b ≠ m := fun z => by
              rw [z, hm2] at h2
              cases h2
            rw [newB_at hh bm, upd_ne bm]
            exact e
        have b4 : BagAt (upd H3 m (.lst (ws ++ [v]))) p := let ⟨x, y, e⟩ := b3; ⟨x, y, by rw [upd_ne mp.symm]; exact e⟩
        have k4 : ∀ b o, b ≠ p → H b = some o → (upd H3 m (.lst (ws ++ [v]))) b = some o := fun b o hb e => by
          rw [upd_ne (ne_of_none e nmH)]
          exact k3 b o hb (k2 b o hb e)
        have hm4 : (upd H3 m (.lst (ws ++ [v]))) m = some (.lst (ws ++ [v])) := upd_same
        have vnew : Dp K (newB H m (upd H3 m (.lst (ws ++ [v])))) v d := dp_same new _ _ hv
        have all4 : DpAll K (newB H m (upd H3 m (.lst (ws ++ [v])))) (ws ++ [v]) (ds ++ [d]) := DpAll.append (dpAll_same old _ _ hws) (.cons vnew .nil)
        generalize upd H3 m (.lst (ws ++ [v])) = G4 at b4 k4 hm4 vnew all4
        have sub : Same (newB H m G4) G4 := fun b o e => newp_same _ _ (newB_newp _ _ e)
        -- left = left - size(made[-1])
        refine ⟨_, rfl, _, rfl, 1, rfl, m, _, -1, v, rfl, rfl, SqL.of hm4, atI_last _ _, v, d, newB H m G4, rfl, sub, vnew, vd, by omega, by omega, fun H5 s5 => ?_⟩
        refine ⟨_, _, rfl, rfl, left - sz d, ws ++ [v], ds ++ [d], some (.int (0 + (i : Int))), ?_, fun b o hb e => s5 _ _ (k4 b o hb e), ?_, s5 _ _ hm4, dpAll_same (newB_mono fun b o _ e => s5 _ _ e) _ _ all4, (valAll_append _ _).mpr ⟨hvs, vd, trivial⟩, ?_, ?_⟩
        · have e : ((left : Int) - (sz d : Int)) = ((left - sz d : Nat) : Int) := by omega
          show _ = _
          rw [← e]
          rfl
        · obtain ⟨x, y, e⟩ := b4
          exact ⟨x, y, s5 _ _ e⟩
        · rw [depthAll_append]
          simp only [PyData.depthAll]
          omega
        · rw [szAll_snoc]
          omega
      · refine ltF hl ?_
        exact ⟨left, ws, ds, _, rfl, k2, b2, hm2, hws, hvs, hdp, hsz⟩
    · rintro σ H2 ⟨left, ws, ds, y6, rfl, k2, b2, hm2, hws, hvs, hdp, hsz⟩
      refine ⟨_, rfl, q H2 (.ref m) (.list ds) k2 b2 (.lst (SqL.of ?_) (dpAll_same newB_newp _ _ hws)) hvs ?_ ?_⟩
      · rw [newp_at nmH]
        exact hm2
      · simp only [PyData.depth]
        omega
      · simp only [sz]
        omega
end
end TX
namespace TX
open PySem PySem.Spec PyProof.Rows L2
/-! ### a text, repeated -/
theorem mem_reps {P : Nat → Prop} {x : Array Nat} (hx : ∀ c ∈ x.toList, P c) : ∀ (k : Nat) (acc : Array Nat), (∀ c ∈ acc.toList, P c) → ∀ c ∈ ((List.replicate k x).foldl (· ++ ·) acc).toList, P c
  | 0, acc, h => by simpa using h
  | k + 1, acc, h => by
    rw [List.replicate_succ, List.foldl_cons]
    refine mem_reps hx k _ fun c hc => ?_
    rw [Array.toList_append] at hc
    exact (List.mem_append.mp hc).elim (h c) (hx c)
theorem size_rep : ∀ (x : Array Nat) (k : Nat) (acc : Array Nat), ((List.replicate k x).foldl (· ++ ·) acc).size = acc.size + k * x.size
  | x, 0, acc => by simp
  | x, k + 1, acc => by
    rw [List.replicate_succ, List.foldl_cons, size_rep x k, Array.size_append, Nat.succ_mul]
    omega
theorem mul_lt {x : Str} {n : Nat} (h : Lt x) : Lt (Txt.mul x (n : Int)) ∧ (Txt.mul x (n : Int)).length ≤ n * x.length + x.length := by
  unfold Txt.mul
  split
  · refine ⟨by unfold Lt; decide +kernel, ?_⟩
    have e : Str.empty.length = 0 := rfl
    omega
  · split
    · exact ⟨h, by omega⟩
    · refine ⟨mem_reps (P := fun c => 97 ≤ c ∧ c ≤ 122) h _ _ (by simp), ?_⟩
      have e := size_rep x.cps (n : Int).toNat #[]
      have e2 : (n : Int).toNat = n := by omega
      rw [e2] at e
      show ((List.replicate (n : Int).toNat x.cps).foldl (· ++ ·) #[]).size ≤ _
      rw [e2, e]
      have e3 : x.length = x.cps.size := rfl
      rw [e3]
      simp
section
variable {X : Cx}
def rMulS : R2 := fun x y H Q => ∃ (a : Str) (n : Nat), x = .str a ∧ y = .int n ∧ n ≤ 1000 ∧ a.length ≤ 1000 ∧ Q (.str (Txt.mul a (n : Int))) H
theorem op_mulS : OpR X (binaryOp .Mult) rMulS := by
  intro pins s σ H x y v u Q I rx ry h
  obtain ⟨a, n, rfl, rfl, hn, ha, q⟩ := h
  obtain ⟨t, rfl⟩ := rx
  obtain ⟨t', rfl⟩ := ry
  refine SB.mul ⟨?_, fun h1 _ => ?_, fun h1 _ => ?_⟩ fun t' k => ⟨.str _, H, I.tok k, ⟨t', rfl⟩, q⟩
  · rw [decide_eq_false (show ¬ ((n : Int) < -(2 ^ 63 : Int)) by omega), decide_eq_false (show ¬ ((n : Int) ≥ 2 ^ 63) by omega)]
    rfl
  · have h2 : (2 ^ 63 - 1 : Int) / 1000 ≤ (2 ^ 63 - 1) / (n : Int) := by
      refine Int.le_ediv_of_mul_le (by omega) ?_
      have e : (2 ^ 63 - 1 : Int) / 1000 = 9223372036854775 := by decide
      rw [e]
      have e2 : (9223372036854775 : Int) * (n : Int) ≤ 9223372036854775 * 1000 := Int.mul_le_mul_of_nonneg_left (by omega) (by omega)
      omega
    have e : (2 ^ 63 - 1 : Int) / 1000 = 9223372036854775 := by decide
    omega
  · have e : a.length * (n : Int).toNat ≤ 1000 * 1000 := Nat.mul_le_mul ha (by omega)
    show decide (a.length * (n : Int).toNat > sizeLine) = false
    exact decide_eq_false (by have : (1000 * 1000 : Nat) ≤ sizeLine := by decide
                              omega)
end
theorem lt_cut {z : Str} {lo hi : Option Int} (h : Lt z) : Lt (cutS z lo hi) := fun c hc => h c (List.mem_of_mem_drop (List.mem_of_mem_take (by simpa [cutS] using hc)))
theorem len_cut {z : Str} {t : Nat} : (cutS z none (some (t : Int))).length ≤ t := by
  unfold cutS
  show (List.toArray _).size ≤ t
  rw [List.size_toArray, List.length_take, HT.sIx_nat, HT.sIx_none]
  omega
theorem qfit {z : Str} (h : (z.length : Int) ≤ 5) : (("q" : Str)).length + z.length ≤ sizeLine := by
  have e : (("q" : Str)).length = 1 := by decide +kernel
  exact Nat.le_trans (show (("q" : Str)).length + z.length ≤ 6 by omega) (by decide)
/-! ### lists of data, cut and repeated -/
theorem DpAll.take {K : PySem.W.Frag} {H : Hp} : ∀ {ds : List PyData} {vs : List V} (n : Nat), DpAll K H vs ds → DpAll K H (vs.take n) (ds.take n)
  | [], _, n, h => by
    cases h
    simp
    exact .nil
  | d :: ds, _, 0, h => by
    simp
    exact .nil
  | d :: ds, _, n + 1, h => by
    cases h with
    | cons h1 h2 => exact .cons h1 (DpAll.take (ds := ds) n h2)
theorem DpAll.rep {K : PySem.W.Frag} {H : Hp} {ds : List PyData} {vs : List V} (h : DpAll K H vs ds) : ∀ n : Nat, DpAll K H (List.replicate n vs).flatten (List.replicate n ds).flatten
  | 0 => .nil
  | n + 1 => by
    rw [List.replicate_succ, List.replicate_succ, List.flatten_cons, List.flatten_cons]
    exact DpAll.append h (DpAll.rep h n)
theorem val_take : ∀ {ds : List PyData} (n : Nat), valAll ds → valAll (ds.take n)
  | [], n, h => by simpa using h
  | d :: ds, 0, h => trivial
  | d :: ds, n + 1, h => ⟨h.1, val_take n h.2⟩
theorem depth_take : ∀ {ds : List PyData} (n : Nat), PyData.depthAll (ds.take n) ≤ PyData.depthAll ds
  | [], n => by simp
  | d :: ds, 0 => by simp [PyData.depthAll]
  | d :: ds, n + 1 => by
    have := depth_take (ds := ds) n
    simp only [List.take_succ_cons, PyData.depthAll]
    omega
theorem val_rep {ds : List PyData} (h : valAll ds) : ∀ n : Nat, valAll (List.replicate n ds).flatten
  | 0 => trivial
  | n + 1 => by
    rw [List.replicate_succ, List.flatten_cons]
    exact (valAll_append _ _).mpr ⟨h, val_rep h n⟩
theorem depth_rep {ds : List PyData} : ∀ n : Nat, PyData.depthAll (List.replicate n ds).flatten ≤ PyData.depthAll ds
  | 0 => by simp [PyData.depthAll]
  | n + 1 => by
    have := depth_rep (ds := ds) n
    rw [List.replicate_succ, List.flatten_cons, depthAll_append]
    omega
/-- each of the data is at most that great -/
def EachLe (c : Nat) (ds : List PyData) : Prop := ∀ d ∈ ds, sz d ≤ c
theorem each_nil {c : Nat} : EachLe c [] := fun d hd => nomatch hd
theorem each_sum {c : Nat} : ∀ {ds : List PyData}, EachLe c ds → szAll ds ≤ c * ds.length
  | [], _ => by simp [szAll]
  | d :: ds, h => by
    have h1 := h d List.mem_cons_self
    have h2 := each_sum (ds := ds) fun e he => h e (List.mem_cons_of_mem _ he)
    rw [szAll, List.length_cons, Nat.mul_succ]
    omega
/-! ### what is new stays new -/
theorem newp_mono {H H2 H3 : Hp} {p : Addr} (pH : H p ≠ none) (k : ∀ b o, b ≠ p → H2 b = some o → H3 b = some o) : Same (newp H H2) (newp H H3) := fun b o e => by
  cases h : H b with
  | some u =>
    rw [newp_old h] at e
    cases e
  | none =>
    rw [newp_at h] at e ⊢
    exact k b o (fun z => pH (z ▸ h)) e
theorem newp_sub {H H2 H3 : Hp} (k : ∀ b, H b ≠ none → H2 b ≠ none) : Same (newp H2 H3) (newp H H3) := fun b o e => by
  cases h2 : H2 b with
  | some u =>
    rw [newp_old h2] at e
    cases e
  | none =>
    rw [newp_at h2] at e
    have h : H b = none := Classical.byContradiction fun z => k b z h2
    rw [newp_at h]
    exact e
/-- the entries of H are still there -/
theorem there {H H2 : Hp} {p : Addr} (k : ∀ b o, b ≠ p → H b = some o → H2 b = some o) (b2 : BagAt H2 p) : ∀ b, H b ≠ none → H2 b ≠ none := fun b hb => by
  cases e : H b with
  | none => exact absurd e hb
  | some o =>
    by_cases eb : b = p
    · rw [eb]
      obtain ⟨x, y, e2⟩ := b2
      rw [e2]
      exact fun z => nomatch z
    · rw [k b o eb e]
      exact fun z => nomatch z
theorem bag_in {H : Hp} {p : Addr} (b : BagAt H p) : H p ≠ none := by
  obtain ⟨x, y, e⟩ := b
  rw [e]
  exact fun z => nomatch z
theorem bag_same {H H' : Hp} {p : Addr} (b : BagAt H p) (s : Same H H') : BagAt H' p := let ⟨x, y, e⟩ := b; ⟨x, y, s _ _ e⟩
/-- a list of data at m, the bag at p: one more made behind -/
theorem grow {K : PySem.W.Frag} {H H2 H3 : Hp} {p m : Addr} {ws : List V} {ds : List PyData} {v : V} {d : PyData} (pH : H p ≠ none) (nmH : H m = none) (k2 : ∀ b o, b ≠ p → H b = some o → H2 b = some o) (b2 : BagAt H2 p) (hm2 : H2 m = some (.lst ws))
    (hws : DpAll K (newB H m H2) ws ds) (k3 : ∀ b o, b ≠ p → H2 b = some o → H3 b = some o) (b3 : BagAt H3 p) (hv : Dp K (newp H2 H3) v d) :
    (∀ b o, b ≠ p → H b = some o → (upd H3 m (.lst (ws ++ [v]))) b = some o) ∧ BagAt (upd H3 m (.lst (ws ++ [v]))) p ∧ H3 m = some (.lst ws) ∧ DpAll K (newB H m (upd H3 m (.lst (ws ++ [v])))) (ws ++ [v]) (ds ++ [d]) := by
  have mp : m ≠ p := fun e => pH (e ▸ nmH)
  have all2 := there k2 b2
  have old : Same (newB H m H2) (newB H m (upd H3 m (.lst (ws ++ [v])))) := fun b o e => by
    by_cases bm : b = m
    · unfold newB at e
      rw [if_pos bm] at e
      cases e
    · cases hh : H b with
      | some u =>
        unfold newB at e
        rw [if_neg bm, hh] at e
        cases e
      | none =>
        have bp : b ≠ p := fun z => pH (z ▸ hh)
        rw [newB_at hh bm] at e ⊢
        rw [upd_ne bm]
        exact k3 b o bp e
  have new : Same (newp H2 H3) (newB H m (upd H3 m (.lst (ws ++ [v])))) := fun b o e => by
    cases h2 : H2 b with
    | some u =>
      rw [newp_old h2] at e
      cases e
    | none =>
      rw [newp_at h2] at e
      have hh : H b = none := Classical.byContradiction fun z => all2 b z h2
      have bm : b ≠ m := fun z => by
        rw [z, hm2] at h2
        cases h2
      rw [newB_at hh bm, upd_ne bm]
      exact e
  refine ⟨fun b o hb e => ?_, ?_, k3 m _ mp hm2, DpAll.append (dpAll_same old _ _ hws) (.cons (dp_same new _ _ hv) .nil)⟩
  · rw [upd_ne (ne_of_none e nmH)]
    exact k3 b o hb (k2 b o hb e)
  · obtain ⟨x, y, e⟩ := b3
    exact ⟨x, y, by rw [upd_ne mp.symm]; exact e⟩
section
variable {P : Program} {w : World} {K : PySem.W.Frag} {mg : Str → Option Value} {base : Heap}
theorem ok_values {f fT fX fS : Addr} {fd dT dX dS : FuncData} (F : Fun K "_law_value" "_law_value" sValue f fd) (b : Binds K fd ["_law_bag_here", "_law_deep", "_law_room"] []) (g : mg "_law_value" = some (.ref f)) (Y : Nv mg) (C : Vc P w K mg base fT fX fS dT dX dS) :
    ∀ N : Nat, FnOk P w K mg base CX0 (N + 3) f fd ["_law_bag_here", "_law_deep", "_law_room"] (spValue K N)
  | 0 => ok_value F b g Y C 0 fun j => absurd j.2 (by omega)
  | N + 1 => ok_value F b g Y C (N + 1) fun ⟨M, e⟩ => by
    have e2 : M = N := by omega
    subst e2
    exact ok_values F b g Y C M
/-! ### _law_great -/
def spGreat (K : PySem.W.Frag) : Sp := fun vs H Q _ => ∃ (p : Addr), vs = [.ref p] ∧ BagAt H p ∧
  ∀ (H' : Hp) (v : V) (d : PyData), (∀ b o, b ≠ p → H b = some o → H' b = some o) → BagAt H' p → Dp K (newp H H') v d → valD d → d.depth ≤ 13 → sz d ≤ 401 → Q v H'
theorem scGreat : FnScope ["_law_bag_here", "_law_pick", "_law_word", "_law_turn", "_law_small", "_law_made", "_law_k"] ["_law_bag_here"] (defScope sGreat) := ⟨rfl, rfl, rfl, by decide +kernel, rfl, by decide +kernel, by decide +kernel⟩
theorem ok_great {f fT fX fS fV : Addr} {fd dT dX dS dV : FuncData} (F : Fun K "_law_great" "_law_great" sGreat f fd) (Y : Nv mg) (C : Vc P w K mg base fT fX fS dT dX dS) (GV : FnOk P w K mg base CX0 7 fV dV ["_law_bag_here", "_law_deep", "_law_room"] (spValue K 4)) (gV : mg "_law_value" = some (.ref fV))
    (kV : PySem.W.keepIn K (.ref fV) = true) (bV : Binds K dV ["_law_bag_here", "_law_deep", "_law_room"] []) : FnOk P w K mg base CX0 8 f fd ["_law_bag_here"] (spGreat K) := by
  refine F.ok scGreat (fun vs H Q E h => ?_) (fun cdv A outer s H vs Q E hr h => ?_)
  · obtain ⟨p, rfl, _⟩ := h
    rfl
  · obtain ⟨p, rfl, bag, q⟩ := h
    have hr1 : Room 1 _ := hr.mono (by decide)
    have hr2 : Room 2 _ := hr.mono (by decide)
    refine ⟨_, pss_cons (ps_set (i := 1) scGreat.nd rfl (.inl rfl) (pe_call C.GT hr1 (by rfl) C.gT C.kT C.bT .nil pass0 (pa_cons (pv 0) (pa_cons pe_int pa_nil))))
      (pss_cons (ps_if (pt_cmpR op_gt (pv 1) pe_int (nomark _)) (pss_one (ps_ret (pe_call GV hr (by rfl) gV kV bV .nil pass0 (pa_cons (pv 0) (pa_cons pe_int (pa_cons pe_int pa_nil)))))) pss_nil)
      (pss_cons (ps_if (pt_cmpR op_eq (pv 1) pe_int (nomark _))
        (pss_cons (ps_set (i := 2) scGreat.nd rfl (.inl rfl) (pe_op op_add_str pe_str (pe_call C.GX hr2 (by rfl) C.gX C.kX C.bX .nil pass0 (pa_cons (pv 0) (pa_cons pe_int pa_nil)))))
        (pss_one (ps_ret (pe_slice sl_str (pe_op op_mulS (pv 2) pe_int) po_none (po_some (pe_call C.GT hr1 (by rfl) C.gT C.kT C.bT .nil pass0 (pa_cons (pv 0) (pa_cons pe_int pa_nil)))))))) pss_nil)
      (pss_cons (ps_if (pt_cmpR op_eq (pv 1) pe_int (nomark _))
        (pss_cons (ps_setLc (i := 4) (own := [("_law_turn", 3)]) (g := gName 3) (tt := tYes) (te := tCall (spValue K 4) [] E0 (tCons (tVar 0) (tCons (tC (.int 1)) (tCons (tC (.int 2)) tNil)))) rfl scGreat.nd rfl rfl (sw_true rfl rfl rfl (by decide +kernel))
            (pi_range1 (by rfl) Y.range (pa_cons (pe_op op_add pe_int (pe_call C.GT hr1 (by rfl) C.gT C.kT C.bT .nil pass0 (pa_cons (pv 0) (pa_cons pe_int pa_nil)))) pa_nil))
            (blkOk_by (N := ["_law_bag_here", "_law_pick", "_law_word", "_law_turn", "_law_small", "_law_made", "_law_k"]) (sc := defScope sGreat) (by decide +kernel)) (fun _ _ _ _ _ => pg_name (i := 3) scGreat.nd rfl (Or.inl rfl)) (fun _ _ _ _ _ => pts_nil)
            (fun _ _ _ _ _ => pe_call GV hr (by rfl) gV kV bV .nil pass0 (pa_cons (pv 0) (pa_cons pe_int (pa_cons pe_int pa_nil)))))
        (pss_one (ps_ret (pe_slice sl_list (pe_op op_rep (pv 4) pe_int) po_none (po_some (pe_call C.GT hr1 (by rfl) C.gT C.kT C.bT .nil pass0 (pa_cons (pv 0) (pa_cons pe_int pa_nil)))))))) pss_nil)
      (pss_cons (ps_set (i := 5) scGreat.nd rfl (.inl rfl) (pe_call GV hr (by rfl) gV kV bV .nil pass0 (pa_cons (pv 0) (pa_cons pe_int (pa_cons pe_int pa_nil)))))
      (pss_cons (ps_for PassesOwn.never rfl (pi_range1 (by rfl) Y.range (pa_cons (pe_call C.GT hr1 (by rfl) C.gT C.kT C.bT .nil pass0 (pa_cons (pv 0) (pa_cons pe_int pa_nil))) pa_nil)) (pg_name (i := 3) scGreat.nd rfl (.inl rfl))
        (pss_cons (ps_setLc (i := 4) (own := [("_law_k", 6)]) (g := gName 6) (tt := tYes) (te := tCall (spValue K 4) [] E0 (tCons (tVar 0) (tCons (tC (.int 1)) (tCons (tC (.int 3)) tNil)))) rfl scGreat.nd rfl rfl (sw_true rfl rfl rfl (by decide +kernel))
            (pi_range1 (by rfl) Y.range (pa_cons (pe_call C.GT hr1 (by rfl) C.gT C.kT C.bT .nil pass0 (pa_cons (pv 0) (pa_cons pe_int pa_nil))) pa_nil))
            (blkOk_by (N := ["_law_bag_here", "_law_pick", "_law_word", "_law_turn", "_law_small", "_law_made", "_law_k"]) (sc := defScope sGreat) (by decide +kernel)) (fun _ _ _ _ _ => pg_name (i := 6) scGreat.nd rfl (Or.inl rfl)) (fun _ _ _ _ _ => pts_nil)
            (fun _ _ _ _ _ => pe_call GV hr (by rfl) gV kV bV .nil pass0 (pa_cons (pv 0) (pa_cons pe_int (pa_cons pe_int pa_nil)))))
        (pss_one (ps_set (i := 5) scGreat.nd rfl (.inl rfl) (pe_ifExp (pt_cmpR op_eq (pe_call C.GT hr1 (by rfl) C.gT C.kT C.bT .nil pass0 (pa_cons (pv 0) (pa_cons pe_int pa_nil))) pe_int (nomark _)) (pe_op op_cat (pv 4) (pe_lst (pa_cons (pv 5) pa_nil))) (pe_op op_cat (pe_lst (pa_cons (pv 5) pa_nil)) (pv 4)))))))
      (pss_one (ps_ret (pv 5)))))))), ?_⟩
    refine ⟨_, rfl, p, 6, rfl, bag, by decide, by decide, fun x1 y1 k hk0 hk1 => ?_⟩
    have pH := bag_in bag
    have kp : ∀ b o, b ≠ p → H b = some o → upd H p (.lst [.int x1, .int y1]) b = some o := fun b o hb e => by
      rw [upd_ne hb]
      exact e
    have bag1 : BagAt (upd H p (.lst [.int x1, .int y1])) p := ⟨_, _, upd_same⟩
    generalize upd H p (.lst [.int x1, .int y1]) = G1 at kp bag1
    -- a value
    refine ⟨_, rfl, _, _, rfl, rfl, _, rfl, ?_⟩
    by_cases e3 : (2 : Int) < k
    · refine ltT e3 ?_
      exact ⟨_, rfl, p, 4, 60, rfl, bag1, by decide, by decide, by decide, fun H' v d k2 b2 hv vd dd ds => q H' v d (fun b o hb e => k2 b o hb (kp b o hb e)) b2 (dp_same (newp_sub (there kp bag1)) _ _ hv) vd (by omega) (by omega)⟩
    refine ltF e3 ?_
    -- a long text
    refine ⟨_, rfl, rfl, _, rfl, ?_⟩
    by_cases e2 : k = 2
    · refine eqT e2 ?_
      refine ⟨_, rfl, p, 5, rfl, bag1, by decide, by decide, fun H' z k2 b2 lz hz => ⟨_, _, rfl, rfl, qfit hz, ?_⟩⟩
      have lq : Lt "q" := by unfold Lt; decide +kernel
      have eq1 : (("q" : Str)).length = 1 := by decide +kernel
      have lw : Lt ("q" ++ z) := lt_append lq lz
      have ll : (("q" : Str) ++ z).length ≤ 6 := by
        rw [strLen_append]
        omega
      obtain ⟨lm, le⟩ := mul_lt (n := 399) lw
      refine ⟨_, rfl, _, 399, rfl, rfl, by decide, by omega, ?_⟩
      refine ⟨_, rfl, p, 400, rfl, b2, by decide, by decide, fun x2 y2 c hc0 hc1 => ?_⟩
      obtain ⟨j, rfl⟩ : ∃ j : Nat, c = j := ⟨c.toNat, by omega⟩
      have lj : (cutS (Txt.mul ("q" ++ z) ((399 : Nat) : Int)) none (some (j : Int))).length ≤ j := len_cut
      refine ⟨_, rfl, _, rfl, Nat.le_trans (Nat.le_trans le (show 399 * (("q" : Str) ++ z).length + (("q" : Str) ++ z).length ≤ 10000 by omega)) (by decide), ?_⟩
      refine q _ _ (.str _) (fun b o hb e => ?_) ⟨_, _, upd_same⟩ (.str _) (lt_cut lm) (by simp [PyData.depth]) ?_
      · rw [upd_ne hb]
        exact k2 b o hb (kp b o hb e)
      · simp only [sz]
        omega
    refine eqF e2 ?_
    -- a wide list
    refine ⟨_, rfl, rfl, _, rfl, ?_⟩
    by_cases e1 : k = 1
    · refine eqT e1 ?_
      refine ⟨_, rfl, p, 3, rfl, bag1, by decide, by decide, fun x2 y2 c hc0 hc1 => ⟨_, _, rfl, rfl, ?_⟩⟩
      have kp2 : ∀ b o, b ≠ p → H b = some o → upd G1 p (.lst [.int x2, .int y2]) b = some o := fun b o hb e => by
        rw [upd_ne hb]
        exact kp b o hb e
      have bag2 : BagAt (upd G1 p (.lst [.int x2, .int y2])) p := ⟨_, _, upd_same⟩
      generalize upd G1 p (.lst [.int x2, .int y2]) = G2 at kp2 bag2
      refine ⟨1 + c, rfl, by omega, by omega, fun D nD => lc_range (lo := 0) (n := (1 + c).toNat) (fun i H' => ∃ ws ds, H' D = some (.lst ws) ∧ ws.length = i ∧ DpAll K (newB H D H') ws ds ∧ valAll ds ∧ PyData.depthAll ds ≤ 1 ∧ EachLe 2 ds ∧ (∀ b o, b ≠ p → H b = some o → H' b = some o) ∧ BagAt H' p) ?_ ?_ ?_⟩
      · exact ⟨[], [], upd_same, rfl, .nil, trivial, by simp [PyData.depthAll], each_nil, fun b o hb e => same_upd nD _ _ (kp2 b o hb e), bag_same bag2 (same_upd nD)⟩
      · rintro i H' hi ⟨ws, ds, hD, wl, hws, hvs, hdp, hea, kk, bb⟩
        have nDH : H D = none := Classical.byContradiction fun z => there kp2 bag2 D z nD
        refine ⟨rfl, _, rfl, p, 1, 2, rfl, bb, by decide, by decide, by decide, fun H3 v d k3 b3 hv vd dd ds3 => ?_⟩
        obtain ⟨g1, g2, g3, g4⟩ := grow pH nDH kk bb hD hws k3 b3 hv
        refine ⟨ws, g3, Nat.lt_of_le_of_lt (show ws.length ≤ 100 by omega) (by decide), ws ++ [v], ds ++ [d], upd_same, by simp [wl], g4, (valAll_append _ _).mpr ⟨hvs, vd, trivial⟩, ?_, ?_, g1, g2⟩
        · rw [depthAll_append]
          simp only [PyData.depthAll]
          omega
        · intro x hx
          rcases List.mem_append.mp hx with h | h
          · exact hea x h
          · have e : x = d := by simpa using h
            rw [e]
            exact ds3
      · rintro H' ⟨ws, ds, hD, wl, hws, hvs, hdp, hea, kk, bb⟩
        have nDH : H D = none := Classical.byContradiction fun z => there kp2 bag2 D z nD
        have dl := DpAll.length hws
        refine ⟨_, rfl, D, 199, ws, rfl, rfl, hD, by decide, by decide, Nat.le_trans (show ws.length * 199 ≤ 1000 by omega) (by decide), fun r nr => ?_⟩
        have b4 : BagAt (upd H' r (.lst (List.replicate (199 : Int).toNat ws).flatten)) p := bag_same bb (same_upd nr)
        refine ⟨_, rfl, p, 200, rfl, b4, by decide, by decide, fun x3 y3 c2 hc2 hc3 => ?_⟩
        obtain ⟨j, rfl⟩ : ∃ j : Nat, c2 = j := ⟨c2.toNat, by omega⟩
        have rp : r ≠ p := fun e => by
          obtain ⟨x, y, e4⟩ := bb
          rw [e, e4] at nr
          cases nr
        refine ⟨_, rfl, r, _, rfl, SqL.of (by rw [upd_ne rp, upd_same]), fun s2 ns2 => ?_⟩
        have cv : cutV (List.replicate (199 : Int).toNat ws).flatten none (some (j : Int)) = ((List.replicate 199 ws).flatten).take j := by
          unfold cutV
          rw [HT.sIx_none, HT.sIx_nat, List.drop_zero, Nat.sub_zero]
          show List.take (min j (List.replicate 199 ws).flatten.length) (List.replicate 199 ws).flatten = _
          rw [← List.take_eq_take_min]
        rw [cv]
        have s2p : s2 ≠ p := fun e => by
          rw [e, upd_same] at ns2
          cases ns2
        have nH : H s2 = none := Classical.byContradiction fun z => by
          have h1 := there kk bb s2 z
          rw [upd_ne s2p] at ns2
          by_cases sr : s2 = r
          · rw [sr, upd_same] at ns2
            cases ns2
          · rw [upd_ne sr] at ns2
            exact h1 ns2
        have up : Same (newB H D H') (newp H (upd (upd (upd H' r (.lst (List.replicate (199 : Int).toNat ws).flatten)) p (.lst [.int x3, .int y3])) s2 (.lst (((List.replicate 199 ws).flatten).take j)))) := fun b o e => by
          have e5 := newB_newp b o e
          cases hh : H b with
          | some u =>
            rw [newp_old hh] at e5
            cases e5
          | none =>
            rw [newp_at hh] at e5 ⊢
            have bp : b ≠ p := fun z => pH (z ▸ hh)
            have br : b ≠ r := ne_of_none e5 nr
            have bs : b ≠ s2 := fun z => by
              rw [← z, upd_ne bp, upd_ne br, e5] at ns2
              cases ns2
            rw [upd_ne bs, upd_ne bp, upd_ne br]
            exact e5
        refine q _ (.ref s2) (.list (((List.replicate 199 ds).flatten).take j)) (fun b o hb e => ?_) ?_ (.lst (SqL.of ?_) (dpAll_same up _ _ (DpAll.take j (DpAll.rep hws 199)))) (val_take j (val_rep hvs 199)) ?_ ?_
        · have e6 := kk b o hb e
          rw [upd_ne (ne_of_none e nH), upd_ne hb, upd_ne (ne_of_none e6 nr)]
          exact e6
        · exact ⟨x3, y3, by rw [upd_ne s2p.symm, upd_same]⟩
        · rw [newp_at nH, upd_same]
        · have h1 := depth_take (ds := (List.replicate 199 ds).flatten) j
          have h2 := depth_rep (ds := ds) 199
          simp only [PyData.depth]
          omega
        · have h1 : EachLe 2 (((List.replicate 199 ds).flatten).take j) := fun x hx => by
            obtain ⟨l, hl, hx2⟩ := List.mem_flatten.mp (List.mem_of_mem_take hx)
            have e := (List.mem_replicate.mp hl).2
            rw [e] at hx2
            exact hea x hx2
          have h2 := each_sum h1
          have h3 : (((List.replicate 199 ds).flatten).take j).length ≤ j := by
            rw [List.length_take]
            omega
          simp only [sz]
          omega
    refine eqF e1 ?_
    -- a deep one
    refine ⟨_, rfl, p, 3, 20, rfl, bag1, by decide, by decide, by decide, fun G2 made d0 k2 b2 hv0 vd0 dd0 sz0 => ?_⟩
    have kp2 : ∀ b o, b ≠ p → H b = some o → G2 b = some o := fun b o hb e => k2 b o hb (kp b o hb e)
    have hv0' : Dp K (newp H G2) made d0 := dp_same (newp_sub (there kp bag1)) _ _ hv0
    refine ⟨_, rfl, p, 10, rfl, b2, by decide, by decide, fun x2 y2 c hc0 hc1 => ?_⟩
    refine ⟨c, rfl, by omega, by omega, for_range (lo := 0) (n := c.toNat) (fun i σ H2 => ∃ (v : V) (d : PyData) (y3 y4 : Option V), σ = [some (.ref p), some (.int k), none, y3, y4, some v, none] ∧ (∀ b o, b ≠ p → H b = some o → H2 b = some o) ∧ BagAt H2 p ∧
      Dp K (newp H H2) v d ∧ valD d ∧ d.depth ≤ 3 + i ∧ sz d ≤ 20 + 10 * i) ?_ ?_ ?_⟩
    · refine ⟨made, d0, none, none, rfl, fun b o hb e => ?_, ⟨_, _, upd_same⟩, dp_same (newp_mono pH fun b o hb e => ?_) _ _ hv0', vd0, by omega, by omega⟩
      · rw [upd_ne hb]
        exact kp2 b o hb e
      · rw [upd_ne hb]
        exact e
    · rintro i σ H2 hi ⟨v, d, y3, y4, rfl, kk, bb, hv, vd, dd, sd⟩
      -- small
      refine ⟨_, rfl, p, 2, rfl, bb, by decide, by decide, fun x3 y3 c2 hc2 hc3 => ?_⟩
      have kk2 : ∀ b o, b ≠ p → H b = some o → upd H2 p (.lst [.int x3, .int y3]) b = some o := fun b o hb e => by
        rw [upd_ne hb]
        exact kk b o hb e
      have bb2 : BagAt (upd H2 p (.lst [.int x3, .int y3])) p := ⟨_, _, upd_same⟩
      have hv2 : Dp K (newp H (upd H2 p (.lst [.int x3, .int y3]))) v d := dp_same (newp_mono pH fun b o hb e => by rw [upd_ne hb]; exact e) _ _ hv
      generalize upd H2 p (.lst [.int x3, .int y3]) = H3 at kk2 bb2 hv2
      refine ⟨c2, rfl, by omega, by omega, fun D nD => lc_range (lo := 0) (n := c2.toNat) (fun j H' => ∃ ws ds, H' D = some (.lst ws) ∧ ws.length = j ∧ DpAll K (newB H D H') ws ds ∧ valAll ds ∧ PyData.depthAll ds ≤ 1 ∧ EachLe 3 ds ∧ (∀ b o, b ≠ p → H b = some o → H' b = some o) ∧ BagAt H' p ∧ Dp K (newB H D H') v d) ?_ ?_ ?_⟩
      · have nDH : H D = none := Classical.byContradiction fun z => there kk2 bb2 D z nD
        refine ⟨[], [], upd_same, rfl, .nil, trivial, by simp [PyData.depthAll], each_nil, fun b o hb e => same_upd nD _ _ (kk2 b o hb e), bag_same bb2 (same_upd nD), dp_same (fun b o e => ?_) _ _ hv2⟩
        cases hh : H b with
        | some u =>
          rw [newp_old hh] at e
          cases e
        | none =>
          rw [newp_at hh] at e
          have bD : b ≠ D := ne_of_none e nD
          rw [newB_at hh bD, upd_ne bD]
          exact e
      · rintro j H' hj ⟨ws, ds, hD, wl, hws, hvs, hdp, hea, k4, b4, hvB⟩
        have nDH : H D = none := Classical.byContradiction fun z => there kk2 bb2 D z nD
        refine ⟨rfl, _, rfl, p, 1, 3, rfl, b4, by decide, by decide, by decide, fun H5 u e k5 b5 hu vu du su => ?_⟩
        obtain ⟨g1, g2, g3, g4⟩ := grow pH nDH k4 b4 hD hws k5 b5 hu
        refine ⟨ws, g3, Nat.lt_of_le_of_lt (show ws.length ≤ 100 by omega) (by decide), ws ++ [u], ds ++ [e], upd_same, by simp [wl], g4, (valAll_append _ _).mpr ⟨hvs, vu, trivial⟩, ?_, ?_, g1, g2, dp_same (fun b o eb => ?_) _ _ hvB⟩
        · rw [depthAll_append]
          simp only [PyData.depthAll]
          omega
        · intro x hx
          rcases List.mem_append.mp hx with h | h
          · exact hea x h
          · have e : x = e := by simpa using h
            rw [e]
            exact su
        · by_cases bD : b = D
          · unfold newB at eb
            rw [if_pos bD] at eb
            cases eb
          · cases hh : H b with
            | some u =>
              unfold newB at eb
              rw [if_neg bD, hh] at eb
              cases eb
            | none =>
              have bp : b ≠ p := fun z => pH (z ▸ hh)
              rw [newB_at hh bD] at eb ⊢
              rw [upd_ne bD]
              exact k5 b o bp eb
      · rintro H' ⟨ws, ds, hD, wl, hws, hvs, hdp, hea, k4, b4, hvB⟩
        have nDH : H D = none := Classical.byContradiction fun z => there kk2 bb2 D z nD
        have dl := DpAll.length hws
        have es := each_sum hea
        have wl1 : ws.length ≤ 1 := by omega
        -- made = ..
        refine ⟨_, rfl, p, 2, rfl, b4, by decide, by decide, fun x4 y4 c4 hc4 hc5 => ?_⟩
        have Dp_ : D ≠ p := fun e => pH (e ▸ nDH)
        have k6 : ∀ b o, b ≠ p → H b = some o → upd H' p (.lst [.int x4, .int y4]) b = some o := fun b o hb e => by
          rw [upd_ne hb]
          exact k4 b o hb e
        have b6 : BagAt (upd H' p (.lst [.int x4, .int y4])) p := ⟨_, _, upd_same⟩
        have hD6 : (upd H' p (.lst [.int x4, .int y4])) D = some (.lst ws) := by
          rw [upd_ne Dp_]
          exact hD
        have to6 : Same (newB H D H') (newp H (upd H' p (.lst [.int x4, .int y4]))) := fun b o e => newp_mono (H2 := H') pH (fun b o hb e => by rw [upd_ne hb]; exact e) b o (newB_newp b o e)
        generalize upd H' p (.lst [.int x4, .int y4]) = H6 at k6 b6 hD6 to6
        have hv6 := dp_same to6 _ _ hvB
        have hw6 := dpAll_same to6 _ _ hws
        have in6 : Same (newp H H6) H6 := newp_same
        -- one list more, and the two together
        have fin : ∀ (l r : Addr) (us : List V) (es2 : List PyData), H6 l = none → (upd H6 l (.lst [v])) r = none → DpAll K (newp H H6) us es2 → valAll es2 → PyData.depthAll es2 ≤ 3 + i → szAll es2 ≤ 20 + 10 * i + 3 →
            ∃ (v' : V) (d' : PyData) (y3 y4 : Option V), [some (V.ref p), some (V.int k), none, some (V.int (0 + (i : Int))), some (V.ref D), some (V.ref r), none] = [some (V.ref p), some (V.int k), none, y3, y4, some v', none] ∧ (∀ b o, b ≠ p → H b = some o → (upd (upd H6 l (.lst [v])) r (.lst us)) b = some o) ∧ BagAt (upd (upd H6 l (.lst [v])) r (.lst us)) p ∧
              Dp K (newp H (upd (upd H6 l (.lst [v])) r (.lst us))) v' d' ∧ valD d' ∧ d'.depth ≤ 3 + (i + 1) ∧ sz d' ≤ 20 + 10 * (i + 1) := by
          intro l r us es2 nl nr hus hvs2 hdp2 hsz2
          have s8 : Same H6 (upd (upd H6 l (.lst [v])) r (.lst us)) := (same_upd nl).trans (same_upd nr)
          have nrH : H r = none := Classical.byContradiction fun z => by
            have h1 := there k6 b6 r z
            by_cases rl : r = l
            · rw [rl, upd_same] at nr
              cases nr
            · rw [upd_ne rl] at nr
              exact h1 nr
          refine ⟨.ref r, .list es2, _, _, rfl, fun b o hb e => s8 _ _ (k6 b o hb e), bag_same b6 s8, .lst (SqL.of ?_) (dpAll_same (newp_mono pH fun b o _ e => s8 b o e) _ _ hus), hvs2, ?_, ?_⟩
          · rw [newp_at nrH, upd_same]
          · simp only [PyData.depth]
            omega
          · simp only [sz]
            omega
        refine ⟨rfl, _, rfl, ?_⟩
        have sB : szAll (ds ++ [d]) ≤ 20 + 10 * i + 3 ∧ szAll ([d] ++ ds) ≤ 20 + 10 * i + 3 := by
          rw [szAll_append, szAll_append]
          simp only [szAll]
          omega
        have dB : PyData.depthAll (ds ++ [d]) ≤ 3 + i ∧ PyData.depthAll ([d] ++ ds) ≤ 3 + i := by
          rw [depthAll_append, depthAll_append]
          simp only [PyData.depthAll]
          omega
        by_cases e4 : c4 = 0
        · refine eqT e4 ?_
          refine ⟨_, rfl, _, rfl, (by show 1 ≤ sizeLine; decide), fun l nl => ⟨D, l, ws, [v], rfl, rfl, same_upd nl _ _ hD6, upd_same, Nat.le_trans (show ws.length + 1 ≤ 2 by omega) (by decide), fun r nr => ?_⟩⟩
          exact fin l r (ws ++ [v]) (ds ++ [d]) nl nr (DpAll.append hw6 (.cons hv6 .nil)) ((valAll_append _ _).mpr ⟨hvs, vd, trivial⟩) dB.1 sB.1
        · refine eqF e4 ?_
          refine ⟨_, rfl, (by show 1 ≤ sizeLine; decide), fun l nl => ⟨_, rfl, l, D, [v], ws, rfl, rfl, upd_same, same_upd nl _ _ hD6, Nat.le_trans (show 1 + ws.length ≤ 2 by omega) (by decide), fun r nr => ?_⟩⟩
          exact fin l r ([v] ++ ws) ([d] ++ ds) nl nr (DpAll.append (.cons hv6 .nil) hw6) ((valAll_append _ _).mpr ⟨⟨vd, trivial⟩, hvs⟩) dB.2 sB.2
    · rintro σ H2 ⟨v, d, y3, y4, rfl, kk, bb, hv, vd, dd, sd⟩
      exact ⟨_, rfl, q H2 v d kk bb hv vd (by omega) (by omega)⟩
end
end TX
namespace TX
open PySem PySem.Spec PyProof.Rows L2
/-! ### data whose lists stand each at a place of its own: S, all of them -/
mutual
inductive Tr (H : Hp) : V → PyData → List Addr → Prop
  | non : Tr H .non .none []
  | bl (b : Bool) : Tr H (.bl b) (.bool b) []
  | int (i : Int) : Tr H (.int i) (.int i) []
  | str (x : Str) : Tr H (.str x) (.str x) []
  | lst {a : Addr} {xs : List V} {es : List PyData} {S : List Addr} : H a = some (.lst xs) → TrAll H xs es S → a ∉ S → Tr H (.ref a) (.list es) (a :: S)
  | tup {a : Addr} {xs : List V} {es : List PyData} {S : List Addr} : H a = some (.tup xs) → TrAll H xs es S → a ∉ S → Tr H (.ref a) (.tuple es) (a :: S)
inductive TrAll (H : Hp) : List V → List PyData → List Addr → Prop
  | nil : TrAll H [] [] []
  | cons {v : V} {d : PyData} {S : List Addr} {vs : List V} {ds : List PyData} {T : List Addr} : Tr H v d S → TrAll H vs ds T → (∀ b ∈ S, b ∉ T) → TrAll H (v :: vs) (d :: ds) (S ++ T)
end
theorem TrAll.length {H : Hp} : ∀ {ds : List PyData} {vs : List V} {S : List Addr}, TrAll H vs ds S → vs.length = ds.length
  | [], _, _, h => by cases h; rfl
  | _ :: _, _, _, h => by
    cases h with
    | cons _ h2 _ => exact congrArg (· + 1) (TrAll.length h2)
mutual
theorem Tr.frame {H H' : Hp} : ∀ {d : PyData} {v : V} {S : List Addr}, Tr H v d S → (∀ b ∈ S, ∀ o, H b = some o → H' b = some o) → Tr H' v d S
  | .none, _, _, h, _ => by cases h; exact .non
  | .bool b, _, _, h, _ => by cases h; exact .bl b
  | .int i, _, _, h, _ => by cases h; exact .int i
  | .str x, _, _, h, _ => by cases h; exact .str x
  | .list es, _, _, h, k => by
    cases h with
    | lst h1 h2 h3 => exact .lst (k _ List.mem_cons_self _ h1) (TrAll.frame h2 fun b hb => k b (List.mem_cons_of_mem _ hb)) h3
  | .tuple es, _, _, h, k => by
    cases h with
    | tup h1 h2 h3 => exact .tup (k _ List.mem_cons_self _ h1) (TrAll.frame h2 fun b hb => k b (List.mem_cons_of_mem _ hb)) h3
  | .dict _, _, _, h, _ => nomatch h
theorem TrAll.frame {H H' : Hp} : ∀ {ds : List PyData} {vs : List V} {S : List Addr}, TrAll H vs ds S → (∀ b ∈ S, ∀ o, H b = some o → H' b = some o) → TrAll H' vs ds S
  | [], _, _, h, _ => by cases h; exact .nil
  | d :: ds, _, _, h, k => by
    cases h with
    | cons h1 h2 h3 => exact .cons (Tr.frame h1 fun b hb => k b (List.mem_append_left _ hb)) (TrAll.frame h2 fun b hb => k b (List.mem_append_right _ hb)) h3
end
mutual
theorem Tr.dp {K : PySem.W.Frag} {H : Hp} : ∀ {d : PyData} {v : V} {S : List Addr}, Tr H v d S → Dp K H v d
  | .none, _, _, h => by cases h; exact .non
  | .bool b, _, _, h => by cases h; exact .bl b
  | .int i, _, _, h => by cases h; exact .int i
  | .str x, _, _, h => by cases h; exact .str x
  | .list es, _, _, h => by
    cases h with
    | lst h1 h2 h3 => exact .lst (SqL.of h1) (TrAll.dp h2)
  | .tuple es, _, _, h => by
    cases h with
    | tup h1 h2 h3 => exact .tup (SqT.of h1) (TrAll.dp h2)
  | .dict _, _, _, h => nomatch h
theorem TrAll.dp {K : PySem.W.Frag} {H : Hp} : ∀ {ds : List PyData} {vs : List V} {S : List Addr}, TrAll H vs ds S → DpAll K H vs ds
  | [], _, _, h => by cases h; exact .nil
  | d :: ds, _, _, h => by
    cases h with
    | cons h1 h2 h3 => exact .cons (Tr.dp h1) (TrAll.dp h2)
end
mutual
theorem Tr.there {H : Hp} : ∀ {d : PyData} {v : V} {S : List Addr}, Tr H v d S → ∀ b ∈ S, H b ≠ none
  | .none, _, _, h => by cases h; exact fun b hb => nomatch hb
  | .bool b, _, _, h => by cases h; exact fun b hb => nomatch hb
  | .int i, _, _, h => by cases h; exact fun b hb => nomatch hb
  | .str x, _, _, h => by cases h; exact fun b hb => nomatch hb
  | .list es, _, _, h => by
    cases h with
    | lst h1 h2 h3 =>
      intro b hb
      rcases List.mem_cons.mp hb with e | e
      · rw [e, h1]
        exact fun z => nomatch z
      · exact TrAll.there h2 b e
  | .tuple es, _, _, h => by
    cases h with
    | tup h1 h2 h3 =>
      intro b hb
      rcases List.mem_cons.mp hb with e | e
      · rw [e, h1]
        exact fun z => nomatch z
      · exact TrAll.there h2 b e
  | .dict _, _, _, h => nomatch h
theorem TrAll.there {H : Hp} : ∀ {ds : List PyData} {vs : List V} {S : List Addr}, TrAll H vs ds S → ∀ b ∈ S, H b ≠ none
  | [], _, _, h => by cases h; exact fun b hb => nomatch hb
  | d :: ds, _, _, h => by
    cases h with
    | cons h1 h2 h3 =>
      intro b hb
      rcases List.mem_append.mp hb with e | e
      · exact Tr.there h1 b e
      · exact TrAll.there h2 b e
end
theorem TrAll.split {H : Hp} : ∀ {ds es : List PyData} {vs : List V} {S : List Addr}, TrAll H vs (ds ++ es) S → ∃ a b A B, vs = a ++ b ∧ S = A ++ B ∧ TrAll H a ds A ∧ TrAll H b es B ∧ ∀ x ∈ A, x ∉ B
  | [], _, vs, S, h => ⟨[], vs, [], S, rfl, rfl, .nil, h, fun _ z => nomatch z⟩
  | d :: ds, es, _, _, h => by
    cases h with
    | @cons v _ S1 _ _ T h1 h2 h3 =>
      obtain ⟨a, b, A, B, rfl, rfl, ha, hb, hd⟩ := TrAll.split (ds := ds) (es := es) h2
      refine ⟨v :: a, b, S1 ++ A, B, rfl, (List.append_assoc ..).symm, .cons h1 ha (fun x hx hA => h3 x hx (List.mem_append_left _ hA)), hb, fun x hx hB => ?_⟩
      rcases List.mem_append.mp hx with e | e
      · exact h3 x e (List.mem_append_right _ hB)
      · exact hd x e hB
theorem tr_leaf {K : PySem.W.Frag} {H H' : Hp} {v : V} {d : PyData} (h : Dp K H v d) (e : (tyD d == "list" || tyD d == "tuple") = false) : Tr H' v d [] := by
  cases h with
  | non => exact .non
  | bl b => exact .bl b
  | int i => exact .int i
  | str x => exact .str x
  | lst _ _ => simp [tyD] at e
  | tup _ _ => simp [tyD] at e
def spCopyT (K : PySem.W.Frag) : Sp := fun vs H Q _ => ∃ (v : V) (d : PyData) (Hv : Hp), vs = [v] ∧ Same Hv H ∧ Dp K Hv v d ∧ nd d ≤ 1000000 ∧
  ∀ (H' : Hp) (v' : V) (S : List Addr), Same H H' → Tr H' v' d S → (∀ b ∈ S, H b = none) → Q v' H'
section
variable {P : Program} {w : World} {K : PySem.W.Frag} {mg : Str → Option Value} {base : Heap}
theorem ok_copyT {f fP : Addr} {fd fdP : FuncData} {k : Nat} (F : Fun K "copy_of" "copy_of" sCopy f fd) (T : Nm mg) (FP : Fun K "all_parts" "all_parts" sParts fP fdP) (bP : Binds K fdP ["thing"] []) (gP : mg "all_parts" = some (.ref fP)) :
    FnOk P w K mg base CX0 (k + 2) f fd ["thing"] (spCopyT K) := by
  have GP : FnOk P w K mg base CX0 (k + 1) fP fdP ["thing"] (spParts K) := ok_parts FP T
  refine F.ok scCopy (fun vs H Q E h => ?_) (fun cdv A outer s H vs Q E hr h => ?_)
  · obtain ⟨v, d, Hv, rfl, _⟩ := h
    rfl
  · obtain ⟨v, d, Hv, rfl, sv, hd, hn, q⟩ := h
    refine ⟨_, pss_cons (ps_if (pt_not (pt_val (pe_callB call_isiT (by rfl) T.isi (by decide +kernel) (pa_cons (pv 0) (pa_cons (pe_tup (pa_cons (pe_bltn (v := .ty "list") (by rfl) T.lst (by decide +kernel) rfl) (pa_cons (pe_bltn (v := .ty "tuple") (by rfl) T.tpl (by decide +kernel) rfl) pa_nil))) pa_nil))))) (pss_one (ps_ret (pv 0))) pss_nil) <| pss_cons (ps_set (i := 1) scCopy.nd rfl (.inr rfl) (pe_lst pa_nil))
      (pss_cons (ps_for PassesOwn.never rfl (pi_list (pe_revL (pe_call GP hr (by rfl) gP FP.kp bP .nil pass0 (pa_cons (pv 0) pa_nil)))) (pg_name (i := 2) scCopy.nd rfl (.inl rfl))
        (pss_cons (ps_set (i := 3) scCopy.nd rfl (.inl rfl) (pv 2))
        (pss_cons (ps_if (pt_val (pe_callB call_isiT (by rfl) T.isi (by decide +kernel) (pa_cons (pv 2) (pa_cons (pe_tup (pa_cons (pe_bltn (v := .ty "list") (by rfl) T.lst (by decide +kernel) rfl) (pa_cons (pe_bltn (v := .ty "tuple") (by rfl) T.tpl (by decide +kernel) rfl) pa_nil))) pa_nil))))
          (pss_one (ps_alt
            (ps_setLc (i := 3) (own := [("_", 4)]) (g := gName 4) (tt := tYes) (te := tBM0 K "list" rPop (tVar 1)) rfl scCopy.nd rfl rfl (sw_true rfl rfl rfl (by decide +kernel)) (pi_list (pv 2)) (blkOk_by (N := ["thing", "done", "part", "made", "_"]) (sc := defScope sCopy) (by decide +kernel))
              (fun _ _ _ _ _ => pg_name (i := 4) scCopy.nd rfl (Or.inl rfl)) (fun _ _ _ _ _ => pts_nil) (fun _ _ _ _ _ => pe_bm0 PySem.F.plainAttrs_list PySem.F.slot_list_pop PySem.F.type_list_pop mt_pop (pv 1)))
            (ps_setLc (i := 3) (own := [("_", 4)]) (g := gName 4) (tt := tYes) (te := tBM0 K "list" rPop (tVar 1)) rfl scCopy.nd rfl rfl (sw_true rfl rfl rfl (by decide +kernel)) (pi_tup (pv 2)) (blkOk_by (N := ["thing", "done", "part", "made", "_"]) (sc := defScope sCopy) (by decide +kernel))
              (fun _ _ _ _ _ => pg_name (i := 4) scCopy.nd rfl (Or.inl rfl)) (fun _ _ _ _ _ => pts_nil) (fun _ _ _ _ _ => pe_bm0 PySem.F.plainAttrs_list PySem.F.slot_list_pop PySem.F.type_list_pop mt_pop (pv 1)))))
          pss_nil)
        (pss_cons (ps_if (pt_val (pe_callB call_isi (by rfl) T.isi (by decide +kernel) (pa_cons (pv 2) (pa_cons (pe_bltn (v := .ty "tuple") (by rfl) T.tpl (by decide +kernel) rfl) pa_nil))))
          (pss_one (ps_set (i := 3) scCopy.nd rfl (.inl rfl) (pe_callTy call_tuple_of (by rfl) T.tpl (by decide +kernel) (pa_cons (pv 3) pa_nil))))
          pss_nil)
        (pss_one (ps_expr (pe_bm PySem.F.plainAttrs_list PySem.F.slot_list_append PySem.F.type_list_append mt_append (pv 1) (pa_cons (pv 3) pa_nil))))))))
      (pss_one (ps_ret (pe_ix ix_list (pv 1) pe_int (fun _ _ => rfl))))), ?_⟩
    refine ⟨_, rfl, by decide, fun tp0 ntp0 => ?_⟩
    refine ⟨v, tp0, _, .type (tyD d), [.type "list", .type "tuple"], _, rfl, upd_same, .cons (.ty _) (.cons (.ty _) .nil), dp_ty (dp_same (sv.trans (same_upd ntp0)) _ _ hd), isLT d K, _, rfl, ?_⟩
    have q2 : ∀ (H' : Hp) (v' : V) (S : List Addr), Same (upd H tp0 (.tup [.ty "list", .ty "tuple"])) H' → Tr H' v' d S → (∀ b ∈ S, (upd H tp0 (.tup [.ty "list", .ty "tuple"])) b = none) → Q v' H' := fun H' v' S e1 e2 e3 => q H' v' S ((same_upd ntp0).trans e1) e2 (fun b hb => (same_upd ntp0).free (e3 b hb))
    have sv2 : Same Hv (upd H tp0 (.tup [.ty "list", .ty "tuple"])) := sv.trans (same_upd ntp0)
    cases hlt : (tyD d == "list" || tyD d == "tuple") with
    | false =>
      exact iteT ⟨_, rfl, q2 _ _ [] (fun _ _ e => e) (tr_leaf hd hlt) (fun _ z => nomatch z)⟩
    | true =>
    refine iteF ?_
    generalize upd H tp0 (.tup [.ty "list", .ty "tuple"]) = H at sv2 q2
    clear q sv ntp0 tp0
    have sv := sv2
    have q := q2
    refine ⟨by decide, fun da nda => ?_⟩
    -- all_parts(thing)[::-1]
    refine ⟨_, rfl, v, d, Hv, rfl, sv.trans (same_upd nda), hd, hn, fun H1 p rs sm1 np hp hP hlen => ?_⟩
    have hda1 : H1 da = some (.lst []) := sm1 _ _ upd_same
    refine ⟨p, _, rfl, SqL.of hp, fun r nr => ?_⟩
    rw [List.reverse_reverse]
    have rda : da ≠ r := ne_of_none hda1 nr
    have s0 : Same H (upd H1 r (.lst rs)) := ((same_upd nda).trans sm1).trans (same_upd nr)
    have hr0 : H r = none := ((same_upd nda).trans sm1).free nr
    have nda0 : H da = none := nda
    refine ⟨r, rfl, ⟨_, SqL.of upd_same⟩, for_list (K := K) (a := r) (xs := rs) (fun i σ H2 => ∃ (S : List V × List PyData) (cs : List V) (y2 y3 : Option V), σ = [some v, some (.ref da), y2, y3, none] ∧ Same H H2 ∧ H2 r = some (.lst rs) ∧
      Path K Hv ([v], [d]) (rs.drop i) S ∧ H2 da = some (.lst cs.reverse) ∧ ∃ A, TrAll H2 cs S.2 A ∧ ∀ b ∈ A, H b = none ∧ b ≠ da) ?_ ?_ ?_ ?_⟩
    · exact ⟨([], []), [], none, none, rfl, s0, upd_same, hP, by rw [upd_ne rda]; exact hda1, [], .nil, fun b hb => nomatch hb⟩
    · rintro i σ H2 hi ⟨S, cs, y2, y3, rfl, _, g, _⟩
      exact SqL.of g
    · rintro i x σ H2 hx ⟨S, cs, y2, y3, rfl, sm, hrs, hPi, hda, Ar, hcs, hAr⟩
      have edrop : rs.drop i = x :: rs.drop (i + 1) := by
        obtain ⟨hj, e⟩ := List.getElem?_eq_some_iff.mp hx
        rw [List.drop_eq_getElem_cons hj, e]
      rw [edrop] at hPi
      cases hPi with
      | @cons _ S1 _ _ hP1 hst =>
      have cnt := path_count (.cons hP1 hst)
      have cnt0 : ndAll ([d] : List PyData) = nd d := by simp [ndAll]
      have lcs : cs.length ≤ 1000000 := by
        have e1 := TrAll.length hcs
        have e2 := ndAll_len S.2
        have e3 : ndAll (([v], [d]) : List V × List PyData).2 = nd d := cnt0
        omega
      -- the part's data
      obtain ⟨dx, hdx⟩ : ∃ dx, Dp K Hv x dx ∧ ((∃ r1 rd1, S1 = (x :: r1, dx :: rd1) ∧ S = (r1, rd1) ∧ (tyD dx == "list" || tyD dx == "tuple") = false) ∨
          (∃ a xs es r1 rd1, x = .ref a ∧ dx = .list es ∧ SqL K Hv a xs ∧ DpAll K Hv xs es ∧ S1 = (x :: r1, .list es :: rd1) ∧ S = (xs ++ r1, es ++ rd1)) ∨
          (∃ a xs es r1 rd1, x = .ref a ∧ dx = .tuple es ∧ SqT K Hv a xs ∧ DpAll K Hv xs es ∧ S1 = (x :: r1, .tuple es :: rd1) ∧ S = (xs ++ r1, es ++ rd1))) := by
        cases hst with
        | leaf h e => exact ⟨_, h, .inl ⟨_, _, rfl, rfl, e⟩⟩
        | lst h g => exact ⟨_, .lst h g, .inr (.inl ⟨_, _, _, _, _, rfl, rfl, h, g, rfl, rfl⟩)⟩
        | tup h g => exact ⟨_, .tup h g, .inr (.inr ⟨_, _, _, _, _, rfl, rfl, h, g, rfl, rfl⟩)⟩
      obtain ⟨hx1, hcase⟩ := hdx
      -- made = part; isinstance(part, (list, tuple))
      refine ⟨_, rfl, _, rfl, by decide, fun tp ntp => ?_⟩
      have sm3 : Same H (upd H2 tp (.tup [.ty "list", .ty "tuple"])) := sm.trans (same_upd ntp)
      have hda3 : (upd H2 tp (.tup [.ty "list", .ty "tuple"])) da = some (.lst cs.reverse) := same_upd ntp _ _ hda
      have hrs3 : (upd H2 tp (.tup [.ty "list", .ty "tuple"])) r = some (.lst rs) := same_upd ntp _ _ hrs
      have hcs3 : TrAll (upd H2 tp (.tup [.ty "list", .ty "tuple"])) cs S.2 Ar := TrAll.frame hcs fun b _ o e => same_upd ntp b o e
      refine ⟨x, tp, _, .type (tyD dx), [.type "list", .type "tuple"], _, rfl, upd_same, .cons (.ty _) (.cons (.ty _) .nil), dp_ty (dp_same (sv.trans sm3) _ _ hx1), isLT dx K, _, rfl, ?_⟩
      generalize upd H2 tp (.tup [.ty "list", .ty "tuple"]) = G at sm3 hda3 hrs3 hcs3
      rcases hcase with ⟨r1, rd1, rfl, rfl, e⟩ | ⟨a, xs, es, r1, rd1, rfl, rfl, g1, g2, rfl, rfl⟩ | ⟨a, xs, es, r1, rd1, rfl, rfl, g1, g2, rfl, rfl⟩
      · rw [e]
        refine iteF ?_
        have e2 : (tyD dx == "tuple") = false := (Bool.or_eq_false_iff.mp e).2
        refine ⟨_, rfl, x, .ty "tuple", .type (tyD dx), .type "tuple", _, rfl, .ty _, dp_ty (dp_leaf hx1 e), kit1 dx K, _, rfl, ?_⟩
        rw [e2]
        refine iteF ?_
        refine ⟨_, rfl, .inl ⟨rfl, _, SqL.of hda3⟩, _, rfl, da, _, _, rfl, rfl, hda3, Nat.lt_of_le_of_lt (by simpa using lcs) (by decide), ?_⟩
        refine ⟨_, x :: cs, _, _, rfl, same_fresh nda0 sm3, by rw [upd_ne rda.symm]; exact hrs3, hP1, ?_, ?_⟩
        · rw [upd_same]
          simp
        · exact ⟨[] ++ Ar, .cons (tr_leaf hx1 e) (TrAll.frame hcs3 fun b hb o e => by rw [upd_ne (hAr b hb).2]; exact e) (fun b hb => nomatch hb), hAr⟩
      · obtain ⟨c1, c2, A1, A2, rfl, rfl, hc1, hc2, dis⟩ := TrAll.split hcs3
        have hxl : xs.length = c1.length := (DpAll.length g2).trans (TrAll.length hc1).symm
        refine iteT (.inl ?_)
        refine ⟨_, rfl, a, rfl, ⟨_, (sv.trans sm3).seq g1⟩, fun D nD => lc_list (K := K) (a := a) (xs := xs) (fun j H4 => H4 da = some (.lst (c2.reverse ++ (c1.drop j).reverse)) ∧ H4 D = some (.lst (c1.take j)) ∧ ∀ b o, b ≠ da → b ≠ D → G b = some o → H4 b = some o) ?_ ?_ ?_ ?_⟩
        · have ne : da ≠ D := ne_of_none hda3 nD
          refine ⟨?_, upd_same, fun b o _ hb e => by rw [upd_ne hb]; exact e⟩
          rw [upd_ne ne, hda3]
          simp
        · rintro j H4 hj ⟨_, _, kp⟩
          have nDH : H D = none := sm3.free nD
          exact Same.seq (fun b o e => kp b o (ne_of_none e nda0) (ne_of_none e nDH) (sm3 b o e)) (sv.seq g1)
        · rintro j y H4 hy ⟨k1, k2, kp⟩
          have ne : da ≠ D := ne_of_none hda3 nD
          have hjl : j < c1.length := by
            have := (List.getElem?_eq_some_iff.mp hy).1
            omega
          have hcj : c1[j]? = some c1[j] := List.getElem?_eq_getElem hjl
          rw [rev_drop hcj, ← List.append_assoc] at k1
          refine ⟨rfl, .ref da, rfl, .inl ⟨rfl, _, SqL.of k1⟩, da, _, c1[j], rfl, rfl, k1, by simp, ?_⟩
          rw [List.dropLast_concat]
          refine ⟨c1.take j, by rw [upd_ne ne.symm]; exact k2, ?_, ?_, ?_, fun b o h1 h2 e => ?_⟩
          · refine Nat.lt_of_le_of_lt (show (c1.take j).length ≤ 1000000 from ?_) (by decide)
            rw [List.length_append] at lcs
            have := List.length_take_le j c1
            omega
          · rw [upd_ne ne, upd_same]
          · rw [upd_same, List.take_add_one, hcj]
            rfl
          · rw [upd_ne h2, upd_ne h1]
            exact kp b o h1 h2 e
        · rintro H4 ⟨k1, k2, kp⟩
          have ne : da ≠ D := ne_of_none hda3 nD
          have nDH : H D = none := sm3.free nD
          have sm4 : Same H H4 := fun b o e => kp b o (ne_of_none e nda0) (ne_of_none e nDH) (sm3 b o e)
          have rD : r ≠ D := ne_of_none hrs3 nD
          have hr4 : H4 r = some (.lst rs) := kp r _ rda.symm rD hrs3
          rw [hxl] at k1 k2
          rw [List.drop_length, List.reverse_nil, List.append_nil] at k1
          rw [List.take_length] at k2
          have at4 : ∀ b ∈ A1 ++ A2, ∀ o, G b = some o → H4 b = some o := fun b hb o e => kp b o (hAr b hb).2 (ne_of_none e nD) e
          have hd4 : TrAll H4 c1 es A1 := TrAll.frame hc1 fun b hb o e => at4 b (List.mem_append_left _ hb) o e
          have hd5 : TrAll H4 c2 rd1 A2 := TrAll.frame hc2 fun b hb o e => at4 b (List.mem_append_right _ hb) o e
          have nD1 : D ∉ A1 := fun hb => TrAll.there hc1 D hb nD
          have nD2 : D ∉ A2 := fun hb => TrAll.there hc2 D hb nD
          have hc1l : c1.length ≤ 1000000 ∧ c2.length ≤ 1000000 := by
            rw [List.length_append] at lcs
            omega
          refine ⟨_, rfl, .ref a, .ty "tuple", .type "list", .type "tuple", _, rfl, .ty _, dp_ty (d := .list es) (.lst (Same.seq sm4 (sv.seq g1)) (dpAll_same (sv.trans sm4) _ _ g2)), kit1 (.list es) K, _, rfl, ?_⟩
          refine iteF ?_
          refine ⟨_, rfl, .inl ⟨rfl, _, SqL.of k1⟩, _, rfl, da, _, _, rfl, rfl, k1, Nat.lt_of_le_of_lt (by simpa using hc1l.2) (by decide), ?_⟩
          refine ⟨_, .ref D :: c2, _, _, rfl, same_fresh nda0 sm4, by rw [upd_ne rda.symm]; exact hr4, hP1, ?_, ?_⟩
          · rw [upd_same]
            simp
          · refine ⟨(D :: A1) ++ A2, .cons (.lst (by rw [upd_ne ne.symm]; exact k2) (TrAll.frame hd4 fun b hb o e => by rw [upd_ne (hAr b (List.mem_append_left _ hb)).2]; exact e) nD1) (TrAll.frame hd5 fun b hb o e => by rw [upd_ne (hAr b (List.mem_append_right _ hb)).2]; exact e) fun b hb h2 => ?_, fun b hb => ?_⟩
            · rcases List.mem_cons.mp hb with z | z
              · exact nD2 (z ▸ h2)
              · exact dis b z h2
            · rcases List.mem_append.mp hb with z | z
              · rcases List.mem_cons.mp z with y | y
                · exact y ▸ ⟨nDH, ne.symm⟩
                · exact hAr b (List.mem_append_left _ y)
              · exact hAr b (List.mem_append_right _ z)
      · obtain ⟨c1, c2, A1, A2, rfl, rfl, hc1, hc2, dis⟩ := TrAll.split hcs3
        have hxl : xs.length = c1.length := (DpAll.length g2).trans (TrAll.length hc1).symm
        refine iteT (.inr ?_)
        refine ⟨_, rfl, a, rfl, ⟨_, same_sqt (sv.trans sm3) g1⟩, fun D nD => lc_tup (K := K) (a := a) (xs := xs) (fun j H4 => H4 da = some (.lst (c2.reverse ++ (c1.drop j).reverse)) ∧ H4 D = some (.lst (c1.take j)) ∧ ∀ b o, b ≠ da → b ≠ D → G b = some o → H4 b = some o) ?_ ?_ ?_ ?_⟩
        · have ne : da ≠ D := ne_of_none hda3 nD
          refine ⟨?_, upd_same, fun b o _ hb e => by rw [upd_ne hb]; exact e⟩
          rw [upd_ne ne, hda3]
          simp
        · rintro j H4 hj ⟨_, _, kp⟩
          have nDH : H D = none := sm3.free nD
          exact same_sqt (fun b o e => kp b o (ne_of_none e nda0) (ne_of_none e nDH) (sm3 b o e)) (same_sqt sv g1)
        · rintro j y H4 hy ⟨k1, k2, kp⟩
          have ne : da ≠ D := ne_of_none hda3 nD
          have hjl : j < c1.length := by
            have := (List.getElem?_eq_some_iff.mp hy).1
            omega
          have hcj : c1[j]? = some c1[j] := List.getElem?_eq_getElem hjl
          rw [rev_drop hcj, ← List.append_assoc] at k1
          refine ⟨rfl, .ref da, rfl, .inl ⟨rfl, _, SqL.of k1⟩, da, _, c1[j], rfl, rfl, k1, by simp, ?_⟩
          rw [List.dropLast_concat]
          refine ⟨c1.take j, by rw [upd_ne ne.symm]; exact k2, ?_, ?_, ?_, fun b o h1 h2 e => ?_⟩
          · refine Nat.lt_of_le_of_lt (show (c1.take j).length ≤ 1000000 from ?_) (by decide)
            rw [List.length_append] at lcs
            have := List.length_take_le j c1
            omega
          · rw [upd_ne ne, upd_same]
          · rw [upd_same, List.take_add_one, hcj]
            rfl
          · rw [upd_ne h2, upd_ne h1]
            exact kp b o h1 h2 e
        · rintro H4 ⟨k1, k2, kp⟩
          have ne : da ≠ D := ne_of_none hda3 nD
          have nDH : H D = none := sm3.free nD
          have sm4 : Same H H4 := fun b o e => kp b o (ne_of_none e nda0) (ne_of_none e nDH) (sm3 b o e)
          have rD : r ≠ D := ne_of_none hrs3 nD
          have hr4 : H4 r = some (.lst rs) := kp r _ rda.symm rD hrs3
          rw [hxl] at k1 k2
          rw [List.drop_length, List.reverse_nil, List.append_nil] at k1
          rw [List.take_length] at k2
          have at4 : ∀ b ∈ A1 ++ A2, ∀ o, G b = some o → H4 b = some o := fun b hb o e => kp b o (hAr b hb).2 (ne_of_none e nD) e
          have hd4 : TrAll H4 c1 es A1 := TrAll.frame hc1 fun b hb o e => at4 b (List.mem_append_left _ hb) o e
          have hd5 : TrAll H4 c2 rd1 A2 := TrAll.frame hc2 fun b hb o e => at4 b (List.mem_append_right _ hb) o e
          have nD1 : D ∉ A1 := fun hb => TrAll.there hc1 D hb nD
          have nD2 : D ∉ A2 := fun hb => TrAll.there hc2 D hb nD
          have hc1l : c1.length ≤ 1000000 ∧ c2.length ≤ 1000000 := by
            rw [List.length_append] at lcs
            omega
          refine ⟨_, rfl, .ref a, .ty "tuple", .type "tuple", .type "tuple", _, rfl, .ty _, dp_ty (d := .tuple es) (.tup (same_sqt sm4 (same_sqt sv g1)) (dpAll_same (sv.trans sm4) _ _ g2)), kit1 (.tuple es) K, _, rfl, ?_⟩
          refine iteT ?_
          -- made = tuple(made)
          refine ⟨_, rfl, D, c1, rfl, .inl ⟨SqL.of k2, fun tq ntq => ?_⟩⟩
          have nq : H tq = none := sm4.free ntq
          have dq : da ≠ tq := ne_of_none k1 ntq
          have rq : r ≠ tq := ne_of_none hr4 ntq
          have k5 : (upd H4 tq (.tup c1)) da = some (.lst c2.reverse) := by
            rw [upd_ne dq]
            exact k1
          refine ⟨_, rfl, .inl ⟨rfl, _, SqL.of k5⟩, _, rfl, da, _, _, rfl, rfl, k5, Nat.lt_of_le_of_lt (by simpa using hc1l.2) (by decide), ?_⟩
          refine ⟨_, .ref tq :: c2, _, _, rfl, same_fresh nda0 (sm4.trans (same_upd ntq)), by rw [upd_ne rda.symm, upd_ne rq]; exact hr4, hP1, ?_, ?_⟩
          · rw [upd_same]
            simp
          · have nq1 : tq ∉ A1 := fun hb => TrAll.there hd4 tq hb ntq
            have nq2 : tq ∉ A2 := fun hb => TrAll.there hd5 tq hb ntq
            have up : ∀ b ∈ A1 ++ A2, ∀ o, H4 b = some o → (upd (upd H4 tq (.tup c1)) da (.lst (c2.reverse ++ [.ref tq]))) b = some o := fun b hb o e => by
              rw [upd_ne (hAr b hb).2, upd_ne (ne_of_none e ntq)]
              exact e
            refine ⟨(tq :: A1) ++ A2, .cons (.tup (by rw [upd_ne dq.symm, upd_same]) (TrAll.frame hd4 fun b hb o e => up b (List.mem_append_left _ hb) o e) nq1) (TrAll.frame hd5 fun b hb o e => up b (List.mem_append_right _ hb) o e) fun b hb h2 => ?_, fun b hb => ?_⟩
            · rcases List.mem_cons.mp hb with z | z
              · exact nq2 (z ▸ h2)
              · exact dis b z h2
            · rcases List.mem_append.mp hb with z | z
              · rcases List.mem_cons.mp z with y | y
                · exact y ▸ ⟨nq, dq.symm⟩
                · exact hAr b (List.mem_append_left _ y)
              · exact hAr b (List.mem_append_right _ z)
    · rintro σ H2 ⟨S, cs, y2, y3, rfl, sm, hrs, hPi, hda, Ar, hcs, hAr⟩
      rw [List.drop_length] at hPi
      cases hPi
      cases hcs with
      | @cons c1 d1 A0 vs0 ds0 T0 h1 h2 hdis =>
        cases h2
        refine ⟨_, rfl, da, [c1], 0, c1, rfl, rfl, SqL.of hda, atI_nat (j := 0) rfl, ?_⟩
        exact q H2 c1 A0 sm h1 fun b hb => (hAr b (List.mem_append_left _ hb)).1
end
end TX
namespace TX
open PySem PySem.Spec PyProof.Rows L2
structure Nk (mg : Str → Option Value) : Prop where
  str : mg "str" = none
  bool : mg "bool" = none
/-! ### list(text) -/
def signV (z : Str) : List V := z.cps.toList.map fun c => V.str ⟨#[c]⟩
def signD (z : Str) : List PyData := z.cps.toList.map fun c => PyData.str ⟨#[c]⟩
theorem vals_get : ∀ (l : List V) (m : List Value), l.length = m.length → (∀ (j : Nat) v u, l[j]? = some v → m[j]? = some u → RelV v u) → Vals l m
  | [], [], _, _ => .nil
  | v :: l, u :: m, e, h => .cons (h 0 v u rfl rfl) (vals_get l m (by simpa using e) fun j a b ha hb => h (j + 1) a b (by simpa using ha) (by simpa using hb))
theorem call_list_s {X : Cx} (hc : X.calm = true) : CallR X (.type "list") (fun xs H Q => ∃ z : Str, xs = [.str z] ∧ z.length ≤ sizeLine ∧ ∀ l, H l = none → Q (.ref l) (upd H l (.lst (signV z)))) := by
  intro pins s σ H xs us Q I r h
  obtain ⟨z, rfl, hz, q⟩ := h
  obtain ⟨u, rfl, t, rfl⟩ := vals1 r
  have nf : H s.heap.objs.size = none := I.hok.fresh (Nat.le_refl _)
  refine call_list_str (I.ok.hd hc) z t (hn := hz) fun h' tk acc c' hk hS hacc => ⟨.ref _, _, I.laid (t' := tk) (o := .lst (signV z)) hk (Nat.le_refl _) ⟨?_, acc.toList, c', ?_, ?_⟩, rfl, q _ nf⟩
  · unfold signV
    rw [List.length_map]
    exact hz
  · refine vals_get _ _ ?_ fun j v u hv hu => ?_
    · unfold signV
      rw [List.length_map]
      have e := hacc.1
      simp only [Array.length_toList]
      omega
    · obtain ⟨c, t2, hc2, rfl⟩ := hacc.2 j u (by simpa using hu)
      have e : (signV z)[j]? = some (V.str ⟨#[c]⟩) := by
        unfold signV
        rw [List.getElem?_map]
        have e2 : z.cps.toList[j]? = some c := by simpa using hc2
        rw [e2]
        rfl
      rw [e] at hv
      cases hv
      exact ⟨t2, rfl⟩
  · simpa using hS
theorem dp_signs {K : PySem.W.Frag} {H : Hp} (z : Str) : DpAll K H (signV z) (signD z) := by
  unfold signV signD
  induction z.cps.toList with
  | nil => exact .nil
  | cons c l ih => exact .cons (.str _) ih

theorem kitN (d : PyData) (K : PySem.W.Frag) : PySem.W.kitOne K (.type (tyD d)) (.type "int") = some (tyD d == "int" || tyD d == "bool") := by
  cases d with
  | none => exact (kit_ty (a := "NoneType") (b := "int") (r := false) (by decide +kernel)).trans (by simp [tyD])
  | bool _ => exact (kit_ty (a := "bool") (b := "int") (r := true) (by decide +kernel)).trans (by simp [tyD])
  | int _ => exact (kit_ty (a := "int") (b := "int") (r := true) (by decide +kernel)).trans (by simp [tyD])
  | str _ => exact (kit_ty (a := "str") (b := "int") (r := false) (by decide +kernel)).trans (by simp [tyD])
  | list _ => exact (kit_ty (a := "list") (b := "int") (r := false) (by decide +kernel)).trans (by simp [tyD])
  | tuple _ => exact (kit_ty (a := "tuple") (b := "int") (r := false) (by decide +kernel)).trans (by simp [tyD])
  | dict _ => exact (kit_ty (a := "dict") (b := "int") (r := false) (by decide +kernel)).trans (by simp [tyD])
theorem kitB (d : PyData) (K : PySem.W.Frag) : PySem.W.kitOne K (.type (tyD d)) (.type "bool") = some (tyD d == "bool") := by
  cases d with
  | none => exact (kit_ty (a := "NoneType") (b := "bool") (r := false) (by decide +kernel)).trans (by simp [tyD])
  | bool _ => exact (kit_ty (a := "bool") (b := "bool") (r := true) (by decide +kernel)).trans (by simp [tyD])
  | int _ => exact (kit_ty (a := "int") (b := "bool") (r := false) (by decide +kernel)).trans (by simp [tyD])
  | str _ => exact (kit_ty (a := "str") (b := "bool") (r := false) (by decide +kernel)).trans (by simp [tyD])
  | list _ => exact (kit_ty (a := "list") (b := "bool") (r := false) (by decide +kernel)).trans (by simp [tyD])
  | tuple _ => exact (kit_ty (a := "tuple") (b := "bool") (r := false) (by decide +kernel)).trans (by simp [tyD])
  | dict _ => exact (kit_ty (a := "dict") (b := "bool") (r := false) (by decide +kernel)).trans (by simp [tyD])
def wholeB : PyData → Bool
  | .int _ => true
  | _ => false
def spWhole (K : PySem.W.Frag) : Sp := fun vs H Q _ => ∃ (v : V) (d : PyData) (Hv : Hp), vs = [v] ∧ Same Hv H ∧ Dp K Hv v d ∧ Q (.bl (wholeB d)) H
def innerD : PyData → List PyData
  | .list es => es
  | .str x => if 1 < x.length then signD x else []
  | _ => []
def spInner (K : PySem.W.Frag) : Sp := fun vs H Q _ => ∃ (v : V) (d : PyData) (Hv : Hp), vs = [v] ∧ Same Hv H ∧ Dp K Hv v d ∧ sz d ≤ 100000 ∧ ∀ (H' : Hp) (b : Addr) (xs : List V), Same H H' → SqL K H' b xs → DpAll K Hv xs (innerD d) → Q (.ref b) H'
section
variable {P : Program} {w : World} {K : PySem.W.Frag} {mg : Str → Option Value} {base : Heap}
theorem scWhole : FnScope ["thing"] ["thing"] (defScope s_is_whole_number) := ⟨rfl, rfl, rfl, by decide +kernel, rfl, by decide +kernel, by decide +kernel⟩
theorem ok_whole {f : Addr} {fd : FuncData} (F : Fun K "is_whole_number" "is_whole_number" s_is_whole_number f fd) (T : Nm mg) (k : Nk mg) (B : Nb mg) : FnOk P w K mg base CX0 1 f fd ["thing"] (spWhole K) := by
  refine F.ok scWhole (fun vs H Q E h => ?_) (fun cdv A outer s H vs Q E hr h => ?_)
  · obtain ⟨v, d, Hv, rfl, _⟩ := h
    rfl
  · obtain ⟨v, d, Hv, rfl, sv, hd, q⟩ := h
    refine ⟨_, pss_one (ps_ret (pe_and (pe_callB call_isi (by rfl) T.isi (by decide +kernel) (pa_cons (pv 0) (pa_cons (pe_bltn (v := .ty "int") (by rfl) B.int (by decide +kernel) rfl) pa_nil)))
      (pe_one (pe_not (pe_callB call_isi (by rfl) T.isi (by decide +kernel) (pa_cons (pv 0) (pa_cons (pe_bltn (v := .ty "bool") (by rfl) k.bool (by decide +kernel) rfl) pa_nil))))))), ?_⟩
    have ty := dp_ty (dp_same sv _ _ hd)
    refine ⟨_, rfl, v, .ty "int", _, .type "int", _, rfl, .ty _, ty, kitN d K, _, rfl, ?_⟩
    by_cases e : (tyD d == "int" || tyD d == "bool") = true
    · rw [e]
      refine iteT ⟨_, rfl, v, .ty "bool", _, .type "bool", _, rfl, .ty _, ty, kitB d K, _, rfl, ?_⟩
      have e2 : (!(tyD d == "bool")) = wholeB d := by
        cases d <;> simp [tyD] at e <;> simp [tyD, wholeB]
      show Q (.bl (!(tyD d == "bool"))) H
      rw [e2]
      exact q
    · have e' : (tyD d == "int" || tyD d == "bool") = false := by simpa using e
      rw [e']
      have e2 : wholeB d = false := by
        cases d with
        | int _ => simp [tyD] at e'
        | _ => rfl
      rw [e2] at q
      exact iteF q
theorem scInner : FnScope ["part"] ["part"] (defScope s_inner_of) := ⟨rfl, rfl, rfl, by decide +kernel, rfl, by decide +kernel, by decide +kernel⟩
theorem ok_inner {f : Addr} {fd : FuncData} (F : Fun K "inner_of" "inner_of" s_inner_of f fd) (T : Nm mg) (k : Nk mg) (B : Nb mg) : FnOk P w K mg base CX0 1 f fd ["part"] (spInner K) := by
  refine F.ok scInner (fun vs H Q E h => ?_) (fun cdv A outer s H vs Q E hr h => ?_)
  · obtain ⟨v, d, Hv, rfl, _⟩ := h
    rfl
  · obtain ⟨v, d, Hv, rfl, sv, hd, hz, q⟩ := h
    refine ⟨_, pss_cons (ps_if (pt_val (pe_callB call_isi (by rfl) T.isi (by decide +kernel) (pa_cons (pv 0) (pa_cons (pe_bltn (v := .ty "list") (by rfl) T.lst (by decide +kernel) rfl) pa_nil)))) (pss_one (ps_ret (pv 0))) pss_nil) <|
      pss_cons (ps_if (PW.pt (pw_and (pt_val (pe_callB call_isi (by rfl) T.isi (by decide +kernel) (pa_cons (pv 0) (pa_cons (pe_bltn (v := .ty "str") (by rfl) k.str (by decide +kernel) rfl) pa_nil)))) (pw_and1 (pt_cmpR op_gt (pe_callB call_len_str (by rfl) B.len PySem.boot_len (pa_cons (pv 0) pa_nil)) pe_int (nomark _)))))
        (pss_one (ps_ret (pe_callTy (call_list_s rfl) (by rfl) T.lst (by decide +kernel) (pa_cons (pv 0) pa_nil)))) pss_nil) <|
      pss_one (ps_ret (pe_lst pa_nil)), ?_⟩
    have ty := dp_ty (dp_same sv _ _ hd)
    refine ⟨_, rfl, v, .ty "list", _, .type "list", _, rfl, .ty _, ty, kitL d K, _, rfl, ?_⟩
    by_cases e : (tyD d == "list") = true
    · rw [e]
      refine iteT ?_
      cases hd with
      | @lst b xs es h1 h2 => exact ⟨_, rfl, q H b xs (Same.refl _) (sv.seq h1) h2⟩
      | _ => simp [tyD] at e
    · have e' : (tyD d == "list") = false := by simpa using e
      rw [e']
      refine iteF ⟨_, rfl, v, .ty "str", _, .type "str", _, rfl, .ty _, ty, kitS d K, _, rfl, ?_⟩
      by_cases e2 : (tyD d == "str") = true
      · rw [e2]
        refine iteT ?_
        cases hd with
        | str x =>
          have hx : x.length ≤ 100000 := by
            simp only [sz] at hz
            omega
          have xs : x.length ≤ sizeLine := Nat.le_trans hx (by decide)
          refine ⟨_, rfl, x, rfl, xs, _, _, rfl, rfl, _, rfl, ?_⟩
          by_cases h1 : 1 < x.length
          · rw [decide_eq_true (show (1 : Int) < ((x.length : Nat) : Int) by omega)]
            refine iteT ⟨_, rfl, x, rfl, xs, fun l nl => q _ l _ (same_upd nl) (SqL.of upd_same) ?_⟩
            simp only [innerD, if_pos h1]
            exact dp_signs x
          · rw [decide_eq_false (show ¬ (1 : Int) < ((x.length : Nat) : Int) by omega)]
            refine iteF ⟨by decide, fun l nl => q _ l _ (same_upd nl) (SqL.of upd_same) ?_⟩
            simp only [innerD, if_neg h1]
            exact .nil
        | _ => simp [tyD] at e2
      · have e2' : (tyD d == "str") = false := by simpa using e2
        rw [e2']
        refine iteF (A := False) ?_
        refine ⟨by decide, fun l nl => q _ l _ (same_upd nl) (SqL.of upd_same) ?_⟩
        have e3 : innerD d = [] := by
          cases d with
          | list _ => simp [tyD] at e'
          | str _ => simp [tyD] at e2'
          | _ => rfl
        rw [e3]
        exact .nil
end
end TX
namespace TX
open PySem PySem.Spec PyProof.Rows L2
structure Cl (K : PySem.W.Frag) (mg : Str → Option Value) (TE : Addr) (nm : Str) (C : Addr) : Prop where
  mgC : mg nm = some (.ref C)
  ox : OexC K C
  ec : ExcC K C
  xf : XfC K C
  ty : PySem.W.typeIn K (.ref C) = some (.type "type")
  mro : ∃ cd, PySem.W.clsIn K C = some cd ∧ cd.mro = [.ref C, .ref TE, .type "ValueError", .type "Exception", .type "BaseException", .type "object"]
theorem mro_is {K : PySem.W.Frag} {C : Addr} {cd : ClassData} {l : List Value} {b : Value} (h : PySem.W.clsIn K C = some cd) (e : cd.mro = l) (hl : l.isEmpty = false) : PySem.W.mroIn K C b = some (l.contains b) := by
  unfold PySem.W.mroIn
  rw [h]
  show (if cd.mro.isEmpty = true then none else some (cd.mro.contains b)) = _
  rw [e, hl, if_neg Bool.false_ne_true]
theorem ref_beq (a b : Addr) : (Value.ref a == Value.ref b) = decide (a = b) := by
  by_cases h : a = b
  · rw [h, decide_eq_true rfl]
    exact beq_self_eq_true _
  · rw [decide_eq_false h]
    exact beq_eq_false_iff_ne.mpr fun e => h (Value.ref.inj e)
section
variable {K : PySem.W.Frag} {mg : Str → Option Value} {TE C D : Addr} {nm nm' : Str}
theorem kit_same (c : Cl K mg TE nm C) : PySem.W.kitOne K (.ref C) (.ref C) = some true := by
  unfold PySem.W.kitOne
  rw [beq_self_eq_true, if_pos rfl]
theorem kit_cls (c : Cl K mg TE nm C) {cd : ClassData} (hd : PySem.W.clsIn K D = some cd) (ht : PySem.W.typeIn K (.ref D) = some (.type "type")) (hne : C ≠ D) : PySem.W.kitOne K (.ref C) (.ref D) = some (decide (D = TE)) := by
  obtain ⟨c1, h1, h2⟩ := c.mro
  have e1 : (Value.ref C == Value.ref D) = false := by
    rw [ref_beq]
    exact decide_eq_false hne
  have e2 : ((PySem.W.clsIn K D).isSome && PySem.W.typeIn K (.ref D) == some (.type "type")) = true := by
    rw [hd, ht]
    rfl
  unfold PySem.W.kitOne
  rw [e1, if_neg Bool.false_ne_true]
  show (if ((PySem.W.clsIn K D).isSome && PySem.W.typeIn K (.ref D) == some (.type "type")) = true then PySem.W.mroIn K C (.ref D) else none) = _
  rw [if_pos e2, mro_is h1 h2 rfl]
  have e3 : (Value.ref D == Value.ref C) = false := by
    rw [ref_beq]
    exact decide_eq_false (Ne.symm hne)
  simp only [List.contains_cons, e3, ref_beq, Bool.false_or]
  have f1 : (Value.ref D == Value.type "ValueError") = false := rfl
  have f2 : (Value.ref D == Value.type "Exception") = false := rfl
  have f3 : (Value.ref D == Value.type "BaseException") = false := rfl
  have f4 : (Value.ref D == Value.type "object") = false := rfl
  simp [f1, f2, f3, f4]
theorem kit_ve (c : Cl K mg TE nm C) : PySem.W.kitOne K (.ref C) (.type "ValueError") = some true := by
  obtain ⟨c1, h1, h2⟩ := c.mro
  unfold PySem.W.kitOne
  rw [show (Value.ref C == Value.type "ValueError") = false from rfl, if_neg Bool.false_ne_true]
  show (if PySem.W.kitMeta "ValueError" = true then PySem.W.mroIn K C (.type "ValueError") else none) = _
  rw [if_pos (by decide +kernel), mro_is h1 h2 rfl]
  have f0 : (Value.type "ValueError" == Value.ref C) = false := rfl
  have f1 : (Value.type "ValueError" == Value.ref TE) = false := rfl
  have f2 : (Value.type "ValueError" == Value.type "ValueError") = true := by decide +kernel
  simp only [List.contains_cons, f0, f1, f2, Bool.true_or, Bool.or_true]
/-- what «except TextorlistError» takes -/
theorem exm_te (c : Cl K mg TE nm C) (hs : PySem.W.subIn K (.ref TE) (.type "BaseException") = some true) (hd : PySem.W.hasDictIn K TE = true) (ht : PySem.W.typeIn K (.ref TE) = some (.type "type")) : PySem.W.exmOne K (.ref C) (.ref TE) = some true := by
  obtain ⟨c1, h1, h2⟩ := c.mro
  refine PySem.W.exm_ref hs hd ht ?_
  show PySem.W.mroIn K C (.ref TE) = _
  rw [mro_is h1 h2 rfl]
  have f1 : (Value.ref TE == Value.ref TE) = true := beq_self_eq_true _
  simp only [List.contains_cons, f1, Bool.true_or, Bool.or_true]
end
def rIsE3 (K : PySem.W.Frag) (a : Addr) (cls : Value) (d : Option Addr) : List V → Hp → VK → Prop := fun xs H Q => ∃ (D : Addr) (c : V) (cv : Value) (b : Bool), cls = .ref D ∧ ExcC K D ∧ xs = [.ref a, c] ∧ ClsV c cv ∧ PySem.W.kitOne K (.ref D) cv = some b ∧ (∀ dd, d = some dd → ∃ fs, H dd = some (.xd fs)) ∧ Q (.bl b) H
theorem call_isE3 {X : Cx} {a : Addr} {oe : Obj} {cls : Value} {d : Option Addr} {pn : List (Addr × Obj)} (hz : Zc cls d oe) (hf : ∃ vs, oe.data = .fields vs) : CallR (X.suite a ((a, oe) :: pn)) (.builtin "isinstance") (rIsE3 X.K a cls d) := by
  intro pins s σ H xs us Q I r h
  obtain ⟨D, c, cv, b, rfl, C, h1, h2, h3, h4, q⟩ := h
  exact call_isE2 C hz hf pins s σ H xs us Q I r ⟨c, cv, b, h1, h2, h3, h4, q⟩
theorem take0 {X : Cx} : Takes X (fun _ _ _ _ => False) := fun _ _ ⟨_, _, _, _, _, _, _, _, _, _, _, _, _, _, _, _, z⟩ => z.elim
/-- what the top's row of facts says of an error's class -/
theorem cl_of {K : PySem.W.Frag} {mg : Str → Option Value} {TE C : Addr} {x nm q : Str} {N : Addr} {bs : List Value} {sn : List Str} {sub : List Value} {ab : Bool} {col : Option Bool} {dd : Option Addr} {m0 m1 m2 m3 m5 : Option Value}
    (g : mg x = some (.ref C)) (l : K.lookup C = some (excClassObj nm q C N bs [.ref TE, .type "ValueError", .type "Exception", .type "BaseException", .type "object"] true sn sub ab col dd m0 m1 m2 m3 m5 "ValueError.__new__"))
    (sa : PySem.W.findIn K (.ref C) "__setattr__" = some (some (.builtin "object.__setattr__"))) (ga : PySem.W.findIn K (.ref C) "__getattribute__" = some (some (.builtin "BaseException.__getattribute__"))) (gg : PySem.W.findIn K (.ref C) "__getattr__" = some none)
    (ha : PySem.W.findIn K (.ref C) "__class__" = some (some (.builtin "object.__class__"))) (hn : PySem.W.specialIn K (.builtin "object.__class__") "__get__" = some (some (.builtin "getset_descriptor.__get__"))) (ht : PySem.W.takesIn K (.builtin "object.__class__") = some true)
    (kc : PySem.W.keepIn K (.ref C) = true) : Cl K mg TE x C := by
  have hc : ∃ cd, PySem.W.clsIn K C = some cd ∧ cd.mro = [.ref C, .ref TE, .type "ValueError", .type "Exception", .type "BaseException", .type "object"] ∧ cd.hasDict = true := by
    refine ⟨{ name := nm, bases := bs, mro := [.ref C, .ref TE, .type "ValueError", .type "Exception", .type "BaseException", .type "object"], ns := N, qualname := q, hasDict := true, slotNames := sn, subclasses := sub, abstract := ab, collection := col, hasDel := false }, ?_, ?_, ?_⟩
    · unfold PySem.W.clsIn
      rw [l] <;> rfl
    · rfl
    · rfl
  obtain ⟨cd, h1, h2, h3⟩ := hc
  have has : ∀ T : String, PySem.W.mroIn K C (.type T) = some ((Value.type T == Value.type "ValueError") || ((Value.type T == Value.type "Exception") || ((Value.type T == Value.type "BaseException") || ((Value.type T == Value.type "object") || false)))) := by
    intro T
    rw [mro_is h1 h2 rfl]
    have f0 : (Value.type T == Value.ref C) = false := rfl
    have f1 : (Value.type T == Value.ref TE) = false := rfl
    simp only [List.contains_cons, f0, f1, Bool.false_or, List.contains_nil]
  have sB : PySem.W.subIn K (.ref C) (.type "BaseException") = some true := (has "BaseException").trans (by decide +kernel)
  have sO : PySem.W.mroIn K C (.type "object") = some true := (has "object").trans (by decide +kernel)
  have hd : PySem.W.hasDictIn K C = true := by
    unfold PySem.W.hasDictIn
    rw [h1]
    exact h3
  have ty : PySem.W.typeIn K (.ref C) = some (.type "type") := by
    show (K.lookup C).map (·.cls) = _
    rw [l] <;> rfl
  exact ⟨g, ⟨⟨nm, q, N, bs, _, sn, sub, ab, col, dd, m0, m1, m2, m3, m5, l, rfl⟩, sa, sB, ty, kc⟩, ⟨ga, gg, sB, hd, ha, hn, ht, sO⟩, ⟨ga, gg, sB, hd⟩, ty, cd, h1, h2⟩
theorem passF {X : Cx} : Passes (L2.CX X.prog X.w) X (fun _ _ _ => False) := fun _ _ _ _ _ _ _ ⟨_, _, _, _, _, _, _, _, _, _, _, _, z⟩ => z.elim
/-- behind an __init__ of the fields fs: the error at a, its dict at dx -/
structure Made (K : PySem.W.Frag) (H : Hp) (a C dx : Addr) (fs : List (Str × V)) (H2 : Hp) (ws : List V) (ds : List PyData) : Prop where
  ea : H2 a = some (exo a C (some dx))
  ed : H2 dx = some (exd dx fs)
  new : H dx = none
  ne : dx ≠ a
  keep : ∀ b o, b ≠ a → H b = some o → H2 b = some o
  dat : DpAll K (del (del H2 a) dx) ws ds
def spIn1 (K : PySem.W.Frag) (C : Addr) (fld : Str) : Sp := fun vs H Q _ => ∃ (a : Addr) (v : V) (d : PyData) (Hv : Hp), vs = [.ref a, v] ∧ OexC K C ∧ PySem.W.findIn K (.ref C) fld = some none ∧ H a = some (exo a C none) ∧ Same Hv H ∧ Dp K Hv v d ∧ nd d ≤ 1000000 ∧
  ∀ (H2 : Hp) (dx : Addr) (w : V), Made K H a C dx [(fld, w)] H2 [w] [d] → Q .non H2
theorem cut_same {H H' : Hp} {a dx : Addr} {o : HO} {u u' : HO} (ha : H a = some o) (hd : H' dx = none) : Same (newp H H') (del (del (upd (upd H' dx u) a u') a) dx) := fun b x e => by
  cases h : H b with
  | some y =>
    rw [newp_old h] at e
    cases e
  | none =>
    rw [newp_at h] at e
    have ba : b ≠ a := fun z => by
      rw [z, ha] at h
      cases h
    have bd : b ≠ dx := fun z => by
      rw [z, hd] at e
      cases e
    rw [del_ne bd, del_ne ba, upd_ne ba, upd_ne bd]
    exact e
theorem made_same {K : PySem.W.Frag} {H H2 : Hp} {a C dx : Addr} {fs fs' : List (Str × V)} {ws : List V} {ds : List PyData} (na : H a = none) (M : Made K (upd H a (exo a C none)) a C dx fs H2 ws ds) :
    Same H (upd (del H2 a) dx (.xd fs')) ∧ H dx = none ∧ DpAll K (upd (del H2 a) dx (.xd fs')) ws ds := by
  have hd : H dx = none := by
    have e := M.new
    rw [upd_ne M.ne] at e
    exact e
  refine ⟨fun b o e => ?_, hd, dpAll_same (fun b o e => ?_) _ _ M.dat⟩
  · have ba := ne_of_none e na
    rw [upd_ne (ne_of_none e hd), del_ne ba]
    exact M.keep b o ba (by rw [upd_ne ba]; exact e)
  · by_cases hb : b = dx
    · rw [hb, del_same] at e
      cases e
    · rw [upd_ne hb]
      rw [del_ne hb] at e
      exact e
def tFe (K : PySem.W.Frag) (a : Addr) (cls : Value) (d : Option Addr) (f : Str) (te : TE) : TE := fun σ H Q => ∃ C, cls = .ref C ∧ XfC K C ∧ PySem.W.findIn K (.ref C) f = some none ∧ tXf a cls d C f te σ H Q
theorem pe_fe {X : Cx} {a : Addr} {oe : Obj} {cls : Value} {d : Option Addr} {pn : List (Addr × Obj)} {e : Expr} {te : TE} {pos : Pos} {n : Str} (hz : Zc cls d oe) (hf : ∃ vs, oe.data = .fields vs) (he : PE (X.suite a ((a, oe) :: pn)) e te)
    (hb : attributeBase e n X.env (eval e X.env) = eval e X.env := by rfl) : PE (X.suite a ((a, oe) :: pn)) (.Attribute e n pos) (tFe X.K a cls d n te) := by
  refine ⟨fun pins s σ H Q I h => ?_⟩
  obtain ⟨C, _, T, hno, h⟩ := h
  exact (pe_xf T hno hz hf he hb).run pins s σ H Q I h

def natV (p : List Nat) : List V := p.map fun i => V.int ((i : Nat) : Int)
def natD (p : List Nat) : List PyData := p.map fun i => PyData.int ((i : Nat) : Int)
theorem dp_nats {K : PySem.W.Frag} {H : Hp} : ∀ p : List Nat, DpAll K H (natV p) (natD p)
  | [] => .nil
  | i :: p => .cons (.int _) (dp_nats p)
theorem nd_nats : ∀ p : List Nat, ndAll (natD p) = p.length
  | [] => rfl
  | i :: p => by
    have := nd_nats p
    simp only [natD, List.map_cons, ndAll, nd, List.length_cons] at this ⊢
    omega
section
variable {P : Program} {w : World} {K : PySem.W.Frag} {mg : Str → Option Value} {base : Heap} {fC : Addr} {fdC : FuncData} {TE NP : Addr}
theorem scNp : FnScope ["self", "place"] ["self", "place"] (defScope mNoPlace_init) := ⟨rfl, rfl, rfl, by decide +kernel, rfl, by decide +kernel, by decide +kernel⟩
theorem ok_inNp {f C : Addr} {fd : FuncData} (F : Fun K "__init__" "NoPlace.__init__" mNoPlace_init f fd) (GC : FnOk P w K mg base CX0 2 fC fdC ["thing"] (spCopy K)) (gC : mg "copy_of" = some (.ref fC)) (kC : PySem.W.keepIn K (.ref fC) = true) (bC : Binds K fdC ["thing"] []) :
    FnOk P w K mg base CX0 3 f fd ["self", "place"] (spIn1 K C "place") := by
  refine F.ok scNp (fun vs H Q E h => ?_) (fun cdv A outer s H vs Q E hr h => ?_)
  · obtain ⟨a, v, d, Hv, rfl, _⟩ := h
    rfl
  · obtain ⟨a, v, d, Hv, rfl, ox, no, ha, sv, hd, hn, q⟩ := h
    refine ⟨_, pss_one (ps_ost (pv 0) (pe_call GC hr (by rfl) gC kC bC .nil pass0 (pa_cons (pv 1) pa_nil))), ?_⟩
    refine ⟨_, rfl, v, d, Hv, rfl, sv, hd, hn, fun H' v' sm hv' => ⟨_, rfl, a, C, rfl, ox, no, .inl ⟨sm _ _ ha, fun dx ndx hne => ?_⟩⟩⟩
    refine q _ dx v' ⟨upd_same, by rw [upd_ne hne, upd_same], sm.free ndx, hne, fun b o hb e => ?_, .cons (dp_same (cut_same ha ndx) _ _ hv') .nil⟩
    rw [upd_ne hb, upd_ne (ne_of_none (sm _ _ e) ndx)]
    exact sm _ _ e
end
end TX
namespace TX
open PySem PySem.Spec PyProof.Rows L2
theorem drop_at {es : List PyData} {i : Nat} {e : PyData} (h : es[i]? = some e) : es.drop i = e :: es.drop (i + 1) := by
  obtain ⟨hj, e1⟩ := List.getElem?_eq_some_iff.mp h
  rw [List.drop_eq_getElem_cons hj, e1]
/-! ### the part at a place, by the rules -/
def atD : PyData → List PyData → Option PyData
  | d, [] => some d
  | d, k :: ks => match k with
    | .int i => if 0 ≤ i then (match (innerD d)[i.toNat]? with
      | some e => atD e ks
      | none => none) else none
    | _ => none
def foundD (d : PyData) : PyData → Option PyData
  | .tuple ks => atD d ks
  | _ => none
theorem signs_sz : ∀ l : List Nat, szAll (l.map fun c => PyData.str ⟨#[c]⟩) = 2 * l.length
  | [] => rfl
  | c :: l => by
    have := signs_sz l
    have e : sz (PyData.str ⟨#[c]⟩) = 2 := rfl
    simp only [List.map_cons, szAll, List.length_cons]
    omega
theorem inner_sz (d : PyData) : szAll (innerD d) ≤ 2 * sz d := by
  cases d with
  | list es => simp only [innerD, sz]; omega
  | str x =>
    have e : x.length = x.cps.toList.length := by simp [Str.length]
    simp only [innerD]
    split
    · unfold signD
      rw [signs_sz]
      simp only [sz]
      omega
    · simp [szAll]
  | _ => simp [innerD, szAll]
/-- a part is no greater than what it is of, or one sign -/
theorem inner_get {d e : PyData} {i : Nat} (h : (innerD d)[i]? = some e) : sz e ≤ sz d ∨ sz e ≤ 2 := by
  cases d with
  | list es =>
    have := sz_get (ds := es) h
    simp only [sz]
    omega
  | str x =>
    right
    simp only [innerD] at h
    split at h
    · unfold signD at h
      rw [List.getElem?_map] at h
      cases h2 : x.cps.toList[i]? with
      | none =>
        rw [h2] at h
        cases h
      | some c =>
        rw [h2] at h
        cases h
        exact Nat.le_refl 2
    · simp at h
  | _ => simp [innerD] at h
def spFound (K : PySem.W.Frag) (NP : Addr) : Sp := fun vs H Q E => ∃ (v u : V) (d pl : PyData) (Hv : Hp), vs = [v, u] ∧ Same Hv H ∧ Dp K Hv v d ∧ Dp K Hv u pl ∧ sz d ≤ 10000 ∧ nd pl ≤ 1000000 ∧
  (∀ e, foundD d pl = some e → ∀ H' w, Same H H' → Dp K Hv w e → Q w H') ∧ (foundD d pl = none → ∀ (H3 : Hp) (dx : Addr) (w : V), Same H H3 → H3 dx = some (.xd [("place", w)]) → Dp K H3 w pl → E (.ref NP) (some dx) H3)
section
variable {P : Program} {w : World} {K : PySem.W.Frag} {mg : Str → Option Value} {base : Heap} {TE NP : Addr}
theorem scFound : FnScope ["value", "place", "part", "at", "inner"] ["value", "place"] (defScope s_found_at) := ⟨rfl, rfl, rfl, by decide +kernel, rfl, by decide +kernel, by decide +kernel⟩
theorem ok_found {f fW fN fI : Addr} {fd dW dN dI : FuncData} (F : Fun K "found_at" "found_at" s_found_at f fd) (T : Nm mg) (B : Nb mg) (c : Cl K mg TE "NoPlace" NP) (iC : PySem.W.findIn K (.ref NP) "__init__" = some (some (.ref fI))) (tI : PySem.W.typeIn K (.ref fI) = some (.type "function")) (nP : PySem.W.findIn K (.ref NP) "place" = some none)
    (GI : FnOk P w K mg base CX0 3 fI dI ["self", "place"] (spIn1 K NP "place")) (bI : Binds K dI ["self", "place"] [])
    (GW : FnOk P w K mg base CX0 1 fW dW ["thing"] (spWhole K)) (gW : mg "is_whole_number" = some (.ref fW)) (kW : PySem.W.keepIn K (.ref fW) = true) (bW : Binds K dW ["thing"] [])
    (GN : FnOk P w K mg base CX0 1 fN dN ["part"] (spInner K)) (gN : mg "inner_of" = some (.ref fN)) (kN : PySem.W.keepIn K (.ref fN) = true) (bN : Binds K dN ["part"] []) :
    FnOk P w K mg base (L2.CX P w) 5 f fd ["value", "place"] (spFound K NP) := by
  refine F.okX scFound (fun vs H Q E h => ?_) (fun cdv A outer s H vs Q E hr h => ?_)
  · obtain ⟨v, u, d, pl, Hv, rfl, _⟩ := h
    rfl
  · obtain ⟨v, u, d, pl, Hv, rfl, sv, hd, hu, hz, hnd, q1, q2⟩ := h
    have r1 : Room 1 _ := hr.mono (by decide)
    refine ⟨_, pss_cons (ps_if (pt_not (pt_val (pe_callB call_isi (by rfl) T.isi (by decide +kernel) (pa_cons (pv 1) (pa_cons (pe_bltn (v := .ty "tuple") (by rfl) T.tpl (by decide +kernel) rfl) pa_nil)))))
        (pss_one (ps_raise rfl (takes_of rfl rfl rfl rfl) (by exact (pmk_oex c.ox iC tI GI hr bI .nil pass0 (by rfl) c.mgC (pa_cons (pv 1) pa_nil))))) pss_nil) <|
      pss_cons (ps_set (i := 2) scFound.nd rfl (.inl rfl) (pv 0)) <|
      pss_cons (ps_for (passes_of rfl) rfl (pi_tup (pv 1)) (pg_name (i := 3) scFound.nd rfl (.inl rfl)) (
        pss_cons (ps_set (i := 4) scFound.nd rfl (.inl rfl) (pe_call GN r1 (by rfl) gN kN bN .nil pass0 (pa_cons (pv 2) pa_nil))) <|
        pss_cons (ps_if (PW.pt (pw_or (pt_not (pt_val (pe_call GW r1 (by rfl) gW kW bW .nil pass0 (pa_cons (pv 3) pa_nil)))) (pw_or1 (pt_not (pt_chain op_le op_lt pe_int (pv 3) (pe_callB call_len_seq (by rfl) B.len PySem.boot_len (pa_cons (pv 4) pa_nil)))))))
          (pss_one (ps_raise rfl (takes_of rfl rfl rfl rfl) (by exact (pmk_oex c.ox iC tI GI hr bI .nil pass0 (by rfl) c.mgC (pa_cons (pv 1) pa_nil))))) pss_nil) <|
        pss_one (ps_set (i := 2) scFound.nd rfl (.inl rfl) (pe_ix ix_list (pv 4) (pv 3) (fun _ _ => rfl))))) <|
      pss_one (ps_ret (pv 2)), ?_⟩
    have ty := dp_ty (dp_same sv _ _ hu)
    -- NoPlace(place)
    have bad : foundD d pl = none → ∀ (G : Hp), Same H G → ∀ {z : Q = Q}, ∀ a, G a = none → ∃ (a' : Addr) (v' : V) (d' : PyData) (Hw : Hp), [V.ref a, u] = [.ref a', v'] ∧ OexC K NP ∧ PySem.W.findIn K (.ref NP) "place" = some none ∧ (upd G a (exo a NP none)) a' = some (exo a' NP none) ∧ Same Hw (upd G a (exo a NP none)) ∧ Dp K Hw v' d' ∧ nd d' ≤ 1000000 ∧
        ∀ (H2 : Hp) (dx : Addr) (w : V), Made K (upd G a (exo a NP none)) a' NP dx [("place", w)] H2 [w] [d'] → V.non = .non ∧ ∃ (dy : Addr) (fs : List (Str × V)), H2 a = some (exo a NP (some dy)) ∧ H2 dy = some (exd dy fs) ∧ G dy = none ∧ E (.ref NP) (some dy) (upd (del H2 a) dy (.xd fs)) := by
      intro e G sm _ a na
      refine ⟨a, u, pl, Hv, rfl, c.ox, nP, upd_same, (sv.trans sm).trans (same_upd na), hu, hnd, fun H2 dx w M => ?_⟩
      obtain ⟨s2, nx, hw⟩ := made_same (fs' := [("place", w)]) na M
      cases hw with
      | cons hw _ => exact ⟨rfl, dx, _, M.ea, M.ed, nx, q2 e _ dx w (sm.trans s2) upd_same hw⟩
    refine ⟨_, rfl, u, .ty "tuple", .type (tyD pl), .type "tuple", _, rfl, .ty _, ty, kit1 pl K, _, rfl, ?_⟩
    by_cases e : (tyD pl == "tuple") = true
    · rw [e]
      refine iteF ?_
      cases hu with
      | @tup t us ks t1 t2 =>
        refine ⟨_, rfl, ?_⟩
        have tl := DpAll.length t2
        refine ⟨_, rfl, t, rfl, ⟨us, same_sqt sv t1⟩, for_it (walk_tup (K := K) (a := t) (xs := us)) (fun i σ H1 => ∃ (w : V) (e : PyData) (y3 y4 : Option V), σ = [some v, some (.ref t), some w, y3, y4] ∧ Same H H1 ∧ Dp K Hv w e ∧ sz e ≤ 10002 ∧ foundD d (.tuple ks) = atD e (ks.drop i)) ⟨v, d, none, none, rfl, Same.refl _, hd, by omega, rfl⟩ (fun i σ H1 hi ⟨_, _, _, _, _, sm, _⟩ => same_sqt (sv.trans sm) t1) ?_ ?_⟩
        · rintro i x σ H1 H1' hi ⟨w1, e1, y3, y4, rfl, sm, hw, hz1, hf⟩ ⟨e3, hx⟩
          obtain rfl : H1 = H1' := e3.symm
          obtain ⟨kd, hk, hkd⟩ := DpAll.get t2 hx
          rw [drop_at hk] at hf
          refine ⟨_, rfl, w1, e1, Hv, rfl, sv.trans sm, hw, by omega, fun H2 b xs s2 hb hin => ?_⟩
          have xl := DpAll.length hin
          have ixl := inner_sz e1
          have ixl2 := szAll_len (innerD e1)
          refine ⟨_, rfl, x, kd, Hv, rfl, (sv.trans sm).trans s2, hkd, _, rfl, ?_⟩
          have fail : atD e1 (kd :: ks.drop (i + 1)) = none → ∀ (G : Hp), Same H G → foundD d (.tuple ks) = none := fun z _ _ => hf.trans z
          by_cases hk1 : wholeB kd = true
          · rw [hk1]
            refine iteF ?_
            cases hkd with
            | int n =>
              by_cases h0 : 0 ≤ n
              · refine ⟨_, rfl, _, _, rfl, rfl, _, rfl, ?_⟩
                rw [decide_eq_true h0]
                refine iteT ⟨_, rfl, b, xs, rfl, .inl hb, _, _, rfl, rfl, _, rfl, ?_⟩
                by_cases h1 : n < ((xs.length : Nat) : Int)
                · rw [decide_eq_true h1]
                  refine iteF ?_
                  have hget : xs[n.toNat]? = some (xs[n.toNat]'(by omega)) := List.getElem?_eq_getElem (by omega)
                  obtain ⟨e2, he2, hd2⟩ := DpAll.get hin hget
                  have en : n = ((n.toNat : Nat) : Int) := by omega
                  refine ⟨_, rfl, _, rfl, b, xs, n, _, rfl, rfl, hb, by rw [en]; exact atI_nat hget, ?_⟩
                  refine ⟨_, e2, _, _, rfl, sm.trans s2, hd2, ?_, ?_⟩
                  · rcases inner_get he2 with z | z <;> omega
                  · rw [hf]
                    simp only [atD, if_pos h0, he2]
                · rw [decide_eq_false h1]
                  refine iteT ?_
                  have hn : foundD d (.tuple ks) = none := by
                    rw [hf]
                    have : (innerD e1)[n.toNat]? = none := List.getElem?_eq_none (by omega)
                    simp only [atD, if_pos h0, this]
                  exact ⟨_, rfl, (by show 1 ≤ 1000; decide), fun a na => bad hn _ (sm.trans s2) (z := rfl) a na⟩
              · refine ⟨_, rfl, _, _, rfl, rfl, _, rfl, ?_⟩
                rw [decide_eq_false h0]
                refine iteF ⟨_, rfl, iteT ?_⟩
                have hn : foundD d (.tuple ks) = none := by
                  rw [hf]
                  simp only [atD, if_neg h0]
                exact ⟨_, rfl, (by show 1 ≤ 1000; decide), fun a na => bad hn _ (sm.trans s2) (z := rfl) a na⟩
            | _ => simp [wholeB] at hk1
          · have hk2 : wholeB kd = false := by simpa using hk1
            rw [hk2]
            refine iteT ?_
            have hn : foundD d (.tuple ks) = none := by
              rw [hf]
              cases kd <;> first | rfl | simp [wholeB] at hk2
            exact ⟨_, rfl, (by show 1 ≤ 1000; decide), fun a na => bad hn _ (sm.trans s2) (z := rfl) a na⟩
        · rintro σ H1 ⟨w1, e1, y3, y4, rfl, sm, hw, hz1, hf⟩
          rw [tl, List.drop_length] at hf
          exact ⟨_, rfl, q1 e1 hf H1 w1 sm hw⟩
      | _ => simp [tyD] at e
    · have e' : (tyD pl == "tuple") = false := by simpa using e
      rw [e']
      refine iteT ?_
      have hn : foundD d pl = none := by
        cases pl <;> first | rfl | simp [tyD] at e'
      exact ⟨_, rfl, (by show 1 ≤ 1000; decide), fun a na => bad hn _ (Same.refl _) (z := rfl) a na⟩
end
end TX
namespace TX
open PySem PySem.Spec PyProof.Rows L2
theorem at_plain : ∀ (ks : List PyData) (d e : PyData), atD d ks = some e → PyData.canLayAll0 ks = true ∧ PyData.depthAll ks = 0
  | [], _, _, _ => ⟨rfl, rfl⟩
  | k :: ks, d, e, h => by
    cases k with
    | int i =>
      simp only [atD] at h
      split at h
      · split at h
        · obtain ⟨h1, h2⟩ := at_plain ks _ e h
          simp only [PyData.canLayAll0, PyData.canLay0, h1, PyData.depthAll, PyData.depth, h2]
          exact ⟨rfl, rfl⟩
        · cases h
      · cases h
    | _ => simp [atD] at h
theorem at_shaped {ks : List PyData} {d e : PyData} (h : atD d ks = some e) : SeqAt.shaped (.tuple ks) = true := by
  obtain ⟨h1, h2⟩ := at_plain ks d e h
  unfold SeqAt.shaped
  rw [Bool.and_eq_true]
  refine ⟨by simp only [PyData.canLay0, h1], decide_eq_true ?_⟩
  simp only [PyData.depth, h2]
  omega
theorem at_init : ∀ (ks : List PyData) (d e : PyData), atD d ks = some e → ∃ e', atD d ks.dropLast = some e'
  | [], d, e, _ => ⟨d, rfl⟩
  | [k], d, e, _ => ⟨d, rfl⟩
  | k :: l :: ks, d, e, h => by
    cases k with
    | int i =>
      simp only [atD] at h
      split at h
      · rename_i h0
        split at h
        · rename_i e1 he1
          obtain ⟨e', h'⟩ := at_init (l :: ks) e1 e (by simpa only [atD] using h)
          refine ⟨e', ?_⟩
          rw [List.dropLast_cons_of_ne_nil (by simp)]
          simp only [atD, if_pos h0, he1]
          exact h'
        · cases h
      · cases h
    | _ => simp [atD] at h
def strB : PyData → Bool
  | .str _ => true
  | _ => false
/-- the part is a piece of a text -/
def tornD (d : PyData) (ks : List PyData) : Bool := match ks with
  | [] => false
  | _ => match atD d ks.dropLast with
    | some e => strB e
    | none => false
theorem DpAll.init {K : PySem.W.Frag} {H : Hp} : ∀ {xs : List V} {ds : List PyData}, DpAll K H xs ds → DpAll K H xs.dropLast ds.dropLast
  | _, _, .nil => .nil
  | _, _, .cons h .nil => .nil
  | _, _, .cons h (.cons g r) => .cons h (DpAll.init (.cons g r))
theorem nd_init : ∀ ks : List PyData, ndAll ks.dropLast ≤ ndAll ks
  | [] => Nat.le_refl _
  | [k] => by simp [ndAll]
  | k :: l :: ks => by
    have := nd_init (l :: ks)
    rw [List.dropLast_cons_of_ne_nil (by simp)]
    simp only [ndAll] at this ⊢
    omega
theorem cut_init (us : List V) : cutV us none (some (-1)) = us.dropLast := by
  have e : HT.sIx us.length us.length (some (-1)) = us.length - 1 := by
    show (if (-1 : Int) < 0 then ((-1 : Int) + ((us.length : Nat) : Int)).toNat else min (-1 : Int).toNat us.length) = us.length - 1
    rw [if_pos (by decide)]
    omega
  unfold cutV
  rw [e, HT.sIx_none, List.drop_zero, Nat.sub_zero, List.dropLast_eq_take]
def spTorn (K : PySem.W.Frag) (NP : Addr) : Sp := fun vs H Q E => ∃ (v u : V) (d pl : PyData) (Hv : Hp), vs = [v, u] ∧ Same Hv H ∧ Dp K Hv v d ∧ Dp K Hv u pl ∧ sz d ≤ 10000 ∧ nd pl ≤ 1000000 ∧
  (∀ ks e, pl = .tuple ks → atD d ks = some e → ∀ H', Same H H' → Q (.bl (tornD d ks)) H') ∧ (foundD d pl = none → ∀ (H3 : Hp) (dx : Addr) (w : V), Same H H3 → H3 dx = some (.xd [("place", w)]) → Dp K H3 w pl → E (.ref NP) (some dx) H3)
section
variable {P : Program} {w : World} {K : PySem.W.Frag} {mg : Str → Option Value} {base : Heap} {TE NP : Addr}
theorem scTorn : FnScope ["value", "place"] ["value", "place"] (defScope s_is_torn) := ⟨rfl, rfl, rfl, by decide +kernel, rfl, by decide +kernel, by decide +kernel⟩
theorem ok_torn {f fF : Addr} {fd dF : FuncData} (F : Fun K "is_torn" "is_torn" s_is_torn f fd) (T : Nm mg) (k : Nk mg) (GF : FnOk P w K mg base (L2.CX P w) 5 fF dF ["value", "place"] (spFound K NP)) (gF : mg "found_at" = some (.ref fF)) (kF : PySem.W.keepIn K (.ref fF) = true) (bF : Binds K dF ["value", "place"] []) :
    FnOk P w K mg base (L2.CX P w) 6 f fd ["value", "place"] (spTorn K NP) := by
  refine F.okX scTorn (fun vs H Q E h => ?_) (fun cdv A outer s H vs Q E hr h => ?_)
  · obtain ⟨v, u, d, pl, Hv, rfl, _⟩ := h
    rfl
  · obtain ⟨v, u, d, pl, Hv, rfl, sv, hd, hu, hz, hnd, q1, q2⟩ := h
    refine ⟨_, pss_cons (ps_expr (pe_call (E := E) GF hr (by rfl) gF kF bF .nil (passes_call (takes_of rfl rfl rfl rfl) fun _ _ _ _ z => z) (pa_cons (pv 0) (pa_cons (pv 1) pa_nil)))) <|
      pss_one (ps_ret (pe_and (pe_cmpR (op_neD hr.units) (pv 1) (pe_tup pa_nil) (nomark _)) (pe_one (pe_callB call_isi (by rfl) T.isi (by decide +kernel)
        (pa_cons (pe_call (E := E) GF hr (by rfl) gF kF bF .nil (passes_call (takes_of rfl rfl rfl rfl) fun _ _ _ _ z => z) (pa_cons (pv 0) (pa_cons (pe_slice sl_tup (pv 1) po_none (po_some (pe_un un_neg pe_int))) pa_nil)))
          (pa_cons (pe_bltn (v := .ty "str") (by rfl) k.str (by decide +kernel) rfl) pa_nil)))))), ?_⟩
    refine ⟨_, rfl, _, rfl, v, u, d, pl, Hv, rfl, sv, hd, hu, hz, hnd, fun e he H1 w1 s1 hw1 => ?_, q2⟩
    cases hu with
    | @tup t us ks t1 t2 =>
      have he' : atD d ks = some e := he
      have hu := Dp.tup (H := Hv) t1 t2
      refine ⟨_, rfl, by decide, fun t0 n0 => ⟨.tuple ks, .tuple [], dp_same (sv.trans (s1.trans (same_upd n0))) _ _ hu, .tup (SqT.of upd_same) .nil, at_shaped he', by decide +kernel, _, rfl, ?_⟩⟩
      have s2 : Same H (upd H1 t0 (.tup [])) := s1.trans (same_upd n0)
      generalize upd H1 t0 (.tup []) = G at s2
      cases ks with
      | nil =>
        have e0 : PyData.eqv (.tuple []) (.tuple []) = true := by decide +kernel
        rw [e0]
        exact iteF (q1 [] e rfl he' G s2)
      | cons k0 ks =>
        have e0 : PyData.eqv (.tuple (k0 :: ks)) (.tuple []) = false := by simp [PyData.eqv, PyData.eqvAll]
        rw [e0]
        refine iteT ?_
        have ul := DpAll.length t2
        obtain ⟨e2, he2⟩ := at_init (k0 :: ks) d e he'
        refine ⟨_, rfl, _, rfl, _, rfl, -1, rfl, t, us, rfl, same_sqt (sv.trans s2) t1, ?_, fun t3 n3 => ?_⟩
        · rintro ⟨_, z⟩
          have : HT.sIx us.length us.length (some (-1)) = us.length - 1 := by
            show (if (-1 : Int) < 0 then ((-1 : Int) + ((us.length : Nat) : Int)).toNat else min (-1 : Int).toNat us.length) = us.length - 1
            rw [if_pos (by decide)]
            omega
          rw [this] at z
          simp only [List.length_cons] at ul
          omega
        · rw [cut_init]
          have s3 : Same H (upd G t3 (.tup us.dropLast)) := s2.trans (same_upd n3)
          have h3 : (upd G t3 (.tup us.dropLast)) t3 = some (.tup us.dropLast) := upd_same
          generalize upd G t3 (.tup us.dropLast) = G3 at s3 h3
          refine ⟨v, .ref t3, d, .tuple (k0 :: ks).dropLast, G3, rfl, Same.refl _, dp_same (sv.trans s3) _ _ hd, .tup (SqT.of h3) (DpAll.init (dpAll_same (sv.trans s3) _ _ t2)), hz, ?_, fun e4 he4 H5 w5 s5 hw5 => ?_, fun hn => ?_⟩
          · have := nd_init (k0 :: ks)
            simp only [nd] at hnd ⊢
            omega
          · refine ⟨w5, .ty "str", .type (tyD e4), .type "str", _, rfl, .ty _, dp_ty (dp_same s5 _ _ hw5), kitS e4 K, ?_⟩
            have h4 : atD d (k0 :: ks).dropLast = some e4 := he4
            have et : tornD d (k0 :: ks) = (tyD e4 == "str") := by
              unfold tornD
              rw [h4]
              cases e4 <;> simp [tyD, strB]
            rw [← et]
            exact q1 (k0 :: ks) e rfl he' H5 (s3.trans s5)
          · exact absurd (he2.symm.trans hn) (fun z => nomatch z)
    | _ => simp [foundD] at he
end
end TX
namespace TX
open PySem PySem.Spec PyProof.Rows L2
/-- the way leads through lists alone -/
def okP : PyData → List PyData → Prop
  | _, [] => True
  | d, k :: ks => ∃ (i : Nat) (es : List PyData) (e : PyData), k = .int (i : Nat) ∧ d = .list es ∧ es[i]? = some e ∧ okP e ks
theorem ok_of : ∀ (ks : List PyData) (d x : PyData), atD d ks = some x → tornD d ks = false → okP d ks
  | [], _, _, _, _ => trivial
  | k :: ks, d, x, h, t => by
    cases k with
    | int n =>
      have h0 : 0 ≤ n := Classical.byContradiction fun z => by
        simp only [atD, if_neg z] at h
        cases h
      have en : ((n.toNat : Nat) : Int) = n := by omega
      simp only [atD, if_pos h0] at h
      cases he : (innerD d)[n.toNat]? with
      | none =>
        rw [he] at h
        cases h
      | some e =>
        rw [he] at h
        have h' : atD e ks = some x := h
        cases d with
        | list es =>
          refine ⟨n.toNat, es, e, by rw [en], rfl, he, ok_of ks e x h' ?_⟩
          cases ks with
          | nil => rfl
          | cons l ks =>
            have t2 : tornD (.list es) (.int n :: l :: ks) = tornD e (l :: ks) := by
              have e1 : ((PyData.int n :: l :: ks)).dropLast = .int n :: (l :: ks).dropLast := List.dropLast_cons_of_ne_nil (by simp)
              simp only [tornD, e1, atD, if_pos h0, he]
            rw [← t2]
            exact t
        | str z =>
          cases ks with
          | nil =>
            have e1 : tornD (.str z) [.int n] = true := rfl
            rw [e1] at t
            cases t
          | cons l ks =>
            exfalso
            have e2 : innerD e = [] := by
              simp only [innerD] at he
              split at he
              · unfold signD at he
                rw [List.getElem?_map] at he
                cases h2 : z.cps.toList[n.toNat]? with
                | none =>
                  rw [h2] at he
                  cases he
                | some c =>
                  rw [h2] at he
                  cases he
                  simp only [innerD]
                  rw [if_neg]
                  simp [Str.length]
              · simp at he
            cases l with
            | int m =>
              simp only [atD, e2] at h'
              split at h' <;> simp at h'
            | _ => simp [atD] at h'
        | _ => simp [innerD] at he
    | _ => simp [atD] at h
/-- the part at the way in a list of its own -/
def wrapD : PyData → List PyData → PyData
  | d, [] => .list [d]
  | d, k :: ks => match k, d with
    | .int i, .list es => match es[i.toNat]? with
      | some e => .list (es.set i.toNat (wrapD e ks))
      | none => d
    | _, d => d
theorem wrap_in {es : List PyData} {i : Nat} {e : PyData} {ks : List PyData} (h : es[i]? = some e) : wrapD (.list es) (.int (i : Nat) :: ks) = .list (es.set i (wrapD e ks)) := by
  have e1 : (((i : Nat) : Int)).toNat = i := by omega
  simp only [wrapD, e1, h]
theorem TrAll.append {H : Hp} : ∀ {ds es : List PyData} {vs ws : List V} {S T : List Addr}, TrAll H vs ds S → TrAll H ws es T → (∀ b ∈ S, b ∉ T) → TrAll H (vs ++ ws) (ds ++ es) (S ++ T)
  | [], _, _, _, _, _, h, g, _ => by cases h; exact g
  | _ :: _, _, _, _, _, _, h, g, k => by
    cases h with
    | cons h1 h2 h3 =>
      rw [List.append_assoc]
      refine .cons h1 (TrAll.append h2 g fun b hb => k b (List.mem_append_right _ hb)) fun b hb hc => ?_
      rcases List.mem_append.mp hc with z | z
      · exact h3 b hb z
      · exact k b (List.mem_append_left _ hb) z
/-- the list under the hand, and all around it -/
structure Zp (H G0 : Hp) (R h : Addr) (ws : List V) (j : Nat) (O : List Addr) (C : PyData → PyData) : Prop where
  at_ : G0 h = some (.lst ws)
  ho : h ∈ O
  fr : ∀ b ∈ O, H b = none
  on : ∀ b ∈ O, G0 b ≠ none
  run : ∀ (G : Hp) (w' : V) (e' : PyData) (S' : List Addr), (∀ b ∈ O, b ≠ h → ∀ o, G0 b = some o → G b = some o) → G h = some (.lst (ws.set j w')) → Tr G w' e' S' → (∀ b ∈ S', b ∉ O) → (∀ b ∈ S', H b = none) →
    ∃ v2 S2, G R = some (.lst [v2]) ∧ Tr G v2 (C e') S2 ∧ ∀ b ∈ S2, H b = none
theorem zp_start {H G0 : Hp} {R : Addr} {v : V} (h : G0 R = some (.lst [v])) (hR : H R = none) : Zp H G0 R R [v] 0 [R] id := by
  refine ⟨h, List.mem_cons_self, fun b hb => ?_, fun b hb => ?_, fun G w' e' S' _ g t d f => ⟨w', S', g, t, f⟩⟩
  · rw [List.mem_singleton.mp hb]
    exact hR
  · rw [List.mem_singleton.mp hb, h]
    exact fun z => nomatch z
theorem zp_step {H G0 : Hp} {R h a : Addr} {ws xs : List V} {j i : Nat} {O S1 : List Addr} {C : PyData → PyData} {es : List PyData} {e : PyData} (Z : Zp H G0 R h ws j O C) (hw : ws[j]? = some (.ref a)) (ha : G0 a = some (.lst xs)) (ht : TrAll G0 xs es S1) (na : a ∉ S1)
    (hd : ∀ b ∈ a :: S1, b ∉ O) (hf : ∀ b ∈ a :: S1, H b = none) (he : es[i]? = some e) :
    ∃ w B O', xs[i]? = some w ∧ Tr G0 w e B ∧ (∀ b ∈ B, b ∉ O') ∧ (∀ b ∈ B, H b = none) ∧ Zp H G0 R a xs i O' fun e' => C (.list (es.set i e')) := by
  obtain ⟨hi, ee⟩ := List.getElem?_eq_some_iff.mp he
  have es1 : es = es.take i ++ (e :: es.drop (i + 1)) := by
    rw [← ee, ← List.drop_eq_getElem_cons hi, List.take_append_drop]
  generalize hE1 : es.take i = E1 at es1
  generalize hE2 : es.drop (i + 1) = E2 at es1
  subst es1
  have l1 : E1.length = i := by
    rw [← hE1, List.length_take]
    omega
  obtain ⟨x1, x2, A, BD, rfl, rfl, hA, hBD, dAB⟩ := TrAll.split ht
  cases hBD with
  | @cons w _ B y2 _ D hB hD dBD =>
    have lx : x1.length = i := by rw [TrAll.length hA, l1]
    have mA : ∀ {b}, b ∈ A → b ∈ a :: (A ++ (B ++ D)) := fun hb => List.mem_cons_of_mem _ (List.mem_append_left _ hb)
    have mB : ∀ {b}, b ∈ B → b ∈ a :: (A ++ (B ++ D)) := fun hb => List.mem_cons_of_mem _ (List.mem_append_right _ (List.mem_append_left _ hb))
    have mD : ∀ {b}, b ∈ D → b ∈ a :: (A ++ (B ++ D)) := fun hb => List.mem_cons_of_mem _ (List.mem_append_right _ (List.mem_append_right _ hb))
    have aA : a ∉ A := fun z => na (List.mem_append_left _ z)
    have aB : a ∉ B := fun z => na (List.mem_append_right _ (List.mem_append_left _ z))
    have aD : a ∉ D := fun z => na (List.mem_append_right _ (List.mem_append_right _ z))
    refine ⟨w, B, O ++ (a :: (A ++ D)), by simp [← lx], hB, fun b hb hO => ?_, fun b hb => hf b (mB hb), ha, List.mem_append_right _ List.mem_cons_self, fun b hb => ?_, fun b hb => ?_, fun G w' e' S' k g t d f => ?_⟩
    · rcases List.mem_append.mp hO with z | z
      · exact hd b (mB hb) z
      · rcases List.mem_cons.mp z with z | z
        · exact aB (z ▸ hb)
        · rcases List.mem_append.mp z with z | z
          · exact dAB b z (List.mem_append_left _ hb)
          · exact dBD b hb z
    · rcases List.mem_append.mp hb with z | z
      · exact Z.fr b z
      · rcases List.mem_cons.mp z with z | z
        · exact hf b (by rw [z]; exact List.mem_cons_self)
        · rcases List.mem_append.mp z with z | z
          · exact hf b (mA z)
          · exact hf b (mD z)
    · rcases List.mem_append.mp hb with z | z
      · exact Z.on b z
      · rcases List.mem_cons.mp z with z | z
        · rw [z, ha]
          exact fun z => nomatch z
        · rcases List.mem_append.mp z with z | z
          · exact TrAll.there hA b z
          · exact TrAll.there hD b z
    · have aO : a ∉ O := hd a List.mem_cons_self
      have sx : (x1 ++ w :: y2).set i w' = x1 ++ w' :: y2 := by rw [← lx]; simp
      have se : (E1 ++ e :: E2).set i e' = E1 ++ e' :: E2 := by rw [← l1]; simp
      rw [sx] at g
      have hwj : ws.set j (.ref a) = ws := by
        obtain ⟨hj, q⟩ := List.getElem?_eq_some_iff.mp hw
        rw [← q, List.set_getElem_self]
      have ndO : ∀ b ∈ S', b ∉ O ∧ b ≠ a ∧ b ∉ A ∧ b ∉ D := fun b hb => by
        have := d b hb
        refine ⟨fun z => this (List.mem_append_left _ z), fun z => this (List.mem_append_right _ (by rw [z]; exact List.mem_cons_self)), fun z => this (List.mem_append_right _ (List.mem_cons_of_mem _ (List.mem_append_left _ z))), fun z => this (List.mem_append_right _ (List.mem_cons_of_mem _ (List.mem_append_right _ z)))⟩
      have fA : TrAll G x1 E1 A := TrAll.frame hA fun b hb o q => k b (List.mem_append_right _ (List.mem_cons_of_mem _ (List.mem_append_left _ hb))) (fun z => aA (z ▸ hb)) o q
      have fD : TrAll G y2 E2 D := TrAll.frame hD fun b hb o q => k b (List.mem_append_right _ (List.mem_cons_of_mem _ (List.mem_append_right _ hb))) (fun z => aD (z ▸ hb)) o q
      have hT : TrAll G (x1 ++ w' :: y2) (E1 ++ e' :: E2) (A ++ (S' ++ D)) := TrAll.append fA (.cons t fD fun b hb z => (ndO b hb).2.2.2 z) fun b hb z => by
        rcases List.mem_append.mp z with y | y
        · exact (ndO b y).2.2.1 hb
        · exact dAB b hb (List.mem_append_right _ y)
      have nT : a ∉ A ++ (S' ++ D) := fun z => by
        rcases List.mem_append.mp z with y | y
        · exact aA y
        · rcases List.mem_append.mp y with y | y
          · exact (ndO a y).2.1 rfl
          · exact aD y
      have k1 : ∀ b ∈ a :: (A ++ (S' ++ D)), b ∉ O := by
        intro b hb
        rcases List.mem_cons.mp hb with y | y
        · rw [y]
          exact aO
        · rcases List.mem_append.mp y with y | y
          · exact hd b (mA y)
          · rcases List.mem_append.mp y with y | y
            · exact (ndO b y).1
            · exact hd b (mD y)
      have k2 : ∀ b ∈ a :: (A ++ (S' ++ D)), H b = none := by
        intro b hb
        rcases List.mem_cons.mp hb with y | y
        · rw [y]
          exact hf a List.mem_cons_self
        · rcases List.mem_append.mp y with y | y
          · exact hf b (mA y)
          · rcases List.mem_append.mp y with y | y
            · exact f b y
            · exact hf b (mD y)
      obtain ⟨v2, S2, r1, r2, r3⟩ := Z.run G (.ref a) (.list (E1 ++ e' :: E2)) (a :: (A ++ (S' ++ D))) (fun b hb hne o q => k b (List.mem_append_left _ hb) (fun z => aO (z ▸ hb)) o q)
        (by rw [hwj]; exact k h (List.mem_append_left _ Z.ho) (fun z => aO (z ▸ Z.ho)) _ Z.at_) (.lst g hT nT) k1 k2
      exact ⟨v2, S2, r1, by rw [se]; exact r2, r3⟩
def spWrapped (K : PySem.W.Frag) (NP : Addr) : Sp := fun vs H Q E => ∃ (v u : V) (d pl : PyData) (Hv : Hp), vs = [v, u] ∧ Same Hv H ∧ Dp K Hv v d ∧ Dp K Hv u pl ∧ sz d ≤ 10000 ∧ nd d ≤ 100000 ∧ nd pl ≤ 100000 ∧
  (∀ ks e, pl = .tuple ks → atD d ks = some e → tornD d ks = false → ∀ H' v' S, Same H H' → Tr H' v' (wrapD d ks) S → (∀ b ∈ S, H b = none) → Q v' H') ∧
  ((foundD d pl = none ∨ ∃ ks, pl = .tuple ks ∧ tornD d ks = true) → ∀ (H3 : Hp) (dx : Addr) (w : V), Same H H3 → H3 dx = some (.xd [("place", w)]) → Dp K H3 w pl → E (.ref NP) (some dx) H3)
section
variable {P : Program} {w : World} {K : PySem.W.Frag} {mg : Str → Option Value} {base : Heap} {TE NP : Addr}
theorem scWrapped : FnScope ["value", "place", "row", "holder", "at", "step"] ["value", "place"] (defScope s_wrapped) := ⟨rfl, rfl, rfl, by decide +kernel, rfl, by decide +kernel, by decide +kernel⟩
theorem ok_wrapped {f fF fI fC : Addr} {fd dF dI dC : FuncData} (F : Fun K "wrapped" "wrapped" s_wrapped f fd) (c : Cl K mg TE "NoPlace" NP) (iC : PySem.W.findIn K (.ref NP) "__init__" = some (some (.ref fI))) (tI : PySem.W.typeIn K (.ref fI) = some (.type "function")) (nP : PySem.W.findIn K (.ref NP) "place" = some none)
    (GI : FnOk P w K mg base CX0 3 fI dI ["self", "place"] (spIn1 K NP "place")) (bI : Binds K dI ["self", "place"] [])
    (GC : FnOk P w K mg base CX0 2 fC dC ["thing"] (spCopyT K)) (gC : mg "copy_of" = some (.ref fC)) (kC : PySem.W.keepIn K (.ref fC) = true) (bC : Binds K dC ["thing"] [])
    (GF : FnOk P w K mg base (L2.CX P w) 6 fF dF ["value", "place"] (spTorn K NP)) (gF : mg "is_torn" = some (.ref fF)) (kF : PySem.W.keepIn K (.ref fF) = true) (bF : Binds K dF ["value", "place"] []) :
    FnOk P w K mg base (L2.CX P w) 7 f fd ["value", "place"] (spWrapped K NP) := by
  refine F.okX scWrapped (fun vs H Q E h => ?_) (fun cdv A outer s H vs Q E hr h => ?_)
  · obtain ⟨v, u, d, pl, Hv, rfl, _⟩ := h
    rfl
  · obtain ⟨v, u, d, pl, Hv, rfl, sv, hd, hu, hz, hnd, hnp, q1, q2⟩ := h
    have r4 : Room 4 _ := hr.mono (by decide)
    have r2 : Room 2 _ := hr.mono (by decide)
    have r6 : Room 6 _ := hr.mono (by decide)
    refine ⟨_, pss_cons (ps_if (pt_val (pe_call (E := E) GF r6 (by rfl) gF kF bF .nil (passes_call (takes_of rfl rfl rfl rfl) fun _ _ _ _ z => z) (pa_cons (pv 0) (pa_cons (pv 1) pa_nil))))
        (pss_one (ps_raise rfl (takes_of rfl rfl rfl rfl) (by exact (pmk_oex c.ox iC tI GI r4 bI .nil pass0 (by rfl) c.mgC (pa_cons (pv 1) pa_nil))))) pss_nil) <|
      pss_cons (ps_set (i := 2) scWrapped.nd rfl (.inl rfl) (pe_lst (pa_cons (pe_call GC r2 (by rfl) gC kC bC .nil pass0 (pa_cons (pv 0) pa_nil)) pa_nil))) <|
      pss_cons (ps_par (i := 3) (j := 4) rfl scWrapped.nd rfl rfl (by decide) rfl rfl (pa_cons (pv 2) (pa_cons pe_int pa_nil)) (by rfl)) <|
      pss_cons (ps_for (passes_of rfl) rfl (pi_tup (pv 1)) (pg_name (i := 5) scWrapped.nd rfl (.inl rfl))
        (pss_one (ps_par (i := 3) (j := 4) rfl scWrapped.nd rfl rfl (by decide) rfl rfl (pa_cons (pe_ix ix_list (pv 3) (pv 4) (fun _ _ => rfl)) (pa_cons (pv 5) pa_nil)) (by rfl)))) <|
      pss_cons (ps_asg (pe_lst (pa_cons (pe_ix ix_list (pv 3) (pv 4) (fun _ _ => rfl)) pa_nil)) (pg_sub (pv 3) (pv 4) set_list)) <|
      pss_one (ps_ret (pe_ix ix_list (pv 2) pe_int (fun _ _ => rfl))), ?_⟩
    have bad : (foundD d pl = none ∨ ∃ ks, pl = .tuple ks ∧ tornD d ks = true) → ∀ (G : Hp), Same H G → ∀ {z : Q = Q}, ∀ a, G a = none → ∃ (a' : Addr) (v' : V) (d' : PyData) (Hw : Hp), [V.ref a, u] = [.ref a', v'] ∧ OexC K NP ∧ PySem.W.findIn K (.ref NP) "place" = some none ∧ (upd G a (exo a NP none)) a' = some (exo a' NP none) ∧ Same Hw (upd G a (exo a NP none)) ∧ Dp K Hw v' d' ∧ nd d' ≤ 1000000 ∧
        ∀ (H2 : Hp) (dx : Addr) (w : V), Made K (upd G a (exo a NP none)) a' NP dx [("place", w)] H2 [w] [d'] → V.non = .non ∧ ∃ (dy : Addr) (fs : List (Str × V)), H2 a = some (exo a NP (some dy)) ∧ H2 dy = some (exd dy fs) ∧ G dy = none ∧ E (.ref NP) (some dy) (upd (del H2 a) dy (.xd fs)) := by
      intro e G sm _ a na
      refine ⟨a, u, pl, Hv, rfl, c.ox, nP, upd_same, (sv.trans sm).trans (same_upd na), hu, by omega, fun H2 dx w M => ?_⟩
      obtain ⟨s2, nx, hw⟩ := made_same (fs' := [("place", w)]) na M
      cases hw with
      | cons hw _ => exact ⟨rfl, dx, _, M.ea, M.ed, nx, q2 e _ dx w (sm.trans s2) upd_same hw⟩
    refine ⟨_, rfl, _, rfl, v, u, d, pl, Hv, rfl, sv, hd, hu, hz, by omega, fun ks x ep hx H1 s1 => ⟨_, rfl, ?_⟩, fun hn => q2 (.inl hn)⟩
    subst ep
    cases htr : tornD d ks with
    | true => exact iteT ⟨_, rfl, (by show 1 ≤ 1000; decide), fun a na => bad (.inr ⟨ks, rfl, htr⟩) _ s1 (z := rfl) a na⟩
    | false =>
      refine iteF ?_
      have hok := ok_of ks d x hx htr
      cases hu with
      | @tup t us ks t1 t2 =>
        have tl := DpAll.length t2
        refine ⟨_, rfl, v, d, Hv, rfl, sv.trans s1, hd, by omega, fun H2 v2 S s2 tr nw => ⟨by show 1 ≤ sizeLine; decide, fun R nR => ?_⟩⟩
        refine ⟨_, rfl, _, _, rfl, ?_⟩
        have s3 : Same H (upd H2 R (.lst [v2])) := (s1.trans s2).trans (same_upd nR)
        have hR : H R = none := (s1.trans s2).free nR
        have g0 : (upd H2 R (.lst [v2])) R = some (.lst [v2]) := upd_same
        have tr' : Tr (upd H2 R (.lst [v2])) v2 d S := Tr.frame tr fun b _ o e => same_upd nR b o e
        have nS : ∀ b ∈ S, b ∉ [R] := fun b hb z => Tr.there tr b hb (by rw [List.mem_singleton.mp z]; exact nR)
        generalize upd H2 R (.lst [v2]) = G0 at s3 g0 tr'
        refine ⟨_, rfl, t, rfl, ⟨us, same_sqt (sv.trans s3) t1⟩, for_it (walk_tup (K := K) (a := t) (xs := us)) (fun i σ H3 => H3 = G0 ∧ ∃ (h : Addr) (ws : List V) (j : Nat) (w : V) (e : PyData) (S : List Addr) (O : List Addr) (C : PyData → PyData) (y5 : Option V),
          σ = [some v, some (.ref t), some (.ref R), some (.ref h), some (.int (j : Nat)), y5] ∧ Zp H G0 R h ws j O C ∧ ws[j]? = some w ∧ Tr G0 w e S ∧ (∀ b ∈ S, b ∉ O) ∧ (∀ b ∈ S, H b = none) ∧ okP e (ks.drop i) ∧ C (wrapD e (ks.drop i)) = wrapD d ks)
          ⟨rfl, R, [v2], 0, v2, d, S, [R], id, none, rfl, zp_start g0 hR, rfl, tr', nS, fun b hb => s1.free (nw b hb), hok, rfl⟩ (fun i σ H3 hi ⟨e, _⟩ => e ▸ same_sqt (sv.trans s3) t1) ?_ ?_⟩
        · rintro i y σ H3 H3' hi ⟨rfl, h, ws, j, w1, e, S1, O, C, y5, rfl, Z, hw, ht, hS, hf, hp, hc⟩ ⟨e3, hx3⟩
          obtain rfl : H3 = H3' := e3.symm
          obtain ⟨kd, hk, hkd⟩ := DpAll.get t2 hx3
          rw [drop_at hk] at hp hc
          obtain ⟨n, es, e1, rfl, rfl, he1, hp1⟩ := hp
          cases hkd
          cases ht with
          | @lst a xs _ S' h1 h2 h3 =>
            obtain ⟨w2, B, O', hw2, hB, dB, fB, Z'⟩ := zp_step Z hw h1 h2 h3 hS hf he1
            refine ⟨_, rfl, _, rfl, h, ws, _, _, rfl, rfl, SqL.of Z.at_, atI_nat hw, _, rfl, _, _, rfl, ?_⟩
            refine ⟨rfl, a, xs, n, w2, e1, B, O', _, _, rfl, Z', hw2, hB, dB, fB, hp1, ?_⟩
            rw [← hc, wrap_in he1]
        · rintro σ H3 ⟨rfl, h, ws, j, w1, e, S1, O, C, y5, rfl, Z, hw, ht, hS, hf, hp, hc⟩
          rw [tl, List.drop_length] at hc
          refine ⟨_, rfl, _, rfl, h, ws, _, _, rfl, rfl, SqL.of Z.at_, atI_nat hw, by show 1 ≤ sizeLine; decide, fun q nq => ?_⟩
          have jl := (List.getElem?_eq_some_iff.mp hw).1
          have hq : h ≠ q := ne_of_none Z.at_ nq
          refine ⟨_, rfl, _, rfl, h, ws, _, j, rfl, rfl, by rw [upd_ne hq]; exact Z.at_, ?_, ?_⟩
          · unfold ixN
            rw [if_pos (by omega), if_pos (by omega)]
            congr 1
          · have nqH : H q = none := s3.free nq
            have tq : Tr (upd (upd H3 q (.lst [w1])) h (.lst (ws.set j (.ref q)))) (.ref q) (.list [e]) (q :: (S1 ++ [])) := by
              refine .lst (xs := [w1]) (by rw [upd_ne hq.symm, upd_same]) (.cons (Tr.frame ht fun b hb o eb => ?_) .nil fun b hb z => nomatch z) fun z => ?_
              · rw [upd_ne (fun z => hS b hb (by rw [z]; exact Z.ho)), upd_ne (ne_of_none eb nq)]
                exact eb
              · rw [List.append_nil] at z
                exact Tr.there ht q z nq
            obtain ⟨v3, S3, r1, r2, r3⟩ := Z.run (upd (upd H3 q (.lst [w1])) h (.lst (ws.set j (.ref q)))) (.ref q) (.list [e]) (q :: (S1 ++ [])) (fun b hb hne o eb => by rw [upd_ne hne, upd_ne (ne_of_none eb nq)]; exact eb) upd_same tq
              (fun b hb => by
                rcases List.mem_cons.mp hb with z | z
                · rw [z]
                  exact fun zO => Z.on q zO nq
                · rw [List.append_nil] at z
                  exact hS b z)
              (fun b hb => by
                rcases List.mem_cons.mp hb with z | z
                · rw [z]
                  exact nqH
                · rw [List.append_nil] at z
                  exact hf b z)
            refine ⟨_, rfl, R, _, _, v3, rfl, rfl, SqL.of r1, atI_nat (j := 0) rfl, q1 ks x rfl hx htr _ v3 S3 ?_ (hc ▸ r2) r3⟩
            intro b o eb
            have bh : b ≠ h := fun z => by
              have := Z.fr h Z.ho
              rw [← z, eb] at this
              cases this
            rw [upd_ne bh, upd_ne (ne_of_none (s3 _ _ eb) nq)]
            exact s3 _ _ eb
      | _ => simp [atD] at hx
end
end TX
namespace TX
open PySem PySem.Spec PyProof.Rows L2
/-! ### the law's places: the whole ones, and the torn ones -/
mutual
def wholeD : PyData → List (List Nat)
  | .list es => [] :: wholeL 0 es
  | _ => [[]]
def wholeL : Nat → List PyData → List (List Nat)
  | _, [] => []
  | k, d :: ds => (wholeD d).map (k :: ·) ++ wholeL (k + 1) ds
end
mutual
def pieceD : PyData → List (List Nat)
  | .list es => pieceL 0 es
  | .str x => if 1 < x.length then (List.range x.length).map fun i => [i] else []
  | _ => []
def pieceL : Nat → List PyData → List (List Nat)
  | _, [] => []
  | k, d :: ds => (pieceD d).map (k :: ·) ++ pieceL (k + 1) ds
end
theorem wholeL_snoc : ∀ (a : List PyData) (e : PyData) (k : Nat), wholeL k (a ++ [e]) = wholeL k a ++ (wholeD e).map ((k + a.length) :: ·)
  | [], e, k => by simp [wholeL]
  | d :: a, e, k => by
    have := wholeL_snoc a e (k + 1)
    have h : k + 1 + a.length = k + (d :: a).length := by simp; omega
    rw [List.cons_append, wholeL, this, wholeL, h, List.append_assoc]
theorem pieceL_snoc : ∀ (a : List PyData) (e : PyData) (k : Nat), pieceL k (a ++ [e]) = pieceL k a ++ (pieceD e).map ((k + a.length) :: ·)
  | [], e, k => by simp [pieceL]
  | d :: a, e, k => by
    have := pieceL_snoc a e (k + 1)
    have h : k + 1 + a.length = k + (d :: a).length := by simp; omega
    rw [List.cons_append, pieceL, this, pieceL, h, List.append_assoc]
mutual
theorem whole_len : ∀ d : PyData, (wholeD d).length ≤ nd d
  | .list es => by
    have := wholeL_len 0 es
    simp only [wholeD, nd, List.length_cons]
    omega
  | .none => by simp [wholeD, nd]
  | .bool _ => by simp [wholeD, nd]
  | .int _ => by simp [wholeD, nd]
  | .str _ => by simp [wholeD, nd]
  | .tuple _ => by simp [wholeD, nd]
  | .dict _ => by simp [wholeD, nd]
theorem wholeL_len : ∀ (k : Nat) (ds : List PyData), (wholeL k ds).length ≤ ndAll ds
  | _, [] => by simp [wholeL]
  | k, d :: ds => by
    have h1 := whole_len d
    have h2 := wholeL_len (k + 1) ds
    simp only [wholeL, ndAll, List.length_append, List.length_map]
    omega
end
mutual
theorem piece_len : ∀ d : PyData, (pieceD d).length ≤ sz d
  | .list es => by
    have := pieceL_len 0 es
    simp only [pieceD, sz]
    omega
  | .str x => by
    simp only [pieceD, sz]
    split
    · simp
    · simp
  | .none => by simp [pieceD]
  | .bool _ => by simp [pieceD]
  | .int _ => by simp [pieceD]
  | .tuple _ => by simp [pieceD]
  | .dict _ => by simp [pieceD]
theorem pieceL_len : ∀ (k : Nat) (ds : List PyData), (pieceL k ds).length ≤ szAll ds
  | _, [] => by simp [pieceL]
  | k, d :: ds => by
    have h1 := piece_len d
    have h2 := pieceL_len (k + 1) ds
    simp only [pieceL, szAll, List.length_append, List.length_map]
    omega
end
/-- lists of places, each a tuple of its own -/
inductive Pls (H : Hp) : List V → List (List Nat) → Prop
  | nil : Pls H [] []
  | cons {t : Addr} {p : List Nat} {ws : List V} {ps : List (List Nat)} : H t = some (.tup (natV p)) → Pls H ws ps → Pls H (.ref t :: ws) (p :: ps)
theorem Pls.same {H H' : Hp} (s : Same H H') : ∀ {ws : List V} {ps : List (List Nat)}, Pls H ws ps → Pls H' ws ps
  | _, _, .nil => .nil
  | _, _, .cons h r => .cons (s _ _ h) (Pls.same s r)
theorem Pls.append {H : Hp} : ∀ {ws us : List V} {ps qs : List (List Nat)}, Pls H ws ps → Pls H us qs → Pls H (ws ++ us) (ps ++ qs)
  | _, _, _, _, .nil, g => g
  | _, _, _, _, .cons h r, g => .cons h (Pls.append r g)
theorem Pls.len {H : Hp} : ∀ {ws : List V} {ps : List (List Nat)}, Pls H ws ps → ws.length = ps.length
  | _, _, .nil => rfl
  | _, _, .cons _ r => congrArg (· + 1) (Pls.len r)
theorem Pls.get {H : Hp} : ∀ {ws : List V} {ps : List (List Nat)} {i : Nat} {x : V}, Pls H ws ps → ws[i]? = some x → ∃ t p, x = .ref t ∧ H t = some (.tup (natV p)) ∧ ps[i]? = some p
  | _, _, i, x, .nil, e => by simp at e
  | _, _, 0, x, .cons h r, e => by
    simp at e
    exact ⟨_, _, e.symm, h, rfl⟩
  | _, _, i + 1, x, .cons h r, e => by
    obtain ⟨t, p, a, b, c⟩ := Pls.get r (i := i) (x := x) (by simpa using e)
    exact ⟨t, p, a, b, by simpa using c⟩
theorem natV_nil {p : List Nat} (h : natV p = []) : p = [] := by
  cases p with
  | nil => rfl
  | cons _ _ => cases h
def tLift (K : PySem.W.Frag) (i : Nat) : TE := tLc (iList K (tVar i)) (gName 7) tYes (tOp (rCatT K) (tTup (tCons (tVar 3) tNil)) (tVar 7)) [7]
/-- [(n,) + place for place in places] -/
theorem read_lift {K : PySem.W.Frag} {y0 y1 y2 y4 y5 y6 y7 : Option V} {n i : Nat} {G : Hp} {Q : VK} {a : Addr} {ws : List V} {ps : List (List Nat)} (e : ([y0, y1, y2, some (.int (n : Nat)), y4, y5, y6, y7] : L2.St)[i]? = some (some (.ref a))) (ha : G a = some (.lst ws)) (hp : Pls G ws ps) (hl : ps.length ≤ 10000) (hq : ∀ p ∈ ps, p.length ≤ 10000)
    (q : ∀ (G' : Hp) (D : Addr) (us : List V), Same G G' → G' D = some (.lst us) → Pls G' us (ps.map (n :: ·)) → Q (.ref D) G') : tLift K i [y0, y1, y2, some (.int (n : Nat)), y4, y5, y6, y7] G Q := by
  refine ⟨_, e, a, rfl, ⟨_, SqL.of ha⟩, fun D nD => lc_list (K := K) (a := a) (xs := ws) (fun j H' => ∃ us, H' D = some (.lst us) ∧ us.length = j ∧ Pls H' us ((ps.map (n :: ·)).take j) ∧ Same G H') ⟨[], upd_same, rfl, .nil, same_upd nD⟩ (fun j H' hj ⟨_, _, _, _, sm⟩ => SqL.of (sm _ _ ha)) ?_ ?_⟩
  · rintro j x H' hx ⟨us, g1, g2, g3, sm⟩
    obtain ⟨t, p, rfl, ht, hpj⟩ := Pls.get hp hx
    have hjl := (List.getElem?_eq_some_iff.mp hpj).1
    have hpl := hq p (List.mem_of_getElem? hpj)
    have tk : (ps.map (n :: ·)).take (j + 1) = (ps.map (n :: ·)).take j ++ [n :: p] := by
      rw [List.take_add_one, List.getElem?_map, hpj]
      rfl
    have more : ∀ (H2 : Hp) (t2 : Addr), Same H' H2 → H2 t2 = some (.tup (natV (n :: p))) → ∃ acc, H2 D = some (.lst acc) ∧ acc.length < sizeLine ∧ ∃ us2, (upd H2 D (.lst (acc ++ [.ref t2]))) D = some (.lst us2) ∧ us2.length = j + 1 ∧ Pls (upd H2 D (.lst (acc ++ [.ref t2]))) us2 ((ps.map (n :: ·)).take (j + 1)) ∧ Same G (upd H2 D (.lst (acc ++ [.ref t2]))) := by
      intro H2 t2 s2 ht2
      have keep : ∀ {b xs}, H2 b = some (.tup xs) → (upd H2 D (.lst (us ++ [.ref t2]))) b = some (.tup xs) := fun {b xs} e => by
        rw [upd_ne (fun z => by rw [z, s2 _ _ g1] at e; cases e)]
        exact e
      have lift : ∀ {vs : List V} {qs : List (List Nat)}, Pls H2 vs qs → Pls (upd H2 D (.lst (us ++ [.ref t2]))) vs qs := by
        intro vs qs r
        induction r with
        | nil => exact .nil
        | cons h _ ih => exact .cons (keep h) ih
      refine ⟨us, s2 _ _ g1, Nat.lt_of_le_of_lt (show us.length ≤ 10000 by omega) (by decide), _, upd_same, by simp [g2], ?_, same_fresh nD (sm.trans s2)⟩
      rw [tk]
      exact Pls.append (lift (Pls.same s2 g3)) (.cons (keep ht2) .nil)
    refine ⟨rfl, _, rfl, by show 1 ≤ sizeLine; decide, fun t1 n1 => ⟨_, rfl, t1, t, _, _, rfl, rfl, SqT.of upd_same, SqT.of (same_upd n1 _ _ (sm _ _ ht)), by simp, ?_, fun e0 => ?_, fun _ t2 n2 => ?_⟩⟩
    · refine Nat.le_trans (show 1 + (natV p).length ≤ 20000 from ?_) (by decide)
      simp only [natV, List.length_map]
      omega
    · have p0 := natV_nil e0
      subst p0
      exact more _ t1 (same_upd n1) upd_same
    · exact more _ t2 ((same_upd n1).trans (same_upd n2)) upd_same
  · rintro H' ⟨us, g1, g2, g3, sm⟩
    have pl := Pls.len hp
    rw [List.take_of_length_le (by rw [List.length_map]; omega)] at g3
    exact q H' D us sm g1 g3
mutual
theorem whole_short : ∀ (d : PyData), ∀ p ∈ wholeD d, p.length ≤ d.depth
  | .list es => fun p hp => by
    rcases List.mem_cons.mp hp with e | e
    · rw [e]
      simp
    · have := wholeL_short 0 es p e
      simp only [PyData.depth]
      omega
  | .none => fun p hp => by simp [wholeD] at hp; simp [hp]
  | .bool _ => fun p hp => by simp [wholeD] at hp; simp [hp]
  | .int _ => fun p hp => by simp [wholeD] at hp; simp [hp]
  | .str _ => fun p hp => by simp [wholeD] at hp; simp [hp]
  | .tuple _ => fun p hp => by simp [wholeD] at hp; simp [hp]
  | .dict _ => fun p hp => by simp [wholeD] at hp; simp [hp]
theorem wholeL_short : ∀ (k : Nat) (ds : List PyData), ∀ p ∈ wholeL k ds, p.length ≤ PyData.depthAll ds + 1
  | _, [] => fun p hp => by simp [wholeL] at hp
  | k, d :: ds => fun p hp => by
    simp only [wholeL] at hp
    rcases List.mem_append.mp hp with e | e
    · obtain ⟨q, hq, rfl⟩ := List.mem_map.mp e
      have := whole_short d q hq
      simp only [PyData.depthAll, List.length_cons]
      omega
    · have := wholeL_short (k + 1) ds p e
      simp only [PyData.depthAll]
      omega
end
mutual
theorem piece_short : ∀ (d : PyData), ∀ p ∈ pieceD d, p.length ≤ d.depth + 1
  | .list es => fun p hp => by
    have := pieceL_short 0 es p (by simpa only [pieceD] using hp)
    simp only [PyData.depth]
    omega
  | .str x => fun p hp => by
    simp only [pieceD] at hp
    split at hp
    · obtain ⟨i, _, rfl⟩ := List.mem_map.mp hp
      simp
    · simp at hp
  | .none => fun p hp => by simp [pieceD] at hp
  | .bool _ => fun p hp => by simp [pieceD] at hp
  | .int _ => fun p hp => by simp [pieceD] at hp
  | .tuple _ => fun p hp => by simp [pieceD] at hp
  | .dict _ => fun p hp => by simp [pieceD] at hp
theorem pieceL_short : ∀ (k : Nat) (ds : List PyData), ∀ p ∈ pieceL k ds, p.length ≤ PyData.depthAll ds + 2
  | _, [] => fun p hp => by simp [pieceL] at hp
  | k, d :: ds => fun p hp => by
    simp only [pieceL] at hp
    rcases List.mem_append.mp hp with e | e
    · obtain ⟨q, hq, rfl⟩ := List.mem_map.mp e
      have := piece_short d q hq
      simp only [PyData.depthAll, List.length_cons]
      omega
    · have := pieceL_short (k + 1) ds p e
      simp only [PyData.depthAll]
      omega
end
def spPlaces (K : PySem.W.Frag) (N : Nat) : Sp := fun vs H Q _ => ∃ (v : V) (d : PyData) (Hv : Hp), vs = [v] ∧ Same Hv H ∧ Dp K Hv v d ∧ valD d ∧ d.depth ≤ N ∧ d.depth ≤ 5000 ∧ sz d ≤ 5000 ∧ nd d ≤ 5000 ∧
  ∀ (H' : Hp) (t a b : Addr) (wa wb : List V), Same H H' → H' t = some (.tup [.ref a, .ref b]) → H' a = some (.lst wa) → H' b = some (.lst wb) → Pls H' wa (wholeD d) → Pls H' wb (pieceD d) → Q (.ref t) H'
theorem nd_get' : ∀ {ds : List PyData} {i : Nat} {d : PyData}, ds[i]? = some d → nd d ≤ ndAll ds
  | [], i, d, e => by simp at e
  | x :: ds, 0, d, e => by
    simp at e
    subst e
    simp only [ndAll]
    omega
  | x :: ds, i + 1, d, e => by
    have := nd_get' (ds := ds) (i := i) (d := d) (by simpa using e)
    simp only [ndAll]
    omega
section
variable {P : Program} {w : World} {K : PySem.W.Frag} {mg : Str → Option Value} {base : Heap}
theorem scPlaces : FnScope ["_law_value_here", "_law_whole", "_law_torn", "_law_at", "_law_one", "_law_inner", "_law_pieces", "_law_place"] ["_law_value_here"] (defScope s__law_places) := ⟨rfl, rfl, rfl, by decide +kernel, rfl, by decide +kernel, by decide +kernel⟩
theorem ok_places1 {f : Addr} {fd : FuncData} (F : Fun K "_law_places" "_law_places" s__law_places f fd) (T : Nm mg) (k : Nk mg) (B : Nb mg) (Y : Nv mg) (b : Binds K fd ["_law_value_here"] []) (g : mg "_law_places" = some (.ref f)) (N : Nat) (G : ∀ j : { M : Nat // M + 1 = N }, FnOk P w K mg base CX0 (j.1 + 1) f fd ["_law_value_here"] (spPlaces K j.1)) :
    FnOk P w K mg base CX0 (N + 1) f fd ["_law_value_here"] (spPlaces K N) := by
  refine F.ok scPlaces (fun vs H Q E h => ?_) (fun cdv A outer s H vs Q E hr h => ?_)
  · obtain ⟨v, d, Hv, rfl, _⟩ := h
    rfl
  · obtain ⟨v, d, Hv, rfl, sv, hd, hv, hN, hdp, hz, hnd, q⟩ := h
    have hrR : ∀ j : { M : Nat // M + 1 = N }, Room (j.1 + 1) _ := fun j => hr.mono (by have := j.2; omega)
    refine ⟨_, pss_cons (ps_par (i := 1) (j := 2) rfl scPlaces.nd rfl rfl (by decide) rfl rfl (pa_cons (pe_lst (pa_cons (pe_tup pa_nil) pa_nil)) (pa_cons (pe_lst pa_nil) pa_nil)) (by rfl)) <|
      pss_cons (ps_if (pt_val (pe_callB call_isi (by rfl) T.isi (by decide +kernel) (pa_cons (pv 0) (pa_cons (pe_bltn (v := .ty "list") (by rfl) T.lst (by decide +kernel) rfl) pa_nil))))
        (pss_one (ps_for PassesOwn.never rfl (pi_enum (by rfl) B.enum (pa_cons (pv 0) pa_nil)) (pg_tup rfl (pgs_cons (pg_name (i := 3) scPlaces.nd rfl (.inr rfl)) (pgs_cons (pg_name (i := 4) scPlaces.nd rfl (.inl rfl)) pgs_nil))) (
          pss_cons (ps_asg (pe_ex fun j => pe_call (G j) (hrR j) (by rfl) g F.kp b .nil pass0 (pa_cons (pv 4) pa_nil)) (pg_tup rfl (pgs_cons (pg_name (i := 5) scPlaces.nd rfl (.inl rfl)) (pgs_cons (pg_name (i := 6) scPlaces.nd rfl (.inl rfl)) pgs_nil)))) <|
          pss_one (ps_par (i := 1) (j := 2) rfl scPlaces.nd rfl rfl (by decide) rfl rfl
            (pa_cons (pe_op op_cat (pv 1) (pe_lc (own := [("_law_place", 7)]) (g := gName 7) (tt := tYes) (te := tOp (rCatT K) (tTup (tCons (tVar 3) tNil)) (tVar 7)) rfl scPlaces.nd (pi_list (pv 5))
                (blkOk_by (own := [("_law_place", 7)]) (N := ["_law_value_here", "_law_whole", "_law_torn", "_law_at", "_law_one", "_law_inner", "_law_pieces", "_law_place"]) (sc := defScope s__law_places) (by decide +kernel)) (fun _ _ _ _ _ => pg_name (i := 7) scPlaces.nd rfl (Or.inl rfl)) (fun _ _ _ _ _ => pts_nil)
                (fun _ _ _ _ _ => pe_op op_catT (pe_tup (pa_cons (pv 3) pa_nil)) (pv 7))))
              (pa_cons (pe_op op_cat (pv 2) (pe_lc (own := [("_law_place", 7)]) (g := gName 7) (tt := tYes) (te := tOp (rCatT K) (tTup (tCons (tVar 3) tNil)) (tVar 7)) rfl scPlaces.nd (pi_list (pv 6))
                (blkOk_by (own := [("_law_place", 7)]) (N := ["_law_value_here", "_law_whole", "_law_torn", "_law_at", "_law_one", "_law_inner", "_law_pieces", "_law_place"]) (sc := defScope s__law_places) (by decide +kernel)) (fun _ _ _ _ _ => pg_name (i := 7) scPlaces.nd rfl (Or.inl rfl)) (fun _ _ _ _ _ => pts_nil)
                (fun _ _ _ _ _ => pe_op op_catT (pe_tup (pa_cons (pv 3) pa_nil)) (pv 7)))) pa_nil)) (by rfl))))) pss_nil) <|
      pss_cons (ps_if (PW.pt (pw_and (pt_val (pe_callB call_isi (by rfl) T.isi (by decide +kernel) (pa_cons (pv 0) (pa_cons (pe_bltn (v := .ty "str") (by rfl) k.str (by decide +kernel) rfl) pa_nil)))) (pw_and1 (pt_cmpR op_gt (pe_callB call_len_str (by rfl) B.len PySem.boot_len (pa_cons (pv 0) pa_nil)) pe_int (nomark _)))))
        (pss_one (ps_setLc (i := 2) (own := [("_law_at", 3)]) (g := gName 3) (tt := tYes) (te := tTup (tCons (tVar 3) tNil)) rfl scPlaces.nd rfl rfl (sw_true rfl rfl rfl (by decide +kernel))
            (pi_range1 (by rfl) Y.range (pa_cons (pe_callB call_len_str (by rfl) B.len PySem.boot_len (pa_cons (pv 0) pa_nil)) pa_nil))
            (blkOk_by (own := [("_law_at", 3)]) (N := ["_law_value_here", "_law_whole", "_law_torn", "_law_at", "_law_one", "_law_inner", "_law_pieces", "_law_place"]) (sc := defScope s__law_places) (by decide +kernel)) (fun _ _ _ _ _ => pg_name (i := 3) scPlaces.nd rfl (Or.inl rfl)) (fun _ _ _ _ _ => pts_nil)
            (fun _ _ _ _ _ => pe_tup (pa_cons (pv 3) pa_nil)))) pss_nil) <|
      pss_one (ps_ret (pe_tup (pa_cons (pv 1) (pa_cons (pv 2) pa_nil)))), ?_⟩
    refine ⟨by decide, fun t0 nt0 => ⟨by show 1 ≤ sizeLine; decide, fun a0 na0 => ⟨by decide, fun b0 nb0 => ⟨_, _, rfl, ?_⟩⟩⟩⟩
    have s0 : Same H (upd (upd (upd H t0 (.tup [])) a0 (.lst [.ref t0])) b0 (.lst [])) := ((same_upd nt0).trans (same_upd na0)).trans (same_upd nb0)
    have hb0 : (upd (upd (upd H t0 (.tup [])) a0 (.lst [.ref t0])) b0 (.lst [])) b0 = some (.lst []) := upd_same
    have ha0 : (upd (upd (upd H t0 (.tup [])) a0 (.lst [.ref t0])) b0 (.lst [])) a0 = some (.lst [.ref t0]) := same_upd nb0 _ _ upd_same
    have ht0 : (upd (upd (upd H t0 (.tup [])) a0 (.lst [.ref t0])) b0 (.lst [])) t0 = some (.tup (natV [])) := same_upd nb0 _ _ (same_upd na0 _ _ upd_same)
    generalize upd (upd (upd H t0 (.tup [])) a0 (.lst [.ref t0])) b0 (.lst []) = G0 at s0 hb0 ha0 ht0
    have ty := dp_ty (dp_same (sv.trans s0) _ _ hd)
    -- the end
    have fin : ∀ (H3 : Hp) (a b : Addr) (wa wb : List V) (y3 y4 y5 y6 y7 : Option V), Same H H3 → H3 a = some (.lst wa) → H3 b = some (.lst wb) → Pls H3 wa (wholeD d) → Pls H3 wb (pieceD d) →
        tRet (tTup (tCons (tVar 1) (tCons (tVar 2) tNil))) { nx := fun _ H' => Q .non H', rt := Q } [some v, some (.ref a), some (.ref b), y3, y4, y5, y6, y7] H3 := by
      intro H3 a b wa wb y3 y4 y5 y6 y7 s3 ha hb pa pb
      refine ⟨_, rfl, _, rfl, by show 2 ≤ sizeLine; decide, fun t nt => ?_⟩
      exact q _ t a b wa wb (s3.trans (same_upd nt)) upd_same (same_upd nt _ _ ha) (same_upd nt _ _ hb) (Pls.same (same_upd nt) pa) (Pls.same (same_upd nt) pb)
    refine ⟨_, rfl, v, .ty "list", .type (tyD d), .type "list", _, rfl, .ty _, ty, kitL d K, _, rfl, ?_⟩
    by_cases el : (tyD d == "list") = true
    · rw [el]
      refine iteT ?_
      cases hd with
      | @lst b1 xs es h1 h2 =>
        have hl := DpAll.length h2
        have hN' : PyData.depthAll es + 1 ≤ N := by
          simp only [PyData.depth] at hN
          omega
        have hdp' : PyData.depthAll es + 1 ≤ 5000 := by
          simp only [PyData.depth] at hdp
          omega
        have hz' : szAll es + 1 ≤ 5000 := by simpa only [sz] using hz
        have hnd' : ndAll es + 1 ≤ 5000 := by simpa only [nd] using hnd
        have esl := szAll_len es
        refine ⟨_, rfl, b1, xs, rfl, (sv.trans s0).seq h1, for_it (walk_enum (K := K) (a := b1) (xs := xs)) (fun n σ H2 => ∃ (a b : Addr) (wa wb : List V) (y3 y4 y5 y6 y7 : Option V), σ = [some (.ref b1), some (.ref a), some (.ref b), y3, y4, y5, y6, y7] ∧ Same H H2 ∧ H2 a = some (.lst wa) ∧ H2 b = some (.lst wb) ∧
          Pls H2 wa ([] :: wholeL 0 (es.take n)) ∧ Pls H2 wb (pieceL 0 (es.take n))) ⟨a0, b0, _, _, none, none, none, none, none, rfl, s0, ha0, hb0, .cons ht0 .nil, .nil⟩ (fun n σ H2 hn ⟨_, _, _, _, _, _, _, _, _, _, sm, _⟩ => (sv.trans sm).seq h1) ?_ ?_⟩
        · rintro n x σ H2 H2' hn ⟨a, b, wa, wb, y3, y4, y5, y6, y7, rfl, sm, ha, hb, pa, pb⟩ ⟨T0, n0, c0, rfl, nT, rfl, en, ec⟩
          cases en
          obtain ⟨e1, he1, hde⟩ := DpAll.get h2 ec
          have sT : Same H2 (upd H2 T0 (.tup [.int ((n : Nat) : Int), c0])) := same_upd nT
          have hT : (upd H2 T0 (.tup [.int ((n : Nat) : Int), c0])) T0 = some (.tup [.int ((n : Nat) : Int), c0]) := upd_same
          generalize upd H2 T0 (.tup [.int ((n : Nat) : Int), c0]) = G1 at sT hT
          have tk : es.take (n + 1) = es.take n ++ [e1] := by
            rw [List.take_add_one, he1]
            rfl
          have tl : (es.take n).length = n := by
            have := (List.getElem?_eq_some_iff.mp he1).1
            rw [List.length_take]
            omega
          have ez := sz_get he1
          have ed := depth_get he1
          have en := nd_get' he1
          have ev := val_get (ds := es) hv he1
          refine ⟨T0, _, rfl, SqT.of hT, rfl, _, _, rfl, _, _, rfl, rfl, ?_⟩
          refine ⟨⟨N - 1, by omega⟩, _, rfl, c0, e1, Hv, rfl, sv.trans (sm.trans sT), hde, ev, by show e1.depth ≤ N - 1; omega, by omega, by omega, by omega, fun H3 t1 ai bi wi ui s3 ht1 hai hbi pi pu => ?_⟩
          refine ⟨t1, _, rfl, SqT.of ht1, rfl, _, _, rfl, _, _, rfl, rfl, ?_⟩
          have la := whole_len e1
          have lb := piece_len e1
          have lwa : wa.length ≤ 10000 := by
            have := Pls.len pa
            have h3 := wholeL_len 0 (es.take n)
            have h4 : ndAll (es.take n) ≤ ndAll es := by
              have e := congrArg ndAll (List.take_append_drop n es)
              rw [ndAll_append] at e
              omega
            simp only [List.length_cons] at this
            omega
          have lwb : wb.length ≤ 10000 := by
            have := Pls.len pb
            have h3 := pieceL_len 0 (es.take n)
            have h4 : szAll (es.take n) ≤ szAll es := by
              have e := congrArg szAll (List.take_append_drop n es)
              rw [szAll_append] at e
              omega
            omega
          refine ⟨_, rfl, read_lift rfl hai pi (by omega) (fun p hp => by have := whole_short e1 p hp; omega) fun G2 D us s4 hD pD => ?_⟩
          have sG2 : Same H2 G2 := (sT.trans s3).trans s4
          refine ⟨a, D, wa, us, rfl, rfl, sG2 _ _ ha, hD, ?_, fun p1 np1 => ?_⟩
          · have := Pls.len pD
            rw [List.length_map] at this
            exact Nat.le_trans (show wa.length + us.length ≤ 20000 by omega) (by decide)
          have hA : (upd G2 p1 (.lst (wa ++ us))) p1 = some (.lst (wa ++ us)) := upd_same
          have sG3 : Same G2 (upd G2 p1 (.lst (wa ++ us))) := same_upd np1
          generalize upd G2 p1 (.lst (wa ++ us)) = G3 at hA sG3
          refine ⟨_, rfl, read_lift rfl (sG3 _ _ (s4 _ _ hbi)) (Pls.same (s4.trans sG3) pu) (by omega) (fun p hp => by have := piece_short e1 p hp; omega) fun G4 D2 us2 s5 hD2 pD2 => ?_⟩
          have sG4 : Same H2 G4 := (sG2.trans sG3).trans s5
          refine ⟨b, D2, wb, us2, rfl, rfl, sG4 _ _ hb, hD2, ?_, fun p2 np2 => ?_⟩
          · have := Pls.len pD2
            rw [List.length_map] at this
            exact Nat.le_trans (show wb.length + us2.length ≤ 20000 by omega) (by decide)
          refine ⟨_, _, rfl, p1, p2, _, _, _, _, _, _, _, rfl, sm.trans (sG4.trans (same_upd np2)), same_upd np2 _ _ (s5 _ _ hA), upd_same, ?_, ?_⟩
          · rw [tk, wholeL_snoc, tl, Nat.zero_add, ← List.cons_append]
            exact Pls.append (Pls.same (sG4.trans (same_upd np2)) pa) (Pls.same ((sG3.trans s5).trans (same_upd np2)) pD)
          · rw [tk, pieceL_snoc, tl, Nat.zero_add]
            exact Pls.append (Pls.same (sG4.trans (same_upd np2)) pb) (Pls.same (same_upd np2) pD2)
        · rintro σ H2 ⟨a, b, wa, wb, y3, y4, y5, y6, y7, rfl, sm, ha, hb, pa, pb⟩
          rw [hl, List.take_length] at pa pb
          refine ⟨_, rfl, .ref b1, .ty "str", .type "list", .type "str", _, rfl, .ty _, dp_ty (d := .list es) (.lst ((sv.trans sm).seq h1) (dpAll_same (sv.trans sm) _ _ h2)), kitS (.list es) K, _, rfl, ?_⟩
          refine iteF ?_
          exact fin H2 a b wa wb _ _ _ _ _ sm ha hb pa pb
      | _ => simp [tyD] at el
    · have el' : (tyD d == "list") = false := by simpa using el
      rw [el']
      refine iteF ?_
      rcases val_leaf hd hv el' with ⟨rfl, rfl⟩ | ⟨x, rfl, rfl⟩
      · refine ⟨_, rfl, .non, .ty "str", .type "NoneType", .type "str", _, rfl, .ty _, ty, kitS .none K, _, rfl, ?_⟩
        refine iteF ?_
        exact fin G0 a0 b0 _ _ _ _ _ _ _ s0 ha0 hb0 (.cons ht0 .nil) .nil
      · have xl : x.length + 1 ≤ 5000 := by simpa only [sz] using hz
        have xs : x.length ≤ sizeLine := Nat.le_trans (show x.length ≤ 5000 by omega) (by decide)
        refine ⟨_, rfl, .str x, .ty "str", .type "str", .type "str", _, rfl, .ty _, ty, kitS (.str x) K, _, rfl, ?_⟩
        refine iteT ?_
        refine ⟨_, rfl, x, rfl, xs, _, _, rfl, rfl, _, rfl, ?_⟩
        by_cases h1 : 1 < x.length
        · rw [decide_eq_true (show (1 : Int) < ((x.length : Nat) : Int) by omega)]
          refine iteT ?_
          refine ⟨_, rfl, x, rfl, xs, ((x.length : Nat) : Int), rfl, by omega, by omega, fun D nD => lc_range (lo := 0) (n := ((x.length : Nat) : Int).toNat) (fun i H' => ∃ us, H' D = some (.lst us) ∧ us.length = i ∧ Same G0 H' ∧ Pls H' us (((List.range x.length).map fun i => [i]).take i)) ⟨[], upd_same, rfl, same_upd nD, .nil⟩ ?_ ?_⟩
          · rintro i H' hi ⟨us, g1, g2, sm, g3⟩
            have hi' : i < x.length := by omega
            refine ⟨rfl, _, rfl, by show 1 ≤ sizeLine; decide, fun t nt => ⟨us, same_upd nt _ _ g1, Nat.lt_of_le_of_lt (show us.length ≤ 5000 by omega) (by decide), _, upd_same, by simp [g2], same_fresh nD (sm.trans (same_upd nt)), ?_⟩⟩
            have e0 : (0 : Int) + (i : Int) = ((i : Nat) : Int) := by omega
            have tD : t ≠ D := fun z => by rw [z, g1] at nt; cases nt
            have keep : ∀ {b xs}, H' b = some (.tup xs) → (upd (upd H' t (.tup [V.int (0 + (i : Int))])) D (.lst (us ++ [.ref t]))) b = some (.tup xs) := fun {b xs} e => by
              rw [upd_ne (fun z => by rw [z, g1] at e; cases e)]
              exact same_upd nt _ _ e
            have lift : ∀ {vs : List V} {qs : List (List Nat)}, Pls H' vs qs → Pls (upd (upd H' t (.tup [V.int (0 + (i : Int))])) D (.lst (us ++ [.ref t]))) vs qs := by
              intro vs qs r
              induction r with
              | nil => exact .nil
              | cons h _ ih => exact .cons (keep h) ih
            have tk : ((List.range x.length).map fun i => [i]).take (i + 1) = ((List.range x.length).map fun i => [i]).take i ++ [[i]] := by
              rw [List.take_add_one, List.getElem?_map, List.getElem?_range hi']
              rfl
            rw [tk]
            refine Pls.append (lift g3) (.cons ?_ .nil)
            rw [upd_ne tD, upd_same, e0]
            rfl
          · rintro H' ⟨us, g1, g2, sm, g3⟩
            have e1 : ((List.range x.length).map fun i => [i]).take ((x.length : Nat) : Int).toNat = (List.range x.length).map fun i => [i] := List.take_of_length_le (by simp)
            rw [e1] at g3
            refine fin H' a0 D _ us _ _ _ _ _ (s0.trans sm) (sm _ _ ha0) g1 (.cons (sm _ _ ht0) .nil) ?_
            simp only [pieceD, if_pos h1]
            exact g3
        · rw [decide_eq_false (show ¬ (1 : Int) < ((x.length : Nat) : Int) by omega)]
          refine iteF ?_
          refine fin G0 a0 b0 _ _ _ _ _ _ _ s0 ha0 hb0 (.cons ht0 .nil) ?_
          simp only [pieceD, if_neg h1]
          exact .nil
theorem ok_places {f : Addr} {fd : FuncData} (F : Fun K "_law_places" "_law_places" s__law_places f fd) (T : Nm mg) (k : Nk mg) (B : Nb mg) (Y : Nv mg) (b : Binds K fd ["_law_value_here"] []) (g : mg "_law_places" = some (.ref f)) : ∀ N : Nat, FnOk P w K mg base CX0 (N + 1) f fd ["_law_value_here"] (spPlaces K N)
  | 0 => ok_places1 F T k B Y b g 0 fun j => absurd j.2 (by omega)
  | N + 1 => ok_places1 F T k B Y b g (N + 1) fun ⟨M, e⟩ => by
    have e2 : M = N := by omega
    subst e2
    exact ok_places F T k B Y b g M
end
end TX
namespace TX
open PySem PySem.Spec PyProof.Rows L2
theorem lay_nats : ∀ p : List Nat, PyData.canLayAll0 (natD p) = true
  | [] => rfl
  | i :: p => by
    have := lay_nats p
    simp only [natD, List.map_cons, PyData.canLayAll0, PyData.canLay0, Bool.true_and] at this ⊢
    exact this
theorem dep_nats : ∀ p : List Nat, PyData.depthAll (natD p) = 0
  | [] => rfl
  | i :: p => by
    have := dep_nats p
    simp only [natD, List.map_cons, PyData.depthAll, PyData.depth] at this ⊢
    omega
theorem shaped_nats (p : List Nat) : SeqAt.shaped (.tuple (natD p)) = true := by
  unfold SeqAt.shaped
  rw [Bool.and_eq_true]
  refine ⟨?_, decide_eq_true ?_⟩
  · simp only [PyData.canLay0, lay_nats]
  · simp only [PyData.depth, dep_nats]
    omega
/-- what stood in Hv already, and what is new behind H -/
def mixp (Hv H H' : Hp) : Hp := fun b => match Hv b with
  | some o => some o
  | none => match H b with
    | some _ => none
    | none => H' b
theorem mix_old {Hv H H' : Hp} : Same Hv (mixp Hv H H') := fun b o e => by
  unfold mixp
  rw [e]
theorem mix_new {Hv H H' : Hp} {b : Addr} (h1 : Hv b = none) (h2 : H b = none) : mixp Hv H H' b = H' b := by
  unfold mixp
  rw [h1, h2]
theorem mix_in {Hv H H' : Hp} {b : Addr} {o : HO} (e : mixp Hv H H' b = some o) : Hv b = some o ∨ (Hv b = none ∧ H b = none ∧ H' b = some o) := by
  unfold mixp at e
  cases h : Hv b with
  | some x =>
    rw [h] at e
    exact .inl e
  | none =>
    rw [h] at e
    cases h2 : H b with
    | some y =>
      rw [h2] at e
      cases e
    | none =>
      rw [h2] at e
      exact .inr ⟨rfl, rfl, e⟩
theorem mix_all {Hv H H' : Hp} (s1 : Same Hv H) (s2 : Same H H') : Same (mixp Hv H H') H' := fun b o e => by
  rcases mix_in e with h | ⟨_, _, h⟩
  · exact s2 _ _ (s1 _ _ h)
  · exact h
/-- .. of a later step, a list under way at D apart -/
theorem mix_to {Hv H H4 H5 H6 : Hp} {D : Addr} (s1 : Same Hv H) (s2 : Same H H4) (nD : H D = none) (yD : H4 D ≠ none) (k : ∀ b o, b ≠ D → H5 b = some o → H6 b = some o) : Same (mixp Hv H4 H5) (del (mixp Hv H H6) D) := fun b o e => by
  rcases mix_in e with h | ⟨h1, h2, h3⟩
  · have bD : b ≠ D := fun z => by
      rw [z] at h
      rw [s1 _ _ h] at nD
      cases nD
    rw [del_ne bD]
    exact mix_old _ _ h
  · have bD : b ≠ D := fun z => yD (z ▸ h2)
    rw [del_ne bD, mix_new h1 (s2.free h2)]
    exact k _ _ bD h3
theorem mix_mono {Hv H H3 H6 : Hp} {D : Addr} (k : ∀ b o, b ≠ D → H3 b = some o → H6 b = some o) : Same (del (mixp Hv H H3) D) (del (mixp Hv H H6) D) := fun b o e => by
  by_cases bD : b = D
  · rw [bD, del_same] at e
    cases e
  · rw [del_ne bD] at e ⊢
    rcases mix_in e with h | ⟨h1, h2, h3⟩
    · exact mix_old _ _ h
    · rw [mix_new h1 h2]
      exact k _ _ bD h3
theorem cut_tail (k : Nat) (p : List Nat) : cutV (natV (k :: p)) (some 1) none = natV p := by
  have e : HT.sIx (natV (k :: p)).length 0 (some 1) = 1 := by
    have := HT.sIx_nat (natV (k :: p)).length 0 1
    have l : (natV (k :: p)).length = p.length + 1 := by simp [natV]
    rw [l] at this ⊢
    rw [show ((1 : Nat) : Int) = 1 from rfl] at this
    rw [this]
    omega
  unfold cutV
  rw [e, HT.sIx_none]
  simp [natV]
  exact List.take_of_length_le (by simp)
theorem set_take {es : List PyData} {k n : Nat} {e x : PyData} (h : es[n]? = some e) : (es.set k x).take (n + 1) = (es.set k x).take n ++ [if n = k then x else e] := by
  have hn := (List.getElem?_eq_some_iff.mp h).1
  rw [List.take_add_one, List.getElem?_set]
  by_cases z : n = k
  · rw [if_pos z.symm, if_pos z, if_pos (by omega)]
    rfl
  · rw [if_neg (fun y => z y.symm), if_neg z, h]
    rfl
def spPut (K : PySem.W.Frag) (N : Nat) : Sp := fun vs H Q _ => ∃ (v : V) (t : Addr) (d : PyData) (p : List Nat) (Hv : Hp), vs = [v, .ref t] ∧ Same Hv H ∧ Dp K Hv v d ∧ H t = some (.tup (natV p)) ∧ okP d (natD p) ∧ p.length ≤ N ∧ p.length ≤ 5000 ∧ sz d ≤ 5000 ∧
  ∀ H' v', Same H H' → Dp K (mixp Hv H H') v' (wrapD d (natD p)) → Q v' H'
def tPutR (K : PySem.W.Frag) (N : Nat) : L2.TE := fun σ H Q => ∃ j : { M : Nat // M + 1 = N }, tCall (spPut K j.1) [] E0 (tCons (tVar 3) (tCons (tSl (rSlT K) (tVar 1) (tPart (tC (.int 1))) tNoPart) tNil)) σ H Q
theorem pe_putR {X : Cx} {K : PySem.W.Frag} {N : Nat} {e : Expr} (h : ∀ j : { M : Nat // M + 1 = N }, PE X e (tCall (spPut K j.1) [] E0 (tCons (tVar 3) (tCons (tSl (rSlT K) (tVar 1) (tPart (tC (.int 1))) tNoPart) tNil)))) : PE X e (tPutR K N) := pe_ex h
section
variable {P : Program} {w : World} {K : PySem.W.Frag} {mg : Str → Option Value} {base : Heap}
theorem scPut : FnScope ["_law_value_here", "_law_place", "_law_at", "_law_one"] ["_law_value_here", "_law_place"] (defScope s__law_put) := ⟨rfl, rfl, rfl, by decide +kernel, rfl, by decide +kernel, by decide +kernel⟩
theorem ok_put1 {f : Addr} {fd : FuncData} (F : Fun K "_law_put" "_law_put" s__law_put f fd) (B : Nb mg) (b : Binds K fd ["_law_value_here", "_law_place"] []) (g : mg "_law_put" = some (.ref f)) (N : Nat) (G : ∀ j : { M : Nat // M + 1 = N }, FnOk P w K mg base CX0 (j.1 + 1) f fd ["_law_value_here", "_law_place"] (spPut K j.1)) :
    FnOk P w K mg base CX0 (N + 1) f fd ["_law_value_here", "_law_place"] (spPut K N) := by
  refine F.ok scPut (fun vs H Q E h => ?_) (fun cdv A outer s H vs Q E hr h => ?_)
  · obtain ⟨v, t, d, p, Hv, rfl, _⟩ := h
    rfl
  · obtain ⟨v, t, d, p, Hv, rfl, sv, hd, ht, hok, hN, hp, hz, q⟩ := h
    have hrR : ∀ j : { M : Nat // M + 1 = N }, Room (j.1 + 1) _ := fun j => hr.mono (by have := j.2; omega)
    refine ⟨_, pss_cons (ps_if (pt_cmpR (op_eqD hr.units) (pv 1) (pe_tup pa_nil) (nomark _)) (pss_one (ps_ret (pe_lst (pa_cons (pv 0) pa_nil)))) pss_nil) <|
      pss_one (ps_ret (pe_lc (own := [("_law_at", 2), ("_law_one", 3)]) (g := gTup K 2 (gCons (gName 2) (gCons (gName 3) gNil))) (tt := tYes) (te := tIf (tTest (tOp rEq (tVar 2) (tOp (rIxT K) (tVar 1) (tC (.int 0))))) (tPutR K N) (tVar 3)) rfl scPut.nd
        (pi_enum (by rfl) B.enum (pa_cons (pv 0) pa_nil)) (blkOk_by (own := [("_law_at", 2), ("_law_one", 3)]) (N := ["_law_value_here", "_law_place", "_law_at", "_law_one"]) (sc := defScope s__law_put) (by decide +kernel))
        (fun _ _ _ _ _ => pg_tup rfl (pgs_cons (pg_name (i := 2) scPut.nd rfl (Or.inl rfl)) (pgs_cons (pg_name (i := 3) scPut.nd rfl (Or.inl rfl)) pgs_nil))) (fun _ _ _ _ _ => pts_nil)
        (fun _ _ _ _ _ => pe_ifExp (pt_cmpR op_eq (pv 2) (pe_ix ix_tup (pv 1) pe_int (fun _ _ => rfl)) (nomark _)) (pe_putR fun j => pe_call (G j) (hrR j) (by rfl) g F.kp b .nil pass0 (pa_cons (pv 3) (pa_cons (pe_slice sl_tup (pv 1) (po_some pe_int) po_none) pa_nil))) (pv 3)))), ?_⟩
    refine ⟨_, rfl, by decide, fun t0 nt0 => ?_⟩
    refine ⟨.tuple (natD p), .tuple [], .tup (SqT.of (same_upd nt0 _ _ ht)) (dp_nats p), .tup (SqT.of upd_same) .nil, shaped_nats p, by decide +kernel, _, rfl, ?_⟩
    have smT0 : Same H (upd H t0 (.tup [])) := same_upd nt0
    cases p with
    | nil =>
      have e0 : PyData.eqv (.tuple (natD [])) (.tuple []) = true := by decide +kernel
      rw [e0]
      refine iteT ⟨_, rfl, by show 1 ≤ sizeLine; decide, fun l nl => q _ (.ref l) (smT0.trans (same_upd nl)) (.lst (SqL.of ?_) (.cons (dp_same mix_old _ _ hd) .nil))⟩
      have nH : H l = none := smT0.free nl
      rw [mix_new (sv.free nH) nH, upd_same]
    | cons k p =>
      have e0 : PyData.eqv (.tuple (natD (k :: p))) (.tuple []) = false := by simp [natD, PyData.eqv, PyData.eqvAll]
      rw [e0]
      refine iteF ?_
      have ht0 := smT0 _ _ ht
      generalize upd H t0 (.tup []) = G at smT0 ht0
      obtain ⟨k2, es, ek, ek2, rfl, hek, hok1⟩ := hok
      obtain rfl : k2 = k := by
        have := PyData.int.inj ek2
        omega
      have wr : wrapD (.list es) (natD (k2 :: p)) = .list (es.set k2 (wrapD ek (natD p))) := wrap_in hek
      cases hd with
      | @lst b0 xs _ h1 h2 =>
        have hl : xs.length = es.length := DpAll.length h2
        have hn2 : szAll es + 1 ≤ 5000 := by simpa only [sz] using hz
        have esl := szAll_len es
        have pN : p.length + 1 ≤ N := by simpa using hN
        have pp : p.length + 1 ≤ 5000 := by simpa using hp
        refine ⟨_, rfl, b0, xs, rfl, (sv.trans smT0).seq h1, fun D nD => lc_it (walk_enum (K := K) (a := b0) (xs := xs)) (fun n H' => ∃ ws, H' D = some (.lst ws) ∧ ws.length = n ∧ Same G H' ∧ DpAll K (del (mixp Hv H H') D) ws ((es.set k2 (wrapD ek (natD p))).take n)) ⟨_, upd_same, rfl, same_upd nD, .nil⟩ (fun n H' hn ⟨_, _, _, s3, _⟩ => (sv.trans (smT0.trans s3)).seq h1) ?_ ?_⟩
        · rintro n x H3 H3' hn ⟨ws, g1, g2, g3, g4⟩ ⟨T0, a0, c0, rfl, nT, rfl, ea, eb⟩
          cases ea
          obtain ⟨e1, he1, hde⟩ := DpAll.get h2 eb
          have nDH : H D = none := smT0.free nD
          have s0 : Same H3 (upd H3 T0 (.tup [.int ((n : Nat) : Int), c0])) := same_upd nT
          have hT0 : (upd H3 T0 (.tup [.int ((n : Nat) : Int), c0])) T0 = some (.tup [.int ((n : Nat) : Int), c0]) := upd_same
          generalize upd H3 T0 (.tup [.int ((n : Nat) : Int), c0]) = G1 at s0 hT0
          have sHG : Same H G1 := smT0.trans (g3.trans s0)
          have gD : G1 D = some (.lst ws) := s0 _ _ g1
          have tk := set_take (k := k2) (x := wrapD ek (natD p)) he1
          have wl : ws.length < sizeLine := Nat.lt_of_le_of_lt (show ws.length ≤ 10000 by omega) (by decide)
          -- one item more
          have more : ∀ (H5 : Hp) (v5 : V), Same G1 H5 → Dp K (del (mixp Hv H (upd H5 D (.lst (ws ++ [v5])))) D) v5 (if n = k2 then wrapD ek (natD p) else e1) → ∃ acc, H5 D = some (.lst acc) ∧ acc.length < sizeLine ∧ ∃ ws2, (upd H5 D (.lst (acc ++ [v5]))) D = some (.lst ws2) ∧ ws2.length = n + 1 ∧ Same G (upd H5 D (.lst (acc ++ [v5]))) ∧ DpAll K (del (mixp Hv H (upd H5 D (.lst (acc ++ [v5])))) D) ws2 ((es.set k2 (wrapD ek (natD p))).take (n + 1)) := by
            intro H5 v5 s5 hv5
            refine ⟨ws, s5 _ _ gD, wl, ws ++ [v5], upd_same, by simp [g2], same_fresh nD (g3.trans (s0.trans s5)), ?_⟩
            rw [tk]
            refine DpAll.append (dpAll_same (mix_mono fun b o hb e => ?_) _ _ g4) (.cons hv5 .nil)
            rw [upd_ne hb]
            exact s5 _ _ (s0 _ _ e)
          refine ⟨T0, _, rfl, SqT.of hT0, rfl, _, _, rfl, _, _, rfl, rfl, rfl, ?_⟩
          refine ⟨_, rfl, _, rfl, t, _, _, _, rfl, rfl, SqT.of (s0 _ _ (g3 _ _ ht0)), atI_nat (j := 0) rfl, rfl, _, rfl, ?_⟩
          by_cases enk : n = k2
          · refine eqT (by rw [enk]) ?_
            have e1k : e1 = ek := by
              rw [enk, hek] at he1
              exact (Option.some.inj he1).symm
            refine ⟨⟨N - 1, by omega⟩, _, rfl, _, rfl, 1, rfl, t, _, rfl, SqT.of (s0 _ _ (g3 _ _ ht0)), ?_, fun t1 nt1 => ⟨c0, t1, e1, p, Hv, rfl, (sv.trans sHG).trans (same_upd nt1), hde, ?_, e1k ▸ hok1, ?_, by omega, Nat.le_trans (sz_get he1) (by omega), fun H5 v5 s5 hv5 => ?_⟩⟩
            · rintro ⟨z, _⟩
              have := HT.sIx_nat (natV (k2 :: p)).length 0 1
              rw [show ((1 : Nat) : Int) = 1 from rfl, z] at this
              have l : (natV (k2 :: p)).length = p.length + 1 := by simp [natV]
              omega
            · rw [upd_same, cut_tail]
            · show p.length ≤ N - 1
              omega
            · rw [if_pos enk] at more
              rw [e1k] at hv5
              refine more H5 v5 ((same_upd nt1).trans s5) (dp_same (mix_to sv (sHG.trans (same_upd nt1)) nDH ?_ fun b o hb e => ?_) _ _ hv5)
              · rw [same_upd nt1 _ _ gD]
                exact fun z => nomatch z
              · rw [upd_ne hb]
                exact e
          · refine eqF (by omega) ?_
            rw [if_neg enk] at more
            refine ⟨_, rfl, more G1 c0 (Same.refl _) (dp_same (fun b o e => ?_) _ _ hde)⟩
            have bD : b ≠ D := fun z => by
              rw [z] at e
              rw [sv _ _ e] at nDH
              cases nDH
            rw [del_ne bD]
            exact mix_old _ _ e
        · rintro H3 ⟨ws, g1, g2, g3, g4⟩
          rw [List.take_of_length_le (by rw [List.length_set]; omega)] at g4
          have nDH : H D = none := smT0.free nD
          have nDv : Hv D = none := sv.free nDH
          refine q H3 (.ref D) (smT0.trans g3) ?_
          rw [wr]
          refine .lst (SqL.of ?_) (dpAll_same (fun b o e => ?_) _ _ g4)
          · rw [mix_new nDv nDH]
            exact g1
          · by_cases bD : b = D
            · rw [bD, del_same] at e
              cases e
            · rw [del_ne bD] at e
              exact e
theorem ok_put {f : Addr} {fd : FuncData} (F : Fun K "_law_put" "_law_put" s__law_put f fd) (B : Nb mg) (b : Binds K fd ["_law_value_here", "_law_place"] []) (g : mg "_law_put" = some (.ref f)) : ∀ N : Nat, FnOk P w K mg base CX0 (N + 1) f fd ["_law_value_here", "_law_place"] (spPut K N)
  | 0 => ok_put1 F B b g 0 fun j => absurd j.2 (by omega)
  | N + 1 => ok_put1 F B b g (N + 1) fun ⟨M, e⟩ => by
    have e2 : M = N := by omega
    subst e2
    exact ok_put F B b g M
end
end TX
namespace TX
open PySem PySem.Spec PyProof.Rows L2
/-! ### what can be shown -/
mutual
def okD : PyData → Prop
  | .int i => i.natAbs.log2 < 1920
  | .str x => ∀ c ∈ x.cps.toList, c < 16 ^ 8
  | .list es => okAll es
  | .tuple es => okAll es
  | .dict _ => False
  | _ => True
def okAll : List PyData → Prop
  | [] => True
  | d :: ds => okD d ∧ okAll ds
end
theorem okAll_append : ∀ (a b : List PyData), okAll (a ++ b) ↔ okAll a ∧ okAll b
  | [], b => by simp [okAll]
  | d :: a, b => by
    have := okAll_append a b
    simp only [List.cons_append, okAll, this, and_assoc]
mutual
theorem okD_shown : ∀ d : PyData, okD d → d.showable = true ∧ d.hasDict = false ∧ d.leavesShort 1921 = true
  | .none, _ => ⟨rfl, rfl, rfl⟩
  | .bool _, _ => ⟨rfl, rfl, rfl⟩
  | .int i, h => by
    have l1 : i.natAbs.log2 < 1920 := h
    refine ⟨by simp only [PyData.showable, decide_eq_true l1], rfl, ?_⟩
    simp only [PyData.leavesShort, decide_eq_true_eq]
    simp only [PyData.shown]
    exact int_text_len_1921 l1
  | .str x, h => by
    refine ⟨rfl, rfl, ?_⟩
    simp only [PyData.leavesShort, List.all_eq_true, decide_eq_true_eq]
    exact h
  | .list es, h => by
    obtain ⟨h1, h2, h3⟩ := okAll_shown es h
    exact ⟨by simpa [PyData.showable] using h1, by simpa [PyData.hasDict] using h2, by simpa [PyData.leavesShort] using h3⟩
  | .tuple es, h => by
    obtain ⟨h1, h2, h3⟩ := okAll_shown es h
    exact ⟨by simpa [PyData.showable] using h1, by simpa [PyData.hasDict] using h2, by simpa [PyData.leavesShort] using h3⟩
  | .dict _, h => h.elim
theorem okAll_shown : ∀ ds : List PyData, okAll ds → PyData.showableAll ds = true ∧ PyData.hasDictAll ds = false ∧ PyData.leavesShortAll 1921 ds = true
  | [], _ => ⟨rfl, rfl, rfl⟩
  | d :: ds, h => by
    obtain ⟨a1, a2, a3⟩ := okD_shown d h.1
    obtain ⟨b1, b2, b3⟩ := okAll_shown ds h.2
    exact ⟨by simp [PyData.showableAll, a1, b1], by simp [PyData.hasDictAll, a2, b2], by simp [PyData.leavesShortAll, a3, b3]⟩
end
mutual
theorem val_okD : ∀ d : PyData, valD d → okD d
  | .none, _ => trivial
  | .str x, h => fun c hc => Nat.lt_of_le_of_lt (h c hc).2 (by decide)
  | .list es, h => val_okAll es h
  | .bool _, h => h.elim
  | .int _, h => h.elim
  | .tuple _, h => h.elim
  | .dict _, h => h.elim
theorem val_okAll : ∀ ds : List PyData, valAll ds → okAll ds
  | [], _ => trivial
  | d :: ds, h => ⟨val_okD d h.1, val_okAll ds h.2⟩
end
mutual
theorem val_bulk : ∀ d : PyData, valD d → d.bulk + 1 ≤ sz d
  | .none, _ => by simp [PyData.bulk, sz]
  | .str x, h => by
    have e : x.length = x.cps.size := rfl
    simp only [PyData.bulk, sz]
    omega
  | .list es, h => by
    have := val_bulkAll es h
    simp only [PyData.bulk, sz]
    omega
  | .bool _, h => h.elim
  | .int _, h => h.elim
  | .tuple _, h => h.elim
  | .dict _, h => h.elim
theorem val_bulkAll : ∀ ds : List PyData, valAll ds → PyData.bulkAll ds ≤ szAll ds
  | [], _ => by simp [PyData.bulkAll]
  | d :: ds, h => by
    have a := val_bulk d h.1
    have b := val_bulkAll ds h.2
    simp only [PyData.bulkAll, szAll]
    omega
end
theorem ok_fit {d : PyData} (h : okD d) (hb : d.bulk ≤ 8000) : d.shown.length ≤ sizeLine := by
  obtain ⟨_, _, h3⟩ := okD_shown d h
  have e1 := PyData.shown_le_bulk 1921 (by decide) d h3
  have e2 : (1921 + 2) * d.bulk ≤ 1923 * 8000 := Nat.mul_le_mul_left _ hb
  exact Nat.le_trans e1 (Nat.le_trans (Nat.add_le_add_right e2 _) (by decide))
/-- what `repr` asks of data -/
structure Sh (d : PyData) : Prop where
  s : d.showable = true
  n : d.hasDict = false
  z : d.depth ≤ 60
  l : d.shown.length ≤ sizeLine
theorem sh_of {d : PyData} (h : okD d) (hb : d.bulk ≤ 8000) (hz : d.depth ≤ 60) : Sh d := ⟨(okD_shown d h).1, (okD_shown d h).2.1, hz, ok_fit h hb⟩
theorem log_small {i : Int} (h : i.natAbs ≤ 1000000) : i.natAbs.log2 < 1920 := by
  by_cases z : i.natAbs = 0
  · rw [z]
    decide
  · exact Nat.lt_trans ((Nat.log2_lt z).mpr (Nat.lt_of_le_of_lt h (by decide : 1000000 < 2 ^ 20))) (by decide)
/-- ints, not too great -/
def intD (p : List Int) : List PyData := p.map PyData.int
def intV (p : List Int) : List V := p.map V.int
theorem dp_ints {K : PySem.W.Frag} {H : Hp} : ∀ p : List Int, DpAll K H (intV p) (intD p)
  | [] => .nil
  | i :: p => .cons (.int _) (dp_ints p)
theorem nat_int (p : List Nat) : natD p = intD (p.map fun i => ((i : Nat) : Int)) := by
  simp [natD, intD]
theorem natV_int (p : List Nat) : natV p = intV (p.map fun i => ((i : Nat) : Int)) := by
  simp [natV, intV]
theorem ints_ok : ∀ p : List Int, (∀ i ∈ p, i.natAbs ≤ 1000000) → okAll (intD p) ∧ PyData.bulkAll (intD p) = p.length ∧ PyData.depthAll (intD p) = 0 ∧ ndAll (intD p) = p.length
  | [], _ => ⟨trivial, rfl, rfl, rfl⟩
  | i :: p, h => by
    obtain ⟨a, b, c, e⟩ := ints_ok p fun j hj => h j (List.mem_cons_of_mem _ hj)
    unfold intD at a b c e ⊢
    rw [List.map_cons]
    refine ⟨⟨log_small (h i List.mem_cons_self), a⟩, ?_, ?_, ?_⟩
    · simp only [PyData.bulkAll, PyData.bulk, b, List.length_cons]
      omega
    · simp only [PyData.depthAll, PyData.depth, c]
      omega
    · simp only [ndAll, nd, e, List.length_cons]
      omega
mutual
theorem nd_sz : ∀ d : PyData, valD d → nd d ≤ sz d
  | .none, _ => by simp [nd, sz]
  | .str x, _ => by simp [nd, sz]
  | .list es, h => by
    have := ndAll_sz es h
    simp only [nd, sz]
    omega
  | .bool _, h => h.elim
  | .int _, h => h.elim
  | .tuple _, h => h.elim
  | .dict _, h => h.elim
theorem ndAll_sz : ∀ ds : List PyData, valAll ds → ndAll ds ≤ szAll ds
  | [], _ => by simp [ndAll]
  | d :: ds, h => by
    have a := nd_sz d h.1
    have b := ndAll_sz ds h.2
    simp only [ndAll, szAll]
    omega
end
/-! ### what is told of a place -/
def noD (pl : PyData) : PyData := .tuple [.str "no", pl, .bool true]
def spTold (K : PySem.W.Frag) : Sp := fun vs H Q _ => ∃ (v u : V) (d pl : PyData) (Hv : Hp), vs = [v, u] ∧ Same Hv H ∧ Dp K Hv v d ∧ Dp K Hv u pl ∧ sz d ≤ 10000 ∧ nd d ≤ 100000 ∧ nd pl ≤ 100000 ∧
  (∀ ks e, pl = .tuple ks → atD d ks = some e → tornD d ks = false → ∀ H' v' S, Same H H' → Tr H' v' (wrapD d ks) S → (∀ b ∈ S, H b = none) → Q v' H') ∧
  ((foundD d pl = none ∨ ∃ ks, pl = .tuple ks ∧ tornD d ks = true) → ∀ H' t, Same H H' → Dp K H' (.ref t) (noD pl) → Q (.ref t) H')
def tSuiteT (K : PySem.W.Frag) (TE NI : Addr) : Addr → Value → Option Addr → TS := fun a cls d =>
  tRet (tTup (tCons (tC (.str "no")) (tCons (tFe K a cls d "place" (tVar 3)) (tCons (tAndV (tCB (rIsE3 K a cls d) (tCons (tVar 3) (tCons (tC (.ref TE)) tNil))) (tNotV (tCB (rIsE3 K a cls d) (tCons (tVar 3) (tCons (tC (.ref NI)) tNil))))) tNil))))
section
variable {P : Program} {w : World} {K : PySem.W.Frag} {mg : Str → Option Value} {base : Heap} {TE NP NI : Addr}
theorem scTold : FnScope ["_law_value_here", "_law_thing", "_law_found", "e"] ["_law_value_here", "_law_thing"] (defScope sTold) := ⟨rfl, rfl, rfl, by decide +kernel, rfl, by decide +kernel, by decide +kernel⟩
theorem ok_told {f fO : Addr} {fd fdO : FuncData} (F : Fun K "_law_told" "_law_told" sTold f fd) (T : Nm mg) (c : Cl K mg TE "NoPlace" NP) (c' : Cl K mg TE "NoItems" NI) (nP : PySem.W.findIn K (.ref NP) "place" = some none) (gTE : mg "TextorlistError" = some (.ref TE)) {cdT : ClassData} (hT : PySem.W.clsIn K TE = some cdT) (tT : PySem.W.typeIn K (.ref TE) = some (.type "type"))
    (n1 : NP ≠ TE) (n2 : NP ≠ NI) (n3 : NI ≠ TE) (GO : FnOk P w K mg base (L2.CX P w) 7 fO fdO ["value", "place"] (spWrapped K NP)) (gO : mg "wrapped" = some (.ref fO)) (kO : PySem.W.keepIn K (.ref fO) = true) (bO : Binds K fdO ["value", "place"] []) : FnOk P w K mg base CX0 8 f fd ["_law_value_here", "_law_thing"] (spTold K) := by
  refine F.ok scTold (fun vs H Q E h => ?_) (fun cdv A outer s H vs Q E hr h => ?_)
  · obtain ⟨v, u, d, pl, Hv, rfl, _⟩ := h
    rfl
  · obtain ⟨v, u, d, pl, Hv, rfl, sv, hd, hu, hz, hnd, hnp, q1, q2⟩ := h
    refine ⟨_, pss_cons (ps_try_as (i := 3) (tb := fun W => tAsg (tCallS (spWrapped K NP) (WE W) (tCons (tVar 0) (tCons (tVar 1) tNil))) (gName 2)) (ts := tSuiteT K TE NI) (Wout := fun _ _ _ _ => False) rfl rfl scTold.nd rfl rfl ⟨rfl, by decide, Or.inl c.mgC⟩ take0
        (fun W pn xe tk _ => pss_one (ps_set (i := 2) scTold.nd rfl (.inl rfl) (by exact (pe_callS GO hr rfl gO kO bO (fun σ => passAt tk σ) (by exact (pa_cons (pv 0) (pa_cons (pv 1) pa_nil)))))))
        (fun a oe cls d pn hz hf => pss_one (ps_ret (pe_tup (pa_cons pe_str (pa_cons (pe_fe hz hf (pv 3)) (pa_cons (pe_and (pe_callB (call_isE3 hz hf) (by rfl) T.isi (by decide +kernel) (pa_cons (pv 3) (pa_cons (pe_glob (v := .ref TE) (by rfl) gTE rfl) pa_nil)))
          (pe_one (pe_not (pe_callB (call_isE3 hz hf) (by rfl) T.isi (by decide +kernel) (pa_cons (pv 3) (pa_cons (pe_glob (v := .ref NI) (by rfl) c'.mgC rfl) pa_nil)))))) pa_nil)))))))
      (pss_one (ps_ret (pv 2))), ?_⟩
    refine ⟨_, rfl, _, rfl, v, u, d, pl, Hv, rfl, sv, hd, hu, hz, hnd, hnp, fun ks e ep he ht H' v' S sm tr nw => ⟨_, rfl, q1 ks e ep he ht H' v' S sm tr nw⟩, fun hb H3 dx w3 sm hx hw => ?_⟩
    obtain ⟨cd', hc', hm'⟩ := c'.mro
    have self : PySem.W.exmOne K (.ref NP) (.ref NP) = some true := by
      refine PySem.W.exm_ref c.ec.hs c.ec.hd c.ty ?_
      obtain ⟨cd, hc, hm⟩ := c.mro
      show PySem.W.mroIn K NP (.ref NP) = _
      rw [mro_is hc hm rfl]
      have f1 : (Value.ref NP == Value.ref NP) = true := beq_self_eq_true _
      simp only [List.contains_cons, f1, Bool.true_or]
    have k1 : PySem.W.kitOne K (.ref NP) (.ref TE) = some true := (kit_cls c hT tT n1).trans (by rw [decide_eq_true rfl])
    have k2 : PySem.W.kitOne K (.ref NP) (.ref NI) = some false := (kit_cls c hc' c'.ty n2).trans (by rw [decide_eq_false n3])
    refine ⟨true, self, fun _ a na => ?_, fun z => nomatch z⟩
    have xd : ∀ dd, some dx = some dd → ∃ fs, H3 dd = some (.xd fs) := fun dd z => ⟨_, Option.some.inj z ▸ hx⟩
    refine ⟨NP, rfl, c.xf, nP, _, rfl, rfl, rfl, dx, _, w3, rfl, hx, rfl, ?_⟩
    refine ⟨_, rfl, NP, _, _, _, rfl, c.ec, rfl, .own _, k1, xd, _, rfl, iteT ⟨_, rfl, NP, _, _, _, rfl, c.ec, rfl, .own _, k2, xd, _, rfl, (by show 3 ≤ sizeLine; decide), fun t nt => ?_⟩⟩
    exact q2 hb _ t (sm.trans (same_upd nt)) (.tup (SqT.of upd_same) (.cons (.str _) (.cons (dp_same (same_upd nt) _ _ hw) (.cons (.bl _) .nil))))
/-! ### what is told is spoiled -/
def spSpoil (N : Nat) : Sp := fun vs H Q _ => ∃ (v : V) (d : PyData) (S : List Addr), vs = [v] ∧ Tr H v d S ∧ d.depth ≤ N ∧ nd d ≤ 100000 ∧ ∀ H', (∀ b o, b ∉ S → H b = some o → H' b = some o) → Q .non H'
theorem scSpoil : FnScope ["_law_value_here", "_law_one"] ["_law_value_here"] (defScope sSpoil) := ⟨rfl, rfl, rfl, by decide +kernel, rfl, by decide +kernel, by decide +kernel⟩
theorem ok_spoil1 {f : Addr} {fd : FuncData} (F : Fun K "_law_spoil" "_law_spoil" sSpoil f fd) (T : Nm mg) (b : Binds K fd ["_law_value_here"] []) (g : mg "_law_spoil" = some (.ref f)) (N : Nat) (G : ∀ j : { M : Nat // M + 1 = N }, FnOk P w K mg base CX0 (j.1 + 1) f fd ["_law_value_here"] (spSpoil j.1)) :
    FnOk P w K mg base CX0 (N + 1) f fd ["_law_value_here"] (spSpoil N) := by
  refine F.ok scSpoil (fun vs H Q E h => ?_) (fun cdv A outer s H vs Q E hr h => ?_)
  · obtain ⟨v, d, S, rfl, _⟩ := h
    rfl
  · obtain ⟨v, d, S, rfl, tr, hz, hn, q⟩ := h
    have hrR : ∀ j : { M : Nat // M + 1 = N }, Room (j.1 + 1) _ := fun j => hr.mono (by have := j.2; omega)
    refine ⟨_, pss_one (ps_if (pt_val (pe_callB call_isi (by rfl) T.isi (by decide +kernel) (pa_cons (pv 0) (pa_cons (pe_bltn (v := .ty "list") (by rfl) T.lst (by decide +kernel) rfl) pa_nil))))
      (pss_cons (ps_for PassesOwn.never rfl (pi_list (pv 0)) (pg_name (i := 1) scSpoil.nd rfl (.inl rfl)) (pss_one (ps_expr (pe_ex fun j => pe_call (G j) (hrR j) (by rfl) g F.kp b .nil pass0 (pa_cons (pv 1) pa_nil)))))
      (pss_one (ps_expr (pe_bm PySem.F.plainAttrs_list PySem.F.slot_list_append PySem.F.type_list_append mt_append (pv 0) (pa_cons pe_str pa_nil))))) pss_nil), ?_⟩
    refine ⟨_, rfl, v, .ty "list", .type (tyD d), .type "list", _, rfl, .ty _, dp_ty (Tr.dp (K := K) tr), kitL d K, _, rfl, ?_⟩
    by_cases e : (tyD d == "list") = true
    · rw [e]
      refine iteT ?_
      cases tr with
      | @lst a xs es S' h1 h2 h3 =>
        have hz2 : PyData.depthAll es + 1 ≤ N := by
          simp only [PyData.depth] at hz
          omega
        have hn2 : ndAll es + 1 ≤ 100000 := by simpa only [nd] using hn
        have hl := TrAll.length h2
        have el := ndAll_len es
        refine ⟨_, rfl, a, rfl, ⟨_, SqL.of h1⟩, for_list (K := K) (a := a) (xs := xs) (fun i σ H2 => ∃ y1, σ = [some (.ref a), y1] ∧ (∀ b o, b ∉ S' → H b = some o → H2 b = some o) ∧ ∃ S2, TrAll H2 (xs.drop i) (es.drop i) S2 ∧ ∀ b ∈ S2, b ∈ S') ?_ ?_ ?_ ?_⟩
        · exact ⟨none, rfl, fun _ _ _ e => e, S', h2, fun _ hb => hb⟩
        · rintro i σ H2 hi ⟨y1, rfl, k1, _⟩
          exact SqL.of (k1 _ _ h3 h1)
        · rintro i x σ H2 hx ⟨y1, rfl, k1, S2, k2, k3⟩
          obtain ⟨hj, ex⟩ := List.getElem?_eq_some_iff.mp hx
          have hje : i < es.length := by omega
          rw [List.drop_eq_getElem_cons hj, ex, List.drop_eq_getElem_cons hje] at k2
          cases k2 with
          | @cons _ _ A _ _ B t1 t2 dis =>
            have hei : es[i]? = some es[i] := List.getElem?_eq_getElem hje
            refine ⟨⟨N - 1, by omega⟩, _, rfl, x, es[i], A, rfl, t1, Nat.le_trans (depth_get hei) (by show _ ≤ N - 1; omega), Nat.le_trans (nd_get' hei) (by omega), fun H3 k4 => ?_⟩
            refine ⟨_, rfl, fun b o hb e => k4 b o (fun z => hb (k3 b (List.mem_append_left _ z))) (k1 b o hb e), B, TrAll.frame t2 fun b hb o e => k4 b o (fun z => dis b z hb) e, fun b hb => k3 b (List.mem_append_right _ hb)⟩
        · rintro σ H2 ⟨y1, rfl, k1, _⟩
          have ha := k1 _ _ h3 h1
          refine ⟨_, rfl, .inl ⟨rfl, _, SqL.of ha⟩, a, xs, _, rfl, rfl, ha, Nat.lt_of_le_of_lt (show xs.length ≤ 100000 by omega) (by decide), q _ fun b o hb e => ?_⟩
          have ba : b ≠ a := fun z => hb (by rw [z]; exact List.mem_cons_self)
          rw [upd_ne ba]
          exact k1 b o (fun z => hb (List.mem_cons_of_mem _ z)) e
      | _ => simp [tyD] at e
    · have e' : (tyD d == "list") = false := by simpa using e
      rw [e']
      exact iteF (q H fun _ _ _ e => e)
theorem ok_spoil {f : Addr} {fd : FuncData} (F : Fun K "_law_spoil" "_law_spoil" sSpoil f fd) (T : Nm mg) (b : Binds K fd ["_law_value_here"] []) (g : mg "_law_spoil" = some (.ref f)) : ∀ N : Nat, FnOk P w K mg base CX0 (N + 1) f fd ["_law_value_here"] (spSpoil N)
  | 0 => ok_spoil1 F T b g 0 fun j => absurd j.2 (by omega)
  | N + 1 => ok_spoil1 F T b g (N + 1) fun ⟨M, e⟩ => by
    have e2 : M = N := by omega
    subst e2
    exact ok_spoil F T b g M
end
end TX
namespace TX
open PySem PySem.Spec PyProof.Rows L2
/-! ### where the places lead -/
theorem torn_cons {d e : PyData} {n : Nat} {l : PyData} {ks : List PyData} (he : (innerD d)[n]? = some e) : tornD d (.int (n : Nat) :: l :: ks) = tornD e (l :: ks) := by
  have e1 : ((PyData.int (n : Nat) :: l :: ks)).dropLast = .int (n : Nat) :: (l :: ks).dropLast := List.dropLast_cons_of_ne_nil (by simp)
  have e2 : (((n : Nat) : Int)).toNat = n := by omega
  have e3 : (0 : Int) ≤ ((n : Nat) : Int) := by omega
  simp only [tornD, e1, atD, if_pos e3, e2, he]
theorem at_cons {d e : PyData} {n : Nat} {ks : List PyData} (he : (innerD d)[n]? = some e) : atD d (.int (n : Nat) :: ks) = atD e ks := by
  have e2 : (((n : Nat) : Int)).toNat = n := by omega
  have e3 : (0 : Int) ≤ ((n : Nat) : Int) := by omega
  simp only [atD, if_pos e3, e2, he]
theorem ok_at : ∀ (ks : List PyData) (d : PyData), okP d ks → (∃ e, atD d ks = some e) ∧ tornD d ks = false
  | [], d, _ => ⟨⟨d, rfl⟩, rfl⟩
  | k :: ks, d, h => by
    obtain ⟨i, es, e, rfl, rfl, he, h⟩ := h
    have he' : (innerD (.list es))[i]? = some e := he
    obtain ⟨⟨x, hx⟩, ht⟩ := ok_at ks e h
    refine ⟨⟨x, (at_cons he').trans hx⟩, ?_⟩
    cases ks with
    | nil => rfl
    | cons l ks => exact (torn_cons he').trans ht
mutual
theorem whole_ok : ∀ (d : PyData), ∀ p ∈ wholeD d, okP d (natD p) ∧ ∀ i ∈ p, i < sz d
  | .list es => fun p hp => by
    rcases List.mem_cons.mp hp with e | e
    · rw [e]
      exact ⟨trivial, fun i hi => nomatch hi⟩
    · obtain ⟨i, d, q, hd, hq, rfl, hi⟩ := wholeL_ok 0 es p e
      refine ⟨⟨i, es, d, by rw [Nat.zero_add], rfl, hd, hq⟩, fun j hj => ?_⟩
      have := hi j hj
      simp only [sz]
      omega
  | .none => fun p hp => by simp [wholeD] at hp; rw [hp]; exact ⟨trivial, fun i hi => nomatch hi⟩
  | .bool _ => fun p hp => by simp [wholeD] at hp; rw [hp]; exact ⟨trivial, fun i hi => nomatch hi⟩
  | .int _ => fun p hp => by simp [wholeD] at hp; rw [hp]; exact ⟨trivial, fun i hi => nomatch hi⟩
  | .str _ => fun p hp => by simp [wholeD] at hp; rw [hp]; exact ⟨trivial, fun i hi => nomatch hi⟩
  | .tuple _ => fun p hp => by simp [wholeD] at hp; rw [hp]; exact ⟨trivial, fun i hi => nomatch hi⟩
  | .dict _ => fun p hp => by simp [wholeD] at hp; rw [hp]; exact ⟨trivial, fun i hi => nomatch hi⟩
theorem wholeL_ok : ∀ (k : Nat) (ds : List PyData), ∀ p ∈ wholeL k ds, ∃ (i : Nat) (d : PyData) (q : List Nat), ds[i]? = some d ∧ okP d (natD q) ∧ p = (k + i) :: q ∧ ∀ j ∈ p, j < k + szAll ds
  | _, [] => fun p hp => by simp [wholeL] at hp
  | k, d :: ds => fun p hp => by
    have z1 : 1 ≤ sz d := by cases d <;> simp [sz]
    simp only [wholeL] at hp
    rcases List.mem_append.mp hp with e | e
    · obtain ⟨q, hq, rfl⟩ := List.mem_map.mp e
      obtain ⟨h1, h2⟩ := whole_ok d q hq
      refine ⟨0, d, q, rfl, h1, rfl, fun j hj => ?_⟩
      simp only [szAll]
      rcases List.mem_cons.mp hj with z | z
      · omega
      · have := h2 j z
        omega
    · obtain ⟨i, x, q, h1, h2, h3, h4⟩ := wholeL_ok (k + 1) ds p e
      refine ⟨i + 1, x, q, by simpa using h1, h2, by rw [h3]; congr 1; omega, fun j hj => ?_⟩
      have := h4 j hj
      simp only [szAll]
      omega
end
/-- a place of a letter -/
def Piece (d : PyData) (ks : List PyData) : Prop := (∃ c, atD d ks = some (.str ⟨#[c]⟩)) ∧ tornD d ks = true
mutual
theorem piece_ok : ∀ (d : PyData), ∀ p ∈ pieceD d, Piece d (natD p) ∧ p ≠ [] ∧ ∀ i ∈ p, i < sz d
  | .list es => fun p hp => by
    obtain ⟨i, d, q, hd, hq, rfl, hn, hi⟩ := pieceL_ok 0 es p (by simpa only [pieceD] using hp)
    have he' : (innerD (.list es))[i]? = some d := hd
    obtain ⟨⟨c, hc⟩, ht⟩ := hq
    have ec : natD ((0 + i) :: q) = .int (i : Nat) :: natD q := by simp [natD]
    refine ⟨⟨⟨c, by rw [ec]; exact (at_cons he').trans hc⟩, ?_⟩, by simp, fun j hj => ?_⟩
    · rw [ec]
      cases q with
      | nil => exact absurd rfl hn
      | cons l q => exact (torn_cons he').trans ht
    · have := hi j hj
      simp only [sz]
      omega
  | .str x => fun p hp => by
    simp only [pieceD] at hp
    split at hp
    · rename_i h1
      obtain ⟨i, hi, rfl⟩ := List.mem_map.mp hp
      have hi' := List.mem_range.mp hi
      have hx : i < x.cps.toList.length := by simpa [Str.length] using hi'
      have he : (innerD (.str x))[i]? = some (.str ⟨#[x.cps.toList[i]]⟩) := by
        simp only [innerD, if_pos h1]
        unfold signD
        rw [List.getElem?_map, List.getElem?_eq_getElem hx]
        rfl
      refine ⟨⟨⟨_, at_cons he⟩, rfl⟩, by simp, fun j hj => ?_⟩
      have := List.mem_singleton.mp hj
      simp only [sz]
      omega
    · simp at hp
  | .none => fun p hp => by simp [pieceD] at hp
  | .bool _ => fun p hp => by simp [pieceD] at hp
  | .int _ => fun p hp => by simp [pieceD] at hp
  | .tuple _ => fun p hp => by simp [pieceD] at hp
  | .dict _ => fun p hp => by simp [pieceD] at hp
theorem pieceL_ok : ∀ (k : Nat) (ds : List PyData), ∀ p ∈ pieceL k ds, ∃ (i : Nat) (d : PyData) (q : List Nat), ds[i]? = some d ∧ Piece d (natD q) ∧ p = (k + i) :: q ∧ q ≠ [] ∧ ∀ j ∈ p, j < k + szAll ds
  | _, [] => fun p hp => by simp [pieceL] at hp
  | k, d :: ds => fun p hp => by
    have z1 : 1 ≤ sz d := by cases d <;> simp [sz]
    simp only [pieceL] at hp
    rcases List.mem_append.mp hp with e | e
    · obtain ⟨q, hq, rfl⟩ := List.mem_map.mp e
      obtain ⟨h1, h2, h3⟩ := piece_ok d q hq
      refine ⟨0, d, q, rfl, h1, rfl, h2, fun j hj => ?_⟩
      simp only [szAll]
      rcases List.mem_cons.mp hj with z | z
      · omega
      · have := h3 j z
        omega
    · obtain ⟨i, x, q, h1, h2, h3, h5, h4⟩ := pieceL_ok (k + 1) ds p e
      refine ⟨i + 1, x, q, by simpa using h1, h2, by rw [h3]; congr 1; omega, h5, fun j hj => ?_⟩
      have := h4 j hj
      simp only [szAll]
      omega
end
theorem at_none {k : PyData} (h : ∀ e, atD e [k] = none) : ∀ (ks : List PyData) (d : PyData), atD d (ks ++ [k]) = none
  | [], d => h d
  | l :: ks, d => by
    cases l with
    | int i =>
      simp only [List.cons_append, atD]
      split
      · split
        · exact at_none h ks _
        · rfl
      · rfl
    | _ => rfl
theorem at_behind {k : PyData} : ∀ (ks : List PyData) (d e : PyData), atD d ks = some e → atD e [k] = none → atD d (ks ++ [k]) = none
  | [], d, e, h, g => by
    cases h
    exact g
  | l :: ks, d, e, h, g => by
    cases l with
    | int i =>
      simp only [List.cons_append, atD] at h ⊢
      split at h
      · rename_i h0
        rw [if_pos h0]
        split at h
        · rename_i x hx
          exact at_behind ks x e h g
        · cases h
      · cases h
    | _ => cases h
theorem at_low {i : Int} (h : i < 0) (e : PyData) : atD e [.int i] = none := by
  simp only [atD]
  rw [if_neg (by omega)]
theorem at_sign {c : Nat} {k : PyData} : atD (.str ⟨#[c]⟩) [k] = none := by
  have e2 : innerD (.str ⟨#[c]⟩) = [] := by
    simp only [innerD]
    rw [if_neg]
    simp [Str.length]
  cases k with
  | int m =>
    simp only [atD, e2]
    split <;> simp
  | _ => rfl
theorem sz_inner (d : PyData) : (innerD d).length < sz d := by
  cases d with
  | list es =>
    have := szAll_len es
    simp only [innerD, sz]
    omega
  | str x =>
    simp only [innerD, sz]
    split
    · simp [signD, Str.length]
    · simp
  | _ => simp [innerD, sz]
theorem at_far {d : PyData} {n : Nat} (h : sz d ≤ n + 1) : atD d [.int (n : Nat)] = none := by
  have := sz_inner d
  have e : (innerD d)[n]? = none := List.getElem?_eq_none (by omega)
  have e2 : (((n : Nat) : Int)).toNat = n := by omega
  have e3 : (0 : Int) ≤ ((n : Nat) : Int) := by omega
  simp only [atD, if_pos e3, e2, e]
/-! ### things that are no places, or of letters -/
structure Bad (d pl : PyData) : Prop where
  no : foundD d pl = none ∨ ∃ ks, pl = .tuple ks ∧ tornD d ks = true
  n : nd pl ≤ 1000
  o : okD pl
  b : pl.bulk ≤ 1000
  z : pl.depth ≤ 5
def OddAll (K : PySem.W.Frag) (H : Hp) (d : PyData) (ws : List V) : Prop := ∀ x ∈ ws, ∃ pl, Dp K H x pl ∧ Bad d pl
theorem odd_same {K : PySem.W.Frag} {H H' : Hp} {d : PyData} {ws : List V} (s : Same H H') (h : OddAll K H d ws) : OddAll K H' d ws := fun x hx => by
  obtain ⟨pl, h1, h2⟩ := h x hx
  exact ⟨pl, dp_same s _ _ h1, h2⟩
theorem odd_append {K : PySem.W.Frag} {H : Hp} {d : PyData} {ws us : List V} (h : OddAll K H d ws) (g : OddAll K H d us) : OddAll K H d (ws ++ us) := fun x hx => (List.mem_append.mp hx).elim (h x) (g x)
theorem mem_cut {xs : List V} {lo hi : Option Int} {x : V} (h : x ∈ cutV xs lo hi) : x ∈ xs := List.mem_of_mem_drop (List.mem_of_mem_take h)
theorem len_cutV {xs : List V} {lo hi : Option Int} : (cutV xs lo hi).length ≤ xs.length := by
  unfold cutV
  rw [List.length_take, List.length_drop]
  omega
def PlAt (H : Hp) (S : List Nat → Prop) (x : V) : Prop := ∃ t p, x = .ref t ∧ H t = some (.tup (natV p)) ∧ S p
theorem pl_of {H : Hp} {ws : List V} {ps : List (List Nat)} (h : Pls H ws ps) {x : V} (hx : x ∈ ws) : PlAt H (fun p => p ∈ ps) x := by
  obtain ⟨i, hi, rfl⟩ := List.mem_iff_getElem.mp hx
  obtain ⟨t, p, a, b, c⟩ := Pls.get h (List.getElem?_eq_getElem hi)
  exact ⟨t, p, a, b, List.mem_of_getElem? c⟩
theorem pl_same {H H' : Hp} (s : Same H H') {S : List Nat → Prop} {x : V} (h : PlAt H S x) : PlAt H' S x := by
  obtain ⟨t, p, a, b, c⟩ := h
  exact ⟨t, p, a, s _ _ b, c⟩
theorem bad_ints {d : PyData} {p : List Int} (h : atD d (intD p) = none ∨ tornD d (intD p) = true) (hl : p.length ≤ 100) (hi : ∀ i ∈ p, i.natAbs ≤ 1000000) : Bad d (.tuple (intD p)) := by
  obtain ⟨a, b, c, e⟩ := ints_ok p hi
  refine ⟨h.imp id fun t => ⟨_, rfl, t⟩, ?_, a, ?_, ?_⟩
  · simp only [nd, e]
    omega
  · simp only [PyData.bulk, b]
    omega
  · simp only [PyData.depth, c]
    omega
theorem bad_list {d : PyData} {p : List Int} (hl : p.length ≤ 100) (hi : ∀ i ∈ p, i.natAbs ≤ 1000000) : Bad d (.list (intD p)) := by
  obtain ⟨a, b, c, e⟩ := ints_ok p hi
  refine ⟨.inl rfl, ?_, a, ?_, ?_⟩
  · simp only [nd, e]
    omega
  · simp only [PyData.bulk, b]
    omega
  · simp only [PyData.depth, c]
    omega
theorem nats_small {d : PyData} {p : List Nat} (h : ∀ i ∈ p, i < sz d) (hz : sz d ≤ 401) : ∀ i ∈ p.map (fun i => ((i : Nat) : Int)), i.natAbs ≤ 1000000 := by
  intro i hi
  obtain ⟨j, hj, rfl⟩ := List.mem_map.mp hi
  have := h j hj
  omega
theorem odd_piece {K : PySem.W.Frag} {H : Hp} {d : PyData} {x : V} (hz : sz d ≤ 401) (hd : d.depth ≤ 20) (h : PlAt H (fun p => p ∈ pieceD d) x) : ∃ pl, Dp K H x pl ∧ Bad d pl := by
  obtain ⟨t, p, rfl, ht, hp⟩ := h
  obtain ⟨⟨_, h2⟩, _, h4⟩ := piece_ok d p hp
  have hs := piece_short d p hp
  refine ⟨.tuple (natD p), .tup (SqT.of ht) (dp_nats p), ?_⟩
  rw [nat_int] at h2 ⊢
  exact bad_ints (.inr h2) (by rw [List.length_map]; omega) (nats_small h4 hz)
/-- a comprehension over places whose items are odd things -/
theorem read_odd {K : PySem.W.Frag} {d : PyData} {y0 y1 y2 y3 y4 y5 y6 y7 y8 y9 y10 y11 y12 y13 : Option V} {te tx : TE} {tt : TT} {G : Hp} {Q : VK} (S : List Nat → Prop)
    (hte : ∀ R : VK, (∀ H1 c xs, Same G H1 → H1 c = some (.lst xs) → xs.length ≤ 5000 → (∀ x ∈ xs, PlAt H1 S x) → R (.ref c) H1) → te [y0, y1, y2, y3, y4, y5, y6, y7, y8, y9, y10, y11, y12, y13] G R)
    (hst : ∀ (H1 : Hp) (t : Addr) (p : List Nat) (R : Option V → Hp → Prop), H1 t = some (.tup (natV p)) → S p → (∀ H2 y pl, Same H1 H2 → Dp K (newp H1 H2) y pl → Bad d pl → R (some y) H2) → (∀ H2, Same H1 H2 → R none H2) →
      tt [y0, y1, y2, y3, y4, y5, y6, y7, some (.ref t), y9, y10, y11, y12, y13] H1 fun b H3 => if b = true then tx [y0, y1, y2, y3, y4, y5, y6, y7, some (.ref t), y9, y10, y11, y12, y13] H3 fun y H4 => R (some y) H4 else R none H3)
    (q : ∀ (G' : Hp) (D : Addr) (us : List V), Same G G' → G' D = some (.lst us) → us.length ≤ 5000 → OddAll K G' d us → Q (.ref D) G') : tLc (iList K te) (gName 8) tt tx [8] [y0, y1, y2, y3, y4, y5, y6, y7, y8, y9, y10, y11, y12, y13] G Q := by
  refine hte _ fun H1 c xs s1 hc hl hp => ⟨c, rfl, ⟨_, SqL.of hc⟩, fun D nD => lc_list (K := K) (a := c) (xs := xs) (fun j H' => ∃ us, H' D = some (.lst us) ∧ us.length ≤ j ∧ Same H1 H' ∧ OddAll K (del H' D) d us) ⟨[], upd_same, Nat.le_refl _, same_upd nD, fun x hx => nomatch hx⟩ (fun j H' hj ⟨_, _, _, sm, _⟩ => SqL.of (sm _ _ hc)) ?_ ?_⟩
  · rintro j x H' hx ⟨us, g1, g2, sm, g3⟩
    have jl := (List.getElem?_eq_some_iff.mp hx).1
    obtain ⟨t, p, rfl, ht, hS⟩ := hp x (List.mem_of_getElem? hx)
    refine ⟨rfl, hst H' t p (fun o H2 => match o with
      | some y => ∃ acc, H2 D = some (.lst acc) ∧ acc.length < sizeLine ∧ ∃ us, (upd H2 D (.lst (acc ++ [y]))) D = some (.lst us) ∧ us.length ≤ j + 1 ∧ Same H1 (upd H2 D (.lst (acc ++ [y]))) ∧ OddAll K (del (upd H2 D (.lst (acc ++ [y]))) D) d us
      | none => ∃ us, H2 D = some (.lst us) ∧ us.length ≤ j + 1 ∧ Same H1 H2 ∧ OddAll K (del H2 D) d us) (sm _ _ ht) hS (fun H4 y pl s4 h1 h2 => ?_) fun H3 s3 => ?_⟩
    · refine ⟨us, s4 _ _ g1, Nat.lt_of_le_of_lt (show us.length ≤ 5000 by omega) (by decide), us ++ [y], upd_same, by simp; omega, same_fresh nD (sm.trans s4), odd_append (odd_same (fun b o e => ?_) g3) fun x hx => ?_⟩
      · by_cases bD : b = D
        · rw [bD, del_same] at e
          cases e
        · rw [del_ne bD] at e ⊢
          rw [upd_ne bD]
          exact s4 _ _ e
      · rw [List.mem_singleton.mp hx]
        refine ⟨pl, dp_same (fun b o e => ?_) _ _ h1, h2⟩
        have bD : b ≠ D := fun z => by
          rw [z, newp_old g1] at e
          cases e
        rw [del_ne bD, upd_ne bD]
        exact newp_same _ _ e
    · refine ⟨us, s3 _ _ g1, by omega, sm.trans s3, odd_same (fun b o e => ?_) g3⟩
      by_cases bD : b = D
      · rw [bD, del_same] at e
        cases e
      · rw [del_ne bD] at e ⊢
        exact s3 _ _ e
  · rintro H' ⟨us, g1, g2, sm, g3⟩
    refine q H' D us (s1.trans sm) g1 (by omega) (odd_same (fun b o e => ?_) g3)
    by_cases bD : b = D
    · rw [bD, del_same] at e
      cases e
    · rw [del_ne bD] at e
      exact e
end TX
namespace TX
open PySem PySem.Spec PyProof.Rows L2
theorem set_sz : ∀ {es : List PyData} {i : Nat} {e x : PyData}, es[i]? = some e → szAll (es.set i x) + sz e = szAll es + sz x
  | [], i, e, x, h => by simp at h
  | d :: es, 0, e, x, h => by
    simp at h
    subst h
    simp only [List.set_cons_zero, szAll]
    omega
  | d :: es, i + 1, e, x, h => by
    have := set_sz (es := es) (i := i) (e := e) (x := x) (by simpa using h)
    simp only [List.set_cons_succ, szAll]
    omega
theorem set_val : ∀ {es : List PyData} {i : Nat} {x : PyData}, valAll es → valD x → valAll (es.set i x)
  | [], i, x, h, _ => by simpa using h
  | d :: es, 0, x, h, g => ⟨g, h.2⟩
  | d :: es, i + 1, x, h, g => ⟨h.1, set_val h.2 g⟩
theorem set_dep : ∀ {es : List PyData} {i : Nat} {x : PyData}, PyData.depthAll (es.set i x) ≤ max (PyData.depthAll es) x.depth
  | [], i, x => by simp [PyData.depthAll]
  | d :: es, 0, x => by
    simp only [List.set_cons_zero, PyData.depthAll]
    omega
  | d :: es, i + 1, x => by
    have := set_dep (es := es) (i := i) (x := x)
    simp only [List.set_cons_succ, PyData.depthAll]
    omega
theorem wrap_val : ∀ (ks : List PyData) (d : PyData), okP d ks → valD d → valD (wrapD d ks) ∧ sz (wrapD d ks) = sz d + 1 ∧ (wrapD d ks).depth ≤ d.depth + 1
  | [], d, _, h => ⟨⟨h, trivial⟩, by simp [wrapD, sz, szAll], by simp [wrapD, PyData.depth, PyData.depthAll]⟩
  | k :: ks, d, h, v => by
    obtain ⟨i, es, e, rfl, rfl, he, h⟩ := h
    rw [wrap_in he]
    obtain ⟨a, b, c⟩ := wrap_val ks e h (val_get (ds := es) v he)
    have s := set_sz (x := wrapD e ks) he
    have t := set_dep (es := es) (i := i) (x := wrapD e ks)
    have u := depth_get he
    refine ⟨set_val (es := es) v a, ?_, ?_⟩
    · simp only [sz]
      omega
    · simp only [PyData.depth]
      omega
/-! ### the turns of the law's comprehensions -/
def tNeg : TE := tUn (rU fun i => .int (-i)) (tC (.int 1))
def tXa (K : PySem.W.Frag) : TE := tOp (rCatT K) (tVar 8) (tTup (tCons (tC (.int 0)) tNil))
def tXb (K : PySem.W.Frag) : TE := tCB (fun xs H Q => ∃ p ys, xs = [.ref p] ∧ (SqL K H p ys ∨ SqT K H p ys) ∧ ∀ l, H l = none → Q (.ref l) (upd H l (.lst ys))) (tCons (tVar 8) tNil)
def tTc (K : PySem.W.Frag) : TT := tTest (tOp (rNeD K) (tVar 8) (tTup tNil))
def tXc (K : PySem.W.Frag) : TE := tOp (rCatA K) (tSl (rSlA K) (tVar 8) tNoPart (tPart tNeg)) (tTup (tCons (tOp (rI0 fun i j => .int (i - j)) (tOp (rIxT K) (tVar 8) tNeg) (tC (.int 1000))) tNil))
section
variable {K : PySem.W.Frag} {d : PyData} {y0 y1 y2 y3 y4 y5 y6 y7 y9 y10 y11 y12 y13 : Option V}
theorem st_a (hz : sz d ≤ 401) (hd : d.depth ≤ 20) (H1 : Hp) (t : Addr) (p : List Nat) (R : Option V → Hp → Prop) (ht : H1 t = some (.tup (natV p))) (hp : p ∈ pieceD d) (q : ∀ H2 y pl, Same H1 H2 → Dp K (newp H1 H2) y pl → Bad d pl → R (some y) H2) (q0 : ∀ H2, Same H1 H2 → R none H2) :
    tYes [y0, y1, y2, y3, y4, y5, y6, y7, some (.ref t), y9, y10, y11, y12, y13] H1 fun b H3 => if b = true then tXa K [y0, y1, y2, y3, y4, y5, y6, y7, some (.ref t), y9, y10, y11, y12, y13] H3 fun y H4 => R (some y) H4 else R none H3 := by
  obtain ⟨⟨⟨c, h1⟩, h2⟩, h3, h4⟩ := piece_ok d p hp
  have hs := piece_short d p hp
  have np : natV p ≠ [] := fun z => h3 (natV_nil z)
  show if true = true then tXa K [y0, y1, y2, y3, y4, y5, y6, y7, some (.ref t), y9, y10, y11, y12, y13] H1 (fun y H4 => R (some y) H4) else R none H1
  refine iteT ⟨_, rfl, by show 1 ≤ sizeLine; decide, fun t1 n1 => ⟨t, t1, _, _, rfl, rfl, SqT.of (same_upd n1 _ _ ht), SqT.of upd_same, np, ?_, fun z => (nomatch z), fun _ t2 n2 => ?_⟩⟩
  · refine Nat.le_trans (show (natV p).length + 1 ≤ 100 from ?_) (by decide)
    simp only [natV, List.length_map]
    omega
  · have s1 : Same H1 (upd H1 t1 (.tup [.int 0])) := same_upd n1
    have e : natD p ++ [PyData.int 0] = intD (p.map (fun i => ((i : Nat) : Int)) ++ [0]) := by simp [natD, intD]
    refine q _ (.ref t2) (.tuple (natD p ++ [.int 0])) (s1.trans (same_upd n2)) (.tup (SqT.of (xs := natV p ++ [.int 0]) ?_) (DpAll.append (dp_nats p) (.cons (.int 0) .nil))) ?_
    · rw [newp_at (s1.free n2), upd_same]
    · rw [e]
      refine bad_ints (.inl ?_) ?_ fun i hi => ?_
      · rw [← e]
        exact at_behind _ _ _ h1 at_sign
      · rw [List.length_append, List.length_map]
        simp only [List.length_singleton]
        omega
      · rcases List.mem_append.mp hi with z | z
        · exact nats_small h4 hz i z
        · rw [List.mem_singleton.mp z]
          decide
theorem st_b (hz : sz d ≤ 401) (hd : d.depth ≤ 20) (H1 : Hp) (t : Addr) (p : List Nat) (R : Option V → Hp → Prop) (ht : H1 t = some (.tup (natV p))) (hp : p ∈ wholeD d) (q : ∀ H2 y pl, Same H1 H2 → Dp K (newp H1 H2) y pl → Bad d pl → R (some y) H2) (q0 : ∀ H2, Same H1 H2 → R none H2) :
    tYes [y0, y1, y2, y3, y4, y5, y6, y7, some (.ref t), y9, y10, y11, y12, y13] H1 fun b H3 => if b = true then tXb K [y0, y1, y2, y3, y4, y5, y6, y7, some (.ref t), y9, y10, y11, y12, y13] H3 fun y H4 => R (some y) H4 else R none H3 := by
  obtain ⟨_, h4⟩ := whole_ok d p hp
  have hs := whole_short d p hp
  show if true = true then tXb K [y0, y1, y2, y3, y4, y5, y6, y7, some (.ref t), y9, y10, y11, y12, y13] H1 (fun y H4 => R (some y) H4) else R none H1
  refine iteT ⟨_, rfl, t, natV p, rfl, .inr (SqT.of ht), fun l nl => ?_⟩
  refine q _ (.ref l) (.list (natD p)) (same_upd nl) (.lst (SqL.of (xs := natV p) ?_) (dp_nats p)) ?_
  · rw [newp_at nl, upd_same]
  · rw [nat_int]
    exact bad_list (by rw [List.length_map]; omega) (nats_small h4 hz)
theorem st_c (hz : sz d ≤ 401) (hd : d.depth ≤ 20) (H1 : Hp) (t : Addr) (p : List Nat) (R : Option V → Hp → Prop) (ht : H1 t = some (.tup (natV p))) (hp : p ∈ wholeD d ∨ p ∈ pieceD d) (q : ∀ H2 y pl, Same H1 H2 → Dp K (newp H1 H2) y pl → Bad d pl → R (some y) H2) (q0 : ∀ H2, Same H1 H2 → R none H2) :
    tTc K [y0, y1, y2, y3, y4, y5, y6, y7, some (.ref t), y9, y10, y11, y12, y13] H1 fun b H3 => if b = true then tXc K [y0, y1, y2, y3, y4, y5, y6, y7, some (.ref t), y9, y10, y11, y12, y13] H3 fun y H4 => R (some y) H4 else R none H3 := by
  have h4 : ∀ i ∈ p, i < sz d := by
    rcases hp with h | h
    · exact (whole_ok d p h).2
    · exact (piece_ok d p h).2.2
  have hs : p.length ≤ 21 := by
    rcases hp with h | h
    · have := whole_short d p h
      omega
    · have := piece_short d p h
      omega
  refine ⟨_, rfl, by decide, fun t0 n0 => ⟨.tuple (natD p), .tuple [], .tup (SqT.of (same_upd n0 _ _ ht)) (dp_nats p), .tup (SqT.of upd_same) .nil, shaped_nats p, by decide +kernel, _, rfl, ?_⟩⟩
  have s0 : Same H1 (upd H1 t0 (.tup [])) := same_upd n0
  have ht0 := s0 _ _ ht
  generalize upd H1 t0 (.tup []) = G at s0 ht0
  rcases (List.eq_nil_or_concat p).imp id (fun ⟨a, b, e⟩ => (⟨a, b, by rw [e, List.concat_eq_append]⟩ : ∃ a b, p = a ++ [b])) with rfl | ⟨ini, m, rfl⟩
  · have e0 : PyData.eqv (.tuple (natD [])) (.tuple []) = true := by decide +kernel
    rw [e0]
    exact iteF (q0 _ s0)
  · have e0 : PyData.eqv (.tuple (natD (ini ++ [m]))) (.tuple []) = false := by
      cases ini <;> simp [natD, PyData.eqv, PyData.eqvAll]
    rw [e0]
    refine iteT ?_
    have ev : natV (ini ++ [m]) = natV ini ++ [.int ((m : Nat) : Int)] := by simp [natV]
    rw [ev] at ht0
    have hm := h4 m (by simp)
    have hl : (natV ini).length = ini.length := by simp [natV]
    have il : ini.length ≤ 20 := by
      rw [List.length_append] at hs
      simp only [List.length_singleton] at hs
      omega
    have bad : Bad d (.tuple (natD ini ++ [.int ((m : Nat) - 1000)])) := by
      have e : natD ini ++ [PyData.int ((m : Nat) - 1000)] = intD (ini.map (fun i => ((i : Nat) : Int)) ++ [((m : Nat) : Int) - 1000]) := by simp [natD, intD]
      rw [e]
      refine bad_ints (.inl ?_) ?_ fun i hi => ?_
      · rw [← e]
        exact at_none (at_low (by omega)) _ _
      · rw [List.length_append, List.length_map]
        simp only [List.length_singleton]
        omega
      · rcases List.mem_append.mp hi with z | z
        · exact nats_small (fun i hi => h4 i (List.mem_append_left _ hi)) hz i z
        · rw [List.mem_singleton.mp z]
          omega
    refine ⟨_, rfl, _, rfl, -1, rfl, t, natV ini ++ [.int ((m : Nat) : Int)], rfl, SqT.of ht0, ?_, fun _ t3 n3 => ?_⟩
    · rintro ⟨_, z⟩
      exfalso
      have : HT.sIx (natV ini ++ [V.int ((m : Nat) : Int)]).length (natV ini ++ [V.int ((m : Nat) : Int)]).length (some (-1)) = (natV ini ++ [V.int ((m : Nat) : Int)]).length - 1 := by
        show (if (-1 : Int) < 0 then ((-1 : Int) + (((natV ini ++ [V.int ((m : Nat) : Int)]).length : Nat) : Int)).toNat else min (-1 : Int).toNat (natV ini ++ [V.int ((m : Nat) : Int)]).length) = (natV ini ++ [V.int ((m : Nat) : Int)]).length - 1
        rw [if_pos (by decide)]
        omega
      rw [this] at z
      simp only [List.length_append, List.length_singleton] at z
      omega
    · rw [cut_init, List.dropLast_concat]
      have s3 : Same G (upd G t3 (.tup (natV ini))) := same_upd n3
      have h3 : (upd G t3 (.tup (natV ini))) t3 = some (.tup (natV ini)) := upd_same
      generalize upd G t3 (.tup (natV ini)) = G3 at s3 h3
      refine ⟨_, rfl, _, rfl, t, _, _, .int ((m : Nat) : Int), rfl, rfl, SqT.of (s3 _ _ ht0), atI_last _ _, (m : Nat), 1000, rfl, rfl, by show 1 ≤ sizeLine; decide, fun t4 n4 => ?_⟩
      have s4 : Same G3 (upd G3 t4 (.tup [.int ((m : Nat) - 1000)])) := same_upd n4
      have h4' : (upd G3 t4 (.tup [.int ((m : Nat) - 1000)])) t4 = some (.tup [.int ((m : Nat) - 1000)]) := upd_same
      generalize upd G3 t4 (.tup [.int ((m : Nat) - 1000)]) = G4 at s4 h4'
      refine ⟨t3, t4, natV ini, _, rfl, rfl, SqT.of (s4 _ _ h3), SqT.of h4', ?_, fun z => ?_, fun _ z => (nomatch z), fun _ _ t5 n5 => ?_⟩
      · refine Nat.le_trans (show (natV ini).length + 1 ≤ 100 by omega) (by decide)
      · have z' := natV_nil z
        subst z'
        refine q G4 (.ref t4) _ ((s0.trans s3).trans s4) (.tup (SqT.of ?_) (.cons (.int _) .nil)) bad
        rw [newp_at ((s0.trans s3).free n4)]
        exact h4'
      · refine q _ (.ref t5) _ (((s0.trans s3).trans s4).trans (same_upd n5)) (.tup (SqT.of (xs := natV ini ++ [.int ((m : Nat) - 1000)]) ?_) (DpAll.append (dp_nats ini) (.cons (.int _) .nil))) bad
        rw [newp_at (((s0.trans s3).trans s4).free n5), upd_same]
end
def tConsts : TE := tLst (tCons (tTup (tCons (tC (.int 400)) tNil)) (tCons (tTup (tCons (tC (.bl true)) tNil)) (tCons (tTup (tCons tNeg tNil)) (tCons (tTup (tCons (tC .non) tNil)) (tCons (tC .non) (tCons (tC (.int 0)) (tCons (tC (.str "")) (tCons (tC (.str "a")) (tCons (tTup (tCons (tTup tNil) tNil)) tNil)))))))))
theorem read_consts {K : PySem.W.Frag} {d : PyData} (hz : sz d ≤ 401) {σ : L2.St} {G : Hp} {Q : VK} (q : ∀ (G' : Hp) (l : Addr) (us : List V), Same G G' → G' l = some (.lst us) → us.length ≤ 9 → OddAll K G' d us → Q (.ref l) G') : tConsts σ G Q := by
  refine ⟨by show 1 ≤ sizeLine; decide, fun t1 n1 => ⟨by show 1 ≤ sizeLine; decide, fun t2 n2 => ⟨1, rfl, by show 1 ≤ sizeLine; decide, fun t3 n3 => ⟨by show 1 ≤ sizeLine; decide, fun t4 n4 => ⟨by decide, fun t5 n5 => ⟨by show 1 ≤ sizeLine; decide, fun t6 n6 => ⟨by show 9 ≤ sizeLine; decide, fun l nl => ?_⟩⟩⟩⟩⟩⟩⟩
  have s1 : Same G (upd G t1 (.tup [.int 400])) := same_upd n1
  have h1 : (upd G t1 (.tup [.int 400])) t1 = some (.tup [.int 400]) := upd_same
  generalize upd G t1 (.tup [.int 400]) = G1 at *
  have s2 : Same G1 (upd G1 t2 (.tup [.bl true])) := same_upd n2
  have h2 : (upd G1 t2 (.tup [.bl true])) t2 = some (.tup [.bl true]) := upd_same
  generalize upd G1 t2 (.tup [.bl true]) = G2 at *
  have s3 : Same G2 (upd G2 t3 (.tup [.int (-1)])) := same_upd n3
  have h3 : (upd G2 t3 (.tup [.int (-1)])) t3 = some (.tup [.int (-1)]) := upd_same
  generalize upd G2 t3 (.tup [.int (-1)]) = G3 at *
  have s4 : Same G3 (upd G3 t4 (.tup [.non])) := same_upd n4
  have h4 : (upd G3 t4 (.tup [.non])) t4 = some (.tup [.non]) := upd_same
  generalize upd G3 t4 (.tup [.non]) = G4 at *
  have s5 : Same G4 (upd G4 t5 (.tup [])) := same_upd n5
  have h5 : (upd G4 t5 (.tup [])) t5 = some (.tup []) := upd_same
  generalize upd G4 t5 (.tup []) = G5 at *
  have s6 : Same G5 (upd G5 t6 (.tup [.ref t5])) := same_upd n6
  have h6 : (upd G5 t6 (.tup [.ref t5])) t6 = some (.tup [.ref t5]) := upd_same
  generalize upd G5 t6 (.tup [.ref t5]) = G6 at *
  refine q _ l _ (((((s1.trans s2).trans s3).trans s4).trans s5).trans (s6.trans (same_upd nl))) upd_same (Nat.le_refl 9) (odd_same (same_upd nl) fun x hx => ?_)
  have m1 := s6 _ _ (s5 _ _ (s4 _ _ (s3 _ _ (s2 _ _ h1))))
  have m2 := s6 _ _ (s5 _ _ (s4 _ _ (s3 _ _ h2)))
  have m3 := s6 _ _ (s5 _ _ (s4 _ _ h3))
  have m4 := s6 _ _ (s5 _ _ h4)
  have m5 := s6 _ _ h5
  have sm : ∀ {p : List Int}, (∀ i ∈ p, i.natAbs ≤ 1000) → ∀ i ∈ p, i.natAbs ≤ 1000000 := fun h i hi => Nat.le_trans (h i hi) (by decide)
  simp only [List.mem_cons, List.not_mem_nil, or_false] at hx
  rcases hx with rfl | rfl | rfl | rfl | rfl | rfl | rfl | rfl | rfl
  · exact ⟨.tuple (intD [400]), .tup (SqT.of m1) (.cons (.int _) .nil), bad_ints (.inl (at_far (n := 400) hz)) (by decide) (by decide)⟩
  · exact ⟨.tuple [.bool true], .tup (SqT.of m2) (.cons (.bl _) .nil), .inl rfl, by decide, ⟨trivial, trivial⟩, by decide, by decide⟩
  · exact ⟨.tuple (intD [-1]), .tup (SqT.of m3) (.cons (.int _) .nil), bad_ints (.inl (at_low (by decide) d)) (by decide) (by decide)⟩
  · exact ⟨.tuple [.none], .tup (SqT.of m4) (.cons .non .nil), .inl rfl, by decide, ⟨trivial, trivial⟩, by decide, by decide⟩
  · exact ⟨.none, .non, .inl rfl, by decide, trivial, by decide, by decide⟩
  · exact ⟨.int 0, .int 0, .inl rfl, by decide, log_small (by decide), by decide, by decide⟩
  · exact ⟨.str "", .str _, .inl rfl, by decide, val_okD (.str "") (by unfold valD Lt; decide +kernel), by decide +kernel, by decide⟩
  · exact ⟨.str "a", .str _, .inl rfl, by decide, val_okD (.str "a") (by unfold valD Lt; decide +kernel), by decide +kernel, by decide⟩
  · exact ⟨.tuple [.tuple []], .tup (SqT.of h6) (.cons (.tup (SqT.of m5) .nil) .nil), .inl rfl, by decide, ⟨trivial, trivial⟩, by decide, by decide⟩
end TX
namespace TX
open PySem PySem.Spec PyProof.Rows L2
theorem del_same' {H : Hp} {p : Addr} : Same (del H p) H := fun b o e => by
  by_cases z : b = p
  · rw [z, del_same] at e
    cases e
  · rw [del_ne z] at e
    exact e
theorem del_to {H H' : Hp} {p : Addr} (h : H p = none) (s : Same H H') : Same H (del H' p) := fun b o e => by
  rw [del_ne (ne_of_none e h)]
  exact s _ _ e
theorem pls_del {H : Hp} {p : Addr} (bg : BagAt H p) {ws : List V} {ps : List (List Nat)} (h : Pls H ws ps) : Pls (del H p) ws ps := by
  induction h with
  | nil => exact .nil
  | cons h _ ih =>
    refine .cons ?_ ih
    obtain ⟨x, y, e⟩ := bg
    rw [del_ne (fun z => by rw [z, e] at h; cases h)]
    exact h
theorem lst_del {H : Hp} {p a : Addr} (bg : BagAt H p) {ws : List V} {ps : List (List Nat)} (h : Pls H ws ps) (ha : H a = some (.lst ws)) : del H p a = some (.lst ws) := by
  obtain ⟨x, y, e⟩ := bg
  rw [del_ne (fun z => by
    rw [z, e] at ha
    cases ha
    cases h)]
  exact ha
theorem del_mono {H H' : Hp} {p : Addr} (s : Same H H') : Same (del H p) (del H' p) := fun b o e => by
  by_cases z : b = p
  · rw [z, del_same] at e
    cases e
  · rw [del_ne z] at e ⊢
    exact s _ _ e
/-- a value that came of the bag, told over the heap without the bag -/
theorem del_dp {K : PySem.W.Frag} {H G1 H4 : Hp} {p : Addr} {v : V} {d : PyData} (np0 : H p = none) (bag1 : BagAt G1 p) (k : ∀ b o, b ≠ p → H b = some o → G1 b = some o) (k4 : ∀ b o, b ≠ p → G1 b = some o → H4 b = some o) (hv : Dp K (newp G1 H4) v d) : Dp K (del H4 p) v d ∧ Same H (del H4 p) := by
  refine ⟨dp_same (fun b o e => ?_) _ _ hv, fun b o e => ?_⟩
  · have bp : b ≠ p := fun z => by
      obtain ⟨x, y, e4⟩ := bag1
      rw [z, newp_old e4] at e
      cases e
    rw [del_ne bp]
    exact newp_same _ _ e
  · have bp := ne_of_none e np0
    rw [del_ne bp]
    exact k4 b o bp (k b o bp e)
theorem ite_both {c : Bool} {A B : VK → Prop} {Q R : VK} (h : ∀ v H', R v H' → Q v H') (hA : c = true → (∀ v H', R v H' → Q v H') → A Q) (hB : c = false → (∀ v H', R v H' → Q v H') → B Q) : if c = true then A Q else B Q := by
  cases c with
  | true => exact iteT (hA rfl h)
  | false => exact iteF (hB rfl h)
structure Ml (mg : Str → Option Value) : Prop where
  max : mg "max" = none
  repr : mg "repr" = none
def spLaw (K : PySem.W.Frag) : Sp := fun vs H Q _ => ∃ (a : Addr) (ns : List Int), vs = [.ref a] ∧ SqL K H a (ns.map V.int) ∧ ns.length ≤ 63 ∧ ∀ H', Q (.bl true) H'
section
variable {P : Program} {w : World} {K : PySem.W.Frag} {mg : Str → Option Value} {base : Heap}
/-- what the law calls -/
structure Lc (P : Program) (w : World) (K : PySem.W.Frag) (mg : Str → Option Value) (base : Heap) (a1 a2 a3 a4 a5 a6 a7 a8 : Addr) (d1 d2 d3 d4 d5 d6 d7 d8 : FuncData) : Prop where
  G1 : FnOk P w K mg base CX0 1 a1 d1 ["_law_script", "_law_at"] (spBag K)
  G2 : FnOk P w K mg base CX0 1 a2 d2 ["_law_bag_here", "_law_many"] spTake
  G3 : FnOk P w K mg base CX0 8 a3 d3 ["_law_bag_here"] (spGreat K)
  G4 : FnOk P w K mg base CX0 8 a4 d4 ["_law_bag_here", "_law_deep", "_law_room"] (spValue K 5)
  G5 : FnOk P w K mg base CX0 14 a5 d5 ["_law_value_here"] (spPlaces K 13)
  G6 : FnOk P w K mg base CX0 14 a6 d6 ["_law_value_here", "_law_place"] (spPut K 13)
  G7 : FnOk P w K mg base CX0 8 a7 d7 ["_law_value_here", "_law_thing"] (spTold K)
  G8 : FnOk P w K mg base CX0 16 a8 d8 ["_law_value_here"] (spSpoil 15)
  b1 : Binds K d1 ["_law_script", "_law_at"] []
  b2 : Binds K d2 ["_law_bag_here", "_law_many"] []
  b3 : Binds K d3 ["_law_bag_here"] []
  b4 : Binds K d4 ["_law_bag_here", "_law_deep", "_law_room"] []
  b5 : Binds K d5 ["_law_value_here"] []
  b6 : Binds K d6 ["_law_value_here", "_law_place"] []
  b7 : Binds K d7 ["_law_value_here", "_law_thing"] []
  b8 : Binds K d8 ["_law_value_here"] []
  g1 : mg "_law_bag" = some (.ref a1)
  g2 : mg "_law_take" = some (.ref a2)
  g3 : mg "_law_great" = some (.ref a3)
  g4 : mg "_law_value" = some (.ref a4)
  g5 : mg "_law_places" = some (.ref a5)
  g6 : mg "_law_put" = some (.ref a6)
  g7 : mg "_law_told" = some (.ref a7)
  g8 : mg "_law_spoil" = some (.ref a8)
  k1 : PySem.W.keepIn K (.ref a1) = true
  k2 : PySem.W.keepIn K (.ref a2) = true
  k3 : PySem.W.keepIn K (.ref a3) = true
  k4 : PySem.W.keepIn K (.ref a4) = true
  k5 : PySem.W.keepIn K (.ref a5) = true
  k6 : PySem.W.keepIn K (.ref a6) = true
  k7 : PySem.W.keepIn K (.ref a7) = true
  k8 : PySem.W.keepIn K (.ref a8) = true
theorem scLaw : FnScope ["_law_script", "_law_at", "_law_bag_here", "_law_value_here", "_law_whole", "_law_torn", "_law_before", "_law_turn", "_law_place", "_law_due", "_law_again", "_law_found", "_law_odd", "_law_thing"] ["_law_script"] (defScope sLaw) := ⟨rfl, rfl, rfl, by decide +kernel, rfl, by decide +kernel, by decide +kernel⟩
theorem ok_law {f a1 a2 a3 a4 a5 a6 a7 a8 : Addr} {fd d1 d2 d3 d4 d5 d6 d7 d8 : FuncData} (F : Fun K "law" "law" sLaw f fd) (M : Ml mg) (T : Nm mg) (B : Nb mg) (Y : Nv mg) (C : Lc P w K mg base a1 a2 a3 a4 a5 a6 a7 a8 d1 d2 d3 d4 d5 d6 d7 d8) : FnG P w K mg base CX0 17 f fd ["_law_script"] (spLaw K) := by
  refine fng_of F scLaw (fun vs H Q E h => ?_) (fun cdv A outer s H vs Q E hgd hr h => ?_)
  · obtain ⟨a, ns, rfl, _⟩ := h
    rfl
  · obtain ⟨a0, ns, rfl, hS, hn, q⟩ := h
    have hu := hr.units
    have r1 : Room 1 _ := hr.mono (by decide)
    have r8 : Room 8 _ := hr.mono (by decide)
    have r14 : Room 14 _ := hr.mono (by decide)
    refine ⟨_, pss_cons (ps_for PassesOwn.never rfl (pi_range1 (by rfl) Y.range (pa_cons (pe_callB (call_max2 rfl) (by rfl) M.max (by decide +kernel) (pa_cons pe_int (pa_cons (pe_callB (call_min2 rfl) (by rfl) Y.min (by decide +kernel) (pa_cons pe_int (pa_cons (pe_callB call_len_seq (by rfl) B.len PySem.boot_len (pa_cons (pv 0) pa_nil)) pa_nil))) pa_nil))) pa_nil))
        (pg_name (i := 1) scLaw.nd rfl (.inl rfl)) (
        pss_cons (ps_set (i := 2) scLaw.nd rfl (.inl rfl) (pe_call C.G1 r1 (by rfl) C.g1 C.k1 C.b1 .nil pass0 (pa_cons (pv 0) (pa_cons (pv 1) pa_nil)))) <|
        pss_cons (ps_set (i := 3) scLaw.nd rfl (.inl rfl) (pe_ifExp (pt_cmpR op_eq (pe_call C.G2 r1 (by rfl) C.g2 C.k2 C.b2 .nil pass0 (pa_cons (pv 2) (pa_cons pe_int pa_nil))) pe_int (nomark _)) (pe_call C.G3 r8 (by rfl) C.g3 C.k3 C.b3 .nil pass0 (pa_cons (pv 2) pa_nil)) (pe_call C.G4 r8 (by rfl) C.g4 C.k4 C.b4 .nil pass0 (pa_cons (pv 2) (pa_cons pe_int (pa_cons pe_int pa_nil)))))) <|
        pss_cons (ps_asg (pe_tup (pa_cons (pe_call C.G5 r14 (by rfl) C.g5 C.k5 C.b5 .nil pass0 (pa_cons (pv 3) pa_nil)) (pa_cons (pe_callB (call_repr hgd hu) (by rfl) M.repr (by decide +kernel) (pa_cons (pv 3) pa_nil)) pa_nil)))
          (pg_tup rfl (pgs_cons (pg_tup rfl (pgs_cons (pg_name (i := 4) scLaw.nd rfl (.inl rfl)) (pgs_cons (pg_name (i := 5) scLaw.nd rfl (.inl rfl)) pgs_nil))) (pgs_cons (pg_name (i := 6) scLaw.nd rfl (.inl rfl)) pgs_nil)))) <|
        pss_cons (ps_for PassesOwn.never rfl (pi_range1 (by rfl) Y.range (pa_cons (pe_callB (call_min2 rfl) (by rfl) Y.min (by decide +kernel) (pa_cons pe_int (pa_cons (pe_callB call_len_seq (by rfl) B.len PySem.boot_len (pa_cons (pv 4) pa_nil)) pa_nil))) pa_nil)) (pg_name (i := 7) scLaw.nd rfl (.inl rfl)) (
          pss_cons (ps_set (i := 8) scLaw.nd rfl (.inl rfl) (pe_ix ix_list (pv 4) (pe_call C.G2 r1 (by rfl) C.g2 C.k2 C.b2 .nil pass0 (pa_cons (pv 2) (pa_cons (pe_callB call_len_seq (by rfl) B.len PySem.boot_len (pa_cons (pv 4) pa_nil)) pa_nil))) (fun _ _ => rfl))) <|
          pss_cons (ps_set (i := 9) scLaw.nd rfl (.inl rfl) (pe_callB (call_repr hgd hu) (by rfl) M.repr (by decide +kernel) (pa_cons (pe_call C.G6 r14 (by rfl) C.g6 C.k6 C.b6 .nil pass0 (pa_cons (pv 3) (pa_cons (pv 8) pa_nil))) pa_nil))) <|
          pss_one (ps_for PassesOwn.never rfl (pi_range1 (by rfl) Y.range (pa_cons pe_int pa_nil)) (pg_name (i := 10) scLaw.nd rfl (.inl rfl)) (
            pss_cons (ps_set (i := 11) scLaw.nd rfl (.inl rfl) (pe_call C.G7 r8 (by rfl) C.g7 C.k7 C.b7 .nil pass0 (pa_cons (pv 3) (pa_cons (pv 8) pa_nil)))) <|
            pss_cons (ps_if (PW.pt (pw_or (pt_cmpR op_ne (pe_callB (call_repr hgd hu) (by rfl) M.repr (by decide +kernel) (pa_cons (pv 11) pa_nil)) (pv 9) (nomark _)) (pw_or1 (pt_cmpR op_ne (pe_callB (call_repr hgd hu) (by rfl) M.repr (by decide +kernel) (pa_cons (pv 3) pa_nil)) (pv 6) (nomark _)))))
              (pss_one (ps_ret pe_bl)) pss_nil) <|
            pss_one (ps_expr (pe_call C.G8 hr (by rfl) C.g8 C.k8 C.b8 .nil pass0 (pa_cons (pv 11) pa_nil))))))) <|
        pss_cons (ps_set (i := 12) scLaw.nd rfl (.inl rfl) (pe_op op_cat (pe_op op_cat (pe_op op_cat (pe_slice sl_list (pv 5) po_none (po_some pe_int)) (pe_slice sl_list (pv 5) (po_some (pe_un un_neg pe_int)) po_none))
            (pe_lc (own := [("_law_place", 8)]) (g := gName 8) (tt := tYes) (te := tXa K) rfl scLaw.nd (pi_list (pe_slice sl_list (pv 5) po_none (po_some pe_int))) (blkOk_by (own := [("_law_place", 8)]) (N := ["_law_script", "_law_at", "_law_bag_here", "_law_value_here", "_law_whole", "_law_torn", "_law_before", "_law_turn", "_law_place", "_law_due", "_law_again", "_law_found", "_law_odd", "_law_thing"]) (sc := defScope sLaw) (by decide +kernel))
              (fun _ _ _ _ _ => pg_name (i := 8) scLaw.nd rfl (Or.inl rfl)) (fun _ _ _ _ _ => pts_nil) (fun _ _ _ _ _ => pe_op op_catT (pv 8) (pe_tup (pa_cons pe_int pa_nil)))))
            (pe_lc (own := [("_law_place", 8)]) (g := gName 8) (tt := tYes) (te := tXb K) rfl scLaw.nd (pi_list (pe_slice sl_list (pv 4) (po_some (pe_un un_neg pe_int)) po_none)) (blkOk_by (own := [("_law_place", 8)]) (N := ["_law_script", "_law_at", "_law_bag_here", "_law_value_here", "_law_whole", "_law_torn", "_law_before", "_law_turn", "_law_place", "_law_due", "_law_again", "_law_found", "_law_odd", "_law_thing"]) (sc := defScope sLaw) (by decide +kernel))
              (fun _ _ _ _ _ => pg_name (i := 8) scLaw.nd rfl (Or.inl rfl)) (fun _ _ _ _ _ => pts_nil) (fun _ _ _ _ _ => pe_callTy call_list_of (by rfl) T.lst (by decide +kernel) (pa_cons (pv 8) pa_nil))))) <|
        pss_cons (ps_set (i := 12) scLaw.nd rfl (.inl rfl) (pe_op op_cat (pv 12)
            (pe_lc (own := [("_law_place", 8)]) (g := gName 8) (tt := tTc K) (te := tXc K) rfl scLaw.nd (pi_list (pe_op op_cat (pe_slice sl_list (pv 4) (po_some (pe_un un_neg pe_int)) po_none) (pe_slice sl_list (pv 5) (po_some (pe_un un_neg pe_int)) po_none))) (blkOk_by (own := [("_law_place", 8)]) (N := ["_law_script", "_law_at", "_law_bag_here", "_law_value_here", "_law_whole", "_law_torn", "_law_before", "_law_turn", "_law_place", "_law_due", "_law_again", "_law_found", "_law_odd", "_law_thing"]) (sc := defScope sLaw) (by decide +kernel))
              (fun _ _ _ _ _ => pg_name (i := 8) scLaw.nd rfl (Or.inl rfl)) (fun _ _ _ _ _ => pts_one (pt_cmpR (op_neD hu) (pv 8) (pe_tup pa_nil) (nomark _)))
              (fun _ _ _ _ _ => pe_op op_catA (pe_slice sl_tupA (pv 8) po_none (po_some (pe_un un_neg pe_int))) (pe_tup (pa_cons (pe_op op_sub (pe_ix ix_tup (pv 8) (pe_un un_neg pe_int) (fun _ _ => rfl)) pe_int) pa_nil)))))) <|
        pss_cons (ps_set (i := 12) scLaw.nd rfl (.inl rfl) (pe_op op_cat (pv 12) (pe_lst (pa_cons (pe_tup (pa_cons pe_int pa_nil)) (pa_cons (pe_tup (pa_cons pe_bl pa_nil)) (pa_cons (pe_tup (pa_cons (pe_un un_neg pe_int) pa_nil)) (pa_cons (pe_tup (pa_cons pe_non pa_nil)) (pa_cons pe_non (pa_cons pe_int (pa_cons pe_str (pa_cons pe_str (pa_cons (pe_tup (pa_cons (pe_tup pa_nil) pa_nil)) pa_nil)))))))))))) <|
        pss_one (ps_for PassesOwn.never rfl (pi_list (pv 12)) (pg_name (i := 13) scLaw.nd rfl (.inl rfl)) (
          pss_one (ps_if (PW.pt (pw_or (pt_cmpR op_ne (pe_callB (call_repr hgd hu) (by rfl) M.repr (by decide +kernel) (pa_cons (pe_call C.G7 r8 (by rfl) C.g7 C.k7 C.b7 .nil pass0 (pa_cons (pv 3) (pa_cons (pv 13) pa_nil))) pa_nil)) (pe_callB (call_repr hgd hu) (by rfl) M.repr (by decide +kernel) (pa_cons (pe_tup (pa_cons pe_str (pa_cons (pv 13) (pa_cons pe_bl pa_nil)))) pa_nil)) (nomark _))
              (pw_or1 (pt_cmpR op_ne (pe_callB (call_repr hgd hu) (by rfl) M.repr (by decide +kernel) (pa_cons (pv 3) pa_nil)) (pv 6) (nomark _)))))
            (pss_one (ps_ret pe_bl)) pss_nil)))))
      (pss_one (ps_ret pe_bl)), ?_⟩
    refine ⟨_, rfl, a0, _, rfl, .inl hS, _, _, rfl, _, _, rfl, _, rfl, ?_, ?_, ?_⟩
    · split <;> (try split) <;> omega
    · split <;> (try split) <;> omega
    refine for_range (lo := 0) (fun i σ H1 => ∃ y1 y2 y3 y4 y5 y6 y7 y8 y9 y10 y11 y12 y13, σ = [some (.ref a0), y1, y2, y3, y4, y5, y6, y7, y8, y9, y10, y11, y12, y13] ∧ Same H H1) ⟨_, _, _, _, _, _, _, _, _, _, _, _, _, rfl, Same.refl _⟩ ?_ ?_
    · rintro i σ H1 hi ⟨y1, y2, y3, y4, y5, y6, y7, y8, y9, y10, y11, y12, y13, rfl, sm⟩
      have e0 : (0 : Int) + (i : Int) = (i : Int) := by omega
      rw [e0]
      refine ⟨_, rfl, _, rfl, a0, ns, i, rfl, sm.seq hS, hn, fun H2 p s2 np bag => ?_⟩
      have np0 : H p = none := sm.free np
      refine ⟨_, rfl, p, 3, rfl, bag, by decide, by decide, fun x1 y1' k hk0 hk1 => ⟨rfl, _, rfl, ?_⟩⟩
      have kp : ∀ b o, b ≠ p → H2 b = some o → upd H2 p (.lst [.int x1, .int y1']) b = some o := fun b o hb e => by
        rw [upd_ne hb]
        exact e
      have bag1 : BagAt (upd H2 p (.lst [.int x1, .int y1'])) p := ⟨_, _, upd_same⟩
      generalize upd H2 p (.lst [.int x1, .int y1']) = G1 at kp bag1
      refine ite_both (R := fun v H4 => ∃ d, BagAt H4 p ∧ Dp K (del H4 p) v d ∧ Same H (del H4 p) ∧ valD d ∧ d.depth ≤ 13 ∧ sz d ≤ 401) ?_ (fun _ hq => ?_) (fun _ hq => ?_)
      rotate_left
      · exact ⟨_, rfl, p, rfl, bag1, fun H4 v d k4 b4 hv vd dd sz0 => hq v H4 ⟨d, b4, (del_dp np0 bag1 (fun b o bp e => kp b o bp (s2 b o (sm b o e))) k4 hv).1, (del_dp np0 bag1 (fun b o bp e => kp b o bp (s2 b o (sm b o e))) k4 hv).2, vd, dd, sz0⟩⟩
      · exact ⟨_, rfl, p, 5, 60, rfl, bag1, by decide, by decide, by decide, fun H4 v d k4 b4 hv vd dd sz0 => hq v H4 ⟨d, b4, (del_dp np0 bag1 (fun b o bp e => kp b o bp (s2 b o (sm b o e))) k4 hv).1, (del_dp np0 bag1 (fun b o bp e => kp b o bp (s2 b o (sm b o e))) k4 hv).2, vd, by omega, by omega⟩⟩
      rintro v H4 ⟨d, bag4, hv, sHc, vd, dd, sz0⟩
      have nds := nd_sz d vd
      have shd : Sh d := sh_of (val_okD d vd) (by have := val_bulk d vd; omega) (by omega)
      refine ⟨_, rfl, v, d, del H4 p, rfl, del_same', hv, vd, dd, by omega, by omega, by omega, fun H5 t a b wa wb s5 ht ha hb pw pp => ?_⟩
      refine ⟨_, rfl, v, d, rfl, dp_same (del_same'.trans s5) _ _ hv, shd.s, shd.n, shd.z, shd.l, (by show 2 ≤ sizeLine; decide), fun tt ntt => ⟨tt, _, rfl, SqT.of upd_same, rfl, _, _, rfl, t, _, rfl, SqT.of (same_upd ntt _ _ ht), rfl, _, _, rfl, _, _, rfl, rfl, _, _, rfl, rfl, ?_⟩⟩
      have s6 : Same H4 (upd H5 tt (.tup [.ref t, .str d.shown])) := s5.trans (same_upd ntt)
      have ha6 : (upd H5 tt (.tup [.ref t, .str d.shown])) a = some (.lst wa) := same_upd ntt _ _ ha
      have hb6 : (upd H5 tt (.tup [.ref t, .str d.shown])) b = some (.lst wb) := same_upd ntt _ _ hb
      have pw6 := Pls.same (same_upd (o := .tup [.ref t, .str d.shown]) ntt) pw
      have pp6 := Pls.same (same_upd (o := .tup [.ref t, .str d.shown]) ntt) pp
      generalize upd H5 tt (.tup [.ref t, .str d.shown]) = H6 at s6 ha6 hb6 pw6 pp6
      have bag6 := bag_same bag4 s6
      have hvd : Dp K (del H6 p) v d := dp_same (del_mono s6) _ _ hv
      have sHd : Same H (del H6 p) := sHc.trans (del_mono s6)
      have had := lst_del bag6 pw6 ha6
      have hbd := lst_del bag6 pp6 hb6
      have pwd := pls_del bag6 pw6
      have ppd := pls_del bag6 pp6
      have nHd : del H6 p p = none := del_same
      have s60 : Same (del H6 p) H6 := del_same'
      generalize del H6 p = Hd at hvd sHd had hbd pwd ppd nHd s60
      have wl1 : 1 ≤ wa.length := by
        have := Pls.len pwd
        rw [this]
        cases d <;> simp [wholeD]
      have wl2 : wa.length ≤ 401 := by
        have := Pls.len pwd
        have := whole_len d
        omega
      have bl2 : wb.length ≤ 401 := by
        have := Pls.len ppd
        have := piece_len d
        omega
      refine ⟨_, rfl, a, wa, rfl, .inl (SqL.of (s60 _ _ had)), _, _, rfl, _, rfl, ?_, ?_, ?_⟩
      · split <;> omega
      · split <;> omega
      refine for_range (lo := 0) (fun j σ H7 => ∃ z7 z8 z9 z10 z11, σ = [some (.ref a0), some (.int i), some (.ref p), some v, some (.ref a), some (.ref b), some (.str d.shown), z7, z8, z9, z10, z11, y12, y13] ∧ Same Hd H7 ∧ BagAt H7 p) ⟨_, _, _, _, _, rfl, s60, bag6⟩ ?_ ?_
      · rintro j σ H7 hj ⟨z7, z8, z9, z10, z11, rfl, s7, bag7⟩
        refine ⟨_, rfl, _, rfl, _, rfl, a, wa, rfl, .inl (SqL.of (s7 _ _ had)), p, _, rfl, bag7, by omega, by omega, fun x2 y2' m hm0 hm1 => ?_⟩
        obtain ⟨n, rfl⟩ : ∃ n : Nat, m = n := ⟨m.toNat, by omega⟩
        have hn' : n < wa.length := by omega
        obtain ⟨tp, pq, ex, htp, hpp⟩ := Pls.get pwd (List.getElem?_eq_getElem hn')
        have s8 : Same Hd (upd H7 p (.lst [.int x2, .int y2'])) := same_fresh nHd s7
        have bag8 : BagAt (upd H7 p (.lst [.int x2, .int y2'])) p := ⟨_, _, upd_same⟩
        generalize upd H7 p (.lst [.int x2, .int y2']) = H8 at s8 bag8
        refine ⟨a, wa, _, .ref tp, rfl, rfl, SqL.of (s8 _ _ had), atI_nat (by rw [List.getElem?_eq_getElem hn', ex]), ?_⟩
        have hpm := List.mem_of_getElem? hpp
        obtain ⟨hok, _⟩ := whole_ok d pq hpm
        have hsh := whole_short d pq hpm
        obtain ⟨⟨xe, hxe⟩, htn⟩ := ok_at _ _ hok
        obtain ⟨wv, wz, wd⟩ := wrap_val _ _ hok vd
        have shw : Sh (wrapD d (natD pq)) := sh_of (val_okD _ wv) (by have := val_bulk _ wv; omega) (by omega)
        refine ⟨_, rfl, _, rfl, v, tp, d, pq, Hd, rfl, s8, hvd, s8 _ _ htp, hok, by omega, by omega, by omega, fun H9 v9 s9 hv9 => ⟨v9, _, rfl, dp_same (mix_all s8 s9) _ _ hv9, shw.s, shw.n, shw.z, shw.l, ?_⟩⟩
        refine ⟨2, rfl, by decide, by decide, for_range (lo := 0) (n := 2) (fun m σ H10 => ∃ x10 x11, σ = [some (.ref a0), some (.int i), some (.ref p), some v, some (.ref a), some (.ref b), some (.str d.shown), some (.int (0 + (j : Int))), some (.ref tp), some (.str (wrapD d (natD pq)).shown), x10, x11, y12, y13] ∧ Same Hd H10 ∧ BagAt H10 p) ⟨_, _, rfl, s8.trans s9, bag_same bag8 s9⟩ ?_ ?_⟩
        · rintro m σ H10 hm ⟨x10, x11, rfl, s10, bag10⟩
          refine ⟨_, rfl, _, rfl, v, .ref tp, d, .tuple (natD pq), Hd, rfl, s10, hvd, .tup (SqT.of htp) (dp_nats pq), by omega, by omega, ?_, fun ks e ep he ht H12 v12 S s12 tr nw => ?_, fun hbad => ?_⟩
          · simp only [nd, nd_nats]
            omega
          · obtain rfl := PyData.tuple.inj ep
            refine ⟨_, rfl, v12, _, rfl, Tr.dp tr, shw.s, shw.n, shw.z, shw.l, _, rfl, rfl, _, rfl, ?_⟩
            refine iteNS rfl ⟨_, rfl, v, d, rfl, dp_same (s10.trans s12) _ _ hvd, shd.s, shd.n, shd.z, shd.l, _, rfl, rfl, _, rfl, iteNS rfl ?_⟩
            refine ⟨_, rfl, v12, _, S, rfl, tr, by omega, by have := nd_sz _ wv; omega, fun H13 k13 => ⟨_, _, rfl, fun b o e => ?_, ?_⟩⟩
            · refine k13 b o (fun z => ?_) (s12 _ _ (s10 _ _ e))
              have := nw b z
              rw [s10 _ _ e] at this
              cases this
            · obtain ⟨x, y, e⟩ := bag10
              refine ⟨x, y, k13 p _ (fun z => ?_) (s12 _ _ e)⟩
              have := nw p z
              rw [e] at this
              cases this
          · exfalso
            rcases hbad with z | ⟨ks, ez, z⟩
            · rw [show foundD d (.tuple (natD pq)) = atD d (natD pq) from rfl, hxe] at z
              cases z
            · obtain rfl := PyData.tuple.inj ez
              rw [htn] at z
              cases z
        · rintro σ H10 ⟨x10, x11, rfl, s10, bag10⟩
          exact ⟨_, _, _, _, _, rfl, s10, bag10⟩
      · rintro σ H7 ⟨z7, z8, z9, z10, z11, rfl, s7, bag7⟩
        have oddW : OddAll K Hd d wb := fun x hx => odd_piece sz0 (by omega) (pl_of ppd hx)
        have oddC : ∀ lo hi, OddAll K Hd d (cutV wb lo hi) := fun lo hi x hx => oddW x (mem_cut hx)
        have lC : ∀ (xs : List V) lo hi, (cutV xs lo hi).length ≤ xs.length := fun xs lo hi => len_cutV
        have fit : ∀ {n : Nat}, n ≤ 20000 → n ≤ sizeLine := fun h => Nat.le_trans h (by decide)
        refine ⟨_, rfl, 6, rfl, b, wb, rfl, SqL.of (s7 _ _ hbd), fun c1 n1 => ?_⟩
        have t1 : Same Hd (upd H7 c1 (.lst (cutV wb none (some 6)))) := s7.trans (same_upd n1)
        have h1 : (upd H7 c1 (.lst (cutV wb none (some 6)))) c1 = some (.lst (cutV wb none (some 6))) := upd_same
        generalize upd H7 c1 (.lst (cutV wb none (some 6))) = G1 at t1 h1
        refine ⟨_, rfl, 6, rfl, -6, rfl, b, wb, rfl, SqL.of (t1 _ _ hbd), fun c2 n2 => ?_⟩
        have u2 : Same G1 (upd G1 c2 (.lst (cutV wb (some (-6)) none))) := same_upd n2
        have h2 : (upd G1 c2 (.lst (cutV wb (some (-6)) none))) c2 = some (.lst (cutV wb (some (-6)) none)) := upd_same
        generalize upd G1 c2 (.lst (cutV wb (some (-6)) none)) = G2 at u2 h2
        refine ⟨c1, c2, _, _, rfl, rfl, u2 _ _ h1, h2, fit (by have := lC wb none (some 6); have := lC wb (some (-6)) none; omega), fun c3 n3 => ?_⟩
        have t3 : Same Hd (upd G2 c3 (.lst (cutV wb none (some 6) ++ cutV wb (some (-6)) none))) := (t1.trans u2).trans (same_upd n3)
        have h3 : (upd G2 c3 (.lst (cutV wb none (some 6) ++ cutV wb (some (-6)) none))) c3 = some (.lst (cutV wb none (some 6) ++ cutV wb (some (-6)) none)) := upd_same
        generalize upd G2 c3 (.lst (cutV wb none (some 6) ++ cutV wb (some (-6)) none)) = G3 at t3 h3
        have o3 : OddAll K G3 d (cutV wb none (some 6) ++ cutV wb (some (-6)) none) := odd_same t3 (odd_append (oddC _ _) (oddC _ _))
        have l3 : (cutV wb none (some 6) ++ cutV wb (some (-6)) none).length ≤ 802 := by
          have := lC wb none (some 6)
          have := lC wb (some (-6)) none
          rw [List.length_append]
          omega
        generalize cutV wb none (some 6) ++ cutV wb (some (-6)) none = w3 at h3 o3 l3
        refine read_odd (d := d) (fun p => p ∈ pieceD d) (fun R hR => ⟨_, rfl, 3, rfl, b, wb, rfl, SqL.of (t3 _ _ hbd), fun c n => hR _ c _ (same_upd n) upd_same (by have := lC wb none (some 3); omega) fun x hx => pl_same (t3.trans (same_upd n)) (pl_of ppd (mem_cut hx))⟩) (st_a sz0 (by omega)) fun G4 D4 us4 u4 h4 l4 o4 => ?_
        refine ⟨c3, D4, w3, us4, rfl, rfl, u4 _ _ h3, h4, fit (by omega), fun c5 n5 => ?_⟩
        have t5 : Same Hd (upd G4 c5 (.lst (w3 ++ us4))) := (t3.trans u4).trans (same_upd n5)
        have h5 : (upd G4 c5 (.lst (w3 ++ us4))) c5 = some (.lst (w3 ++ us4)) := upd_same
        have o5 : OddAll K (upd G4 c5 (.lst (w3 ++ us4))) d (w3 ++ us4) := odd_append (odd_same (u4.trans (same_upd n5)) o3) (odd_same (same_upd n5) o4)
        generalize upd G4 c5 (.lst (w3 ++ us4)) = G5 at t5 h5 o5
        refine read_odd (d := d) (fun p => p ∈ wholeD d) (fun R hR => ⟨_, rfl, 3, rfl, -3, rfl, a, wa, rfl, SqL.of (t5 _ _ had), fun c n => hR _ c _ (same_upd n) upd_same (by have := lC wa (some (-3)) none; omega) fun x hx => pl_same (t5.trans (same_upd n)) (pl_of pwd (mem_cut hx))⟩) (st_b sz0 (by omega)) fun G6 D6 us6 u6 h6 l6 o6 => ?_
        refine ⟨c5, D6, _, us6, rfl, rfl, u6 _ _ h5, h6, fit (by rw [List.length_append]; omega), fun c7 n7 => ?_⟩
        have t7 : Same Hd (upd G6 c7 (.lst (w3 ++ us4 ++ us6))) := (t5.trans u6).trans (same_upd n7)
        have h7 : (upd G6 c7 (.lst (w3 ++ us4 ++ us6))) c7 = some (.lst (w3 ++ us4 ++ us6)) := upd_same
        have o7 : OddAll K (upd G6 c7 (.lst (w3 ++ us4 ++ us6))) d (w3 ++ us4 ++ us6) := odd_append (odd_same (u6.trans (same_upd n7)) o5) (odd_same (same_upd n7) o6)
        have l7 : (w3 ++ us4 ++ us6).length ≤ 11000 := by
          rw [List.length_append, List.length_append]
          omega
        generalize upd G6 c7 (.lst (w3 ++ us4 ++ us6)) = G7 at t7 h7 o7
        generalize w3 ++ us4 ++ us6 = w7 at h7 o7 l7
        refine ⟨_, rfl, read_odd (d := d) (fun p => p ∈ wholeD d ∨ p ∈ pieceD d) (fun R hR => ?_) (st_c sz0 (by omega)) fun G8 D8 us8 u8 h8 l8 o8 => ?_⟩
        · refine ⟨_, rfl, 4, rfl, -4, rfl, a, wa, rfl, SqL.of (t7 _ _ had), fun c n => ⟨_, rfl, 2, rfl, -2, rfl, b, wb, rfl, SqL.of (same_upd n _ _ (t7 _ _ hbd)), fun c' n' => ⟨c, c', _, _, rfl, rfl, same_upd n' _ _ upd_same, upd_same, ?_, fun c2' n2' => hR _ c2' _ (((same_upd n).trans (same_upd n')).trans (same_upd n2')) upd_same ?_ fun x hx => ?_⟩⟩⟩
          · exact fit (by have := lC wa (some (-4)) none; have := lC wb (some (-2)) none; omega)
          · have := lC wa (some (-4)) none
            have := lC wb (some (-2)) none
            rw [List.length_append]
            omega
          · refine pl_same (t7.trans (((same_upd n).trans (same_upd n')).trans (same_upd n2'))) ?_
            rcases List.mem_append.mp hx with z | z
            · obtain ⟨t', p', e1, e2, e3⟩ := pl_of pwd (mem_cut z)
              exact ⟨t', p', e1, e2, .inl e3⟩
            · obtain ⟨t', p', e1, e2, e3⟩ := pl_of ppd (mem_cut z)
              exact ⟨t', p', e1, e2, .inr e3⟩
        refine ⟨c7, D8, w7, us8, rfl, rfl, u8 _ _ h7, h8, fit (by omega), fun c9 n9 => ?_⟩
        have t9 : Same Hd (upd G8 c9 (.lst (w7 ++ us8))) := (t7.trans u8).trans (same_upd n9)
        have h9 : (upd G8 c9 (.lst (w7 ++ us8))) c9 = some (.lst (w7 ++ us8)) := upd_same
        have o9 : OddAll K (upd G8 c9 (.lst (w7 ++ us8))) d (w7 ++ us8) := odd_append (odd_same (u8.trans (same_upd n9)) o7) (odd_same (same_upd n9) o8)
        have l9 : (w7 ++ us8).length ≤ 16000 := by
          rw [List.length_append]
          omega
        generalize upd G8 c9 (.lst (w7 ++ us8)) = G9 at t9 h9 o9
        generalize w7 ++ us8 = w9 at h9 o9 l9
        refine ⟨_, rfl, read_consts (K := K) sz0 fun GA DA usA uA hA lA oA => ?_⟩
        refine ⟨c9, DA, w9, usA, rfl, rfl, uA _ _ h9, hA, fit (by omega), fun cB nB => ?_⟩
        have tB : Same Hd (upd GA cB (.lst (w9 ++ usA))) := (t9.trans uA).trans (same_upd nB)
        have hB : (upd GA cB (.lst (w9 ++ usA))) cB = some (.lst (w9 ++ usA)) := upd_same
        have oB : OddAll K (upd GA cB (.lst (w9 ++ usA))) d (w9 ++ usA) := odd_append (odd_same (uA.trans (same_upd nB)) o9) (odd_same (same_upd nB) oA)
        generalize upd GA cB (.lst (w9 ++ usA)) = GB at tB hB oB
        generalize w9 ++ usA = wB at hB oB
        refine ⟨_, rfl, cB, rfl, ⟨_, SqL.of hB⟩, for_list (K := K) (a := cB) (xs := wB) (fun j σ H' => ∃ z13, σ = [some (.ref a0), some (.int i), some (.ref p), some v, some (.ref a), some (.ref b), some (.str d.shown), z7, z8, z9, z10, z11, some (.ref cB), z13] ∧ Same GB H') ⟨_, rfl, Same.refl _⟩ (fun j σ H' hj ⟨_, _, sm⟩ => SqL.of (sm _ _ hB)) ?_ ?_⟩
        · rintro j x σ H' hx ⟨z13, rfl, sB⟩
          obtain ⟨pl, hpl, bad⟩ := oB x (List.mem_of_getElem? hx)
          have hvB := dp_same tB _ _ hvd
          have shn : Sh (noD pl) := by
            refine sh_of ⟨?_, bad.o, trivial, trivial⟩ ?_ ?_
            · unfold okD
              decide +kernel
            · have e2 : (("no" : Str)).cps.size = 2 := by decide +kernel
              have := bad.b
              simp only [noD, PyData.bulk, PyData.bulkAll, e2]
              omega
            · have := bad.z
              simp only [noD, PyData.depth, PyData.depthAll]
              omega
          have hbn := bad.n
          refine ⟨_, rfl, _, rfl, v, x, d, pl, GB, rfl, sB, hvB, hpl, by omega, by omega, by omega, fun ks e ep he ht => ?_, fun _ H2' t' sm2 hno => ?_⟩
          · exfalso
            subst ep
            rcases bad.no with z | ⟨ks', ez, z⟩
            · rw [show foundD d (.tuple ks) = atD d ks from rfl, he] at z
              cases z
            · obtain rfl := PyData.tuple.inj ez
              rw [ht] at z
              cases z
          · refine ⟨.ref t', _, rfl, hno, shn.s, shn.n, shn.z, shn.l, _, rfl, (by show 3 ≤ sizeLine; decide), fun t2 nt2 => ?_⟩
            refine ⟨.ref t2, noD pl, rfl, .tup (SqT.of upd_same) (.cons (.str _) (.cons (dp_same ((sB.trans sm2).trans (same_upd nt2)) _ _ hpl) (.cons (.bl _) .nil))), shn.s, shn.n, shn.z, shn.l, rfl, _, rfl, ?_⟩
            refine iteNS rfl ⟨_, rfl, v, d, rfl, dp_same ((sB.trans sm2).trans (same_upd nt2)) _ _ hvB, shd.s, shd.n, shd.z, shd.l, _, rfl, rfl, _, rfl, iteNS rfl ?_⟩
            exact ⟨_, rfl, (sB.trans sm2).trans (same_upd nt2)⟩
        · rintro σ H' ⟨z13, rfl, sB⟩
          exact ⟨_, _, _, _, _, _, _, _, _, _, _, _, _, rfl, (sHd.trans tB).trans sB⟩
    · rintro σ H1 ⟨y1, y2, y3, y4, y5, y6, y7, y8, y9, y10, y11, y12, y13, rfl, sm⟩
      exact q _
end
end TX
namespace TX
open PySem PySem.Spec PyProof.Rows L2
theorem all_mk {P : Program} {w : World} {K : PySem.W.Frag} {h : Heap} {mg : Str → Option Value} {fa TE f0 f1 f2 f3 f4 f5 f6 f7 f8 f9 f10 f11 f12 f13 f14 f15 f16 f17 NP fI NI : Addr} (X : K.In h) (G : h.Ns mainGlobals mg) (hfa : mg "law" = some (.ref fa))
    {od0 an0 : Option Addr} {sl0 : Array (Option Value)} {oc0 kV0 dc0 pm0 cd0 ct0 : Value}
    {od1 an1 : Option Addr} {sl1 : Array (Option Value)} {oc1 kV1 dc1 pm1 cd1 ct1 : Value}
    {od2 an2 : Option Addr} {sl2 : Array (Option Value)} {oc2 kV2 dc2 pm2 cd2 ct2 : Value}
    {od3 an3 : Option Addr} {sl3 : Array (Option Value)} {oc3 kV3 dc3 pm3 cd3 ct3 : Value}
    {od4 an4 : Option Addr} {sl4 : Array (Option Value)} {oc4 kV4 dc4 pm4 cd4 ct4 : Value}
    {od5 an5 : Option Addr} {sl5 : Array (Option Value)} {oc5 kV5 dc5 pm5 cd5 ct5 : Value}
    {od6 an6 : Option Addr} {sl6 : Array (Option Value)} {oc6 kV6 dc6 pm6 cd6 ct6 : Value}
    {od7 an7 : Option Addr} {sl7 : Array (Option Value)} {oc7 kV7 dc7 pm7 cd7 ct7 : Value}
    {od8 an8 : Option Addr} {sl8 : Array (Option Value)} {oc8 kV8 dc8 pm8 cd8 ct8 : Value}
    {od9 an9 : Option Addr} {sl9 : Array (Option Value)} {oc9 kV9 dc9 pm9 cd9 ct9 : Value}
    {od10 an10 : Option Addr} {sl10 : Array (Option Value)} {oc10 kV10 dc10 pm10 cd10 ct10 : Value}
    {od11 an11 : Option Addr} {sl11 : Array (Option Value)} {oc11 kV11 dc11 pm11 cd11 ct11 : Value}
    {od12 an12 : Option Addr} {sl12 : Array (Option Value)} {oc12 kV12 dc12 pm12 cd12 ct12 : Value}
    {od13 an13 : Option Addr} {sl13 : Array (Option Value)} {oc13 kV13 dc13 pm13 cd13 ct13 : Value}
    {od14 an14 : Option Addr} {sl14 : Array (Option Value)} {oc14 kV14 dc14 pm14 cd14 ct14 : Value}
    {od15 an15 : Option Addr} {sl15 : Array (Option Value)} {oc15 kV15 dc15 pm15 cd15 ct15 : Value}
    {od16 an16 : Option Addr} {sl16 : Array (Option Value)} {oc16 kV16 dc16 pm16 cd16 ct16 : Value}
    {od17 an17 : Option Addr} {sl17 : Array (Option Value)} {oc17 kV17 dc17 pm17 cd17 ct17 : Value}
    {nmT qT : Str} {NT : Addr} {bsT mrT : List Value} {hdT : Bool} {snT : List Str} {subT : List Value} {abT : Bool} {colT : Option Bool} {ddT : Option Addr} {m0T m1T m2T m3T m5T : Option Value}
    {nmNP qNP : Str} {NNP : Addr} {bsNP : List Value} {snNP : List Str} {subNP : List Value} {abNP : Bool} {colNP : Option Bool} {ddNP : Option Addr} {m0NP m1NP m2NP m3NP m5NP : Option Value}
    {odI anI : Option Addr} {slI : Array (Option Value)} {ocI kVI dcI pmI cdI ctI : Value}
    {nmNI qNI : Str} {NNI : Addr} {bsNI : List Value} {snNI : List Str} {subNI : List Value} {abNI : Bool} {colNI : Option Bool} {ddNI : Option Addr} {m0NI m1NI m2NI m3NI m5NI : Option Value}
    (a0 : PySem.W.nsIn K mainGlobals "all_parts" = some (some (.ref f0)))
    (l0 : K.lookup f0 = some ⟨oc0, od0, .func (PySem.W.fnOf "all_parts" "all_parts" (defArgs sParts) (defBody sParts) (defScope sParts) .none kV0 dc0 pm0 an0 cd0 ct0), sl0⟩)
    (c0 : PySem.W.codeIn K cd0 "all_parts" = true)
    (k0 : PySem.W.keepIn K (.ref f0) = true)
    (a1 : PySem.W.nsIn K mainGlobals "copy_of" = some (some (.ref f1)))
    (l1 : K.lookup f1 = some ⟨oc1, od1, .func (PySem.W.fnOf "copy_of" "copy_of" (defArgs sCopy) (defBody sCopy) (defScope sCopy) .none kV1 dc1 pm1 an1 cd1 ct1), sl1⟩)
    (c1 : PySem.W.codeIn K cd1 "copy_of" = true)
    (k1 : PySem.W.keepIn K (.ref f1) = true)
    (a2 : PySem.W.nsIn K mainGlobals "is_whole_number" = some (some (.ref f2)))
    (l2 : K.lookup f2 = some ⟨oc2, od2, .func (PySem.W.fnOf "is_whole_number" "is_whole_number" (defArgs s_is_whole_number) (defBody s_is_whole_number) (defScope s_is_whole_number) .none kV2 dc2 pm2 an2 cd2 ct2), sl2⟩)
    (c2 : PySem.W.codeIn K cd2 "is_whole_number" = true)
    (k2 : PySem.W.keepIn K (.ref f2) = true)
    (a3 : PySem.W.nsIn K mainGlobals "inner_of" = some (some (.ref f3)))
    (l3 : K.lookup f3 = some ⟨oc3, od3, .func (PySem.W.fnOf "inner_of" "inner_of" (defArgs s_inner_of) (defBody s_inner_of) (defScope s_inner_of) .none kV3 dc3 pm3 an3 cd3 ct3), sl3⟩)
    (c3 : PySem.W.codeIn K cd3 "inner_of" = true)
    (k3 : PySem.W.keepIn K (.ref f3) = true)
    (a4 : PySem.W.nsIn K mainGlobals "found_at" = some (some (.ref f4)))
    (l4 : K.lookup f4 = some ⟨oc4, od4, .func (PySem.W.fnOf "found_at" "found_at" (defArgs s_found_at) (defBody s_found_at) (defScope s_found_at) .none kV4 dc4 pm4 an4 cd4 ct4), sl4⟩)
    (c4 : PySem.W.codeIn K cd4 "found_at" = true)
    (k4 : PySem.W.keepIn K (.ref f4) = true)
    (a5 : PySem.W.nsIn K mainGlobals "is_torn" = some (some (.ref f5)))
    (l5 : K.lookup f5 = some ⟨oc5, od5, .func (PySem.W.fnOf "is_torn" "is_torn" (defArgs s_is_torn) (defBody s_is_torn) (defScope s_is_torn) .none kV5 dc5 pm5 an5 cd5 ct5), sl5⟩)
    (c5 : PySem.W.codeIn K cd5 "is_torn" = true)
    (k5 : PySem.W.keepIn K (.ref f5) = true)
    (a6 : PySem.W.nsIn K mainGlobals "wrapped" = some (some (.ref f6)))
    (l6 : K.lookup f6 = some ⟨oc6, od6, .func (PySem.W.fnOf "wrapped" "wrapped" (defArgs s_wrapped) (defBody s_wrapped) (defScope s_wrapped) .none kV6 dc6 pm6 an6 cd6 ct6), sl6⟩)
    (c6 : PySem.W.codeIn K cd6 "wrapped" = true)
    (k6 : PySem.W.keepIn K (.ref f6) = true)
    (a7 : PySem.W.nsIn K mainGlobals "_law_bag" = some (some (.ref f7)))
    (l7 : K.lookup f7 = some ⟨oc7, od7, .func (PySem.W.fnOf "_law_bag" "_law_bag" (defArgs sBag) (defBody sBag) (defScope sBag) .none kV7 dc7 pm7 an7 cd7 ct7), sl7⟩)
    (c7 : PySem.W.codeIn K cd7 "_law_bag" = true)
    (k7 : PySem.W.keepIn K (.ref f7) = true)
    (a8 : PySem.W.nsIn K mainGlobals "_law_take" = some (some (.ref f8)))
    (l8 : K.lookup f8 = some ⟨oc8, od8, .func (PySem.W.fnOf "_law_take" "_law_take" (defArgs sTake) (defBody sTake) (defScope sTake) .none kV8 dc8 pm8 an8 cd8 ct8), sl8⟩)
    (c8 : PySem.W.codeIn K cd8 "_law_take" = true)
    (k8 : PySem.W.keepIn K (.ref f8) = true)
    (a9 : PySem.W.nsIn K mainGlobals "_law_text" = some (some (.ref f9)))
    (l9 : K.lookup f9 = some ⟨oc9, od9, .func (PySem.W.fnOf "_law_text" "_law_text" (defArgs sText) (defBody sText) (defScope sText) .none kV9 dc9 pm9 an9 cd9 ct9), sl9⟩)
    (c9 : PySem.W.codeIn K cd9 "_law_text" = true)
    (k9 : PySem.W.keepIn K (.ref f9) = true)
    (a10 : PySem.W.nsIn K mainGlobals "_law_size" = some (some (.ref f10)))
    (l10 : K.lookup f10 = some ⟨oc10, od10, .func (PySem.W.fnOf "_law_size" "_law_size" (defArgs sSize) (defBody sSize) (defScope sSize) .none kV10 dc10 pm10 an10 cd10 ct10), sl10⟩)
    (c10 : PySem.W.codeIn K cd10 "_law_size" = true)
    (k10 : PySem.W.keepIn K (.ref f10) = true)
    (a11 : PySem.W.nsIn K mainGlobals "_law_value" = some (some (.ref f11)))
    (l11 : K.lookup f11 = some ⟨oc11, od11, .func (PySem.W.fnOf "_law_value" "_law_value" (defArgs sValue) (defBody sValue) (defScope sValue) .none kV11 dc11 pm11 an11 cd11 ct11), sl11⟩)
    (c11 : PySem.W.codeIn K cd11 "_law_value" = true)
    (k11 : PySem.W.keepIn K (.ref f11) = true)
    (a12 : PySem.W.nsIn K mainGlobals "_law_great" = some (some (.ref f12)))
    (l12 : K.lookup f12 = some ⟨oc12, od12, .func (PySem.W.fnOf "_law_great" "_law_great" (defArgs sGreat) (defBody sGreat) (defScope sGreat) .none kV12 dc12 pm12 an12 cd12 ct12), sl12⟩)
    (c12 : PySem.W.codeIn K cd12 "_law_great" = true)
    (k12 : PySem.W.keepIn K (.ref f12) = true)
    (a13 : PySem.W.nsIn K mainGlobals "_law_places" = some (some (.ref f13)))
    (l13 : K.lookup f13 = some ⟨oc13, od13, .func (PySem.W.fnOf "_law_places" "_law_places" (defArgs s__law_places) (defBody s__law_places) (defScope s__law_places) .none kV13 dc13 pm13 an13 cd13 ct13), sl13⟩)
    (c13 : PySem.W.codeIn K cd13 "_law_places" = true)
    (k13 : PySem.W.keepIn K (.ref f13) = true)
    (a14 : PySem.W.nsIn K mainGlobals "_law_put" = some (some (.ref f14)))
    (l14 : K.lookup f14 = some ⟨oc14, od14, .func (PySem.W.fnOf "_law_put" "_law_put" (defArgs s__law_put) (defBody s__law_put) (defScope s__law_put) .none kV14 dc14 pm14 an14 cd14 ct14), sl14⟩)
    (c14 : PySem.W.codeIn K cd14 "_law_put" = true)
    (k14 : PySem.W.keepIn K (.ref f14) = true)
    (a15 : PySem.W.nsIn K mainGlobals "_law_told" = some (some (.ref f15)))
    (l15 : K.lookup f15 = some ⟨oc15, od15, .func (PySem.W.fnOf "_law_told" "_law_told" (defArgs sTold) (defBody sTold) (defScope sTold) .none kV15 dc15 pm15 an15 cd15 ct15), sl15⟩)
    (c15 : PySem.W.codeIn K cd15 "_law_told" = true)
    (k15 : PySem.W.keepIn K (.ref f15) = true)
    (a16 : PySem.W.nsIn K mainGlobals "_law_spoil" = some (some (.ref f16)))
    (l16 : K.lookup f16 = some ⟨oc16, od16, .func (PySem.W.fnOf "_law_spoil" "_law_spoil" (defArgs sSpoil) (defBody sSpoil) (defScope sSpoil) .none kV16 dc16 pm16 an16 cd16 ct16), sl16⟩)
    (c16 : PySem.W.codeIn K cd16 "_law_spoil" = true)
    (k16 : PySem.W.keepIn K (.ref f16) = true)
    (a17 : PySem.W.nsIn K mainGlobals "law" = some (some (.ref f17)))
    (l17 : K.lookup f17 = some ⟨oc17, od17, .func (PySem.W.fnOf "law" "law" (defArgs sLaw) (defBody sLaw) (defScope sLaw) .none kV17 dc17 pm17 an17 cd17 ct17), sl17⟩)
    (c17 : PySem.W.codeIn K cd17 "law" = true)
    (k17 : PySem.W.keepIn K (.ref f17) = true)
    (aTE : PySem.W.nsIn K mainGlobals "TextorlistError" = some (some (.ref TE)))
    (lTE : K.lookup TE = some (excClassObj nmT qT TE NT bsT mrT hdT snT subT abT colT ddT m0T m1T m2T m3T m5T "ValueError.__new__"))
    (tTE : PySem.W.typeIn K (.ref TE) = some (.type "type"))
    (hn : PySem.W.specialIn K (.builtin "object.__class__") "__get__" = some (some (.builtin "getset_descriptor.__get__")))
    (ht : PySem.W.takesIn K (.builtin "object.__class__") = some true)
    (aCNP : PySem.W.nsIn K mainGlobals "NoPlace" = some (some (.ref NP)))
    (xNP : K.lookup NP = some (excClassObj nmNP qNP NP NNP bsNP [.ref TE, .type "ValueError", .type "Exception", .type "BaseException", .type "object"] true snNP subNP abNP colNP ddNP m0NP m1NP m2NP m3NP m5NP "ValueError.__new__"))
    (saNP : PySem.W.findIn K (.ref NP) "__setattr__" = some (some (.builtin "object.__setattr__")))
    (gaNP : PySem.W.findIn K (.ref NP) "__getattribute__" = some (some (.builtin "BaseException.__getattribute__")))
    (ggNP : PySem.W.findIn K (.ref NP) "__getattr__" = some none)
    (haNP : PySem.W.findIn K (.ref NP) "__class__" = some (some (.builtin "object.__class__")))
    (kcNP : PySem.W.keepIn K (.ref NP) = true)
    (aI : PySem.W.findIn K (.ref NP) "__init__" = some (some (.ref fI)))
    (lI : K.lookup fI = some ⟨ocI, odI, .func (PySem.W.fnOf "__init__" "NoPlace.__init__" (defArgs mNoPlace_init) (defBody mNoPlace_init) (defScope mNoPlace_init) .none kVI dcI pmI anI cdI ctI), slI⟩)
    (cI : PySem.W.codeIn K cdI "NoPlace.__init__" = true)
    (kI : PySem.W.keepIn K (.ref fI) = true)
    (nP : PySem.W.findIn K (.ref NP) "place" = some none)
    (ti : PySem.W.typeIn K (.ref fI) = some (.type "function"))
    (aCNI : PySem.W.nsIn K mainGlobals "NoItems" = some (some (.ref NI)))
    (xNI : K.lookup NI = some (excClassObj nmNI qNI NI NNI bsNI [.ref TE, .type "ValueError", .type "Exception", .type "BaseException", .type "object"] true snNI subNI abNI colNI ddNI m0NI m1NI m2NI m3NI m5NI "ValueError.__new__"))
    (saNI : PySem.W.findIn K (.ref NI) "__setattr__" = some (some (.builtin "object.__setattr__")))
    (gaNI : PySem.W.findIn K (.ref NI) "__getattribute__" = some (some (.builtin "BaseException.__getattribute__")))
    (ggNI : PySem.W.findIn K (.ref NI) "__getattr__" = some none)
    (haNI : PySem.W.findIn K (.ref NI) "__class__" = some (some (.builtin "object.__class__")))
    (kcNI : PySem.W.keepIn K (.ref NI) = true)
    (zisinstance : PySem.W.nsIn K mainGlobals "isinstance" = some none)
    (zlist : PySem.W.nsIn K mainGlobals "list" = some none)
    (ztuple : PySem.W.nsIn K mainGlobals "tuple" = some none)
    (zlen : PySem.W.nsIn K mainGlobals "len" = some none)
    (zabs : PySem.W.nsIn K mainGlobals "abs" = some none)
    (zenumerate : PySem.W.nsIn K mainGlobals "enumerate" = some none)
    (zint : PySem.W.nsIn K mainGlobals "int" = some none)
    (zrange : PySem.W.nsIn K mainGlobals "range" = some none)
    (zsum : PySem.W.nsIn K mainGlobals "sum" = some none)
    (zmin : PySem.W.nsIn K mainGlobals "min" = some none)
    (zmax : PySem.W.nsIn K mainGlobals "max" = some none)
    (zrepr : PySem.W.nsIn K mainGlobals "repr" = some none)
    (zstr : PySem.W.nsIn K mainGlobals "str" = some none)
    (zbool : PySem.W.nsIn K mainGlobals "bool" = some none)
    (n1 : NP ≠ TE)
    (n2 : NP ≠ NI)
    (n3 : NI ≠ TE) :
    ∃ fd : FuncData, (∀ (s : Shared) (v : Value), BindsTo s fd ⟨[v], []⟩ [("_law_script", v)]) ∧ ∀ base : Heap, K.In base → base.Ns mainGlobals mg → FnG P w K mg base CX0 17 fa fd ["_law_script"] (spLaw K) := by
  have e := hfa.symm.trans (PySem.W.mg_of X G a17)
  cases e
  have F0 := fun_mk (st := sParts) l0 c0 k0
  have F1 := fun_mk (st := sCopy) l1 c1 k1
  have F2 := fun_mk (st := s_is_whole_number) l2 c2 k2
  have F3 := fun_mk (st := s_inner_of) l3 c3 k3
  have F4 := fun_mk (st := s_found_at) l4 c4 k4
  have F5 := fun_mk (st := s_is_torn) l5 c5 k5
  have F6 := fun_mk (st := s_wrapped) l6 c6 k6
  have F7 := fun_mk (st := sBag) l7 c7 k7
  have F8 := fun_mk (st := sTake) l8 c8 k8
  have F9 := fun_mk (st := sText) l9 c9 k9
  have F10 := fun_mk (st := sSize) l10 c10 k10
  have F11 := fun_mk (st := sValue) l11 c11 k11
  have F12 := fun_mk (st := sGreat) l12 c12 k12
  have F13 := fun_mk (st := s__law_places) l13 c13 k13
  have F14 := fun_mk (st := s__law_put) l14 c14 k14
  have F15 := fun_mk (st := sTold) l15 c15 k15
  have F16 := fun_mk (st := sSpoil) l16 c16 k16
  have F17 := fun_mk (st := sLaw) l17 c17 k17
  have b0 := F0.binds (ps := ["thing"]) fun _ _ _ _ _ _ us hl => match us, hl with | [_], _ => rfl
  have g0 := PySem.W.mg_of X G a0
  have b1 := F1.binds (ps := ["thing"]) fun _ _ _ _ _ _ us hl => match us, hl with | [_], _ => rfl
  have g1 := PySem.W.mg_of X G a1
  have b2 := F2.binds (ps := ["thing"]) fun _ _ _ _ _ _ us hl => match us, hl with | [_], _ => rfl
  have g2 := PySem.W.mg_of X G a2
  have b3 := F3.binds (ps := ["part"]) fun _ _ _ _ _ _ us hl => match us, hl with | [_], _ => rfl
  have g3 := PySem.W.mg_of X G a3
  have b4 := F4.binds (ps := ["value", "place"]) fun _ _ _ _ _ _ us hl => match us, hl with | [_, _], _ => rfl
  have g4 := PySem.W.mg_of X G a4
  have b5 := F5.binds (ps := ["value", "place"]) fun _ _ _ _ _ _ us hl => match us, hl with | [_, _], _ => rfl
  have g5 := PySem.W.mg_of X G a5
  have b6 := F6.binds (ps := ["value", "place"]) fun _ _ _ _ _ _ us hl => match us, hl with | [_, _], _ => rfl
  have g6 := PySem.W.mg_of X G a6
  have b7 := F7.binds (ps := ["_law_script", "_law_at"]) fun _ _ _ _ _ _ us hl => match us, hl with | [_, _], _ => rfl
  have g7 := PySem.W.mg_of X G a7
  have b8 := F8.binds (ps := ["_law_bag_here", "_law_many"]) fun _ _ _ _ _ _ us hl => match us, hl with | [_, _], _ => rfl
  have g8 := PySem.W.mg_of X G a8
  have b9 := F9.binds (ps := ["_law_bag_here", "_law_most"]) fun _ _ _ _ _ _ us hl => match us, hl with | [_, _], _ => rfl
  have g9 := PySem.W.mg_of X G a9
  have b10 := F10.binds (ps := ["_law_value_here"]) fun _ _ _ _ _ _ us hl => match us, hl with | [_], _ => rfl
  have g10 := PySem.W.mg_of X G a10
  have b11 := F11.binds (ps := ["_law_bag_here", "_law_deep", "_law_room"]) fun _ _ _ _ _ _ us hl => match us, hl with | [_, _, _], _ => rfl
  have g11 := PySem.W.mg_of X G a11
  have b12 := F12.binds (ps := ["_law_bag_here"]) fun _ _ _ _ _ _ us hl => match us, hl with | [_], _ => rfl
  have g12 := PySem.W.mg_of X G a12
  have b13 := F13.binds (ps := ["_law_value_here"]) fun _ _ _ _ _ _ us hl => match us, hl with | [_], _ => rfl
  have g13 := PySem.W.mg_of X G a13
  have b14 := F14.binds (ps := ["_law_value_here", "_law_place"]) fun _ _ _ _ _ _ us hl => match us, hl with | [_, _], _ => rfl
  have g14 := PySem.W.mg_of X G a14
  have b15 := F15.binds (ps := ["_law_value_here", "_law_thing"]) fun _ _ _ _ _ _ us hl => match us, hl with | [_, _], _ => rfl
  have g15 := PySem.W.mg_of X G a15
  have b16 := F16.binds (ps := ["_law_value_here"]) fun _ _ _ _ _ _ us hl => match us, hl with | [_], _ => rfl
  have g16 := PySem.W.mg_of X G a16
  have EI := fun_mk (st := mNoPlace_init) lI cI kI
  have bI := EI.binds (ps := ["self", "place"]) fun _ _ _ _ _ _ us hl => match us, hl with | [_, _], _ => rfl
  have hTp : ∀ x : Str, PySem.W.nsIn K mainGlobals x = some none → mg x = none := fun x z => PySem.W.mg_none_of X G z
  have NM : Nm mg := ⟨hTp _ zisinstance, hTp _ zlist, hTp _ ztuple⟩
  have NB : Nb mg := ⟨hTp _ zlen, hTp _ zabs, hTp _ zenumerate, hTp _ zint⟩
  have NK : Nk mg := ⟨hTp _ zstr, hTp _ zbool⟩
  have NV : Nv mg := ⟨hTp _ zrange, hTp _ zsum, hTp _ zmin⟩
  have cN := cl_of (PySem.W.mg_of X G aCNP) xNP saNP gaNP ggNP haNP hn ht kcNP
  have cI := cl_of (PySem.W.mg_of X G aCNI) xNI saNI gaNI ggNI haNI hn ht kcNI
  have hcT : ∃ cd, PySem.W.clsIn K TE = some cd := by
    refine ⟨{ name := nmT, bases := bsT, mro := .ref TE :: mrT, ns := NT, qualname := qT, hasDict := hdT, slotNames := snT, subclasses := subT, abstract := abT, collection := colT, hasDel := false }, ?_⟩
    unfold PySem.W.clsIn
    rw [lTE] <;> rfl
  obtain ⟨cdT, hcT⟩ := hcT
  refine ⟨PySem.W.fnOf "law" "law" (defArgs sLaw) (defBody sLaw) (defScope sLaw) .none kV17 dc17 pm17 an17 cd17 ct17, fun s v => .of_eq rfl, fun base _ _ => ?_⟩
  have GC : FnOk P w K mg base CX0 2 f1 _ ["thing"] (spCopy K) := ok_copy (k := 0) F1 NM F0 b0 g0
  have GCT : FnOk P w K mg base CX0 2 f1 _ ["thing"] (spCopyT K) := ok_copyT (k := 0) F1 NM F0 b0 g0
  have GI : FnOk P w K mg base CX0 3 fI _ ["self", "place"] (spIn1 K NP "place") := ok_inNp EI GC g1 k1 b1
  have GW : FnOk P w K mg base CX0 1 f2 _ ["thing"] (spWhole K) := ok_whole F2 NM NK NB
  have GN : FnOk P w K mg base CX0 1 f3 _ ["part"] (spInner K) := ok_inner F3 NM NK NB
  have GF := ok_found F4 NM NB cN aI ti nP GI bI GW g2 k2 b2 GN g3 k3 b3
  have GTn := ok_torn F5 NM NK GF g4 k4 b4
  have GWr := ok_wrapped F6 cN aI ti nP GI bI GCT g1 k1 b1 GTn g5 k5 b5
  have GB : FnOk P w K mg base CX0 1 f7 _ ["_law_script", "_law_at"] (spBag K) := ok_bag (k := 0) F7 NB
  have GT : FnOk P w K mg base CX0 1 f8 _ ["_law_bag_here", "_law_many"] spTake := ok_take (k := 0) F8 NB
  have GX : FnOk P w K mg base CX0 2 f9 _ ["_law_bag_here", "_law_most"] spText := ok_text F9 NB NV F8 b8 g8
  have C1 : Vc P w K mg base f8 f9 f10 (PySem.W.fnOf "_law_take" "_law_take" (defArgs sTake) (defBody sTake) (defScope sTake) .none kV8 dc8 pm8 an8 cd8 ct8) (PySem.W.fnOf "_law_text" "_law_text" (defArgs sText) (defBody sText) (defScope sText) .none kV9 dc9 pm9 an9 cd9 ct9) (PySem.W.fnOf "_law_size" "_law_size" (defArgs sSize) (defBody sSize) (defScope sSize) .none kV10 dc10 pm10 an10 cd10 ct10) := ⟨GT, b8, g8, k8, GX, b9, g9, k9, fun N => ok_size F10 NM NB NV b10 g10 N, b10, g10, k10⟩
  have GV := ok_values F11 b11 g11 NV C1 4
  have GV5 := ok_values F11 b11 g11 NV C1 5
  have GG := ok_great F12 NV C1 GV g11 k11 b11
  have GP : FnOk P w K mg base CX0 14 f13 _ ["_law_value_here"] (spPlaces K 13) := ok_places F13 NM NK NB NV b13 g13 13
  have GPu : FnOk P w K mg base CX0 14 f14 _ ["_law_value_here", "_law_place"] (spPut K 13) := ok_put F14 NB b14 g14 13
  have GTo := ok_told F15 NM cN cI nP (PySem.W.mg_of X G aTE) hcT tTE n1 n2 n3 GWr g6 k6 b6
  have GS : FnOk P w K mg base CX0 16 f16 _ ["_law_value_here"] (spSpoil 15) := ok_spoil F16 NM b16 g16 15
  exact ok_law F17 ⟨hTp _ zmax, hTp _ zrepr⟩ NM NB NV ⟨GB, GT, GG, GV5, GP, GPu, GTo, GS, b7, b8, b12, b11, b13, b14, b15, b16, g7, g8, g12, g11, g13, g14, g15, g16, k7, k8, k12, k11, k13, k14, k15, k16⟩
end TX
open PySem PySem.W PyProof.Rows
set_option maxRecDepth 100000 in
set_option maxHeartbeats 0 in
theorem PySem.Challenge.cw_textorlist_k04_parts_wrapped_holds : PySem.Challenge.rw_textorlist_k04_parts_wrapped.Holds := by
  w_on; o_law; k_head; (case hw => w_witness2)
  k_fill
  refine TX.walkG (l := PySem.Challenge.rw_textorlist_k04_parts_wrapped) (n := 63) (k := 17) (x := "_law_script") (sp := fun w => TX.spLaw _) rfl (by decide) rfl ⟨rfl, by decide, by decide⟩ (fun w h Y => PySem.W.kIn_of Y) ?F (fun _ _ a ns hl _ hS => ⟨a, ns, rfl, hS, hl, fun _ => rfl⟩)
  case F =>
    intro w mg fa h KX G hmg
    refine' TX.all_mk KX G hmg ?a0 ?l0 ?c0 ?k0 ?a1 ?l1 ?c1 ?k1 ?a2 ?l2 ?c2 ?k2 ?a3 ?l3 ?c3 ?k3 ?a4 ?l4 ?c4 ?k4 ?a5 ?l5 ?c5 ?k5 ?a6 ?l6 ?c6 ?k6 ?a7 ?l7 ?c7 ?k7 ?a8 ?l8 ?c8 ?k8 ?a9 ?l9 ?c9 ?k9 ?a10 ?l10 ?c10 ?k10 ?a11 ?l11 ?c11 ?k11 ?a12 ?l12 ?c12 ?k12 ?a13 ?l13 ?c13 ?k13 ?a14 ?l14 ?c14 ?k14 ?a15 ?l15 ?c15 ?k15 ?a16 ?l16 ?c16 ?k16 ?a17 ?l17 ?c17 ?k17 ?aTE ?lTE ?tTE ?hn ?ht ?aCNP ?xNP ?saNP ?gaNP ?ggNP ?haNP ?kcNP ?aI ?lI ?cI ?kI ?nP ?ti ?aCNI ?xNI ?saNI ?gaNI ?ggNI ?haNI ?kcNI ?zisinstance ?zlist ?ztuple ?zlen ?zabs ?zenumerate ?zint ?zrange ?zsum ?zmin ?zmax ?zrepr ?zstr ?zbool ?n1 ?n2 ?n3
    (case a0 => k_is)
    (case l0 => k_is)
    (case c0 => k_is)
    (case k0 => k_is)
    (case a1 => k_is)
    (case l1 => k_is)
    (case c1 => k_is)
    (case k1 => k_is)
    (case a2 => k_is)
    (case l2 => k_is)
    (case c2 => k_is)
    (case k2 => k_is)
    (case a3 => k_is)
    (case l3 => k_is)
    (case c3 => k_is)
    (case k3 => k_is)
    (case a4 => k_is)
    (case l4 => k_is)
    (case c4 => k_is)
    (case k4 => k_is)
    (case a5 => k_is)
    (case l5 => k_is)
    (case c5 => k_is)
    (case k5 => k_is)
    (case a6 => k_is)
    (case l6 => k_is)
    (case c6 => k_is)
    (case k6 => k_is)
    (case a7 => k_is)
    (case l7 => k_is)
    (case c7 => k_is)
    (case k7 => k_is)
    (case a8 => k_is)
    (case l8 => k_is)
    (case c8 => k_is)
    (case k8 => k_is)
    (case a9 => k_is)
    (case l9 => k_is)
    (case c9 => k_is)
    (case k9 => k_is)
    (case a10 => k_is)
    (case l10 => k_is)
    (case c10 => k_is)
    (case k10 => k_is)
    (case a11 => k_is)
    (case l11 => k_is)
    (case c11 => k_is)
    (case k11 => k_is)
    (case a12 => k_is)
    (case l12 => k_is)
    (case c12 => k_is)
    (case k12 => k_is)
    (case a13 => k_is)
    (case l13 => k_is)
    (case c13 => k_is)
    (case k13 => k_is)
    (case a14 => k_is)
    (case l14 => k_is)
    (case c14 => k_is)
    (case k14 => k_is)
    (case a15 => k_is)
    (case l15 => k_is)
    (case c15 => k_is)
    (case k15 => k_is)
    (case a16 => k_is)
    (case l16 => k_is)
    (case c16 => k_is)
    (case k16 => k_is)
    (case a17 => k_is)
    (case l17 => k_is)
    (case c17 => k_is)
    (case k17 => k_is)
    (case aTE => k_is)
    (case lTE => k_is)
    (case tTE => k_is)
    (case hn => k_is)
    (case ht => k_is)
    (case aCNP => k_is)
    (case xNP => k_is)
    (case saNP => k_is)
    (case gaNP => k_is)
    (case ggNP => k_is)
    (case haNP => k_is)
    (case kcNP => k_is)
    (case aI => k_is)
    (case lI => k_is)
    (case cI => k_is)
    (case kI => k_is)
    (case nP => k_is)
    (case ti => k_is)
    (case aCNI => k_is)
    (case xNI => k_is)
    (case saNI => k_is)
    (case gaNI => k_is)
    (case ggNI => k_is)
    (case haNI => k_is)
    (case kcNI => k_is)
    (case zisinstance => k_is)
    (case zlist => k_is)
    (case ztuple => k_is)
    (case zlen => k_is)
    (case zabs => k_is)
    (case zenumerate => k_is)
    (case zint => k_is)
    (case zrange => k_is)
    (case zsum => k_is)
    (case zmin => k_is)
    (case zmax => k_is)
    (case zrepr => k_is)
    (case zstr => k_is)
    (case zbool => k_is)
    (case n1 => decide)
    (case n2 => decide)
    (case n3 => decide)
