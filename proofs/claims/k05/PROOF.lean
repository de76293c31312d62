import PyProof.Rows.All
import PyProof.ListStr
import HandS.Flow
import HandS.StrMore
import HandS.Iter
import HandS.Walk
import Wide.All
import OpenK.AllK
import Wide.FinOn
import HandS.ForMost
import HandS.Style
import HandS.IsInst
import HandS.ExcInit
import HandS.ExcIs
import HandS.ExcField
import HandS.ForExc
import HandS.TupAny
import PyProof.InstNe
import PyProof.MeetsIn
import PyProof.Rows.Range3
import HandS.OwnEq
import HandS.Small
import KE.KOpsOwn
import HandS.Codes
import PyProof.LongRange
import PyProof.ListMulRight
import HandS.TupLe
import HandS.Star
import PySem.Challenge.RW_textorlist_k05_whole_values_by_their_pla
set_option Elab.async false
set_option linter.all false
set_option maxRecDepth 100000
set_option maxHeartbeats 4000000
namespace TX
open PySem PySem.Spec PyProof.Rows L2

/-! ### either of two rules -/
section
variable {X : Cx}
theorem pe_alt {e : Expr} {t u : TE} (h1 : PE X e t) (h2 : PE X e u) : PE X e (fun σ H Q => t σ H Q ∨ u σ H Q) :=
  ⟨fun pins s σ H Q I h => h.elim (h1.run pins s σ H Q I) (h2.run pins s σ H Q I)⟩
theorem ps_alt {e : Stmt} {t u : TS} (h1 : PS X e t) (h2 : PS X e u) : PS X e (fun D σ H => t D σ H ∨ u D σ H) :=
  ⟨fun pins s σ H D I h => h.elim (h1.run pins s σ H D I) (h2.run pins s σ H D I)⟩
theorem pi_alt {tg e : Expr} {t u : TI} (h1 : PI X tg e t) (h2 : PI X tg e u) : PI X tg e (fun σ H R => t σ H R ∨ u σ H R) :=
  ⟨fun pins s σ H R I h => h.elim (h1.run pins s σ H R I) (h2.run pins s σ H R I)⟩
end

/-! ### data stays where the heap grows -/
theorem same_sqt {K : PySem.W.Frag} {H H' : Hp} {a : Addr} {xs : List V} (e : Same H H') (h : SqT K H a xs) : SqT K H' a xs := by
  rcases h with (h | ⟨o, h⟩) | h
  · exact .inl (.inl (e _ _ h))
  · exact .inl (.inr ⟨o, e _ _ h⟩)
  · exact .inr h
mutual
theorem dp_same {K : PySem.W.Frag} {H H' : Hp} (e : Same H H') : ∀ (d : PyData) (v : V), Dp K H v d → Dp K H' v d
  | .none, _, h => by cases h; exact .non
  | .bool b, _, h => by cases h; exact .bl b
  | .int i, _, h => by cases h; exact .int i
  | .str x, _, h => by cases h; exact .str x
  | .list xs, _, h => by
    cases h with
    | lst h1 h2 => exact .lst (e.seq h1) (dpAll_same e xs _ h2)
  | .tuple xs, _, h => by
    cases h with
    | tup h1 h2 => exact .tup (same_sqt e h1) (dpAll_same e xs _ h2)
  | .dict _, _, h => nomatch h
theorem dpAll_same {K : PySem.W.Frag} {H H' : Hp} (e : Same H H') : ∀ (ds : List PyData) (vs : List V), DpAll K H vs ds → DpAll K H' vs ds
  | [], _, h => by cases h; exact .nil
  | d :: ds, _, h => by
    cases h with
    | cons h1 h2 => exact .cons (dp_same e d _ h1) (dpAll_same e ds _ h2)
end
theorem DpAll.length {K : PySem.W.Frag} {H : Hp} : ∀ {ds : List PyData} {vs : List V}, DpAll K H vs ds → vs.length = ds.length
  | [], _, h => by cases h; rfl
  | _ :: _, _, h => by
    cases h with
    | cons _ h2 => exact congrArg (· + 1) (DpAll.length h2)
theorem DpAll.append {K : PySem.W.Frag} {H : Hp} : ∀ {ds es : List PyData} {vs ws : List V}, DpAll K H vs ds → DpAll K H ws es → DpAll K H (vs ++ ws) (ds ++ es)
  | [], _, _, _, h, g => by cases h; exact g
  | _ :: _, _, _, _, h, g => by
    cases h with
    | cons h1 h2 => exact .cons h1 (DpAll.append h2 g)
theorem DpAll.split {K : PySem.W.Frag} {H : Hp} : ∀ {ds es : List PyData} {vs : List V}, DpAll K H vs (ds ++ es) → ∃ a b, vs = a ++ b ∧ DpAll K H a ds ∧ DpAll K H b es
  | [], _, vs, h => ⟨[], vs, rfl, .nil, h⟩
  | d :: ds, es, _, h => by
    cases h with
    | cons h1 h2 =>
      obtain ⟨a, b, rfl, ha, hb⟩ := DpAll.split (ds := ds) (es := es) h2
      exact ⟨_ :: a, b, rfl, .cons h1 ha, hb⟩
theorem same_upd {H : Hp} {p : Addr} {o : HO} (h : H p = none) : Same H (upd H p o) := fun b x e => by
  rw [upd_ne (ne_of_none e h)]
  exact e
/-- a fresh place may be written again and again -/
theorem same_fresh {H0 H : Hp} {p : Addr} {o : HO} (h : H0 p = none) (e : Same H0 H) : Same H0 (upd H p o) := fun b x q => by
  rw [upd_ne (ne_of_none q h)]
  exact e b x q

/-! ### the number of parts -/
mutual
def nd : PyData → Nat
  | .list xs => ndAll xs + 1
  | .tuple xs => ndAll xs + 1
  | _ => 1
def ndAll : List PyData → Nat
  | [] => 0
  | d :: ds => nd d + ndAll ds
end
theorem ndAll_append : ∀ (a b : List PyData), ndAll (a ++ b) = ndAll a + ndAll b
  | [], b => by simp [ndAll]
  | d :: a, b => by
    rw [List.cons_append, ndAll, ndAll, ndAll_append a b]
    omega
theorem nd_pos : ∀ d : PyData, 1 ≤ nd d
  | .none => by simp [nd]
  | .bool _ => by simp [nd]
  | .int _ => by simp [nd]
  | .str _ => by simp [nd]
  | .list _ => by simp [nd]
  | .tuple _ => by simp [nd]
  | .dict _ => by simp [nd]
theorem ndAll_len : ∀ ds : List PyData, ds.length ≤ ndAll ds
  | [] => by simp
  | d :: ds => by
    have := ndAll_len ds
    have := nd_pos d
    rw [ndAll, List.length_cons]
    omega

/-! ### what a value's type is, for isinstance -/
/-- the type of a value that represents data -/
def tyD : PyData → String
  | .none => "NoneType"
  | .bool _ => "bool"
  | .int _ => "int"
  | .str _ => "str"
  | .list _ => "list"
  | .tuple _ => "tuple"
  | .dict _ => "dict"
theorem dp_ty {K : PySem.W.Frag} {H : Hp} {v : V} {d : PyData} (h : Dp K H v d) : TyX K H v (.type (tyD d)) := by
  cases h with
  | non => exact .base .non
  | bl b => exact .base (.bl b)
  | int i => exact .base (.int i)
  | str x => exact .base (.str x)
  | lst h1 _ =>
    rcases h1 with (h | ⟨o, h⟩) | ⟨o, its, n, hk, hc, _⟩
    · exact .base (.lst h)
    · exact .base (.frz h)
    · exact .kList hk hc
  | tup h1 _ =>
    rcases h1 with (h | ⟨o, h⟩) | ⟨o, its, n, hk, hc, _⟩
    · exact .base (.tup h)
    · exact .fTuple h
    · exact .kTuple hk hc

/-! ### repr of data -/
section
variable {X : Cx}
def rRepr (K : PySem.W.Frag) : List V → Hp → VK → Prop := fun xs H Q => ∃ v d, xs = [v] ∧ Dp K H v d ∧ d.showable = true ∧ d.hasDict = false ∧ d.depth ≤ 60 ∧ d.shown.length ≤ sizeLine ∧ Q (.str d.shown) H
theorem call_repr (hg : X.A.guards = some []) (hu : X.A.units + 64 < cLine) : CallR X (.builtin "repr") (rRepr X.K) := by
  intro pins s σ H xs us Q I r h
  obtain ⟨v, d, rfl, hd, hs, hn, hz, hl, q⟩ := h
  obtain ⟨u, rfl, rv⟩ := r.one
  have fin : ∀ tk t, EP X pins σ Q (.str d.shown t) { s with toks := tk } := fun tk t => ⟨.str _, H, I.tok tk, ⟨t, rfl⟩, q⟩
  obtain ⟨as, rd⟩ := Dp.reads I d v u hd rv
  cases hd with
  | non =>
    cases rv
    simp only [PyData.shown] at fin
    exact PySem.P.repr_of_none (fin _ _)
  | bl b =>
    cases rv
    simp only [PyData.shown] at fin
    exact PySem.P.repr_of_bool (fin _ _)
  | int i =>
    obtain ⟨t, rfl⟩ := rv
    simp only [PyData.shown] at fin
    exact PySem.P.repr_of_int (by simpa [PyData.showable] using hs) (fin _ _)
  | str x =>
    obtain ⟨t, rfl⟩ := rv
    simp only [PyData.shown] at fin hl
    exact PySem.P.repr_of_str (fin _ _) hl
  | lst h1 h2 =>
    cases rv
    exact repr_of_reads' rd hs (PyData.noDict_hsm hn) hg (by omega) (fun _ _ e => e) (fun h' t tk hk => ⟨.str _, H, I.kept hk, ⟨t, rfl⟩, q⟩) hl
  | tup h1 h2 =>
    cases rv
    exact repr_of_reads' rd hs (PyData.noDict_hsm hn) hg (by omega) (fun _ _ e => e) (fun h' t tk hk => ⟨.str _, H, I.kept hk, ⟨t, rfl⟩, q⟩) hl
end
end TX
namespace TX
open PySem PySem.Spec PyProof.Rows L2
/-! ### a def that is called where nothing is being shown (no repr under way) -/
structure FnG (P : Program) (w : World) (K : PySem.W.Frag) (mg : Str → Option Value) (base : Heap) (C : CXT) (k : Nat) (f : Addr) (fd : FuncData) (ps : List Str) (sp : Sp) : Prop where
  len : ∀ vs H Q E, sp vs H Q E → vs.length = ps.length
  go : ∀ (A : Around), A.guards = some [] → ∀ (outer : List Env) (s : Shared) (H : Hp) (args : Args) (us : List Value) (vs : List V) (Q : VK) (E : XK), Room k A → Env0 P w K mg base A outer s H →
    BindsTo s fd args (ps.zip us) → Vals vs us → sp vs H Q E → codeAny (model P w) A (.call (.ref f) args) (CR C outer P w H s Q E) s
section
variable {P : Program} {w : World} {K : PySem.W.Frag} {mg : Str → Option Value} {base : Heap} {C : CXT} {k : Nat} {f : Addr} {fd : FuncData} {N ps : List Str} {sp : Sp}
theorem fng_of {x qual : Str} {st : Stmt} (F : Fun K x qual st f fd) (S : FnScope N ps (defScope st)) (len : ∀ vs H Q E, sp vs H Q E → vs.length = ps.length)
    (hb : ∀ (cdv : Value) (A : Around) (outer : List Env) (s : Shared) (H : Hp) (vs : List V) (Q : VK) (E : XK), A.guards = some [] → Room k (A.deeper (envOfC qual (defScope st) s.heap.objs.size f cdv)) → sp vs H Q E →
      ∃ t, PSs (cxOf CX0 P w K mg base N qual (defScope st) f cdv A outer s H E).nox (defBody st) t ∧ t { nx := fun _ H' => Q .non H', rt := Q } (start N vs) H) : FnG P w K mg base CX0 (k + 1) f fd ps sp := by
  obtain ⟨oc, od, kV, doc, pm, an, cdv, ct, osl, rfl, lk, hcd⟩ := F.ex
  refine ⟨len, fun A hg outer s H args us vs Q E hr e0 hbd r hsp => ?_⟩
  have up : ∀ b o, base.get? b = some o → s.heap.get? b = some o := fun b o e => (e0.bs b o e).1
  have KX : K.In s.heap := e0.mod.kin.keeps up
  have par : ∀ y ∈ ps.zip us, (defScope st).names.lookup y.1 = some .local ∨ ((defScope st).names.lookup y.1 = some .cell ∧ ((cellsFrom (s.heap.objs.size + 1) (defScope st).names []).lookup y.1).isSome = true) := by
    rintro ⟨n, v⟩ hy
    exact (S.par n (List.of_mem_zip hy).1).imp id fun q => ⟨q, PySem.W.cellsFrom_some _ _ _ (.inl q)⟩
  refine codeAny_call_function hr.depth (KX _ _ lk) rfl S.co S.gen rfl (PySem.W.codeRec_of KX hcd) (hbd _ _ _ _ (wpAny_newFunctionEnv_cells S.kind par fun env he s1 x => ?_))
  cases he
  obtain ⟨t, ht, hq⟩ := hb cdv A outer s H vs Q E hg (hr.deeper _) hsp
  refine ⟨(e0.mod.nolimit.keeps up).keeps x.toInCall.keep, codeAny_func (wpAny_mono (ht.nox.run [] s1 (start N vs) H _ (inv_start S hr.hd e0 (len _ _ _ _ hsp) r x) hq) (fun fl s' hs => ?_) fun e s' hs => hs)⟩
  cases fl with
  | next => exact let ⟨σ', H', J, q⟩ := hs; ⟨.non, H', J.os, J.bare, J.base, J.hok, rfl, q⟩
  | ret u => exact let ⟨v, σ', H', J, rv, q⟩ := hs; ⟨v, H', J.os, J.bare, J.base, J.hok, rv, q⟩
  | brk => exact let ⟨_, _, _, q⟩ := hs; False.elim q
  | cont => exact let ⟨_, _, _, q⟩ := hs; False.elim q
theorem deeper_guards {A : Around} {env : Env} : (A.deeper env).guards = A.guards := rfl
end
section
variable {X : Cx} {C : CXT} {k : Nat} {f : Addr} {fd : FuncData} {ps : List Str} {sp : Sp} {dvs : List V} {ds : List Value} {E : XK} {x : Str} {p pos : Pos} {e : Expr} {es : List Expr} {t : TA}
theorem pe_callG (F : FnG X.prog X.w X.K X.mg X.base C k f fd ps sp) (hgd : X.A.guards = some []) (hr : Room k X.A) (hg : Gl X x) (hm : X.mg x = some (.ref f)) (hk : PySem.W.keepIn X.K (.ref f) = true) (hb : Binds X.K fd ps ds) (hd : Vals dvs ds)
    (hx : Passes C X E) (ha : PA X (e :: es) t) (hdb : (x == ("__debug__" : Str)) = false := by decide) (he : starEach (e :: es) X.env = (false, eval e X.env) :: starEach es X.env := by rfl)
    (hpl : (backTo pos (starEach es X.env)).any (·.1) = false := by rfl) : PE X (.Call (.Name x p) (e :: es) [] pos) (tCall sp dvs E t) := by
  refine ⟨fun pins s σ H Q I h => wpAny_Call_Name_kw (ld_glob I hg hm (PySem.W.callWith_K (h₀ := X.base) I.ok.mod.kin hk (thn (ha.run pos pins s σ H _ I h) fun us s1 h1 => ?_) he hpl) hdb)⟩
  obtain ⟨vs, H1, I1, r, q⟩ := h1
  have r2 := r.append hd
  have hl : (us ++ ds).length = ps.length := r2.length.symm.trans (F.len _ _ _ _ q)
  refine ⟨I1.kIn, wpAny_call (codeAny_mono (F.go X.A hgd X.stack s1 H1 ⟨us, []⟩ _ _ _ _ hr I1.env0 (hb s1 us I1.kIn hl) r2 q) fun r s' hq => ?_)⟩
  cases r with
  | error er => exact hx pins σ H1 s1 er s' I1 hq
  | ok fl => cases fl with
    | ret u => exact I1.after hq
    | next => exact hq.elim
    | brk => exact hq.elim
    | cont => exact hq.elim
end
/-- the law's def, called by the claim -/
theorem lawG {P : Program} {w : World} {K : PySem.W.Frag} {mg mb : Str → Option Value} {k : Nat} {fa a : Addr} {fd : FuncData} {x : Str} {sp : Sp} {s₁ : Shared} {vs : List Value} {ns : List Int}
    (KX : K.In s₁.heap) (hns : s₁.heap.Ns mainGlobals mg) (hb : s₁.heap.Ns builtinsNs mb) (hbb : ∀ x : Str, x ≠ "__name__" → mb x = bootBuiltins x) (hlim : s₁.heap.NoLimit) (hg : s₁.gens = #[])
    (ha : s₁.heap.get? a = some { cls := .type "list", data := .seq vs.toArray }) (hi : IntsAre vs ns) (hl : ns.length ≤ sizeLine) (hr : Room k callerA)
    (F : ∀ base : Heap, K.In base → base.Ns mainGlobals mg → FnG P w K mg base CX0 k fa fd [x] sp) (hbind : ∀ (s : Shared) (u : Value), BindsTo s fd ⟨[u], []⟩ [(x, u)])
    (hsp : ∀ H : Hp, Only H → SqL K H a (ns.map V.int) → sp [.ref a] H (fun v _ => v = .bl true) fun _ _ _ => False) :
    codeAny (model P w) callerA (.call (.ref fa) ⟨[.ref a], []⟩) (fun r s' => r = .ok (.ret (.bool true)) ∧ OldK s₁.heap s'.heap ∧ s'.os = s₁.os ∧ AllBare s'.gens) s₁ := by
  have rv := vals_ints hi
  have lenV := hi.length
  have main : ∀ H : Hp, Only H → SqL K H a (ns.map V.int) → HOk P w H s₁.heap → (∀ b, H b ≠ none → b = a) → (H a ≠ none → K.lookup a = none) →
      codeAny (model P w) callerA (.call (.ref fa) ⟨[.ref a], []⟩) (fun r s' => r = .ok (.ret (.bool true)) ∧ OldK s₁.heap s'.heap ∧ s'.os = s₁.os ∧ AllBare s'.gens) s₁ := by
    intro H hO hS hok hA hK
    have atA : ∀ {b : Addr} {u : HO}, H b = some u → b = a := fun q => hA _ (by rw [q]; exact fun z => nomatch z)
    have noD : ∀ {b : Addr} {o : Obj} {es : Array DictEntry} {ep : Nat}, s₁.heap.get? b = some o → o.data = .dict es ep → H b = none := by
      intro b o es ep e d
      cases q : H b with
      | none => rfl
      | some u =>
        cases atA q
        rw [ha] at e
        cases e
        exact absurd d (fun z => nomatch z)
    have nsK : ∀ {b : Addr} {m : Str → Option Value}, s₁.heap.Ns b m → (hidT s₁.heap H).Ns b m := fun ⟨o, es, ep, e, d, r⟩ => ⟨o, es, ep, hidT_get e (noD e d), d, r⟩
    have hKb : K.In (hidT s₁.heap H) := by
      intro b o e
      refine hidT_get (KX b o e) ?_
      cases q : H b with
      | none => rfl
      | some u =>
        cases atA q
        rw [hK (by rw [q]; exact fun z => nomatch z)] at e
        cases e
    have hM : Mod K mg (hidT s₁.heap H) := ⟨hKb, nsK hns, ⟨mb, nsK hb, hbb⟩, let ⟨mc, h1, h2⟩ := hlim; ⟨mc, nsK h1, h2⟩⟩
    have e0 : Env0 P w K mg (hidT s₁.heap H) callerA [] s₁ H := ⟨rfl, hM, fun b o e => of_hidT e, Nat.le_of_eq (hidT_size _ _), trivial, fun b hb => (nomatch hb), hok, .of_eq hg⟩
    refine codeAny_mono ((F _ hKb (nsK hns)).go callerA rfl [] s₁ H ⟨[.ref a], []⟩ [.ref a] [.ref a] _ _ hr e0 (hbind s₁ (.ref a)) (.cons rfl .nil) (hsp H hO hS)) fun r s' h => ?_
    cases r with
    | error e => exact (show False from h).elim
    | ok fl => cases fl with
      | next => exact h.elim
      | brk => exact h.elim
      | cont => exact h.elim
      | ret u =>
        obtain ⟨v, H', os, bare, un, hok', r', q⟩ := h
        cases (show v = .bl true from q)
        cases (show u = Value.bool true from r')
        refine ⟨rfl, OldK.of_keep fun b o e => ?_, os, bare⟩
        cases q : H b with
        | none => exact un.keep b o e q (fun z => nomatch z) (fun z => nomatch z)
        | some u =>
          rcases hO b with z | ⟨ob, xs, z⟩
          · rw [q] at z
            cases z
          · obtain ⟨e1, _⟩ := hok b _ z
            obtain ⟨e2, _⟩ := hok' b _ (un.frzs b ob _ z)
            rw [e] at e1
            cases e1
            exact e2
  cases hk : K.lookup a with
  | some o =>
    have e := KX a o hk
    rw [ha] at e
    cases e
    exact main (fun _ => none) (fun _ => .inl rfl) (.inr ⟨_, vs.toArray, _, hk, rfl, rfl, rfl, by rw [List.size_toArray, lenV]; exact hl, by simpa using rv⟩) (fun b u z => nomatch z) (fun b z => absurd rfl z) fun z => absurd rfl z
  | none =>
    refine main (fun b => if b = a then some (.frz { cls := .type "list", data := .seq vs.toArray } (.lst (ns.map V.int))) else none) (fun b => ?_) (.inl (.inr ⟨{ cls := .type "list", data := .seq vs.toArray }, if_pos rfl⟩)) (fun b u z => ?_) (fun b z => ?_) fun _ => hk
    · by_cases hb : b = a
      · exact .inr ⟨_, _, if_pos hb⟩
      · exact .inl (if_neg hb)
    · by_cases hb : b = a
      · cases hb
        cases (if_pos rfl).symm.trans z
        exact ⟨ha, by rw [List.length_map]; exact hl, vs, _, rv, ha⟩
      · cases (if_neg hb).symm.trans z
    · exact Classical.byContradiction fun hb => z (if_neg hb)
theorem walkG {l : PySem.W.OpenLaw} {n k : Nat} {q : Program} {loose : List Str} {XP : (Str → Option Value) → Heap → Prop} {YP : World → Heap → Prop} {d : DefRec} {K : Params → PySem.W.Frag} {sp : World → Sp} {x : Str}
    (hn : l.most = some n) (hn2 : n ≤ sizeLine) (hdf : d.params.defaults = []) (hr : Room k callerA) (hY : ∀ (w : World) (h : Heap), YP w h → (K w.params).In h)
    (F : ∀ (w : World) (mg : Str → Option Value) (fa : Addr) (h : Heap), (K w.params).In h → h.Ns mainGlobals mg → mg d.name = some (.ref fa) →
      ∃ fd : FuncData, (∀ (s : Shared) (u : Value), BindsTo s fd ⟨[u], []⟩ [(x, u)]) ∧ ∀ base : Heap, (K w.params).In base → base.Ns mainGlobals mg → FnG l.prog w (K w.params) mg base CX0 k fa fd [x] (sp w))
    (hsp : ∀ (w : World) (H : Hp) (a : Addr) (ns : List Int), ns.length ≤ n → Only H → SqL (K w.params) H a (ns.map V.int) → sp w [.ref a] H (fun v _ => v = .bl true) fun _ _ _ => False) :
    PySem.W.WalkO q loose XP YP l.row.toRowW d [] (fun f vs => PySem.call f vs) := by
  refine Att.attach_call hn hdf fun w s₀ s₁ mg mb fa o pm cd doc a vs ns G Y ho hd hcd hmg hobj hints hlen hg => ?_
  obtain ⟨fd, hb, hF⟩ := F w mg fa _ (hY w _ Y) G.T.g hmg
  exact lawG (hY w _ Y) G.T.g G.T.b G.T.builtins G.T.nolimit hg hobj hints (Nat.le_trans hlen hn2) hr hF hb fun H hO hS => hsp w H a ns hlen hO hS
end TX
namespace TX
open PySem PySem.Spec PyProof.Rows L2
section
variable {prog : Program} {w : World} {A : Around} {E : Value → Shared → Prop} {s : Shared}
theorem slAdj_back (n : Nat) : Builtin.Slice.sliceAdjust none none (-1) (n : Int) = ((n : Int) - 1, -1) := rfl
theorem slPl_back (n : Nat) : Builtin.Slice.slicePlaces ((n : Int) - 1) (-1) (-1) = n := by
  unfold Builtin.Slice.slicePlaces
  rw [if_neg (by decide)]
  split
  · have e : -(-1 : Int) = 1 := by decide
    rw [e, Int.ediv_one]
    omega
  · omega
theorem slApp_back {sl : Addr} {n : Nat} {u : Tok} {Q : Int × Int × Nat → Shared → Prop} (hs : s.heap.IsSliceOf sl .none .none (.int (-1) u)) (h : Q ((n : Int) - 1, -1, n) s) :
    wpAny (model prog w) A (Builtin.Slice.sliceApplied (.ref sl) (pure (n : Int))) Q E s := by
  obtain ⟨os, g1, g2, g3⟩ := hs
  unfold Builtin.Slice.sliceApplied Builtin.Slice.sliceFields
  refine wpAny_bind (wpAny_bind (wpAny_field g1 g3 (x := .none) rfl (wpAny_bind (wpAny_field g1 g3 (x := .none) rfl (wpAny_bind (wpAny_field g1 g3 (x := .int (-1) u) rfl (wpAny_pure ?_)))))))
  refine wpAny_bind (slicePart_int ?_)
  show wpAny _ _ (if ((-1 : Int) == 0) = true then _ else _) _ _ s
  rw [if_neg (by decide)]
  refine wpAny_bind (slicePart_none (wpAny_bind (slicePart_none (wpAny_bind (wpAny_pure ?_)))))
  show wpAny _ _ (match Builtin.Slice.sliceAdjust none none (-1) (n : Int) with | (lo, hi) => pure (lo, (-1 : Int), Builtin.Slice.slicePlaces lo hi (-1))) _ _ s
  rw [slAdj_back]
  show wpAny _ _ (pure ((n : Int) - 1, (-1 : Int), Builtin.Slice.slicePlaces ((n : Int) - 1) (-1) (-1))) _ _ s
  rw [slPl_back]
  exact wpAny_pure h
theorem fm_congr {f g : Nat → Option Value} : ∀ l : List Nat, (∀ k ∈ l, f k = g k) → l.filterMap f = l.filterMap g
  | [], _ => rfl
  | k :: l, h => by
    rw [List.filterMap_cons, List.filterMap_cons, h k List.mem_cons_self, fm_congr l fun j hj => h j (List.mem_cons_of_mem _ hj)]
theorem pick_back (l : List Value) : ((List.range l.length).filterMap fun (k : Nat) => l.toArray[(((l.length : Nat) : Int) - 1 + (k : Int) * (-1)).toNat]?) = l.reverse := by
  have e : ∀ k ∈ List.range l.length, (fun (k : Nat) => l.toArray[(((l.length : Nat) : Int) - 1 + (k : Int) * (-1)).toNat]?) k = (some ∘ fun k => (l.reverse[k]?).getD .none) k := by
    intro k hk
    have hk' := List.mem_range.mp hk
    have e1 : (((l.length : Nat) : Int) - 1 + (k : Int) * (-1)).toNat = l.length - 1 - k := by omega
    show l.toArray[(((l.length : Nat) : Int) - 1 + (k : Int) * (-1)).toNat]? = some ((l.reverse[k]?).getD .none)
    rw [e1, List.getElem?_toArray, List.getElem?_reverse (by omega), List.getElem?_eq_getElem (by omega)]
    rfl
  rw [fm_congr _ e, List.filterMap_eq_map]
  apply List.ext_getElem?
  intro i
  rw [List.getElem?_map]
  by_cases h : i < l.length
  · rw [List.getElem?_range h, List.getElem?_eq_getElem (by simpa using h)]
    simp [List.getElem?_eq_getElem, h]
  · rw [List.getElem?_eq_none (by simpa using h), List.getElem?_eq_none (by simpa using h)]
    rfl
/-- t[::-1] of a tuple -/
theorem getItem_tuple_back {t sl : Addr} {items : List Value} {u : Tok} {Q : Value → Shared → Prop} (ht : IsTup s.heap t items.toArray) (hs : s.heap.IsSliceOf sl .none .none (.int (-1) u))
    (h : Q (.ref s.heap.objs.size) { s with heap := s.heap.push { cls := .type "tuple", data := .seq items.reverse.toArray } }) (hsz : items.length ≤ sizeLine) : wpAny (model prog w) A (getItem (.ref t) (.ref sl)) Q E s := by
  have hTs : s.TypeIs (.ref sl) "slice" := let ⟨os, g1, g2, _⟩ := hs; ⟨os, g1, g2⟩
  have hfit : sizeOk (.seq items.reverse.toArray) := by
    show items.reverse.toArray.size ≤ sizeLine
    rw [List.size_toArray, List.length_reverse]
    exact hsz
  unfold getItem
  try with_reducible refine wpAny_holding ?_
  first | refine wpAny_bind (wpAny_pure ?_) | skip
  refine wpAny_bind (wpAny_sequenceKey ht.typeIs (by decide) ?_)
  refine wpAny_bind (wpAny_callSpecial?_slot (name := Str.ofString "__getitem__") ht.typeIs PyProof.Rows.slot_tuple_getitem (wpAny_call_entry PyProof.Rows.slot_tuple_getitem ht.typeIs entry_tuple_getitem ?_ (args_tuple_getitem _ _)))
  show wpAny _ _ (Builtin.Tuple.tupleItemsOf (.ref t) >>= _) _ _ s
  refine wpAny_bind (tupleItemsOf_ ht (wpAny_bind (wpAny_typeOf hTs ?_)))
  rw [if_pos (by decide)]
  refine wpAny_bind (slApp_back hs ?_)
  have no : ¬ ((((items.toArray.size : Nat) : Int) - 1 == 0 && (-1 : Int) == 1 && items.toArray.size == items.toArray.size) = true) := by
    intro q
    rw [Bool.and_eq_true, Bool.and_eq_true] at q
    exact absurd (eq_of_beq q.1.2) (by decide)
  show wpAny _ _ (if (((items.toArray.size : Nat) : Int) - 1 == 0 && (-1 : Int) == 1 && items.toArray.size == items.toArray.size) = true then _ else _) _ _ s
  rw [if_neg no]
  have e : ((List.range items.toArray.size).filterMap fun (k : Nat) => items.toArray[(((items.toArray.size : Nat) : Int) - 1 + (k : Int) * (-1)).toNat]?) = items.reverse := by
    rw [List.size_toArray]
    exact pick_back items
  rw [e]
  first
    | exact wpAny_bind (m := Builtin.Tuple.tupleExact _) (wpAny_newObj_type (wpAny_pure ⟨_, rfl, wpAny_pure h⟩) hfit)
    | exact wpAny_bind (m := Builtin.Tuple.tupleExact _) (wpAny_newObj_type (wpAny_bind (wpAny_pure (wpAny_pure ⟨_, rfl, wpAny_pure h⟩))) hfit)
    | exact wpAny_bind (wpAny_bind (m := Builtin.Tuple.tupleExact _) (wpAny_newObj_type (wpAny_pure (wpAny_pure ⟨_, rfl, wpAny_pure h⟩)) hfit))
    | exact wpAny_bind (wpAny_bind (m := Builtin.Tuple.tupleExact _) (wpAny_newObj_type (wpAny_pure ⟨_, rfl, wpAny_pure h⟩) hfit))
end
section
variable {X : Cx}
def tRevT (K : PySem.W.Frag) (te : TE) : TE := fun σ H Q => te σ H fun x H1 => ∃ a xs, x = .ref a ∧ SqT K H1 a xs ∧ ∀ p, H1 p = none → Q (.ref p) (upd H1 p (.tup xs.reverse))
theorem pe_revT {e : Expr} {te : TE} {k : Nat} {p1 p2 p3 pos : Pos} (he : PE X e te) : PE X (.Subscript e (.Slice none none (some (.UnaryOp .USub (.Constant (.int 1) k p1) p2)) p3) pos) (tRevT X.K te) := by
  refine ⟨fun pins s σ H Q I h => Subscript_ (thn (he.run pins s σ H _ I h) fun v s1 ⟨x, H1, I1, r1, a, xs, ex, hx, q⟩ => ?_)⟩
  subst ex
  cases r1
  have hst : PO X (some (.UnaryOp .USub (.Constant (.int 1) k p1) p2)) (tPart (tUn (rU fun i => .int (-i)) (tC (.int 1)))) := po_some (pe_un un_neg pe_int)
  refine wpAny_Slice (thn (po_none.run pins s1 σ H1 (fun o H2 => o = none ∧ H2 = H1) I1 ⟨rfl, rfl⟩) fun vl s2 ⟨l, H2, I2, pl, el, e2⟩ => ?_)
  subst el e2
  refine thn (po_none.run pins s2 σ H2 (fun o H3 => o = none ∧ H3 = H2) I2 ⟨rfl, rfl⟩) fun vu s3 ⟨u, H3, I3, pu, eu, e3⟩ => ?_
  subst eu e3
  refine thn (hst.run pins s3 σ H3 (fun o H4 => o = some (-1) ∧ H4 = H3) I3 ⟨1, rfl, -1, rfl, rfl, rfl⟩) fun vs s4 ⟨o, H4, I4, ps, eo, e4⟩ => ?_
  subst eo e4
  have I5 : Inv X pins σ H4 { s4 with heap := s4.heap.push { cls := .type "slice", data := .fields #[vl, vu, vs] } } := I4.kept (t' := s4.toks) fun b ob q => Heap.get?_push_of_some _ q
  obtain ⟨its, r, ht, hz⟩ := I5.tuple hx
  have hlen := r.length
  cases pl
  cases pu
  obtain ⟨tk, rfl⟩ : ∃ tk, vs = .int (-1) tk := by
    cases ps
    exact ⟨_, rfl⟩
  show wpAny (model X.prog X.w) X.A (subscriptTail e (.Slice none none (some (.UnaryOp .USub (.Constant (.int 1) k p1) p2)) p3) (.ref a) (.ref s4.heap.objs.size)) (EP X pins σ Q) X.xe { s4 with heap := s4.heap.push { cls := .type "slice", data := .fields #[.none, .none, .int (-1) tk] } }
  refine tail_any (ops := [.ref a, .ref s4.heap.objs.size]) ht.typeIs PyProof.Rows.slot_tuple_getitem.lookup ?_ (by with_unfolding_all rfl)
  refine getItem_tuple_back ht (Heap.IsSliceOf.new _ _ _ _) ?_ (by omega)
  refine ⟨.ref _, _, I5.laid (t' := s4.toks) (o := .tup xs.reverse) (fun b ob q => Heap.get?_push_of_some _ q) (Nat.le_refl _) ?_, rfl, q _ (I5.hok.fresh (Nat.le_refl _))⟩
  exact ⟨by rw [List.length_reverse]; exact hz, _, r.reverse, ⟨_, Heap.get?_push_size _ rfl, rfl, _, rfl⟩⟩
end
theorem ext_tup (l : Addr) (items : Array Value) (n : Nat) (b : Addr) (items2 : Array Value) (n2 : Nat) (dd : Option Addr) (sl : Array (Option Value)) (hs0 : ¬(!items.isEmpty && Builtin.List.listTooLong (items.size + items2.size)) = true)
    (hs1 : items.size ≤ sizeLine) (hs2 : items.size + items2.size ≤ sizeLine + 1) :
    Meets (Builtin.«list.extend» ⟨[.ref l, .ref b], []⟩) (fun _ R s => s.heap.get? l = some { cls := .type "list", dict := none, data := .seq items n, slots := #[] } ∧ s.heap.get? b = some { cls := .type "tuple", dict := dd, data := .seq items2 n2, slots := sl } ∧
      R (.ok (.ret Value.none)) { s with heap := s.heap.update l (Obj.mapSeq fun x => x ++ items2), toks := s.toks }) :=
  .of_wp fun prog w A R s h => by
    obtain ⟨hp, g, d, tk, os⟩ := s
    obtain ⟨hl, hb, h⟩ := h
    have f1 := AutoSeq1.idx_int
    have f2 := AutoSeq1.sub_tuple_tuple
    have f3 := AutoSeq1.sub_list_list
    have f4 := AutoSeq1.sub_tuple_list
    have f5 := AutoSeq1.sub_list_tuple
    have hz' : (items ++ items2).size ≤ sizeLine + 1 := by
      rw [Array.size_append]
      exact hs2
    wp_walk using (wpAny_updateSeq hl rfl (hz := hs1) (_hz' := hz')), AutoSeq1.wpAny_loadPart' hl, AutoSeq1.wpAny_loadPart' hb
    exact ⟨_, rfl, h⟩
section
variable {X : Cx}
def rExtT (K : PySem.W.Frag) : V → List V → Hp → VK → Prop := fun x vs H Q => ∃ l b xs zs, x = .ref l ∧ vs = [.ref b] ∧ H l = some (.lst xs) ∧ SqT K H b zs ∧ xs.length + zs.length ≤ sizeLine ∧ Q .non (upd H l (.lst (xs ++ zs)))
theorem mt_extT : MtM X "list.extend" (rExtT X.K) := by
  intro pins s σ H x vs v us Q I rx rv h
  obtain ⟨l, b, xs, zs, rfl, rfl, hH, hB, hz, q⟩ := h
  cases rx
  obtain ⟨u, rfl, ru⟩ := rv.one
  cases ru
  obtain ⟨z, its, n, r, hl, e⟩ := I.lstM hH
  obtain ⟨its2, r2, ⟨⟨cls, dd, data, sl⟩, e2, hc, n2, hd⟩, hz2⟩ := I.tuple hB
  simp only at hc hd
  subst hc hd
  have hl2 := r2.length
  have hsz : its.toArray.size + its2.toArray.size ≤ sizeLine := by
    rw [List.size_toArray, List.size_toArray]
    omega
  have hlong : ¬ (!its.toArray.isEmpty && Builtin.List.listTooLong (its.toArray.size + its2.toArray.size)) = true := by
    rw [notLongL hsz, Bool.and_false]
    exact Bool.false_ne_true
  refine call_meets F.slot_list_extend ⟨_, e, rfl⟩ F.entry_list_extend (F.args_list_extend_2 _ _) (ext_tup l its.toArray n b its2.toArray n2 dd sl hlong (by rw [List.size_toArray]; omega) (by omega)) ⟨e, e2, ?_⟩
  refine ⟨.non, _, I.lset (its' := its ++ its2) hH e (by simp) (r.append r2) ?_, rfl, q⟩
  rw [List.length_append]
  omega
end
end TX
namespace TX
open PySem PySem.Spec PySem.Calls PyProof.Rows L2
open PySem.W (Frag InstAt findIn subIn hasDictIn specialIn takesIn mroIn clsIn Looks looks_findIn looks_find looks_subIn KitX)
section
variable {prog : Program} {w : World} {A : Around} {E : Value → Shared → Prop} {s : Shared} {K : Frag} {x D : Addr} {ox : Obj} {od : Option Obj}
theorem clsSome {D : Addr} (h : hasDictIn K D = true) : (clsIn K D).isSome = true := by
  unfold hasDictIn at h
  cases e : clsIn K D with
  | none => rw [e] at h; cases h
  | some c => rfl
theorem findData {C : Addr} {name : Str} {a g : Value} (hc : (clsIn K C).isSome = true) (ha : findIn K (.ref C) name = some (some a)) (hg : specialIn K a "__get__" = some (some g)) (ht : takesIn K a = some true) :
    PySem.W.findObj K C od name = some (.bind g a) := by
  obtain ⟨cd, hc⟩ := Option.isSome_iff_exists.mp hc
  simp [PySem.W.findObj, hc, ha, hg, ht]
/-- e.__class__ of an exception of an own class, with or without a dict of its own -/
theorem classOf {Q : Option Value → Shared → Prop} (T : ExcC K D) (X : K.In s.heap) (I : InstAt s.heap x ox D od) (h : Q (some (.ref D)) { s with toks := s.toks + 1 }) : wpAny (model prog w) A (getAttr? (.ref x) "__class__") Q E s := by
  have hf : PySem.W.findObj K D od "__class__" = some (.bind (.builtin "getset_descriptor.__get__") (.builtin "object.__class__")) := findData (clsSome T.hd) T.ha T.hn T.ht
  obtain ⟨hp, g, d, t, os⟩ := s
  have L0 := I.type (M := model prog w)
  have L1 := looks_findIn (M := model prog w) X T.hg
  have L2 := looks_findIn (M := model prog w) X T.hk
  have L3 := looks_find (M := model prog w) X I hf
  have sub : Looks (model prog w) hp (isInstance (.ref x) (.type "BaseException")) true := L0.andThen (looks_subIn X T.hs)
  have n0 : (false && onTheHeap (Value.builtin "BaseException.__getattribute__")) = false := rfl
  have n2 : (Value.builtin "BaseException.__getattribute__" == Value.builtin "object.__getattribute__") = false := by decide +kernel
  have n1 : (onTheHeap (Value.ref D) && Value.builtin "BaseException.__getattribute__" == Value.builtin "object.__getattribute__") = false := by
    rw [n2]
    rfl
  unfold getAttr? getAttrBy? getAttrBy
  refine wpAny_bind (wpAny_mkText (wpAny_bind (wpAny_attempt (wpAny_holding (wpAny_bind (L0.at (wpAny_bind (L1.at ?_))))))))
  show wpAny _ _ (if (onTheHeap (Value.ref D) && Value.builtin "BaseException.__getattribute__" == Value.builtin "object.__getattribute__") = true then _ else _) _ _ _
  rw [n1, if_neg Bool.false_ne_true]
  unfold getAttrByItsOwn hookBefore
  refine wpAny_bind ?_
  rw [if_pos (show onTheHeap (Value.ref D) = true from rfl)]
  refine L2.at (wpAny_bind (wpAny_attempt (wpAny_holding ?_)))
  unfold callGetattribute
  rw [n0, if_neg Bool.false_ne_true]
  unfold boundAndCalled
  rw [PySem.F.excAttr_ValueError.ga.bind (.ref x)]
  refine wpAny_bind (wpAny_pure ?_)
  show wpAny _ _ (call (.builtin "BaseException.__getattribute__") [.ref x, .str "__class__" t]) _ _ _
  refine wpAny_call (codeAny_call_builtin PySem.F.excAttr_ValueError.ga.plain PySem.F.entry_bexc_ga ?_)
  refine @PySem.W.check_slot (model prog w) _ _ ⟨hp, g, d, t + 1, os⟩ "BaseException.__getattribute__" "BaseException" "__getattribute__" (.ref x) [.str "__class__" t] [] _ (by decide +kernel) (by decide +kernel) sub (PySem.F.args_bexc_ga (.ref x) (.str "__class__" t)) ?_
  unfold Builtin.«object.__getattribute__»
  refine wpAny_bind (wpAny_of_eq (a := ((Value.ref x : Value), [Value.str "__class__" t])) (by first | rfl | (simp only [slotArgs]; rfl)) ?_)
  refine wpAny_bind (wpAny_pure (wpAny_bind (L0.at (wpAny_bind (L3.at ?_)))))
  show wpAny _ _ (holding [Value.builtin "object.__class__"] (call (.builtin "getset_descriptor.__get__") [.builtin "object.__class__", .ref x, .ref D]) >>= ret) _ _ _
  refine wpAny_bind (wpAny_holding (wpAny_call (PySem.W.class_get (s := ⟨hp, g, d, t + 1, os⟩) (ox := ox) (od := od) X I T.hm (wpAny_pure ?_))))
  show wpAny _ _ (handedOut (.ref D)) _ _ _
  rw [PySem.W.handedOut_of (v := .ref D) rfl]
  first
    | exact wpAny_pure (wpAny_pure h)
    | exact wpAny_pure h
    | exact wpAny_pure (wpAny_bind (wpAny_pure (wpAny_pure h)))
theorem kitE (T : ExcC K D) : KitX K (.ref x) (.ref D) (fun h => InstAt h x ox D od) where
  ty := fun _ _ _ I => I.type
  it := fun _ _ X _ => by
    obtain ⟨cd, hc⟩ := Option.isSome_iff_exists.mp (clsSome T.hd)
    unfold clsIn at hc
    split at hc
    · rename_i c' d' cd' sl' ho
      intro A' Q' E' s' k q
      unfold isType loadHead
      exact wpAny_bind (wpAny_loadPart (k _ _ (X _ _ ho)) (wpAny_pure q))
    · cases hc
  ne := fun h tp dd its n sl X htp => by
    obtain ⟨cd, hc⟩ := Option.isSome_iff_exists.mp (clsSome T.hd)
    refine Bool.eq_false_iff.mpr fun q => ?_
    have e : D = tp := Value.ref.inj (beq_iff_eq.mp q)
    subst e
    unfold clsIn at hc
    split at hc
    · rename_i c' d' cd' sl' ho
      have z := (X _ _ ho).symm.trans htp
      cases z
    · cases hc
  ca := fun X I k => classOf T X I k
end
/-- the exception that the suite holds, as the state has it -/
theorem atE {X : Cx} {pins : List (Addr × Obj)} {σ : L2.St} {H : Hp} {s : Shared} {a D : Addr} {oe : Obj} {d : Option Addr} {pn : List (Addr × Obj)} (I : Inv (X.suite a ((a, oe) :: pn)) pins σ H s) (hz : Zc (.ref D) d oe) (hf : ∃ vs, oe.data = .fields vs)
    (hd : ∀ dd, d = some dd → ∃ fs, H dd = some (.xd fs)) : ∃ od, InstAt s.heap a oe D od := by
  obtain ⟨hget, _⟩ := I.pin (a, oe) (List.mem_append.mpr (.inl List.mem_cons_self))
  obtain ⟨vs, hv⟩ := hf
  obtain ⟨oc, odd, oda, osl⟩ := oe
  obtain ⟨h1, h2⟩ := hz
  dsimp only at h1 h2 hv
  subst h1 h2 hv
  cases odd with
  | none => exact ⟨none, hget, rfl, rfl, trivial⟩
  | some dd =>
    obtain ⟨fs, hx⟩ := hd dd rfl
    have ob : ObjOk X.prog X.w H s.heap dd (.xd fs) := I.hok dd _ hx
    obtain ⟨mA, ⟨o, es, ep, ho, _⟩, _⟩ := ob
    exact ⟨some o, hget, rfl, rfl, ho⟩
/-- isinstance(e, c) -/
def rIsE2 (K : Frag) (D a : Addr) (d : Option Addr) : List V → Hp → VK → Prop := fun xs H Q => ∃ (c : V) (cv : Value) (b : Bool), xs = [.ref a, c] ∧ ClsV c cv ∧ PySem.W.kitOne K (.ref D) cv = some b ∧ (∀ dd, d = some dd → ∃ fs, H dd = some (.xd fs)) ∧ Q (.bl b) H
theorem call_isE2 {X : Cx} {a D : Addr} {oe : Obj} {d : Option Addr} {pn : List (Addr × Obj)} (C : ExcC X.K D) (hz : Zc (.ref D) d oe) (hf : ∃ vs, oe.data = .fields vs) : CallR (X.suite a ((a, oe) :: pn)) (.builtin "isinstance") (rIsE2 X.K D a d) := by
  intro pins s σ H xs us Q I r h
  obtain ⟨c, cv, b, rfl, hcv, e, hd, q⟩ := h
  obtain ⟨u1, u2, rfl, r1, r2⟩ := vals2 r
  cases (show u1 = Value.ref a from r1)
  cases hcv.eq r2
  obtain ⟨od, J⟩ := atE I hz hf hd
  exact PySem.W.kia_one (kitE C) I.kIn J e (fun z => nomatch z) fun tk => ⟨.bl b, H, I.tok tk, rfl, q⟩
/-- isinstance(e, (c1, c2, ..)) -/
def rIsET (K : Frag) (D a : Addr) (d : Option Addr) : List V → Hp → VK → Prop := fun xs H Q => ∃ (tp : Addr) (cs : List V) (us : List Value) (b : Bool), xs = [.ref a, .ref tp] ∧ H tp = some (.tup cs) ∧ Paired ClsV cs us ∧ PySem.W.kitAny K (.ref D) us = some b ∧
  (∀ dd, d = some dd → ∃ fs, H dd = some (.xd fs)) ∧ Q (.bl b) H
theorem call_isET {X : Cx} {a D : Addr} {oe : Obj} {d : Option Addr} {pn : List (Addr × Obj)} (C : ExcC X.K D) (hz : Zc (.ref D) d oe) (hf : ∃ vs, oe.data = .fields vs) : CallR (X.suite a ((a, oe) :: pn)) (.builtin "isinstance") (rIsET X.K D a d) := by
  intro pins s σ H xs us Q I r h
  obtain ⟨tp, cs, ws, b, rfl, hT, k, e, hd, q⟩ := h
  obtain ⟨u1, u2, rfl, r1, r2⟩ := vals2 r
  cases (show u1 = Value.ref a from r1)
  cases (show u2 = Value.ref tp from r2)
  obtain ⟨_, its, rv, o, h1, h2, n, h3⟩ := (show ObjOk X.prog X.w H s.heap tp (.tup cs) from I.hok tp _ hT)
  cases ClsV.all k rv
  obtain ⟨oc, odd, dt, sl⟩ := o
  simp only at h2 h3
  subst h2 h3
  obtain ⟨od, J⟩ := atE I hz hf hd
  exact PySem.W.kia_tup (kitE C) I.kIn J h1 e (fun z => nomatch z) fun tk => ⟨.bl b, H, I.tok tk, rfl, q⟩
/-! ### X(), an own exception class whose __init__ stores nothing -/
def tMkN (C : Addr) (sp : Sp) : L2.St → Hp → XK → Prop := fun _ H Q => ∀ a, H a = none → sp [.ref a] (upd H a (exo a C none)) (fun v H2 => v = .non ∧ H2 a = some (exo a C none) ∧ Q (.ref C) none (del H2 a)) (fun _ _ _ => False)
theorem pmk_oexN {X : Cx} {CX : CXT} {x : Str} {C fI : Addr} {k : Nat} {fd : FuncData} {ps : List Str} {sp : Sp} {p pos : Pos} (T : OexC X.K C) (iC : findIn X.K (.ref C) "__init__" = some (some (.ref fI))) (tI : PySem.W.typeIn X.K (.ref fI) = some (.type "function"))
    (F1 : FnOk X.prog X.w X.K X.mg X.base CX k fI fd ps sp) (hr : Room (k + 1) X.A) (hb : Binds X.K fd ps []) (hx : Passes CX X (fun _ _ _ => False)) (hg : Gl X x) (hm : X.mg x = some (.ref C)) (hdb : (x == ("__debug__" : Str)) = false := by decide) :
    PMk X (.Call (.Name x p) [] [] pos) (tMkN C sp) := by
  intro pins s σ H Q I h
  obtain ⟨nm, q, N, bs, bm, sn, sub, ab, col, dd, k0, k1, k2, k3, k5, hC, hbm⟩ := T.cls
  refine wpAny_Call_Name_kw (ld_glob I hg hm (PySem.W.callWith_K0 I.kIn T.kC ?_) hdb)
  obtain ⟨hp, g, dr, tk, os⟩ := s
  have hsz : hp.objs.size ≤ hp.objs.size + 1 := Nat.le_succ _
  have hn : H (hp.objs.size + 1) = none := I.hok.fresh hsz
  have hq := h (hp.objs.size + 1) hn
  have kk : ∀ b o, hp.get? b = some o → ((hp.push (PySem.W.kdv_tup [])).push (PySem.HandSPX.excO C hp.objs.size)).get? b = some o := fun b o e => Heap.get?_push_of_some _ (Heap.get?_push_of_some _ e)
  have hget : ((hp.push (PySem.W.kdv_tup [])).push (PySem.HandSPX.excO C hp.objs.size)).get? (hp.objs.size + 1) = some (PySem.HandSPX.excO C hp.objs.size) := by heap_get
  have I2 : Inv X pins σ (upd H (hp.objs.size + 1) (exo (hp.objs.size + 1) C none)) ⟨(hp.push (PySem.W.kdv_tup [])).push (PySem.HandSPX.excO C hp.objs.size), g, dr, tk, os⟩ :=
    I.laid (t' := tk) (a := hp.objs.size + 1) (o := exo (hp.objs.size + 1) C none) (h' := (hp.push (PySem.W.kdv_tup [])).push (PySem.HandSPX.excO C hp.objs.size)) kk hsz (exo_ok hget)
  have r2 : Vals [V.ref (hp.objs.size + 1)] [Value.ref (hp.objs.size + 1)] := .cons rfl .nil
  have hl : ([Value.ref (hp.objs.size + 1)] ++ ([] : List Value)).length = ps.length := (F1.len _ _ _ _ hq).symm ▸ rfl
  refine wpAny_call (PySem.HandSPX.call_own F.excBase_ValueError (fun Y => PySem.HandSPX.refsVE_contains Y bm hbm) (I.kIn _ _ hC) (looks_findIn I.kIn iC) (fun self => PySem.W.bind_fn I.kIn self tI) (by show 0 ≤ sizeLine; exact Nat.zero_le _)
    (codeAny_mono (F1.run _ X.stack _ _ ⟨[Value.ref (hp.objs.size + 1)], []⟩ [Value.ref (hp.objs.size + 1)] _ _ (fun _ _ _ => False) (hr.make C [] []) (I2.env0.make C [] []) (hb _ [Value.ref (hp.objs.size + 1)] I2.kIn hl) r2 hq) fun r s' hq' => ?_))
  cases r with
  | error er => exact hx pins σ _ _ er s' I2 hq'
  | ok fl => cases fl with
    | next => exact False.elim hq'
    | brk => exact False.elim hq'
    | cont => exact False.elim hq'
    | ret u =>
      obtain ⟨v, H2, os2, bare2, un2, hok2, rv, ev, ea, q2⟩ := hq'
      subst ev
      refine ⟨rv, ?_⟩
      obtain ⟨h2, g2, d2, t2, os'⟩ := s'
      generalize hA : hp.objs.size + 1 = a at *
      obtain ⟨t0, hoe⟩ := exo_at hok2 ea
      obtain ⟨G, g1', g2'⟩ := restrict h2 fun b => decide (b ≠ a)
      have gk : ∀ b, b ≠ a → G.get? b = h2.get? b := fun b hb => g1' b (decide_eq_true hb)
      have ge : G.get? a = none := g2' a (by simp)
      have nha : ∀ {b : Addr} {o : Obj}, hp.get? b = some o → b ≠ a := fun {b o} z => Nat.ne_of_lt (Nat.lt_of_lt_of_le (Heap.lt_size z) hsz)
      have up : ∀ {b : Addr}, b ≠ a → H b = none → upd H a (exo a C none) b = none := fun {b} hb n => by
        rw [upd_ne hb]
        exact n
      have U : Un (frs X.stack) [] H (del H2 a) hp G := {
        keep := fun b o z n hf hx => (gk b (nha z)).trans (un2.keep b o (kk b o z) (up (nha z) n) hf hx)
        slot := fun b o z n hf hx => by
          rw [gk b (nha z)]
          exact un2.slot b o (kk b o z) (up (nha z) n) hf hx
        free := fun b o z n hx => by
          rw [del_ne (nha z)]
          exact un2.free b o (kk b o z) (up (nha z) n) hx
        there := fun b o z hx => by
          rw [gk b (nha z)]
          exact un2.there b o (kk b o z) hx
        tups := fun b xs z => by
          rw [del_ne (ne_of_none z hn)]
          exact un2.tups b xs (by rw [upd_ne (ne_of_none z hn)]; exact z)
        frzs := fun b o v z => by
          rw [del_ne (ne_of_none z hn)]
          exact un2.frzs b o v (by rw [upd_ne (ne_of_none z hn)]; exact z)
        tbls := fun b ps z => by
          rw [del_ne (ne_of_none z hn)]
          exact un2.tbls b ps (by rw [upd_ne (ne_of_none z hn)]; exact z) }
      have hok3 : HOk X.prog X.w (del H2 a) G := fun b o z => by
        have hba : b ≠ a := fun e => by
          rw [e, del_same] at z
          cases z
        rw [del_ne hba] at z
        have noa : ∀ {c : Addr}, H2 c = some (.own b) → c ≠ a := fun {c} hc => at_ne ea hc exo_own
        refine (hok2 b o z).stay (fun c v hc y => ?_) (fun c hc => by rw [del_ne (noa hc)]; exact hc) (fun c xs hc => by rw [del_ne (at_ne ea hc exo_tup)]; exact hc)
        have hca : c ≠ a := hc.elim (fun e => e ▸ hba) noa
        exact (gk c hca).trans y
      have J : Inv X pins σ (del H2 a) ⟨G, g2, d2, t2, os'⟩ := I.call' (ch := []) os2 U hok3 bare2 (fun b z => absurd z (by simp))
      refine ⟨a, _, _, ⟨G, g2, d2, t2, os'⟩, _, .ref C, none, rfl, J, fun b o z => ?_, ge, hoe, ⟨rfl, rfl⟩, rfl, rfl, del_same, rfl, bare2, raises_own T.exC T.tyC, q2⟩
      by_cases hba : b = a
      · rw [hba] at z
        have z' : G.get? a = some o := z
        rw [ge] at z'
        cases z'
      · exact (gk b hba).symm.trans z
end TX
namespace TX
open PySem PySem.Spec PyProof.Rows L2
def top (i : Nat) : Stmt := PySem.Challenge.pw_textorlist_k05_whole_values_by_their_pla.main.body.getD i (.Pass ⟨0, 0, 0, 0⟩)
abbrev sParts : Stmt := top 1
abbrev sCopy : Stmt := top 2
abbrev cTextorlistError : Stmt := top 4
abbrev cNoPlace : Stmt := top 5
abbrev mNoPlace_init : Stmt := inClass (top 5) 0
abbrev mNoPlace_str : Stmt := inClass (top 5) 1
abbrev cNoItems : Stmt := top 6
abbrev mNoItems_init : Stmt := inClass (top 6) 0
abbrev mNoItems_str : Stmt := inClass (top 6) 1
abbrev s_is_whole_number : Stmt := top 9
abbrev s_is_text : Stmt := top 10
abbrev s_place_of_last : Stmt := top 11
abbrev s_first_fault : Stmt := top 12
abbrev s_is_value : Stmt := top 13
abbrev sKindOf : Stmt := top 14
abbrev sSizeOf : Stmt := top 15
abbrev sAmong : Stmt := top 16
abbrev sDepthOf : Stmt := top 17
abbrev sItemsOf : Stmt := top 18
abbrev s_inner_of : Stmt := top 19
abbrev s_places_of : Stmt := top 20
abbrev s_found_at : Stmt := top 21
abbrev s_part_of : Stmt := top 22
abbrev s_is_torn : Stmt := top 23
abbrev sBag : Stmt := top 25
abbrev sTake : Stmt := top 26
abbrev sText : Stmt := top 27
abbrev sSize : Stmt := top 28
abbrev sValue : Stmt := top 29
abbrev sGreat : Stmt := top 30
abbrev s__law_again : Stmt := top 31
abbrev s__law_is_counted : Stmt := top 32
abbrev s__law_is_built : Stmt := top 33
abbrev sLaw : Stmt := top 34
end TX
namespace TX
open PySem PySem.Spec PyProof.Rows L2
/-! ### the walk over data: a step takes the first of the parts that wait -/
inductive Stp (K : PySem.W.Frag) (H : Hp) : List V × List PyData → V → List V × List PyData → Prop
  | leaf {v : V} {d : PyData} {r : List V} {rd : List PyData} : Dp K H v d → (tyD d == "list" || tyD d == "tuple") = false → Stp K H (v :: r, d :: rd) v (r, rd)
  | lst {a : Addr} {xs r : List V} {es rd : List PyData} : SqL K H a xs → DpAll K H xs es → Stp K H (.ref a :: r, .list es :: rd) (.ref a) (xs ++ r, es ++ rd)
  | tup {a : Addr} {xs r : List V} {es rd : List PyData} : SqT K H a xs → DpAll K H xs es → Stp K H (.ref a :: r, .tuple es :: rd) (.ref a) (xs ++ r, es ++ rd)
/-- the parts so far, the last one first -/
inductive Path (K : PySem.W.Frag) (H : Hp) (S0 : List V × List PyData) : List V → List V × List PyData → Prop
  | nil : Path K H S0 [] S0
  | cons {rs : List V} {S S' : List V × List PyData} {p : V} : Path K H S0 rs S → Stp K H S p S' → Path K H S0 (p :: rs) S'
theorem isLT (d : PyData) (K : PySem.W.Frag) : PySem.W.kitAny K (.type (tyD d)) [.type "list", .type "tuple"] = some (tyD d == "list" || tyD d == "tuple") := by
  cases d with
  | none => exact kitAny_cons (b := false) (kit_ty (a := "NoneType") (b := "list") (by decide +kernel)) (fun _ => kitAny_cons (b := false) (kit_ty (a := "NoneType") (b := "tuple") (by decide +kernel)) (fun _ => kitAny_nil) (fun z => nomatch z)) (fun z => nomatch z)
  | bool _ => exact kitAny_cons (b := false) (kit_ty (a := "bool") (b := "list") (by decide +kernel)) (fun _ => kitAny_cons (b := false) (kit_ty (a := "bool") (b := "tuple") (by decide +kernel)) (fun _ => kitAny_nil) (fun z => nomatch z)) (fun z => nomatch z)
  | int _ => exact kitAny_cons (b := false) (kit_ty (a := "int") (b := "list") (by decide +kernel)) (fun _ => kitAny_cons (b := false) (kit_ty (a := "int") (b := "tuple") (by decide +kernel)) (fun _ => kitAny_nil) (fun z => nomatch z)) (fun z => nomatch z)
  | str _ => exact kitAny_cons (b := false) (kit_ty (a := "str") (b := "list") (by decide +kernel)) (fun _ => kitAny_cons (b := false) (kit_ty (a := "str") (b := "tuple") (by decide +kernel)) (fun _ => kitAny_nil) (fun z => nomatch z)) (fun z => nomatch z)
  | dict _ => exact kitAny_cons (b := false) (kit_ty (a := "dict") (b := "list") (by decide +kernel)) (fun _ => kitAny_cons (b := false) (kit_ty (a := "dict") (b := "tuple") (by decide +kernel)) (fun _ => kitAny_nil) (fun z => nomatch z)) (fun z => nomatch z)
  | list _ => exact kitAny_cons (b := true) (kit_ty (a := "list") (b := "list") (by decide +kernel)) (fun z => nomatch z) (fun _ => rfl)
  | tuple _ => exact kitAny_cons (b := false) (kit_ty (a := "tuple") (b := "list") (by decide +kernel)) (fun _ => kitAny_cons (b := true) (kit_ty (a := "tuple") (b := "tuple") (by decide +kernel)) (fun z => nomatch z) (fun _ => rfl)) (fun z => nomatch z)
/-- what the walk asks of the names of the top -/
structure Nm (mg : Str → Option Value) : Prop where
  isi : mg "isinstance" = none
  lst : mg "list" = none
  tpl : mg "tuple" = none
def spParts (K : PySem.W.Frag) : Sp := fun vs H Q _ => ∃ (v : V) (d : PyData) (Hv : Hp), vs = [v] ∧ Same Hv H ∧ Dp K Hv v d ∧ nd d ≤ 1000000 ∧
  ∀ (H' : Hp) (p : Addr) (rs : List V), Same H H' → H p = none → H' p = some (.lst rs.reverse) → Path K Hv ([v], [d]) rs ([], []) → rs.length = nd d → Q (.ref p) H'
section
variable {P : Program} {w : World} {K : PySem.W.Frag} {mg : Str → Option Value} {base : Heap}
theorem scParts : FnScope ["thing", "waiting", "parts", "part"] ["thing"] (defScope sParts) := ⟨rfl, rfl, rfl, by decide +kernel, rfl, by decide +kernel, by decide +kernel⟩
theorem ok_parts {f : Addr} {fd : FuncData} {k : Nat} (F : Fun K "all_parts" "all_parts" sParts f fd) (T : Nm mg) : FnOk P w K mg base CX0 (k + 1) f fd ["thing"] (spParts K) := by
  refine F.ok scParts (fun vs H Q E h => ?_) (fun cdv A outer s H vs Q E hr h => ?_)
  · obtain ⟨v, d, Hv, rfl, _⟩ := h
    rfl
  · obtain ⟨v, d, Hv, rfl, sv, hd, hn, q⟩ := h
    refine ⟨_, pss_cons (ps_set (i := 1) scParts.nd rfl (.inl rfl) (pe_lst (pa_cons (pv 0) pa_nil)))
      (pss_cons (ps_set (i := 2) scParts.nd rfl (.inl rfl) (pe_lst pa_nil))
      (pss_cons (ps_while PassesOwn.never (pt_truth (pv 1) (by intro _; rfl))
        (pss_cons (ps_set (i := 3) scParts.nd rfl (.inl rfl) (pe_bm0 PySem.F.plainAttrs_list PySem.F.slot_list_pop PySem.F.type_list_pop mt_pop (pv 1)))
        (pss_cons (ps_expr (pe_bm PySem.F.plainAttrs_list PySem.F.slot_list_append PySem.F.type_list_append mt_append (pv 2) (pa_cons (pv 3) pa_nil)))
        (pss_one (ps_if (pt_val (pe_callB call_isiT (by rfl) T.isi (by decide +kernel) (pa_cons (pv 3) (pa_cons (pe_tup (pa_cons (pe_bltn (v := .ty "list") (by rfl) T.lst (by decide +kernel) rfl) (pa_cons (pe_bltn (v := .ty "tuple") (by rfl) T.tpl (by decide +kernel) rfl) pa_nil))) pa_nil))))
          (pss_one (ps_alt (ps_expr (pe_bm PySem.F.plainAttrs_list PySem.F.slot_list_extend PySem.F.type_list_extend mt_extend (pv 1) (pa_cons (pe_revL (pv 3)) pa_nil)))
            (ps_expr (pe_bm PySem.F.plainAttrs_list PySem.F.slot_list_extend PySem.F.type_list_extend mt_extT (pv 1) (pa_cons (pe_revT (pv 3)) pa_nil)))))
          pss_nil)))))
      (pss_one (ps_ret (pv 2))))), ?_⟩
    refine ⟨_, rfl, (by show 1 ≤ sizeLine; decide), fun wa nwa => ⟨by decide, fun pa npa => ?_⟩⟩
    have nwa' : pa ≠ wa := fun e => by
      rw [e, upd_same] at npa
      cases npa
    have npa0 : H pa = none := by
      rw [upd_ne nwa'] at npa
      exact npa
    -- the invariant
    refine ⟨fun m σ H1 => ∃ (rs : List V) (S : List V × List PyData) (y : Option V), σ = [some v, some (.ref wa), some (.ref pa), y] ∧ Same H H1 ∧ H1 wa = some (.lst S.1.reverse) ∧ H1 pa = some (.lst rs.reverse) ∧
      DpAll K Hv S.1 S.2 ∧ Path K Hv ([v], [d]) rs S ∧ rs.length + ndAll S.2 = nd d ∧ m = ndAll S.2, ⟨_, [], ([v], [d]), none, rfl, (same_upd nwa).trans (same_upd npa), ?_, upd_same, .cons hd .nil, .nil, ?_, rfl⟩, ?_⟩
    · rw [upd_ne nwa'.symm, upd_same]
      rfl
    · simp [ndAll]
    rintro m σ H1 ⟨rs, ⟨vs, ds⟩, y, rfl, sm, hw, hp, hS, hP, hc, rfl⟩
    refine ⟨_, rfl, _, .inl ⟨_, SqL.of hw, rfl⟩, ?_⟩
    cases hS with
    | nil =>
      -- nothing waits any more
      refine iteF ?_
      refine ⟨_, rfl, q H1 pa rs sm npa0 hp hP ?_⟩
      simpa [ndAll] using hc
    | @cons v1 r1 d1 rd1 h1 h2 =>
      have hne : (!((v1 :: r1, d1 :: rd1) : List V × List PyData).1.reverse.isEmpty) = true := by simp
      rw [hne]
      refine iteT ?_
      have hlen : rs.length + (nd d1 + ndAll rd1) = nd d := by simpa [ndAll] using hc
      have hrl : rs.length ≤ 1000000 := by omega
      have hvl : r1.length ≤ ndAll rd1 := by
        have e := DpAll.length h2
        have e2 := ndAll_len rd1
        omega
      refine ⟨fun σ' H2 => ∃ (S' : List V × List PyData), σ' = [some v, some (.ref wa), some (.ref pa), some v1] ∧ Same H H2 ∧ H2 wa = some (.lst S'.1.reverse) ∧ H2 pa = some (.lst (v1 :: rs).reverse) ∧ DpAll K Hv S'.1 S'.2 ∧ Stp K Hv (v1 :: r1, d1 :: rd1) v1 S' ∧ ndAll S'.2 + 1 = nd d1 + ndAll rd1, ?_, ?_⟩
      · rintro σ' H2 ⟨S', rfl, g1, g2, g3, g4, g5, g6⟩
        exact ⟨_, by simp only [ndAll]; omega, v1 :: rs, S', _, rfl, g1, g2, g3, g4, .cons hP g5, by rw [List.length_cons]; omega, rfl⟩
      -- part = waiting.pop()
      have ep : ((v1 :: r1, d1 :: rd1) : List V × List PyData).1.reverse = r1.reverse ++ [v1] := by simp
      rw [ep] at hw
      refine ⟨_, rfl, .inl ⟨rfl, _, SqL.of hw⟩, wa, _, v1, rfl, rfl, hw, by simp, ?_⟩
      rw [List.dropLast_concat]
      have sm1 : Same H (upd H1 wa (.lst r1.reverse)) := same_fresh nwa sm
      have hp1 : (upd H1 wa (.lst r1.reverse)) pa = some (.lst rs.reverse) := by
        rw [upd_ne nwa']
        exact hp
      -- parts.append(part)
      refine ⟨_, rfl, .inl ⟨rfl, _, SqL.of hp1⟩, _, rfl, pa, _, _, rfl, rfl, hp1, Nat.lt_of_le_of_lt (by simpa using hrl) (by decide), ?_⟩
      have sm2 := same_fresh (o := .lst (rs.reverse ++ [v1])) npa0 sm1
      have hw2 : (upd (upd H1 wa (.lst r1.reverse)) pa (.lst (rs.reverse ++ [v1]))) wa = some (.lst r1.reverse) := by
        rw [upd_ne nwa'.symm, upd_same]
      have hp2 : (upd (upd H1 wa (.lst r1.reverse)) pa (.lst (rs.reverse ++ [v1]))) pa = some (.lst (rs.reverse ++ [v1])) := upd_same
      -- if isinstance(part, (list, tuple))
      refine ⟨_, rfl, by decide, fun tp ntp => ?_⟩
      have t1 : wa ≠ tp := ne_of_none hw2 ntp
      have t2 : pa ≠ tp := ne_of_none hp2 ntp
      have sm3 : Same H (upd (upd (upd H1 wa (.lst r1.reverse)) pa (.lst (rs.reverse ++ [v1]))) tp (.tup [.ty "list", .ty "tuple"])) := sm2.trans (same_upd ntp)
      have hw3 : (upd (upd (upd H1 wa (.lst r1.reverse)) pa (.lst (rs.reverse ++ [v1]))) tp (.tup [.ty "list", .ty "tuple"])) wa = some (.lst r1.reverse) := by
        rw [upd_ne t1]
        exact hw2
      have hp3 : (upd (upd (upd H1 wa (.lst r1.reverse)) pa (.lst (rs.reverse ++ [v1]))) tp (.tup [.ty "list", .ty "tuple"])) pa = some (.lst (rs.reverse ++ [v1])) := by
        rw [upd_ne t2]
        exact hp2
      refine ⟨v1, tp, _, .type (tyD d1), [.type "list", .type "tuple"], _, rfl, upd_same, .cons (.ty _) (.cons (.ty _) .nil), dp_ty (dp_same (sv.trans sm3) _ _ h1), isLT d1 K, _, rfl, ?_⟩
      have er : (v1 :: rs).reverse = rs.reverse ++ [v1] := by simp
      generalize hG : upd (upd (upd H1 wa (.lst r1.reverse)) pa (.lst (rs.reverse ++ [v1]))) tp (.tup [.ty "list", .ty "tuple"]) = G at sm3 hw3 hp3
      -- what the reversed part puts behind
      have go : ∀ (rp : Addr) (o : HO) (xs : List V) (es : List PyData), G rp = none → DpAll K Hv xs es → nd d1 = ndAll es + 1 → Stp K Hv (v1 :: r1, d1 :: rd1) v1 (xs ++ r1, es ++ rd1) →
          ∃ S' : List V × List PyData, Same H (upd (upd G rp o) wa (.lst (r1.reverse ++ xs.reverse))) ∧ (upd (upd G rp o) wa (.lst (r1.reverse ++ xs.reverse))) wa = some (.lst S'.1.reverse) ∧
            (upd (upd G rp o) wa (.lst (r1.reverse ++ xs.reverse))) pa = some (.lst (v1 :: rs).reverse) ∧ DpAll K Hv S'.1 S'.2 ∧ Stp K Hv (v1 :: r1, d1 :: rd1) v1 S' ∧ ndAll S'.2 + 1 = nd d1 + ndAll rd1 := by
        intro rp o xs es nrp hxs hnd hst
        refine ⟨(xs ++ r1, es ++ rd1), same_fresh nwa (sm3.trans (same_upd nrp)), ?_, ?_, DpAll.append hxs h2, hst, ?_⟩
        · rw [upd_same]
          simp
        · rw [upd_ne nwa', upd_ne (ne_of_none hp3 nrp), er]
          exact hp3
        · show ndAll (es ++ rd1) + 1 = _
          rw [ndAll_append]
          omega
      have fit : ∀ (xs : List V) (es : List PyData), DpAll K Hv xs es → nd d1 = ndAll es + 1 → r1.reverse.length + xs.reverse.length ≤ sizeLine := by
        intro xs es hxs hnd
        have e1 := DpAll.length hxs
        have e2 := ndAll_len es
        rw [List.length_reverse, List.length_reverse]
        exact Nat.le_trans (show r1.length + xs.length ≤ 1000000 by omega) (by decide)
      have wne : ∀ {rp : Addr}, G rp = none → wa ≠ rp := fun h => ne_of_none hw3 h
      have leafy : (tyD d1 == "list" || tyD d1 == "tuple") = false → nd d1 = 1 → if (tyD d1 == "list" || tyD d1 == "tuple") = true then False else ∃ S' : List V × List PyData, Same H G ∧ G wa = some (.lst S'.1.reverse) ∧ G pa = some (.lst (v1 :: rs).reverse) ∧ DpAll K Hv S'.1 S'.2 ∧ Stp K Hv (v1 :: r1, d1 :: rd1) v1 S' ∧ ndAll S'.2 + 1 = nd d1 + ndAll rd1 := by
        intro e1 e2
        rw [e1]
        refine iteF ⟨(r1, rd1), sm3, hw3, by rw [er]; exact hp3, h2, .leaf h1 e1, ?_⟩
        show ndAll rd1 + 1 = _
        omega
      cases h1 with
      | non => exact let ⟨S', g⟩ := leafy rfl rfl; ⟨S', rfl, g⟩
      | bl b => exact let ⟨S', g⟩ := leafy rfl rfl; ⟨S', rfl, g⟩
      | int i => exact let ⟨S', g⟩ := leafy rfl rfl; ⟨S', rfl, g⟩
      | str x => exact let ⟨S', g⟩ := leafy rfl rfl; ⟨S', rfl, g⟩
      | @lst a xs es g1 g2 =>
        refine iteT (.inl ?_)
        refine ⟨_, rfl, .inl ⟨rfl, _, SqL.of hw3⟩, _, rfl, a, xs, rfl, (sv.trans sm3).seq g1, fun rp nrp => ?_⟩
        obtain ⟨S', g⟩ := go rp (.lst xs.reverse) xs es nrp g2 rfl (.lst g1 g2)
        exact ⟨wa, rp, _, _, rfl, rfl, by rw [upd_ne (wne nrp)]; exact hw3, upd_same, fit xs es g2 rfl, S', rfl, g⟩
      | @tup a xs es g1 g2 =>
        refine iteT (.inr ?_)
        refine ⟨_, rfl, .inl ⟨rfl, _, SqL.of hw3⟩, _, rfl, a, xs, rfl, same_sqt (sv.trans sm3) g1, fun rp nrp => ?_⟩
        obtain ⟨S', g⟩ := go rp (.tup xs.reverse) xs es nrp g2 rfl (.tup g1 g2)
        exact ⟨wa, rp, _, _, rfl, rfl, by rw [upd_ne (wne nrp)]; exact hw3, .inl (.inl upd_same), fit xs es g2 rfl, S', rfl, g⟩
end
end TX
namespace TX
open PySem PySem.Spec PyProof.Rows L2
/-- what is new behind H, but the place x -/
def newB (H : Hp) (x : Addr) (H' : Hp) : Hp := fun b => if b = x then none else match H b with
  | none => H' b
  | some _ => none
def newp (H H' : Hp) : Hp := fun b => match H b with
  | none => H' b
  | some _ => none
theorem newp_at {H H' : Hp} {b : Addr} (h : H b = none) : newp H H' b = H' b := by
  unfold newp
  rw [h]
theorem newp_old {H H' : Hp} {b : Addr} {o : HO} (h : H b = some o) : newp H H' b = none := by
  unfold newp
  rw [h]
theorem newp_less {H H1 H2 : Hp} (h : Same H H1) : Same (newp H1 H2) (newp H H2) := fun b o e => by
  cases h1 : H1 b with
  | some u =>
    rw [newp_old h1] at e
    cases e
  | none =>
    rw [newp_at h1] at e
    rw [newp_at (h.free h1)]
    exact e
theorem newB_newp {H H' : Hp} {x : Addr} : Same (newB H x H') (newp H H') := fun b o e => by
  unfold newB at e
  by_cases hb : b = x
  · rw [if_pos hb] at e
    cases e
  · rw [if_neg hb] at e
    exact e
theorem newp_same {H H' : Hp} : Same (newp H H') H' := fun b o e => by
  cases h : H b with
  | none =>
    rw [newp_at h] at e
    exact e
  | some u =>
    rw [newp_old h] at e
    cases e
theorem newB_at {H H' : Hp} {x b : Addr} (h : H b = none) (hx : b ≠ x) : newB H x H' b = H' b := by
  unfold newB
  rw [if_neg hx, h]
theorem newB_mono {H H1 H2 : Hp} {x : Addr} (h : ∀ b o, b ≠ x → H1 b = some o → H2 b = some o) : Same (newB H x H1) (newB H x H2) := fun b o e => by
  by_cases hb : b = x
  · unfold newB at e
    rw [if_pos hb] at e
    cases e
  · cases hh : H b with
    | none =>
      rw [newB_at hh hb] at e ⊢
      exact h b o hb e
    | some u =>
      unfold newB at e
      rw [if_neg hb, hh] at e
      cases e
/-- a leaf is data in any heap -/
theorem dp_leaf {K : PySem.W.Frag} {H H' : Hp} {v : V} {d : PyData} (h : Dp K H v d) (e : (tyD d == "list" || tyD d == "tuple") = false) : Dp K H' v d := by
  cases h with
  | non => exact .non
  | bl b => exact .bl b
  | int i => exact .int i
  | str x => exact .str x
  | lst _ _ => simp [tyD] at e
  | tup _ _ => simp [tyD] at e
def spCopy (K : PySem.W.Frag) : Sp := fun vs H Q _ => ∃ (v : V) (d : PyData) (Hv : Hp), vs = [v] ∧ Same Hv H ∧ Dp K Hv v d ∧ nd d ≤ 1000000 ∧
  ∀ (H' : Hp) (v' : V), Same H H' → Dp K (newp H H') v' d → Q v' H'
theorem kit1 (d : PyData) (K : PySem.W.Frag) : PySem.W.kitOne K (.type (tyD d)) (.type "tuple") = some (tyD d == "tuple") := by
  cases d with
  | none => exact (kit_ty (a := "NoneType") (b := "tuple") (r := false) (by decide +kernel)).trans (by simp [tyD])
  | bool _ => exact (kit_ty (a := "bool") (b := "tuple") (r := false) (by decide +kernel)).trans (by simp [tyD])
  | int _ => exact (kit_ty (a := "int") (b := "tuple") (r := false) (by decide +kernel)).trans (by simp [tyD])
  | str _ => exact (kit_ty (a := "str") (b := "tuple") (r := false) (by decide +kernel)).trans (by simp [tyD])
  | list _ => exact (kit_ty (a := "list") (b := "tuple") (r := false) (by decide +kernel)).trans (by simp [tyD])
  | tuple _ => exact (kit_ty (a := "tuple") (b := "tuple") (r := true) (by decide +kernel)).trans (by simp [tyD])
  | dict _ => exact (kit_ty (a := "dict") (b := "tuple") (r := false) (by decide +kernel)).trans (by simp [tyD])
theorem rev_drop {c : List V} {j : Nat} {y : V} (h : c[j]? = some y) : (c.drop j).reverse = (c.drop (j + 1)).reverse ++ [y] := by
  obtain ⟨hj, e⟩ := List.getElem?_eq_some_iff.mp h
  rw [List.drop_eq_getElem_cons hj, e]
  simp
theorem path_count {K : PySem.W.Frag} {Hv : Hp} {S0 : List V × List PyData} : ∀ {rs : List V} {S : List V × List PyData}, Path K Hv S0 rs S → rs.length + ndAll S.2 = ndAll S0.2
  | _, _, .nil => by simp
  | _, _, .cons hP hs => by
    have ih := path_count hP
    cases hs with
    | @leaf v0 d0 r0 rd0 h e =>
      have one : nd d0 = 1 := by
        cases h with
        | non => rfl
        | bl b => rfl
        | int i => rfl
        | str x => rfl
        | lst _ _ => simp [tyD] at e
        | tup _ _ => simp [tyD] at e
      simp only [ndAll, one] at ih
      rw [List.length_cons]
      dsimp only
      omega
    | lst h g =>
      simp only [ndAll, nd] at ih
      rw [List.length_cons, ndAll_append]
      omega
    | tup h g =>
      simp only [ndAll, nd] at ih
      rw [List.length_cons, ndAll_append]
      omega
section
variable {P : Program} {w : World} {K : PySem.W.Frag} {mg : Str → Option Value} {base : Heap}
theorem scCopy : FnScope ["thing", "done", "part", "made", "_"] ["thing"] (defScope sCopy) := ⟨rfl, rfl, rfl, by decide +kernel, rfl, by decide +kernel, by decide +kernel⟩
theorem ok_copy {f fP : Addr} {fd fdP : FuncData} {k : Nat} (F : Fun K "copy_of" "copy_of" sCopy f fd) (T : Nm mg) (FP : Fun K "all_parts" "all_parts" sParts fP fdP) (bP : Binds K fdP ["thing"] []) (gP : mg "all_parts" = some (.ref fP)) :
    FnOk P w K mg base CX0 (k + 2) f fd ["thing"] (spCopy K) := by
  have GP : FnOk P w K mg base CX0 (k + 1) fP fdP ["thing"] (spParts K) := ok_parts FP T
  refine F.ok scCopy (fun vs H Q E h => ?_) (fun cdv A outer s H vs Q E hr h => ?_)
  · obtain ⟨v, d, Hv, rfl, _⟩ := h
    rfl
  · obtain ⟨v, d, Hv, rfl, sv, hd, hn, q⟩ := h
    refine ⟨_, pss_cons (ps_if (pt_not (pt_val (pe_callB call_isiT (by rfl) T.isi (by decide +kernel) (pa_cons (pv 0) (pa_cons (pe_tup (pa_cons (pe_bltn (v := .ty "list") (by rfl) T.lst (by decide +kernel) rfl) (pa_cons (pe_bltn (v := .ty "tuple") (by rfl) T.tpl (by decide +kernel) rfl) pa_nil))) pa_nil))))) (pss_one (ps_ret (pv 0))) pss_nil) <| pss_cons (ps_set (i := 1) scCopy.nd rfl (.inr rfl) (pe_lst pa_nil))
      (pss_cons (ps_for PassesOwn.never rfl (pi_list (pe_revL (pe_call GP hr (by rfl) gP FP.kp bP .nil pass0 (pa_cons (pv 0) pa_nil)))) (pg_name (i := 2) scCopy.nd rfl (.inl rfl))
        (pss_cons (ps_set (i := 3) scCopy.nd rfl (.inl rfl) (pv 2))
        (pss_cons (ps_if (pt_val (pe_callB call_isiT (by rfl) T.isi (by decide +kernel) (pa_cons (pv 2) (pa_cons (pe_tup (pa_cons (pe_bltn (v := .ty "list") (by rfl) T.lst (by decide +kernel) rfl) (pa_cons (pe_bltn (v := .ty "tuple") (by rfl) T.tpl (by decide +kernel) rfl) pa_nil))) pa_nil))))
          (pss_one (ps_alt
            (ps_setLc (i := 3) (own := [("_", 4)]) (g := gName 4) (tt := tYes) (te := tBM0 K "list" rPop (tVar 1)) rfl scCopy.nd rfl rfl (sw_true rfl rfl rfl (by decide +kernel)) (pi_list (pv 2)) (blkOk_by (N := ["thing", "done", "part", "made", "_"]) (sc := defScope sCopy) (by decide +kernel))
              (fun _ _ _ _ _ => pg_name (i := 4) scCopy.nd rfl (Or.inl rfl)) (fun _ _ _ _ _ => pts_nil) (fun _ _ _ _ _ => pe_bm0 PySem.F.plainAttrs_list PySem.F.slot_list_pop PySem.F.type_list_pop mt_pop (pv 1)))
            (ps_setLc (i := 3) (own := [("_", 4)]) (g := gName 4) (tt := tYes) (te := tBM0 K "list" rPop (tVar 1)) rfl scCopy.nd rfl rfl (sw_true rfl rfl rfl (by decide +kernel)) (pi_tup (pv 2)) (blkOk_by (N := ["thing", "done", "part", "made", "_"]) (sc := defScope sCopy) (by decide +kernel))
              (fun _ _ _ _ _ => pg_name (i := 4) scCopy.nd rfl (Or.inl rfl)) (fun _ _ _ _ _ => pts_nil) (fun _ _ _ _ _ => pe_bm0 PySem.F.plainAttrs_list PySem.F.slot_list_pop PySem.F.type_list_pop mt_pop (pv 1)))))
          pss_nil)
        (pss_cons (ps_if (pt_val (pe_callB call_isi (by rfl) T.isi (by decide +kernel) (pa_cons (pv 2) (pa_cons (pe_bltn (v := .ty "tuple") (by rfl) T.tpl (by decide +kernel) rfl) pa_nil))))
          (pss_one (ps_set (i := 3) scCopy.nd rfl (.inl rfl) (pe_callTy call_tuple_of (by rfl) T.tpl (by decide +kernel) (pa_cons (pv 3) pa_nil))))
          pss_nil)
        (pss_one (ps_expr (pe_bm PySem.F.plainAttrs_list PySem.F.slot_list_append PySem.F.type_list_append mt_append (pv 1) (pa_cons (pv 3) pa_nil))))))))
      (pss_one (ps_ret (pe_ix ix_list (pv 1) pe_int (fun _ _ => rfl))))), ?_⟩
    refine ⟨_, rfl, by decide, fun tp0 ntp0 => ?_⟩
    refine ⟨v, tp0, _, .type (tyD d), [.type "list", .type "tuple"], _, rfl, upd_same, .cons (.ty _) (.cons (.ty _) .nil), dp_ty (dp_same (sv.trans (same_upd ntp0)) _ _ hd), isLT d K, _, rfl, ?_⟩
    have q2 : ∀ (H' : Hp) (v' : V), Same (upd H tp0 (.tup [.ty "list", .ty "tuple"])) H' → Dp K (newp (upd H tp0 (.tup [.ty "list", .ty "tuple"])) H') v' d → Q v' H' := fun H' v' e1 e2 => q H' v' ((same_upd ntp0).trans e1) (dp_same (newp_less (same_upd ntp0)) _ _ e2)
    have sv2 : Same Hv (upd H tp0 (.tup [.ty "list", .ty "tuple"])) := sv.trans (same_upd ntp0)
    cases hlt : (tyD d == "list" || tyD d == "tuple") with
    | false =>
      exact iteT ⟨_, rfl, q2 _ _ (fun _ _ e => e) (dp_leaf hd hlt)⟩
    | true =>
    refine iteF ?_
    generalize upd H tp0 (.tup [.ty "list", .ty "tuple"]) = H at sv2 q2
    clear q sv ntp0 tp0
    have sv := sv2
    have q := q2
    refine ⟨by decide, fun da nda => ?_⟩
    -- all_parts(thing)[::-1]
    refine ⟨_, rfl, v, d, Hv, rfl, sv.trans (same_upd nda), hd, hn, fun H1 p rs sm1 np hp hP hlen => ?_⟩
    have hda1 : H1 da = some (.lst []) := sm1 _ _ upd_same
    refine ⟨p, _, rfl, SqL.of hp, fun r nr => ?_⟩
    rw [List.reverse_reverse]
    have rda : da ≠ r := ne_of_none hda1 nr
    have s0 : Same H (upd H1 r (.lst rs)) := ((same_upd nda).trans sm1).trans (same_upd nr)
    have hr0 : H r = none := ((same_upd nda).trans sm1).free nr
    have nda0 : H da = none := nda
    refine ⟨r, rfl, ⟨_, SqL.of upd_same⟩, for_list (K := K) (a := r) (xs := rs) (fun i σ H2 => ∃ (S : List V × List PyData) (cs : List V) (y2 y3 : Option V), σ = [some v, some (.ref da), y2, y3, none] ∧ Same H H2 ∧ H2 r = some (.lst rs) ∧
      Path K Hv ([v], [d]) (rs.drop i) S ∧ H2 da = some (.lst cs.reverse) ∧ DpAll K (newB H da H2) cs S.2) ?_ ?_ ?_ ?_⟩
    · exact ⟨([], []), [], none, none, rfl, s0, upd_same, hP, by rw [upd_ne rda]; exact hda1, .nil⟩
    · rintro i σ H2 hi ⟨S, cs, y2, y3, rfl, _, g, _⟩
      exact SqL.of g
    · rintro i x σ H2 hx ⟨S, cs, y2, y3, rfl, sm, hrs, hPi, hda, hcs⟩
      have edrop : rs.drop i = x :: rs.drop (i + 1) := by
        obtain ⟨hj, e⟩ := List.getElem?_eq_some_iff.mp hx
        rw [List.drop_eq_getElem_cons hj, e]
      rw [edrop] at hPi
      cases hPi with
      | @cons _ S1 _ _ hP1 hst =>
      have cnt := path_count (.cons hP1 hst)
      have cnt0 : ndAll ([d] : List PyData) = nd d := by simp [ndAll]
      have lcs : cs.length ≤ 1000000 := by
        have e1 := DpAll.length hcs
        have e2 := ndAll_len S.2
        have e3 : ndAll (([v], [d]) : List V × List PyData).2 = nd d := cnt0
        omega
      -- the part's data
      obtain ⟨dx, hdx⟩ : ∃ dx, Dp K Hv x dx ∧ ((∃ r1 rd1, S1 = (x :: r1, dx :: rd1) ∧ S = (r1, rd1) ∧ (tyD dx == "list" || tyD dx == "tuple") = false) ∨
          (∃ a xs es r1 rd1, x = .ref a ∧ dx = .list es ∧ SqL K Hv a xs ∧ DpAll K Hv xs es ∧ S1 = (x :: r1, .list es :: rd1) ∧ S = (xs ++ r1, es ++ rd1)) ∨
          (∃ a xs es r1 rd1, x = .ref a ∧ dx = .tuple es ∧ SqT K Hv a xs ∧ DpAll K Hv xs es ∧ S1 = (x :: r1, .tuple es :: rd1) ∧ S = (xs ++ r1, es ++ rd1))) := by
        cases hst with
        | leaf h e => exact ⟨_, h, .inl ⟨_, _, rfl, rfl, e⟩⟩
        | lst h g => exact ⟨_, .lst h g, .inr (.inl ⟨_, _, _, _, _, rfl, rfl, h, g, rfl, rfl⟩)⟩
        | tup h g => exact ⟨_, .tup h g, .inr (.inr ⟨_, _, _, _, _, rfl, rfl, h, g, rfl, rfl⟩)⟩
      obtain ⟨hx1, hcase⟩ := hdx
      -- made = part; isinstance(part, (list, tuple))
      refine ⟨_, rfl, _, rfl, by decide, fun tp ntp => ?_⟩
      have sm3 : Same H (upd H2 tp (.tup [.ty "list", .ty "tuple"])) := sm.trans (same_upd ntp)
      have hda3 : (upd H2 tp (.tup [.ty "list", .ty "tuple"])) da = some (.lst cs.reverse) := same_upd ntp _ _ hda
      have hrs3 : (upd H2 tp (.tup [.ty "list", .ty "tuple"])) r = some (.lst rs) := same_upd ntp _ _ hrs
      have hcs3 : DpAll K (newB H da (upd H2 tp (.tup [.ty "list", .ty "tuple"]))) cs S.2 := dpAll_same (newB_mono fun b o _ e => same_upd ntp b o e) _ _ hcs
      refine ⟨x, tp, _, .type (tyD dx), [.type "list", .type "tuple"], _, rfl, upd_same, .cons (.ty _) (.cons (.ty _) .nil), dp_ty (dp_same (sv.trans sm3) _ _ hx1), isLT dx K, _, rfl, ?_⟩
      generalize upd H2 tp (.tup [.ty "list", .ty "tuple"]) = G at sm3 hda3 hrs3 hcs3
      rcases hcase with ⟨r1, rd1, rfl, rfl, e⟩ | ⟨a, xs, es, r1, rd1, rfl, rfl, g1, g2, rfl, rfl⟩ | ⟨a, xs, es, r1, rd1, rfl, rfl, g1, g2, rfl, rfl⟩
      · rw [e]
        refine iteF ?_
        have e2 : (tyD dx == "tuple") = false := (Bool.or_eq_false_iff.mp e).2
        refine ⟨_, rfl, x, .ty "tuple", .type (tyD dx), .type "tuple", _, rfl, .ty _, dp_ty (dp_leaf hx1 e), kit1 dx K, _, rfl, ?_⟩
        rw [e2]
        refine iteF ?_
        refine ⟨_, rfl, .inl ⟨rfl, _, SqL.of hda3⟩, _, rfl, da, _, _, rfl, rfl, hda3, Nat.lt_of_le_of_lt (by simpa using lcs) (by decide), ?_⟩
        refine ⟨_, x :: cs, _, _, rfl, same_fresh nda0 sm3, by rw [upd_ne rda.symm]; exact hrs3, hP1, ?_, ?_⟩
        · rw [upd_same]
          simp
        · exact .cons (dp_leaf hx1 e) (dpAll_same (newB_mono fun b o hb e => by rw [upd_ne hb]; exact e) _ _ hcs3)
      · obtain ⟨c1, c2, rfl, hc1, hc2⟩ := DpAll.split hcs3
        have hxl : xs.length = c1.length := (DpAll.length g2).trans (DpAll.length hc1).symm
        refine iteT (.inl ?_)
        refine ⟨_, rfl, a, rfl, ⟨_, (sv.trans sm3).seq g1⟩, fun D nD => lc_list (K := K) (a := a) (xs := xs) (fun j H4 => H4 da = some (.lst (c2.reverse ++ (c1.drop j).reverse)) ∧ H4 D = some (.lst (c1.take j)) ∧ ∀ b o, b ≠ da → b ≠ D → G b = some o → H4 b = some o) ?_ ?_ ?_ ?_⟩
        · have ne : da ≠ D := ne_of_none hda3 nD
          refine ⟨?_, upd_same, fun b o _ hb e => by rw [upd_ne hb]; exact e⟩
          rw [upd_ne ne, hda3]
          simp
        · rintro j H4 hj ⟨_, _, kp⟩
          have nDH : H D = none := sm3.free nD
          exact Same.seq (fun b o e => kp b o (ne_of_none e nda0) (ne_of_none e nDH) (sm3 b o e)) (sv.seq g1)
        · rintro j y H4 hy ⟨k1, k2, kp⟩
          have ne : da ≠ D := ne_of_none hda3 nD
          have hjl : j < c1.length := by
            have := (List.getElem?_eq_some_iff.mp hy).1
            omega
          have hcj : c1[j]? = some c1[j] := List.getElem?_eq_getElem hjl
          rw [rev_drop hcj, ← List.append_assoc] at k1
          refine ⟨rfl, .ref da, rfl, .inl ⟨rfl, _, SqL.of k1⟩, da, _, c1[j], rfl, rfl, k1, by simp, ?_⟩
          rw [List.dropLast_concat]
          refine ⟨c1.take j, by rw [upd_ne ne.symm]; exact k2, ?_, ?_, ?_, fun b o h1 h2 e => ?_⟩
          · refine Nat.lt_of_le_of_lt (show (c1.take j).length ≤ 1000000 from ?_) (by decide)
            rw [List.length_append] at lcs
            have := List.length_take_le j c1
            omega
          · rw [upd_ne ne, upd_same]
          · rw [upd_same, List.take_add_one, hcj]
            rfl
          · rw [upd_ne h2, upd_ne h1]
            exact kp b o h1 h2 e
        · rintro H4 ⟨k1, k2, kp⟩
          have ne : da ≠ D := ne_of_none hda3 nD
          have nDH : H D = none := sm3.free nD
          have sm4 : Same H H4 := fun b o e => kp b o (ne_of_none e nda0) (ne_of_none e nDH) (sm3 b o e)
          have rD : r ≠ D := ne_of_none hrs3 nD
          have hr4 : H4 r = some (.lst rs) := kp r _ rda.symm rD hrs3
          rw [hxl] at k1 k2
          rw [List.drop_length, List.reverse_nil, List.append_nil] at k1
          rw [List.take_length] at k2
          have mono4 : Same (newB H da G) (newB H da H4) := fun b o e => by
            by_cases hb : b = da
            · unfold newB at e
              rw [if_pos hb] at e
              cases e
            · cases hh : H b with
              | some u =>
                unfold newB at e
                rw [if_neg hb, hh] at e
                cases e
              | none =>
                rw [newB_at hh hb] at e ⊢
                exact kp b o hb (ne_of_none e nD) e
          have hd4 : DpAll K (newB H da H4) c1 es := dpAll_same mono4 _ _ hc1
          have hd5 : DpAll K (newB H da H4) c2 rd1 := dpAll_same mono4 _ _ hc2
          have hD4 : (newB H da H4) D = some (.lst c1) := by
            rw [newB_at nDH ne.symm]
            exact k2
          have hc1l : c1.length ≤ 1000000 ∧ c2.length ≤ 1000000 := by
            rw [List.length_append] at lcs
            omega
          refine ⟨_, rfl, .ref a, .ty "tuple", .type "list", .type "tuple", _, rfl, .ty _, dp_ty (d := .list es) (.lst (Same.seq sm4 (sv.seq g1)) (dpAll_same (sv.trans sm4) _ _ g2)), kit1 (.list es) K, _, rfl, ?_⟩
          refine iteF ?_
          refine ⟨_, rfl, .inl ⟨rfl, _, SqL.of k1⟩, _, rfl, da, _, _, rfl, rfl, k1, Nat.lt_of_le_of_lt (by simpa using hc1l.2) (by decide), ?_⟩
          refine ⟨_, .ref D :: c2, _, _, rfl, same_fresh nda0 sm4, by rw [upd_ne rda.symm]; exact hr4, hP1, ?_, ?_⟩
          · rw [upd_same]
            simp
          · have up : Same (newB H da H4) (newB H da (upd H4 da (.lst (c2.reverse ++ [.ref D])))) := newB_mono fun b o hb e => by
              rw [upd_ne hb]
              exact e
            exact .cons (.lst (SqL.of (up _ _ hD4)) (dpAll_same up _ _ hd4)) (dpAll_same up _ _ hd5)
      · obtain ⟨c1, c2, rfl, hc1, hc2⟩ := DpAll.split hcs3
        have hxl : xs.length = c1.length := (DpAll.length g2).trans (DpAll.length hc1).symm
        refine iteT (.inr ?_)
        refine ⟨_, rfl, a, rfl, ⟨_, same_sqt (sv.trans sm3) g1⟩, fun D nD => lc_tup (K := K) (a := a) (xs := xs) (fun j H4 => H4 da = some (.lst (c2.reverse ++ (c1.drop j).reverse)) ∧ H4 D = some (.lst (c1.take j)) ∧ ∀ b o, b ≠ da → b ≠ D → G b = some o → H4 b = some o) ?_ ?_ ?_ ?_⟩
        · have ne : da ≠ D := ne_of_none hda3 nD
          refine ⟨?_, upd_same, fun b o _ hb e => by rw [upd_ne hb]; exact e⟩
          rw [upd_ne ne, hda3]
          simp
        · rintro j H4 hj ⟨_, _, kp⟩
          have nDH : H D = none := sm3.free nD
          exact same_sqt (fun b o e => kp b o (ne_of_none e nda0) (ne_of_none e nDH) (sm3 b o e)) (same_sqt sv g1)
        · rintro j y H4 hy ⟨k1, k2, kp⟩
          have ne : da ≠ D := ne_of_none hda3 nD
          have hjl : j < c1.length := by
            have := (List.getElem?_eq_some_iff.mp hy).1
            omega
          have hcj : c1[j]? = some c1[j] := List.getElem?_eq_getElem hjl
          rw [rev_drop hcj, ← List.append_assoc] at k1
          refine ⟨rfl, .ref da, rfl, .inl ⟨rfl, _, SqL.of k1⟩, da, _, c1[j], rfl, rfl, k1, by simp, ?_⟩
          rw [List.dropLast_concat]
          refine ⟨c1.take j, by rw [upd_ne ne.symm]; exact k2, ?_, ?_, ?_, fun b o h1 h2 e => ?_⟩
          · refine Nat.lt_of_le_of_lt (show (c1.take j).length ≤ 1000000 from ?_) (by decide)
            rw [List.length_append] at lcs
            have := List.length_take_le j c1
            omega
          · rw [upd_ne ne, upd_same]
          · rw [upd_same, List.take_add_one, hcj]
            rfl
          · rw [upd_ne h2, upd_ne h1]
            exact kp b o h1 h2 e
        · rintro H4 ⟨k1, k2, kp⟩
          have ne : da ≠ D := ne_of_none hda3 nD
          have nDH : H D = none := sm3.free nD
          have sm4 : Same H H4 := fun b o e => kp b o (ne_of_none e nda0) (ne_of_none e nDH) (sm3 b o e)
          have rD : r ≠ D := ne_of_none hrs3 nD
          have hr4 : H4 r = some (.lst rs) := kp r _ rda.symm rD hrs3
          rw [hxl] at k1 k2
          rw [List.drop_length, List.reverse_nil, List.append_nil] at k1
          rw [List.take_length] at k2
          have mono4 : Same (newB H da G) (newB H da H4) := fun b o e => by
            by_cases hb : b = da
            · unfold newB at e
              rw [if_pos hb] at e
              cases e
            · cases hh : H b with
              | some u =>
                unfold newB at e
                rw [if_neg hb, hh] at e
                cases e
              | none =>
                rw [newB_at hh hb] at e ⊢
                exact kp b o hb (ne_of_none e nD) e
          have hd4 : DpAll K (newB H da H4) c1 es := dpAll_same mono4 _ _ hc1
          have hd5 : DpAll K (newB H da H4) c2 rd1 := dpAll_same mono4 _ _ hc2
          have hD4 : (newB H da H4) D = some (.lst c1) := by
            rw [newB_at nDH ne.symm]
            exact k2
          have hc1l : c1.length ≤ 1000000 ∧ c2.length ≤ 1000000 := by
            rw [List.length_append] at lcs
            omega
          refine ⟨_, rfl, .ref a, .ty "tuple", .type "tuple", .type "tuple", _, rfl, .ty _, dp_ty (d := .tuple es) (.tup (same_sqt sm4 (same_sqt sv g1)) (dpAll_same (sv.trans sm4) _ _ g2)), kit1 (.tuple es) K, _, rfl, ?_⟩
          refine iteT ?_
          -- made = tuple(made)
          refine ⟨_, rfl, D, c1, rfl, .inl ⟨SqL.of k2, fun tq ntq => ?_⟩⟩
          have nq : H tq = none := sm4.free ntq
          have dq : da ≠ tq := ne_of_none k1 ntq
          have rq : r ≠ tq := ne_of_none hr4 ntq
          have k5 : (upd H4 tq (.tup c1)) da = some (.lst c2.reverse) := by
            rw [upd_ne dq]
            exact k1
          refine ⟨_, rfl, .inl ⟨rfl, _, SqL.of k5⟩, _, rfl, da, _, _, rfl, rfl, k5, Nat.lt_of_le_of_lt (by simpa using hc1l.2) (by decide), ?_⟩
          refine ⟨_, .ref tq :: c2, _, _, rfl, same_fresh nda0 (sm4.trans (same_upd ntq)), by rw [upd_ne rda.symm, upd_ne rq]; exact hr4, hP1, ?_, ?_⟩
          · rw [upd_same]
            simp
          · have up : Same (newB H da H4) (newB H da (upd (upd H4 tq (.tup c1)) da (.lst (c2.reverse ++ [.ref tq])))) := newB_mono fun b o hb e => by
              rw [upd_ne hb, upd_ne (ne_of_none e ntq)]
              exact e
            have at_ : (newB H da (upd (upd H4 tq (.tup c1)) da (.lst (c2.reverse ++ [.ref tq])))) tq = some (.tup c1) := by
              rw [newB_at nq dq.symm, upd_ne dq.symm, upd_same]
            exact .cons (.tup (SqT.of at_) (dpAll_same up _ _ hd4)) (dpAll_same up _ _ hd5)
    · rintro σ H2 ⟨S, cs, y2, y3, rfl, sm, hrs, hPi, hda, hcs⟩
      rw [List.drop_length] at hPi
      cases hPi
      cases hcs with
      | @cons c1 _ _ _ h1 h2 =>
        cases h2
        refine ⟨_, rfl, da, [c1], 0, c1, rfl, rfl, SqL.of hda, atI_nat (j := 0) rfl, ?_⟩
        exact q H2 c1 sm (dp_same newB_newp _ _ h1)
end
end TX
namespace TX
open PySem PySem.Spec PyProof.Rows L2
structure Nb (mg : Str → Option Value) : Prop where
  len : mg "len" = none
  abs : mg "abs" = none
  enum : mg "enumerate" = none
  int : mg "int" = none
/-- a bag of draws: two ints -/
def BagAt (H : Hp) (p : Addr) : Prop := ∃ x y : Int, H p = some (.lst [.int x, .int y])
def spBag (K : PySem.W.Frag) : Sp := fun vs H Q _ => ∃ (a : Addr) (ns : List Int) (at_ : Nat), vs = [.ref a, .int at_] ∧ SqL K H a (ns.map V.int) ∧ ns.length ≤ 63 ∧
  ∀ (H' : Hp) (p : Addr), Same H H' → H p = none → BagAt H' p → Q (.ref p) H'
def spTake : Sp := fun vs H Q _ => ∃ (p : Addr) (m : Int), vs = [.ref p, .int m] ∧ BagAt H p ∧ 0 < m ∧ m ≤ 1000000 ∧
  ∀ (x y d : Int), 0 ≤ d → d < m → Q (.int d) (upd H p (.lst [.int x, .int y]))
section
variable {P : Program} {w : World} {K : PySem.W.Frag} {mg : Str → Option Value} {base : Heap}
theorem scBag : FnScope ["_law_script", "_law_at", "_law_cell", "_law_mixed", "_law_place", "_law_each"] ["_law_script", "_law_at"] (defScope sBag) := ⟨rfl, rfl, rfl, by decide +kernel, rfl, by decide +kernel, by decide +kernel⟩
theorem ok_bag {f : Addr} {fd : FuncData} {k : Nat} (F : Fun K "_law_bag" "_law_bag" sBag f fd) (T : Nb mg) : FnOk P w K mg base CX0 (k + 1) f fd ["_law_script", "_law_at"] (spBag K) := by
  refine F.ok scBag (fun vs H Q E h => ?_) (fun cdv A outer s H vs Q E hr h => ?_)
  · obtain ⟨a, ns, i, rfl, _⟩ := h
    rfl
  · obtain ⟨a, ns, i, rfl, hS, hn, q⟩ := h
    refine ⟨_, pss_cons (ps_par (i := 2) (j := 3) rfl scBag.nd rfl rfl (by decide) rfl rfl
        (pa_cons (pe_ifExp (pt_cmpR op_lt (pv 1) (pe_callB call_len_seq (by rfl) T.len PySem.boot_len (pa_cons (pv 0) pa_nil)) (nomark _)) (pe_callB call_abs (by rfl) T.abs (by decide +kernel) (pa_cons (pe_ix ix_list (pv 0) (pv 1) (fun _ _ => rfl)) pa_nil)) pe_int)
          (pa_cons (pe_op op_add (pe_op op_mul pe_int (pv 1)) pe_int) pa_nil)) (by rfl))
      (pss_cons (ps_for PassesOwn.never rfl (pi_enum (by rfl) T.enum (pa_cons (pe_slice sl_list (pv 0) po_none (po_some pe_int)) pa_nil))
          (pg_tup rfl (pgs_cons (pg_name (i := 4) scBag.nd rfl (.inl rfl)) (pgs_cons (pg_name (i := 5) scBag.nd rfl (.inl rfl)) pgs_nil)))
        (pss_one (ps_set (i := 3) scBag.nd rfl (.inl rfl) (pe_op op_mod (pe_callTy call_int1 (by rfl) T.int (by decide +kernel)
          (pa_cons (pe_op op_add (pe_op op_add (pe_op op_mul (pv 3) pe_int) (pe_op op_mod (pe_callTy call_int1 (by rfl) T.int (by decide +kernel) (pa_cons (pv 5) pa_nil)) pe_int)) (pe_op op_mul pe_int (pv 4))) pa_nil)) pe_int))))
      (pss_one (ps_ret (pe_lst (pa_cons (pe_ifExp (pt_cmpR op_ge (pv 2) (pe_op op_pow pe_int pe_int) (nomark _)) (pv 2) pe_int) (pa_cons (pv 3) pa_nil)))))), ?_⟩
    refine ⟨_, rfl, _, rfl, a, _, rfl, .inl hS, _, _, rfl, rfl, _, rfl, ?_⟩
    have cut63 : ∀ x ∈ cutV (ns.map V.int) none (some 63), ∃ z, x = V.int z := by
      intro x hx
      unfold cutV at hx
      obtain ⟨z, _, e⟩ := List.mem_map.mp (List.mem_of_mem_drop (List.mem_of_mem_take hx))
      exact ⟨z, e.symm⟩
    generalize hC : cutV (ns.map V.int) none (some 63) = C at *
    refine ite2 (fun hlt => ?_) (fun hge => ?_)
    · have hlt' : i < ns.length := by
        have e := of_decide_eq_true hlt
        rw [List.length_map] at e
        omega
      refine ⟨_, rfl, _, rfl, a, _, _, .int ns[i], rfl, rfl, hS, atI_nat (by rw [List.getElem?_map, List.getElem?_eq_getElem hlt']; rfl), _, rfl, ?_⟩
      refine ⟨_, rfl, _, _, rfl, rfl, .inl ⟨by decide, by decide⟩, _, _, rfl, rfl, _, _, rfl, ?_⟩
      refine ⟨_, rfl, 63, rfl, a, _, rfl, hS, fun c nc => ?_⟩
      have nc0 : H c = none := nc
      refine ⟨c, C, rfl, SqL.of (by rw [upd_same, hC]), fun j m σ H3 => ∃ (y3 : Int) (y4 y5 : Option V), σ = [some (.ref a), some (.int i), some (.int (if ns[i] < 0 then -ns[i] else ns[i])), some (.int y3), y4, y5] ∧ j + m = C.length ∧ Same H H3 ∧ H3 c = some (.lst C),
        ⟨C.length, _, none, none, rfl, by omega, same_upd nc, by rw [upd_same, hC]⟩, fun j m σ H3 hW => ?_⟩
      obtain ⟨y3, y4, y5, rfl, ejm, sm, hc⟩ := hW
      by_cases hj : j < C.length
      · refine .inr ⟨⟨_, _, SqL.of hc, List.getElem?_eq_getElem hj⟩, fun σ' H' => ∃ (y3 : Int) (y4 y5 : Option V), σ' = [some (.ref a), some (.int i), some (.int (if ns[i] < 0 then -ns[i] else ns[i])), some (.int y3), y4, y5] ∧ Same H H' ∧ H' c = some (.lst C), fun σ' H' hN => ?_, fun x H' hy => ?_⟩
        · obtain ⟨z3, z4, z5, e, sm', hc'⟩ := hN
          exact ⟨m - 1, by omega, z3, z4, z5, e, by omega, sm', hc'⟩
        · obtain ⟨tp, x1, rfl, nT, rfl, f1⟩ := hy
          have g1 := f1 _ (SqL.of hc)
          obtain ⟨z, rfl⟩ := cut63 x1 (List.mem_of_getElem? g1)
          have hcT : (upd H3 tp (.tup [.int (j : Nat), .int z])) c = some (.lst C) := same_upd nT _ _ hc
          refine ⟨tp, _, rfl, SqT.of upd_same, rfl, _, _, rfl, _, _, rfl, rfl, ?_⟩
          refine ⟨_, rfl, _, _, rfl, rfl, .inr ⟨by decide, by decide⟩, _, rfl, .inl ⟨_, rfl, _, _, rfl, rfl, (by show (0 : Int) < 2147483629; decide), _, _, rfl, rfl, _, rfl, _, _, rfl, rfl, .inl ⟨by decide, by decide⟩, _, _, rfl, rfl, ?_⟩⟩
          refine .inl ⟨_, rfl, _, _, rfl, rfl, (by show (0 : Int) < 2147483647; decide), ?_⟩
          exact ⟨_, _, _, rfl, sm.trans (same_upd nT), hcT⟩
      · refine .inl ⟨⟨_, SqL.of hc, by omega⟩, ?_⟩
        refine ⟨_, rfl, _, _, rfl, rfl, ⟨by decide, by decide, by decide⟩, _, _, rfl, rfl, _, rfl, ?_⟩
        refine ite2 (fun _ => ?_) (fun _ => ?_)
        all_goals
          first
            | refine ⟨_, rfl, _, rfl, (by show 2 ≤ sizeLine; decide), fun p np => ?_⟩
            | refine ⟨_, rfl, (by show 2 ≤ sizeLine; decide), fun p np => ?_⟩
          exact q _ p (sm.trans (same_upd np)) (sm.free np) ⟨_, _, upd_same⟩
    · refine ⟨_, rfl, _, _, rfl, rfl, .inl ⟨by decide, by decide⟩, _, _, rfl, rfl, _, _, rfl, ?_⟩
      refine ⟨_, rfl, 63, rfl, a, _, rfl, hS, fun c nc => ?_⟩
      have nc0 : H c = none := nc
      refine ⟨c, C, rfl, SqL.of (by rw [upd_same, hC]), fun j m σ H3 => ∃ (y3 : Int) (y4 y5 : Option V), σ = [some (.ref a), some (.int i), some (.int 0), some (.int y3), y4, y5] ∧ j + m = C.length ∧ Same H H3 ∧ H3 c = some (.lst C),
        ⟨C.length, _, none, none, rfl, by omega, same_upd nc, by rw [upd_same, hC]⟩, fun j m σ H3 hW => ?_⟩
      obtain ⟨y3, y4, y5, rfl, ejm, sm, hc⟩ := hW
      by_cases hj : j < C.length
      · refine .inr ⟨⟨_, _, SqL.of hc, List.getElem?_eq_getElem hj⟩, fun σ' H' => ∃ (y3 : Int) (y4 y5 : Option V), σ' = [some (.ref a), some (.int i), some (.int 0), some (.int y3), y4, y5] ∧ Same H H' ∧ H' c = some (.lst C), fun σ' H' hN => ?_, fun x H' hy => ?_⟩
        · obtain ⟨z3, z4, z5, e, sm', hc'⟩ := hN
          exact ⟨m - 1, by omega, z3, z4, z5, e, by omega, sm', hc'⟩
        · obtain ⟨tp, x1, rfl, nT, rfl, f1⟩ := hy
          have g1 := f1 _ (SqL.of hc)
          obtain ⟨z, rfl⟩ := cut63 x1 (List.mem_of_getElem? g1)
          have hcT : (upd H3 tp (.tup [.int (j : Nat), .int z])) c = some (.lst C) := same_upd nT _ _ hc
          refine ⟨tp, _, rfl, SqT.of upd_same, rfl, _, _, rfl, _, _, rfl, rfl, ?_⟩
          refine ⟨_, rfl, _, _, rfl, rfl, .inr ⟨by decide, by decide⟩, _, rfl, .inl ⟨_, rfl, _, _, rfl, rfl, (by show (0 : Int) < 2147483629; decide), _, _, rfl, rfl, _, rfl, _, _, rfl, rfl, .inl ⟨by decide, by decide⟩, _, _, rfl, rfl, ?_⟩⟩
          refine .inl ⟨_, rfl, _, _, rfl, rfl, (by show (0 : Int) < 2147483647; decide), ?_⟩
          exact ⟨_, _, _, rfl, sm.trans (same_upd nT), hcT⟩
      · refine .inl ⟨⟨_, SqL.of hc, by omega⟩, ?_⟩
        refine ⟨_, rfl, _, _, rfl, rfl, ⟨by decide, by decide, by decide⟩, _, _, rfl, rfl, _, rfl, ?_⟩
        refine ite2 (fun _ => ?_) (fun _ => ?_)
        all_goals
          first
            | refine ⟨_, rfl, _, rfl, (by show 2 ≤ sizeLine; decide), fun p np => ?_⟩
            | refine ⟨_, rfl, (by show 2 ≤ sizeLine; decide), fun p np => ?_⟩
          exact q _ p (sm.trans (same_upd np)) (sm.free np) ⟨_, _, upd_same⟩
theorem scTake : FnScope ["_law_bag_here", "_law_many", "_law_digit"] ["_law_bag_here", "_law_many"] (defScope sTake) := ⟨rfl, rfl, rfl, by decide +kernel, rfl, by decide +kernel, by decide +kernel⟩
theorem ok_take {f : Addr} {fd : FuncData} {k : Nat} (F : Fun K "_law_take" "_law_take" sTake f fd) (T : Nb mg) : FnOk P w K mg base CX0 (k + 1) f fd ["_law_bag_here", "_law_many"] spTake := by
  refine F.ok scTake (fun vs H Q E h => ?_) (fun cdv A outer s H vs Q E hr h => ?_)
  · obtain ⟨p, m, rfl, _⟩ := h
    rfl
  · obtain ⟨p, m, rfl, ⟨x, y, hp⟩, hm, hm2, q⟩ := h
    refine ⟨_, pss_cons (ps_if (pt_cmpR op_gt (pe_ix ix_list (pv 0) pe_int (fun _ _ => rfl)) pe_int (nomark _))
        (pss_cons (ps_set (i := 2) scTake.nd rfl (.inl rfl) (pe_op op_mod (pe_callTy call_int1 (by rfl) T.int (by decide +kernel) (pa_cons (pe_ix ix_list (pv 0) pe_int (fun _ _ => rfl)) pa_nil)) (pv 1)))
        (pss_cons (ps_asg (pe_op op_fdiv (pe_ix ix_list (pv 0) pe_int (fun _ _ => rfl)) (pv 1)) (pg_sub (pv 0) pe_int set_list))
        (pss_one (ps_ret (pv 2))))) pss_nil)
      (pss_cons (ps_asg (pe_op op_mod (pe_callTy call_int1 (by rfl) T.int (by decide +kernel) (pa_cons (pe_op op_add (pe_op op_mul (pe_ix ix_list (pv 0) pe_int (fun _ _ => rfl)) pe_int) pe_int) pa_nil)) pe_int) (pg_sub (pv 0) pe_int set_list))
      (pss_one (ps_ret (pe_op op_mod (pe_op op_fdiv (pe_op op_mod (pe_callTy call_int1 (by rfl) T.int (by decide +kernel) (pa_cons (pe_op op_mul (pe_op op_fdiv (pe_ix ix_list (pv 0) pe_int (fun _ _ => rfl)) pe_int) pe_int) pa_nil)) pe_int) pe_int) (pv 1))))), ?_⟩
    have i0 : atI [V.int x, V.int y] 0 = some (.int x) := atI_nat (j := 0) rfl
    have i1 : atI [V.int x, V.int y] 1 = some (.int y) := atI_nat (j := 1) rfl
    refine ⟨_, rfl, p, _, 0, _, rfl, rfl, SqL.of hp, i0, _, _, rfl, rfl, _, rfl, ?_⟩
    refine ite2 (fun hx => ?_) (fun hx => ?_)
    · refine ⟨_, rfl, p, _, 0, _, rfl, rfl, SqL.of hp, i0, .inl ⟨_, rfl, _, rfl, _, _, rfl, rfl, hm, ?_⟩⟩
      refine ⟨_, rfl, p, _, 0, _, rfl, rfl, SqL.of hp, i0, _, rfl, _, _, rfl, rfl, ⟨hm, by omega⟩, ?_⟩
      refine ⟨_, rfl, p, _, 0, 0, rfl, rfl, hp, rfl, ?_⟩
      refine ⟨_, rfl, ?_⟩
      exact q _ _ _ (Int.emod_nonneg _ (by omega)) (Int.emod_lt_of_pos _ hm)
    · refine ⟨_, rfl, p, _, 1, _, rfl, rfl, SqL.of hp, i1, _, _, rfl, rfl, .inr ⟨by decide, by decide⟩, _, _, rfl, rfl, .inl ⟨_, rfl, _, _, rfl, rfl, (by show (0 : Int) < 2147483629; decide), ?_⟩⟩
      refine ⟨_, rfl, p, _, 1, 1, rfl, rfl, hp, rfl, ?_⟩
      refine ⟨_, rfl, p, _, 1, _, rfl, rfl, SqL.of upd_same, atI_nat (j := 1) rfl, _, _, rfl, rfl, ⟨by decide, by decide⟩, _, _, rfl, rfl, .inr ⟨by decide, by decide⟩, .inl ⟨_, rfl, _, _, rfl, rfl, (by show (0 : Int) < 2147483587; decide), ?_⟩⟩
      refine ⟨_, _, rfl, rfl, ⟨by decide, by decide⟩, _, rfl, _, _, rfl, rfl, hm, ?_⟩
      exact q _ _ _ (Int.emod_nonneg _ (by omega)) (Int.emod_lt_of_pos _ hm)
end
end TX
namespace TX
open PySem PySem.Spec PyProof.Rows L2
/-! ### values as data -/
def Lt (z : Str) : Prop := ∀ c ∈ z.cps.toList, 97 ≤ c ∧ c ≤ 122
mutual
def valD : PyData → Prop
  | .none => True
  | .str x => Lt x
  | .list xs => valAll xs
  | _ => False
def valAll : List PyData → Prop
  | [] => True
  | d :: ds => valD d ∧ valAll ds
end
mutual
def sz : PyData → Nat
  | .str x => x.length + 1
  | .list xs => szAll xs + 1
  | _ => 1
def szAll : List PyData → Nat
  | [] => 0
  | d :: ds => sz d + szAll ds
end
theorem szAll_append : ∀ (a b : List PyData), szAll (a ++ b) = szAll a + szAll b
  | [], b => by simp [szAll]
  | d :: a, b => by
    rw [List.cons_append, szAll, szAll, szAll_append a b]
    omega
theorem valAll_append : ∀ (a b : List PyData), valAll (a ++ b) ↔ valAll a ∧ valAll b
  | [], b => by simp [valAll]
  | d :: a, b => by
    rw [List.cons_append, valAll, valAll, valAll_append a b]
    exact ⟨fun ⟨x, y, z⟩ => ⟨⟨x, y⟩, z⟩, fun ⟨⟨x, y⟩, z⟩ => ⟨x, y, z⟩⟩
theorem depthAll_append : ∀ (a b : List PyData), PyData.depthAll (a ++ b) = max (PyData.depthAll a) (PyData.depthAll b)
  | [], b => by simp [PyData.depthAll]
  | d :: a, b => by
    rw [List.cons_append, PyData.depthAll, PyData.depthAll, depthAll_append a b]
    omega
theorem DpAll.get {K : PySem.W.Frag} {H : Hp} : ∀ {ds : List PyData} {vs : List V} {i : Nat} {v : V}, DpAll K H vs ds → vs[i]? = some v → ∃ d, ds[i]? = some d ∧ Dp K H v d
  | [], _, i, v, h, e => by
    cases h
    simp at e
  | d :: ds, _, 0, v, h, e => by
    cases h with
    | cons h1 h2 =>
      simp at e
      subst e
      exact ⟨d, rfl, h1⟩
  | d :: ds, _, i + 1, v, h, e => by
    cases h with
    | cons h1 h2 =>
      obtain ⟨d', e1, e2⟩ := DpAll.get (ds := ds) (i := i) h2 (by simpa using e)
      exact ⟨d', by simpa using e1, e2⟩
theorem val_get : ∀ {ds : List PyData} {i : Nat} {d : PyData}, valAll ds → ds[i]? = some d → valD d
  | [], i, d, h, e => by simp at e
  | x :: ds, 0, d, h, e => by
    simp at e
    subst e
    exact h.1
  | x :: ds, i + 1, d, h, e => val_get h.2 (by simpa using e)
theorem depth_get : ∀ {ds : List PyData} {i : Nat} {d : PyData}, ds[i]? = some d → d.depth ≤ PyData.depthAll ds
  | [], i, d, e => by simp at e
  | x :: ds, 0, d, e => by
    simp at e
    subst e
    simp only [PyData.depthAll]
    omega
  | x :: ds, i + 1, d, e => by
    have := depth_get (ds := ds) (i := i) (d := d) (by simpa using e)
    simp only [PyData.depthAll]
    omega
theorem sz_get : ∀ {ds : List PyData} {i : Nat} {d : PyData}, ds[i]? = some d → sz d ≤ szAll ds
  | [], i, d, e => by simp at e
  | x :: ds, 0, d, e => by
    simp at e
    subst e
    simp only [szAll]
    omega
  | x :: ds, i + 1, d, e => by
    have := sz_get (ds := ds) (i := i) (d := d) (by simpa using e)
    simp only [szAll]
    omega
theorem szAll_sum : ∀ ds : List PyData, ((ds.map fun d => ((sz d : Nat) : Int)).sum : Int) = ((szAll ds : Nat) : Int)
  | [] => rfl
  | d :: ds => by
    rw [List.map_cons, List.sum_cons, szAll_sum ds, szAll]
    omega
theorem szAll_len : ∀ ds : List PyData, ds.length ≤ szAll ds
  | [] => by simp
  | d :: ds => by
    have := szAll_len ds
    have h1 : 1 ≤ sz d := by cases d <;> simp [sz]
    rw [szAll, List.length_cons]
    omega
/-! ### isinstance against one built-in type -/
theorem kitL (d : PyData) (K : PySem.W.Frag) : PySem.W.kitOne K (.type (tyD d)) (.type "list") = some (tyD d == "list") := by
  cases d with
  | none => exact (kit_ty (a := "NoneType") (b := "list") (r := false) (by decide +kernel)).trans (by simp [tyD])
  | bool _ => exact (kit_ty (a := "bool") (b := "list") (r := false) (by decide +kernel)).trans (by simp [tyD])
  | int _ => exact (kit_ty (a := "int") (b := "list") (r := false) (by decide +kernel)).trans (by simp [tyD])
  | str _ => exact (kit_ty (a := "str") (b := "list") (r := false) (by decide +kernel)).trans (by simp [tyD])
  | list _ => exact (kit_ty (a := "list") (b := "list") (r := true) (by decide +kernel)).trans (by simp [tyD])
  | tuple _ => exact (kit_ty (a := "tuple") (b := "list") (r := false) (by decide +kernel)).trans (by simp [tyD])
  | dict _ => exact (kit_ty (a := "dict") (b := "list") (r := false) (by decide +kernel)).trans (by simp [tyD])
theorem kitS (d : PyData) (K : PySem.W.Frag) : PySem.W.kitOne K (.type (tyD d)) (.type "str") = some (tyD d == "str") := by
  cases d with
  | none => exact (kit_ty (a := "NoneType") (b := "str") (r := false) (by decide +kernel)).trans (by simp [tyD])
  | bool _ => exact (kit_ty (a := "bool") (b := "str") (r := false) (by decide +kernel)).trans (by simp [tyD])
  | int _ => exact (kit_ty (a := "int") (b := "str") (r := false) (by decide +kernel)).trans (by simp [tyD])
  | str _ => exact (kit_ty (a := "str") (b := "str") (r := true) (by decide +kernel)).trans (by simp [tyD])
  | list _ => exact (kit_ty (a := "list") (b := "str") (r := false) (by decide +kernel)).trans (by simp [tyD])
  | tuple _ => exact (kit_ty (a := "tuple") (b := "str") (r := false) (by decide +kernel)).trans (by simp [tyD])
  | dict _ => exact (kit_ty (a := "dict") (b := "str") (r := false) (by decide +kernel)).trans (by simp [tyD])
structure Nv (mg : Str → Option Value) : Prop where
  range : mg "range" = none
  sum : mg "sum" = none
  min : mg "min" = none
/-! ### _law_text -/
def spText : Sp := fun vs H Q _ => ∃ (p : Addr) (m : Int), vs = [.ref p, .int m] ∧ BagAt H p ∧ 0 ≤ m ∧ m ≤ 1000 ∧
  ∀ (H' : Hp) (z : Str), (∀ b o, b ≠ p → H b = some o → H' b = some o) → BagAt H' p → Lt z → (z.length : Int) ≤ m → Q (.str z) H'
theorem lt_append {a b : Str} (h : Lt a) (g : Lt b) : Lt (a ++ b) := by
  intro c hc
  have e : (a ++ b).cps.toList = a.cps.toList ++ b.cps.toList := by
    show (a.cps ++ b.cps).toList = _
    simp
  rw [e] at hc
  rcases List.mem_append.mp hc with x | x
  · exact h c x
  · exact g c x
section
variable {P : Program} {w : World} {K : PySem.W.Frag} {mg : Str → Option Value} {base : Heap}
theorem scText : FnScope ["_law_bag_here", "_law_most", "_law_word", "_law_signs", "_law_turn"] ["_law_bag_here", "_law_most"] (defScope sText) := ⟨rfl, rfl, rfl, by decide +kernel, rfl, by decide +kernel, by decide +kernel⟩
theorem ok_text {f fT : Addr} {fd fdT : FuncData} (F : Fun K "_law_text" "_law_text" sText f fd) (B : Nb mg) (N : Nv mg) (FT : Fun K "_law_take" "_law_take" sTake fT fdT) (bT : Binds K fdT ["_law_bag_here", "_law_many"] []) (gT : mg "_law_take" = some (.ref fT)) :
    FnOk P w K mg base CX0 2 f fd ["_law_bag_here", "_law_most"] spText := by
  have GT : FnOk P w K mg base CX0 1 fT fdT ["_law_bag_here", "_law_many"] spTake := ok_take FT B
  refine F.ok scText (fun vs H Q E h => ?_) (fun cdv A outer s H vs Q E hr h => ?_)
  · obtain ⟨p, m, rfl, _⟩ := h
    rfl
  · obtain ⟨p, m, rfl, bag, hm0, hm1, q⟩ := h
    refine ⟨_, pss_cons (ps_par (i := 2) (j := 3) rfl scText.nd rfl rfl (by decide) rfl rfl (pa_cons pe_str (pa_cons (pe_ix ix_list (pe_lst (pa_cons pe_str (pa_cons pe_str (pa_cons pe_str pa_nil)))) (pe_call GT hr (by rfl) gT FT.kp bT .nil pass0 (pa_cons (pv 0) (pa_cons pe_int pa_nil))) (fun _ _ => rfl)) pa_nil)) (by rfl))
      (pss_cons (ps_for PassesOwn.never rfl (pi_range1 (by rfl) N.range (pa_cons (pe_call GT hr (by rfl) gT FT.kp bT .nil pass0 (pa_cons (pv 0) (pa_cons (pe_op op_add (pv 1) pe_int) pa_nil))) pa_nil)) (pg_name (i := 4) scText.nd rfl (.inl rfl))
        (pss_one (ps_set (i := 2) scText.nd rfl (.inl rfl) (pe_op op_add_str (pv 2) (pe_ix ix_str (pv 3) (pe_call GT hr (by rfl) gT FT.kp bT .nil pass0 (pa_cons (pv 0) (pa_cons (pe_callB call_len_str (by rfl) B.len PySem.boot_len (pa_cons (pv 3) pa_nil)) pa_nil))) (fun _ _ => rfl))))))
      (pss_one (ps_ret (pv 2)))), ?_⟩
    refine ⟨(by show 3 ≤ sizeLine; decide), fun l nl => ?_⟩
    have bag1 : BagAt (upd H l (.lst [.str "abcdefghijklmnopqrstuvwxyz", .str "ab", .str "za"])) p := let ⟨x, y, e⟩ := bag; ⟨x, y, same_upd nl _ _ e⟩
    have lp : l ≠ p := fun e => by
      obtain ⟨x, y, e2⟩ := bag
      rw [e, e2] at nl
      cases nl
    refine ⟨_, rfl, p, 3, rfl, bag1, by decide, by decide, fun x1 y1 k hk0 hk1 => ?_⟩
    have hl : (upd (upd H l (.lst [.str "abcdefghijklmnopqrstuvwxyz", .str "ab", .str "za"])) p (.lst [.int x1, .int y1])) l = some (.lst [.str "abcdefghijklmnopqrstuvwxyz", .str "ab", .str "za"]) := by
      rw [upd_ne lp, upd_same]
    have kp : ∀ b o, b ≠ p → H b = some o → (upd (upd H l (.lst [.str "abcdefghijklmnopqrstuvwxyz", .str "ab", .str "za"])) p (.lst [.int x1, .int y1])) b = some o := fun b o hb e => by
      rw [upd_ne hb]
      exact same_upd nl _ _ e
    have bag2 : BagAt (upd (upd H l (.lst [.str "abcdefghijklmnopqrstuvwxyz", .str "ab", .str "za"])) p (.lst [.int x1, .int y1])) p := ⟨_, _, upd_same⟩
    generalize upd (upd H l (.lst [.str "abcdefghijklmnopqrstuvwxyz", .str "ab", .str "za"])) p (.lst [.int x1, .int y1]) = G at hl kp bag2
    obtain ⟨sg, hsg, hat⟩ : ∃ sg : Str, (0 < sg.length ∧ sg.length ≤ 26 ∧ Lt sg) ∧ atI ([.str "abcdefghijklmnopqrstuvwxyz", .str "ab", .str "za"] : List V) k = some (.str sg) := by
      obtain rfl | rfl | rfl : k = 0 ∨ k = 1 ∨ k = 2 := by omega
      · exact ⟨"abcdefghijklmnopqrstuvwxyz", ⟨by decide +kernel, by decide +kernel, by unfold Lt; decide +kernel⟩, atI_nat (j := 0) rfl⟩
      · exact ⟨"ab", ⟨by decide +kernel, by decide +kernel, by unfold Lt; decide +kernel⟩, atI_nat (j := 1) rfl⟩
      · exact ⟨"za", ⟨by decide +kernel, by decide +kernel, by unfold Lt; decide +kernel⟩, atI_nat (j := 2) rfl⟩
    refine ⟨l, _, k, _, rfl, rfl, SqL.of hl, hat, _, _, rfl, ?_⟩
    refine ⟨_, rfl, _, rfl, _, _, rfl, rfl, p, m + 1, rfl, bag2, by omega, by omega, fun x2 y2 t ht0 ht1 => ?_⟩
    refine ⟨t, rfl, by omega, by omega, for_range (lo := 0) (n := t.toNat) (fun i σ H2 => ∃ (z : Str) (y4 : Option V), σ = [some (.ref p), some (.int m), some (.str z), some (.str sg), y4] ∧ (∀ b o, b ≠ p → H b = some o → H2 b = some o) ∧ BagAt H2 p ∧ Lt z ∧ z.length = i) ?_ ?_ ?_⟩
    · refine ⟨"", none, rfl, fun b o hb e => by rw [upd_ne hb]; exact kp b o hb e, ⟨_, _, upd_same⟩, by unfold Lt; decide +kernel, by decide +kernel⟩
    · rintro i σ H2 hi ⟨z, y4, rfl, k2, b2, lz, ez⟩
      have hsl : sg.length ≤ sizeLine := Nat.le_trans hsg.2.1 (by decide)
      refine ⟨_, rfl, _, rfl, _, rfl, _, rfl, sg, rfl, hsl, p, (sg.length : Int), rfl, b2, by omega, by omega, fun x3 y3 c hc0 hc1 => ?_⟩
      obtain ⟨j, rfl⟩ : ∃ j : Nat, c = j := ⟨c.toNat, by omega⟩
      have hjl : j < sg.cps.toList.length := by
        have e : sg.cps.toList.length = sg.length := by simp [Str.length]
        omega
      have hcj : sg.cps.toList[j]? = some sg.cps.toList[j] := List.getElem?_eq_getElem hjl
      have lone : Lt ⟨#[sg.cps.toList[j]]⟩ := by
        intro c hc
        have e : c = sg.cps.toList[j] := by simpa using hc
        rw [e]
        exact hsg.2.2 _ (List.getElem_mem hjl)
      have one : (⟨#[sg.cps.toList[j]]⟩ : Str).length = 1 := rfl
      refine ⟨sg, _, _, rfl, rfl, hsl, atI_nat hcj, _, _, rfl, rfl, ?_, ?_⟩
      · rw [one, ez]
        exact Nat.le_trans (show i + 1 ≤ 2000 by omega) (by decide)
      · refine ⟨_, _, rfl, fun b o hb e => by rw [upd_ne hb]; exact k2 b o hb e, ⟨_, _, upd_same⟩, lt_append lz lone, ?_⟩
        rw [strLen_append, one, ez]
    · rintro σ H2 ⟨z, y4, rfl, k2, b2, lz, ez⟩
      exact ⟨_, rfl, q H2 z k2 b2 lz (by omega)⟩
/-! ### _law_size: one level more for each depth -/
def spSize (K : PySem.W.Frag) (N : Nat) : Sp := fun vs H Q _ => ∃ (v : V) (d : PyData) (Hv : Hp), vs = [v] ∧ Same Hv H ∧ Dp K Hv v d ∧ valD d ∧ d.depth ≤ N ∧ sz d ≤ 1000000 ∧ ∀ H', Same H H' → Q (.int (sz d : Nat)) H'
theorem scSize : FnScope ["_law_value_here", "_law_one"] ["_law_value_here"] (defScope sSize) := ⟨rfl, rfl, rfl, by decide +kernel, rfl, by decide +kernel, by decide +kernel⟩
/-- what is no list: one, or one more than the letters -/
theorem val_leaf {K : PySem.W.Frag} {H : Hp} {v : V} {d : PyData} (h : Dp K H v d) (hv : valD d) (e : (tyD d == "list") = false) : (v = .non ∧ d = .none) ∨ ∃ x, v = .str x ∧ d = .str x := by
  cases h with
  | non => exact .inl ⟨rfl, rfl⟩
  | str x => exact .inr ⟨x, rfl, rfl⟩
  | bl _ => exact hv.elim
  | int _ => exact hv.elim
  | lst _ _ => simp [tyD] at e
  | tup _ _ => exact hv.elim
theorem ok_size {f : Addr} {fd : FuncData} (F : Fun K "_law_size" "_law_size" sSize f fd) (T : Nm mg) (B : Nb mg) (Y : Nv mg) (b : Binds K fd ["_law_value_here"] []) (g : mg "_law_size" = some (.ref f)) : ∀ N : Nat, FnOk P w K mg base CX0 (N + 1) f fd ["_law_value_here"] (spSize K N)
  | 0 => by
    refine F.ok scSize (fun vs H Q E h => ?_) (fun cdv A outer s H vs Q E hr h => ?_)
    · obtain ⟨v, d, Hv, rfl, _⟩ := h
      rfl
    · obtain ⟨v, d, Hv, rfl, sv, hd, hv, hz, hn, q⟩ := h
      refine ⟨_, pss_cons (ps_if (pt_val (pe_callB call_isi (by rfl) T.isi (by decide +kernel) (pa_cons (pv 0) (pa_cons (pe_bltn (v := .ty "list") (by rfl) T.lst (by decide +kernel) rfl) pa_nil)))) pss_never pss_nil)
        (pss_one (ps_ret (pe_ifExp (pt_cmp (pc_isN (pv 0))) pe_int (pe_op op_add pe_int (pe_callB call_len_str (by rfl) B.len PySem.boot_len (pa_cons (pv 0) pa_nil)))))), ?_⟩
      refine ⟨_, rfl, v, .ty "list", .type (tyD d), .type "list", _, rfl, .ty _, dp_ty (dp_same sv _ _ hd), kitL d K, _, rfl, ?_⟩
      have e : (tyD d == "list") = false := by
        cases hd with
        | lst _ _ => simp [PyData.depth] at hz
        | _ => simp [tyD]
      rw [e]
      refine iteF ?_
      rcases val_leaf hd hv e with ⟨rfl, rfl⟩ | ⟨x, rfl, rfl⟩
      · exact ⟨_, rfl, _, rfl, iteT (q H (Same.refl _))⟩
      · refine ⟨_, rfl, _, rfl, iteF ⟨_, rfl, x, rfl, Nat.le_trans (show x.length ≤ 1000000 by simp only [sz] at hn; omega) (by decide), _, _, rfl, rfl, ?_⟩⟩
        have e2 : (1 : Int) + ((x.length : Nat) : Int) = ((sz (.str x) : Nat) : Int) := by simp only [sz]; omega
        show Q (.int (1 + ((x.length : Nat) : Int))) H
        rw [e2]
        exact q H (Same.refl _)
  | N + 1 => by
    have G := ok_size F T B Y b g N
    refine F.ok scSize (fun vs H Q E h => ?_) (fun cdv A outer s H vs Q E hr h => ?_)
    · obtain ⟨v, d, Hv, rfl, _⟩ := h
      rfl
    · obtain ⟨v, d, Hv, rfl, sv, hd, hv, hz, hn, q⟩ := h
      refine ⟨_, pss_cons (ps_if (pt_val (pe_callB call_isi (by rfl) T.isi (by decide +kernel) (pa_cons (pv 0) (pa_cons (pe_bltn (v := .ty "list") (by rfl) T.lst (by decide +kernel) rfl) pa_nil))))
          (pss_one (ps_ret (pe_op op_add pe_int (pe_callB (cr_sum rfl) (by rfl) Y.sum (by decide +kernel) (pa_cons (pe_lc (own := [("_law_one", 1)]) (g := gName 1) (tt := tYes) (te := tCall (spSize K N) [] E0 (tCons (tVar 1) tNil)) rfl scSize.nd (pi_list (pv 0))
            (blkOk_by (own := [("_law_one", 1)]) (N := ["_law_value_here", "_law_one"]) (sc := defScope sSize) (by decide +kernel)) (fun _ _ _ _ _ => pg_name (i := 1) scSize.nd rfl (Or.inl rfl)) (fun _ _ _ _ _ => pts_nil)
            (fun _ _ _ _ _ => pe_call G hr (by rfl) g F.kp b .nil pass0 (pa_cons (pv 1) pa_nil))) pa_nil))))) pss_nil)
        (pss_one (ps_ret (pe_ifExp (pt_cmp (pc_isN (pv 0))) pe_int (pe_op op_add pe_int (pe_callB call_len_str (by rfl) B.len PySem.boot_len (pa_cons (pv 0) pa_nil)))))), ?_⟩
      refine ⟨_, rfl, v, .ty "list", .type (tyD d), .type "list", _, rfl, .ty _, dp_ty (dp_same sv _ _ hd), kitL d K, _, rfl, ?_⟩
      by_cases e : (tyD d == "list") = true
      · rw [e]
        refine iteT ?_
        cases hd with
        | @lst a xs es h1 h2 =>
          have hl : xs.length = es.length := DpAll.length h2
          have hvs : valAll es := hv
          have hz2 : PyData.depthAll es ≤ N := by
            simp only [PyData.depth] at hz
            omega
          have hn2 : szAll es + 1 ≤ 1000000 := by simpa only [sz] using hn
          refine ⟨_, rfl, a, rfl, ⟨_, sv.seq h1⟩, fun D nD => lc_list (K := K) (a := a) (xs := xs) (fun i H' => H' D = some (.lst ((es.take i).map fun e => V.int ((sz e : Nat) : Int))) ∧ Same H H') ⟨upd_same, same_upd nD⟩ (fun i H' hi ⟨_, sm⟩ => sm.seq (sv.seq h1)) ?_ ?_⟩
          · rintro i x H' hx ⟨k1, k2⟩
            obtain ⟨ei, hei, dei⟩ := DpAll.get h2 hx
            refine ⟨rfl, x, rfl, x, ei, Hv, rfl, sv.trans k2, dei, val_get hvs hei, Nat.le_trans (depth_get hei) hz2, Nat.le_trans (sz_get hei) (by omega), fun H'' s2 => ?_⟩
            have il := (List.getElem?_eq_some_iff.mp hei).1
            have el := szAll_len es
            refine ⟨_, s2 _ _ k1, Nat.lt_of_le_of_lt (show ((es.take i).map fun e => V.int ((sz e : Nat) : Int)).length ≤ 1000000 by rw [List.length_map, List.length_take]; omega) (by decide), ?_, same_fresh nD (k2.trans s2)⟩
            rw [upd_same, List.take_add_one, hei, List.map_append]
            rfl
          · rintro H' ⟨k1, k2⟩
            rw [hl, List.take_length] at k1
            have k1' : H' D = some (.lst ((es.map fun e => ((sz e : Nat) : Int)).map V.int)) := by
              rw [k1, List.map_map]
              rfl
            refine ⟨D, _, rfl, SqL.of k1', _, _, rfl, rfl, ?_⟩
            have e2 : (1 : Int) + (es.map fun e => ((sz e : Nat) : Int)).sum = ((sz (.list es) : Nat) : Int) := by
              rw [szAll_sum, sz]
              omega
            show Q (.int (1 + (es.map fun e => ((sz e : Nat) : Int)).sum)) H'
            rw [e2]
            exact q H' k2
        | _ => simp [tyD] at e
      · have e' : (tyD d == "list") = false := by simpa using e
        rw [e']
        refine iteF ?_
        rcases val_leaf hd hv e' with ⟨rfl, rfl⟩ | ⟨x, rfl, rfl⟩
        · exact ⟨_, rfl, _, rfl, iteT (q H (Same.refl _))⟩
        · refine ⟨_, rfl, _, rfl, iteF ⟨_, rfl, x, rfl, Nat.le_trans (show x.length ≤ 1000000 by simp only [sz] at hn; omega) (by decide), _, _, rfl, rfl, ?_⟩⟩
          have e2 : (1 : Int) + ((x.length : Nat) : Int) = ((sz (.str x) : Nat) : Int) := by simp only [sz]; omega
          show Q (.int (1 + ((x.length : Nat) : Int))) H
          rw [e2]
          exact q H (Same.refl _)
end
end TX
namespace TX
open PySem PySem.Spec PyProof.Rows L2
theorem eqT {n m : Int} {A B : Prop} (h : n = m) (a : A) : if decide (V.int n = V.int m) = true then A else B := by
  rw [h, decide_eq_true rfl]
  exact iteT a
theorem eqF {n m : Int} {A B : Prop} (h : n ≠ m) (b : B) : if decide (V.int n = V.int m) = true then A else B := by
  rw [decide_eq_false fun e => h (V.int.inj e)]
  exact iteF b
theorem ltT {n m : Int} {A B : Prop} (h : n < m) (a : A) : if decide (n < m) = true then A else B := by
  rw [decide_eq_true h]
  exact iteT a
theorem ltF {n m : Int} {A B : Prop} (h : ¬ n < m) (b : B) : if decide (n < m) = true then A else B := by
  rw [decide_eq_false h]
  exact iteF b
/-! ### _law_value -/
def spValue (K : PySem.W.Frag) (N : Nat) : Sp := fun vs H Q _ => ∃ (p : Addr) (deep room : Nat), vs = [.ref p, .int deep, .int room] ∧ BagAt H p ∧ deep ≤ N ∧ 1 ≤ room ∧ room ≤ 1000 ∧
  ∀ (H' : Hp) (v : V) (d : PyData), (∀ b o, b ≠ p → H b = some o → H' b = some o) → BagAt H' p → Dp K (newp H H') v d → valD d → d.depth ≤ deep → sz d ≤ room → Q v H'
theorem szAll_snoc (ds : List PyData) (d : PyData) : szAll (ds ++ [d]) = szAll ds + sz d := by
  rw [szAll_append]
  simp [szAll]
section
variable {P : Program} {w : World} {K : PySem.W.Frag} {mg : Str → Option Value} {base : Heap}
theorem scValue : FnScope ["_law_bag_here", "_law_deep", "_law_room", "_law_pick", "_law_made", "_law_left", "_law_turn"] ["_law_bag_here", "_law_deep", "_law_room"] (defScope sValue) := ⟨rfl, rfl, rfl, by decide +kernel, rfl, by decide +kernel, by decide +kernel⟩
/-- what value calls -/
structure Vc (P : Program) (w : World) (K : PySem.W.Frag) (mg : Str → Option Value) (base : Heap) (fT fX fS : Addr) (dT dX dS : FuncData) : Prop where
  GT : FnOk P w K mg base CX0 1 fT dT ["_law_bag_here", "_law_many"] spTake
  bT : Binds K dT ["_law_bag_here", "_law_many"] []
  gT : mg "_law_take" = some (.ref fT)
  kT : PySem.W.keepIn K (.ref fT) = true
  GX : FnOk P w K mg base CX0 2 fX dX ["_law_bag_here", "_law_most"] spText
  bX : Binds K dX ["_law_bag_here", "_law_most"] []
  gX : mg "_law_text" = some (.ref fX)
  kX : PySem.W.keepIn K (.ref fX) = true
  GS : ∀ N : Nat, FnOk P w K mg base CX0 (N + 1) fS dS ["_law_value_here"] (spSize K N)
  bS : Binds K dS ["_law_value_here"] []
  gS : mg "_law_size" = some (.ref fS)
  kS : PySem.W.keepIn K (.ref fS) = true
theorem pe_ex {X : Cx} {i : Type} {e : Expr} {t : i → TE} (h : ∀ j, PE X e (t j)) : PE X e (fun σ H Q => ∃ j, t j σ H Q) := ⟨fun pins s σ H Q I ⟨j, q⟩ => (h j).run pins s σ H Q I q⟩
theorem ok_value {f fT fX fS : Addr} {fd dT dX dS : FuncData} (F : Fun K "_law_value" "_law_value" sValue f fd) (b : Binds K fd ["_law_bag_here", "_law_deep", "_law_room"] []) (g : mg "_law_value" = some (.ref f)) (Y : Nv mg) (C : Vc P w K mg base fT fX fS dT dX dS) (N : Nat)
    (G : ∀ j : { M : Nat // M + 1 = N }, FnOk P w K mg base CX0 (j.1 + 3) f fd ["_law_bag_here", "_law_deep", "_law_room"] (spValue K j.1)) : FnOk P w K mg base CX0 (N + 3) f fd ["_law_bag_here", "_law_deep", "_law_room"] (spValue K N) := by
  refine F.ok scValue (fun vs H Q E h => ?_) (fun cdv A outer s H vs Q E hr h => ?_)
  · obtain ⟨p, deep, room, rfl, _⟩ := h
    rfl
  · obtain ⟨p, deep, room, rfl, bag, hdN, hr1, hr2, q⟩ := h
    have hrT : Room 1 _ := hr.mono (by omega)
    have hrX : Room 2 _ := hr.mono (by omega)
    have hrS : Room (N + 1) _ := hr.mono (by omega)
    have hrR : ∀ j : { M : Nat // M + 1 = N }, Room (j.1 + 3) _ := fun j => hr.mono (by have := j.2; omega)
    refine ⟨_, pss_cons (ps_set (i := 3) scValue.nd rfl (.inl rfl) (pe_call C.GT hrT (by rfl) C.gT C.kT C.bT .nil pass0 (pa_cons (pv 0) (pa_cons pe_int pa_nil))))
      (pss_cons (ps_if (PW.pt (pw_or (pt_cmpR op_eq (pv 3) pe_int (nomark _)) (pw_or1 (pt_cmpR op_eq (pv 2) pe_int (nomark _)))))
        (pss_one (ps_ret (pe_ix ix_list (pe_lst (pa_cons pe_non (pa_cons pe_str (pa_cons (pe_lst pa_nil) pa_nil)))) (pe_call C.GT hrT (by rfl) C.gT C.kT C.bT .nil pass0 (pa_cons (pv 0) (pa_cons (pe_ifExp (pt_cmpR op_gt (pv 1) pe_int (nomark _)) pe_int pe_int) pa_nil))) (fun _ _ => rfl)))) pss_nil)
      (pss_cons (ps_if (PW.pt (pw_or (pt_cmpR op_eq (pv 3) pe_int (nomark _)) (pw_or1 (pt_cmpR op_eq (pv 1) pe_int (nomark _)))))
        (pss_one (ps_ret (pe_call C.GX hrX (by rfl) C.gX C.kX C.bX .nil pass0 (pa_cons (pv 0) (pa_cons (pe_callB (call_min2 rfl) (by rfl) Y.min (by decide +kernel) (pa_cons pe_int (pa_cons (pe_op op_sub (pv 2) pe_int) pa_nil))) pa_nil))))) pss_nil)
      (pss_cons (ps_par (i := 4) (j := 5) rfl scValue.nd rfl rfl (by decide) rfl rfl (pa_cons (pe_lst pa_nil) (pa_cons (pe_op op_sub (pv 2) pe_int) pa_nil)) (by rfl))
      (pss_cons (ps_for PassesOwn.never rfl (pi_range1 (by rfl) Y.range (pa_cons (pe_call C.GT hrT (by rfl) C.gT C.kT C.bT .nil pass0 (pa_cons (pv 0) (pa_cons pe_int pa_nil))) pa_nil)) (pg_name (i := 6) scValue.nd rfl (.inl rfl))
        (pss_one (ps_if (pt_cmpR op_gt (pv 5) pe_int (nomark _))
          (pss_cons (ps_expr (pe_bm PySem.F.plainAttrs_list PySem.F.slot_list_append PySem.F.type_list_append mt_append (pv 4) (pa_cons (pe_ex fun j => pe_call (G j) (hrR j) (by rfl) g F.kp b .nil pass0 (pa_cons (pv 0) (pa_cons (pe_op op_sub (pv 1) pe_int) (pa_cons (pv 5) pa_nil)))) pa_nil)))
          (pss_one (ps_set (i := 5) scValue.nd rfl (.inl rfl) (pe_op op_sub (pv 5) (pe_call (C.GS N) hrS (by rfl) C.gS C.kS C.bS .nil pass0 (pa_cons (pe_ix ix_list (pv 4) (pe_un un_neg pe_int) (fun _ _ => rfl)) pa_nil)))))) pss_nil)))
      (pss_one (ps_ret (pv 4))))))), ?_⟩
    refine ⟨_, rfl, p, 5, rfl, bag, by decide, by decide, fun x1 y1 k hk0 hk1 => ?_⟩
    have kp : ∀ b o, b ≠ p → H b = some o → upd H p (.lst [.int x1, .int y1]) b = some o := fun b o hb e => by
      rw [upd_ne hb]
      exact e
    have bag1 : BagAt (upd H p (.lst [.int x1, .int y1])) p := ⟨_, _, upd_same⟩
    have keepAll : ∀ b, H b ≠ none → upd H p (.lst [.int x1, .int y1]) b ≠ none := fun b hb => by
      by_cases e : b = p
      · rw [e, upd_same]
        exact fun z => nomatch z
      · rw [upd_ne e]
        exact hb
    have pH : H p ≠ none := by
      obtain ⟨x, y, e⟩ := bag
      rw [e]
      exact fun z => nomatch z
    generalize upd H p (.lst [.int x1, .int y1]) = G1 at kp bag1 keepAll
    have newOf : ∀ {b : Addr}, G1 b = none → H b = none := fun {b} e => Classical.byContradiction fun hb => keepAll b hb e
    -- the first return: one of three small things
    have small : (tRet (tOp (rIxL K) (tLst (tCons (tC .non) (tCons (tC (.str "")) (tCons (tLst tNil) tNil)))) (tCall spTake [] E0 (tCons (tVar 0) (tCons (tIf (tTest (tOp (rI0 fun i j => .bl (decide (j < i))) (tVar 1) (tC (.int 0)))) (tC (.int 3)) (tC (.int 2))) tNil))))) { nx := fun _ H' => Q .non H', rt := Q } [some (.ref p), some (.int deep), some (.int room), some (.int k), none, none, none] G1 := by
      refine ⟨Nat.zero_le _, fun l0 n0 => ⟨(by show 3 ≤ sizeLine; decide), fun l n => ?_⟩⟩
      have b2 : BagAt (upd (upd G1 l0 (.lst [])) l (.lst [.non, .str "", .ref l0])) p := let ⟨x, y, e⟩ := bag1; ⟨x, y, same_upd n _ _ (same_upd n0 _ _ e)⟩
      have p0 : p ≠ l0 := fun e => by
        obtain ⟨x, y, e2⟩ := bag1
        rw [← e, e2] at n0
        cases n0
      have p1 : p ≠ l := fun e => by
        obtain ⟨x, y, e2⟩ := bag1
        have e3 := same_upd n0 (o := .lst []) _ _ e2
        rw [e, n] at e3
        cases e3
      have l01 : l0 ≠ l := fun e => by
        rw [← e, upd_same] at n
        cases n
      refine ⟨_, rfl, _, rfl, _, _, rfl, rfl, _, rfl, ?_⟩
      by_cases hd0 : (0 : Int) < (deep : Int)
      · refine ltT hd0 ?_
        refine ⟨p, 3, rfl, b2, by decide, by decide, fun x2 y2 c hc0 hc1 => ?_⟩
        have hl : (upd (upd (upd G1 l0 (.lst [])) l (.lst [.non, .str "", .ref l0])) p (.lst [.int x2, .int y2])) l = some (.lst [.non, .str "", .ref l0]) := by
          rw [upd_ne p1.symm, upd_same]
        have hl0 : (upd (upd (upd G1 l0 (.lst [])) l (.lst [.non, .str "", .ref l0])) p (.lst [.int x2, .int y2])) l0 = some (.lst []) := by
          rw [upd_ne p0.symm, upd_ne l01, upd_same]
        have k2 : ∀ b o, b ≠ p → H b = some o → (upd (upd (upd G1 l0 (.lst [])) l (.lst [.non, .str "", .ref l0])) p (.lst [.int x2, .int y2])) b = some o := fun b o hb e => by
          rw [upd_ne hb]
          exact same_upd n _ _ (same_upd n0 _ _ (kp b o hb e))
        have b3 : BagAt (upd (upd (upd G1 l0 (.lst [])) l (.lst [.non, .str "", .ref l0])) p (.lst [.int x2, .int y2])) p := ⟨_, _, upd_same⟩
        obtain rfl | rfl | rfl : c = 0 ∨ c = 1 ∨ c = 2 := by omega
        · exact ⟨l, _, 0, _, rfl, rfl, SqL.of hl, atI_nat (j := 0) rfl, q _ _ .none k2 b3 .non trivial (by simp [PyData.depth]) (by simpa [sz] using hr1)⟩
        · exact ⟨l, _, 1, _, rfl, rfl, SqL.of hl, atI_nat (j := 1) rfl, q _ _ (.str "") k2 b3 (.str _) (by show Lt ""; unfold Lt; decide +kernel) (by simp [PyData.depth]) (by simp only [sz]; exact hr1)⟩
        · refine ⟨l, _, 2, _, rfl, rfl, SqL.of hl, atI_nat (j := 2) rfl, q _ _ (.list []) k2 b3 (.lst (SqL.of ?_) .nil) trivial (by simp [PyData.depth, PyData.depthAll]; omega) (by simp [sz, szAll]; exact hr1)⟩
          rw [newp_at (newOf n0)]
          exact hl0
      · refine ltF hd0 ?_
        refine ⟨p, 2, rfl, b2, by decide, by decide, fun x2 y2 c hc0 hc1 => ?_⟩
        have hl : (upd (upd (upd G1 l0 (.lst [])) l (.lst [.non, .str "", .ref l0])) p (.lst [.int x2, .int y2])) l = some (.lst [.non, .str "", .ref l0]) := by
          rw [upd_ne p1.symm, upd_same]
        have hl0 : (upd (upd (upd G1 l0 (.lst [])) l (.lst [.non, .str "", .ref l0])) p (.lst [.int x2, .int y2])) l0 = some (.lst []) := by
          rw [upd_ne p0.symm, upd_ne l01, upd_same]
        have k2 : ∀ b o, b ≠ p → H b = some o → (upd (upd (upd G1 l0 (.lst [])) l (.lst [.non, .str "", .ref l0])) p (.lst [.int x2, .int y2])) b = some o := fun b o hb e => by
          rw [upd_ne hb]
          exact same_upd n _ _ (same_upd n0 _ _ (kp b o hb e))
        have b3 : BagAt (upd (upd (upd G1 l0 (.lst [])) l (.lst [.non, .str "", .ref l0])) p (.lst [.int x2, .int y2])) p := ⟨_, _, upd_same⟩
        obtain rfl | rfl : c = 0 ∨ c = 1 := by omega
        · exact ⟨l, _, 0, _, rfl, rfl, SqL.of hl, atI_nat (j := 0) rfl, q _ _ .none k2 b3 .non trivial (by simp [PyData.depth]) (by simpa [sz] using hr1)⟩
        · exact ⟨l, _, 1, _, rfl, rfl, SqL.of hl, atI_nat (j := 1) rfl, q _ _ (.str "") k2 b3 (.str _) (by show Lt ""; unfold Lt; decide +kernel) (by simp [PyData.depth]) (by simp only [sz]; exact hr1)⟩
    refine ⟨_, rfl, rfl, _, rfl, ?_⟩
    by_cases e0 : k = 0
    · exact eqT e0 (iteT small)
    refine eqF e0 ⟨_, rfl, rfl, _, rfl, ?_⟩
    by_cases er : (room : Int) = 1
    · exact eqT er small
    refine eqF er ?_
    -- a text
    have text : (tRet (tCall spText [] E0 (tCons (tVar 0) (tCons (tCB (fun xs H Q => ∃ i j, xs = [.int i, .int j] ∧ Q (.int (if j < i then j else i)) H) (tCons (tC (.int 4)) (tCons (tOp (rI0 fun i j => .int (i - j)) (tVar 2) (tC (.int 1))) tNil))) tNil)))) { nx := fun _ H' => Q .non H', rt := Q } [some (.ref p), some (.int deep), some (.int room), some (.int k), none, none, none] G1 := by
      refine ⟨_, rfl, _, rfl, _, _, rfl, rfl, _, _, rfl, p, _, rfl, bag1, ?_, ?_, fun H' z k2 b2 lz hz => ?_⟩
      · split <;> omega
      · split <;> omega
      · refine q H' (.str z) (.str z) (fun b o hb e => k2 b o hb (kp b o hb e)) b2 (.str z) lz (by simp [PyData.depth]) ?_
        simp only [sz]
        split at hz <;> omega
    refine ⟨_, rfl, rfl, _, rfl, ?_⟩
    by_cases e1 : k = 1
    · exact eqT e1 (iteT text)
    refine eqF e1 ⟨_, rfl, rfl, _, rfl, ?_⟩
    by_cases ed : (deep : Int) = 0
    · exact eqT ed text
    refine eqF ed ?_
    clear small text
    obtain ⟨M, rfl⟩ : ∃ M, deep = M + 1 := ⟨deep - 1, by omega⟩
    -- made, left = [], room - 1
    refine ⟨Nat.zero_le _, fun m nm => ⟨_, rfl, _, _, rfl, rfl, _, _, rfl, ?_⟩⟩
    have nmH : H m = none := newOf nm
    have mp : m ≠ p := fun e => by
      rw [e] at nmH
      exact pH nmH
    have b2 : BagAt (upd G1 m (.lst [])) p := let ⟨x, y, e⟩ := bag1; ⟨x, y, same_upd nm _ _ e⟩
    refine ⟨_, rfl, p, 5, rfl, b2, by decide, by decide, fun x2 y2 c hc0 hc1 => ?_⟩
    refine ⟨c, rfl, by omega, by omega, for_range (lo := 0) (n := c.toNat) (fun i σ H2 => ∃ (left : Nat) (ws : List V) (ds : List PyData) (y6 : Option V), σ = [some (.ref p), some (.int ((M + 1 : Nat) : Int)), some (.int room), some (.int k), some (.ref m), some (.int left), y6] ∧
      (∀ b o, b ≠ p → H b = some o → H2 b = some o) ∧ BagAt H2 p ∧ H2 m = some (.lst ws) ∧ DpAll K (newB H m H2) ws ds ∧ valAll ds ∧ PyData.depthAll ds ≤ M ∧ szAll ds + left + 1 = room) ?_ ?_ ?_⟩
    · refine ⟨room - 1, [], [], none, ?_, fun b o hb e => ?_, ⟨_, _, upd_same⟩, ?_, .nil, trivial, by simp [PyData.depthAll], by simp [szAll]; omega⟩
      · have e : ((room : Int) - 1) = ((room - 1 : Nat) : Int) := by omega
        show _ = _
        rw [← e]
        rfl
      · rw [upd_ne hb]
        exact same_upd nm _ _ (kp b o hb e)
      · rw [upd_ne mp, upd_same]
    · rintro i σ H2 hi ⟨left, ws, ds, y6, rfl, k2, b2, hm2, hws, hvs, hdp, hsz⟩
      refine ⟨_, rfl, _, _, rfl, rfl, _, rfl, ?_⟩
      by_cases hl : (0 : Int) < (left : Int)
      · refine ltT hl ?_
        have em : ((M + 1 : Nat) : Int) - 1 = ((M : Nat) : Int) := by omega
        refine ⟨_, rfl, .inl ⟨rfl, _, SqL.of hm2⟩, ⟨N - 1, by omega⟩, _, rfl, _, rfl, _, _, rfl, rfl, _, rfl, p, M, left, ?_, b2, (by show M ≤ N - 1; omega), by omega, by omega, fun H3 v d k3 b3 hv vd dd ds3 => ?_⟩
        · show [V.ref p, V.int (((M + 1 : Nat) : Int) - 1), V.int left] ++ [] = _
          rw [em]
          rfl
        have hm3 : H3 m = some (.lst ws) := k3 m _ mp hm2
        have wl : ws.length ≤ 1000 := by
          have e1 := DpAll.length hws
          have e2 := szAll_len ds
          omega
        refine ⟨m, ws, v, rfl, rfl, hm3, Nat.lt_of_le_of_lt wl (by decide), ?_⟩
        have all2 : ∀ b, H b ≠ none → H2 b ≠ none := fun b hb => by
          cases e : H b with
          | none => exact absurd e hb
          | some o =>
            by_cases eb : b = p
            · rw [eb]
              obtain ⟨x, y, e2⟩ := b2
              rw [e2]
              exact fun z => nomatch z
            · rw [k2 b o eb e]
              exact fun z => nomatch z
        have old : Same (newB H m H2) (newB H m (upd H3 m (.lst (ws ++ [v])))) := fun b o e => by
          by_cases bm : b = m
          · unfold newB at e
            rw [if_pos bm] at e
            cases e
          · cases hh : H b with
            | some u =>
              unfold newB at e
              rw [if_neg bm, hh] at e
              cases e
            | none =>
              have bp : b ≠ p := fun z => by
                rw [z] at hh
                exact pH hh
              rw [newB_at hh bm] at e ⊢
              rw [upd_ne bm]
              exact k3 b o bp e
        have new : Same (newp H2 H3) (newB H m (upd H3 m (.lst (ws ++ [v])))) := fun b o e => by
          cases h2 : H2 b with
          | some u =>
            rw [newp_old h2] at e
            cases e
          | none =>
            rw [newp_at h2] at e
            have hh : H b = none := Classical.byContradiction fun z => all2 b z h2
            have bm : b ≠ m := fun z => by
              rw [z, hm2] at h2
              cases h2
            rw [newB_at hh bm, upd_ne bm]
            exact e
        have b4 : BagAt (upd H3 m (.lst (ws ++ [v]))) p := let ⟨x, y, e⟩ := b3; ⟨x, y, by rw [upd_ne mp.symm]; exact e⟩
        have k4 : ∀ b o, b ≠ p → H b = some o → (upd H3 m (.lst (ws ++ [v]))) b = some o := fun b o hb e => by
          rw [upd_ne (ne_of_none e nmH)]
          exact k3 b o hb (k2 b o hb e)
        have hm4 : (upd H3 m (.lst (ws ++ [v]))) m = some (.lst (ws ++ [v])) := upd_same
        have vnew : Dp K (newB H m (upd H3 m (.lst (ws ++ [v])))) v d := dp_same new _ _ hv
        have all4 : DpAll K (newB H m (upd H3 m (.lst (ws ++ [v])))) (ws ++ [v]) (ds ++ [d]) := DpAll.append (dpAll_same old _ _ hws) (.cons vnew .nil)
        generalize upd H3 m (.lst (ws ++ [v])) = G4 at b4 k4 hm4 vnew all4
        have sub : Same (newB H m G4) G4 := fun b o e => newp_same _ _ (newB_newp _ _ e)
        -- left = left - size(made[-1])
        refine ⟨_, rfl, _, rfl, 1, rfl, m, _, -1, v, rfl, rfl, SqL.of hm4, atI_last _ _, v, d, newB H m G4, rfl, sub, vnew, vd, by omega, by omega, fun H5 s5 => ?_⟩
        refine ⟨_, _, rfl, rfl, left - sz d, ws ++ [v], ds ++ [d], some (.int (0 + (i : Int))), ?_, fun b o hb e => s5 _ _ (k4 b o hb e), ?_, s5 _ _ hm4, dpAll_same (newB_mono fun b o _ e => s5 _ _ e) _ _ all4, (valAll_append _ _).mpr ⟨hvs, vd, trivial⟩, ?_, ?_⟩
        · have e : ((left : Int) - (sz d : Int)) = ((left - sz d : Nat) : Int) := by omega
          show _ = _
          rw [← e]
          rfl
        · obtain ⟨x, y, e⟩ := b4
          exact ⟨x, y, s5 _ _ e⟩
        · rw [depthAll_append]
          simp only [PyData.depthAll]
          omega
        · rw [szAll_snoc]
          omega
      · refine ltF hl ?_
        exact ⟨left, ws, ds, _, rfl, k2, b2, hm2, hws, hvs, hdp, hsz⟩
    · rintro σ H2 ⟨left, ws, ds, y6, rfl, k2, b2, hm2, hws, hvs, hdp, hsz⟩
      refine ⟨_, rfl, q H2 (.ref m) (.list ds) k2 b2 (.lst (SqL.of ?_) (dpAll_same newB_newp _ _ hws)) hvs ?_ ?_⟩
      · rw [newp_at nmH]
        exact hm2
      · simp only [PyData.depth]
        omega
      · simp only [sz]
        omega
end
end TX
namespace TX
open PySem PySem.Spec PyProof.Rows L2
/-! ### a text, repeated -/
theorem mem_reps {P : Nat → Prop} {x : Array Nat} (hx : ∀ c ∈ x.toList, P c) : ∀ (k : Nat) (acc : Array Nat), (∀ c ∈ acc.toList, P c) → ∀ c ∈ ((List.replicate k x).foldl (· ++ ·) acc).toList, P c
  | 0, acc, h => by simpa using h
  | k + 1, acc, h => by
    rw [List.replicate_succ, List.foldl_cons]
    refine mem_reps hx k _ fun c hc => ?_
    rw [Array.toList_append] at hc
    exact (List.mem_append.mp hc).elim (h c) (hx c)
theorem size_rep : ∀ (x : Array Nat) (k : Nat) (acc : Array Nat), ((List.replicate k x).foldl (· ++ ·) acc).size = acc.size + k * x.size
  | x, 0, acc => by simp
  | x, k + 1, acc => by
    rw [List.replicate_succ, List.foldl_cons, size_rep x k, Array.size_append, Nat.succ_mul]
    omega
theorem mul_lt {x : Str} {n : Nat} (h : Lt x) : Lt (Txt.mul x (n : Int)) ∧ (Txt.mul x (n : Int)).length ≤ n * x.length + x.length := by
  unfold Txt.mul
  split
  · refine ⟨by unfold Lt; decide +kernel, ?_⟩
    have e : Str.empty.length = 0 := rfl
    omega
  · split
    · exact ⟨h, by omega⟩
    · refine ⟨mem_reps (P := fun c => 97 ≤ c ∧ c ≤ 122) h _ _ (by simp), ?_⟩
      have e := size_rep x.cps (n : Int).toNat #[]
      have e2 : (n : Int).toNat = n := by omega
      rw [e2] at e
      show ((List.replicate (n : Int).toNat x.cps).foldl (· ++ ·) #[]).size ≤ _
      rw [e2, e]
      have e3 : x.length = x.cps.size := rfl
      rw [e3]
      simp
section
variable {X : Cx}
def rMulS : R2 := fun x y H Q => ∃ (a : Str) (n : Nat), x = .str a ∧ y = .int n ∧ n ≤ 1000 ∧ a.length ≤ 1000 ∧ Q (.str (Txt.mul a (n : Int))) H
theorem op_mulS : OpR X (binaryOp .Mult) rMulS := by
  intro pins s σ H x y v u Q I rx ry h
  obtain ⟨a, n, rfl, rfl, hn, ha, q⟩ := h
  obtain ⟨t, rfl⟩ := rx
  obtain ⟨t', rfl⟩ := ry
  refine SB.mul ⟨?_, fun h1 _ => ?_, fun h1 _ => ?_⟩ fun t' k => ⟨.str _, H, I.tok k, ⟨t', rfl⟩, q⟩
  · rw [decide_eq_false (show ¬ ((n : Int) < -(2 ^ 63 : Int)) by omega), decide_eq_false (show ¬ ((n : Int) ≥ 2 ^ 63) by omega)]
    rfl
  · have h2 : (2 ^ 63 - 1 : Int) / 1000 ≤ (2 ^ 63 - 1) / (n : Int) := by
      refine Int.le_ediv_of_mul_le (by omega) ?_
      have e : (2 ^ 63 - 1 : Int) / 1000 = 9223372036854775 := by decide
      rw [e]
      have e2 : (9223372036854775 : Int) * (n : Int) ≤ 9223372036854775 * 1000 := Int.mul_le_mul_of_nonneg_left (by omega) (by omega)
      omega
    have e : (2 ^ 63 - 1 : Int) / 1000 = 9223372036854775 := by decide
    omega
  · have e : a.length * (n : Int).toNat ≤ 1000 * 1000 := Nat.mul_le_mul ha (by omega)
    show decide (a.length * (n : Int).toNat > sizeLine) = false
    exact decide_eq_false (by have : (1000 * 1000 : Nat) ≤ sizeLine := by decide
                              omega)
end
theorem lt_cut {z : Str} {lo hi : Option Int} (h : Lt z) : Lt (cutS z lo hi) := fun c hc => h c (List.mem_of_mem_drop (List.mem_of_mem_take (by simpa [cutS] using hc)))
theorem len_cut {z : Str} {t : Nat} : (cutS z none (some (t : Int))).length ≤ t := by
  unfold cutS
  show (List.toArray _).size ≤ t
  rw [List.size_toArray, List.length_take, HT.sIx_nat, HT.sIx_none]
  omega
theorem qfit {z : Str} (h : (z.length : Int) ≤ 5) : (("q" : Str)).length + z.length ≤ sizeLine := by
  have e : (("q" : Str)).length = 1 := by decide +kernel
  exact Nat.le_trans (show (("q" : Str)).length + z.length ≤ 6 by omega) (by decide)
/-! ### lists of data, cut and repeated -/
theorem DpAll.take {K : PySem.W.Frag} {H : Hp} : ∀ {ds : List PyData} {vs : List V} (n : Nat), DpAll K H vs ds → DpAll K H (vs.take n) (ds.take n)
  | [], _, n, h => by
    cases h
    simp
    exact .nil
  | d :: ds, _, 0, h => by
    simp
    exact .nil
  | d :: ds, _, n + 1, h => by
    cases h with
    | cons h1 h2 => exact .cons h1 (DpAll.take (ds := ds) n h2)
theorem DpAll.rep {K : PySem.W.Frag} {H : Hp} {ds : List PyData} {vs : List V} (h : DpAll K H vs ds) : ∀ n : Nat, DpAll K H (List.replicate n vs).flatten (List.replicate n ds).flatten
  | 0 => .nil
  | n + 1 => by
    rw [List.replicate_succ, List.replicate_succ, List.flatten_cons, List.flatten_cons]
    exact DpAll.append h (DpAll.rep h n)
theorem val_take : ∀ {ds : List PyData} (n : Nat), valAll ds → valAll (ds.take n)
  | [], n, h => by simpa using h
  | d :: ds, 0, h => trivial
  | d :: ds, n + 1, h => ⟨h.1, val_take n h.2⟩
theorem depth_take : ∀ {ds : List PyData} (n : Nat), PyData.depthAll (ds.take n) ≤ PyData.depthAll ds
  | [], n => by simp
  | d :: ds, 0 => by simp [PyData.depthAll]
  | d :: ds, n + 1 => by
    have := depth_take (ds := ds) n
    simp only [List.take_succ_cons, PyData.depthAll]
    omega
theorem val_rep {ds : List PyData} (h : valAll ds) : ∀ n : Nat, valAll (List.replicate n ds).flatten
  | 0 => trivial
  | n + 1 => by
    rw [List.replicate_succ, List.flatten_cons]
    exact (valAll_append _ _).mpr ⟨h, val_rep h n⟩
theorem depth_rep {ds : List PyData} : ∀ n : Nat, PyData.depthAll (List.replicate n ds).flatten ≤ PyData.depthAll ds
  | 0 => by simp [PyData.depthAll]
  | n + 1 => by
    have := depth_rep (ds := ds) n
    rw [List.replicate_succ, List.flatten_cons, depthAll_append]
    omega
/-- each of the data is at most that great -/
def EachLe (c : Nat) (ds : List PyData) : Prop := ∀ d ∈ ds, sz d ≤ c
theorem each_nil {c : Nat} : EachLe c [] := fun d hd => nomatch hd
theorem each_sum {c : Nat} : ∀ {ds : List PyData}, EachLe c ds → szAll ds ≤ c * ds.length
  | [], _ => by simp [szAll]
  | d :: ds, h => by
    have h1 := h d List.mem_cons_self
    have h2 := each_sum (ds := ds) fun e he => h e (List.mem_cons_of_mem _ he)
    rw [szAll, List.length_cons, Nat.mul_succ]
    omega
/-! ### what is new stays new -/
theorem newp_mono {H H2 H3 : Hp} {p : Addr} (pH : H p ≠ none) (k : ∀ b o, b ≠ p → H2 b = some o → H3 b = some o) : Same (newp H H2) (newp H H3) := fun b o e => by
  cases h : H b with
  | some u =>
    rw [newp_old h] at e
    cases e
  | none =>
    rw [newp_at h] at e ⊢
    exact k b o (fun z => pH (z ▸ h)) e
theorem newp_sub {H H2 H3 : Hp} (k : ∀ b, H b ≠ none → H2 b ≠ none) : Same (newp H2 H3) (newp H H3) := fun b o e => by
  cases h2 : H2 b with
  | some u =>
    rw [newp_old h2] at e
    cases e
  | none =>
    rw [newp_at h2] at e
    have h : H b = none := Classical.byContradiction fun z => k b z h2
    rw [newp_at h]
    exact e
/-- the entries of H are still there -/
theorem there {H H2 : Hp} {p : Addr} (k : ∀ b o, b ≠ p → H b = some o → H2 b = some o) (b2 : BagAt H2 p) : ∀ b, H b ≠ none → H2 b ≠ none := fun b hb => by
  cases e : H b with
  | none => exact absurd e hb
  | some o =>
    by_cases eb : b = p
    · rw [eb]
      obtain ⟨x, y, e2⟩ := b2
      rw [e2]
      exact fun z => nomatch z
    · rw [k b o eb e]
      exact fun z => nomatch z
theorem bag_in {H : Hp} {p : Addr} (b : BagAt H p) : H p ≠ none := by
  obtain ⟨x, y, e⟩ := b
  rw [e]
  exact fun z => nomatch z
theorem bag_same {H H' : Hp} {p : Addr} (b : BagAt H p) (s : Same H H') : BagAt H' p := let ⟨x, y, e⟩ := b; ⟨x, y, s _ _ e⟩
/-- a list of data at m, the bag at p: one more made behind -/
theorem grow {K : PySem.W.Frag} {H H2 H3 : Hp} {p m : Addr} {ws : List V} {ds : List PyData} {v : V} {d : PyData} (pH : H p ≠ none) (nmH : H m = none) (k2 : ∀ b o, b ≠ p → H b = some o → H2 b = some o) (b2 : BagAt H2 p) (hm2 : H2 m = some (.lst ws))
    (hws : DpAll K (newB H m H2) ws ds) (k3 : ∀ b o, b ≠ p → H2 b = some o → H3 b = some o) (b3 : BagAt H3 p) (hv : Dp K (newp H2 H3) v d) :
    (∀ b o, b ≠ p → H b = some o → (upd H3 m (.lst (ws ++ [v]))) b = some o) ∧ BagAt (upd H3 m (.lst (ws ++ [v]))) p ∧ H3 m = some (.lst ws) ∧ DpAll K (newB H m (upd H3 m (.lst (ws ++ [v])))) (ws ++ [v]) (ds ++ [d]) := by
  have mp : m ≠ p := fun e => pH (e ▸ nmH)
  have all2 := there k2 b2
  have old : Same (newB H m H2) (newB H m (upd H3 m (.lst (ws ++ [v])))) := fun b o e => by
    by_cases bm : b = m
    · unfold newB at e
      rw [if_pos bm] at e
      cases e
    · cases hh : H b with
      | some u =>
        unfold newB at e
        rw [if_neg bm, hh] at e
        cases e
      | none =>
        have bp : b ≠ p := fun z => pH (z ▸ hh)
        rw [newB_at hh bm] at e ⊢
        rw [upd_ne bm]
        exact k3 b o bp e
  have new : Same (newp H2 H3) (newB H m (upd H3 m (.lst (ws ++ [v])))) := fun b o e => by
    cases h2 : H2 b with
    | some u =>
      rw [newp_old h2] at e
      cases e
    | none =>
      rw [newp_at h2] at e
      have hh : H b = none := Classical.byContradiction fun z => all2 b z h2
      have bm : b ≠ m := fun z => by
        rw [z, hm2] at h2
        cases h2
      rw [newB_at hh bm, upd_ne bm]
      exact e
  refine ⟨fun b o hb e => ?_, ?_, k3 m _ mp hm2, DpAll.append (dpAll_same old _ _ hws) (.cons (dp_same new _ _ hv) .nil)⟩
  · rw [upd_ne (ne_of_none e nmH)]
    exact k3 b o hb (k2 b o hb e)
  · obtain ⟨x, y, e⟩ := b3
    exact ⟨x, y, by rw [upd_ne mp.symm]; exact e⟩
section
variable {P : Program} {w : World} {K : PySem.W.Frag} {mg : Str → Option Value} {base : Heap}
theorem ok_values {f fT fX fS : Addr} {fd dT dX dS : FuncData} (F : Fun K "_law_value" "_law_value" sValue f fd) (b : Binds K fd ["_law_bag_here", "_law_deep", "_law_room"] []) (g : mg "_law_value" = some (.ref f)) (Y : Nv mg) (C : Vc P w K mg base fT fX fS dT dX dS) :
    ∀ N : Nat, FnOk P w K mg base CX0 (N + 3) f fd ["_law_bag_here", "_law_deep", "_law_room"] (spValue K N)
  | 0 => ok_value F b g Y C 0 fun j => absurd j.2 (by omega)
  | N + 1 => ok_value F b g Y C (N + 1) fun ⟨M, e⟩ => by
    have e2 : M = N := by omega
    subst e2
    exact ok_values F b g Y C M
/-! ### _law_great -/
def spGreat (K : PySem.W.Frag) : Sp := fun vs H Q _ => ∃ (p : Addr), vs = [.ref p] ∧ BagAt H p ∧
  ∀ (H' : Hp) (v : V) (d : PyData), (∀ b o, b ≠ p → H b = some o → H' b = some o) → BagAt H' p → Dp K (newp H H') v d → valD d → d.depth ≤ 13 → sz d ≤ 500 → Q v H'
theorem scGreat : FnScope ["_law_bag_here", "_law_pick", "_law_word", "_law_turn", "_law_small", "_law_made", "_law_k"] ["_law_bag_here"] (defScope sGreat) := ⟨rfl, rfl, rfl, by decide +kernel, rfl, by decide +kernel, by decide +kernel⟩
theorem ok_great {f fT fX fS fV : Addr} {fd dT dX dS dV : FuncData} (F : Fun K "_law_great" "_law_great" sGreat f fd) (Y : Nv mg) (C : Vc P w K mg base fT fX fS dT dX dS) (GV : FnOk P w K mg base CX0 7 fV dV ["_law_bag_here", "_law_deep", "_law_room"] (spValue K 4)) (gV : mg "_law_value" = some (.ref fV))
    (kV : PySem.W.keepIn K (.ref fV) = true) (bV : Binds K dV ["_law_bag_here", "_law_deep", "_law_room"] []) : FnOk P w K mg base CX0 8 f fd ["_law_bag_here"] (spGreat K) := by
  refine F.ok scGreat (fun vs H Q E h => ?_) (fun cdv A outer s H vs Q E hr h => ?_)
  · obtain ⟨p, rfl, _⟩ := h
    rfl
  · obtain ⟨p, rfl, bag, q⟩ := h
    have hr1 : Room 1 _ := hr.mono (by decide)
    have hr2 : Room 2 _ := hr.mono (by decide)
    refine ⟨_, pss_cons (ps_set (i := 1) scGreat.nd rfl (.inl rfl) (pe_call C.GT hr1 (by rfl) C.gT C.kT C.bT .nil pass0 (pa_cons (pv 0) (pa_cons pe_int pa_nil))))
      (pss_cons (ps_if (pt_cmpR op_gt (pv 1) pe_int (nomark _)) (pss_one (ps_ret (pe_call GV hr (by rfl) gV kV bV .nil pass0 (pa_cons (pv 0) (pa_cons pe_int (pa_cons pe_int pa_nil)))))) pss_nil)
      (pss_cons (ps_if (pt_cmpR op_eq (pv 1) pe_int (nomark _))
        (pss_cons (ps_set (i := 2) scGreat.nd rfl (.inl rfl) (pe_op op_add_str pe_str (pe_call C.GX hr2 (by rfl) C.gX C.kX C.bX .nil pass0 (pa_cons (pv 0) (pa_cons pe_int pa_nil)))))
        (pss_one (ps_ret (pe_slice sl_str (pe_op op_mulS (pv 2) pe_int) po_none (po_some (pe_call C.GT hr1 (by rfl) C.gT C.kT C.bT .nil pass0 (pa_cons (pv 0) (pa_cons pe_int pa_nil)))))))) pss_nil)
      (pss_cons (ps_if (pt_cmpR op_eq (pv 1) pe_int (nomark _))
        (pss_cons (ps_setLc (i := 4) (own := [("_law_turn", 3)]) (g := gName 3) (tt := tYes) (te := tCall (spValue K 4) [] E0 (tCons (tVar 0) (tCons (tC (.int 1)) (tCons (tC (.int 2)) tNil)))) rfl scGreat.nd rfl rfl (sw_true rfl rfl rfl (by decide +kernel))
            (pi_range1 (by rfl) Y.range (pa_cons (pe_op op_add pe_int (pe_call C.GT hr1 (by rfl) C.gT C.kT C.bT .nil pass0 (pa_cons (pv 0) (pa_cons pe_int pa_nil)))) pa_nil))
            (blkOk_by (N := ["_law_bag_here", "_law_pick", "_law_word", "_law_turn", "_law_small", "_law_made", "_law_k"]) (sc := defScope sGreat) (by decide +kernel)) (fun _ _ _ _ _ => pg_name (i := 3) scGreat.nd rfl (Or.inl rfl)) (fun _ _ _ _ _ => pts_nil)
            (fun _ _ _ _ _ => pe_call GV hr (by rfl) gV kV bV .nil pass0 (pa_cons (pv 0) (pa_cons pe_int (pa_cons pe_int pa_nil)))))
        (pss_one (ps_ret (pe_slice sl_list (pe_op op_rep (pv 4) pe_int) po_none (po_some (pe_call C.GT hr1 (by rfl) C.gT C.kT C.bT .nil pass0 (pa_cons (pv 0) (pa_cons pe_int pa_nil)))))))) pss_nil)
      (pss_cons (ps_set (i := 5) scGreat.nd rfl (.inl rfl) (pe_call GV hr (by rfl) gV kV bV .nil pass0 (pa_cons (pv 0) (pa_cons pe_int (pa_cons pe_int pa_nil)))))
      (pss_cons (ps_for PassesOwn.never rfl (pi_range1 (by rfl) Y.range (pa_cons (pe_call C.GT hr1 (by rfl) C.gT C.kT C.bT .nil pass0 (pa_cons (pv 0) (pa_cons pe_int pa_nil))) pa_nil)) (pg_name (i := 3) scGreat.nd rfl (.inl rfl))
        (pss_cons (ps_setLc (i := 4) (own := [("_law_k", 6)]) (g := gName 6) (tt := tYes) (te := tCall (spValue K 4) [] E0 (tCons (tVar 0) (tCons (tC (.int 1)) (tCons (tC (.int 3)) tNil)))) rfl scGreat.nd rfl rfl (sw_true rfl rfl rfl (by decide +kernel))
            (pi_range1 (by rfl) Y.range (pa_cons (pe_call C.GT hr1 (by rfl) C.gT C.kT C.bT .nil pass0 (pa_cons (pv 0) (pa_cons pe_int pa_nil))) pa_nil))
            (blkOk_by (N := ["_law_bag_here", "_law_pick", "_law_word", "_law_turn", "_law_small", "_law_made", "_law_k"]) (sc := defScope sGreat) (by decide +kernel)) (fun _ _ _ _ _ => pg_name (i := 6) scGreat.nd rfl (Or.inl rfl)) (fun _ _ _ _ _ => pts_nil)
            (fun _ _ _ _ _ => pe_call GV hr (by rfl) gV kV bV .nil pass0 (pa_cons (pv 0) (pa_cons pe_int (pa_cons pe_int pa_nil)))))
        (pss_one (ps_set (i := 5) scGreat.nd rfl (.inl rfl) (pe_ifExp (pt_cmpR op_eq (pe_call C.GT hr1 (by rfl) C.gT C.kT C.bT .nil pass0 (pa_cons (pv 0) (pa_cons pe_int pa_nil))) pe_int (nomark _)) (pe_op op_cat (pv 4) (pe_lst (pa_cons (pv 5) pa_nil))) (pe_op op_cat (pe_lst (pa_cons (pv 5) pa_nil)) (pv 4)))))))
      (pss_one (ps_ret (pv 5)))))))), ?_⟩
    refine ⟨_, rfl, p, 6, rfl, bag, by decide, by decide, fun x1 y1 k hk0 hk1 => ?_⟩
    have pH := bag_in bag
    have kp : ∀ b o, b ≠ p → H b = some o → upd H p (.lst [.int x1, .int y1]) b = some o := fun b o hb e => by
      rw [upd_ne hb]
      exact e
    have bag1 : BagAt (upd H p (.lst [.int x1, .int y1])) p := ⟨_, _, upd_same⟩
    generalize upd H p (.lst [.int x1, .int y1]) = G1 at kp bag1
    -- a value
    refine ⟨_, rfl, _, _, rfl, rfl, _, rfl, ?_⟩
    by_cases e3 : (2 : Int) < k
    · refine ltT e3 ?_
      exact ⟨_, rfl, p, 4, 60, rfl, bag1, by decide, by decide, by decide, fun H' v d k2 b2 hv vd dd ds => q H' v d (fun b o hb e => k2 b o hb (kp b o hb e)) b2 (dp_same (newp_sub (there kp bag1)) _ _ hv) vd (by omega) (by omega)⟩
    refine ltF e3 ?_
    -- a long text
    refine ⟨_, rfl, rfl, _, rfl, ?_⟩
    by_cases e2 : k = 2
    · refine eqT e2 ?_
      refine ⟨_, rfl, p, 5, rfl, bag1, by decide, by decide, fun H' z k2 b2 lz hz => ⟨_, _, rfl, rfl, qfit hz, ?_⟩⟩
      have lq : Lt "q" := by unfold Lt; decide +kernel
      have eq1 : (("q" : Str)).length = 1 := by decide +kernel
      have lw : Lt ("q" ++ z) := lt_append lq lz
      have ll : (("q" : Str) ++ z).length ≤ 6 := by
        rw [strLen_append]
        omega
      obtain ⟨lm, le⟩ := mul_lt (n := 399) lw
      refine ⟨_, rfl, _, 399, rfl, rfl, by decide, by omega, ?_⟩
      refine ⟨_, rfl, p, 400, rfl, b2, by decide, by decide, fun x2 y2 c hc0 hc1 => ?_⟩
      obtain ⟨j, rfl⟩ : ∃ j : Nat, c = j := ⟨c.toNat, by omega⟩
      have lj : (cutS (Txt.mul ("q" ++ z) ((399 : Nat) : Int)) none (some (j : Int))).length ≤ j := len_cut
      refine ⟨_, rfl, _, rfl, Nat.le_trans (Nat.le_trans le (show 399 * (("q" : Str) ++ z).length + (("q" : Str) ++ z).length ≤ 10000 by omega)) (by decide), ?_⟩
      refine q _ _ (.str _) (fun b o hb e => ?_) ⟨_, _, upd_same⟩ (.str _) (lt_cut lm) (by simp [PyData.depth]) ?_
      · rw [upd_ne hb]
        exact k2 b o hb (kp b o hb e)
      · simp only [sz]
        omega
    refine eqF e2 ?_
    -- a wide list
    refine ⟨_, rfl, rfl, _, rfl, ?_⟩
    by_cases e1 : k = 1
    · refine eqT e1 ?_
      refine ⟨_, rfl, p, 3, rfl, bag1, by decide, by decide, fun x2 y2 c hc0 hc1 => ⟨_, _, rfl, rfl, ?_⟩⟩
      have kp2 : ∀ b o, b ≠ p → H b = some o → upd G1 p (.lst [.int x2, .int y2]) b = some o := fun b o hb e => by
        rw [upd_ne hb]
        exact kp b o hb e
      have bag2 : BagAt (upd G1 p (.lst [.int x2, .int y2])) p := ⟨_, _, upd_same⟩
      generalize upd G1 p (.lst [.int x2, .int y2]) = G2 at kp2 bag2
      refine ⟨1 + c, rfl, by omega, by omega, fun D nD => lc_range (lo := 0) (n := (1 + c).toNat) (fun i H' => ∃ ws ds, H' D = some (.lst ws) ∧ ws.length = i ∧ DpAll K (newB H D H') ws ds ∧ valAll ds ∧ PyData.depthAll ds ≤ 1 ∧ EachLe 2 ds ∧ (∀ b o, b ≠ p → H b = some o → H' b = some o) ∧ BagAt H' p) ?_ ?_ ?_⟩
      · exact ⟨[], [], upd_same, rfl, .nil, trivial, by simp [PyData.depthAll], each_nil, fun b o hb e => same_upd nD _ _ (kp2 b o hb e), bag_same bag2 (same_upd nD)⟩
      · rintro i H' hi ⟨ws, ds, hD, wl, hws, hvs, hdp, hea, kk, bb⟩
        have nDH : H D = none := Classical.byContradiction fun z => there kp2 bag2 D z nD
        refine ⟨rfl, _, rfl, p, 1, 2, rfl, bb, by decide, by decide, by decide, fun H3 v d k3 b3 hv vd dd ds3 => ?_⟩
        obtain ⟨g1, g2, g3, g4⟩ := grow pH nDH kk bb hD hws k3 b3 hv
        refine ⟨ws, g3, Nat.lt_of_le_of_lt (show ws.length ≤ 100 by omega) (by decide), ws ++ [v], ds ++ [d], upd_same, by simp [wl], g4, (valAll_append _ _).mpr ⟨hvs, vd, trivial⟩, ?_, ?_, g1, g2⟩
        · rw [depthAll_append]
          simp only [PyData.depthAll]
          omega
        · intro x hx
          rcases List.mem_append.mp hx with h | h
          · exact hea x h
          · have e : x = d := by simpa using h
            rw [e]
            exact ds3
      · rintro H' ⟨ws, ds, hD, wl, hws, hvs, hdp, hea, kk, bb⟩
        have nDH : H D = none := Classical.byContradiction fun z => there kp2 bag2 D z nD
        have dl := DpAll.length hws
        refine ⟨_, rfl, D, 199, ws, rfl, rfl, hD, by decide, by decide, Nat.le_trans (show ws.length * 199 ≤ 1000 by omega) (by decide), fun r nr => ?_⟩
        have b4 : BagAt (upd H' r (.lst (List.replicate (199 : Int).toNat ws).flatten)) p := bag_same bb (same_upd nr)
        refine ⟨_, rfl, p, 200, rfl, b4, by decide, by decide, fun x3 y3 c2 hc2 hc3 => ?_⟩
        obtain ⟨j, rfl⟩ : ∃ j : Nat, c2 = j := ⟨c2.toNat, by omega⟩
        have rp : r ≠ p := fun e => by
          obtain ⟨x, y, e4⟩ := bb
          rw [e, e4] at nr
          cases nr
        refine ⟨_, rfl, r, _, rfl, SqL.of (by rw [upd_ne rp, upd_same]), fun s2 ns2 => ?_⟩
        have cv : cutV (List.replicate (199 : Int).toNat ws).flatten none (some (j : Int)) = ((List.replicate 199 ws).flatten).take j := by
          unfold cutV
          rw [HT.sIx_none, HT.sIx_nat, List.drop_zero, Nat.sub_zero]
          show List.take (min j (List.replicate 199 ws).flatten.length) (List.replicate 199 ws).flatten = _
          rw [← List.take_eq_take_min]
        rw [cv]
        have s2p : s2 ≠ p := fun e => by
          rw [e, upd_same] at ns2
          cases ns2
        have nH : H s2 = none := Classical.byContradiction fun z => by
          have h1 := there kk bb s2 z
          rw [upd_ne s2p] at ns2
          by_cases sr : s2 = r
          · rw [sr, upd_same] at ns2
            cases ns2
          · rw [upd_ne sr] at ns2
            exact h1 ns2
        have up : Same (newB H D H') (newp H (upd (upd (upd H' r (.lst (List.replicate (199 : Int).toNat ws).flatten)) p (.lst [.int x3, .int y3])) s2 (.lst (((List.replicate 199 ws).flatten).take j)))) := fun b o e => by
          have e5 := newB_newp b o e
          cases hh : H b with
          | some u =>
            rw [newp_old hh] at e5
            cases e5
          | none =>
            rw [newp_at hh] at e5 ⊢
            have bp : b ≠ p := fun z => pH (z ▸ hh)
            have br : b ≠ r := ne_of_none e5 nr
            have bs : b ≠ s2 := fun z => by
              rw [← z, upd_ne bp, upd_ne br, e5] at ns2
              cases ns2
            rw [upd_ne bs, upd_ne bp, upd_ne br]
            exact e5
        refine q _ (.ref s2) (.list (((List.replicate 199 ds).flatten).take j)) (fun b o hb e => ?_) ?_ (.lst (SqL.of ?_) (dpAll_same up _ _ (DpAll.take j (DpAll.rep hws 199)))) (val_take j (val_rep hvs 199)) ?_ ?_
        · have e6 := kk b o hb e
          rw [upd_ne (ne_of_none e nH), upd_ne hb, upd_ne (ne_of_none e6 nr)]
          exact e6
        · exact ⟨x3, y3, by rw [upd_ne s2p.symm, upd_same]⟩
        · rw [newp_at nH, upd_same]
        · have h1 := depth_take (ds := (List.replicate 199 ds).flatten) j
          have h2 := depth_rep (ds := ds) 199
          simp only [PyData.depth]
          omega
        · have h1 : EachLe 2 (((List.replicate 199 ds).flatten).take j) := fun x hx => by
            obtain ⟨l, hl, hx2⟩ := List.mem_flatten.mp (List.mem_of_mem_take hx)
            have e := (List.mem_replicate.mp hl).2
            rw [e] at hx2
            exact hea x hx2
          have h2 := each_sum h1
          have h3 : (((List.replicate 199 ds).flatten).take j).length ≤ j := by
            rw [List.length_take]
            omega
          simp only [sz]
          omega
    refine eqF e1 ?_
    -- a deep one
    refine ⟨_, rfl, p, 3, 20, rfl, bag1, by decide, by decide, by decide, fun G2 made d0 k2 b2 hv0 vd0 dd0 sz0 => ?_⟩
    have kp2 : ∀ b o, b ≠ p → H b = some o → G2 b = some o := fun b o hb e => k2 b o hb (kp b o hb e)
    have hv0' : Dp K (newp H G2) made d0 := dp_same (newp_sub (there kp bag1)) _ _ hv0
    refine ⟨_, rfl, p, 10, rfl, b2, by decide, by decide, fun x2 y2 c hc0 hc1 => ?_⟩
    refine ⟨c, rfl, by omega, by omega, for_range (lo := 0) (n := c.toNat) (fun i σ H2 => ∃ (v : V) (d : PyData) (y3 y4 : Option V), σ = [some (.ref p), some (.int k), none, y3, y4, some v, none] ∧ (∀ b o, b ≠ p → H b = some o → H2 b = some o) ∧ BagAt H2 p ∧
      Dp K (newp H H2) v d ∧ valD d ∧ d.depth ≤ 3 + i ∧ sz d ≤ 20 + 10 * i) ?_ ?_ ?_⟩
    · refine ⟨made, d0, none, none, rfl, fun b o hb e => ?_, ⟨_, _, upd_same⟩, dp_same (newp_mono pH fun b o hb e => ?_) _ _ hv0', vd0, by omega, by omega⟩
      · rw [upd_ne hb]
        exact kp2 b o hb e
      · rw [upd_ne hb]
        exact e
    · rintro i σ H2 hi ⟨v, d, y3, y4, rfl, kk, bb, hv, vd, dd, sd⟩
      -- small
      refine ⟨_, rfl, p, 2, rfl, bb, by decide, by decide, fun x3 y3 c2 hc2 hc3 => ?_⟩
      have kk2 : ∀ b o, b ≠ p → H b = some o → upd H2 p (.lst [.int x3, .int y3]) b = some o := fun b o hb e => by
        rw [upd_ne hb]
        exact kk b o hb e
      have bb2 : BagAt (upd H2 p (.lst [.int x3, .int y3])) p := ⟨_, _, upd_same⟩
      have hv2 : Dp K (newp H (upd H2 p (.lst [.int x3, .int y3]))) v d := dp_same (newp_mono pH fun b o hb e => by rw [upd_ne hb]; exact e) _ _ hv
      generalize upd H2 p (.lst [.int x3, .int y3]) = H3 at kk2 bb2 hv2
      refine ⟨c2, rfl, by omega, by omega, fun D nD => lc_range (lo := 0) (n := c2.toNat) (fun j H' => ∃ ws ds, H' D = some (.lst ws) ∧ ws.length = j ∧ DpAll K (newB H D H') ws ds ∧ valAll ds ∧ PyData.depthAll ds ≤ 1 ∧ EachLe 3 ds ∧ (∀ b o, b ≠ p → H b = some o → H' b = some o) ∧ BagAt H' p ∧ Dp K (newB H D H') v d) ?_ ?_ ?_⟩
      · have nDH : H D = none := Classical.byContradiction fun z => there kk2 bb2 D z nD
        refine ⟨[], [], upd_same, rfl, .nil, trivial, by simp [PyData.depthAll], each_nil, fun b o hb e => same_upd nD _ _ (kk2 b o hb e), bag_same bb2 (same_upd nD), dp_same (fun b o e => ?_) _ _ hv2⟩
        cases hh : H b with
        | some u =>
          rw [newp_old hh] at e
          cases e
        | none =>
          rw [newp_at hh] at e
          have bD : b ≠ D := ne_of_none e nD
          rw [newB_at hh bD, upd_ne bD]
          exact e
      · rintro j H' hj ⟨ws, ds, hD, wl, hws, hvs, hdp, hea, k4, b4, hvB⟩
        have nDH : H D = none := Classical.byContradiction fun z => there kk2 bb2 D z nD
        refine ⟨rfl, _, rfl, p, 1, 3, rfl, b4, by decide, by decide, by decide, fun H5 u e k5 b5 hu vu du su => ?_⟩
        obtain ⟨g1, g2, g3, g4⟩ := grow pH nDH k4 b4 hD hws k5 b5 hu
        refine ⟨ws, g3, Nat.lt_of_le_of_lt (show ws.length ≤ 100 by omega) (by decide), ws ++ [u], ds ++ [e], upd_same, by simp [wl], g4, (valAll_append _ _).mpr ⟨hvs, vu, trivial⟩, ?_, ?_, g1, g2, dp_same (fun b o eb => ?_) _ _ hvB⟩
        · rw [depthAll_append]
          simp only [PyData.depthAll]
          omega
        · intro x hx
          rcases List.mem_append.mp hx with h | h
          · exact hea x h
          · have e : x = e := by simpa using h
            rw [e]
            exact su
        · by_cases bD : b = D
          · unfold newB at eb
            rw [if_pos bD] at eb
            cases eb
          · cases hh : H b with
            | some u =>
              unfold newB at eb
              rw [if_neg bD, hh] at eb
              cases eb
            | none =>
              have bp : b ≠ p := fun z => pH (z ▸ hh)
              rw [newB_at hh bD] at eb ⊢
              rw [upd_ne bD]
              exact k5 b o bp eb
      · rintro H' ⟨ws, ds, hD, wl, hws, hvs, hdp, hea, k4, b4, hvB⟩
        have nDH : H D = none := Classical.byContradiction fun z => there kk2 bb2 D z nD
        have dl := DpAll.length hws
        have es := each_sum hea
        have wl1 : ws.length ≤ 1 := by omega
        -- made = ..
        refine ⟨_, rfl, p, 2, rfl, b4, by decide, by decide, fun x4 y4 c4 hc4 hc5 => ?_⟩
        have Dp_ : D ≠ p := fun e => pH (e ▸ nDH)
        have k6 : ∀ b o, b ≠ p → H b = some o → upd H' p (.lst [.int x4, .int y4]) b = some o := fun b o hb e => by
          rw [upd_ne hb]
          exact k4 b o hb e
        have b6 : BagAt (upd H' p (.lst [.int x4, .int y4])) p := ⟨_, _, upd_same⟩
        have hD6 : (upd H' p (.lst [.int x4, .int y4])) D = some (.lst ws) := by
          rw [upd_ne Dp_]
          exact hD
        have to6 : Same (newB H D H') (newp H (upd H' p (.lst [.int x4, .int y4]))) := fun b o e => newp_mono (H2 := H') pH (fun b o hb e => by rw [upd_ne hb]; exact e) b o (newB_newp b o e)
        generalize upd H' p (.lst [.int x4, .int y4]) = H6 at k6 b6 hD6 to6
        have hv6 := dp_same to6 _ _ hvB
        have hw6 := dpAll_same to6 _ _ hws
        have in6 : Same (newp H H6) H6 := newp_same
        -- one list more, and the two together
        have fin : ∀ (l r : Addr) (us : List V) (es2 : List PyData), H6 l = none → (upd H6 l (.lst [v])) r = none → DpAll K (newp H H6) us es2 → valAll es2 → PyData.depthAll es2 ≤ 3 + i → szAll es2 ≤ 20 + 10 * i + 3 →
            ∃ (v' : V) (d' : PyData) (y3 y4 : Option V), [some (V.ref p), some (V.int k), none, some (V.int (0 + (i : Int))), some (V.ref D), some (V.ref r), none] = [some (V.ref p), some (V.int k), none, y3, y4, some v', none] ∧ (∀ b o, b ≠ p → H b = some o → (upd (upd H6 l (.lst [v])) r (.lst us)) b = some o) ∧ BagAt (upd (upd H6 l (.lst [v])) r (.lst us)) p ∧
              Dp K (newp H (upd (upd H6 l (.lst [v])) r (.lst us))) v' d' ∧ valD d' ∧ d'.depth ≤ 3 + (i + 1) ∧ sz d' ≤ 20 + 10 * (i + 1) := by
          intro l r us es2 nl nr hus hvs2 hdp2 hsz2
          have s8 : Same H6 (upd (upd H6 l (.lst [v])) r (.lst us)) := (same_upd nl).trans (same_upd nr)
          have nrH : H r = none := Classical.byContradiction fun z => by
            have h1 := there k6 b6 r z
            by_cases rl : r = l
            · rw [rl, upd_same] at nr
              cases nr
            · rw [upd_ne rl] at nr
              exact h1 nr
          refine ⟨.ref r, .list es2, _, _, rfl, fun b o hb e => s8 _ _ (k6 b o hb e), bag_same b6 s8, .lst (SqL.of ?_) (dpAll_same (newp_mono pH fun b o _ e => s8 b o e) _ _ hus), hvs2, ?_, ?_⟩
          · rw [newp_at nrH, upd_same]
          · simp only [PyData.depth]
            omega
          · simp only [sz]
            omega
        refine ⟨rfl, _, rfl, ?_⟩
        have sB : szAll (ds ++ [d]) ≤ 20 + 10 * i + 3 ∧ szAll ([d] ++ ds) ≤ 20 + 10 * i + 3 := by
          rw [szAll_append, szAll_append]
          simp only [szAll]
          omega
        have dB : PyData.depthAll (ds ++ [d]) ≤ 3 + i ∧ PyData.depthAll ([d] ++ ds) ≤ 3 + i := by
          rw [depthAll_append, depthAll_append]
          simp only [PyData.depthAll]
          omega
        by_cases e4 : c4 = 0
        · refine eqT e4 ?_
          refine ⟨_, rfl, _, rfl, (by show 1 ≤ sizeLine; decide), fun l nl => ⟨D, l, ws, [v], rfl, rfl, same_upd nl _ _ hD6, upd_same, Nat.le_trans (show ws.length + 1 ≤ 2 by omega) (by decide), fun r nr => ?_⟩⟩
          exact fin l r (ws ++ [v]) (ds ++ [d]) nl nr (DpAll.append hw6 (.cons hv6 .nil)) ((valAll_append _ _).mpr ⟨hvs, vd, trivial⟩) dB.1 sB.1
        · refine eqF e4 ?_
          refine ⟨_, rfl, (by show 1 ≤ sizeLine; decide), fun l nl => ⟨_, rfl, l, D, [v], ws, rfl, rfl, upd_same, same_upd nl _ _ hD6, Nat.le_trans (show 1 + ws.length ≤ 2 by omega) (by decide), fun r nr => ?_⟩⟩
          exact fin l r ([v] ++ ws) ([d] ++ ds) nl nr (DpAll.append (.cons hv6 .nil) hw6) ((valAll_append _ _).mpr ⟨⟨vd, trivial⟩, hvs⟩) dB.2 sB.2
    · rintro σ H2 ⟨v, d, y3, y4, rfl, kk, bb, hv, vd, dd, sd⟩
      exact ⟨_, rfl, q H2 v d kk bb hv vd (by omega) (by omega)⟩
end
end TX
namespace TX
open PySem PySem.Spec PyProof.Rows L2
/-! ### data whose lists stand each at a place of its own: S, all of them -/
mutual
inductive Tr (H : Hp) : V → PyData → List Addr → Prop
  | non : Tr H .non .none []
  | bl (b : Bool) : Tr H (.bl b) (.bool b) []
  | int (i : Int) : Tr H (.int i) (.int i) []
  | str (x : Str) : Tr H (.str x) (.str x) []
  | lst {a : Addr} {xs : List V} {es : List PyData} {S : List Addr} : H a = some (.lst xs) → TrAll H xs es S → a ∉ S → Tr H (.ref a) (.list es) (a :: S)
  | tup {a : Addr} {xs : List V} {es : List PyData} {S : List Addr} : H a = some (.tup xs) → TrAll H xs es S → a ∉ S → Tr H (.ref a) (.tuple es) (a :: S)
inductive TrAll (H : Hp) : List V → List PyData → List Addr → Prop
  | nil : TrAll H [] [] []
  | cons {v : V} {d : PyData} {S : List Addr} {vs : List V} {ds : List PyData} {T : List Addr} : Tr H v d S → TrAll H vs ds T → (∀ b ∈ S, b ∉ T) → TrAll H (v :: vs) (d :: ds) (S ++ T)
end
theorem TrAll.length {H : Hp} : ∀ {ds : List PyData} {vs : List V} {S : List Addr}, TrAll H vs ds S → vs.length = ds.length
  | [], _, _, h => by cases h; rfl
  | _ :: _, _, _, h => by
    cases h with
    | cons _ h2 _ => exact congrArg (· + 1) (TrAll.length h2)
mutual
theorem Tr.frame {H H' : Hp} : ∀ {d : PyData} {v : V} {S : List Addr}, Tr H v d S → (∀ b ∈ S, ∀ o, H b = some o → H' b = some o) → Tr H' v d S
  | .none, _, _, h, _ => by cases h; exact .non
  | .bool b, _, _, h, _ => by cases h; exact .bl b
  | .int i, _, _, h, _ => by cases h; exact .int i
  | .str x, _, _, h, _ => by cases h; exact .str x
  | .list es, _, _, h, k => by
    cases h with
    | lst h1 h2 h3 => exact .lst (k _ List.mem_cons_self _ h1) (TrAll.frame h2 fun b hb => k b (List.mem_cons_of_mem _ hb)) h3
  | .tuple es, _, _, h, k => by
    cases h with
    | tup h1 h2 h3 => exact .tup (k _ List.mem_cons_self _ h1) (TrAll.frame h2 fun b hb => k b (List.mem_cons_of_mem _ hb)) h3
  | .dict _, _, _, h, _ => nomatch h
theorem TrAll.frame {H H' : Hp} : ∀ {ds : List PyData} {vs : List V} {S : List Addr}, TrAll H vs ds S → (∀ b ∈ S, ∀ o, H b = some o → H' b = some o) → TrAll H' vs ds S
  | [], _, _, h, _ => by cases h; exact .nil
  | d :: ds, _, _, h, k => by
    cases h with
    | cons h1 h2 h3 => exact .cons (Tr.frame h1 fun b hb => k b (List.mem_append_left _ hb)) (TrAll.frame h2 fun b hb => k b (List.mem_append_right _ hb)) h3
end
mutual
theorem Tr.dp {K : PySem.W.Frag} {H : Hp} : ∀ {d : PyData} {v : V} {S : List Addr}, Tr H v d S → Dp K H v d
  | .none, _, _, h => by cases h; exact .non
  | .bool b, _, _, h => by cases h; exact .bl b
  | .int i, _, _, h => by cases h; exact .int i
  | .str x, _, _, h => by cases h; exact .str x
  | .list es, _, _, h => by
    cases h with
    | lst h1 h2 h3 => exact .lst (SqL.of h1) (TrAll.dp h2)
  | .tuple es, _, _, h => by
    cases h with
    | tup h1 h2 h3 => exact .tup (SqT.of h1) (TrAll.dp h2)
  | .dict _, _, _, h => nomatch h
theorem TrAll.dp {K : PySem.W.Frag} {H : Hp} : ∀ {ds : List PyData} {vs : List V} {S : List Addr}, TrAll H vs ds S → DpAll K H vs ds
  | [], _, _, h => by cases h; exact .nil
  | d :: ds, _, _, h => by
    cases h with
    | cons h1 h2 h3 => exact .cons (Tr.dp h1) (TrAll.dp h2)
end
mutual
theorem Tr.there {H : Hp} : ∀ {d : PyData} {v : V} {S : List Addr}, Tr H v d S → ∀ b ∈ S, H b ≠ none
  | .none, _, _, h => by cases h; exact fun b hb => nomatch hb
  | .bool b, _, _, h => by cases h; exact fun b hb => nomatch hb
  | .int i, _, _, h => by cases h; exact fun b hb => nomatch hb
  | .str x, _, _, h => by cases h; exact fun b hb => nomatch hb
  | .list es, _, _, h => by
    cases h with
    | lst h1 h2 h3 =>
      intro b hb
      rcases List.mem_cons.mp hb with e | e
      · rw [e, h1]
        exact fun z => nomatch z
      · exact TrAll.there h2 b e
  | .tuple es, _, _, h => by
    cases h with
    | tup h1 h2 h3 =>
      intro b hb
      rcases List.mem_cons.mp hb with e | e
      · rw [e, h1]
        exact fun z => nomatch z
      · exact TrAll.there h2 b e
  | .dict _, _, _, h => nomatch h
theorem TrAll.there {H : Hp} : ∀ {ds : List PyData} {vs : List V} {S : List Addr}, TrAll H vs ds S → ∀ b ∈ S, H b ≠ none
  | [], _, _, h => by cases h; exact fun b hb => nomatch hb
  | d :: ds, _, _, h => by
    cases h with
    | cons h1 h2 h3 =>
      intro b hb
      rcases List.mem_append.mp hb with e | e
      · exact Tr.there h1 b e
      · exact TrAll.there h2 b e
end
theorem TrAll.split {H : Hp} : ∀ {ds es : List PyData} {vs : List V} {S : List Addr}, TrAll H vs (ds ++ es) S → ∃ a b A B, vs = a ++ b ∧ S = A ++ B ∧ TrAll H a ds A ∧ TrAll H b es B ∧ ∀ x ∈ A, x ∉ B
  | [], _, vs, S, h => ⟨[], vs, [], S, rfl, rfl, .nil, h, fun _ z => nomatch z⟩
  | d :: ds, es, _, _, h => by
    cases h with
    | @cons v _ S1 _ _ T h1 h2 h3 =>
      obtain ⟨a, b, A, B, rfl, rfl, ha, hb, hd⟩ := TrAll.split (ds := ds) (es := es) h2
      refine ⟨v :: a, b, S1 ++ A, B, rfl, (List.append_assoc ..).symm, .cons h1 ha (fun x hx hA => h3 x hx (List.mem_append_left _ hA)), hb, fun x hx hB => ?_⟩
      rcases List.mem_append.mp hx with e | e
      · exact h3 x e (List.mem_append_right _ hB)
      · exact hd x e hB
theorem tr_leaf {K : PySem.W.Frag} {H H' : Hp} {v : V} {d : PyData} (h : Dp K H v d) (e : (tyD d == "list" || tyD d == "tuple") = false) : Tr H' v d [] := by
  cases h with
  | non => exact .non
  | bl b => exact .bl b
  | int i => exact .int i
  | str x => exact .str x
  | lst _ _ => simp [tyD] at e
  | tup _ _ => simp [tyD] at e
def spCopyT (K : PySem.W.Frag) : Sp := fun vs H Q _ => ∃ (v : V) (d : PyData) (Hv : Hp), vs = [v] ∧ Same Hv H ∧ Dp K Hv v d ∧ nd d ≤ 1000000 ∧
  ∀ (H' : Hp) (v' : V) (S : List Addr), Same H H' → Tr H' v' d S → (∀ b ∈ S, H b = none) → Q v' H'
section
variable {P : Program} {w : World} {K : PySem.W.Frag} {mg : Str → Option Value} {base : Heap}
theorem ok_copyT {f fP : Addr} {fd fdP : FuncData} {k : Nat} (F : Fun K "copy_of" "copy_of" sCopy f fd) (T : Nm mg) (FP : Fun K "all_parts" "all_parts" sParts fP fdP) (bP : Binds K fdP ["thing"] []) (gP : mg "all_parts" = some (.ref fP)) :
    FnOk P w K mg base CX0 (k + 2) f fd ["thing"] (spCopyT K) := by
  have GP : FnOk P w K mg base CX0 (k + 1) fP fdP ["thing"] (spParts K) := ok_parts FP T
  refine F.ok scCopy (fun vs H Q E h => ?_) (fun cdv A outer s H vs Q E hr h => ?_)
  · obtain ⟨v, d, Hv, rfl, _⟩ := h
    rfl
  · obtain ⟨v, d, Hv, rfl, sv, hd, hn, q⟩ := h
    refine ⟨_, pss_cons (ps_if (pt_not (pt_val (pe_callB call_isiT (by rfl) T.isi (by decide +kernel) (pa_cons (pv 0) (pa_cons (pe_tup (pa_cons (pe_bltn (v := .ty "list") (by rfl) T.lst (by decide +kernel) rfl) (pa_cons (pe_bltn (v := .ty "tuple") (by rfl) T.tpl (by decide +kernel) rfl) pa_nil))) pa_nil))))) (pss_one (ps_ret (pv 0))) pss_nil) <| pss_cons (ps_set (i := 1) scCopy.nd rfl (.inr rfl) (pe_lst pa_nil))
      (pss_cons (ps_for PassesOwn.never rfl (pi_list (pe_revL (pe_call GP hr (by rfl) gP FP.kp bP .nil pass0 (pa_cons (pv 0) pa_nil)))) (pg_name (i := 2) scCopy.nd rfl (.inl rfl))
        (pss_cons (ps_set (i := 3) scCopy.nd rfl (.inl rfl) (pv 2))
        (pss_cons (ps_if (pt_val (pe_callB call_isiT (by rfl) T.isi (by decide +kernel) (pa_cons (pv 2) (pa_cons (pe_tup (pa_cons (pe_bltn (v := .ty "list") (by rfl) T.lst (by decide +kernel) rfl) (pa_cons (pe_bltn (v := .ty "tuple") (by rfl) T.tpl (by decide +kernel) rfl) pa_nil))) pa_nil))))
          (pss_one (ps_alt
            (ps_setLc (i := 3) (own := [("_", 4)]) (g := gName 4) (tt := tYes) (te := tBM0 K "list" rPop (tVar 1)) rfl scCopy.nd rfl rfl (sw_true rfl rfl rfl (by decide +kernel)) (pi_list (pv 2)) (blkOk_by (N := ["thing", "done", "part", "made", "_"]) (sc := defScope sCopy) (by decide +kernel))
              (fun _ _ _ _ _ => pg_name (i := 4) scCopy.nd rfl (Or.inl rfl)) (fun _ _ _ _ _ => pts_nil) (fun _ _ _ _ _ => pe_bm0 PySem.F.plainAttrs_list PySem.F.slot_list_pop PySem.F.type_list_pop mt_pop (pv 1)))
            (ps_setLc (i := 3) (own := [("_", 4)]) (g := gName 4) (tt := tYes) (te := tBM0 K "list" rPop (tVar 1)) rfl scCopy.nd rfl rfl (sw_true rfl rfl rfl (by decide +kernel)) (pi_tup (pv 2)) (blkOk_by (N := ["thing", "done", "part", "made", "_"]) (sc := defScope sCopy) (by decide +kernel))
              (fun _ _ _ _ _ => pg_name (i := 4) scCopy.nd rfl (Or.inl rfl)) (fun _ _ _ _ _ => pts_nil) (fun _ _ _ _ _ => pe_bm0 PySem.F.plainAttrs_list PySem.F.slot_list_pop PySem.F.type_list_pop mt_pop (pv 1)))))
          pss_nil)
        (pss_cons (ps_if (pt_val (pe_callB call_isi (by rfl) T.isi (by decide +kernel) (pa_cons (pv 2) (pa_cons (pe_bltn (v := .ty "tuple") (by rfl) T.tpl (by decide +kernel) rfl) pa_nil))))
          (pss_one (ps_set (i := 3) scCopy.nd rfl (.inl rfl) (pe_callTy call_tuple_of (by rfl) T.tpl (by decide +kernel) (pa_cons (pv 3) pa_nil))))
          pss_nil)
        (pss_one (ps_expr (pe_bm PySem.F.plainAttrs_list PySem.F.slot_list_append PySem.F.type_list_append mt_append (pv 1) (pa_cons (pv 3) pa_nil))))))))
      (pss_one (ps_ret (pe_ix ix_list (pv 1) pe_int (fun _ _ => rfl))))), ?_⟩
    refine ⟨_, rfl, by decide, fun tp0 ntp0 => ?_⟩
    refine ⟨v, tp0, _, .type (tyD d), [.type "list", .type "tuple"], _, rfl, upd_same, .cons (.ty _) (.cons (.ty _) .nil), dp_ty (dp_same (sv.trans (same_upd ntp0)) _ _ hd), isLT d K, _, rfl, ?_⟩
    have q2 : ∀ (H' : Hp) (v' : V) (S : List Addr), Same (upd H tp0 (.tup [.ty "list", .ty "tuple"])) H' → Tr H' v' d S → (∀ b ∈ S, (upd H tp0 (.tup [.ty "list", .ty "tuple"])) b = none) → Q v' H' := fun H' v' S e1 e2 e3 => q H' v' S ((same_upd ntp0).trans e1) e2 (fun b hb => (same_upd ntp0).free (e3 b hb))
    have sv2 : Same Hv (upd H tp0 (.tup [.ty "list", .ty "tuple"])) := sv.trans (same_upd ntp0)
    cases hlt : (tyD d == "list" || tyD d == "tuple") with
    | false =>
      exact iteT ⟨_, rfl, q2 _ _ [] (fun _ _ e => e) (tr_leaf hd hlt) (fun _ z => nomatch z)⟩
    | true =>
    refine iteF ?_
    generalize upd H tp0 (.tup [.ty "list", .ty "tuple"]) = H at sv2 q2
    clear q sv ntp0 tp0
    have sv := sv2
    have q := q2
    refine ⟨by decide, fun da nda => ?_⟩
    -- all_parts(thing)[::-1]
    refine ⟨_, rfl, v, d, Hv, rfl, sv.trans (same_upd nda), hd, hn, fun H1 p rs sm1 np hp hP hlen => ?_⟩
    have hda1 : H1 da = some (.lst []) := sm1 _ _ upd_same
    refine ⟨p, _, rfl, SqL.of hp, fun r nr => ?_⟩
    rw [List.reverse_reverse]
    have rda : da ≠ r := ne_of_none hda1 nr
    have s0 : Same H (upd H1 r (.lst rs)) := ((same_upd nda).trans sm1).trans (same_upd nr)
    have hr0 : H r = none := ((same_upd nda).trans sm1).free nr
    have nda0 : H da = none := nda
    refine ⟨r, rfl, ⟨_, SqL.of upd_same⟩, for_list (K := K) (a := r) (xs := rs) (fun i σ H2 => ∃ (S : List V × List PyData) (cs : List V) (y2 y3 : Option V), σ = [some v, some (.ref da), y2, y3, none] ∧ Same H H2 ∧ H2 r = some (.lst rs) ∧
      Path K Hv ([v], [d]) (rs.drop i) S ∧ H2 da = some (.lst cs.reverse) ∧ ∃ A, TrAll H2 cs S.2 A ∧ ∀ b ∈ A, H b = none ∧ b ≠ da) ?_ ?_ ?_ ?_⟩
    · exact ⟨([], []), [], none, none, rfl, s0, upd_same, hP, by rw [upd_ne rda]; exact hda1, [], .nil, fun b hb => nomatch hb⟩
    · rintro i σ H2 hi ⟨S, cs, y2, y3, rfl, _, g, _⟩
      exact SqL.of g
    · rintro i x σ H2 hx ⟨S, cs, y2, y3, rfl, sm, hrs, hPi, hda, Ar, hcs, hAr⟩
      have edrop : rs.drop i = x :: rs.drop (i + 1) := by
        obtain ⟨hj, e⟩ := List.getElem?_eq_some_iff.mp hx
        rw [List.drop_eq_getElem_cons hj, e]
      rw [edrop] at hPi
      cases hPi with
      | @cons _ S1 _ _ hP1 hst =>
      have cnt := path_count (.cons hP1 hst)
      have cnt0 : ndAll ([d] : List PyData) = nd d := by simp [ndAll]
      have lcs : cs.length ≤ 1000000 := by
        have e1 := TrAll.length hcs
        have e2 := ndAll_len S.2
        have e3 : ndAll (([v], [d]) : List V × List PyData).2 = nd d := cnt0
        omega
      -- the part's data
      obtain ⟨dx, hdx⟩ : ∃ dx, Dp K Hv x dx ∧ ((∃ r1 rd1, S1 = (x :: r1, dx :: rd1) ∧ S = (r1, rd1) ∧ (tyD dx == "list" || tyD dx == "tuple") = false) ∨
          (∃ a xs es r1 rd1, x = .ref a ∧ dx = .list es ∧ SqL K Hv a xs ∧ DpAll K Hv xs es ∧ S1 = (x :: r1, .list es :: rd1) ∧ S = (xs ++ r1, es ++ rd1)) ∨
          (∃ a xs es r1 rd1, x = .ref a ∧ dx = .tuple es ∧ SqT K Hv a xs ∧ DpAll K Hv xs es ∧ S1 = (x :: r1, .tuple es :: rd1) ∧ S = (xs ++ r1, es ++ rd1))) := by
        cases hst with
        | leaf h e => exact ⟨_, h, .inl ⟨_, _, rfl, rfl, e⟩⟩
        | lst h g => exact ⟨_, .lst h g, .inr (.inl ⟨_, _, _, _, _, rfl, rfl, h, g, rfl, rfl⟩)⟩
        | tup h g => exact ⟨_, .tup h g, .inr (.inr ⟨_, _, _, _, _, rfl, rfl, h, g, rfl, rfl⟩)⟩
      obtain ⟨hx1, hcase⟩ := hdx
      -- made = part; isinstance(part, (list, tuple))
      refine ⟨_, rfl, _, rfl, by decide, fun tp ntp => ?_⟩
      have sm3 : Same H (upd H2 tp (.tup [.ty "list", .ty "tuple"])) := sm.trans (same_upd ntp)
      have hda3 : (upd H2 tp (.tup [.ty "list", .ty "tuple"])) da = some (.lst cs.reverse) := same_upd ntp _ _ hda
      have hrs3 : (upd H2 tp (.tup [.ty "list", .ty "tuple"])) r = some (.lst rs) := same_upd ntp _ _ hrs
      have hcs3 : TrAll (upd H2 tp (.tup [.ty "list", .ty "tuple"])) cs S.2 Ar := TrAll.frame hcs fun b _ o e => same_upd ntp b o e
      refine ⟨x, tp, _, .type (tyD dx), [.type "list", .type "tuple"], _, rfl, upd_same, .cons (.ty _) (.cons (.ty _) .nil), dp_ty (dp_same (sv.trans sm3) _ _ hx1), isLT dx K, _, rfl, ?_⟩
      generalize upd H2 tp (.tup [.ty "list", .ty "tuple"]) = G at sm3 hda3 hrs3 hcs3
      rcases hcase with ⟨r1, rd1, rfl, rfl, e⟩ | ⟨a, xs, es, r1, rd1, rfl, rfl, g1, g2, rfl, rfl⟩ | ⟨a, xs, es, r1, rd1, rfl, rfl, g1, g2, rfl, rfl⟩
      · rw [e]
        refine iteF ?_
        have e2 : (tyD dx == "tuple") = false := (Bool.or_eq_false_iff.mp e).2
        refine ⟨_, rfl, x, .ty "tuple", .type (tyD dx), .type "tuple", _, rfl, .ty _, dp_ty (dp_leaf hx1 e), kit1 dx K, _, rfl, ?_⟩
        rw [e2]
        refine iteF ?_
        refine ⟨_, rfl, .inl ⟨rfl, _, SqL.of hda3⟩, _, rfl, da, _, _, rfl, rfl, hda3, Nat.lt_of_le_of_lt (by simpa using lcs) (by decide), ?_⟩
        refine ⟨_, x :: cs, _, _, rfl, same_fresh nda0 sm3, by rw [upd_ne rda.symm]; exact hrs3, hP1, ?_, ?_⟩
        · rw [upd_same]
          simp
        · exact ⟨[] ++ Ar, .cons (tr_leaf hx1 e) (TrAll.frame hcs3 fun b hb o e => by rw [upd_ne (hAr b hb).2]; exact e) (fun b hb => nomatch hb), hAr⟩
      · obtain ⟨c1, c2, A1, A2, rfl, rfl, hc1, hc2, dis⟩ := TrAll.split hcs3
        have hxl : xs.length = c1.length := (DpAll.length g2).trans (TrAll.length hc1).symm
        refine iteT (.inl ?_)
        refine ⟨_, rfl, a, rfl, ⟨_, (sv.trans sm3).seq g1⟩, fun D nD => lc_list (K := K) (a := a) (xs := xs) (fun j H4 => H4 da = some (.lst (c2.reverse ++ (c1.drop j).reverse)) ∧ H4 D = some (.lst (c1.take j)) ∧ ∀ b o, b ≠ da → b ≠ D → G b = some o → H4 b = some o) ?_ ?_ ?_ ?_⟩
        · have ne : da ≠ D := ne_of_none hda3 nD
          refine ⟨?_, upd_same, fun b o _ hb e => by rw [upd_ne hb]; exact e⟩
          rw [upd_ne ne, hda3]
          simp
        · rintro j H4 hj ⟨_, _, kp⟩
          have nDH : H D = none := sm3.free nD
          exact Same.seq (fun b o e => kp b o (ne_of_none e nda0) (ne_of_none e nDH) (sm3 b o e)) (sv.seq g1)
        · rintro j y H4 hy ⟨k1, k2, kp⟩
          have ne : da ≠ D := ne_of_none hda3 nD
          have hjl : j < c1.length := by
            have := (List.getElem?_eq_some_iff.mp hy).1
            omega
          have hcj : c1[j]? = some c1[j] := List.getElem?_eq_getElem hjl
          rw [rev_drop hcj, ← List.append_assoc] at k1
          refine ⟨rfl, .ref da, rfl, .inl ⟨rfl, _, SqL.of k1⟩, da, _, c1[j], rfl, rfl, k1, by simp, ?_⟩
          rw [List.dropLast_concat]
          refine ⟨c1.take j, by rw [upd_ne ne.symm]; exact k2, ?_, ?_, ?_, fun b o h1 h2 e => ?_⟩
          · refine Nat.lt_of_le_of_lt (show (c1.take j).length ≤ 1000000 from ?_) (by decide)
            rw [List.length_append] at lcs
            have := List.length_take_le j c1
            omega
          · rw [upd_ne ne, upd_same]
          · rw [upd_same, List.take_add_one, hcj]
            rfl
          · rw [upd_ne h2, upd_ne h1]
            exact kp b o h1 h2 e
        · rintro H4 ⟨k1, k2, kp⟩
          have ne : da ≠ D := ne_of_none hda3 nD
          have nDH : H D = none := sm3.free nD
          have sm4 : Same H H4 := fun b o e => kp b o (ne_of_none e nda0) (ne_of_none e nDH) (sm3 b o e)
          have rD : r ≠ D := ne_of_none hrs3 nD
          have hr4 : H4 r = some (.lst rs) := kp r _ rda.symm rD hrs3
          rw [hxl] at k1 k2
          rw [List.drop_length, List.reverse_nil, List.append_nil] at k1
          rw [List.take_length] at k2
          have at4 : ∀ b ∈ A1 ++ A2, ∀ o, G b = some o → H4 b = some o := fun b hb o e => kp b o (hAr b hb).2 (ne_of_none e nD) e
          have hd4 : TrAll H4 c1 es A1 := TrAll.frame hc1 fun b hb o e => at4 b (List.mem_append_left _ hb) o e
          have hd5 : TrAll H4 c2 rd1 A2 := TrAll.frame hc2 fun b hb o e => at4 b (List.mem_append_right _ hb) o e
          have nD1 : D ∉ A1 := fun hb => TrAll.there hc1 D hb nD
          have nD2 : D ∉ A2 := fun hb => TrAll.there hc2 D hb nD
          have hc1l : c1.length ≤ 1000000 ∧ c2.length ≤ 1000000 := by
            rw [List.length_append] at lcs
            omega
          refine ⟨_, rfl, .ref a, .ty "tuple", .type "list", .type "tuple", _, rfl, .ty _, dp_ty (d := .list es) (.lst (Same.seq sm4 (sv.seq g1)) (dpAll_same (sv.trans sm4) _ _ g2)), kit1 (.list es) K, _, rfl, ?_⟩
          refine iteF ?_
          refine ⟨_, rfl, .inl ⟨rfl, _, SqL.of k1⟩, _, rfl, da, _, _, rfl, rfl, k1, Nat.lt_of_le_of_lt (by simpa using hc1l.2) (by decide), ?_⟩
          refine ⟨_, .ref D :: c2, _, _, rfl, same_fresh nda0 sm4, by rw [upd_ne rda.symm]; exact hr4, hP1, ?_, ?_⟩
          · rw [upd_same]
            simp
          · refine ⟨(D :: A1) ++ A2, .cons (.lst (by rw [upd_ne ne.symm]; exact k2) (TrAll.frame hd4 fun b hb o e => by rw [upd_ne (hAr b (List.mem_append_left _ hb)).2]; exact e) nD1) (TrAll.frame hd5 fun b hb o e => by rw [upd_ne (hAr b (List.mem_append_right _ hb)).2]; exact e) fun b hb h2 => ?_, fun b hb => ?_⟩
            · rcases List.mem_cons.mp hb with z | z
              · exact nD2 (z ▸ h2)
              · exact dis b z h2
            · rcases List.mem_append.mp hb with z | z
              · rcases List.mem_cons.mp z with y | y
                · exact y ▸ ⟨nDH, ne.symm⟩
                · exact hAr b (List.mem_append_left _ y)
              · exact hAr b (List.mem_append_right _ z)
      · obtain ⟨c1, c2, A1, A2, rfl, rfl, hc1, hc2, dis⟩ := TrAll.split hcs3
        have hxl : xs.length = c1.length := (DpAll.length g2).trans (TrAll.length hc1).symm
        refine iteT (.inr ?_)
        refine ⟨_, rfl, a, rfl, ⟨_, same_sqt (sv.trans sm3) g1⟩, fun D nD => lc_tup (K := K) (a := a) (xs := xs) (fun j H4 => H4 da = some (.lst (c2.reverse ++ (c1.drop j).reverse)) ∧ H4 D = some (.lst (c1.take j)) ∧ ∀ b o, b ≠ da → b ≠ D → G b = some o → H4 b = some o) ?_ ?_ ?_ ?_⟩
        · have ne : da ≠ D := ne_of_none hda3 nD
          refine ⟨?_, upd_same, fun b o _ hb e => by rw [upd_ne hb]; exact e⟩
          rw [upd_ne ne, hda3]
          simp
        · rintro j H4 hj ⟨_, _, kp⟩
          have nDH : H D = none := sm3.free nD
          exact same_sqt (fun b o e => kp b o (ne_of_none e nda0) (ne_of_none e nDH) (sm3 b o e)) (same_sqt sv g1)
        · rintro j y H4 hy ⟨k1, k2, kp⟩
          have ne : da ≠ D := ne_of_none hda3 nD
          have hjl : j < c1.length := by
            have := (List.getElem?_eq_some_iff.mp hy).1
            omega
          have hcj : c1[j]? = some c1[j] := List.getElem?_eq_getElem hjl
          rw [rev_drop hcj, ← List.append_assoc] at k1
          refine ⟨rfl, .ref da, rfl, .inl ⟨rfl, _, SqL.of k1⟩, da, _, c1[j], rfl, rfl, k1, by simp, ?_⟩
          rw [List.dropLast_concat]
          refine ⟨c1.take j, by rw [upd_ne ne.symm]; exact k2, ?_, ?_, ?_, fun b o h1 h2 e => ?_⟩
          · refine Nat.lt_of_le_of_lt (show (c1.take j).length ≤ 1000000 from ?_) (by decide)
            rw [List.length_append] at lcs
            have := List.length_take_le j c1
            omega
          · rw [upd_ne ne, upd_same]
          · rw [upd_same, List.take_add_one, hcj]
            rfl
          · rw [upd_ne h2, upd_ne h1]
            exact kp b o h1 h2 e
        · rintro H4 ⟨k1, k2, kp⟩
          have ne : da ≠ D := ne_of_none hda3 nD
          have nDH : H D = none := sm3.free nD
          have sm4 : Same H H4 := fun b o e => kp b o (ne_of_none e nda0) (ne_of_none e nDH) (sm3 b o e)
          have rD : r ≠ D := ne_of_none hrs3 nD
          have hr4 : H4 r = some (.lst rs) := kp r _ rda.symm rD hrs3
          rw [hxl] at k1 k2
          rw [List.drop_length, List.reverse_nil, List.append_nil] at k1
          rw [List.take_length] at k2
          have at4 : ∀ b ∈ A1 ++ A2, ∀ o, G b = some o → H4 b = some o := fun b hb o e => kp b o (hAr b hb).2 (ne_of_none e nD) e
          have hd4 : TrAll H4 c1 es A1 := TrAll.frame hc1 fun b hb o e => at4 b (List.mem_append_left _ hb) o e
          have hd5 : TrAll H4 c2 rd1 A2 := TrAll.frame hc2 fun b hb o e => at4 b (List.mem_append_right _ hb) o e
          have nD1 : D ∉ A1 := fun hb => TrAll.there hc1 D hb nD
          have nD2 : D ∉ A2 := fun hb => TrAll.there hc2 D hb nD
          have hc1l : c1.length ≤ 1000000 ∧ c2.length ≤ 1000000 := by
            rw [List.length_append] at lcs
            omega
          refine ⟨_, rfl, .ref a, .ty "tuple", .type "tuple", .type "tuple", _, rfl, .ty _, dp_ty (d := .tuple es) (.tup (same_sqt sm4 (same_sqt sv g1)) (dpAll_same (sv.trans sm4) _ _ g2)), kit1 (.tuple es) K, _, rfl, ?_⟩
          refine iteT ?_
          -- made = tuple(made)
          refine ⟨_, rfl, D, c1, rfl, .inl ⟨SqL.of k2, fun tq ntq => ?_⟩⟩
          have nq : H tq = none := sm4.free ntq
          have dq : da ≠ tq := ne_of_none k1 ntq
          have rq : r ≠ tq := ne_of_none hr4 ntq
          have k5 : (upd H4 tq (.tup c1)) da = some (.lst c2.reverse) := by
            rw [upd_ne dq]
            exact k1
          refine ⟨_, rfl, .inl ⟨rfl, _, SqL.of k5⟩, _, rfl, da, _, _, rfl, rfl, k5, Nat.lt_of_le_of_lt (by simpa using hc1l.2) (by decide), ?_⟩
          refine ⟨_, .ref tq :: c2, _, _, rfl, same_fresh nda0 (sm4.trans (same_upd ntq)), by rw [upd_ne rda.symm, upd_ne rq]; exact hr4, hP1, ?_, ?_⟩
          · rw [upd_same]
            simp
          · have nq1 : tq ∉ A1 := fun hb => TrAll.there hd4 tq hb ntq
            have nq2 : tq ∉ A2 := fun hb => TrAll.there hd5 tq hb ntq
            have up : ∀ b ∈ A1 ++ A2, ∀ o, H4 b = some o → (upd (upd H4 tq (.tup c1)) da (.lst (c2.reverse ++ [.ref tq]))) b = some o := fun b hb o e => by
              rw [upd_ne (hAr b hb).2, upd_ne (ne_of_none e ntq)]
              exact e
            refine ⟨(tq :: A1) ++ A2, .cons (.tup (by rw [upd_ne dq.symm, upd_same]) (TrAll.frame hd4 fun b hb o e => up b (List.mem_append_left _ hb) o e) nq1) (TrAll.frame hd5 fun b hb o e => up b (List.mem_append_right _ hb) o e) fun b hb h2 => ?_, fun b hb => ?_⟩
            · rcases List.mem_cons.mp hb with z | z
              · exact nq2 (z ▸ h2)
              · exact dis b z h2
            · rcases List.mem_append.mp hb with z | z
              · rcases List.mem_cons.mp z with y | y
                · exact y ▸ ⟨nq, dq.symm⟩
                · exact hAr b (List.mem_append_left _ y)
              · exact hAr b (List.mem_append_right _ z)
    · rintro σ H2 ⟨S, cs, y2, y3, rfl, sm, hrs, hPi, hda, Ar, hcs, hAr⟩
      rw [List.drop_length] at hPi
      cases hPi
      cases hcs with
      | @cons c1 d1 A0 vs0 ds0 T0 h1 h2 hdis =>
        cases h2
        refine ⟨_, rfl, da, [c1], 0, c1, rfl, rfl, SqL.of hda, atI_nat (j := 0) rfl, ?_⟩
        exact q H2 c1 A0 sm h1 fun b hb => (hAr b (List.mem_append_left _ hb)).1
end
end TX
namespace TX
open PySem PySem.Spec PyProof.Rows L2
structure Nk (mg : Str → Option Value) : Prop where
  str : mg "str" = none
  bool : mg "bool" = none
/-! ### list(text) -/
def signV (z : Str) : List V := z.cps.toList.map fun c => V.str ⟨#[c]⟩
def signD (z : Str) : List PyData := z.cps.toList.map fun c => PyData.str ⟨#[c]⟩
theorem vals_get : ∀ (l : List V) (m : List Value), l.length = m.length → (∀ (j : Nat) v u, l[j]? = some v → m[j]? = some u → RelV v u) → Vals l m
  | [], [], _, _ => .nil
  | v :: l, u :: m, e, h => .cons (h 0 v u rfl rfl) (vals_get l m (by simpa using e) fun j a b ha hb => h (j + 1) a b (by simpa using ha) (by simpa using hb))
theorem call_list_s {X : Cx} (hc : X.calm = true) : CallR X (.type "list") (fun xs H Q => ∃ z : Str, xs = [.str z] ∧ z.length ≤ sizeLine ∧ ∀ l, H l = none → Q (.ref l) (upd H l (.lst (signV z)))) := by
  intro pins s σ H xs us Q I r h
  obtain ⟨z, rfl, hz, q⟩ := h
  obtain ⟨u, rfl, t, rfl⟩ := vals1 r
  have nf : H s.heap.objs.size = none := I.hok.fresh (Nat.le_refl _)
  refine call_list_str (I.ok.hd hc) z t (hn := hz) fun h' tk acc c' hk hS hacc => ⟨.ref _, _, I.laid (t' := tk) (o := .lst (signV z)) hk (Nat.le_refl _) ⟨?_, acc.toList, c', ?_, ?_⟩, rfl, q _ nf⟩
  · unfold signV
    rw [List.length_map]
    exact hz
  · refine vals_get _ _ ?_ fun j v u hv hu => ?_
    · unfold signV
      rw [List.length_map]
      have e := hacc.1
      simp only [Array.length_toList]
      omega
    · obtain ⟨c, t2, hc2, rfl⟩ := hacc.2 j u (by simpa using hu)
      have e : (signV z)[j]? = some (V.str ⟨#[c]⟩) := by
        unfold signV
        rw [List.getElem?_map]
        have e2 : z.cps.toList[j]? = some c := by simpa using hc2
        rw [e2]
        rfl
      rw [e] at hv
      cases hv
      exact ⟨t2, rfl⟩
  · simpa using hS
theorem dp_signs {K : PySem.W.Frag} {H : Hp} (z : Str) : DpAll K H (signV z) (signD z) := by
  unfold signV signD
  induction z.cps.toList with
  | nil => exact .nil
  | cons c l ih => exact .cons (.str _) ih

theorem kitN (d : PyData) (K : PySem.W.Frag) : PySem.W.kitOne K (.type (tyD d)) (.type "int") = some (tyD d == "int" || tyD d == "bool") := by
  cases d with
  | none => exact (kit_ty (a := "NoneType") (b := "int") (r := false) (by decide +kernel)).trans (by simp [tyD])
  | bool _ => exact (kit_ty (a := "bool") (b := "int") (r := true) (by decide +kernel)).trans (by simp [tyD])
  | int _ => exact (kit_ty (a := "int") (b := "int") (r := true) (by decide +kernel)).trans (by simp [tyD])
  | str _ => exact (kit_ty (a := "str") (b := "int") (r := false) (by decide +kernel)).trans (by simp [tyD])
  | list _ => exact (kit_ty (a := "list") (b := "int") (r := false) (by decide +kernel)).trans (by simp [tyD])
  | tuple _ => exact (kit_ty (a := "tuple") (b := "int") (r := false) (by decide +kernel)).trans (by simp [tyD])
  | dict _ => exact (kit_ty (a := "dict") (b := "int") (r := false) (by decide +kernel)).trans (by simp [tyD])
theorem kitB (d : PyData) (K : PySem.W.Frag) : PySem.W.kitOne K (.type (tyD d)) (.type "bool") = some (tyD d == "bool") := by
  cases d with
  | none => exact (kit_ty (a := "NoneType") (b := "bool") (r := false) (by decide +kernel)).trans (by simp [tyD])
  | bool _ => exact (kit_ty (a := "bool") (b := "bool") (r := true) (by decide +kernel)).trans (by simp [tyD])
  | int _ => exact (kit_ty (a := "int") (b := "bool") (r := false) (by decide +kernel)).trans (by simp [tyD])
  | str _ => exact (kit_ty (a := "str") (b := "bool") (r := false) (by decide +kernel)).trans (by simp [tyD])
  | list _ => exact (kit_ty (a := "list") (b := "bool") (r := false) (by decide +kernel)).trans (by simp [tyD])
  | tuple _ => exact (kit_ty (a := "tuple") (b := "bool") (r := false) (by decide +kernel)).trans (by simp [tyD])
  | dict _ => exact (kit_ty (a := "dict") (b := "bool") (r := false) (by decide +kernel)).trans (by simp [tyD])
def wholeB : PyData → Bool
  | .int _ => true
  | _ => false
def spWhole (K : PySem.W.Frag) : Sp := fun vs H Q _ => ∃ (v : V) (d : PyData) (Hv : Hp), vs = [v] ∧ Same Hv H ∧ Dp K Hv v d ∧ Q (.bl (wholeB d)) H
def innerD : PyData → List PyData
  | .list es => es
  | .str x => if 1 < x.length then signD x else []
  | _ => []
def spInner (K : PySem.W.Frag) : Sp := fun vs H Q _ => ∃ (v : V) (d : PyData) (Hv : Hp), vs = [v] ∧ Same Hv H ∧ Dp K Hv v d ∧ sz d ≤ 100000 ∧ ∀ (H' : Hp) (b : Addr) (xs : List V), Same H H' → SqL K H' b xs → DpAll K Hv xs (innerD d) → Q (.ref b) H'
section
variable {P : Program} {w : World} {K : PySem.W.Frag} {mg : Str → Option Value} {base : Heap}
theorem scWhole : FnScope ["thing"] ["thing"] (defScope s_is_whole_number) := ⟨rfl, rfl, rfl, by decide +kernel, rfl, by decide +kernel, by decide +kernel⟩
theorem ok_whole {f : Addr} {fd : FuncData} (F : Fun K "is_whole_number" "is_whole_number" s_is_whole_number f fd) (T : Nm mg) (k : Nk mg) (B : Nb mg) : FnOk P w K mg base CX0 1 f fd ["thing"] (spWhole K) := by
  refine F.ok scWhole (fun vs H Q E h => ?_) (fun cdv A outer s H vs Q E hr h => ?_)
  · obtain ⟨v, d, Hv, rfl, _⟩ := h
    rfl
  · obtain ⟨v, d, Hv, rfl, sv, hd, q⟩ := h
    refine ⟨_, pss_one (ps_ret (pe_and (pe_callB call_isi (by rfl) T.isi (by decide +kernel) (pa_cons (pv 0) (pa_cons (pe_bltn (v := .ty "int") (by rfl) B.int (by decide +kernel) rfl) pa_nil)))
      (pe_one (pe_not (pe_callB call_isi (by rfl) T.isi (by decide +kernel) (pa_cons (pv 0) (pa_cons (pe_bltn (v := .ty "bool") (by rfl) k.bool (by decide +kernel) rfl) pa_nil))))))), ?_⟩
    have ty := dp_ty (dp_same sv _ _ hd)
    refine ⟨_, rfl, v, .ty "int", _, .type "int", _, rfl, .ty _, ty, kitN d K, _, rfl, ?_⟩
    by_cases e : (tyD d == "int" || tyD d == "bool") = true
    · rw [e]
      refine iteT ⟨_, rfl, v, .ty "bool", _, .type "bool", _, rfl, .ty _, ty, kitB d K, _, rfl, ?_⟩
      have e2 : (!(tyD d == "bool")) = wholeB d := by
        cases d <;> simp [tyD] at e <;> simp [tyD, wholeB]
      show Q (.bl (!(tyD d == "bool"))) H
      rw [e2]
      exact q
    · have e' : (tyD d == "int" || tyD d == "bool") = false := by simpa using e
      rw [e']
      have e2 : wholeB d = false := by
        cases d with
        | int _ => simp [tyD] at e'
        | _ => rfl
      rw [e2] at q
      exact iteF q
theorem scInner : FnScope ["part"] ["part"] (defScope s_inner_of) := ⟨rfl, rfl, rfl, by decide +kernel, rfl, by decide +kernel, by decide +kernel⟩
theorem ok_inner {f : Addr} {fd : FuncData} (F : Fun K "inner_of" "inner_of" s_inner_of f fd) (T : Nm mg) (k : Nk mg) (B : Nb mg) : FnOk P w K mg base CX0 1 f fd ["part"] (spInner K) := by
  refine F.ok scInner (fun vs H Q E h => ?_) (fun cdv A outer s H vs Q E hr h => ?_)
  · obtain ⟨v, d, Hv, rfl, _⟩ := h
    rfl
  · obtain ⟨v, d, Hv, rfl, sv, hd, hz, q⟩ := h
    refine ⟨_, pss_cons (ps_if (pt_val (pe_callB call_isi (by rfl) T.isi (by decide +kernel) (pa_cons (pv 0) (pa_cons (pe_bltn (v := .ty "list") (by rfl) T.lst (by decide +kernel) rfl) pa_nil)))) (pss_one (ps_ret (pv 0))) pss_nil) <|
      pss_cons (ps_if (PW.pt (pw_and (pt_val (pe_callB call_isi (by rfl) T.isi (by decide +kernel) (pa_cons (pv 0) (pa_cons (pe_bltn (v := .ty "str") (by rfl) k.str (by decide +kernel) rfl) pa_nil)))) (pw_and1 (pt_cmpR op_gt (pe_callB call_len_str (by rfl) B.len PySem.boot_len (pa_cons (pv 0) pa_nil)) pe_int (nomark _)))))
        (pss_one (ps_ret (pe_callTy (call_list_s rfl) (by rfl) T.lst (by decide +kernel) (pa_cons (pv 0) pa_nil)))) pss_nil) <|
      pss_one (ps_ret (pe_lst pa_nil)), ?_⟩
    have ty := dp_ty (dp_same sv _ _ hd)
    refine ⟨_, rfl, v, .ty "list", _, .type "list", _, rfl, .ty _, ty, kitL d K, _, rfl, ?_⟩
    by_cases e : (tyD d == "list") = true
    · rw [e]
      refine iteT ?_
      cases hd with
      | @lst b xs es h1 h2 => exact ⟨_, rfl, q H b xs (Same.refl _) (sv.seq h1) h2⟩
      | _ => simp [tyD] at e
    · have e' : (tyD d == "list") = false := by simpa using e
      rw [e']
      refine iteF ⟨_, rfl, v, .ty "str", _, .type "str", _, rfl, .ty _, ty, kitS d K, _, rfl, ?_⟩
      by_cases e2 : (tyD d == "str") = true
      · rw [e2]
        refine iteT ?_
        cases hd with
        | str x =>
          have hx : x.length ≤ 100000 := by
            simp only [sz] at hz
            omega
          have xs : x.length ≤ sizeLine := Nat.le_trans hx (by decide)
          refine ⟨_, rfl, x, rfl, xs, _, _, rfl, rfl, _, rfl, ?_⟩
          by_cases h1 : 1 < x.length
          · rw [decide_eq_true (show (1 : Int) < ((x.length : Nat) : Int) by omega)]
            refine iteT ⟨_, rfl, x, rfl, xs, fun l nl => q _ l _ (same_upd nl) (SqL.of upd_same) ?_⟩
            simp only [innerD, if_pos h1]
            exact dp_signs x
          · rw [decide_eq_false (show ¬ (1 : Int) < ((x.length : Nat) : Int) by omega)]
            refine iteF ⟨by decide, fun l nl => q _ l _ (same_upd nl) (SqL.of upd_same) ?_⟩
            simp only [innerD, if_neg h1]
            exact .nil
        | _ => simp [tyD] at e2
      · have e2' : (tyD d == "str") = false := by simpa using e2
        rw [e2']
        refine iteF (A := False) ?_
        refine ⟨by decide, fun l nl => q _ l _ (same_upd nl) (SqL.of upd_same) ?_⟩
        have e3 : innerD d = [] := by
          cases d with
          | list _ => simp [tyD] at e'
          | str _ => simp [tyD] at e2'
          | _ => rfl
        rw [e3]
        exact .nil
end
end TX
namespace TX
open PySem PySem.Spec PyProof.Rows L2
/-! ### list(text) -/
def wV : V → Nat
  | .str x => x.length + 1
  | _ => 1
theorem path_all {K : PySem.W.Frag} {Hv : Hp} {S0 : List V × List PyData} (h0 : valAll S0.2) : ∀ {rs : List V} {S : List V × List PyData}, Path K Hv S0 rs S → valAll S.2 ∧ (rs.map wV).sum + szAll S.2 = szAll S0.2 ∧ ∀ p ∈ rs, ∃ d, Dp K Hv p d ∧ valD d ∧ sz d ≤ szAll S0.2
  | _, _, .nil => ⟨h0, by simp, fun p hp => nomatch hp⟩
  | _, _, .cons (p := p0) hP hs => by
    obtain ⟨i1, i2, i3⟩ := path_all h0 hP
    cases hs with
    | @leaf v d r rd h e =>
      have hv : valD d := i1.1
      have one : wV p0 = sz d := by
        cases h with
        | non => rfl
        | str x => rfl
        | bl b => exact hv.elim
        | int i => exact hv.elim
        | lst _ _ => simp [tyD] at e
        | tup _ _ => simp [tyD] at e
      simp only [szAll] at i2
      refine ⟨i1.2, ?_, fun p hp => ?_⟩
      · rw [List.map_cons, List.sum_cons, one]
        dsimp only
        omega
      · rcases List.mem_cons.mp hp with rfl | hp
        · exact ⟨d, h, hv, by omega⟩
        · exact i3 p hp
    | @lst a xs r es rd h g =>
      have hv : valD (.list es) := i1.1
      simp only [szAll, sz] at i2
      refine ⟨(valAll_append _ _).mpr ⟨hv, i1.2⟩, ?_, fun p hp => ?_⟩
      · rw [List.map_cons, List.sum_cons, szAll_append]
        show 1 + _ + _ = _
        omega
      · rcases List.mem_cons.mp hp with rfl | hp
        · exact ⟨.list es, .lst h g, hv, by simp only [sz]; omega⟩
        · exact i3 p hp
    | tup h g => exact i1.1.elim
theorem sum_rev : ∀ l : List Nat, l.reverse.sum = l.sum
  | [] => rfl
  | x :: l => by
    rw [List.reverse_cons, List.sum_append, sum_rev l, List.sum_cons, List.sum_cons, List.sum_nil]
    omega
theorem sum_cast : ∀ l : List V, ((l.map fun x => ((wV x : Nat) : Int)).sum : Int) = (((l.map wV).sum : Nat) : Int)
  | [] => rfl
  | x :: l => by
    rw [List.map_cons, List.sum_cons, sum_cast l, List.map_cons, List.sum_cons]
    omega
mutual
theorem nd_sz : ∀ d : PyData, valD d → nd d ≤ sz d
  | .none, _ => by simp [nd, sz]
  | .str _, _ => by simp [nd, sz]
  | .list es, h => by
    have := ndAll_sz es h
    simp only [nd, sz]
    omega
  | .bool _, h => h.elim
  | .int _, h => h.elim
  | .tuple _, h => h.elim
  | .dict _, h => h.elim
theorem ndAll_sz : ∀ ds : List PyData, valAll ds → ndAll ds ≤ szAll ds
  | [], _ => by simp [ndAll]
  | d :: ds, h => by
    have h1 := nd_sz d h.1
    have h2 := ndAll_sz ds h.2
    simp only [ndAll, szAll]
    omega
end
def kindS : PyData → Str
  | .none => "nothing"
  | .str _ => "text"
  | _ => "list"
def spVal (K : PySem.W.Frag) (g : PyData → V) : Sp := fun vs H Q _ => ∃ (v : V) (d : PyData) (Hv : Hp), vs = [v] ∧ Same Hv H ∧ Dp K Hv v d ∧ valD d ∧ sz d ≤ 10000 ∧ ∀ H', Same H H' → Q (g d) H'
section
variable {P : Program} {w : World} {K : PySem.W.Frag} {mg : Str → Option Value} {base : Heap}
theorem scKindOf : FnScope ["value"] ["value"] (defScope sKindOf) := ⟨rfl, rfl, rfl, by decide +kernel, rfl, by decide +kernel, by decide +kernel⟩
theorem ok_kindOf {f : Addr} {fd : FuncData} (F : Fun K "kind_of" "kind_of" sKindOf f fd) (T : Nm mg) (k : Nk mg) : FnOk P w K mg base CX0 1 f fd ["value"] (spVal K fun d => .str (kindS d)) := by
  refine F.ok scKindOf (fun vs H Q E h => ?_) (fun cdv A outer s H vs Q E hr h => ?_)
  · obtain ⟨v, d, Hv, rfl, _⟩ := h
    rfl
  · obtain ⟨v, d, Hv, rfl, sv, hd, hv, hz, q⟩ := h
    refine ⟨_, pss_cons (ps_if (pt_cmp (pc_isN (pv 0))) (pss_one (ps_ret pe_str)) pss_nil)
      (pss_cons (ps_if (pt_val (pe_callB call_isi (by rfl) T.isi (by decide +kernel) (pa_cons (pv 0) (pa_cons (pe_bltn (v := .ty "str") (by rfl) k.str (by decide +kernel) rfl) pa_nil)))) (pss_one (ps_ret pe_str)) pss_nil)
      (pss_one (ps_ret pe_str))), ?_⟩
    have is : ∀ b, (tyD d == "str") = b → PySem.W.kitOne K (.type (tyD d)) (.type "str") = some b := fun b e => e ▸ kitS d K
    have ty := dp_ty (dp_same sv _ _ hd)
    cases hd with
    | non => exact ⟨_, rfl, _, rfl, iteT (q H (Same.refl _))⟩
    | str x => exact ⟨_, rfl, _, rfl, iteF ⟨_, rfl, _, .ty "str", _, .type "str", true, rfl, .ty _, ty, is true (by simp [tyD]), _, rfl, iteT (q H (Same.refl _))⟩⟩
    | lst h1 h2 => exact ⟨_, rfl, _, rfl, iteF ⟨_, rfl, _, .ty "str", _, .type "str", false, rfl, .ty _, ty, is false (by simp [tyD]), _, rfl, iteF (q H (Same.refl _))⟩⟩
    | bl _ => exact hv.elim
    | int _ => exact hv.elim
    | tup _ _ => exact hv.elim
theorem scSizeOf : FnScope ["value", "part"] ["value"] (defScope sSizeOf) := ⟨rfl, rfl, rfl, by decide +kernel, rfl, by decide +kernel, by decide +kernel⟩
theorem ok_sizeOf {f fP : Addr} {fd fdP : FuncData} (F : Fun K "size_of" "size_of" sSizeOf f fd) (T : Nm mg) (k : Nk mg) (Y : Nv mg) (B : Nb mg) (GP : FnOk P w K mg base CX0 1 fP fdP ["thing"] (spParts K)) (gP : mg "all_parts" = some (.ref fP)) (kP : PySem.W.keepIn K (.ref fP) = true) (bP : Binds K fdP ["thing"] []) :
    FnOk P w K mg base CX0 2 f fd ["value"] (spVal K fun d => .int (sz d : Nat)) := by
  refine F.ok scSizeOf (fun vs H Q E h => ?_) (fun cdv A outer s H vs Q E hr h => ?_)
  · obtain ⟨v, d, Hv, rfl, _⟩ := h
    rfl
  · obtain ⟨v, d, Hv, rfl, sv, hd, hv, hz, q⟩ := h
    refine ⟨_, pss_one (ps_ret (pe_callB (cr_sum rfl) (by rfl) Y.sum (by decide +kernel) (pa_cons (pe_lc (own := [("part", 1)]) (g := gName 1) (tt := tYes)
        (te := tIf (tB (tCB (rIsi K) (tCons (tVar 1) (tCons (tC (.ty "str")) tNil)))) (tOp (rI0 fun i j => .int (i + j)) (tC (.int 1)) (tCB (fun xs H Q => ∃ z, xs = [.str z] ∧ z.length ≤ sizeLine ∧ Q (.int z.length) H) (tCons (tVar 1) tNil))) (tC (.int 1)))
        rfl scSizeOf.nd (pi_list (pe_call GP hr (by rfl) gP kP bP .nil pass0 (pa_cons (pv 0) pa_nil))) (blkOk_by (own := [("part", 1)]) (N := ["value", "part"]) (sc := defScope sSizeOf) (by decide +kernel)) (fun _ _ _ _ _ => pg_name (i := 1) scSizeOf.nd rfl (Or.inl rfl)) (fun _ _ _ _ _ => pts_nil)
        (fun _ _ _ _ _ => pe_ifExp (pt_val (pe_callB call_isi (by rfl) T.isi (by decide +kernel) (pa_cons (pv 1) (pa_cons (pe_bltn (v := .ty "str") (by rfl) k.str (by decide +kernel) rfl) pa_nil)))) (pe_op op_add pe_int (pe_callB call_len_str (by rfl) B.len PySem.boot_len (pa_cons (pv 1) pa_nil))) pe_int)) pa_nil))), ?_⟩
    refine ⟨_, rfl, v, d, Hv, rfl, sv, hd, Nat.le_trans (nd_sz d hv) (by omega), fun H1 p rs sm np hp hP hlen => ?_⟩
    obtain ⟨_, c2, c3⟩ := path_all (S0 := ([v], [d])) ⟨hv, trivial⟩ hP
    have c2' : (rs.map wV).sum = sz d := by simpa [szAll] using c2
    have hn := nd_sz d hv
    refine ⟨p, rfl, ⟨_, SqL.of hp⟩, fun D nD => lc_list (K := K) (a := p) (xs := rs.reverse) (fun i H' => H' D = some (.lst ((rs.reverse.take i).map fun x => V.int ((wV x : Nat) : Int))) ∧ Same H1 H') ⟨upd_same, same_upd nD⟩ (fun i H' hi ⟨_, s2⟩ => SqL.of (s2 _ _ hp)) ?_ ?_⟩
    · rintro i x H' hx ⟨k1, k2⟩
      obtain ⟨dx, dp, vx, zx⟩ := c3 x (List.mem_reverse.mp (List.mem_of_getElem? hx))
      have zx2 : sz dx ≤ 10000 := by
        have : szAll (([v], [d]) : List V × List PyData).2 = sz d := by simp [szAll]
        omega
      have il := (List.getElem?_eq_some_iff.mp hx).1
      rw [List.length_reverse] at il
      have small : (List.map (fun x => V.int ((wV x : Nat) : Int)) (List.take i rs.reverse)).length < sizeLine := Nat.lt_of_le_of_lt (show _ ≤ 10000 by rw [List.length_map, List.length_take]; omega) (by decide)
      have nx : (upd H' D (.lst ((List.map (fun x => V.int ((wV x : Nat) : Int)) (List.take i rs.reverse)) ++ [V.int ((wV x : Nat) : Int)]))) D = some (.lst ((rs.reverse.take (i + 1)).map fun x => V.int ((wV x : Nat) : Int))) := by
        rw [upd_same, List.take_add_one, hx, List.map_append]
        rfl
      have ty := dp_ty (dp_same (sv.trans (sm.trans k2)) _ _ dp)
      have is : ∀ b, (tyD dx == "str") = b → PySem.W.kitOne K (.type (tyD dx)) (.type "str") = some b := fun b e => e ▸ kitS dx K
      cases dp with
      | non => exact ⟨rfl, _, rfl, _, .ty "str", _, .type "str", false, rfl, .ty _, ty, is false (by simp [tyD]), _, rfl, iteF ⟨_, k1, small, nx, same_fresh nD k2⟩⟩
      | lst h1 h2 => exact ⟨rfl, _, rfl, _, .ty "str", _, .type "str", false, rfl, .ty _, ty, is false (by simp [tyD]), _, rfl, iteF ⟨_, k1, small, nx, same_fresh nD k2⟩⟩
      | str z =>
        have zl : z.length ≤ 10000 := by
          simp only [sz] at zx2
          omega
        refine ⟨rfl, _, rfl, _, .ty "str", _, .type "str", true, rfl, .ty _, ty, is true (by simp [tyD]), _, rfl, iteT ⟨_, rfl, z, rfl, Nat.le_trans zl (by decide), _, _, rfl, rfl, _, k1, small, ?_, same_fresh nD k2⟩⟩
        have e : (1 : Int) + ((z.length : Nat) : Int) = ((wV (.str z) : Nat) : Int) := by simp only [wV]; omega
        show (upd H' D (.lst ((List.map (fun x => V.int ((wV x : Nat) : Int)) (List.take i rs.reverse)) ++ [V.int ((1 : Int) + ((z.length : Nat) : Int))]))) D = _
        rw [e]
        exact nx
      | bl _ => exact vx.elim
      | int _ => exact vx.elim
      | tup _ _ => exact vx.elim
    · rintro H' ⟨k1, k2⟩
      rw [List.take_length] at k1
      have k1' : H' D = some (.lst ((rs.reverse.map fun x => ((wV x : Nat) : Int)).map V.int)) := by
        rw [k1, List.map_map]
        rfl
      refine ⟨D, _, rfl, SqL.of k1', ?_⟩
      have e : (rs.reverse.map fun x => ((wV x : Nat) : Int)).sum = ((sz d : Nat) : Int) := by
        rw [sum_cast, List.map_reverse, sum_rev, c2']
      rw [e]
      exact q H' (sm.trans k2)
end
end TX
namespace TX
open PySem PySem.Spec PyProof.Rows L2
def isL (d : PyData) : Bool := tyD d == "list"
def kids : PyData → List PyData
  | .list es => es
  | _ => []
theorem depth_leaf {d : PyData} (hv : valD d) (h : isL d = false) : d.depth = 0 := by
  cases d with
  | none => simp [PyData.depth]
  | str x => simp [PyData.depth]
  | list es => simp [isL, tyD] at h
  | bool _ => exact hv.elim
  | int _ => exact hv.elim
  | tuple _ => exact hv.elim
  | dict _ => exact hv.elim
theorem depth_filter : ∀ {ds : List PyData}, valAll ds → PyData.depthAll (ds.filter isL) = PyData.depthAll ds
  | [], _ => rfl
  | d :: ds, h => by
    have ih := depth_filter h.2
    by_cases e : isL d = true
    · rw [List.filter_cons_of_pos e, PyData.depthAll, PyData.depthAll, ih]
    · rw [List.filter_cons_of_neg e, PyData.depthAll, ih, depth_leaf h.1 (by simpa using e)]
      omega
theorem val_filter : ∀ {ds : List PyData}, valAll ds → valAll (ds.filter isL)
  | [], _ => trivial
  | d :: ds, h => by
    by_cases e : isL d = true
    · rw [List.filter_cons_of_pos e]
      exact ⟨h.1, val_filter h.2⟩
    · rw [List.filter_cons_of_neg e]
      exact val_filter h.2
theorem sz_filter : ∀ {ds : List PyData}, szAll (ds.filter isL) ≤ szAll ds
  | [] => Nat.le_refl _
  | d :: ds => by
    have ih := sz_filter (ds := ds)
    by_cases e : isL d = true
    · rw [List.filter_cons_of_pos e, szAll, szAll]
      omega
    · rw [List.filter_cons_of_neg e, szAll]
      omega
theorem kids_all : ∀ {ds : List PyData}, valAll ds → (∀ d ∈ ds, isL d = true) → valAll (ds.flatMap kids) ∧ szAll (ds.flatMap kids) + ds.length = szAll ds ∧ (ds ≠ [] → PyData.depthAll (ds.flatMap kids) + 1 = PyData.depthAll ds)
  | [], _, _ => ⟨trivial, rfl, fun z => absurd rfl z⟩
  | d :: ds, h, hl => by
    obtain ⟨i1, i2, i3⟩ := kids_all h.2 fun e he => hl e (List.mem_cons_of_mem _ he)
    have hd := hl d List.mem_cons_self
    cases d with
    | list es =>
      rw [List.flatMap_cons]
      refine ⟨(valAll_append _ _).mpr ⟨h.1, i1⟩, ?_, fun _ => ?_⟩
      · rw [szAll_append, List.length_cons, szAll]
        simp only [kids, sz]
        omega
      · rw [depthAll_append]
        simp only [kids, PyData.depthAll, PyData.depth]
        cases ds with
        | nil => simp [PyData.depthAll]
        | cons e r =>
          have := i3 (fun z => nomatch z)
          omega
    | _ => simp [isL, tyD] at hd
theorem take_filter {ds : List PyData} {i : Nat} {d : PyData} (h : ds[i]? = some d) : (ds.take (i + 1)).filter isL = (ds.take i).filter isL ++ (if isL d = true then [d] else []) := by
  rw [List.take_add_one, h, List.filter_append]
  congr 1
  by_cases e : isL d = true
  · simp [e]
  · simp [e]
def spAmong (K : PySem.W.Frag) : Sp := fun vs H Q _ => ∃ (a : Addr) (ws : List V) (ds : List PyData) (Hv : Hp), vs = [.ref a] ∧ H a = some (.lst ws) ∧ Same Hv H ∧ DpAll K Hv ws ds ∧ ds.length ≤ 10000 ∧
  ∀ (H' : Hp) (p : Addr) (us : List V), Same H H' → H p = none → H' p = some (.lst us) → DpAll K Hv us (ds.filter isL) → Q (.ref p) H'
section
variable {P : Program} {w : World} {K : PySem.W.Frag} {mg : Str → Option Value} {base : Heap}
theorem scAmong : FnScope ["values", "value"] ["values"] (defScope sAmong) := ⟨rfl, rfl, rfl, by decide +kernel, rfl, by decide +kernel, by decide +kernel⟩
theorem ok_among {f : Addr} {fd : FuncData} (F : Fun K "lists_among" "lists_among" sAmong f fd) (T : Nm mg) : FnOk P w K mg base CX0 1 f fd ["values"] (spAmong K) := by
  refine F.ok scAmong (fun vs H Q E h => ?_) (fun cdv A outer s H vs Q E hr h => ?_)
  · obtain ⟨a, ws, ds, Hv, rfl, _⟩ := h
    rfl
  · obtain ⟨a, ws, ds, Hv, rfl, ha, sv, hw, hn, q⟩ := h
    refine ⟨_, pss_one (ps_ret (pe_lc (own := [("value", 1)]) (g := gName 1) (tt := tB (tCB (rIsi K) (tCons (tVar 1) (tCons (tC (.ty "list")) tNil)))) (te := tVar 1) rfl scAmong.nd (pi_list (pv 0))
      (blkOk_by (own := [("value", 1)]) (N := ["values", "value"]) (sc := defScope sAmong) (by decide +kernel)) (fun _ _ _ _ _ => pg_name (i := 1) scAmong.nd rfl (Or.inl rfl))
      (fun _ _ _ _ _ => pts_one (pt_val (pe_callB call_isi (by rfl) T.isi (by decide +kernel) (pa_cons (pv 1) (pa_cons (pe_bltn (v := .ty "list") (by rfl) T.lst (by decide +kernel) rfl) pa_nil))))) (fun _ _ _ _ _ => pv 1))), ?_⟩
    refine ⟨_, rfl, a, rfl, ⟨_, SqL.of ha⟩, fun D nD => lc_list (K := K) (a := a) (xs := ws) (fun i H' => ∃ us, H' D = some (.lst us) ∧ DpAll K Hv us ((ds.take i).filter isL) ∧ Same H H') ⟨[], upd_same, .nil, same_upd nD⟩ (fun i H' hi ⟨_, _, _, s2⟩ => SqL.of (s2 _ _ ha)) ?_ ?_⟩
    · rintro i x H' hx ⟨us, k1, k2, k3⟩
      obtain ⟨d, hd, dp⟩ := DpAll.get hw hx
      refine ⟨rfl, _, rfl, x, .ty "list", _, .type "list", _, rfl, .ty _, dp_ty (dp_same (sv.trans k3) _ _ dp), kitL d K, _, rfl, ?_⟩
      have tf := take_filter hd
      by_cases e : isL d = true
      · rw [show (tyD d == "list") = true from e]
        have ul := DpAll.length k2
        have fl := List.length_filter_le isL (ds.take i)
        have tl : (ds.take i).length ≤ ds.length := by rw [List.length_take]; omega
        refine iteT ⟨_, rfl, us, k1, Nat.lt_of_le_of_lt (show us.length ≤ 10000 by omega) (by decide), us ++ [x], upd_same, ?_, same_fresh nD k3⟩
        rw [tf, if_pos e]
        exact DpAll.append k2 (.cons dp .nil)
      · have e' : isL d = false := by simpa using e
        rw [show (tyD d == "list") = false from e']
        refine iteF ⟨us, k1, ?_, k3⟩
        rw [tf, if_neg e, List.append_nil]
        exact k2
    · rintro H' ⟨us, k1, k2, k3⟩
      rw [DpAll.length hw, List.take_length] at k2
      exact q H' D us k3 nD k1 k2
theorem scDepthOf : FnScope ["value", "depth", "layer", "row", "item"] ["value"] (defScope sDepthOf) := ⟨rfl, rfl, rfl, by decide +kernel, rfl, by decide +kernel, by decide +kernel⟩
theorem ok_depthOf {f fA : Addr} {fd fdA : FuncData} (F : Fun K "depth_of" "depth_of" sDepthOf f fd) (GA : FnOk P w K mg base CX0 1 fA fdA ["values"] (spAmong K)) (gA : mg "lists_among" = some (.ref fA)) (kA : PySem.W.keepIn K (.ref fA) = true) (bA : Binds K fdA ["values"] []) :
    FnOk P w K mg base CX0 2 f fd ["value"] (spVal K fun d => .int (d.depth : Nat)) := by
  refine F.ok scDepthOf (fun vs H Q E h => ?_) (fun cdv A outer s H vs Q E hr h => ?_)
  · obtain ⟨v, d, Hv, rfl, _⟩ := h
    rfl
  · obtain ⟨v, d, Hv, rfl, sv, hd, hv, hz, q⟩ := h
    refine ⟨_, pss_cons (ps_set (i := 1) scDepthOf.nd rfl (.inl rfl) pe_int)
      (pss_cons (ps_set (i := 2) scDepthOf.nd rfl (.inl rfl) (pe_call GA hr (by rfl) gA kA bA .nil pass0 (pa_cons (pe_lst (pa_cons (pv 0) pa_nil)) pa_nil)))
      (pss_cons (ps_while PassesOwn.never (pt_truth (pv 2) (by intro _; rfl))
        (pss_cons (ps_set (i := 1) scDepthOf.nd rfl (.inl rfl) (pe_op op_add (pv 1) pe_int))
        (pss_one (ps_set (i := 2) scDepthOf.nd rfl (.inl rfl) (pe_call GA hr (by rfl) gA kA bA .nil pass0 (pa_cons (pe_lc2 (own := [("row", 3), ("item", 4)]) (vs1 := [4]) (g := gName 3) (g1 := gName 4) (tt := tYes) (tt1 := tYes) (wi1 := iList K (tVar 3)) (te := tVar 4) rfl scDepthOf.nd (pi_list (pv 2))
          (blkOk_by (own := [("row", 3), ("item", 4)]) (N := ["value", "depth", "layer", "row", "item"]) (sc := defScope sDepthOf) (by decide +kernel)) (by decide) (fun _ _ _ _ _ => pg_name (i := 3) scDepthOf.nd rfl (Or.inl rfl)) (fun _ _ _ _ _ => pts_nil)
          (fun _ _ _ _ _ => pi_list (pv 3)) (fun _ _ _ _ _ => pg_name (i := 4) scDepthOf.nd rfl (Or.inl rfl)) (fun _ _ _ _ _ => pts_nil) (fun _ _ _ _ _ => pv 4)) pa_nil))))))
      (pss_one (ps_ret (pv 1))))), ?_⟩
    refine ⟨_, rfl, (by show 1 ≤ sizeLine; decide), fun l nl => ⟨l, [v], [d], Hv, rfl, upd_same, sv.trans (same_upd nl), .cons hd .nil, (by show 1 ≤ 10000; decide), fun H1 p us sm np hp hus => ?_⟩⟩
    have s1 : Same H H1 := (same_upd nl).trans sm
    refine ⟨fun m σ H2 => ∃ (k : Nat) (r : Addr) (ws : List V) (ds : List PyData), σ = [some v, some (.int (k : Nat)), some (.ref r), none, none] ∧ H2 r = some (.lst ws) ∧ Same H H2 ∧ DpAll K Hv ws ds ∧ valAll ds ∧ (∀ e ∈ ds, isL e = true) ∧ k + PyData.depthAll ds = d.depth ∧ szAll ds ≤ 10000 ∧ m = szAll ds,
      ⟨_, 0, p, us, [d].filter isL, rfl, hp, s1, hus, val_filter ⟨hv, trivial⟩, fun e he => (List.mem_filter.mp he).2, ?_, ?_, rfl⟩, ?_⟩
    · rw [depth_filter (ds := [d]) ⟨hv, trivial⟩]
      simp [PyData.depthAll]
    · have := sz_filter (ds := [d])
      have e : szAll [d] = sz d := by simp [szAll]
      omega
    rintro m σ H2 ⟨k, r, ws, ds, rfl, hr2, s2, hw, hvs, hl, hk, hs, rfl⟩
    refine ⟨_, rfl, _, .inl ⟨_, SqL.of hr2, rfl⟩, ?_⟩
    cases hw with
    | nil =>
      refine iteF ⟨_, rfl, ?_⟩
      have e : k = d.depth := by simpa [PyData.depthAll] using hk
      rw [e]
      exact q H2 s2
    | @cons v1 ws1 d1 ds1 h1 h2 =>
      have hw : DpAll K Hv (v1 :: ws1) (d1 :: ds1) := .cons h1 h2
      refine iteT ?_
      obtain ⟨c1, c2, c3⟩ := kids_all hvs hl
      have c3 := c3 (fun z => nomatch z)
      refine ⟨fun σ' H3 => ∃ (k' : Nat) (r' : Addr) (ws' : List V), σ' = [some v, some (.int (k' : Nat)), some (.ref r'), none, none] ∧ H3 r' = some (.lst ws') ∧ Same H H3 ∧ DpAll K Hv ws' (((d1 :: ds1).flatMap kids).filter isL) ∧ k' = k + 1, ?_, ?_⟩
      · rintro σ' H3 ⟨k', r', ws', rfl, g1, g2, g3, rfl⟩
        have f1 := sz_filter (ds := (d1 :: ds1).flatMap kids)
        rw [List.length_cons] at c2
        refine ⟨szAll (((d1 :: ds1).flatMap kids).filter isL), by omega, k + 1, r', ws', _, rfl, g1, g2, g3, val_filter c1, fun e he => (List.mem_filter.mp he).2, ?_, by omega, rfl⟩
        rw [depth_filter c1]
        omega
      refine ⟨_, rfl, _, _, rfl, rfl, ?_⟩
      generalize hds : d1 :: ds1 = ds at *
      generalize hws : v1 :: ws1 = ws at *
      have wl := DpAll.length hw
      refine ⟨_, rfl, r, rfl, ⟨_, SqL.of hr2⟩, fun D nD => ?_⟩
      refine ⟨fun i m H3 => m = ws.length - i ∧ i ≤ ws.length ∧ ∃ cw, H3 D = some (.lst cw) ∧ DpAll K Hv cw ((ds.take i).flatMap kids) ∧ Same H2 H3, ⟨_, rfl, Nat.zero_le _, [], upd_same, .nil, same_upd nD⟩, ?_⟩
      rintro i m H3 ⟨rfl, hi, cw, g1, g2, g3⟩
      have hr3 := g3 _ _ hr2
      by_cases hlt : i < ws.length
      · refine .inr ⟨⟨ws, ws[i], SqL.of hr3, List.getElem?_eq_getElem hlt⟩, fun H4 => ∃ cw, H4 D = some (.lst cw) ∧ DpAll K Hv cw ((ds.take (i + 1)).flatMap kids) ∧ Same H2 H4, fun H4 ⟨cw, a1, a2, a3⟩ => ⟨_, by omega, rfl, hlt, cw, a1, a2, a3⟩, fun x H4 hy => ?_⟩
        obtain ⟨rfl, fx⟩ := hy
        have hx := fx _ (SqL.of hr3)
        obtain ⟨e, he, dp⟩ := DpAll.get hw hx
        have el := hl e (List.mem_of_getElem? he)
        have tk : (ds.take (i + 1)).flatMap kids = (ds.take i).flatMap kids ++ kids e := by
          rw [List.take_add_one, he, List.flatMap_append]
          simp
        cases dp with
        | @lst a xs es x1 x2 =>
          have xl := DpAll.length x2
          have tk' : (ds.take (i + 1)).flatMap kids = (ds.take i).flatMap kids ++ es := tk
          refine ⟨rfl, _, rfl, a, rfl, ⟨_, g3.seq (s2.seq (sv.seq x1))⟩, fun j m H5 => m = xs.length - j ∧ j ≤ xs.length ∧ ∃ cw, H5 D = some (.lst cw) ∧ DpAll K Hv cw ((ds.take i).flatMap kids ++ es.take j) ∧ Same H2 H5, ⟨_, rfl, Nat.zero_le _, cw, g1, by simpa using g2, g3⟩, ?_⟩
          rintro j m H5 ⟨rfl, hj, cw5, a1, a2, a3⟩
          have sq : SqL K H5 a xs := a3.seq (s2.seq (sv.seq x1))
          by_cases hjl : j < xs.length
          · refine .inr ⟨⟨xs, xs[j], sq, List.getElem?_eq_getElem hjl⟩, fun H6 => ∃ cw, H6 D = some (.lst cw) ∧ DpAll K Hv cw ((ds.take i).flatMap kids ++ es.take (j + 1)) ∧ Same H2 H6, fun H6 ⟨cw, b1, b2, b3⟩ => ⟨_, by omega, rfl, hjl, cw, b1, b2, b3⟩, fun y H6 hy => ?_⟩
            obtain ⟨rfl, fy⟩ := hy
            obtain ⟨ej, hej, dj⟩ := DpAll.get x2 (fy _ sq)
            have lenB : cw5.length ≤ 10000 := by
              have e1 := DpAll.length a2
              have e2 := szAll_len ((ds.take i).flatMap kids ++ es.take j)
              have e3 : szAll ((ds.take i).flatMap kids ++ es.take j) ≤ szAll (ds.flatMap kids) := by
                have e4 : ds.flatMap kids = (ds.take i).flatMap kids ++ (es.take j ++ (es.drop j ++ (ds.drop (i + 1)).flatMap kids)) := by
                  rw [← List.append_assoc (es.take j), List.take_append_drop, ← List.append_assoc, ← tk', ← List.flatMap_append, List.take_append_drop]
                rw [e4, szAll_append, szAll_append, szAll_append]
                omega
              omega
            refine ⟨rfl, _, rfl, cw5, a1, Nat.lt_of_le_of_lt lenB (by decide), cw5 ++ [y], upd_same, ?_, same_fresh nD a3⟩
            rw [List.take_add_one, hej, ← List.append_assoc]
            exact DpAll.append a2 (.cons dj .nil)
          · refine .inl ⟨⟨xs, sq, by omega⟩, cw5, a1, ?_, a3⟩
            have e1 : es.take j = es := List.take_of_length_le (by omega)
            rw [e1] at a2
            rw [tk']
            exact a2
        | _ => simp [isL, tyD] at el
      · refine .inl ⟨⟨ws, SqL.of hr3, by omega⟩, ?_⟩
        have e1 : ds.take i = ds := List.take_of_length_le (by omega)
        rw [e1] at g2
        have lk : (ds.flatMap kids).length ≤ 10000 := by
          have := szAll_len (ds.flatMap kids)
          omega
        refine ⟨D, cw, ds.flatMap kids, Hv, rfl, g1, sv.trans (s2.trans g3), g2, lk, fun H4 p4 us4 s4 np4 hp4 hus4 => ?_⟩
        exact ⟨k + 1, p4, us4, by simp, hp4, (s2.trans g3).trans s4, hus4, rfl⟩
end
end TX
namespace TX
open PySem PySem.Spec PyProof.Rows L2
/-! ### the classes of the errors -/
structure Cl (K : PySem.W.Frag) (mg : Str → Option Value) (TE : Addr) (nm : Str) (C : Addr) : Prop where
  mgC : mg nm = some (.ref C)
  ox : OexC K C
  ec : ExcC K C
  xf : XfC K C
  ty : PySem.W.typeIn K (.ref C) = some (.type "type")
  mro : ∃ cd, PySem.W.clsIn K C = some cd ∧ cd.mro = [.ref C, .ref TE, .type "ValueError", .type "Exception", .type "BaseException", .type "object"]
theorem mro_is {K : PySem.W.Frag} {C : Addr} {cd : ClassData} {l : List Value} {b : Value} (h : PySem.W.clsIn K C = some cd) (e : cd.mro = l) (hl : l.isEmpty = false) : PySem.W.mroIn K C b = some (l.contains b) := by
  unfold PySem.W.mroIn
  rw [h]
  show (if cd.mro.isEmpty = true then none else some (cd.mro.contains b)) = _
  rw [e, hl, if_neg Bool.false_ne_true]
theorem ref_beq (a b : Addr) : (Value.ref a == Value.ref b) = decide (a = b) := by
  by_cases h : a = b
  · rw [h, decide_eq_true rfl]
    exact beq_self_eq_true _
  · rw [decide_eq_false h]
    exact beq_eq_false_iff_ne.mpr fun e => h (Value.ref.inj e)
section
variable {K : PySem.W.Frag} {mg : Str → Option Value} {TE C D : Addr} {nm nm' : Str}
theorem kit_same (c : Cl K mg TE nm C) : PySem.W.kitOne K (.ref C) (.ref C) = some true := by
  unfold PySem.W.kitOne
  rw [beq_self_eq_true, if_pos rfl]
theorem kit_cls (c : Cl K mg TE nm C) {cd : ClassData} (hd : PySem.W.clsIn K D = some cd) (ht : PySem.W.typeIn K (.ref D) = some (.type "type")) (hne : C ≠ D) : PySem.W.kitOne K (.ref C) (.ref D) = some (decide (D = TE)) := by
  obtain ⟨c1, h1, h2⟩ := c.mro
  have e1 : (Value.ref C == Value.ref D) = false := by
    rw [ref_beq]
    exact decide_eq_false hne
  have e2 : ((PySem.W.clsIn K D).isSome && PySem.W.typeIn K (.ref D) == some (.type "type")) = true := by
    rw [hd, ht]
    rfl
  unfold PySem.W.kitOne
  rw [e1, if_neg Bool.false_ne_true]
  show (if ((PySem.W.clsIn K D).isSome && PySem.W.typeIn K (.ref D) == some (.type "type")) = true then PySem.W.mroIn K C (.ref D) else none) = _
  rw [if_pos e2, mro_is h1 h2 rfl]
  have e3 : (Value.ref D == Value.ref C) = false := by
    rw [ref_beq]
    exact decide_eq_false (Ne.symm hne)
  simp only [List.contains_cons, e3, ref_beq, Bool.false_or]
  have f1 : (Value.ref D == Value.type "ValueError") = false := rfl
  have f2 : (Value.ref D == Value.type "Exception") = false := rfl
  have f3 : (Value.ref D == Value.type "BaseException") = false := rfl
  have f4 : (Value.ref D == Value.type "object") = false := rfl
  simp [f1, f2, f3, f4]
theorem kit_ve (c : Cl K mg TE nm C) : PySem.W.kitOne K (.ref C) (.type "ValueError") = some true := by
  obtain ⟨c1, h1, h2⟩ := c.mro
  unfold PySem.W.kitOne
  rw [show (Value.ref C == Value.type "ValueError") = false from rfl, if_neg Bool.false_ne_true]
  show (if PySem.W.kitMeta "ValueError" = true then PySem.W.mroIn K C (.type "ValueError") else none) = _
  rw [if_pos (by decide +kernel), mro_is h1 h2 rfl]
  have f0 : (Value.type "ValueError" == Value.ref C) = false := rfl
  have f1 : (Value.type "ValueError" == Value.ref TE) = false := rfl
  have f2 : (Value.type "ValueError" == Value.type "ValueError") = true := by decide +kernel
  simp only [List.contains_cons, f0, f1, f2, Bool.true_or, Bool.or_true]
/-- what «except TextorlistError» takes -/
theorem exm_te (c : Cl K mg TE nm C) (hs : PySem.W.subIn K (.ref TE) (.type "BaseException") = some true) (hd : PySem.W.hasDictIn K TE = true) (ht : PySem.W.typeIn K (.ref TE) = some (.type "type")) : PySem.W.exmOne K (.ref C) (.ref TE) = some true := by
  obtain ⟨c1, h1, h2⟩ := c.mro
  refine PySem.W.exm_ref hs hd ht ?_
  show PySem.W.mroIn K C (.ref TE) = _
  rw [mro_is h1 h2 rfl]
  have f1 : (Value.ref TE == Value.ref TE) = true := beq_self_eq_true _
  simp only [List.contains_cons, f1, Bool.true_or, Bool.or_true]
end
def rIsE3 (K : PySem.W.Frag) (a : Addr) (cls : Value) (d : Option Addr) : List V → Hp → VK → Prop := fun xs H Q => ∃ (D : Addr) (c : V) (cv : Value) (b : Bool), cls = .ref D ∧ ExcC K D ∧ xs = [.ref a, c] ∧ ClsV c cv ∧ PySem.W.kitOne K (.ref D) cv = some b ∧ (∀ dd, d = some dd → ∃ fs, H dd = some (.xd fs)) ∧ Q (.bl b) H
theorem call_isE3 {X : Cx} {a : Addr} {oe : Obj} {cls : Value} {d : Option Addr} {pn : List (Addr × Obj)} (hz : Zc cls d oe) (hf : ∃ vs, oe.data = .fields vs) : CallR (X.suite a ((a, oe) :: pn)) (.builtin "isinstance") (rIsE3 X.K a cls d) := by
  intro pins s σ H xs us Q I r h
  obtain ⟨D, c, cv, b, rfl, C, h1, h2, h3, h4, q⟩ := h
  exact call_isE2 C hz hf pins s σ H xs us Q I r ⟨c, cv, b, h1, h2, h3, h4, q⟩
theorem take0 {X : Cx} : Takes X (fun _ _ _ _ => False) := fun _ _ ⟨_, _, _, _, _, _, _, _, _, _, _, _, _, _, _, _, z⟩ => z.elim
/-- what the top's row of facts says of an error's class -/
theorem cl_of {K : PySem.W.Frag} {mg : Str → Option Value} {TE C : Addr} {x nm q : Str} {N : Addr} {bs : List Value} {sn : List Str} {sub : List Value} {ab : Bool} {col : Option Bool} {dd : Option Addr} {m0 m1 m2 m3 m5 : Option Value}
    (g : mg x = some (.ref C)) (l : K.lookup C = some (excClassObj nm q C N bs [.ref TE, .type "ValueError", .type "Exception", .type "BaseException", .type "object"] true sn sub ab col dd m0 m1 m2 m3 m5 "ValueError.__new__"))
    (sa : PySem.W.findIn K (.ref C) "__setattr__" = some (some (.builtin "object.__setattr__"))) (ga : PySem.W.findIn K (.ref C) "__getattribute__" = some (some (.builtin "BaseException.__getattribute__"))) (gg : PySem.W.findIn K (.ref C) "__getattr__" = some none)
    (ha : PySem.W.findIn K (.ref C) "__class__" = some (some (.builtin "object.__class__"))) (hn : PySem.W.specialIn K (.builtin "object.__class__") "__get__" = some (some (.builtin "getset_descriptor.__get__"))) (ht : PySem.W.takesIn K (.builtin "object.__class__") = some true)
    (kc : PySem.W.keepIn K (.ref C) = true) : Cl K mg TE x C := by
  have hc : ∃ cd, PySem.W.clsIn K C = some cd ∧ cd.mro = [.ref C, .ref TE, .type "ValueError", .type "Exception", .type "BaseException", .type "object"] ∧ cd.hasDict = true := by
    refine ⟨{ name := nm, bases := bs, mro := [.ref C, .ref TE, .type "ValueError", .type "Exception", .type "BaseException", .type "object"], ns := N, qualname := q, hasDict := true, slotNames := sn, subclasses := sub, abstract := ab, collection := col, hasDel := false }, ?_, ?_, ?_⟩
    · unfold PySem.W.clsIn
      rw [l] <;> rfl
    · rfl
    · rfl
  obtain ⟨cd, h1, h2, h3⟩ := hc
  have has : ∀ T : String, PySem.W.mroIn K C (.type T) = some ((Value.type T == Value.type "ValueError") || ((Value.type T == Value.type "Exception") || ((Value.type T == Value.type "BaseException") || ((Value.type T == Value.type "object") || false)))) := by
    intro T
    rw [mro_is h1 h2 rfl]
    have f0 : (Value.type T == Value.ref C) = false := rfl
    have f1 : (Value.type T == Value.ref TE) = false := rfl
    simp only [List.contains_cons, f0, f1, Bool.false_or, List.contains_nil]
  have sB : PySem.W.subIn K (.ref C) (.type "BaseException") = some true := (has "BaseException").trans (by decide +kernel)
  have sO : PySem.W.mroIn K C (.type "object") = some true := (has "object").trans (by decide +kernel)
  have hd : PySem.W.hasDictIn K C = true := by
    unfold PySem.W.hasDictIn
    rw [h1]
    exact h3
  have ty : PySem.W.typeIn K (.ref C) = some (.type "type") := by
    show (K.lookup C).map (·.cls) = _
    rw [l] <;> rfl
  exact ⟨g, ⟨⟨nm, q, N, bs, _, sn, sub, ab, col, dd, m0, m1, m2, m3, m5, l, rfl⟩, sa, sB, ty, kc⟩, ⟨ga, gg, sB, hd, ha, hn, ht, sO⟩, ⟨ga, gg, sB, hd⟩, ty, cd, h1, h2⟩
theorem passF {X : Cx} : Passes (L2.CX X.prog X.w) X (fun _ _ _ => False) := fun _ _ _ _ _ _ _ ⟨_, _, _, _, _, _, _, _, _, _, _, _, z⟩ => z.elim
def spIn0 : Sp := fun vs H Q _ => ∃ (a : Addr), vs = [.ref a] ∧ Q .non H
/-- the items of a value, as data -/
def itemsD : PyData → List PyData
  | .str x => signD x
  | .list es => es
  | _ => []
theorem signs_all : ∀ l : List Nat, (∀ c ∈ l, 97 ≤ c ∧ c ≤ 122) → valAll (l.map fun c => PyData.str ⟨#[c]⟩) ∧ szAll (l.map fun c => PyData.str ⟨#[c]⟩) = 2 * l.length ∧ PyData.depthAll (l.map fun c => PyData.str ⟨#[c]⟩) = 0
  | [], _ => ⟨trivial, rfl, rfl⟩
  | c :: l, h => by
    obtain ⟨i1, i2, i3⟩ := signs_all l fun x hx => h x (List.mem_cons_of_mem _ hx)
    refine ⟨⟨?_, i1⟩, ?_, ?_⟩
    · show Lt ⟨#[c]⟩
      intro x hx
      have e : x = c := by simpa using hx
      rw [e]
      exact h c List.mem_cons_self
    · rw [List.map_cons, szAll, i2, List.length_cons]
      have e : sz (PyData.str ⟨#[c]⟩) = 2 := rfl
      omega
    · rw [List.map_cons, PyData.depthAll, i3]
      simp [PyData.depth]
theorem items_all {d : PyData} (hv : valD d) : valAll (itemsD d) ∧ szAll (itemsD d) ≤ 2 * sz d ∧ PyData.depthAll (itemsD d) ≤ d.depth := by
  cases d with
  | str x =>
    obtain ⟨h1, h2, h3⟩ := signs_all x.cps.toList hv
    refine ⟨h1, ?_, by simp only [itemsD, signD, h3]; omega⟩
    have e : x.length = x.cps.size := rfl
    simp only [itemsD, signD, sz, h2, Array.length_toList]
    omega
  | list es =>
    refine ⟨hv, ?_, ?_⟩
    · simp only [itemsD, sz]
      omega
    · simp only [itemsD, PyData.depth]
      omega
  | none => exact ⟨trivial, by simp [itemsD, szAll], by simp [itemsD, PyData.depthAll]⟩
  | bool _ => exact hv.elim
  | int _ => exact hv.elim
  | tuple _ => exact hv.elim
  | dict _ => exact hv.elim
def spItemsOf (K : PySem.W.Frag) (CN : Addr) : Sp := fun vs H Q E => ∃ (v : V) (d : PyData) (Hv : Hp), vs = [v] ∧ Same Hv H ∧ Dp K Hv v d ∧ valD d ∧ sz d ≤ 10000 ∧ (d = .none → ∀ H', Same H H' → E (.ref CN) none H') ∧
  (d ≠ .none → ∀ (H' : Hp) (v' : V) (S : List Addr), Same H H' → Tr H' v' (.list (itemsD d)) S → (∀ b ∈ S, H b = none) → Q v' H')
section
variable {P : Program} {w : World} {K : PySem.W.Frag} {mg : Str → Option Value} {base : Heap} {TE CN : Addr}
theorem scIn : FnScope ["self"] ["self"] (defScope mNoItems_init) := ⟨rfl, rfl, rfl, by decide +kernel, rfl, by decide +kernel, by decide +kernel⟩
theorem ok_in {f : Addr} {fd : FuncData} (F : Fun K "__init__" "NoItems.__init__" mNoItems_init f fd) : FnOk P w K mg base CX0 1 f fd ["self"] spIn0 := by
  refine F.ok scIn (fun vs H Q E h => ?_) (fun cdv A outer s H vs Q E hr h => ?_)
  · obtain ⟨a, rfl, _⟩ := h
    rfl
  · obtain ⟨a, rfl, q⟩ := h
    exact ⟨_, pss_one ps_pass, q⟩
theorem scItemsOf : FnScope ["value"] ["value"] (defScope sItemsOf) := ⟨rfl, rfl, rfl, by decide +kernel, rfl, by decide +kernel, by decide +kernel⟩
theorem ok_itemsOf {f fC fI : Addr} {fd fdC fdI : FuncData} (F : Fun K "items_of" "items_of" sItemsOf f fd) (T : Nm mg) (c : Cl K mg TE "NoItems" CN) (iC : PySem.W.findIn K (.ref CN) "__init__" = some (some (.ref fI))) (tI : PySem.W.typeIn K (.ref fI) = some (.type "function"))
    (GI : FnOk P w K mg base CX0 1 fI fdI ["self"] spIn0) (bI : Binds K fdI ["self"] []) (GC : FnOk P w K mg base CX0 2 fC fdC ["thing"] (spCopyT K)) (gC : mg "copy_of" = some (.ref fC)) (kC : PySem.W.keepIn K (.ref fC) = true) (bC : Binds K fdC ["thing"] []) :
    FnOk P w K mg base (L2.CX P w) 3 f fd ["value"] (spItemsOf K CN) := by
  refine F.okX scItemsOf (fun vs H Q E h => ?_) (fun cdv A outer s H vs Q E hr h => ?_)
  · obtain ⟨v, d, Hv, rfl, _⟩ := h
    rfl
  · obtain ⟨v, d, Hv, rfl, sv, hd, hv, hz, q1, q2⟩ := h
    refine ⟨_, pss_cons (ps_if (pt_cmp (pc_isN (pv 0))) (pss_one (ps_raise rfl (takes_of rfl rfl rfl rfl) (pmk_oexN c.ox iC tI GI hr bI pass0 (by rfl) c.mgC))) pss_nil)
      (pss_one (ps_ret (pe_call GC hr (by rfl) gC kC bC .nil pass0 (pa_cons (pe_alt (pe_callTy call_list_of (by rfl) T.lst (by decide +kernel) (pa_cons (pv 0) pa_nil)) (pe_callTy (call_list_s rfl) (by rfl) T.lst (by decide +kernel) (pa_cons (pv 0) pa_nil))) pa_nil)))), ?_⟩
    obtain ⟨i1, i2, i3⟩ := items_all hv
    have hnd : nd (.list (itemsD d)) ≤ 1000000 := by
      have := ndAll_sz _ i1
      simp only [nd]
      omega
    cases hd with
    | non =>
      refine ⟨_, rfl, _, rfl, iteT ?_⟩
      intro a na
      refine ⟨a, rfl, rfl, upd_same, q1 rfl _ fun b o e => ?_⟩
      rw [del_ne (ne_of_none e na), upd_ne (ne_of_none e na)]
      exact e
    | str x =>
      refine ⟨_, rfl, _, rfl, iteF (.inr ⟨_, rfl, x, rfl, ?_, fun l nl => ?_⟩)⟩
      · simp only [sz] at hz
        exact Nat.le_trans (show x.length ≤ 10000 by omega) (by decide)
      · exact ⟨.ref l, .list (signD x), _, rfl, Same.refl _, .lst (SqL.of upd_same) (dp_signs x), hnd, fun H' v' S sm tr nw => q2 (fun z => nomatch z) H' v' S ((same_upd nl).trans sm) tr fun b hb => (same_upd nl).free (nw b hb)⟩
    | @lst a xs es h1 h2 =>
      refine ⟨_, rfl, _, rfl, iteF (.inl ⟨_, rfl, a, xs, rfl, .inl (sv.seq h1), fun l nl => ?_⟩)⟩
      exact ⟨.ref l, .list es, _, rfl, Same.refl _, .lst (SqL.of upd_same) (dpAll_same (sv.trans (same_upd nl)) _ _ h2), hnd, fun H' v' S sm tr nw => q2 (fun z => nomatch z) H' v' S ((same_upd nl).trans sm) tr fun b hb => (same_upd nl).free (nw b hb)⟩
    | bl _ => exact hv.elim
    | int _ => exact hv.elim
    | tup _ _ => exact hv.elim
/-! ### the law's own depth and kind -/
end
end TX
namespace TX
open PySem PySem.Spec PyProof.Rows L2
structure Made (K : PySem.W.Frag) (H : Hp) (a C dx : Addr) (fs : List (Str × V)) (H2 : Hp) (ws : List V) (ds : List PyData) : Prop where
  ea : H2 a = some (exo a C (some dx))
  ed : H2 dx = some (exd dx fs)
  new : H dx = none
  ne : dx ≠ a
  keep : ∀ b o, b ≠ a → H b = some o → H2 b = some o
  dat : DpAll K (del (del H2 a) dx) ws ds
def spIn1 (K : PySem.W.Frag) (C : Addr) (fld : Str) : Sp := fun vs H Q _ => ∃ (a : Addr) (v : V) (d : PyData) (Hv : Hp), vs = [.ref a, v] ∧ OexC K C ∧ PySem.W.findIn K (.ref C) fld = some none ∧ H a = some (exo a C none) ∧ Same Hv H ∧ Dp K Hv v d ∧ nd d ≤ 1000000 ∧
  ∀ (H2 : Hp) (dx : Addr) (w : V), Made K H a C dx [(fld, w)] H2 [w] [d] → Q .non H2
theorem cut_same {H H' : Hp} {a dx : Addr} {o : HO} {u u' : HO} (ha : H a = some o) (hd : H' dx = none) : Same (newp H H') (del (del (upd (upd H' dx u) a u') a) dx) := fun b x e => by
  cases h : H b with
  | some y =>
    rw [newp_old h] at e
    cases e
  | none =>
    rw [newp_at h] at e
    have ba : b ≠ a := fun z => by
      rw [z, ha] at h
      cases h
    have bd : b ≠ dx := fun z => by
      rw [z, hd] at e
      cases e
    rw [del_ne bd, del_ne ba, upd_ne ba, upd_ne bd]
    exact e
theorem made_same {K : PySem.W.Frag} {H H2 : Hp} {a C dx : Addr} {fs fs' : List (Str × V)} {ws : List V} {ds : List PyData} (na : H a = none) (M : Made K (upd H a (exo a C none)) a C dx fs H2 ws ds) :
    Same H (upd (del H2 a) dx (.xd fs')) ∧ H dx = none ∧ DpAll K (upd (del H2 a) dx (.xd fs')) ws ds := by
  have hd : H dx = none := by
    have e := M.new
    rw [upd_ne M.ne] at e
    exact e
  refine ⟨fun b o e => ?_, hd, dpAll_same (fun b o e => ?_) _ _ M.dat⟩
  · have ba := ne_of_none e na
    rw [upd_ne (ne_of_none e hd), del_ne ba]
    exact M.keep b o ba (by rw [upd_ne ba]; exact e)
  · by_cases hb : b = dx
    · rw [hb, del_same] at e
      cases e
    · rw [upd_ne hb]
      rw [del_ne hb] at e
      exact e
def tFe (K : PySem.W.Frag) (a : Addr) (cls : Value) (d : Option Addr) (f : Str) (te : TE) : TE := fun σ H Q => ∃ C, cls = .ref C ∧ XfC K C ∧ PySem.W.findIn K (.ref C) f = some none ∧ tXf a cls d C f te σ H Q
theorem pe_fe {X : Cx} {a : Addr} {oe : Obj} {cls : Value} {d : Option Addr} {pn : List (Addr × Obj)} {e : Expr} {te : TE} {pos : Pos} {n : Str} (hz : Zc cls d oe) (hf : ∃ vs, oe.data = .fields vs) (he : PE (X.suite a ((a, oe) :: pn)) e te)
    (hb : attributeBase e n X.env (eval e X.env) = eval e X.env := by rfl) : PE (X.suite a ((a, oe) :: pn)) (.Attribute e n pos) (tFe X.K a cls d n te) := by
  refine ⟨fun pins s σ H Q I h => ?_⟩
  obtain ⟨C, _, T, hno, h⟩ := h
  exact (pe_xf T hno hz hf he hb).run pins s σ H Q I h

def natV (p : List Nat) : List V := p.map fun i => V.int ((i : Nat) : Int)
def natD (p : List Nat) : List PyData := p.map fun i => PyData.int ((i : Nat) : Int)
theorem dp_nats {K : PySem.W.Frag} {H : Hp} : ∀ p : List Nat, DpAll K H (natV p) (natD p)
  | [] => .nil
  | i :: p => .cons (.int _) (dp_nats p)
theorem nd_nats : ∀ p : List Nat, ndAll (natD p) = p.length
  | [] => rfl
  | i :: p => by
    have := nd_nats p
    simp only [natD, List.map_cons, ndAll, nd, List.length_cons] at this ⊢
    omega
section
variable {P : Program} {w : World} {K : PySem.W.Frag} {mg : Str → Option Value} {base : Heap} {fC : Addr} {fdC : FuncData} {TE NP : Addr}
theorem scNp : FnScope ["self", "place"] ["self", "place"] (defScope mNoPlace_init) := ⟨rfl, rfl, rfl, by decide +kernel, rfl, by decide +kernel, by decide +kernel⟩
theorem ok_inNp {f C : Addr} {fd : FuncData} (F : Fun K "__init__" "NoPlace.__init__" mNoPlace_init f fd) (GC : FnOk P w K mg base CX0 2 fC fdC ["thing"] (spCopy K)) (gC : mg "copy_of" = some (.ref fC)) (kC : PySem.W.keepIn K (.ref fC) = true) (bC : Binds K fdC ["thing"] []) :
    FnOk P w K mg base CX0 3 f fd ["self", "place"] (spIn1 K C "place") := by
  refine F.ok scNp (fun vs H Q E h => ?_) (fun cdv A outer s H vs Q E hr h => ?_)
  · obtain ⟨a, v, d, Hv, rfl, _⟩ := h
    rfl
  · obtain ⟨a, v, d, Hv, rfl, ox, no, ha, sv, hd, hn, q⟩ := h
    refine ⟨_, pss_one (ps_ost (pv 0) (pe_call GC hr (by rfl) gC kC bC .nil pass0 (pa_cons (pv 1) pa_nil))), ?_⟩
    refine ⟨_, rfl, v, d, Hv, rfl, sv, hd, hn, fun H' v' sm hv' => ⟨_, rfl, a, C, rfl, ox, no, .inl ⟨sm _ _ ha, fun dx ndx hne => ?_⟩⟩⟩
    refine q _ dx v' ⟨upd_same, by rw [upd_ne hne, upd_same], sm.free ndx, hne, fun b o hb e => ?_, .cons (dp_same (cut_same ha ndx) _ _ hv') .nil⟩
    rw [upd_ne hb, upd_ne (ne_of_none (sm _ _ e) ndx)]
    exact sm _ _ e
end
end TX
namespace TX
open PySem PySem.Spec PyProof.Rows L2
theorem drop_at {es : List PyData} {i : Nat} {e : PyData} (h : es[i]? = some e) : es.drop i = e :: es.drop (i + 1) := by
  obtain ⟨hj, e1⟩ := List.getElem?_eq_some_iff.mp h
  rw [List.drop_eq_getElem_cons hj, e1]
/-! ### the part at a place, by the rules -/
def atD : PyData → List PyData → Option PyData
  | d, [] => some d
  | d, k :: ks => match k with
    | .int i => if 0 ≤ i then (match (innerD d)[i.toNat]? with
      | some e => atD e ks
      | none => none) else none
    | _ => none
def foundD (d : PyData) : PyData → Option PyData
  | .tuple ks => atD d ks
  | _ => none
theorem signs_sz : ∀ l : List Nat, szAll (l.map fun c => PyData.str ⟨#[c]⟩) = 2 * l.length
  | [] => rfl
  | c :: l => by
    have := signs_sz l
    have e : sz (PyData.str ⟨#[c]⟩) = 2 := rfl
    simp only [List.map_cons, szAll, List.length_cons]
    omega
theorem inner_sz (d : PyData) : szAll (innerD d) ≤ 2 * sz d := by
  cases d with
  | list es => simp only [innerD, sz]; omega
  | str x =>
    have e : x.length = x.cps.toList.length := by simp [Str.length]
    simp only [innerD]
    split
    · unfold signD
      rw [signs_sz]
      simp only [sz]
      omega
    · simp [szAll]
  | _ => simp [innerD, szAll]
/-- a part is no greater than what it is of, or one sign -/
theorem inner_get {d e : PyData} {i : Nat} (h : (innerD d)[i]? = some e) : sz e ≤ sz d ∨ sz e ≤ 2 := by
  cases d with
  | list es =>
    have := sz_get (ds := es) h
    simp only [sz]
    omega
  | str x =>
    right
    simp only [innerD] at h
    split at h
    · unfold signD at h
      rw [List.getElem?_map] at h
      cases h2 : x.cps.toList[i]? with
      | none =>
        rw [h2] at h
        cases h
      | some c =>
        rw [h2] at h
        cases h
        exact Nat.le_refl 2
    · simp at h
  | _ => simp [innerD] at h
def spFound (K : PySem.W.Frag) (NP : Addr) : Sp := fun vs H Q E => ∃ (v u : V) (d pl : PyData) (Hv : Hp), vs = [v, u] ∧ Same Hv H ∧ Dp K Hv v d ∧ Dp K Hv u pl ∧ sz d ≤ 10000 ∧ nd pl ≤ 1000000 ∧
  (∀ e, foundD d pl = some e → ∀ H' w, Same H H' → Dp K Hv w e → Q w H') ∧ (foundD d pl = none → ∀ (H3 : Hp) (dx : Addr) (w : V), Same H H3 → H3 dx = some (.xd [("place", w)]) → Dp K H3 w pl → E (.ref NP) (some dx) H3)
section
variable {P : Program} {w : World} {K : PySem.W.Frag} {mg : Str → Option Value} {base : Heap} {TE NP : Addr}
theorem scFound : FnScope ["value", "place", "part", "at", "inner"] ["value", "place"] (defScope s_found_at) := ⟨rfl, rfl, rfl, by decide +kernel, rfl, by decide +kernel, by decide +kernel⟩
theorem ok_found {f fW fN fI : Addr} {fd dW dN dI : FuncData} (F : Fun K "found_at" "found_at" s_found_at f fd) (T : Nm mg) (B : Nb mg) (c : Cl K mg TE "NoPlace" NP) (iC : PySem.W.findIn K (.ref NP) "__init__" = some (some (.ref fI))) (tI : PySem.W.typeIn K (.ref fI) = some (.type "function")) (nP : PySem.W.findIn K (.ref NP) "place" = some none)
    (GI : FnOk P w K mg base CX0 3 fI dI ["self", "place"] (spIn1 K NP "place")) (bI : Binds K dI ["self", "place"] [])
    (GW : FnOk P w K mg base CX0 1 fW dW ["thing"] (spWhole K)) (gW : mg "is_whole_number" = some (.ref fW)) (kW : PySem.W.keepIn K (.ref fW) = true) (bW : Binds K dW ["thing"] [])
    (GN : FnOk P w K mg base CX0 1 fN dN ["part"] (spInner K)) (gN : mg "inner_of" = some (.ref fN)) (kN : PySem.W.keepIn K (.ref fN) = true) (bN : Binds K dN ["part"] []) :
    FnOk P w K mg base (L2.CX P w) 5 f fd ["value", "place"] (spFound K NP) := by
  refine F.okX scFound (fun vs H Q E h => ?_) (fun cdv A outer s H vs Q E hr h => ?_)
  · obtain ⟨v, u, d, pl, Hv, rfl, _⟩ := h
    rfl
  · obtain ⟨v, u, d, pl, Hv, rfl, sv, hd, hu, hz, hnd, q1, q2⟩ := h
    have r1 : Room 1 _ := hr.mono (by decide)
    refine ⟨_, pss_cons (ps_if (pt_not (pt_val (pe_callB call_isi (by rfl) T.isi (by decide +kernel) (pa_cons (pv 1) (pa_cons (pe_bltn (v := .ty "tuple") (by rfl) T.tpl (by decide +kernel) rfl) pa_nil)))))
        (pss_one (ps_raise rfl (takes_of rfl rfl rfl rfl) (by exact (pmk_oex c.ox iC tI GI hr bI .nil pass0 (by rfl) c.mgC (pa_cons (pv 1) pa_nil))))) pss_nil) <|
      pss_cons (ps_set (i := 2) scFound.nd rfl (.inl rfl) (pv 0)) <|
      pss_cons (ps_for (passes_of rfl) rfl (pi_tup (pv 1)) (pg_name (i := 3) scFound.nd rfl (.inl rfl)) (
        pss_cons (ps_set (i := 4) scFound.nd rfl (.inl rfl) (pe_call GN r1 (by rfl) gN kN bN .nil pass0 (pa_cons (pv 2) pa_nil))) <|
        pss_cons (ps_if (PW.pt (pw_or (pt_not (pt_val (pe_call GW r1 (by rfl) gW kW bW .nil pass0 (pa_cons (pv 3) pa_nil)))) (pw_or1 (pt_not (pt_chain op_le op_lt pe_int (pv 3) (pe_callB call_len_seq (by rfl) B.len PySem.boot_len (pa_cons (pv 4) pa_nil)))))))
          (pss_one (ps_raise rfl (takes_of rfl rfl rfl rfl) (by exact (pmk_oex c.ox iC tI GI hr bI .nil pass0 (by rfl) c.mgC (pa_cons (pv 1) pa_nil))))) pss_nil) <|
        pss_one (ps_set (i := 2) scFound.nd rfl (.inl rfl) (pe_ix ix_list (pv 4) (pv 3) (fun _ _ => rfl))))) <|
      pss_one (ps_ret (pv 2)), ?_⟩
    have ty := dp_ty (dp_same sv _ _ hu)
    -- NoPlace(place)
    have bad : foundD d pl = none → ∀ (G : Hp), Same H G → ∀ {z : Q = Q}, ∀ a, G a = none → ∃ (a' : Addr) (v' : V) (d' : PyData) (Hw : Hp), [V.ref a, u] = [.ref a', v'] ∧ OexC K NP ∧ PySem.W.findIn K (.ref NP) "place" = some none ∧ (upd G a (exo a NP none)) a' = some (exo a' NP none) ∧ Same Hw (upd G a (exo a NP none)) ∧ Dp K Hw v' d' ∧ nd d' ≤ 1000000 ∧
        ∀ (H2 : Hp) (dx : Addr) (w : V), Made K (upd G a (exo a NP none)) a' NP dx [("place", w)] H2 [w] [d'] → V.non = .non ∧ ∃ (dy : Addr) (fs : List (Str × V)), H2 a = some (exo a NP (some dy)) ∧ H2 dy = some (exd dy fs) ∧ G dy = none ∧ E (.ref NP) (some dy) (upd (del H2 a) dy (.xd fs)) := by
      intro e G sm _ a na
      refine ⟨a, u, pl, Hv, rfl, c.ox, nP, upd_same, (sv.trans sm).trans (same_upd na), hu, hnd, fun H2 dx w M => ?_⟩
      obtain ⟨s2, nx, hw⟩ := made_same (fs' := [("place", w)]) na M
      cases hw with
      | cons hw _ => exact ⟨rfl, dx, _, M.ea, M.ed, nx, q2 e _ dx w (sm.trans s2) upd_same hw⟩
    refine ⟨_, rfl, u, .ty "tuple", .type (tyD pl), .type "tuple", _, rfl, .ty _, ty, kit1 pl K, _, rfl, ?_⟩
    by_cases e : (tyD pl == "tuple") = true
    · rw [e]
      refine iteF ?_
      cases hu with
      | @tup t us ks t1 t2 =>
        refine ⟨_, rfl, ?_⟩
        have tl := DpAll.length t2
        refine ⟨_, rfl, t, rfl, ⟨us, same_sqt sv t1⟩, for_it (walk_tup (K := K) (a := t) (xs := us)) (fun i σ H1 => ∃ (w : V) (e : PyData) (y3 y4 : Option V), σ = [some v, some (.ref t), some w, y3, y4] ∧ Same H H1 ∧ Dp K Hv w e ∧ sz e ≤ 10002 ∧ foundD d (.tuple ks) = atD e (ks.drop i)) ⟨v, d, none, none, rfl, Same.refl _, hd, by omega, rfl⟩ (fun i σ H1 hi ⟨_, _, _, _, _, sm, _⟩ => same_sqt (sv.trans sm) t1) ?_ ?_⟩
        · rintro i x σ H1 H1' hi ⟨w1, e1, y3, y4, rfl, sm, hw, hz1, hf⟩ ⟨e3, hx⟩
          obtain rfl : H1 = H1' := e3.symm
          obtain ⟨kd, hk, hkd⟩ := DpAll.get t2 hx
          rw [drop_at hk] at hf
          refine ⟨_, rfl, w1, e1, Hv, rfl, sv.trans sm, hw, by omega, fun H2 b xs s2 hb hin => ?_⟩
          have xl := DpAll.length hin
          have ixl := inner_sz e1
          have ixl2 := szAll_len (innerD e1)
          refine ⟨_, rfl, x, kd, Hv, rfl, (sv.trans sm).trans s2, hkd, _, rfl, ?_⟩
          have fail : atD e1 (kd :: ks.drop (i + 1)) = none → ∀ (G : Hp), Same H G → foundD d (.tuple ks) = none := fun z _ _ => hf.trans z
          by_cases hk1 : wholeB kd = true
          · rw [hk1]
            refine iteF ?_
            cases hkd with
            | int n =>
              by_cases h0 : 0 ≤ n
              · refine ⟨_, rfl, _, _, rfl, rfl, _, rfl, ?_⟩
                rw [decide_eq_true h0]
                refine iteT ⟨_, rfl, b, xs, rfl, .inl hb, _, _, rfl, rfl, _, rfl, ?_⟩
                by_cases h1 : n < ((xs.length : Nat) : Int)
                · rw [decide_eq_true h1]
                  refine iteF ?_
                  have hget : xs[n.toNat]? = some (xs[n.toNat]'(by omega)) := List.getElem?_eq_getElem (by omega)
                  obtain ⟨e2, he2, hd2⟩ := DpAll.get hin hget
                  have en : n = ((n.toNat : Nat) : Int) := by omega
                  refine ⟨_, rfl, _, rfl, b, xs, n, _, rfl, rfl, hb, by rw [en]; exact atI_nat hget, ?_⟩
                  refine ⟨_, e2, _, _, rfl, sm.trans s2, hd2, ?_, ?_⟩
                  · rcases inner_get he2 with z | z <;> omega
                  · rw [hf]
                    simp only [atD, if_pos h0, he2]
                · rw [decide_eq_false h1]
                  refine iteT ?_
                  have hn : foundD d (.tuple ks) = none := by
                    rw [hf]
                    have : (innerD e1)[n.toNat]? = none := List.getElem?_eq_none (by omega)
                    simp only [atD, if_pos h0, this]
                  exact ⟨_, rfl, (by show 1 ≤ 1000; decide), fun a na => bad hn _ (sm.trans s2) (z := rfl) a na⟩
              · refine ⟨_, rfl, _, _, rfl, rfl, _, rfl, ?_⟩
                rw [decide_eq_false h0]
                refine iteF ⟨_, rfl, iteT ?_⟩
                have hn : foundD d (.tuple ks) = none := by
                  rw [hf]
                  simp only [atD, if_neg h0]
                exact ⟨_, rfl, (by show 1 ≤ 1000; decide), fun a na => bad hn _ (sm.trans s2) (z := rfl) a na⟩
            | _ => simp [wholeB] at hk1
          · have hk2 : wholeB kd = false := by simpa using hk1
            rw [hk2]
            refine iteT ?_
            have hn : foundD d (.tuple ks) = none := by
              rw [hf]
              cases kd <;> first | rfl | simp [wholeB] at hk2
            exact ⟨_, rfl, (by show 1 ≤ 1000; decide), fun a na => bad hn _ (sm.trans s2) (z := rfl) a na⟩
        · rintro σ H1 ⟨w1, e1, y3, y4, rfl, sm, hw, hz1, hf⟩
          rw [tl, List.drop_length] at hf
          exact ⟨_, rfl, q1 e1 hf H1 w1 sm hw⟩
      | _ => simp [tyD] at e
    · have e' : (tyD pl == "tuple") = false := by simpa using e
      rw [e']
      refine iteT ?_
      have hn : foundD d pl = none := by
        cases pl <;> first | rfl | simp [tyD] at e'
      exact ⟨_, rfl, (by show 1 ≤ 1000; decide), fun a na => bad hn _ (Same.refl _) (z := rfl) a na⟩
end
end TX
namespace TX
open PySem PySem.Spec PyProof.Rows L2
theorem at_plain : ∀ (ks : List PyData) (d e : PyData), atD d ks = some e → PyData.canLayAll0 ks = true ∧ PyData.depthAll ks = 0
  | [], _, _, _ => ⟨rfl, rfl⟩
  | k :: ks, d, e, h => by
    cases k with
    | int i =>
      simp only [atD] at h
      split at h
      · split at h
        · obtain ⟨h1, h2⟩ := at_plain ks _ e h
          simp only [PyData.canLayAll0, PyData.canLay0, h1, PyData.depthAll, PyData.depth, h2]
          exact ⟨rfl, rfl⟩
        · cases h
      · cases h
    | _ => simp [atD] at h
theorem at_shaped {ks : List PyData} {d e : PyData} (h : atD d ks = some e) : SeqAt.shaped (.tuple ks) = true := by
  obtain ⟨h1, h2⟩ := at_plain ks d e h
  unfold SeqAt.shaped
  rw [Bool.and_eq_true]
  refine ⟨by simp only [PyData.canLay0, h1], decide_eq_true ?_⟩
  simp only [PyData.depth, h2]
  omega
theorem at_init : ∀ (ks : List PyData) (d e : PyData), atD d ks = some e → ∃ e', atD d ks.dropLast = some e'
  | [], d, e, _ => ⟨d, rfl⟩
  | [k], d, e, _ => ⟨d, rfl⟩
  | k :: l :: ks, d, e, h => by
    cases k with
    | int i =>
      simp only [atD] at h
      split at h
      · rename_i h0
        split at h
        · rename_i e1 he1
          obtain ⟨e', h'⟩ := at_init (l :: ks) e1 e (by simpa only [atD] using h)
          refine ⟨e', ?_⟩
          rw [List.dropLast_cons_of_ne_nil (by simp)]
          simp only [atD, if_pos h0, he1]
          exact h'
        · cases h
      · cases h
    | _ => simp [atD] at h
def strB : PyData → Bool
  | .str _ => true
  | _ => false
/-- the part is a piece of a text -/
def tornD (d : PyData) (ks : List PyData) : Bool := match ks with
  | [] => false
  | _ => match atD d ks.dropLast with
    | some e => strB e
    | none => false
theorem DpAll.init {K : PySem.W.Frag} {H : Hp} : ∀ {xs : List V} {ds : List PyData}, DpAll K H xs ds → DpAll K H xs.dropLast ds.dropLast
  | _, _, .nil => .nil
  | _, _, .cons h .nil => .nil
  | _, _, .cons h (.cons g r) => .cons h (DpAll.init (.cons g r))
theorem nd_init : ∀ ks : List PyData, ndAll ks.dropLast ≤ ndAll ks
  | [] => Nat.le_refl _
  | [k] => by simp [ndAll]
  | k :: l :: ks => by
    have := nd_init (l :: ks)
    rw [List.dropLast_cons_of_ne_nil (by simp)]
    simp only [ndAll] at this ⊢
    omega
theorem cut_init (us : List V) : cutV us none (some (-1)) = us.dropLast := by
  have e : HT.sIx us.length us.length (some (-1)) = us.length - 1 := by
    show (if (-1 : Int) < 0 then ((-1 : Int) + ((us.length : Nat) : Int)).toNat else min (-1 : Int).toNat us.length) = us.length - 1
    rw [if_pos (by decide)]
    omega
  unfold cutV
  rw [e, HT.sIx_none, List.drop_zero, Nat.sub_zero, List.dropLast_eq_take]
def spTorn (K : PySem.W.Frag) (NP : Addr) : Sp := fun vs H Q E => ∃ (v u : V) (d pl : PyData) (Hv : Hp), vs = [v, u] ∧ Same Hv H ∧ Dp K Hv v d ∧ Dp K Hv u pl ∧ sz d ≤ 10000 ∧ nd pl ≤ 1000000 ∧
  (∀ ks e, pl = .tuple ks → atD d ks = some e → ∀ H', Same H H' → Q (.bl (tornD d ks)) H') ∧ (foundD d pl = none → ∀ (H3 : Hp) (dx : Addr) (w : V), Same H H3 → H3 dx = some (.xd [("place", w)]) → Dp K H3 w pl → E (.ref NP) (some dx) H3)
section
variable {P : Program} {w : World} {K : PySem.W.Frag} {mg : Str → Option Value} {base : Heap} {TE NP : Addr}
theorem scTorn : FnScope ["value", "place"] ["value", "place"] (defScope s_is_torn) := ⟨rfl, rfl, rfl, by decide +kernel, rfl, by decide +kernel, by decide +kernel⟩
theorem ok_torn {f fF : Addr} {fd dF : FuncData} (F : Fun K "is_torn" "is_torn" s_is_torn f fd) (T : Nm mg) (k : Nk mg) (GF : FnOk P w K mg base (L2.CX P w) 5 fF dF ["value", "place"] (spFound K NP)) (gF : mg "found_at" = some (.ref fF)) (kF : PySem.W.keepIn K (.ref fF) = true) (bF : Binds K dF ["value", "place"] []) :
    FnOk P w K mg base (L2.CX P w) 6 f fd ["value", "place"] (spTorn K NP) := by
  refine F.okX scTorn (fun vs H Q E h => ?_) (fun cdv A outer s H vs Q E hr h => ?_)
  · obtain ⟨v, u, d, pl, Hv, rfl, _⟩ := h
    rfl
  · obtain ⟨v, u, d, pl, Hv, rfl, sv, hd, hu, hz, hnd, q1, q2⟩ := h
    refine ⟨_, pss_cons (ps_expr (pe_call (E := E) GF hr (by rfl) gF kF bF .nil (passes_call (takes_of rfl rfl rfl rfl) fun _ _ _ _ z => z) (pa_cons (pv 0) (pa_cons (pv 1) pa_nil)))) <|
      pss_one (ps_ret (pe_and (pe_cmpR (op_neD hr.units) (pv 1) (pe_tup pa_nil) (nomark _)) (pe_one (pe_callB call_isi (by rfl) T.isi (by decide +kernel)
        (pa_cons (pe_call (E := E) GF hr (by rfl) gF kF bF .nil (passes_call (takes_of rfl rfl rfl rfl) fun _ _ _ _ z => z) (pa_cons (pv 0) (pa_cons (pe_slice sl_tup (pv 1) po_none (po_some (pe_un un_neg pe_int))) pa_nil)))
          (pa_cons (pe_bltn (v := .ty "str") (by rfl) k.str (by decide +kernel) rfl) pa_nil)))))), ?_⟩
    refine ⟨_, rfl, _, rfl, v, u, d, pl, Hv, rfl, sv, hd, hu, hz, hnd, fun e he H1 w1 s1 hw1 => ?_, q2⟩
    cases hu with
    | @tup t us ks t1 t2 =>
      have he' : atD d ks = some e := he
      have hu := Dp.tup (H := Hv) t1 t2
      refine ⟨_, rfl, by decide, fun t0 n0 => ⟨.tuple ks, .tuple [], dp_same (sv.trans (s1.trans (same_upd n0))) _ _ hu, .tup (SqT.of upd_same) .nil, at_shaped he', by decide +kernel, _, rfl, ?_⟩⟩
      have s2 : Same H (upd H1 t0 (.tup [])) := s1.trans (same_upd n0)
      generalize upd H1 t0 (.tup []) = G at s2
      cases ks with
      | nil =>
        have e0 : PyData.eqv (.tuple []) (.tuple []) = true := by decide +kernel
        rw [e0]
        exact iteF (q1 [] e rfl he' G s2)
      | cons k0 ks =>
        have e0 : PyData.eqv (.tuple (k0 :: ks)) (.tuple []) = false := by simp [PyData.eqv, PyData.eqvAll]
        rw [e0]
        refine iteT ?_
        have ul := DpAll.length t2
        obtain ⟨e2, he2⟩ := at_init (k0 :: ks) d e he'
        refine ⟨_, rfl, _, rfl, _, rfl, -1, rfl, t, us, rfl, same_sqt (sv.trans s2) t1, ?_, fun t3 n3 => ?_⟩
        · rintro ⟨_, z⟩
          have : HT.sIx us.length us.length (some (-1)) = us.length - 1 := by
            show (if (-1 : Int) < 0 then ((-1 : Int) + ((us.length : Nat) : Int)).toNat else min (-1 : Int).toNat us.length) = us.length - 1
            rw [if_pos (by decide)]
            omega
          rw [this] at z
          simp only [List.length_cons] at ul
          omega
        · rw [cut_init]
          have s3 : Same H (upd G t3 (.tup us.dropLast)) := s2.trans (same_upd n3)
          have h3 : (upd G t3 (.tup us.dropLast)) t3 = some (.tup us.dropLast) := upd_same
          generalize upd G t3 (.tup us.dropLast) = G3 at s3 h3
          refine ⟨v, .ref t3, d, .tuple (k0 :: ks).dropLast, G3, rfl, Same.refl _, dp_same (sv.trans s3) _ _ hd, .tup (SqT.of h3) (DpAll.init (dpAll_same (sv.trans s3) _ _ t2)), hz, ?_, fun e4 he4 H5 w5 s5 hw5 => ?_, fun hn => ?_⟩
          · have := nd_init (k0 :: ks)
            simp only [nd] at hnd ⊢
            omega
          · refine ⟨w5, .ty "str", .type (tyD e4), .type "str", _, rfl, .ty _, dp_ty (dp_same s5 _ _ hw5), kitS e4 K, ?_⟩
            have h4 : atD d (k0 :: ks).dropLast = some e4 := he4
            have et : tornD d (k0 :: ks) = (tyD e4 == "str") := by
              unfold tornD
              rw [h4]
              cases e4 <;> simp [tyD, strB]
            rw [← et]
            exact q1 (k0 :: ks) e rfl he' H5 (s3.trans s5)
          · exact absurd (he2.symm.trans hn) (fun z => nomatch z)
    | _ => simp [foundD] at he
end
end TX
namespace TX
open PySem PySem.Spec PyProof.Rows L2
def alphaS : Str := "abcdefghijklmnopqrstuvwxyz"
def ltC (c : Nat) : Bool := decide (97 ≤ c ∧ c ≤ 122)
def ltB (x : Str) : Bool := x.cps.toList.all ltC
def isT : PyData → Bool
  | .str x => ltB x
  | _ => false
theorem alpha_has (c : Nat) : alphaS.cps.contains c = ltC c := by
  have e : alphaS.cps.toList = (List.range 26).map (· + 97) := by decide +kernel
  have e2 : alphaS.cps.contains c = alphaS.cps.toList.contains c := by simp
  rw [e2, e]
  unfold ltC
  by_cases h : 97 ≤ c ∧ c ≤ 122
  · rw [decide_eq_true h, List.contains_iff_mem, List.mem_map]
    exact ⟨c - 97, List.mem_range.mpr (by omega), by omega⟩
  · rw [decide_eq_false h]
    refine Bool.eq_false_iff.mpr fun z => h ?_
    obtain ⟨y, hy, rfl⟩ := List.mem_map.mp (List.contains_iff_mem.mp z)
    have := List.mem_range.mp hy
    omega
theorem tw_all {p : Nat → Bool} : ∀ l : List Nat, l.all p = true → l.takeWhile p = l
  | [], _ => rfl
  | c :: r, h => by
    rw [List.all_cons, Bool.and_eq_true] at h
    rw [List.takeWhile_cons, if_pos h.1, tw_all r h.2]
theorem tw_lt {p : Nat → Bool} : ∀ l : List Nat, l.all p = false → (l.takeWhile p).length < l.length ∧ (l.drop (l.takeWhile p).length).all p = false
  | [], h => by simp at h
  | c :: r, h => by
    by_cases hc : p c = true
    · have hr : r.all p = false := by simpa [hc] using h
      obtain ⟨h1, h2⟩ := tw_lt r hr
      rw [List.takeWhile_cons, if_pos hc]
      exact ⟨by simpa using h1, by simpa using h2⟩
    · rw [List.takeWhile_cons, if_neg hc]
      exact ⟨by simp, h⟩
theorem strip_len (x : Str) : ((Txt.stripChars x alphaS).length == 0) = ltB x := by
  have fn : alphaS.cps.contains = ltC := funext alpha_has
  unfold Txt.stripChars Txt.stripBy
  rw [fn]
  have xl : x.length = x.cps.toList.length := by simp [Str.length]
  by_cases h : ltB x = true
  · rw [h]
    have h1 : x.cps.toList.takeWhile ltC = x.cps.toList := tw_all _ h
    have lo : stripLo ltC true x = x.length := by
      unfold stripLo
      rw [if_pos rfl, h1, xl]
    have hi : stripHi ltC true x x.length = x.length := by
      unfold stripHi
      rw [if_pos rfl, xl, List.drop_length]
      simp
    by_cases h0 : stripSame ltC true true x = true
    · rw [if_pos h0]
      unfold stripSame at h0
      rw [lo] at h0
      rw [Bool.and_eq_true] at h0
      exact h0.1
    · rw [if_neg h0]
      unfold stripped
      rw [lo, hi, size_strSub _ _ _ (Nat.le_refl _)]
      simp
  · have h' : ltB x = false := by simpa using h
    rw [h']
    obtain ⟨l1, l2⟩ := tw_lt x.cps.toList h'
    have lo : stripLo ltC true x < x.length := by
      unfold stripLo
      rw [if_pos rfl, xl]
      exact l1
    have el : stripLo ltC true x = (x.cps.toList.takeWhile ltC).length := by
      unfold stripLo
      rw [if_pos rfl]
    have hi : stripLo ltC true x < stripHi ltC true x (stripLo ltC true x) ∧ stripHi ltC true x (stripLo ltC true x) ≤ x.length := by
      unfold stripHi
      rw [if_pos rfl]
      have r1 : (x.cps.toList.drop (stripLo ltC true x)).reverse.all ltC = false := by
        rw [List.all_reverse, el]
        exact l2
      have r2 := (tw_lt _ r1).1
      rw [List.length_reverse, List.length_drop, ← xl] at r2
      omega
    by_cases h0 : stripSame ltC true true x = true
    · rw [if_pos h0]
      refine beq_eq_false_iff_ne.mpr ?_
      omega
    · rw [if_neg h0]
      unfold stripped
      rw [size_strSub _ _ _ hi.2]
      refine beq_eq_false_iff_ne.mpr ?_
      omega
theorem fits_any (x : Str) : (Txt.stripChars x alphaS).length ≤ x.length := by
  unfold Txt.stripChars Txt.stripBy
  by_cases h : stripSame alphaS.cps.contains true true x = true
  · rw [if_pos h]
    exact Nat.le_refl _
  · rw [if_neg h]
    exact le_strSub _ _ _
def spIsText (K : PySem.W.Frag) : Sp := fun vs H Q _ => ∃ (v : V) (d : PyData) (Hv : Hp), vs = [v] ∧ Same Hv H ∧ Dp K Hv v d ∧ sz d ≤ 100000 ∧ Q (.bl (isT d)) H
section
variable {P : Program} {w : World} {K : PySem.W.Frag} {mg : Str → Option Value} {base : Heap}
theorem scIsText : FnScope ["thing"] ["thing"] (defScope s_is_text) := ⟨rfl, rfl, rfl, by decide +kernel, rfl, by decide +kernel, by decide +kernel⟩
theorem ok_isText {f : Addr} {fd : FuncData} {tA : Tok} (F : Fun K "is_text" "is_text" s_is_text f fd) (T : Nm mg) (k : Nk mg) (gA : mg "ALPHABET" = some (.str alphaS tA)) : FnOk P w K mg base CX0 1 f fd ["thing"] (spIsText K) := by
  refine F.ok scIsText (fun vs H Q E h => ?_) (fun cdv A outer s H vs Q E hr h => ?_)
  · obtain ⟨v, d, Hv, rfl, _⟩ := h
    rfl
  · obtain ⟨v, d, Hv, rfl, sv, hd, hz, q⟩ := h
    refine ⟨_, pss_one (ps_ret (pe_and (pe_callB call_isi (by rfl) T.isi (by decide +kernel) (pa_cons (pv 0) (pa_cons (pe_bltn (v := .ty "str") (by rfl) k.str (by decide +kernel) rfl) pa_nil)))
      (pe_one (pe_notT (pe_bm PySem.F.plainAttrs_str PySem.F.slot_str_strip PySem.F.type_str_strip mt_stripChars (pv 0) (pa_cons (pe_glob (v := .str alphaS) (by rfl) gA ⟨_, rfl⟩) pa_nil)))))), ?_⟩
    have ty := dp_ty (dp_same sv _ _ hd)
    have is : ∀ b, (tyD d == "str") = b → PySem.W.kitOne K (.type (tyD d)) (.type "str") = some b := fun b e => e ▸ kitS d K
    refine ⟨_, rfl, v, .ty "str", _, .type "str", (tyD d == "str"), rfl, .ty _, ty, is _ rfl, _, rfl, ?_⟩
    have no : (tyD d == "str") = false → isT d = false := by
      intro e
      cases d with
      | str x => simp [tyD] at e
      | _ => rfl
    by_cases e : (tyD d == "str") = true
    · rw [e]
      refine iteT ?_
      cases hd with
      | str x =>
        have hx : x.length ≤ 100000 := by
          simp only [sz] at hz
          omega
        have hs := strip_len x
        refine ⟨_, rfl, rfl, x, alphaS, rfl, rfl, Nat.le_trans hx (by decide), ltB x |>.not, ⟨?_, ?_⟩, ?_⟩
        · exact Nat.le_trans (fits_any x) (Nat.le_trans hx (by decide))
        · rw [← hs]
          cases e2 : (Txt.stripChars x alphaS).length == 0 with
          | true =>
            have := eq_of_beq e2
            rw [this]
            rfl
          | false =>
            have h0 := beq_eq_false_iff_ne.mp e2
            exact (bne_iff_ne.mpr (by omega)).symm
        · show Q (.bl (!(!ltB x))) H
          rw [Bool.not_not]
          exact q
      | _ => simp [tyD] at e
    · have e' : (tyD d == "str") = false := by simpa using e
      rw [e']
      rw [no e'] at q
      exact iteF q
end
end TX
namespace TX
open PySem PySem.Spec PyProof.Rows L2
/-! ### steps: from where each part was reached -/
def StepsOk (H : Hp) (xs : List V) (pl : List (List Nat)) : Prop := xs.length = pl.length ∧
  ∀ (n : Nat) (p : List Nat), pl[n]? = some p → ∃ (t : Addr) (a i : Nat), xs[n]? = some (.ref t) ∧ H t = some (.tup [.int ((a : Nat) : Int), .int ((i : Nat) : Int)]) ∧ (n = 0 → p = []) ∧ (0 < n → a < n ∧ ∃ q, pl[a]? = some q ∧ p = q ++ [i])
theorem StepsOk.same {H H' : Hp} {xs : List V} {pl : List (List Nat)} (h : StepsOk H xs pl) (s : Same H H') : StepsOk H' xs pl :=
  ⟨h.1, fun n p e => let ⟨t, a, i, h1, h2, h3, h4⟩ := h.2 n p e; ⟨t, a, i, h1, s _ _ h2, h3, h4⟩⟩
def spLast (K : PySem.W.Frag) : Sp := fun vs H Q _ => ∃ (s : Addr) (xs : List V) (pl : List (List Nat)) (m : Nat) (p : List Nat), vs = [.ref s] ∧ SqL K H s xs ∧ StepsOk H xs pl ∧ pl.length = m + 1 ∧ m ≤ 100000 ∧ pl[m]? = some p ∧
  ∀ (H' : Hp) (t : Addr), Same H H' → H t = none → H' t = some (.tup (natV p)) → Q (.ref t) H'
section
variable {P : Program} {w : World} {K : PySem.W.Frag} {mg : Str → Option Value} {base : Heap}
theorem scLast : FnScope ["steps", "place", "number", "at"] ["steps"] (defScope s_place_of_last) := ⟨rfl, rfl, rfl, by decide +kernel, rfl, by decide +kernel, by decide +kernel⟩
theorem ok_last {f : Addr} {fd : FuncData} (F : Fun K "place_of_last" "place_of_last" s_place_of_last f fd) (T : Nm mg) (B : Nb mg) : FnOk P w K mg base CX0 1 f fd ["steps"] (spLast K) := by
  refine F.ok scLast (fun vs H Q E h => ?_) (fun cdv A outer s H vs Q E hr h => ?_)
  · obtain ⟨s, xs, pl, m, p, rfl, _⟩ := h
    rfl
  · obtain ⟨sa, xs, pl, m, p, rfl, hS, hT, hm, hb, hp, q⟩ := h
    refine ⟨_, pss_cons (ps_set (i := 1) scLast.nd rfl (.inl rfl) (pe_lst pa_nil)) <|
      pss_cons (ps_set (i := 2) scLast.nd rfl (.inl rfl) (pe_op op_sub (pe_callB call_len_seq (by rfl) B.len PySem.boot_len (pa_cons (pv 0) pa_nil)) pe_int)) <|
      pss_cons (ps_while PassesOwn.never (pt_cmpR op_gt (pv 2) pe_int (nomark _)) (
        pss_cons (ps_asg (pe_ix ix_list (pv 0) (pv 2) (fun _ _ => rfl)) (pg_tup rfl (pgs_cons (pg_name (i := 2) scLast.nd rfl (.inl rfl)) (pgs_cons (pg_name (i := 3) scLast.nd rfl (.inl rfl)) pgs_nil)))) <|
        pss_one (ps_expr (pe_bm PySem.F.plainAttrs_list PySem.F.slot_list_append PySem.F.type_list_append mt_append (pv 1) (pa_cons (pv 3) pa_nil))))) <|
      pss_one (ps_ret (pe_callTy call_tuple_of (by rfl) T.tpl (by decide +kernel) (pa_cons (pe_revL (pv 1)) pa_nil))), ?_⟩
    have xl : xs.length = m + 1 := hT.1.trans hm
    refine ⟨by decide, fun da nda => ⟨_, rfl, sa, xs, rfl, .inl ((same_upd nda).seq hS), _, _, rfl, rfl, ?_⟩⟩
    refine ⟨fun n σ H1 => ∃ (acc q' : List Nat) (y : Option V), σ = [some (.ref sa), some (.ref da), some (.int ((n : Nat) : Int)), y] ∧ Same H H1 ∧ H1 da = some (.lst (natV acc)) ∧ pl[n]? = some q' ∧ p = q' ++ acc.reverse ∧ acc.length + n ≤ m, ⟨m, [], p, none, ?_, same_upd nda, upd_same, hp, by simp, by simp⟩, ?_⟩
    · have e : ((xs.length : Nat) : Int) - 1 = ((m : Nat) : Int) := by omega
      show [some (V.ref sa), some (V.ref da), some (V.int (((xs.length : Nat) : Int) - 1)), none] = _
      rw [e]
    rintro n σ H1 ⟨acc, q', y, rfl, sm, hd, hq, ep, hl⟩
    obtain ⟨t, a, i, h1, h2, h3, h4⟩ := hT.2 n q' hq
    refine ⟨_, rfl, _, _, rfl, rfl, _, rfl, ?_⟩
    by_cases hn : n = 0
    · rw [decide_eq_false (by omega)]
      refine iteF ?_
      subst hn
      have e0 := h3 rfl
      subst e0
      refine ⟨_, rfl, da, _, rfl, SqL.of hd, fun r nr => ⟨r, _, rfl, .inl ⟨SqL.of upd_same, fun t2 nt2 => ?_⟩⟩⟩
      refine q _ t2 ((sm.trans (same_upd nr)).trans (same_upd nt2)) ((sm.trans (same_upd nr)).free nt2) ?_
      rw [upd_same, ep]
      unfold natV
      rw [List.map_append, List.map_reverse]
      rfl
    · rw [decide_eq_true (by omega)]
      refine iteT ?_
      obtain ⟨ha, q2, hq2, eq2⟩ := h4 (by omega)
      have s0 : Same H (upd H da (.lst [])) := same_upd nda
      refine ⟨fun σ' H2 => ∃ (acc q' : List Nat), σ' = [some (.ref sa), some (.ref da), some (.int ((a : Nat) : Int)), some (.int ((i : Nat) : Int))] ∧ Same H H2 ∧ H2 da = some (.lst (natV acc)) ∧ pl[a]? = some q' ∧ p = q' ++ acc.reverse ∧ acc.length + a ≤ m, ?_, ?_⟩
      · rintro σ' H2 ⟨acc', q3, rfl, g1, g2, g3, g4, g5⟩
        exact ⟨a, ha, acc', q3, _, rfl, g1, g2, g3, g4, g5⟩
      refine ⟨_, rfl, _, rfl, sa, xs, _, _, rfl, rfl, sm.seq hS, atI_nat h1, ?_⟩
      refine ⟨t, _, rfl, SqT.of (sm _ _ h2), rfl, _, _, rfl, _, _, rfl, rfl, ?_⟩
      refine ⟨_, rfl, .inl ⟨rfl, _, SqL.of hd⟩, _, rfl, da, _, _, rfl, rfl, hd, Nat.lt_of_le_of_lt (show (natV acc).length ≤ 100000 by unfold natV; rw [List.length_map]; omega) (by decide), ?_⟩
      refine ⟨acc ++ [i], q2, rfl, same_fresh nda sm, ?_, hq2, ?_, ?_⟩
      · rw [upd_same]
        unfold natV
        rw [List.map_append]
        rfl
      · rw [ep, eq2]
        simp
      · rw [List.length_append]
        show acc.length + 1 + a ≤ m
        omega
end
end TX
namespace TX
open PySem PySem.Spec PyProof.Rows L2
/-! ### the first fault of data, by the rules -/
mutual
def faultD : PyData → Option (List Nat)
  | .list es => faultAll 0 es
  | .none => none
  | .str x => if ltB x = true then none else some []
  | _ => some []
def faultAll (k : Nat) : List PyData → Option (List Nat)
  | [] => none
  | d :: ds => match faultD d with
    | some p => some (k :: p)
    | none => faultAll (k + 1) ds
end
def faultP : List (PyData × List Nat) → Option (List Nat)
  | [] => none
  | (d, p) :: r => match faultD d with
    | some q => some (p ++ q)
    | none => faultP r
def kidsF (k : Nat) : List PyData → List Nat → List (PyData × List Nat)
  | [], _ => []
  | d :: ds, p => (d, p ++ [k]) :: kidsF (k + 1) ds p
theorem faultP_kidsF (p : List Nat) (r : List (PyData × List Nat)) : ∀ (es : List PyData) (k : Nat), faultP (kidsF k es p ++ r) = match faultAll k es with
    | some q => some (p ++ q)
    | none => faultP r
  | [], k => by simp [kidsF, faultAll]
  | d :: ds, k => by
    have ih := faultP_kidsF p r ds (k + 1)
    simp only [kidsF, List.cons_append, faultP, faultAll]
    cases h : faultD d with
    | some q => simp
    | none => simpa using ih
/-- the parts that wait, with their places -/
def Lk (pl : List (List Nat)) (a i : Nat) (p : List Nat) : Prop := (pl = [] → p = []) ∧ (pl ≠ [] → ∃ q, pl[a]? = some q ∧ p = q ++ [i])
inductive PendOk (K : PySem.W.Frag) (Hv H : Hp) (pl : List (List Nat)) : List V → List (PyData × List Nat) → Prop
  | nil : PendOk K Hv H pl [] []
  | cons {t : Addr} {v : V} {d : PyData} {a i : Nat} {p : List Nat} {xs : List V} {ps : List (PyData × List Nat)} : H t = some (.tup [v, .int ((a : Nat) : Int), .int ((i : Nat) : Int)]) → Dp K Hv v d → Lk pl a i p → PendOk K Hv H pl xs ps → PendOk K Hv H pl (.ref t :: xs) ((d, p) :: ps)
theorem PendOk.len {K : PySem.W.Frag} {Hv H : Hp} {pl : List (List Nat)} : ∀ {xs : List V} {ps : List (PyData × List Nat)}, PendOk K Hv H pl xs ps → xs.length = ps.length
  | _, _, .nil => rfl
  | _, _, .cons _ _ _ h => congrArg (· + 1) h.len
theorem PendOk.same {K : PySem.W.Frag} {Hv H H' : Hp} {pl : List (List Nat)} : ∀ {xs : List V} {ps : List (PyData × List Nat)}, PendOk K Hv H pl xs ps → (∀ t o, H t = some (.tup o) → H' t = some (.tup o)) → PendOk K Hv H' pl xs ps
  | _, _, .nil, _ => .nil
  | _, _, .cons h1 h2 h3 h, s => .cons (s _ _ h1) h2 h3 (h.same s)
theorem PendOk.more {K : PySem.W.Frag} {Hv H : Hp} {pl : List (List Nat)} (hn : pl ≠ []) (p : List Nat) : ∀ {xs : List V} {ps : List (PyData × List Nat)}, PendOk K Hv H pl xs ps → PendOk K Hv H (pl ++ [p]) xs ps
  | _, _, .nil => .nil
  | _, _, .cons h1 h2 h3 h => .cons h1 h2 ⟨fun z => by simp at z, fun _ => by
      obtain ⟨q, e1, e2⟩ := h3.2 hn
      exact ⟨q, by rw [List.getElem?_append_left (List.getElem?_eq_some_iff.mp e1).1]; exact e1, e2⟩⟩ (h.more hn p)
theorem PendOk.append {K : PySem.W.Frag} {Hv H : Hp} {pl : List (List Nat)} : ∀ {xs ys : List V} {ps qs : List (PyData × List Nat)}, PendOk K Hv H pl xs ps → PendOk K Hv H pl ys qs → PendOk K Hv H pl (xs ++ ys) (ps ++ qs)
  | _, _, _, _, .nil, h => h
  | _, _, _, _, .cons h1 h2 h3 h, g => .cons h1 h2 h3 (h.append g)
def szP (ps : List (PyData × List Nat)) : Nat := szAll (ps.map (·.1))
theorem szP_kidsF (p : List Nat) : ∀ (es : List PyData) (k : Nat), szP (kidsF k es p) = szAll es
  | [], _ => rfl
  | d :: ds, k => by
    have := szP_kidsF p ds (k + 1)
    simp only [szP, kidsF, List.map_cons, szAll] at this ⊢
    omega
end TX
namespace TX
open PySem PySem.Spec PyProof.Rows L2
def spFault (K : PySem.W.Frag) : Sp := fun vs H Q _ => ∃ (v : V) (d : PyData) (Hv : Hp), vs = [v] ∧ Same Hv H ∧ Dp K Hv v d ∧ sz d ≤ 10000 ∧
  (faultD d = none → ∀ H', Same H H' → Q .non H') ∧ (∀ p, faultD d = some p → ∀ (H' : Hp) (t : Addr), Same H H' → H t = none → H' t = some (.tup (natV p)) → p.length ≤ 10000 → Q (.ref t) H')
mutual
theorem fault_len : ∀ (d : PyData) (p : List Nat), faultD d = some p → p.length ≤ sz d
  | .list es, p, h => by
    have := faultAll_len es 0 p (by simpa only [faultD] using h)
    simp only [sz]
    omega
  | .none, p, h => by simp [faultD] at h
  | .str x, p, h => by
    simp only [faultD] at h
    split at h
    · cases h
    · cases h
      simp
  | .bool _, p, h => by
    simp only [faultD] at h
    cases h
    simp
  | .int _, p, h => by
    simp only [faultD] at h
    cases h
    simp
  | .tuple _, p, h => by
    simp only [faultD] at h
    cases h
    simp
  | .dict _, p, h => by
    simp only [faultD] at h
    cases h
    simp
theorem faultAll_len : ∀ (es : List PyData) (k : Nat) (p : List Nat), faultAll k es = some p → p.length ≤ szAll es + 1
  | [], k, p, h => by simp [faultAll] at h
  | d :: ds, k, p, h => by
    simp only [faultAll] at h
    cases e : faultD d with
    | some q =>
      rw [e] at h
      have h1 := fault_len d q e
      cases h
      simp only [szAll, List.length_cons]
      omega
    | none =>
      rw [e] at h
      have := faultAll_len ds (k + 1) p h
      simp only [szAll]
      omega
end
theorem fault_leaf {d : PyData} (hl : (tyD d == "list") = false) (hn : d ≠ .none) : faultD d = if isT d = true then none else some [] := by
  cases d with
  | list es => simp [tyD] at hl
  | none => exact absurd rfl hn
  | str x => rfl
  | bool _ => rfl
  | int _ => rfl
  | tuple _ => rfl
  | dict _ => rfl
theorem StepsOk.snoc {H : Hp} {ys : List V} {pl : List (List Nat)} {tp : Addr} {a i : Nat} {p : List Nat} (h : StepsOk H ys pl) (ht : H tp = some (.tup [.int ((a : Nat) : Int), .int ((i : Nat) : Int)])) (l : Lk pl a i p) : StepsOk H (ys ++ [.ref tp]) (pl ++ [p]) := by
  refine ⟨by simp [h.1], fun n p' e => ?_⟩
  rcases Nat.lt_trichotomy n pl.length with c | c | c
  · rw [List.getElem?_append_left c] at e
    obtain ⟨t, a', i', h1, h2, h3, h4⟩ := h.2 n p' e
    refine ⟨t, a', i', by rw [List.getElem?_append_left (by rw [h.1]; exact c)]; exact h1, h2, h3, fun z => ?_⟩
    obtain ⟨g1, q, g2, g3⟩ := h4 z
    exact ⟨g1, q, by rw [List.getElem?_append_left (List.getElem?_eq_some_iff.mp g2).1]; exact g2, g3⟩
  · subst c
    have e1 : (pl ++ [p])[pl.length]? = some p := by simp
    rw [e1] at e
    cases e
    refine ⟨tp, a, i, by rw [← h.1]; simp, ht, fun z => l.1 (List.length_eq_zero_iff.mp z), fun z => ?_⟩
    obtain ⟨q, g1, g2⟩ := l.2 (fun y => by rw [y] at z; simp at z)
    have g3 := (List.getElem?_eq_some_iff.mp g1).1
    exact ⟨g3, q, by rw [List.getElem?_append_left g3]; exact g1, g2⟩
  · have := (List.getElem?_eq_some_iff.mp e).1
    simp at this
    omega
theorem iteNN {c A B : Prop} [Decidable c] (hc : ¬ c) (h : A) : if (!decide c) = true then A else B := by
  rw [decide_eq_false hc]
  exact iteT h
theorem szP_cons (d : PyData) (p : List Nat) (ps : List (PyData × List Nat)) : szP ((d, p) :: ps) = sz d + szP ps := rfl
theorem szP_append (a b : List (PyData × List Nat)) : szP (a ++ b) = szP a + szP b := by
  unfold szP
  rw [List.map_append, szAll_append]
theorem sz_pos (d : PyData) : 1 ≤ sz d := by
  cases d <;> simp [sz]
theorem szP_len (ps : List (PyData × List Nat)) : ps.length ≤ szP ps := by
  have := szAll_len (ps.map (·.1))
  unfold szP
  simpa using this
theorem kidsF_drop (p : List Nat) (k : Nat) : ∀ (es : List PyData) (d : PyData) (j : Nat), es[j]? = some d → kidsF (k + j) (es.drop j) p = (d, p ++ [k + j]) :: kidsF (k + j + 1) (es.drop (j + 1)) p := by
  intro es d j h
  obtain ⟨hj, e⟩ := List.getElem?_eq_some_iff.mp h
  rw [List.drop_eq_getElem_cons hj, e]
  rfl
section
variable {P : Program} {w : World} {K : PySem.W.Frag} {mg : Str → Option Value} {base : Heap}
theorem scFault : FnScope ["thing", "waiting", "steps", "part", "above", "at", "number", "k"] ["thing"] (defScope s_first_fault) := ⟨rfl, rfl, rfl, by decide +kernel, rfl, by decide +kernel, by decide +kernel⟩
theorem ok_fault {f fI fL : Addr} {fd dI dL : FuncData} (F : Fun K "first_fault" "first_fault" s_first_fault f fd) (T : Nm mg) (B : Nb mg) (Y : Nv mg)
    (GI : FnOk P w K mg base CX0 1 fI dI ["thing"] (spIsText K)) (gI : mg "is_text" = some (.ref fI)) (kI : PySem.W.keepIn K (.ref fI) = true) (bI : Binds K dI ["thing"] [])
    (GL : FnOk P w K mg base CX0 1 fL dL ["steps"] (spLast K)) (gL : mg "place_of_last" = some (.ref fL)) (kL : PySem.W.keepIn K (.ref fL) = true) (bL : Binds K dL ["steps"] []) : FnOk P w K mg base CX0 2 f fd ["thing"] (spFault K) := by
  refine F.ok scFault (fun vs H Q E h => ?_) (fun cdv A outer s H vs Q E hr h => ?_)
  · obtain ⟨v, d, Hv, rfl, _⟩ := h
    rfl
  · obtain ⟨v, d, Hv, rfl, sv, hd, hz, q1, q2⟩ := h
    refine ⟨_, pss_cons (ps_set (i := 1) scFault.nd rfl (.inl rfl) (pe_lst (pa_cons (pe_tup (pa_cons (pv 0) (pa_cons pe_int (pa_cons pe_int pa_nil)))) pa_nil))) <|
      pss_cons (ps_set (i := 2) scFault.nd rfl (.inl rfl) (pe_lst pa_nil)) <|
      pss_cons (ps_while PassesOwn.never (pt_truth (pv 1) (by intro _; rfl)) (
        pss_cons (ps_asg (pe_bm0 PySem.F.plainAttrs_list PySem.F.slot_list_pop PySem.F.type_list_pop mt_pop (pv 1)) (pg_tup rfl (pgs_cons (pg_name (i := 3) scFault.nd rfl (.inr rfl)) (pgs_cons (pg_name (i := 4) scFault.nd rfl (.inl rfl)) (pgs_cons (pg_name (i := 5) scFault.nd rfl (.inl rfl)) pgs_nil))))) <|
        pss_cons (ps_set (i := 6) scFault.nd rfl (.inr rfl) (pe_callB call_len_seq (by rfl) B.len PySem.boot_len (pa_cons (pv 2) pa_nil))) <|
        pss_cons (ps_expr (pe_bm PySem.F.plainAttrs_list PySem.F.slot_list_append PySem.F.type_list_append mt_append (pv 2) (pa_cons (pe_tup (pa_cons (pv 4) (pa_cons (pv 5) pa_nil))) pa_nil))) <|
        pss_one (ps_if (pt_val (pe_callB call_isi (by rfl) T.isi (by decide +kernel) (pa_cons (pv 3) (pa_cons (pe_bltn (v := .ty "list") (by rfl) T.lst (by decide +kernel) rfl) pa_nil))))
          (pss_one (ps_expr (pe_bm PySem.F.plainAttrs_list PySem.F.slot_list_extend PySem.F.type_list_extend mt_extend (pv 1) (pa_cons (pe_lc (own := [("k", 7)]) (g := gName 7) (tt := tYes)
            (te := tTup (tCons (tOp (rIxL K) (tVar 3) (tVar 7)) (tCons (tVar 6) (tCons (tVar 7) tNil)))) rfl scFault.nd
            (pi_range3 (by rfl) Y.range (pa_cons (pe_op op_sub (pe_callB call_len_seq (by rfl) B.len PySem.boot_len (pa_cons (pv 3) pa_nil)) pe_int) (pa_cons (pe_un un_neg pe_int) (pa_cons (pe_un un_neg pe_int) pa_nil))))
            (blkOk_by (own := [("k", 7)]) (N := ["thing", "waiting", "steps", "part", "above", "at", "number", "k"]) (sc := defScope s_first_fault) (by decide +kernel)) (fun _ _ _ _ _ => pg_name (i := 7) scFault.nd rfl (Or.inl rfl)) (fun _ _ _ _ _ => pts_nil)
            (fun _ _ _ _ _ => pe_tup (pa_cons (pe_ix ix_list (pv 3) (pv 7) (fun _ _ => rfl)) (pa_cons (pv 6) (pa_cons (pv 7) pa_nil))))) pa_nil))))
          (pss_one (ps_if (PW.pt (pw_and (pt_cmp (pc_notN (pv 3))) (pw_and1 (pt_not (pt_val (pe_call GI (hr.mono (by decide)) (by rfl) gI kI bI .nil pass0 (pa_cons (pv 3) pa_nil)))))))
            (pss_one (ps_ret (pe_call GL (hr.mono (by decide)) (by rfl) gL kL bL .nil pass0 (pa_cons (pv 2) pa_nil)))) pss_nil))))) <|
      pss_one (ps_ret pe_non), ?_⟩
    refine ⟨_, rfl, (by show 3 ≤ sizeLine; decide), fun t0 nt0 => ⟨(by show 1 ≤ sizeLine; decide), fun wa nwa => ⟨by decide, fun sa nsa => ?_⟩⟩⟩
    have sm0 : Same H (upd (upd (upd H t0 (.tup [v, .int 0, .int 0])) wa (.lst [.ref t0])) sa (.lst [])) := ((same_upd nt0).trans (same_upd nwa)).trans (same_upd nsa)
    have nwaH : H wa = none := (same_upd nt0).free nwa
    have nsaH : H sa = none := ((same_upd nt0).trans (same_upd nwa)).free nsa
    have wt : wa ≠ t0 := fun e => by
      rw [e, upd_same] at nwa
      cases nwa
    have st : sa ≠ t0 := fun e => by
      rw [e, upd_ne wt.symm, upd_same] at nsa
      cases nsa
    have sw : sa ≠ wa := fun e => by
      rw [e, upd_same] at nsa
      cases nsa
    refine ⟨fun m σ H1 => ∃ (xs : List V) (ps : List (PyData × List Nat)) (ys : List V) (pl : List (List Nat)) (z3 z4 z5 z6 : Option V), σ = [some v, some (.ref wa), some (.ref sa), z3, z4, z5, z6, none] ∧ Same H H1 ∧ H1 wa = some (.lst xs.reverse) ∧ H1 sa = some (.lst ys) ∧
      PendOk K Hv H1 pl xs ps ∧ StepsOk H1 ys pl ∧ (pl = [] → ps.length ≤ 1) ∧ faultP ps = faultD d ∧ pl.length + szP ps ≤ 10000 ∧ m = szP ps,
      ⟨_, [.ref t0], [(d, [])], [], [], none, none, none, none, rfl, sm0, ?_, upd_same, .cons (a := 0) (i := 0) ?_ hd ⟨fun _ => rfl, fun z => absurd rfl z⟩ .nil, ⟨rfl, fun n p e => by simp at e⟩, fun _ => Nat.le_refl 1, ?_, ?_, rfl⟩, ?_⟩
    · rw [upd_ne sw.symm, upd_same]
      rfl
    · rw [upd_ne st.symm, upd_ne wt.symm, upd_same]
      rfl
    · simp only [faultP]
      cases faultD d <;> rfl
    · simpa [szP, szAll] using hz
    rintro m σ H1 ⟨xs, ps, ys, pl, z3, z4, z5, z6, rfl, sm, hw, hs, hP, hS, h1l, hf, hb, rfl⟩
    refine ⟨_, rfl, _, .inl ⟨_, SqL.of hw, rfl⟩, ?_⟩
    cases hP with
    | nil => exact iteF (q1 (by rw [← hf]; rfl) H1 sm)
    | @cons t v1 d1 a i p1 xs' ps' ht hd1 hl hP' =>
      have hne : (!((V.ref t :: xs').reverse).isEmpty) = true := by simp
      rw [hne]
      refine iteT ?_
      rw [List.reverse_cons] at hw
      rw [szP_cons] at hb
      have pl1 := sz_pos d1
      refine ⟨fun σ' H2 => ∃ (xs2 : List V) (ps2 : List (PyData × List Nat)) (ys2 : List V) (pl2 : List (List Nat)) (z3 z4 z5 z6 : Option V), σ' = [some v, some (.ref wa), some (.ref sa), z3, z4, z5, z6, none] ∧ Same H H2 ∧ H2 wa = some (.lst xs2.reverse) ∧ H2 sa = some (.lst ys2) ∧
        PendOk K Hv H2 pl2 xs2 ps2 ∧ StepsOk H2 ys2 pl2 ∧ (pl2 = [] → ps2.length ≤ 1) ∧ faultP ps2 = faultD d ∧ pl2.length + szP ps2 ≤ 10000 ∧ szP ps2 < szP ((d1, p1) :: ps'), ?_, ?_⟩
      · rintro σ' H2 ⟨xs2, ps2, ys2, pl2, y3, y4, y5, y6, e, g1, g2, g3, g4, g5, g6, g7, g8, g9⟩
        exact ⟨_, g9, xs2, ps2, ys2, pl2, y3, y4, y5, y6, e, g1, g2, g3, g4, g5, g6, g7, g8, rfl⟩
      -- part, above, at = waiting.pop()
      have tw : t ≠ wa := fun e => by
        rw [e, hw] at ht
        cases ht
      refine ⟨_, rfl, .inl ⟨rfl, _, SqL.of hw⟩, wa, _, .ref t, rfl, rfl, hw, by simp, ?_⟩
      rw [List.dropLast_concat]
      refine ⟨t, _, rfl, SqT.of ((upd_ne tw).trans ht), rfl, _, _, rfl, _, _, rfl, _, _, rfl, rfl, ?_⟩
      have hs2 : (upd H1 wa (.lst xs'.reverse)) sa = some (.lst ys) := (upd_ne sw).trans hs
      refine ⟨_, rfl, sa, ys, rfl, .inl (SqL.of hs2), ?_⟩
      refine ⟨_, rfl, .inl ⟨rfl, _, SqL.of hs2⟩, _, rfl, _, rfl, (by show 2 ≤ sizeLine; decide), fun tp ntp => ⟨sa, _, _, rfl, rfl, same_upd ntp _ _ hs2, Nat.lt_of_le_of_lt (show ys.length ≤ 10000 by rw [hS.1]; omega) (by decide), ?_⟩⟩
      have tpw : wa ≠ tp := fun e => by
        rw [← e, upd_same] at ntp
        cases ntp
      have tps : sa ≠ tp := fun e => by
        rw [← e, hs2] at ntp
        cases ntp
      have tpH1 : H1 tp = none := by rw [upd_ne tpw.symm] at ntp; exact ntp
      have smG : Same H (upd (upd (upd H1 wa (.lst xs'.reverse)) tp (.tup [.int ((a : Nat) : Int), .int ((i : Nat) : Int)])) sa (.lst (ys ++ [.ref tp]))) := same_fresh nsaH (fun b o e => same_upd ntp _ _ (same_fresh nwaH sm b o e))
      have hwG : (upd (upd (upd H1 wa (.lst xs'.reverse)) tp (.tup [.int ((a : Nat) : Int), .int ((i : Nat) : Int)])) sa (.lst (ys ++ [.ref tp]))) wa = some (.lst xs'.reverse) := by
        rw [upd_ne sw.symm, upd_ne tpw, upd_same]
      have tpG : (upd (upd (upd H1 wa (.lst xs'.reverse)) tp (.tup [.int ((a : Nat) : Int), .int ((i : Nat) : Int)])) sa (.lst (ys ++ [.ref tp]))) tp = some (.tup [.int ((a : Nat) : Int), .int ((i : Nat) : Int)]) := by
        rw [upd_ne tps.symm, upd_same]
      have hsG : (upd (upd (upd H1 wa (.lst xs'.reverse)) tp (.tup [.int ((a : Nat) : Int), .int ((i : Nat) : Int)])) sa (.lst (ys ++ [.ref tp]))) sa = some (.lst (ys ++ [.ref tp])) := upd_same
      have keep : ∀ b o, H1 b = some (.tup o) → (upd (upd (upd H1 wa (.lst xs'.reverse)) tp (.tup [.int ((a : Nat) : Int), .int ((i : Nat) : Int)])) sa (.lst (ys ++ [.ref tp]))) b = some (.tup o) := by
        intro b o e
        have b1 : b ≠ wa := fun z => by rw [z, hw] at e; cases e
        have b2 : b ≠ sa := fun z => by rw [z, hs] at e; cases e
        have b3 : b ≠ tp := fun z => by rw [z, tpH1] at e; cases e
        rw [upd_ne b2, upd_ne b3, upd_ne b1]
        exact e
      generalize upd (upd (upd H1 wa (.lst xs'.reverse)) tp (.tup [.int ((a : Nat) : Int), .int ((i : Nat) : Int)])) sa (.lst (ys ++ [.ref tp])) = G at smG hwG tpG hsG keep
      have hSG : StepsOk G (ys ++ [.ref tp]) (pl ++ [p1]) := StepsOk.snoc ⟨hS.1, fun n p e => let ⟨t, a, i, g1, g2, g3, g4⟩ := hS.2 n p e; ⟨t, a, i, g1, keep _ _ g2, g3, g4⟩⟩ tpG hl
      have hPG : PendOk K Hv G (pl ++ [p1]) xs' ps' := by
        by_cases e : pl = []
        · have := h1l e
          have e2 : ps' = [] := List.length_eq_zero_iff.mp (by simpa using this)
          subst e2
          cases hP'
          exact .nil
        · exact (hP'.more e p1).same keep
      have svG : Same Hv G := sv.trans smG
      have nonil : pl ++ [p1] ≠ [] := by simp
      have next : ∀ z3 z4 z5 z6, faultD d1 = none → ∃ (xs2 : List V) (ps2 : List (PyData × List Nat)) (ys2 : List V) (pl2 : List (List Nat)) (y3 y4 y5 y6 : Option V), [some v, some (.ref wa), some (.ref sa), z3, z4, z5, z6, none] = [some v, some (.ref wa), some (.ref sa), y3, y4, y5, y6, none] ∧ Same H G ∧ G wa = some (.lst xs2.reverse) ∧ G sa = some (.lst ys2) ∧
          PendOk K Hv G pl2 xs2 ps2 ∧ StepsOk G ys2 pl2 ∧ (pl2 = [] → ps2.length ≤ 1) ∧ faultP ps2 = faultD d ∧ pl2.length + szP ps2 ≤ 10000 ∧ szP ps2 < szP ((d1, p1) :: ps') := by
        intro z3 z4 z5 z6 e
        refine ⟨xs', ps', _, _, _, _, _, _, rfl, smG, hwG, hsG, hPG, hSG, fun z => absurd z nonil, ?_, ?_, ?_⟩
        · rw [← hf]
          simp only [faultP, e]
        · rw [List.length_append]
          show pl.length + 1 + _ ≤ _
          omega
        · rw [szP_cons]
          omega
      refine ⟨_, rfl, v1, .ty "list", .type (tyD d1), .type "list", _, rfl, .ty _, dp_ty (dp_same svG _ _ hd1), kitL d1 K, _, rfl, ?_⟩
      by_cases el : (tyD d1 == "list") = true
      · rw [el]
        refine iteT ?_
        cases hd1 with
        | @lst b xs1 es hb1 hes =>
          have hbG : SqL K G b xs1 := svG.seq hb1
          have hlen : xs1.length = es.length := DpAll.length hes
          have esz := szAll_len es
          have hz1 : szAll es + 1 + (pl.length + szP ps') ≤ 10000 := by
            simp only [sz] at hb
            omega
          have wlen : xs'.length ≤ 10000 := by
            have e1 := hP'.len
            have e2 := szP_len ps'
            omega
          refine ⟨_, rfl, .inl ⟨rfl, _, SqL.of hwG⟩, _, rfl, b, xs1, rfl, .inl hbG, _, _, rfl, rfl, _, rfl, _, rfl, _, _, _, xs1.length, rfl, ?_, fun D nD => lc_it walk_rangeC (fun k H' => ∃ ws, H' D = some (.lst ws) ∧ ws.length = k ∧ Same G H' ∧ PendOk K Hv H' (pl ++ [p1]) ws.reverse (kidsF (xs1.length - k) (es.drop (xs1.length - k)) p1)) ?_ (fun _ _ _ _ => trivial) ?_ ?_⟩
          · have e : (((xs1.length : Nat) : Int) - 1 - -1).toNat = xs1.length := by omega
            have big : xs1.length ≤ 10000 := by omega
            have g := RgC.neg (i := ((xs1.length : Nat) : Int) - 1) (j := -1) (by omega) (by omega) (by decide) (by decide)
            rw [e] at g
            exact g
          · refine ⟨[], upd_same, rfl, same_upd nD, ?_⟩
            rw [Nat.sub_zero, hlen, List.drop_length]
            exact .nil
          · rintro k x H2 _ hk ⟨ws, h1, h2, h3, h4⟩ ⟨rfl, hx⟩
            have hx' : x = .int ((xs1.length - 1 - k : Nat) : Int) := by
              rw [hx]
              show V.int (((xs1.length : Nat) : Int) - 1 + ((k : Nat) : Int) * -1) = _
              have : ((xs1.length : Nat) : Int) - 1 + ((k : Nat) : Int) * -1 = ((xs1.length - 1 - k : Nat) : Int) := by omega
              rw [this]
            subst hx'
            obtain ⟨j, hj⟩ : ∃ j, j = xs1.length - 1 - k := ⟨_, rfl⟩
            rw [← hj]
            have hjx : xs1[j]? = some xs1[j] := List.getElem?_eq_getElem (by omega)
            obtain ⟨e, he, hde⟩ := DpAll.get hes hjx
            refine ⟨rfl, _, rfl, _, rfl, b, xs1, _, _, rfl, rfl, h3.seq hbG, atI_nat hjx, _, rfl, _, rfl, (by show 3 ≤ sizeLine; decide), fun T nT => ⟨ws, same_upd nT _ _ h1, Nat.lt_of_le_of_lt (show ws.length ≤ 10000 by omega) (by decide), ws ++ [.ref T], upd_same, by simp [h2], same_fresh nD (h3.trans (same_upd nT)), ?_⟩⟩
            have TD : T ≠ D := fun z => by rw [z, h1] at nT; cases nT
            have ek : xs1.length - (k + 1) = j := by omega
            have ek2 : xs1.length - k = j + 1 := by omega
            rw [ek2] at h4
            have kd := kidsF_drop p1 0 es e j he
            rw [Nat.zero_add] at kd
            rw [ek, kd, List.reverse_append]
            refine .cons (t := T) (a := ys.length) (i := j) ?_ hde ⟨fun z => absurd z nonil, fun _ => ⟨p1, by rw [hS.1]; simp, rfl⟩⟩ (h4.same fun c o ec => ?_)
            · rw [upd_ne TD, upd_same]
            · have c1 : c ≠ D := fun z => by rw [z, h1] at ec; cases ec
              have c2 : c ≠ T := fun z => by rw [z, nT] at ec; cases ec
              rw [upd_ne c1, upd_ne c2]
              exact ec
          · rintro H2 ⟨ws, h1, h2, h3, h4⟩
            rw [Nat.sub_self] at h4
            have wl : ws.length ≤ 10000 := by omega
            refine ⟨wa, D, _, ws, rfl, rfl, h3 _ _ hwG, h1, Nat.le_trans (show xs'.reverse.length + ws.length ≤ 20000 by rw [List.length_reverse]; omega) (by decide), ?_⟩
            have kp : ∀ c o, H2 c = some (.tup o) → (upd H2 wa (.lst (xs'.reverse ++ ws))) c = some (.tup o) := fun c o ec => by
              have c1 : c ≠ wa := fun z => by rw [z, h3 _ _ hwG] at ec; cases ec
              rw [upd_ne c1]
              exact ec
            refine ⟨ws.reverse ++ xs', kidsF 0 es p1 ++ ps', ys ++ [.ref tp], pl ++ [p1], _, _, _, _, rfl, same_fresh nwaH (smG.trans h3), ?_, ?_, ?_, ?_, fun z => absurd z nonil, ?_, ?_, ?_⟩
            · rw [upd_same]
              simp
            · rw [upd_ne sw]
              exact h3 _ _ hsG
            · exact (PendOk.append h4 (hPG.same fun c o ec => h3 _ _ ec)).same kp
            · exact ⟨hSG.1, fun n p e => let ⟨t, a, i, g1, g2, g3, g4⟩ := hSG.2 n p e; ⟨t, a, i, g1, kp _ _ (h3 _ _ g2), g3, g4⟩⟩
            · rw [faultP_kidsF, ← hf]
              simp only [faultP, faultD]
            · rw [szP_append, szP_kidsF, List.length_append]
              show pl.length + 1 + _ ≤ _
              omega
            · rw [szP_append, szP_kidsF, szP_cons]
              simp only [sz]
              omega
        | _ => simp [tyD] at el
      · have el' : (tyD d1 == "list") = false := by simpa using el
        rw [el']
        refine iteF ?_
        by_cases en : d1 = .none
        · subst en
          cases hd1
          refine ⟨_, rfl, _, rfl, ?_⟩
          exact iteF (iteF (next _ _ _ _ rfl))
        · have nv : v1 ≠ .non := by
            intro z
            subst z
            cases hd1
            exact en rfl
          have ef := fault_leaf el' en
          refine ⟨_, rfl, _, rfl, iteNN nv ?_⟩
          refine ⟨_, rfl, v1, d1, Hv, rfl, svG, hd1, by omega, _, rfl, ?_⟩
          by_cases ei : isT d1 = true
          · rw [ei] at ef ⊢
            exact iteF (next _ _ _ _ ef)
          · have ei' : isT d1 = false := by simpa using ei
            rw [ei'] at ef ⊢
            refine iteT ?_
            have ef2 : faultD d1 = some [] := ef
            have ed : faultD d = some p1 := by
              rw [← hf]
              simp [faultP, ef2]
            refine ⟨_, rfl, sa, _, pl ++ [p1], pl.length, p1, rfl, SqL.of hsG, hSG, by simp, by omega, by simp, fun H' t2 s2 nt2 ht2 => ?_⟩
            exact q2 p1 ed H' t2 (smG.trans s2) (smG.free nt2) ht2 (Nat.le_trans (fault_len _ _ ed) hz)
end
end TX
namespace TX
open PySem PySem.Spec PyProof.Rows L2
theorem lt_ltB {x : Str} (h : Lt x) : ltB x = true := by
  unfold ltB
  rw [List.all_eq_true]
  exact fun c hc => decide_eq_true (h c hc)
mutual
theorem val_fault : ∀ d : PyData, valD d → faultD d = none
  | .none, _ => rfl
  | .str x, h => by simp only [faultD, lt_ltB h, if_true]
  | .list es, h => by
    simp only [faultD]
    exact val_faultAll es 0 h
  | .bool _, h => h.elim
  | .int _, h => h.elim
  | .tuple _, h => h.elim
  | .dict _, h => h.elim
theorem val_faultAll : ∀ (ds : List PyData) (k : Nat), valAll ds → faultAll k ds = none
  | [], _, _ => rfl
  | d :: ds, k, h => by
    simp only [faultAll, val_fault d h.1]
    exact val_faultAll ds (k + 1) h.2
end
def spOkV (K : PySem.W.Frag) (r : V) : Sp := fun vs H Q _ => ∃ (v : V) (d : PyData) (Hv : Hp), vs = [v] ∧ Same Hv H ∧ Dp K Hv v d ∧ valD d ∧ sz d ≤ 10000 ∧ ∀ H', Same H H' → Q r H'
section
variable {P : Program} {w : World} {K : PySem.W.Frag} {mg : Str → Option Value} {base : Heap}
theorem scIsV : FnScope ["thing"] ["thing"] (defScope s_is_value) := ⟨rfl, rfl, rfl, by decide +kernel, rfl, by decide +kernel, by decide +kernel⟩
theorem ok_isV {f fF : Addr} {fd dF : FuncData} (F : Fun K "is_value" "is_value" s_is_value f fd) (GF : FnOk P w K mg base CX0 2 fF dF ["thing"] (spFault K)) (gF : mg "first_fault" = some (.ref fF)) (kF : PySem.W.keepIn K (.ref fF) = true) (bF : Binds K dF ["thing"] []) :
    FnOk P w K mg base CX0 3 f fd ["thing"] (spOkV K (.bl true)) := by
  refine F.ok scIsV (fun vs H Q E h => ?_) (fun cdv A outer s H vs Q E hr h => ?_)
  · obtain ⟨v, d, Hv, rfl, _⟩ := h
    rfl
  · obtain ⟨v, d, Hv, rfl, sv, hd, vd, hz, q⟩ := h
    refine ⟨_, pss_one (ps_ret (pe_cmp (pc_isN (pe_call GF hr (by rfl) gF kF bF .nil pass0 (pa_cons (pv 0) pa_nil))))), ?_⟩
    refine ⟨_, rfl, v, d, Hv, rfl, sv, hd, hz, fun _ H' sm => q H' sm, fun p e => ?_⟩
    rw [val_fault d vd] at e
    cases e
end
end TX
namespace TX
open PySem PySem.Spec PyProof.Rows L2
/-! ### all places, with the part at each and whether it is torn -/
abbrev Pt := List Nat × PyData × Bool
def under (k : Nat) (t : Pt) : Pt := (k :: t.1, t.2)
def plS (k : Nat) : List Nat → List Pt
  | [] => []
  | c :: cs => ([k], .str ⟨#[c]⟩, true) :: plS (k + 1) cs
mutual
def plT : PyData → List Pt
  | .list es => ([], .list es, false) :: plL 0 es
  | .str x => ([], .str x, false) :: if 1 < x.length then plS 0 x.cps.toList else []
  | d => [([], d, false)]
def plL (k : Nat) : List PyData → List Pt
  | [] => []
  | e :: es => (plT e).map (under k) ++ plL (k + 1) es
end
/-- what stands below, with its index -/
def belowS (k : Nat) : List Nat → List (Nat × PyData)
  | [] => []
  | c :: cs => (k, .str ⟨#[c]⟩) :: belowS (k + 1) cs
theorem plT_head (d : PyData) : ∃ r, plT d = ([], d, false) :: r := by
  cases d <;> simp only [plT] <;> exact ⟨_, rfl⟩
theorem plS_len : ∀ (cs : List Nat) (k : Nat), (plS k cs).length = cs.length
  | [], _ => rfl
  | c :: cs, k => by simp only [plS, List.length_cons, plS_len cs]
mutual
theorem plT_len : ∀ d : PyData, valD d → (plT d).length ≤ sz d
  | .none, _ => by simp [plT, sz]
  | .str x, _ => by
    have e : x.cps.toList.length = x.length := by simp [Str.length]
    simp only [plT, sz, List.length_cons]
    split
    · rw [plS_len, e]
      omega
    · simp
  | .list es, h => by
    have := plL_len es 0 h
    simp only [plT, sz, List.length_cons]
    omega
  | .bool _, h => h.elim
  | .int _, h => h.elim
  | .tuple _, h => h.elim
  | .dict _, h => h.elim
theorem plL_len : ∀ (ds : List PyData) (k : Nat), valAll ds → (plL k ds).length ≤ szAll ds
  | [], _, _ => by simp [plL]
  | d :: ds, k, h => by
    have a := plT_len d h.1
    have b := plL_len ds (k + 1) h.2
    simp only [plL, szAll, List.length_append, List.length_map]
    omega
end
mutual
theorem plT_short : ∀ (d : PyData), ∀ t ∈ plT d, t.1.length ≤ d.depth + 1
  | .list es, t, h => by
    simp only [plT, List.mem_cons] at h
    rcases h with rfl | h
    · simp
    · have := plL_short 0 es t h
      simp only [PyData.depth]
      omega
  | .str x, t, h => by
    simp only [plT, List.mem_cons] at h
    rcases h with rfl | h
    · simp
    · split at h
      · have := plS_short 0 x.cps.toList t h
        simp only [PyData.depth]
        omega
      · cases h
  | .none, t, h => by
    simp only [plT, List.mem_singleton] at h
    rw [h]
    simp
  | .bool b, t, h => by
    simp only [plT, List.mem_singleton] at h
    rw [h]
    simp
  | .int i, t, h => by
    simp only [plT, List.mem_singleton] at h
    rw [h]
    simp
  | .tuple es, t, h => by
    simp only [plT, List.mem_singleton] at h
    rw [h]
    simp
  | .dict es, t, h => by
    simp only [plT, List.mem_singleton] at h
    rw [h]
    simp
theorem plL_short : ∀ (k : Nat) (ds : List PyData), ∀ t ∈ plL k ds, t.1.length ≤ PyData.depthAll ds + 2
  | _, [], t, h => by simp [plL] at h
  | k, d :: ds, t, h => by
    simp only [plL, List.mem_append, List.mem_map] at h
    simp only [PyData.depthAll]
    rcases h with ⟨u, hu, rfl⟩ | h
    · have := plT_short d u hu
      simp only [under, List.length_cons]
      omega
    · have := plL_short (k + 1) ds t h
      omega
theorem plS_short : ∀ (k : Nat) (cs : List Nat), ∀ t ∈ plS k cs, t.1.length ≤ 1
  | _, [], t, h => by simp [plS] at h
  | k, c :: cs, t, h => by
    simp only [plS, List.mem_cons] at h
    rcases h with rfl | h
    · simp
    · exact plS_short (k + 1) cs t h
end
mutual
theorem dep_sz : ∀ d : PyData, valD d → d.depth ≤ sz d
  | .none, _ => by simp [PyData.depth]
  | .str x, _ => by simp [PyData.depth]
  | .list es, h => by
    have := depAll_sz es h
    simp only [PyData.depth, sz]
    omega
  | .bool _, h => h.elim
  | .int _, h => h.elim
  | .tuple _, h => h.elim
  | .dict _, h => h.elim
theorem depAll_sz : ∀ ds : List PyData, valAll ds → PyData.depthAll ds ≤ szAll ds
  | [], _ => by simp [PyData.depthAll]
  | d :: ds, h => by
    have a := dep_sz d h.1
    have b := depAll_sz ds h.2
    simp only [PyData.depthAll, szAll]
    omega
end
/-! ### what waits -/
abbrev Wt := List Nat × PyData
def outW : List Wt → List (List Nat)
  | [] => []
  | (p, d) :: ws => (plT d).map (fun t => p ++ t.1) ++ outW ws
def kidW (p : List Nat) (k : Nat) : List PyData → List Wt
  | [] => []
  | e :: es => (p ++ [k], e) :: kidW p (k + 1) es
theorem outW_append : ∀ a b : List Wt, outW (a ++ b) = outW a ++ outW b
  | [], b => rfl
  | (p, d) :: a, b => by simp only [List.cons_append, outW, outW_append a b, List.append_assoc]
theorem outW_kids (p : List Nat) : ∀ (es : List PyData) (k : Nat), outW (kidW p k es) = (plL k es).map fun t => p ++ t.1
  | [], _ => rfl
  | e :: es, k => by
    simp only [kidW, outW, plL, outW_kids p es (k + 1), List.map_append, List.map_map]
    congr 1
    apply List.map_congr_left
    intro t _
    simp [under]
theorem plL_signs : ∀ (cs : List Nat) (k : Nat), (plL k (cs.map fun c => PyData.str ⟨#[c]⟩)).map (·.1) = (plS k cs).map (·.1)
  | [], _ => rfl
  | c :: cs, k => by
    have e : plT (PyData.str ⟨#[c]⟩) = [([], .str ⟨#[c]⟩, false)] := by
      simp only [plT]
      rw [if_neg (show ¬ 1 < (⟨#[c]⟩ : Str).length from (by decide : ¬ 1 < 1))]
    simp only [List.map_cons, plL, plS, e, List.map_append, plL_signs cs (k + 1)]
    rfl
theorem plT_inner (d : PyData) : (plT d).map (·.1) = [] :: (plL 0 (innerD d)).map (·.1) := by
  cases d with
  | list es => simp only [plT, innerD, List.map_cons]
  | str x =>
    simp only [plT, innerD, List.map_cons]
    by_cases h : 1 < x.length
    · rw [if_pos h, if_pos h]
      unfold signD
      rw [plL_signs]
    · rw [if_neg h, if_neg h]
      rfl
  | _ => simp only [plT, innerD, List.map_cons, List.map_nil, plL]
theorem outW_step (p : List Nat) (d : PyData) (ws : List Wt) : outW ((p, d) :: ws) = p :: outW (kidW p 0 (innerD d) ++ ws) := by
  rw [outW_append, outW_kids]
  simp only [outW]
  have e : (plT d).map (fun t => p ++ t.1) = ((plT d).map (·.1)).map (fun q => p ++ q) := by rw [List.map_map]; rfl
  have e2 : (plL 0 (innerD d)).map (fun t => p ++ t.1) = ((plL 0 (innerD d)).map (·.1)).map (fun q => p ++ q) := by rw [List.map_map]; rfl
  rw [e, e2, plT_inner]
  simp
theorem outW_len : ∀ ws : List Wt, ws.length ≤ (outW ws).length
  | [] => Nat.le_refl _
  | (p, d) :: ws => by
    obtain ⟨r, e⟩ := plT_head d
    have := outW_len ws
    simp only [outW, e, List.map_cons, List.cons_append, List.length_cons, List.length_append]
    omega
theorem kid_drop (p : List Nat) : ∀ (j k : Nat) (es : List PyData) (e : PyData), es[j]? = some e → kidW p (k + j) (es.drop j) = (p ++ [k + j], e) :: kidW p (k + j + 1) (es.drop (j + 1))
  | 0, k, x :: es, e, h => by
    simp only [List.getElem?_cons_zero, Option.some.injEq] at h
    subst h
    simp [kidW]
  | j + 1, k, x :: es, e, h => by
    simp only [List.getElem?_cons_succ] at h
    have := kid_drop p j (k + 1) es e h
    simp only [List.drop_succ_cons]
    rw [show k + (j + 1) = k + 1 + j by omega]
    exact this
  | j, k, [], e, h => by simp at h
theorem kid_mem {p : List Nat} : ∀ {es : List PyData} {k : Nat} {x : Wt}, x ∈ kidW p k es → x.2 ∈ es
  | e :: es, k, x, h => by
    rcases List.mem_cons.mp h with h | h
    · rw [h]
      exact List.mem_cons_self
    · exact List.mem_cons_of_mem _ (kid_mem h)
theorem natV_snoc (p : List Nat) (j : Nat) : natV p ++ [V.int ((j : Nat) : Int)] = natV (p ++ [j]) := by simp [natV]
inductive Pls (H : Hp) : List V → List (List Nat) → Prop
  | nil : Pls H [] []
  | cons {t : Addr} {p : List Nat} {ws : List V} {ps : List (List Nat)} : H t = some (.tup (natV p)) → Pls H ws ps → Pls H (.ref t :: ws) (p :: ps)
theorem Pls.keep {H H' : Hp} (s : ∀ t o, H t = some (.tup o) → H' t = some (.tup o)) : ∀ {ws : List V} {ps : List (List Nat)}, Pls H ws ps → Pls H' ws ps
  | _, _, .nil => .nil
  | _, _, .cons h r => .cons (s _ _ h) (r.keep s)
theorem Pls.same {H H' : Hp} (s : Same H H') {ws : List V} {ps : List (List Nat)} (h : Pls H ws ps) : Pls H' ws ps := h.keep fun t o e => s _ _ e
theorem Pls.append {H : Hp} : ∀ {ws us : List V} {ps qs : List (List Nat)}, Pls H ws ps → Pls H us qs → Pls H (ws ++ us) (ps ++ qs)
  | _, _, _, _, .nil, g => g
  | _, _, _, _, .cons h r, g => .cons h (r.append g)
theorem Pls.len {H : Hp} : ∀ {ws : List V} {ps : List (List Nat)}, Pls H ws ps → ws.length = ps.length
  | _, _, .nil => rfl
  | _, _, .cons _ r => congrArg (· + 1) r.len
theorem Pls.get {H : Hp} : ∀ {ws : List V} {ps : List (List Nat)} {i : Nat} {x : V}, Pls H ws ps → ws[i]? = some x → ∃ t p, x = .ref t ∧ H t = some (.tup (natV p)) ∧ ps[i]? = some p
  | _, _, _, _, .nil, h => by simp at h
  | _, _, 0, _, .cons h r, e => by
    simp only [List.getElem?_cons_zero, Option.some.injEq] at e
    exact ⟨_, _, e.symm, h, rfl⟩
  | _, _, i + 1, _, .cons h r, e => by
    simp only [List.getElem?_cons_succ] at e
    exact r.get e
inductive PeOk (K : PySem.W.Frag) (Hv H : Hp) : List V → List Wt → Prop
  | nil : PeOk K Hv H [] []
  | cons {t q : Addr} {v : V} {p : List Nat} {d : PyData} {xs : List V} {ws : List Wt} : H t = some (.tup [.ref q, v]) → H q = some (.tup (natV p)) → Dp K Hv v d → PeOk K Hv H xs ws → PeOk K Hv H (.ref t :: xs) ((p, d) :: ws)
theorem PeOk.keep {K : PySem.W.Frag} {Hv H H' : Hp} (s : ∀ t o, H t = some (.tup o) → H' t = some (.tup o)) : ∀ {xs : List V} {ws : List Wt}, PeOk K Hv H xs ws → PeOk K Hv H' xs ws
  | _, _, .nil => .nil
  | _, _, .cons h1 h2 h3 r => .cons (s _ _ h1) (s _ _ h2) h3 (r.keep s)
theorem PeOk.append {K : PySem.W.Frag} {Hv H : Hp} : ∀ {xs ys : List V} {ws us : List Wt}, PeOk K Hv H xs ws → PeOk K Hv H ys us → PeOk K Hv H (xs ++ ys) (ws ++ us)
  | _, _, _, _, .nil, g => g
  | _, _, _, _, .cons h1 h2 h3 r, g => .cons h1 h2 h3 (r.append g)
theorem PeOk.len {K : PySem.W.Frag} {Hv H : Hp} : ∀ {xs : List V} {ws : List Wt}, PeOk K Hv H xs ws → xs.length = ws.length
  | _, _, .nil => rfl
  | _, _, .cons _ _ _ r => congrArg (· + 1) r.len
def spPlacesOf (K : PySem.W.Frag) : Sp := fun vs H Q _ => ∃ (v : V) (d : PyData) (Hv : Hp), vs = [v] ∧ Same Hv H ∧ Dp K Hv v d ∧ valD d ∧ sz d ≤ 5000 ∧ ∀ (H' : Hp) (l : Addr) (ys : List V), Same H H' → H l = none → H' l = some (.lst ys) → Pls H' ys ((plT d).map (·.1)) → Q (.ref l) H'
section
variable {P : Program} {w : World} {K : PySem.W.Frag} {mg : Str → Option Value} {base : Heap}
theorem scPlacesOf : FnScope ["value", "waiting", "places", "place", "part", "inner", "at"] ["value"] (defScope s_places_of) := ⟨rfl, rfl, rfl, by decide +kernel, rfl, by decide +kernel, by decide +kernel⟩
theorem ok_placesOf {f fN : Addr} {fd dN : FuncData} (F : Fun K "places_of" "places_of" s_places_of f fd) (T : Nm mg) (B : Nb mg) (Y : Nv mg) (GN : FnOk P w K mg base CX0 1 fN dN ["part"] (spInner K)) (gN : mg "inner_of" = some (.ref fN)) (kN : PySem.W.keepIn K (.ref fN) = true) (bN : Binds K dN ["part"] []) :
    FnOk P w K mg base CX0 2 f fd ["value"] (spPlacesOf K) := by
  refine F.ok scPlacesOf (fun vs H Q E h => ?_) (fun cdv A outer s H vs Q E hr h => ?_)
  · obtain ⟨v, d, Hv, rfl, _⟩ := h
    rfl
  · obtain ⟨v, d, Hv, rfl, sv, hd, vd, hz, q⟩ := h
    refine ⟨_, pss_cons (ps_set (i := 1) scPlacesOf.nd rfl (.inl rfl) (pe_lst (pa_cons (pe_tup (pa_cons (pe_tup pa_nil) (pa_cons (pv 0) pa_nil))) pa_nil))) <|
      pss_cons (ps_set (i := 2) scPlacesOf.nd rfl (.inl rfl) (pe_lst pa_nil)) <|
      pss_cons (ps_while PassesOwn.never (pt_truth (pv 1) (by intro _; rfl)) (
        pss_cons (ps_asg (pe_bm0 PySem.F.plainAttrs_list PySem.F.slot_list_pop PySem.F.type_list_pop mt_pop (pv 1)) (pg_tup rfl (pgs_cons (pg_name (i := 3) scPlacesOf.nd rfl (.inr rfl)) (pgs_cons (pg_name (i := 4) scPlacesOf.nd rfl (.inl rfl)) pgs_nil)))) <|
        pss_cons (ps_expr (pe_bm PySem.F.plainAttrs_list PySem.F.slot_list_append PySem.F.type_list_append mt_append (pv 2) (pa_cons (pv 3) pa_nil))) <|
        pss_cons (ps_set (i := 5) scPlacesOf.nd rfl (.inr rfl) (pe_call GN hr (by rfl) gN kN bN .nil pass0 (pa_cons (pv 4) pa_nil))) <|
        pss_one (ps_expr (pe_bm PySem.F.plainAttrs_list PySem.F.slot_list_extend PySem.F.type_list_extend mt_extend (pv 1) (pa_cons (pe_lc (own := [("at", 6)]) (g := gName 6) (tt := tYes)
            (te := tTup (tCons (tTup (StX.tStar K (tVar 3) (tCons (tVar 6) tNil))) (tCons (tOp (rIxL K) (tVar 5) (tVar 6)) tNil))) rfl scPlacesOf.nd
            (pi_range3 (by rfl) Y.range (pa_cons (pe_op op_sub (pe_callB call_len_seq (by rfl) B.len PySem.boot_len (pa_cons (pv 5) pa_nil)) pe_int) (pa_cons (pe_un un_neg pe_int) (pa_cons (pe_un un_neg pe_int) pa_nil))))
            (blkOk_by (own := [("at", 6)]) (N := ["value", "waiting", "places", "place", "part", "inner", "at"]) (sc := defScope s_places_of) (by decide +kernel)) (fun _ _ _ _ _ => pg_name (i := 6) scPlacesOf.nd rfl (Or.inl rfl)) (fun _ _ _ _ _ => pts_nil)
            (fun _ _ _ _ _ => pe_tup (pa_cons (pe_tup (StX.pa_star (pv 3) (pa_cons (pv 6) pa_nil))) (pa_cons (pe_ix ix_list (pv 5) (pv 6) (fun _ _ => rfl)) pa_nil)))) pa_nil))))) <|
      pss_one (ps_ret (pv 2)), ?_⟩
    have fit : ∀ {n : Nat}, n ≤ 100000 → n ≤ sizeLine := fun h => Nat.le_trans h (by decide)
    have ltz : ∀ {n : Nat}, n ≤ 100000 → n < sizeLine := fun h => Nat.lt_of_le_of_lt h (by decide)
    have pl0 := plT_len d vd
    refine ⟨by decide, fun q0 nq0 => ⟨_, rfl, (by show 2 ≤ sizeLine; decide), fun t0 nt0 => ⟨(by show 1 ≤ sizeLine; decide), fun wa nwa => ⟨by decide, fun sa nsa => ?_⟩⟩⟩⟩
    have k1 := same_upd (o := .tup []) nq0
    have k2 := same_upd (o := .tup [.ref q0, v]) nt0
    have k3 := same_upd (o := .lst [.ref t0]) nwa
    have k4 := same_upd (o := .lst []) nsa
    have sm0 := (k1.trans k2).trans (k3.trans k4)
    have nwaH : H wa = none := (k1.trans k2).free nwa
    have nsaH : H sa = none := ((k1.trans k2).trans k3).free nsa
    have sw : sa ≠ wa := fun e => by
      rw [e, upd_same] at nsa
      cases nsa
    have e1 := (k2.trans (k3.trans k4)) _ _ (upd_same (H := H) (a := q0) (o := .tup []))
    have e2 := (k3.trans k4) _ _ (upd_same (H := upd H q0 (.tup [])) (a := t0) (o := .tup [.ref q0, v]))
    have e3 := k4 _ _ (upd_same (H := upd (upd H q0 (.tup [])) t0 (.tup [.ref q0, v])) (a := wa) (o := .lst [.ref t0]))
    have e4 := upd_same (H := upd (upd (upd H q0 (.tup [])) t0 (.tup [.ref q0, v])) wa (.lst [.ref t0])) (a := sa) (o := .lst [])
    generalize upd (upd (upd (upd H q0 (.tup [])) t0 (.tup [.ref q0, v])) wa (.lst [.ref t0])) sa (.lst []) = G0 at sm0 e1 e2 e3 e4
    refine ⟨fun m σ H1 => ∃ (xs : List V) (ws : List Wt) (ys : List V) (qs : List (List Nat)) (z3 z4 z5 : Option V), σ = [some v, some (.ref wa), some (.ref sa), z3, z4, z5, none] ∧ Same H H1 ∧ H1 wa = some (.lst xs.reverse) ∧ H1 sa = some (.lst ys) ∧
      PeOk K Hv H1 xs ws ∧ Pls H1 ys qs ∧ qs ++ outW ws = (plT d).map (·.1) ∧ (∀ x ∈ ws, sz x.2 ≤ sz d + 2) ∧ m = (outW ws).length,
      ⟨_, [.ref t0], [([], d)], [], [], none, none, none, rfl, sm0, e3, e4, .cons (p := []) e2 e1 hd .nil, .nil, by simp [outW], fun x hx => by rw [List.mem_singleton.mp hx]; exact Nat.le_add_right _ _, rfl⟩, ?_⟩
    rintro m σ H1 ⟨xs, ws, ys, qs, z3, z4, z5, rfl, sm, hw, hs, hP, hS, ho, hb, rfl⟩
    refine ⟨_, rfl, _, .inl ⟨_, SqL.of hw, rfl⟩, ?_⟩
    have lo := congrArg List.length ho
    rw [List.length_append, List.length_map] at lo
    have lys := hS.len
    cases hP with
    | nil =>
      refine iteF ⟨_, rfl, q H1 sa ys sm nsaH hs ?_⟩
      rw [← ho]
      simpa [outW] using hS
    | @cons t qa v1 p1 d1 xs' ws' ht hq hd1 hP' =>
      have hne : (!((V.ref t :: xs').reverse).isEmpty) = true := by simp
      rw [hne]
      refine iteT ?_
      rw [List.reverse_cons] at hw
      have lx := hP'.len
      have lw := outW_len ((p1, d1) :: ws')
      rw [List.length_cons] at lw
      have bd1 := hb (p1, d1) List.mem_cons_self
      have st := outW_step p1 d1 ws'
      refine ⟨fun σ' H2 => ∃ (xs2 : List V) (ws2 : List Wt) (ys2 : List V) (qs2 : List (List Nat)) (z3 z4 z5 : Option V), σ' = [some v, some (.ref wa), some (.ref sa), z3, z4, z5, none] ∧ Same H H2 ∧ H2 wa = some (.lst xs2.reverse) ∧ H2 sa = some (.lst ys2) ∧
        PeOk K Hv H2 xs2 ws2 ∧ Pls H2 ys2 qs2 ∧ qs2 ++ outW ws2 = (plT d).map (·.1) ∧ (∀ x ∈ ws2, sz x.2 ≤ sz d + 2) ∧ (outW ws2).length < (outW ((p1, d1) :: ws')).length, ?_, ?_⟩
      · rintro σ' H2 ⟨xs2, ws2, ys2, qs2, y3, y4, y5, e, g1, g2, g3, g4, g5, g6, g7, g8⟩
        exact ⟨_, g8, xs2, ws2, ys2, qs2, y3, y4, y5, e, g1, g2, g3, g4, g5, g6, g7, rfl⟩
      have tw : t ≠ wa := fun e => by
        rw [e, hw] at ht
        cases ht
      refine ⟨_, rfl, .inl ⟨rfl, _, SqL.of hw⟩, wa, _, .ref t, rfl, rfl, hw, by simp, ?_⟩
      rw [List.dropLast_concat]
      refine ⟨t, _, rfl, SqT.of ((upd_ne tw).trans ht), rfl, _, _, rfl, _, _, rfl, rfl, ?_⟩
      have hs2 : (upd H1 wa (.lst xs'.reverse)) sa = some (.lst ys) := (upd_ne sw).trans hs
      refine ⟨_, rfl, .inl ⟨rfl, _, SqL.of hs2⟩, _, rfl, sa, _, _, rfl, rfl, hs2, ltz (by omega), ?_⟩
      have smG : Same H (upd (upd H1 wa (.lst xs'.reverse)) sa (.lst (ys ++ [.ref qa]))) := same_fresh nsaH (same_fresh nwaH sm)
      have hwG : (upd (upd H1 wa (.lst xs'.reverse)) sa (.lst (ys ++ [.ref qa]))) wa = some (.lst xs'.reverse) := by
        rw [upd_ne sw.symm, upd_same]
      have hsG : (upd (upd H1 wa (.lst xs'.reverse)) sa (.lst (ys ++ [.ref qa]))) sa = some (.lst (ys ++ [.ref qa])) := upd_same
      have keep : ∀ b o, H1 b = some (.tup o) → (upd (upd H1 wa (.lst xs'.reverse)) sa (.lst (ys ++ [.ref qa]))) b = some (.tup o) := by
        intro b o e
        have b1 : b ≠ wa := fun z => by rw [z, hw] at e; cases e
        have b2 : b ≠ sa := fun z => by rw [z, hs] at e; cases e
        rw [upd_ne b2, upd_ne b1]
        exact e
      generalize upd (upd H1 wa (.lst xs'.reverse)) sa (.lst (ys ++ [.ref qa])) = G at smG hwG hsG keep
      refine ⟨_, rfl, v1, d1, Hv, rfl, sv.trans smG, hd1, by dsimp only at bd1; omega, fun G1 b1 xs1 s1 hb1 hin => ?_⟩
      have lin := DpAll.length hin
      have li : (innerD d1).length ≤ 10010 := by
        have e1 := szAll_len (innerD d1)
        have e2 := inner_sz d1
        dsimp only at bd1
        omega
      have hqa := s1 _ _ (keep _ _ hq)
      refine ⟨_, rfl, .inl ⟨rfl, _, SqL.of (s1 _ _ hwG)⟩, _, rfl, b1, xs1, rfl, .inl hb1, _, _, rfl, rfl, _, rfl, _, rfl, _, _, _, xs1.length, rfl, ?_, fun D nD => lc_it walk_rangeC (fun k H' => ∃ us, H' D = some (.lst us) ∧ us.length = k ∧ Same G1 H' ∧ PeOk K Hv H' us.reverse (kidW p1 (xs1.length - k) ((innerD d1).drop (xs1.length - k)))) ?_ (fun _ _ _ _ => trivial) ?_ ?_⟩
      · have e : (((xs1.length : Nat) : Int) - 1 - -1).toNat = xs1.length := by omega
        have g := RgC.neg (i := ((xs1.length : Nat) : Int) - 1) (j := -1) (by omega) (by omega) (by decide) (by decide)
        rw [e] at g
        exact g
      · refine ⟨[], upd_same, rfl, same_upd nD, ?_⟩
        rw [Nat.sub_zero, lin, List.drop_length]
        exact .nil
      · rintro k x H2x H2 hk ⟨us, h1, h2, h3, h4⟩ ⟨e2x, hx⟩
        subst e2x
        have hx' : x = .int ((xs1.length - 1 - k : Nat) : Int) := by
          rw [hx]
          show V.int (((xs1.length : Nat) : Int) - 1 + ((k : Nat) : Int) * -1) = _
          have : ((xs1.length : Nat) : Int) - 1 + ((k : Nat) : Int) * -1 = ((xs1.length - 1 - k : Nat) : Int) := by omega
          rw [this]
        subst hx'
        obtain ⟨j, hj⟩ : ∃ j, j = xs1.length - 1 - k := ⟨_, rfl⟩
        rw [← hj]
        have hjx : xs1[j]? = some xs1[j] := List.getElem?_eq_getElem (by omega)
        obtain ⟨e, he, hde⟩ := DpAll.get hin hjx
        have lp : (natV p1 ++ [V.int ((j : Nat) : Int)]).length ≤ sizeLine := by
          have mem : p1 ∈ (plT d).map (·.1) := by
            rw [← ho, st]
            simp
          obtain ⟨t', ht', rfl⟩ := List.mem_map.mp mem
          have := plT_short d t' ht'
          have := dep_sz d vd
          refine fit ?_
          simp only [natV, List.length_append, List.length_map, List.length_singleton]
          omega
        refine ⟨rfl, _, rfl, qa, natV p1, rfl, .inl (SqT.of (h3 _ _ hqa)), _, rfl, lp, fun T1 n1 => ⟨_, rfl, _, rfl, b1, xs1, _, _, rfl, rfl, (h3.trans (same_upd n1)).seq hb1, atI_nat hjx, (by show 2 ≤ sizeLine; decide), fun T2 n2 => ?_⟩⟩
        have m1 := same_upd (o := .tup (natV p1 ++ [V.int ((j : Nat) : Int)])) n1
        have m2 := same_upd (o := .tup [.ref T1, xs1[j]]) n2
        have f1 := m2 _ _ (upd_same (H := H2) (a := T1) (o := .tup (natV p1 ++ [V.int ((j : Nat) : Int)])))
        have f2 := upd_same (H := upd H2 T1 (.tup (natV p1 ++ [V.int ((j : Nat) : Int)]))) (a := T2) (o := .tup [.ref T1, xs1[j]])
        have hD' := (m1.trans m2) _ _ h1
        have m3 := h3.trans (m1.trans m2)
        have h4' := h4.keep fun t o e => (m1.trans m2) _ _ e
        generalize upd (upd H2 T1 (.tup (natV p1 ++ [V.int ((j : Nat) : Int)]))) T2 (.tup [.ref T1, xs1[j]]) = G2 at f1 f2 hD' m3 h4'
        refine ⟨us, hD', ltz (by omega), us ++ [.ref T2], upd_same, by simp [h2], same_fresh nD m3, ?_⟩
        have ek : xs1.length - (k + 1) = j := by omega
        have ek2 : xs1.length - k = j + 1 := by omega
        rw [ek2] at h4'
        have kd := kid_drop p1 j 0 (innerD d1) e he
        rw [Nat.zero_add] at kd
        rw [ek, kd, List.reverse_append]
        have kp : ∀ t o, G2 t = some (.tup o) → (upd G2 D (.lst (us ++ [.ref T2]))) t = some (.tup o) := fun t o e => by
          have c1 : t ≠ D := fun z => by rw [z, hD'] at e; cases e
          rw [upd_ne c1]
          exact e
        exact .cons (kp _ _ f2) (kp _ _ (by rw [natV_snoc] at f1; exact f1)) hde (h4'.keep kp)
      · rintro H2 ⟨us, h1, h2, h3, h4⟩
        rw [Nat.sub_self] at h4
        refine ⟨wa, D, _, us, rfl, rfl, h3 _ _ (s1 _ _ hwG), h1, fit (by rw [List.length_reverse]; omega), ?_⟩
        have kp : ∀ c o, H2 c = some (.tup o) → (upd H2 wa (.lst (xs'.reverse ++ us))) c = some (.tup o) := fun c o ec => by
          have c1 : c ≠ wa := fun z => by rw [z, h3 _ _ (s1 _ _ hwG)] at ec; cases ec
          rw [upd_ne c1]
          exact ec
        have s12 := s1.trans h3
        refine ⟨us.reverse ++ xs', kidW p1 0 (innerD d1) ++ ws', ys ++ [.ref qa], qs ++ [p1], _, _, _, rfl, same_fresh nwaH (smG.trans s12), ?_, ?_, ?_, ?_, ?_, ?_, ?_⟩
        · rw [upd_same]
          simp
        · rw [upd_ne sw]
          exact s12 _ _ hsG
        · exact (PeOk.append h4 (hP'.keep fun t o e => s12 _ _ (keep _ _ e))).keep kp
        · exact Pls.append (hS.keep fun t o e => kp _ _ (s12 _ _ (keep _ _ e))) (.cons (kp _ _ (h3 _ _ hqa)) .nil)
        · rw [← ho, st]
          simp
        · intro x hx
          rcases List.mem_append.mp hx with hx | hx
          · obtain ⟨i, hi⟩ := List.getElem?_of_mem (kid_mem hx)
            have := inner_get hi
            dsimp only at bd1
            omega
          · exact hb x (List.mem_cons_of_mem _ hx)
        · rw [st, List.length_cons]
          exact Nat.lt_succ_self _
end
end TX
namespace TX
open PySem PySem.Spec PyProof.Rows L2
/-! ### a list under way in a comprehension, told as data -/
structure LcD (K : PySem.W.Frag) (H1 : Hp) (D : Addr) (F : List PyData) (H : Hp) : Prop where
  ex : ∃ us, H D = some (.lst us) ∧ DpAll K (del H D) us F
  sm : Same H1 H
theorem del_mono' {H H' : Hp} {p : Addr} (s : Same H H') : Same (del H p) (del H' p) := fun b o e => by
  by_cases z : b = p
  · rw [z, del_same] at e
    cases e
  · rw [del_ne z] at e ⊢
    exact s _ _ e
theorem del_out {H H' : Hp} {p : Addr} (h : H p = none) (s : Same H H') : Same H (del H' p) := fun b o e => by
  rw [del_ne (ne_of_none e h)]
  exact s _ _ e
theorem del_in {H : Hp} {p : Addr} : Same (del H p) H := fun b o e => by
  by_cases z : b = p
  · rw [z, del_same] at e
    cases e
  · rw [del_ne z] at e
    exact e
theorem newp_del {H H' : Hp} {p : Addr} (h : H p ≠ none) : Same (newp H H') (del H' p) := fun b o e => by
  cases q : H b with
  | some y =>
    rw [newp_old q] at e
    cases e
  | none =>
    rw [newp_at q] at e
    rw [del_ne (fun z => h (by rw [← z]; exact q))]
    exact e
theorem lcd_start {K : PySem.W.Frag} {H1 : Hp} {D : Addr} (nD : H1 D = none) : LcD K H1 D [] (upd H1 D (.lst [])) := ⟨⟨[], upd_same, .nil⟩, same_upd nD⟩
theorem LcD.on {K : PySem.W.Frag} {H1 H : Hp} {D : Addr} {F : List PyData} (L : LcD K H1 D F H) : H D ≠ none := by
  obtain ⟨us, e, _⟩ := L.ex
  rw [e]
  exact fun z => nomatch z
theorem lcd_push {K : PySem.W.Frag} {H1 H H4 : Hp} {D : Addr} {F : List PyData} {y : V} {d : PyData} (L : LcD K H1 D F H) (nD : H1 D = none) (s : Same H H4) (hy : Dp K (del H4 D) y d) (hl : F.length ≤ 100000) :
    ∃ acc, H4 D = some (.lst acc) ∧ acc.length < sizeLine ∧ LcD K H1 D (F ++ [d]) (upd H4 D (.lst (acc ++ [y]))) := by
  obtain ⟨us, e, h⟩ := L.ex
  have ul := DpAll.length h
  refine ⟨us, s _ _ e, Nat.lt_of_le_of_lt (show us.length ≤ 100000 by omega) (by decide), ⟨us ++ [y], upd_same, ?_⟩, same_fresh nD (L.sm.trans s)⟩
  have c : Same (del H4 D) (del (upd H4 D (.lst (us ++ [y]))) D) := fun b o q => by
    by_cases z : b = D
    · rw [z, del_same] at q
      cases q
    · rw [del_ne z] at q ⊢
      rw [upd_ne z]
      exact q
  exact dpAll_same c _ _ (DpAll.append (dpAll_same (del_mono' s) _ _ h) (.cons hy .nil))
theorem lcd_skip {K : PySem.W.Frag} {H1 H H3 : Hp} {D : Addr} {F : List PyData} (L : LcD K H1 D F H) (s : Same H H3) : LcD K H1 D F H3 := by
  obtain ⟨us, e, h⟩ := L.ex
  exact ⟨⟨us, s _ _ e, dpAll_same (del_mono' s) _ _ h⟩, L.sm.trans s⟩
theorem LcD.base {K : PySem.W.Frag} {H1 H : Hp} {D : Addr} {F : List PyData} (L : LcD K H1 D F H) (nD : H1 D = none) : Same H1 (del H D) := del_out nD L.sm
/-- the list, told -/
theorem LcD.dp {K : PySem.W.Frag} {H1 H : Hp} {D : Addr} {F : List PyData} (L : LcD K H1 D F H) : Dp K H (.ref D) (.list F) := by
  obtain ⟨us, e, h⟩ := L.ex
  exact .lst (SqL.of e) (dpAll_same del_in _ _ h)
/-! ### parts by their places -/
theorem natD_append (p q : List Nat) : natD (p ++ q) = natD p ++ natD q := List.map_append
theorem at_append : ∀ (ks ls : List PyData) (d e : PyData), atD d ks = some e → atD d (ks ++ ls) = atD e ls
  | [], ls, d, e, h => by
    cases h
    rfl
  | k :: ks, ls, d, e, h => by
    cases k with
    | int i =>
      rw [List.cons_append]
      simp only [atD] at h ⊢
      split at h
      · rename_i h0
        rw [if_pos h0]
        split at h
        · exact at_append ks ls _ e h
        · cases h
      · cases h
    | _ => simp [atD] at h
theorem inner_val {d : PyData} (hv : valD d) : valAll (innerD d) ∧ PyData.depthAll (innerD d) ≤ d.depth := by
  cases d with
  | str x =>
    obtain ⟨h1, h2, h3⟩ := signs_all x.cps.toList hv
    simp only [innerD]
    split
    · exact ⟨h1, by unfold signD; rw [h3]; exact Nat.zero_le _⟩
    · exact ⟨trivial, Nat.zero_le _⟩
  | list es => exact ⟨hv, by simp only [innerD, PyData.depth]; omega⟩
  | none => exact ⟨trivial, Nat.zero_le _⟩
  | bool _ => exact hv.elim
  | int _ => exact hv.elim
  | tuple _ => exact hv.elim
  | dict _ => exact hv.elim
theorem at_val : ∀ (ks : List PyData) (d e : PyData), atD d ks = some e → valD d → valD e ∧ sz e ≤ sz d + 1 ∧ e.depth ≤ d.depth
  | [], d, e, h, hv => by
    cases h
    exact ⟨hv, by omega, Nat.le_refl _⟩
  | k :: ks, d, e, h, hv => by
    cases k with
    | int i =>
      simp only [atD] at h
      split at h
      · split at h
        · rename_i x hx
          obtain ⟨v1, v2⟩ := inner_val hv
          obtain ⟨a, b, c⟩ := at_val ks x e h (val_get v1 hx)
          have dd := depth_get hx
          refine ⟨a, ?_, by omega⟩
          have p1 : 1 ≤ sz d := by cases d <;> simp [sz]
          rcases inner_get hx with z | z
          · omega
          · have x2 : sz e ≤ 2 := by
              cases ks with
              | nil =>
                cases h
                exact z
              | cons l ls => exact at_two (l :: ls) x e h z
            omega
        · cases h
      · cases h
    | _ => simp [atD] at h
where at_two : ∀ (ks : List PyData) (d e : PyData), atD d ks = some e → sz d ≤ 2 → sz e ≤ 2
  | [], d, e, h, hz => by
    cases h
    exact hz
  | k :: ks, d, e, h, hz => by
    cases k with
    | int i =>
      simp only [atD] at h
      split at h
      · split at h
        · rename_i x hx
          refine at_two ks x e h ?_
          rcases inner_get hx with z | z <;> omega
        · cases h
      · cases h
    | _ => simp [atD] at h
/-- what the rows of places say -/
def PtOk (d : PyData) (t : Pt) : Prop := atD d (natD t.1) = some t.2.1 ∧ tornD d (natD t.1) = t.2.2 ∧ (t.2.2 = true → ∃ c, t.2.1 = .str ⟨#[c]⟩) ∧ (t.2.2 = true → strB t.2.1 = true)
theorem atD_int {d : PyData} {j : Nat} {e : PyData} {ks : List PyData} (h : (innerD d)[j]? = some e) : atD d (.int ((j : Nat) : Int) :: ks) = atD e ks := by
  have e1 : (((j : Nat) : Int)).toNat = j := by omega
  have e2 : (0 : Int) ≤ ((j : Nat) : Int) := by omega
  simp only [atD, if_pos e2, e1, h]
theorem torn_list {es : List PyData} {j : Nat} {e : PyData} {ks : List PyData} (h : es[j]? = some e) : tornD (.list es) (.int ((j : Nat) : Int) :: ks) = tornD e ks := by
  cases ks with
  | nil => rfl
  | cons l ks =>
    have e1 : ((PyData.int ((j : Nat) : Int) :: l :: ks)).dropLast = .int ((j : Nat) : Int) :: (l :: ks).dropLast := List.dropLast_cons_of_ne_nil (by simp)
    have e2 : atD (.list es) (.int ((j : Nat) : Int) :: (l :: ks).dropLast) = atD e (l :: ks).dropLast := atD_int (d := .list es) h
    simp only [tornD, e1, e2]
theorem plS_mem : ∀ (cs : List Nat) (k : Nat) (t : Pt), t ∈ plS k cs → ∃ (j : Nat) (c : Nat), cs[j]? = some c ∧ t = ([k + j], .str ⟨#[c]⟩, true)
  | c :: cs, k, t, h => by
    simp only [plS, List.mem_cons] at h
    rcases h with rfl | h
    · exact ⟨0, c, rfl, rfl⟩
    · obtain ⟨j, c', hj, rfl⟩ := plS_mem cs (k + 1) t h
      exact ⟨j + 1, c', hj, by rw [show k + 1 + j = k + (j + 1) by omega]⟩
  | [], k, t, h => by simp [plS] at h
mutual
theorem plT_ok : ∀ (d : PyData), valD d → ∀ t ∈ plT d, PtOk d t
  | .none, _, t, h => by
    simp only [plT, List.mem_singleton] at h
    subst h
    exact ⟨rfl, rfl, (fun z => nomatch z), (fun z => nomatch z)⟩
  | .str x, hv, t, h => by
    simp only [plT, List.mem_cons] at h
    rcases h with rfl | h
    · exact ⟨rfl, rfl, (fun z => nomatch z), (fun z => nomatch z)⟩
    · split at h
      · rename_i h1
        obtain ⟨j, c, hj, rfl⟩ := plS_mem _ _ _ h
        have hi : (innerD (.str x))[j]? = some (.str ⟨#[c]⟩) := by
          simp only [innerD]
          rw [if_pos h1]
          unfold signD
          rw [List.getElem?_map, hj]
          rfl
        rw [Nat.zero_add]
        exact ⟨atD_int hi, rfl, fun _ => ⟨c, rfl⟩, fun _ => rfl⟩
      · cases h
  | .list es, hv, t, h => by
    simp only [plT, List.mem_cons] at h
    rcases h with rfl | h
    · exact ⟨rfl, rfl, (fun z => nomatch z), (fun z => nomatch z)⟩
    · obtain ⟨j, e, u, hj, hu, rfl, ok⟩ := plL_ok es hv 0 t h
      rw [Nat.zero_add]
      obtain ⟨a, b, c, c'⟩ := ok
      refine ⟨?_, ?_, c, c'⟩
      · exact (atD_int (d := .list es) (ks := natD u.1) hj).trans a
      · exact (torn_list (ks := natD u.1) hj).trans b
  | .bool _, hv, _, _ => hv.elim
  | .int _, hv, _, _ => hv.elim
  | .tuple _, hv, _, _ => hv.elim
  | .dict _, hv, _, _ => hv.elim
theorem plL_ok : ∀ (es : List PyData), valAll es → ∀ (k : Nat), ∀ t ∈ plL k es, ∃ (j : Nat) (e : PyData) (u : Pt), es[j]? = some e ∧ u ∈ plT e ∧ t = under (k + j) u ∧ PtOk e u
  | [], _, k, t, h => by simp [plL] at h
  | e :: es, hv, k, t, h => by
    simp only [plL, List.mem_append, List.mem_map] at h
    rcases h with ⟨u, hu, rfl⟩ | h
    · exact ⟨0, e, u, rfl, hu, rfl, plT_ok e hv.1 u hu⟩
    · obtain ⟨j, e', u, hj, hu, rfl, ok⟩ := plL_ok es hv.2 (k + 1) t h
      exact ⟨j + 1, e', u, hj, hu, by rw [show k + 1 + j = k + (j + 1) by omega], ok⟩
end
/-! ### the count of sizes -/
theorem tt_tt : (("text" : Str) == ("text" : Str)) = true := by decide +kernel
theorem tt_ll : (("text" : Str) == ("list" : Str)) = false := by decide +kernel
theorem ll_tt : (("list" : Str) == ("text" : Str)) = false := by decide +kernel
theorem ll_ll : (("list" : Str) == ("list" : Str)) = true := by decide +kernel
def loneB (t : Pt) : Bool := !t.2.2 && (kindS t.2.1 == ("text" : Str) && sz t.2.1 == 2)
theorem lone_under (k : Nat) (l : List Pt) : ((l.map (under k)).filter loneB).length = (l.filter loneB).length := by
  rw [List.filter_map, List.length_map]
  rfl
theorem plS_lone : ∀ (cs : List Nat) (k : Nat), (plS k cs).filter loneB = []
  | [], _ => rfl
  | c :: cs, k => by
    have e : loneB ([k], .str ⟨#[c]⟩, true) = false := rfl
    simp only [plS, List.filter_cons, e, plS_lone cs (k + 1)]
    rfl
mutual
theorem plT_count : ∀ d : PyData, valD d → (plT d).length + ((plT d).filter loneB).length = sz d
  | .none, _ => by decide +kernel
  | .str x, _ => by
    have e : x.cps.toList.length = x.length := by simp [Str.length]
    have e0 : loneB ([], .str x, false) = (sz (.str x) == 2) := by
      unfold loneB
      have : (kindS (.str x) == ("text" : Str)) = true := tt_tt
      simp only [this, Bool.not_false, Bool.true_and]
    simp only [plT]
    by_cases h : 1 < x.length
    · rw [if_pos h]
      simp only [List.filter_cons, e0, plS_lone, List.length_cons, plS_len, e]
      have : (sz (.str x) == 2) = false := by
        rw [beq_eq_false_iff_ne]
        simp only [sz]
        omega
      rw [this]
      simp only [sz, Bool.false_eq_true, if_false, List.length_nil]
    · rw [if_neg h]
      simp only [List.filter_cons, e0, List.filter_nil]
      by_cases h1 : x.length = 1
      · have : (sz (.str x) == 2) = true := by
          rw [beq_iff_eq]
          simp only [sz]
          omega
        rw [this]
        simp only [sz, if_true, List.length_cons, List.length_nil]
        omega
      · have : (sz (.str x) == 2) = false := by
          rw [beq_eq_false_iff_ne]
          simp only [sz]
          omega
        rw [this]
        simp only [sz, Bool.false_eq_true, if_false, List.length_cons, List.length_nil]
        omega
  | .list es, h => by
    have ih := plL_count es 0 h
    have e0 : loneB ([], .list es, false) = false := by
      unfold loneB
      have : (kindS (.list es) == ("text" : Str)) = false := ll_tt
      simp only [this, Bool.false_and, Bool.and_false]
    simp only [plT, List.filter_cons, e0, List.length_cons, sz, Bool.false_eq_true, if_false]
    omega
  | .bool _, h => h.elim
  | .int _, h => h.elim
  | .tuple _, h => h.elim
  | .dict _, h => h.elim
theorem plL_count : ∀ (ds : List PyData) (k : Nat), valAll ds → (plL k ds).length + ((plL k ds).filter loneB).length = szAll ds
  | [], _, _ => rfl
  | d :: ds, k, h => by
    have a := plT_count d h.1
    have b := plL_count ds (k + 1) h.2
    simp only [plL, List.filter_append, List.length_append, lone_under, List.length_map, szAll]
    omega
end
/-! ### the depth by the places of lists -/
def isLt (t : Pt) : Bool := !t.2.2 && (kindS t.2.1 == ("list" : Str))
theorem kind_list {d : PyData} (hv : valD d) : (kindS d == ("list" : Str)) = true ↔ ∃ es, d = .list es := by
  cases d with
  | list es => exact ⟨fun _ => ⟨es, rfl⟩, fun _ => ll_ll⟩
  | none => exact ⟨fun z => absurd z (by decide +kernel), fun ⟨_, z⟩ => nomatch z⟩
  | str x => exact ⟨fun z => absurd (tt_ll.symm.trans z) (fun z => nomatch z), fun ⟨_, z⟩ => nomatch z⟩
  | bool _ => exact hv.elim
  | int _ => exact hv.elim
  | tuple _ => exact hv.elim
  | dict _ => exact hv.elim
mutual
theorem plT_deep : ∀ (d : PyData), valD d → ∀ t ∈ plT d, isLt t = true → t.1.length + 1 ≤ d.depth
  | .none, _, t, h, g => by
    simp only [plT, List.mem_singleton] at h
    subst h
    exact absurd g (by decide +kernel)
  | .str x, _, t, h, g => by
    simp only [plT, List.mem_cons] at h
    rcases h with rfl | h
    · have : isLt ([], .str x, false) = false := tt_ll
      rw [this] at g
      cases g
    · split at h
      · obtain ⟨j, c, hj, rfl⟩ := plS_mem _ _ _ h
        cases g
      · cases h
  | .list es, hv, t, h, g => by
    simp only [plT, List.mem_cons] at h
    simp only [PyData.depth]
    rcases h with rfl | h
    · simp
    · have := plL_deep 0 es hv t h g
      omega
  | .bool _, h, _, _, _ => h.elim
  | .int _, h, _, _, _ => h.elim
  | .tuple _, h, _, _, _ => h.elim
  | .dict _, h, _, _, _ => h.elim
theorem plL_deep : ∀ (k : Nat) (ds : List PyData), valAll ds → ∀ t ∈ plL k ds, isLt t = true → t.1.length ≤ PyData.depthAll ds
  | _, [], _, t, h, _ => by simp [plL] at h
  | k, d :: ds, hv, t, h, g => by
    simp only [plL, List.mem_append, List.mem_map] at h
    simp only [PyData.depthAll]
    rcases h with ⟨u, hu, rfl⟩ | h
    · have := plT_deep d hv.1 u hu g
      simp only [under, List.length_cons]
      omega
    · have := plL_deep (k + 1) ds hv.2 t h g
      omega
end
mutual
theorem plT_deepest : ∀ (d : PyData), valD d → d.depth = 0 ∨ ∃ t ∈ plT d, isLt t = true ∧ t.1.length + 1 = d.depth
  | .none, _ => .inl rfl
  | .str _, _ => .inl rfl
  | .list es, hv => by
    right
    have e0 : isLt ([], .list es, false) = true := ll_ll
    rcases plL_deepest 0 es hv with h | ⟨t, ht, g, e⟩
    · refine ⟨([], .list es, false), by simp [plT], e0, ?_⟩
      simp only [PyData.depth, List.length_nil]
      omega
    · refine ⟨t, by simp only [plT, List.mem_cons]; exact .inr ht, g, ?_⟩
      simp only [PyData.depth]
      omega
  | .bool _, h => h.elim
  | .int _, h => h.elim
  | .tuple _, h => h.elim
  | .dict _, h => h.elim
theorem plL_deepest : ∀ (k : Nat) (ds : List PyData), valAll ds → PyData.depthAll ds = 0 ∨ ∃ t ∈ plL k ds, isLt t = true ∧ t.1.length = PyData.depthAll ds
  | _, [], _ => .inl rfl
  | k, d :: ds, hv => by
    simp only [PyData.depthAll]
    by_cases hle : PyData.depthAll ds ≤ d.depth
    · rcases plT_deepest d hv.1 with h | ⟨t, ht, g, e⟩
      · left
        omega
      · right
        refine ⟨under k t, by simp only [plL, List.mem_append, List.mem_map]; exact .inl ⟨t, ht, rfl⟩, g, ?_⟩
        simp only [under, List.length_cons]
        omega
    · rcases plL_deepest (k + 1) ds hv.2 with h | ⟨t, ht, g, e⟩
      · omega
      · right
        refine ⟨t, by simp only [plL, List.mem_append]; exact .inr ht, g, by omega⟩
end
/-! ### part_of -/
def spPart (K : PySem.W.Frag) (NP : Addr) : Sp := fun vs H Q E => ∃ (v u : V) (d pl : PyData) (Hv : Hp), vs = [v, u] ∧ Same Hv H ∧ Dp K Hv v d ∧ Dp K Hv u pl ∧ valD d ∧ sz d ≤ 9000 ∧ nd pl ≤ 1000000 ∧
  (∀ e, foundD d pl = some e → ∀ H' w, Same H H' → Dp K (newp H H') w e → Q w H') ∧ (foundD d pl = none → ∀ (H3 : Hp) (dx : Addr) (w : V), Same H H3 → H3 dx = some (.xd [("place", w)]) → Dp K H3 w pl → E (.ref NP) (some dx) H3)
theorem found_at {d e : PyData} : ∀ {pl : PyData}, foundD d pl = some e → ∃ ks, pl = .tuple ks ∧ atD d ks = some e
  | .tuple ks, h => ⟨ks, rfl, h⟩
  | .none, h => nomatch h
  | .bool _, h => nomatch h
  | .int _, h => nomatch h
  | .str _, h => nomatch h
  | .list _, h => nomatch h
  | .dict _, h => nomatch h
section
variable {P : Program} {w : World} {K : PySem.W.Frag} {mg : Str → Option Value} {base : Heap} {TE NP : Addr}
theorem scPart : FnScope ["value", "place"] ["value", "place"] (defScope s_part_of) := ⟨rfl, rfl, rfl, by decide +kernel, rfl, by decide +kernel, by decide +kernel⟩
theorem ok_part {f fF fC : Addr} {fd dF dC : FuncData} (F : Fun K "part_of" "part_of" s_part_of f fd) (GC : FnOk P w K mg base CX0 2 fC dC ["thing"] (spCopy K)) (gC : mg "copy_of" = some (.ref fC)) (kC : PySem.W.keepIn K (.ref fC) = true) (bC : Binds K dC ["thing"] [])
    (GF : FnOk P w K mg base (L2.CX P w) 5 fF dF ["value", "place"] (spFound K NP)) (gF : mg "found_at" = some (.ref fF)) (kF : PySem.W.keepIn K (.ref fF) = true) (bF : Binds K dF ["value", "place"] []) :
    FnOk P w K mg base (L2.CX P w) 6 f fd ["value", "place"] (spPart K NP) := by
  refine F.okX scPart (fun vs H Q E h => ?_) (fun cdv A outer s H vs Q E hr h => ?_)
  · obtain ⟨v, u, d, pl, Hv, rfl, _⟩ := h
    rfl
  · obtain ⟨v, u, d, pl, Hv, rfl, sv, hd, hu, vd, hz, hnd, q1, q2⟩ := h
    have r2 : Room 2 _ := hr.mono (by decide)
    refine ⟨_, pss_one (ps_ret (pe_call GC r2 (by rfl) gC kC bC .nil pass0 (pa_cons (pe_call (E := E) GF hr (by rfl) gF kF bF .nil (passes_call (takes_of rfl rfl rfl rfl) fun _ _ _ _ z => z) (pa_cons (pv 0) (pa_cons (pv 1) pa_nil))) pa_nil))), ?_⟩
    refine ⟨_, rfl, _, rfl, v, u, d, pl, Hv, rfl, sv, hd, hu, by omega, hnd, fun e he H1 w1 s1 hw1 => ?_, q2⟩
    obtain ⟨ks, rfl, ha⟩ := found_at he
    obtain ⟨ve, ze, _⟩ := at_val ks d e ha vd
    have := nd_sz e ve
    exact ⟨w1, e, Hv, rfl, sv.trans s1, hw1, by omega, fun H2 v' s2 hv' => q1 e he H2 v' (s1.trans s2) (dp_same (newp_less s1) _ _ hv')⟩
end
end TX
namespace TX
open PySem PySem.Spec PyProof.Rows L2
/-! ### a list under way whose parts are all new behind B -/
structure LcN (K : PySem.W.Frag) (B H1 : Hp) (D : Addr) (F : List PyData) (H : Hp) : Prop where
  ex : ∃ us, H D = some (.lst us) ∧ DpAll K (newB B D H) us F
  sm : Same H1 H
theorem lcn_start {K : PySem.W.Frag} {B H1 : Hp} {D : Addr} (nD : H1 D = none) : LcN K B H1 D [] (upd H1 D (.lst [])) := ⟨⟨[], upd_same, .nil⟩, same_upd nD⟩
theorem newB_same {B H H' : Hp} {D : Addr} (s : Same H H') : Same (newB B D H) (newB B D H') := newB_mono fun b o _ e => s b o e
theorem newp_newB {B H H' : Hp} {D : Addr} (s : Same B H) (h : H D ≠ none) : Same (newp H H') (newB B D H') := fun b o e => by
  cases q : H b with
  | some y =>
    rw [newp_old q] at e
    cases e
  | none =>
    rw [newp_at q] at e
    have hb : b ≠ D := fun z => h (by rw [← z]; exact q)
    rw [newB_at (s.free q) hb]
    exact e
theorem lcn_push {K : PySem.W.Frag} {B H1 H H4 : Hp} {D : Addr} {F : List PyData} {y : V} {d : PyData} (L : LcN K B H1 D F H) (nD : H1 D = none) (sB : Same B H1) (s : Same H H4) (hy : Dp K (newp H H4) y d) (hl : F.length ≤ 100000) :
    ∃ acc, H4 D = some (.lst acc) ∧ acc.length < sizeLine ∧ LcN K B H1 D (F ++ [d]) (upd H4 D (.lst (acc ++ [y]))) := by
  obtain ⟨us, e, h⟩ := L.ex
  have ul := DpAll.length h
  refine ⟨us, s _ _ e, Nat.lt_of_le_of_lt (show us.length ≤ 100000 by omega) (by decide), ⟨us ++ [y], upd_same, ?_⟩, same_fresh nD (L.sm.trans s)⟩
  have c : Same (newB B D H4) (newB B D (upd H4 D (.lst (us ++ [y])))) := newB_mono fun b o hb q => by
    rw [upd_ne hb]
    exact q
  have hy' : Dp K (newB B D H4) y d := dp_same (newp_newB (sB.trans L.sm) (by rw [e]; exact fun z => nomatch z)) _ _ hy
  exact dpAll_same c _ _ (DpAll.append (dpAll_same (newB_same s) _ _ h) (.cons hy' .nil))
theorem LcN.dp {K : PySem.W.Frag} {B H1 H : Hp} {D : Addr} {F : List PyData} (L : LcN K B H1 D F H) (nD : B D = none) : Dp K (newp B H) (.ref D) (.list F) := by
  obtain ⟨us, e, h⟩ := L.ex
  exact .lst (SqL.of (by rw [newp_at nD]; exact e)) (dpAll_same newB_newp _ _ h)
/-! ### the value again -/
def spAgain (K : PySem.W.Frag) (N : Nat) : Sp := fun vs H Q _ => ∃ (v : V) (d : PyData) (Hv : Hp), vs = [v] ∧ Same Hv H ∧ Dp K Hv v d ∧ valD d ∧ d.depth ≤ N ∧ sz d ≤ 10000 ∧ ∀ (H' : Hp) (v' : V), Same H H' → Dp K (newp H H') v' d → Q v' H'
def tAg (K : PySem.W.Frag) (N : Nat) : L2.TE := fun σ H Q => ∃ j : { M : Nat // M + 1 = N }, tCall (spAgain K j.1) [] E0 (tCons (tVar 2) tNil) σ H Q
theorem cat_one (z : Array Nat) (c : Nat) : (z ++ (⟨#[c]⟩ : Str).cps).toList = z.toList ++ [c] := by simp
theorem glue_signs : ∀ (l : List Nat) (acc : Array Nat), ((l.map fun c => (⟨#[c]⟩ : Str)).foldl (fun acc p => acc ++ ("" : Str).cps ++ p.cps) acc).toList = acc.toList ++ l
  | [], acc => by simp
  | c :: l, acc => by
    rw [List.map_cons, List.foldl_cons, glue_signs l]
    have e : ("" : Str).cps = #[] := by decide +kernel
    simp [e]
theorem join_signs (x : Str) : Txt.join "" (x.cps.toList.map fun c => (⟨#[c]⟩ : Str)) = x := by
  obtain ⟨cps⟩ := x
  obtain ⟨l⟩ := cps
  cases l with
  | nil => decide +kernel
  | cons c l =>
    show (⟨(l.map fun c => (⟨#[c]⟩ : Str)).foldl (fun acc p => acc ++ ("" : Str).cps ++ p.cps) (⟨#[c]⟩ : Str).cps⟩ : Str) = _
    congr 1
    apply Array.ext'
    rw [glue_signs]
    simp
theorem sum_ones : ∀ l : List Nat, (((l.map fun c => (⟨#[c]⟩ : Str)).map (·.length)).sum) = l.length
  | [] => rfl
  | c :: l => by
    have := sum_ones l
    have e : (⟨#[c]⟩ : Str).length = 1 := rfl
    simp only [List.map_cons, List.sum_cons, e, this, List.length_cons]
    omega
theorem dp_strs {K : PySem.W.Frag} {H : Hp} : ∀ (l : List Nat) {xs : List V}, DpAll K H xs (l.map fun c => PyData.str ⟨#[c]⟩) → xs = (l.map fun c => (⟨#[c]⟩ : Str)).map V.str
  | [], _, h => by
    cases h
    rfl
  | c :: l, _, h => by
    cases h with
    | cons h1 h2 =>
      cases h1
      rw [dp_strs l h2]
      rfl
section
variable {P : Program} {w : World} {K : PySem.W.Frag} {mg : Str → Option Value} {base : Heap} {CN : Addr}
theorem scAgain : FnScope ["_law_value_here", "_law_kind", "_law_one"] ["_law_value_here"] (defScope s__law_again) := ⟨rfl, rfl, rfl, by decide +kernel, rfl, by decide +kernel, by decide +kernel⟩
theorem ok_again1 {f fK fI : Addr} {fd dK dI : FuncData} (F : Fun K "_law_again" "_law_again" s__law_again f fd) (b : Binds K fd ["_law_value_here"] []) (g : mg "_law_again" = some (.ref f))
    (GK : FnOk P w K mg base CX0 1 fK dK ["value"] (spVal K fun d => .str (kindS d))) (gK : mg "kind_of" = some (.ref fK)) (kK : PySem.W.keepIn K (.ref fK) = true) (bK : Binds K dK ["value"] [])
    (GI : FnOk P w K mg base (L2.CX P w) 3 fI dI ["value"] (spItemsOf K CN)) (gI : mg "items_of" = some (.ref fI)) (kI : PySem.W.keepIn K (.ref fI) = true) (bI : Binds K dI ["value"] [])
    (N : Nat) (G : ∀ j : { M : Nat // M + 1 = N }, FnOk P w K mg base CX0 (j.1 + 4) f fd ["_law_value_here"] (spAgain K j.1)) :
    FnOk P w K mg base CX0 (N + 4) f fd ["_law_value_here"] (spAgain K N) := by
  refine F.ok scAgain (fun vs H Q E h => ?_) (fun cdv A outer s H vs Q E hr h => ?_)
  · obtain ⟨v, d, Hv, rfl, _⟩ := h
    rfl
  · obtain ⟨v, d, Hv, rfl, sv, hd, hv, hz, hn, q⟩ := h
    have hrR : ∀ j : { M : Nat // M + 1 = N }, Room (j.1 + 4) _ := fun j => hr.mono (by have := j.2; omega)
    have r1 : Room 1 _ := hr.mono (by omega)
    have r3 : Room 3 _ := hr.mono (by omega)
    refine ⟨_, pss_cons (ps_set (i := 1) scAgain.nd rfl (.inl rfl) (pe_call GK r1 (by rfl) gK kK bK .nil pass0 (pa_cons (pv 0) pa_nil))) <|
      pss_cons (ps_if (pt_cmpR op_eq (pv 1) pe_str (nomark _)) (pss_one (ps_ret pe_non)) pss_nil) <|
      pss_cons (ps_if (pt_cmpR op_eq (pv 1) pe_str (nomark _)) (pss_one (ps_ret (pe_lc (own := [("_law_one", 2)]) (g := gName 2) (tt := tYes) (te := tAg K N) rfl scAgain.nd (pi_list (pe_call (E := fun _ _ _ => False) GI r3 (by rfl) gI kI bI .nil passF (pa_cons (pv 0) pa_nil)))
        (blkOk_by (own := [("_law_one", 2)]) (N := ["_law_value_here", "_law_kind", "_law_one"]) (sc := defScope s__law_again) (by decide +kernel)) (fun _ _ _ _ _ => pg_name (i := 2) scAgain.nd rfl (Or.inl rfl)) (fun _ _ _ _ _ => pts_nil)
        (fun _ _ _ _ _ => pe_ex fun j => pe_call (G j) (hrR j) (by rfl) g F.kp b .nil pass0 (pa_cons (pv 2) pa_nil))))) pss_nil) <|
      pss_one (ps_ret (pe_join pe_str (pe_call (E := fun _ _ _ => False) GI r3 (by rfl) gI kI bI .nil passF (pa_cons (pv 0) pa_nil)))), ?_⟩
    refine ⟨_, rfl, v, d, Hv, rfl, sv, hd, hv, hn, fun H1 s1 => ⟨_, rfl, rfl, _, rfl, ?_⟩⟩
    cases hd with
    | non => exact iteT (q H1 .non s1 .non)
    | str x =>
      refine iteF ⟨_, rfl, rfl, _, rfl, iteF ⟨⟨_, rfl⟩, _, rfl, .str x, .str x, Hv, rfl, sv.trans s1, .str x, hv, hn, fun z => (nomatch z), fun _ H2 v' S s2 tr nw => ?_⟩⟩
      cases tr with
      | @lst a xs _ _ ha ht _ =>
        have hx : xs = (x.cps.toList.map fun c => (⟨#[c]⟩ : Str)).map V.str := dp_strs _ (TrAll.dp (K := K) ht)
        subst hx
        refine ⟨"", a, x.cps.toList.map fun c => (⟨#[c]⟩ : Str), rfl, rfl, .inl (SqL.of ha), ?_, ?_⟩
        · have e0 : ("" : Str).length = 0 := rfl
          have e1 : x.cps.toList.length = x.length := by simp [Str.length]
          simp only [sz] at hn
          rw [sum_ones, e0]
          omega
        · rw [join_signs]
          exact q H2 _ (s1.trans s2) (.str x)
    | @lst a0 ys es h1 h2 =>
      refine iteF ⟨_, rfl, rfl, _, rfl, iteT ⟨_, rfl, .ref a0, .list es, Hv, rfl, sv.trans s1, .lst h1 h2, hv, hn, fun z => (nomatch z), fun _ H2 v' S s2 tr nw => ?_⟩⟩
      cases tr with
      | @lst a xs _ S1 ha ht _ =>
        have hl : xs.length = es.length := TrAll.length ht
        have hvs : valAll es := hv
        have hz2 : PyData.depthAll es + 1 ≤ N := by
          simp only [PyData.depth] at hz
          omega
        have hn2 : szAll es + 1 ≤ 10000 := by simpa only [sz] using hn
        have el := szAll_len es
        have hx2 : DpAll K H2 xs es := TrAll.dp (K := K) ht
        refine ⟨a, rfl, ⟨_, SqL.of ha⟩, fun D nD => lc_list (K := K) (a := a) (xs := xs) (fun i H' => LcN K H H2 D (es.take i) H') (lcn_start nD) (fun i H' hi L => SqL.of (L.sm _ _ ha)) ?_ ?_⟩
        · rintro i x H' hx L
          obtain ⟨ei, hei, dei⟩ := DpAll.get hx2 hx
          refine ⟨rfl, ⟨N - 1, by omega⟩, x, rfl, x, ei, H2, rfl, L.sm, dei, val_get hvs hei, Nat.le_trans (depth_get hei) (by show _ ≤ N - 1; omega), Nat.le_trans (sz_get hei) (by omega), fun H4 v4 s4 hv4 => ?_⟩
          have := lcn_push L nD (s1.trans s2) s4 hv4 (by rw [List.length_take]; omega)
          rw [List.take_add_one, hei]
          exact this
        · rintro H' L
          rw [hl, List.take_length] at L
          exact q H' _ ((s1.trans s2).trans L.sm) (L.dp ((s1.trans s2).free nD))
    | bl _ => exact hv.elim
    | int _ => exact hv.elim
    | tup _ _ => exact hv.elim
theorem ok_again {f fK fI : Addr} {fd dK dI : FuncData} (F : Fun K "_law_again" "_law_again" s__law_again f fd) (b : Binds K fd ["_law_value_here"] []) (g : mg "_law_again" = some (.ref f))
    (GK : FnOk P w K mg base CX0 1 fK dK ["value"] (spVal K fun d => .str (kindS d))) (gK : mg "kind_of" = some (.ref fK)) (kK : PySem.W.keepIn K (.ref fK) = true) (bK : Binds K dK ["value"] [])
    (GI : FnOk P w K mg base (L2.CX P w) 3 fI dI ["value"] (spItemsOf K CN)) (gI : mg "items_of" = some (.ref fI)) (kI : PySem.W.keepIn K (.ref fI) = true) (bI : Binds K dI ["value"] []) : ∀ N : Nat, FnOk P w K mg base CX0 (N + 4) f fd ["_law_value_here"] (spAgain K N)
  | 0 => ok_again1 F b g GK gK kK bK GI gI kI bI 0 fun j => absurd j.2 (by omega)
  | N + 1 => ok_again1 F b g GK gK kK bK GI gI kI bI (N + 1) fun ⟨M, e⟩ => by
    have e2 : M = N := by omega
    subst e2
    exact ok_again F b g GK gK kK bK GI gI kI bI M
end
end TX
namespace TX
open PySem PySem.Spec PyProof.Rows L2
abbrev EF : XK := fun _ _ _ => False
def plD (t : Pt) : PyData := .tuple (natD t.1)
theorem fd_at {d : PyData} {ks : List PyData} {e : PyData} (h : atD d ks = some e) : ¬ foundD d (.tuple ks) = none := fun z => by
  rw [show foundD d (.tuple ks) = atD d ks from rfl, h] at z
  cases z
theorem pl_nd {d : PyData} (vd : valD d) (hz : sz d ≤ 10000) {t : Pt} (ht : t ∈ plT d) : nd (plD t) ≤ 10004 ∧ t.1.length ≤ 10001 := by
  have a := plT_short d t ht
  have b := dep_sz d vd
  have c := nd_nats t.1
  simp only [plD, nd]
  omega
theorem take_filt {α β : Type} {p : α → Bool} {g : α → β} {l : List α} {i : Nat} {t : α} (h : l[i]? = some t) : ((l.take (i + 1)).filter p).map g = ((l.take i).filter p).map g ++ (if p t = true then [g t] else []) := by
  rw [List.take_add_one, h, List.filter_append, List.map_append]
  congr 1
  by_cases e : p t = true
  · simp [e]
  · simp [e]
theorem take_map1 {α β : Type} {g : α → β} {l : List α} {i : Nat} {t : α} (h : l[i]? = some t) : (l.take (i + 1)).map g = (l.take i).map g ++ [g t] := by
  rw [List.take_add_one, h, List.map_append]
  rfl
theorem get_map {α β : Type} {g : α → β} {l : List α} {i : Nat} {y : β} (h : (l.map g)[i]? = some y) : ∃ t, l[i]? = some t ∧ y = g t := by
  rw [List.getElem?_map] at h
  cases e : l[i]? with
  | none =>
    rw [e] at h
    cases h
  | some t =>
    rw [e] at h
    exact ⟨t, rfl, (Option.some.inj h).symm⟩
theorem len_filt {α β : Type} {p : α → Bool} {g : α → β} {l : List α} {i : Nat} : (((l.take i).filter p).map g).length ≤ l.length := by
  rw [List.length_map]
  have := List.length_filter_le p (l.take i)
  have := List.length_take_le i l
  have : (l.take i).length ≤ l.length := by rw [List.length_take]; omega
  omega
/-- a list read as data: its items -/
theorem dp_items {K : PySem.W.Frag} {H : Hp} {x : V} {F : List PyData} (h : Dp K H x (.list F)) : ∃ a xs, x = .ref a ∧ SqL K H a xs ∧ DpAll K H xs F := by
  cases h with
  | @lst a xs _ h1 h2 => exact ⟨a, xs, rfl, h1, h2⟩
theorem dp_tup {K : PySem.W.Frag} {H : Hp} {x : V} {F : List PyData} (h : Dp K H x (.tuple F)) : ∃ a xs, x = .ref a ∧ SqT K H a xs ∧ DpAll K H xs F := by
  cases h with
  | @tup a xs _ h1 h2 => exact ⟨a, xs, rfl, h1, h2⟩
theorem dp_ints {K : PySem.W.Frag} {H : Hp} : ∀ (l : List Int) {xs : List V}, DpAll K H xs (l.map PyData.int) → xs = l.map V.int
  | [], _, h => by
    cases h
    rfl
  | c :: l, _, h => by
    cases h with
    | cons h1 h2 =>
      cases h1
      rw [dp_ints l h2]
      rfl
theorem lcd_push' {K : PySem.W.Frag} {H1 H H4 : Hp} {D : Addr} {F F' : List PyData} {y : V} {d : PyData} (L : LcD K H1 D F H) (nD : H1 D = none) (s : Same H H4) (hy : Dp K (del H4 D) y d) (hF : F' = F ++ [d]) (hl : F.length ≤ 100000) :
    ∃ acc, H4 D = some (.lst acc) ∧ acc.length < sizeLine ∧ LcD K H1 D F' (upd H4 D (.lst (acc ++ [y]))) := by
  rw [hF]
  exact lcd_push L nD s hy hl
theorem lcd_skip' {K : PySem.W.Frag} {H1 H H3 : Hp} {D : Addr} {F F' : List PyData} (L : LcD K H1 D F H) (s : Same H H3) (hF : F' = F) : LcD K H1 D F' H3 := by
  rw [hF]
  exact lcd_skip L s
theorem iteT' {c : Bool} {A B : Prop} (h : c = true) (a : A) : if c = true then A else B := by
  rw [h]
  exact a
theorem iteF' {c : Bool} {A B : Prop} (h : c = false) (b : B) : if c = true then A else B := by
  rw [h]
  exact b
def plainL (d : PyData) : List Pt := (plT d).filter fun t => !t.2.2
def tx2 (e : PyData) : Bool := kindS e == ("text" : Str) && sz e == 2
theorem lone_len (d : PyData) : (((plainL d).map (·.2.1)).filter tx2).length = ((plT d).filter loneB).length := by
  unfold plainL
  rw [List.filter_map, List.length_map, List.filter_filter]
  congr 1
  apply List.filter_congr
  intro t _
  show (tx2 t.2.1 && !t.2.2) = (!t.2.2 && (kindS t.2.1 == ("text" : Str) && sz t.2.1 == 2))
  rw [Bool.and_comm]
  rfl
theorem max_depth {d : PyData} (vd : valD d) {m : Int} (hm : m ∈ (0 :: (((plainL d).filter fun t => kindS t.2.1 == ("list" : Str)).map fun t => ((t.1.length : Nat) : Int) + 1))) (hle : ∀ y ∈ (0 :: (((plainL d).filter fun t => kindS t.2.1 == ("list" : Str)).map fun t => ((t.1.length : Nat) : Int) + 1)), y ≤ m) : m = ((d.depth : Nat) : Int) := by
  have key : ∀ t, t ∈ (plainL d).filter (fun t => kindS t.2.1 == ("list" : Str)) ↔ t ∈ plT d ∧ isLt t = true := by
    intro t
    unfold plainL isLt
    rw [List.mem_filter, List.mem_filter, Bool.and_eq_true]
    exact ⟨fun ⟨⟨a, b⟩, c⟩ => ⟨a, b, c⟩, fun ⟨a, b, c⟩ => ⟨⟨a, b⟩, c⟩⟩
  have up : m ≤ ((d.depth : Nat) : Int) := by
    rcases List.mem_cons.mp hm with rfl | h
    · omega
    · obtain ⟨t, ht, rfl⟩ := List.mem_map.mp h
      obtain ⟨a, b⟩ := (key t).mp ht
      have := plT_deep d vd t a b
      omega
  have lo : ((d.depth : Nat) : Int) ≤ m := by
    rcases plT_deepest d vd with h | ⟨t, ht, g, e⟩
    · have := hle 0 List.mem_cons_self
      omega
    · have := hle _ (List.mem_cons_of_mem _ (List.mem_map.mpr ⟨t, (key t).mpr ⟨ht, g⟩, rfl⟩))
      omega
  omega
def spCounted (K : PySem.W.Frag) : Sp := fun vs H Q _ => ∃ (v u : V) (d : PyData) (Hv : Hp), vs = [v, u] ∧ Same Hv H ∧ Dp K Hv v d ∧ Dp K Hv u (.list ((plT d).map plD)) ∧ valD d ∧ sz d ≤ 9000 ∧ ∀ H', Same H H' → Q (.bl true) H'
/-- what is asked of a value and its places -/
structure Ask (P : Program) (w : World) (K : PySem.W.Frag) (mg : Str → Option Value) (base : Heap) (NP : Addr) (fP fT fK fZ fD : Addr) (dP dT dK dZ dD : FuncData) : Prop where
  GP : FnOk P w K mg base (L2.CX P w) 6 fP dP ["value", "place"] (spPart K NP)
  gP : mg "part_of" = some (.ref fP)
  kP : PySem.W.keepIn K (.ref fP) = true
  bP : Binds K dP ["value", "place"] []
  GT : FnOk P w K mg base (L2.CX P w) 6 fT dT ["value", "place"] (spTorn K NP)
  gT : mg "is_torn" = some (.ref fT)
  kT : PySem.W.keepIn K (.ref fT) = true
  bT : Binds K dT ["value", "place"] []
  GK : FnOk P w K mg base CX0 1 fK dK ["value"] (spVal K fun d => .str (kindS d))
  gK : mg "kind_of" = some (.ref fK)
  kK : PySem.W.keepIn K (.ref fK) = true
  bK : Binds K dK ["value"] []
  GZ : FnOk P w K mg base CX0 2 fZ dZ ["value"] (spVal K fun d => .int (sz d : Nat))
  gZ : mg "size_of" = some (.ref fZ)
  kZ : PySem.W.keepIn K (.ref fZ) = true
  bZ : Binds K dZ ["value"] []
  GD : FnOk P w K mg base CX0 2 fD dD ["value"] (spVal K fun d => .int (d.depth : Nat))
  gD : mg "depth_of" = some (.ref fD)
  kD : PySem.W.keepIn K (.ref fD) = true
  bD : Binds K dD ["value"] []
def tTornC (K : PySem.W.Frag) (NP : Addr) : TE := tCall (spTorn K NP) [] EF (tCons (tVar 0) (tCons (tVar 6) tNil))
def tPartC (K : PySem.W.Frag) (NP : Addr) : TE := tCall (spPart K NP) [] EF (tCons (tVar 0) (tCons (tVar 6) tNil))
def spKd (K : PySem.W.Frag) : Sp := spVal K fun d => .str (kindS d)
def spZz (K : PySem.W.Frag) : Sp := spVal K fun d => .int (sz d : Nat)
def tLoneC (K : PySem.W.Frag) : TT := tAnd (tTest (tOp rEq (tCall (spKd K) [] E0 (tCons (tVar 7) tNil)) (tC (.str "text")))) (tTest (tOp rEq (tCall (spZz K) [] E0 (tCons (tVar 7) tNil)) (tC (.int 2))))
def tListC (K : PySem.W.Frag) (NP : Addr) : TT := tTest (tOp rEq (tCall (spKd K) [] E0 (tCons (tPartC K NP) tNil)) (tC (.str "list")))
def rLenQ (K : PySem.W.Frag) : List V → Hp → VK → Prop := fun xs H Q => ∃ p ys, xs = [.ref p] ∧ (SqL K H p ys ∨ SqT K H p ys) ∧ Q (.int ys.length) H
def tLenC (K : PySem.W.Frag) : TE := tOp (rI0 fun i j => .int (i + j)) (tCB (rLenQ K) (tCons (tVar 6) tNil)) (tC (.int 1))
section
variable {P : Program} {w : World} {K : PySem.W.Frag} {mg : Str → Option Value} {base : Heap} {NP : Addr}
theorem scCounted : FnScope ["_law_value_here", "_law_places", "_law_plain", "_law_parts", "_law_lone", "_law_lists", "_law_place", "_law_one"] ["_law_value_here", "_law_places"] (defScope s__law_is_counted) := ⟨rfl, rfl, rfl, by decide +kernel, rfl, by decide +kernel, by decide +kernel⟩
theorem ok_counted {f fP fT fK fZ fD : Addr} {fd dP dT dK dZ dD : FuncData} (F : Fun K "_law_is_counted" "_law_is_counted" s__law_is_counted f fd) (B : Nb mg) (mx : mg "max" = none) (C : Ask P w K mg base NP fP fT fK fZ fD dP dT dK dZ dD) :
    FnOk P w K mg base CX0 7 f fd ["_law_value_here", "_law_places"] (spCounted K) := by
  refine F.ok scCounted (fun vs H Q E h => ?_) (fun cdv A outer s H vs Q E hr h => ?_)
  · obtain ⟨v, u, d, Hv, rfl, _⟩ := h
    rfl
  · obtain ⟨v, u, d, Hv, rfl, sv, hd, hp, vd, hz, q⟩ := h
    have r1 : Room 1 _ := hr.mono (by decide)
    have r2 : Room 2 _ := hr.mono (by decide)
    have r6 : Room 6 _ := hr
    refine ⟨_, pss_cons (ps_setLc (i := 2) (own := [("_law_place", 6)]) (g := gName 6) (tt := tNot (tB (tTornC K NP))) (te := tVar 6) rfl scCounted.nd rfl rfl (sw_true rfl rfl rfl (by decide +kernel)) (pi_list (pv 1))
        (blkOk_by (own := [("_law_place", 6)]) (N := ["_law_value_here", "_law_places", "_law_plain", "_law_parts", "_law_lone", "_law_lists", "_law_place", "_law_one"]) (sc := defScope s__law_is_counted) (by decide +kernel)) (fun _ _ _ _ _ => pg_name (i := 6) scCounted.nd rfl (Or.inl rfl))
        (fun _ _ _ _ _ => pts_one (pt_not (pt_val (pe_call (E := EF) C.GT r6 (by rfl) C.gT C.kT C.bT .nil passF (pa_cons (pv 0) (pa_cons (pv 6) pa_nil)))))) (fun _ _ _ _ _ => pv 6)) <|
      pss_cons (ps_setLc (i := 3) (own := [("_law_place", 6)]) (g := gName 6) (tt := tYes) (te := tPartC K NP) rfl scCounted.nd rfl rfl (sw_true rfl rfl rfl (by decide +kernel)) (pi_list (pv 2))
        (blkOk_by (own := [("_law_place", 6)]) (N := ["_law_value_here", "_law_places", "_law_plain", "_law_parts", "_law_lone", "_law_lists", "_law_place", "_law_one"]) (sc := defScope s__law_is_counted) (by decide +kernel)) (fun _ _ _ _ _ => pg_name (i := 6) scCounted.nd rfl (Or.inl rfl))
        (fun _ _ _ _ _ => pts_nil) (fun _ _ _ _ _ => pe_call (E := EF) C.GP r6 (by rfl) C.gP C.kP C.bP .nil passF (pa_cons (pv 0) (pa_cons (pv 6) pa_nil)))) <|
      pss_cons (ps_setLc (i := 4) (own := [("_law_one", 7)]) (g := gName 7) (tt := tLoneC K) (te := tVar 7) rfl scCounted.nd rfl rfl (sw_true rfl rfl rfl (by decide +kernel)) (pi_list (pv 3))
        (blkOk_by (own := [("_law_one", 7)]) (N := ["_law_value_here", "_law_places", "_law_plain", "_law_parts", "_law_lone", "_law_lists", "_law_place", "_law_one"]) (sc := defScope s__law_is_counted) (by decide +kernel)) (fun _ _ _ _ _ => pg_name (i := 7) scCounted.nd rfl (Or.inl rfl))
        (fun _ _ _ _ _ => pts_one (PW.pt (pw_and (pt_cmpR op_eq (pe_call C.GK r1 (by rfl) C.gK C.kK C.bK .nil pass0 (pa_cons (pv 7) pa_nil)) pe_str (nomark _)) (pw_and1 (pt_cmpR op_eq (pe_call C.GZ r2 (by rfl) C.gZ C.kZ C.bZ .nil pass0 (pa_cons (pv 7) pa_nil)) pe_int (nomark _)))))) (fun _ _ _ _ _ => pv 7)) <|
      pss_cons (ps_if (pt_cmpR op_ne (pe_op op_add (pe_callB call_len_seq (by rfl) B.len PySem.boot_len (pa_cons (pv 1) pa_nil)) (pe_callB call_len_seq (by rfl) B.len PySem.boot_len (pa_cons (pv 4) pa_nil))) (pe_call C.GZ r2 (by rfl) C.gZ C.kZ C.bZ .nil pass0 (pa_cons (pv 0) pa_nil)) (nomark _)) (pss_one (ps_ret pe_bl)) pss_nil) <|
      pss_cons (ps_setLc (i := 5) (own := [("_law_place", 6)]) (g := gName 6) (tt := tListC K NP) (te := tLenC K) rfl scCounted.nd rfl rfl (sw_true rfl rfl rfl (by decide +kernel)) (pi_list (pv 2))
        (blkOk_by (own := [("_law_place", 6)]) (N := ["_law_value_here", "_law_places", "_law_plain", "_law_parts", "_law_lone", "_law_lists", "_law_place", "_law_one"]) (sc := defScope s__law_is_counted) (by decide +kernel)) (fun _ _ _ _ _ => pg_name (i := 6) scCounted.nd rfl (Or.inl rfl))
        (fun _ _ _ _ _ => pts_one (pt_cmpR op_eq (pe_call C.GK r1 (by rfl) C.gK C.kK C.bK .nil pass0 (pa_cons (pe_call (E := EF) C.GP r6 (by rfl) C.gP C.kP C.bP .nil passF (pa_cons (pv 0) (pa_cons (pv 6) pa_nil))) pa_nil)) pe_str (nomark _)))
        (fun _ _ _ _ _ => pe_op op_add (pe_callB call_len_seq (by rfl) B.len PySem.boot_len (pa_cons (pv 6) pa_nil)) pe_int)) <|
      pss_one (ps_ret (pe_cmpR op_eq (pe_call C.GD r2 (by rfl) C.gD C.kD C.bD .nil pass0 (pa_cons (pv 0) pa_nil)) (pe_callB (cr_max rfl) (by rfl) mx (by decide +kernel) (pa_cons (pe_op op_cat (pe_lst (pa_cons pe_int pa_nil)) (pv 5)) pa_nil)) (nomark _))), ?_⟩
    obtain ⟨a, xs, rfl, hS, hA⟩ := dp_items hp
    have lT := plT_len d vd
    have lx : xs.length = (plT d).length := (DpAll.length hA).trans (List.length_map ..)
    refine ⟨_, rfl, a, rfl, ⟨_, sv.seq hS⟩, fun D1 n1 => lc_list (K := K) (a := a) (xs := xs) (fun i H' => LcD K H D1 ((((plT d).take i).filter fun t => !t.2.2).map plD) H') (lcd_start n1) (fun i H' hi L => (sv.trans L.sm).seq hS) ?_ ?_⟩
    · rintro i x H' hx L
      obtain ⟨dd, hdd, hxd⟩ := DpAll.get hA hx
      obtain ⟨t, ht, rfl⟩ := get_map hdd
      have hm := List.mem_of_getElem? ht
      obtain ⟨o1, o2, _, _⟩ := plT_ok d vd t hm
      have tf := take_filt (p := fun t : Pt => !t.2.2) (g := plD) ht
      have lF := len_filt (p := fun t : Pt => !t.2.2) (g := plD) (l := plT d) (i := i)
      refine ⟨rfl, v, rfl, x, rfl, v, x, d, plD t, H', rfl, Same.refl _, dp_same (sv.trans L.sm) _ _ hd, dp_same (sv.trans L.sm) _ _ hxd, by omega, by have := (pl_nd vd (by omega) hm).1; omega, fun ks' e' hk he H2 s2 => ?_, fun z => (fd_at o1 z).elim⟩
      obtain rfl := PyData.tuple.inj hk
      rw [o2]
      refine ⟨_, rfl, ?_⟩
      cases hb : t.2.2 with
      | true =>
        refine iteF (lcd_skip' L s2 ?_)
        rw [tf, hb]
        simp
      | false =>
        refine iteT ⟨x, rfl, lcd_push' L n1 s2 (dp_same (del_out n1 (L.sm.trans s2)) _ _ (dp_same sv _ _ hxd)) ?_ (by omega)⟩
        rw [tf, hb]
        simp
    rintro H1 L1
    rw [lx, List.take_length] at L1
    change LcD K H D1 ((plainL d).map plD) H1 at L1
    have lP : (plainL d).length ≤ (plT d).length := List.length_filter_le _ _
    have pm : ∀ t ∈ plainL d, t ∈ plT d := fun t h => (List.mem_filter.mp h).1
    obtain ⟨a1, xs1, e1, hS1, hA1⟩ := dp_items L1.dp
    have s1 := L1.sm
    clear L1
    cases e1
    have lx1 : xs1.length = (plainL d).length := (DpAll.length hA1).trans (List.length_map ..)
    refine ⟨_, rfl, D1, rfl, ⟨_, hS1⟩, fun D2 n2 => lc_list (K := K) (a := D1) (xs := xs1) (fun i H' => LcD K H1 D2 (((plainL d).take i).map (·.2.1)) H') (lcd_start n2) (fun i H' hi L => L.sm.seq hS1) ?_ ?_⟩
    · rintro i x H' hx L
      obtain ⟨dd, hdd, hxd⟩ := DpAll.get hA1 hx
      obtain ⟨t, ht, rfl⟩ := get_map hdd
      have hm := pm t (List.mem_of_getElem? ht)
      obtain ⟨o1, o2, _, _⟩ := plT_ok d vd t hm
      refine ⟨rfl, v, rfl, x, rfl, v, x, d, plD t, H', rfl, Same.refl _, dp_same ((sv.trans s1).trans L.sm) _ _ hd, dp_same L.sm _ _ hxd, vd, hz, by have := (pl_nd vd (by omega) hm).1; omega, fun e' he H2 y s2 hy => ?_, fun z => (fd_at o1 z).elim⟩
      obtain rfl : t.2.1 = e' := Option.some.inj (o1.symm.trans he)
      refine lcd_push' L n2 s2 (dp_same (newp_del L.on) _ _ hy) (take_map1 ht) ?_
      have := List.length_take_le i (plainL d)
      rw [List.length_map, List.length_take]
      omega
    rintro H2 L2
    rw [lx1, List.take_length] at L2
    obtain ⟨a2, xs2, e2, hS2, hA2⟩ := dp_items L2.dp
    have s2 := L2.sm
    clear L2
    cases e2
    have lx2 : xs2.length = (plainL d).length := (DpAll.length hA2).trans (List.length_map ..)
    refine ⟨_, rfl, D2, rfl, ⟨_, hS2⟩, fun D3 n3 => lc_list (K := K) (a := D2) (xs := xs2) (fun i H' => LcD K H2 D3 (((((plainL d).map (·.2.1)).take i).filter tx2).map id) H') (lcd_start n3) (fun i H' hi L => L.sm.seq hS2) ?_ ?_⟩
    · rintro i x H' hx L
      obtain ⟨e, he, hxd⟩ := DpAll.get hA2 hx
      obtain ⟨t, ht, rfl⟩ := get_map he
      have hm := pm t (List.mem_of_getElem? ht)
      obtain ⟨o1, o2, _, _⟩ := plT_ok d vd t hm
      obtain ⟨ve, ze, _⟩ := at_val _ _ _ o1 vd
      have tf := take_filt (p := tx2) (g := id) he
      have lF := Nat.le_trans (len_filt (p := tx2) (g := (id : PyData → PyData)) (l := (plainL d).map (·.2.1)) (i := i)) (show ((plainL d).map (·.2.1)).length ≤ 9000 by rw [List.length_map]; omega)
      refine ⟨rfl, _, rfl, x, t.2.1, H2, rfl, L.sm, hxd, ve, by omega, fun H3 s3 => ⟨rfl, _, rfl, ?_⟩⟩
      by_cases c1 : kindS t.2.1 = "text"
      · refine iteT' (decide_eq_true (congrArg V.str c1)) ⟨_, rfl, x, t.2.1, H2, rfl, L.sm.trans s3, hxd, ve, by omega, fun H4 s4 => ⟨rfl, _, rfl, ?_⟩⟩
        by_cases c2 : sz t.2.1 = 2
        · have c3 : tx2 t.2.1 = true := by
            unfold tx2
            rw [c1, c2]
            decide +kernel
          refine iteT' (decide_eq_true (by show V.int ((sz t.2.1 : Nat) : Int) = V.int 2; rw [c2]; rfl)) ⟨x, rfl, lcd_push' L n3 (s3.trans s4) (dp_same (del_out n3 ((L.sm.trans s3).trans s4)) _ _ hxd) ?_ (by omega)⟩
          rw [tf, c3]
          rfl
        · have c3 : tx2 t.2.1 = false := by
            unfold tx2
            rw [show (sz t.2.1 == 2) = false from beq_false_of_ne c2, Bool.and_false]
          have c4 : decide (V.int ((sz t.2.1 : Nat) : Int) = V.int 2) = false := decide_eq_false fun z => c2 (by have := V.int.inj z; omega)
          refine iteF' c4 (lcd_skip' L (s3.trans s4) ?_)
          rw [tf, c3]
          simp
      · have c3 : tx2 t.2.1 = false := by
          unfold tx2
          rw [show (kindS t.2.1 == ("text" : Str)) = false from beq_false_of_ne c1, Bool.false_and]
        have c4 : decide (V.str (kindS t.2.1) = V.str "text") = false := decide_eq_false fun z => c1 (V.str.inj z)
        refine iteF' c4 ?_
        refine iteF (lcd_skip' L s3 ?_)
        rw [tf, c3]
        simp
    rintro H3 L3
    rw [List.take_of_length_le (by rw [lx2, List.length_map]; exact Nat.le_refl _), List.map_id] at L3
    obtain ⟨a3, xs3, e3, hS3, hA3⟩ := dp_items L3.dp
    have s3 := L3.sm
    clear L3
    cases e3
    have lx3 : xs3.length = ((plT d).filter loneB).length := (DpAll.length hA3).trans (lone_len d)
    have s03 : Same H H3 := (s1.trans s2).trans s3
    have cnt := plT_count d vd
    refine ⟨_, rfl, a, xs, rfl, .inl ((sv.trans s03).seq hS), _, rfl, D3, xs3, rfl, .inl hS3, _, _, rfl, rfl, _, rfl, v, d, H3, rfl, Same.refl _, dp_same (sv.trans s03) _ _ hd, vd, by omega, fun H4 s4 => ⟨rfl, _, rfl, ?_⟩⟩
    refine iteF' ?_ ?_
    · have : (V.int (((xs.length : Nat) : Int) + ((xs3.length : Nat) : Int)) = V.int ((sz d : Nat) : Int)) := by
        congr 1
        omega
      show (!decide _) = false
      rw [decide_eq_true this]
      rfl
    have s14 : Same H1 H4 := (s2.trans s3).trans s4
    have s04 : Same H H4 := s03.trans s4
    refine ⟨_, rfl, D1, rfl, ⟨_, s14.seq hS1⟩, fun D5 n5 => lc_list (K := K) (a := D1) (xs := xs1) (fun i H' => LcD K H4 D5 ((((plainL d).take i).filter fun t => kindS t.2.1 == ("list" : Str)).map fun t => PyData.int (((t.1.length : Nat) : Int) + 1)) H') (lcd_start n5) (fun i H' hi L => (s14.trans L.sm).seq hS1) ?_ ?_⟩
    · rintro i x H' hx L
      obtain ⟨dd, hdd, hxd⟩ := DpAll.get hA1 hx
      obtain ⟨t, ht, rfl⟩ := get_map hdd
      have hm := pm t (List.mem_of_getElem? ht)
      obtain ⟨o1, o2, _, _⟩ := plT_ok d vd t hm
      obtain ⟨ve, ze, _⟩ := at_val _ _ _ o1 vd
      have tf := take_filt (p := fun t : Pt => kindS t.2.1 == ("list" : Str)) (g := fun t : Pt => PyData.int (((t.1.length : Nat) : Int) + 1)) ht
      have lF := len_filt (p := fun t : Pt => kindS t.2.1 == ("list" : Str)) (g := fun t : Pt => PyData.int (((t.1.length : Nat) : Int) + 1)) (l := plainL d) (i := i)
      refine ⟨rfl, v, rfl, x, rfl, v, x, d, plD t, H', rfl, Same.refl _, dp_same ((sv.trans s04).trans L.sm) _ _ hd, dp_same (s14.trans L.sm) _ _ hxd, vd, hz, by have := (pl_nd vd (by omega) hm).1; omega, fun e' he G y sG hy => ?_, fun z => (fd_at o1 z).elim⟩
      obtain rfl : t.2.1 = e' := Option.some.inj (o1.symm.trans he)
      refine ⟨y, t.2.1, G, rfl, Same.refl _, dp_same newp_same _ _ hy, ve, by omega, fun G2 s2' => ⟨rfl, _, rfl, ?_⟩⟩
      by_cases c1 : kindS t.2.1 = "list"
      · obtain ⟨qa, qs, rfl, hq, hqa⟩ := dp_tup hxd
        have ql := DpAll.length hqa
        have nl : (natD t.1).length = t.1.length := List.length_map ..
        refine iteT' (decide_eq_true (congrArg V.str c1)) ⟨_, rfl, qa, qs, rfl, .inr (same_sqt ((s14.trans L.sm).trans (sG.trans s2')) hq), _, _, rfl, rfl, lcd_push' (d := .int (((t.1.length : Nat) : Int) + 1)) L n5 (sG.trans s2') ?_ ?_ (by omega)⟩
        · rw [ql, nl]
          exact .int _
        · rw [tf, c1, ll_ll]
          rfl
      · have c3 : (kindS t.2.1 == ("list" : Str)) = false := beq_false_of_ne c1
        refine iteF' (decide_eq_false fun z => c1 (V.str.inj z)) (lcd_skip' L (sG.trans s2') ?_)
        rw [tf, c3]
        simp
    rintro H5 L5
    rw [lx1, List.take_length] at L5
    obtain ⟨us5, e5, hA5⟩ := L5.ex
    have s5 := L5.sm
    have s05 := s04.trans s5
    have hi : us5 = ((((plainL d).filter fun t => kindS t.2.1 == ("list" : Str)).map fun t => ((t.1.length : Nat) : Int) + 1)).map V.int := dp_ints _ (by rw [List.map_map]; exact hA5)
    have l5 : us5.length ≤ 9000 := by
      have := List.length_filter_le (fun t : Pt => kindS t.2.1 == ("list" : Str)) (plainL d)
      rw [hi, List.length_map, List.length_map]
      omega
    refine ⟨_, rfl, v, d, H5, rfl, Same.refl _, dp_same (sv.trans s05) _ _ hd, vd, by omega, fun H6 s6 => ⟨by decide, fun l0 n0 => ⟨_, rfl, l0, D5, [.int 0], us5, rfl, rfl, upd_same, same_upd n0 _ _ (s6 _ _ e5), (by show 1 + us5.length ≤ sizeLine; exact Nat.le_trans (show 1 + us5.length ≤ 10000 by omega) (by decide)), fun r nr => ?_⟩⟩⟩
    have hr2 : (upd (upd H6 l0 (.lst [.int 0])) r (.lst ([V.int 0] ++ us5))) r = some (.lst ((0 :: (((plainL d).filter fun t => kindS t.2.1 == ("list" : Str)).map fun t => ((t.1.length : Nat) : Int) + 1)).map V.int)) := by
      rw [upd_same, hi]
      rfl
    refine ⟨r, _, rfl, SqL.of hr2, by simp, fun m hm hle => ⟨rfl, ?_⟩⟩
    have em := max_depth vd hm hle
    have e2 : decide (V.int ((d.depth : Nat) : Int) = V.int m) = true := decide_eq_true (by rw [em])
    show Q (.bl (decide (V.int ((d.depth : Nat) : Int) = V.int m))) _
    rw [e2]
    exact q _ (((s05.trans s6).trans (same_upd n0)).trans (same_upd nr))
end
end TX
namespace TX
open PySem PySem.Spec PyProof.Rows L2
theorem lt_strOk {x : Str} (h : Lt x) : PyData.strOk x = true := by
  unfold PyData.strOk
  rw [Array.all_eq_true_iff_forall_mem]
  exact fun c hc => decide_eq_true (Nat.lt_of_le_of_lt (h c (Array.mem_toList_iff.mpr hc)).2 (by decide))
mutual
theorem val_can : ∀ d : PyData, valD d → d.canLay0 = true
  | .none, _ => rfl
  | .str x, h => by
    rw [PyData.canLay0]
    exact lt_strOk h
  | .list es, h => by
    rw [PyData.canLay0]
    exact val_canAll es h
  | .bool _, h => h.elim
  | .int _, h => h.elim
  | .tuple _, h => h.elim
  | .dict _, h => h.elim
theorem val_canAll : ∀ ds : List PyData, valAll ds → PyData.canLayAll0 ds = true
  | [], _ => rfl
  | d :: ds, h => by
    rw [PyData.canLayAll0, val_can d h.1, val_canAll ds h.2]
    rfl
end
theorem val_shaped {d : PyData} (h : valD d) (hd : d.depth ≤ 60) : SeqAt.shaped d = true := by
  unfold SeqAt.shaped
  rw [val_can d h, decide_eq_true (show d.depth ≤ 64 by omega)]
  rfl
/-- two parts, one above the other -/
theorem above_ok {d : PyData} {t : Pt} (vd : valD d) (o : PtOk d t) (hne : t.1 ≠ []) : ∃ p j e', t.1 = p ++ [j] ∧ atD d (natD p) = some e' ∧ valD e' ∧ sz e' ≤ sz d + 1 ∧ (itemsD e')[j]? = some t.2.1 ∧ t.2.2 = strB e' ∧ (strB e' = true → sz t.2.1 = 2) ∧ e' ≠ .none := by
  obtain ⟨o1, o2, _, _⟩ := o
  obtain ⟨p, j, hpj⟩ : ∃ p j, t.1 = p ++ [j] := ⟨t.1.dropLast, t.1.getLast hne, (List.dropLast_concat_getLast hne).symm⟩
  have hn : natD t.1 = natD p ++ [.int ((j : Nat) : Int)] := by rw [hpj, natD_append]; rfl
  obtain ⟨e', he'⟩ := at_init (natD t.1) d _ o1
  have hd : (natD t.1).dropLast = natD p := by rw [hn, List.dropLast_concat]
  rw [hd] at he'
  rw [hn, at_append _ _ _ _ he'] at o1
  have hne' : natD t.1 ≠ [] := by rw [hn]; simp
  have htn : tornD d (natD t.1) = strB e' := by
    unfold tornD
    cases hq : natD t.1 with
    | nil => exact (hne' hq).elim
    | cons a l =>
      simp only []
      rw [← hq, hd, he']
  obtain ⟨ve, ze, _⟩ := at_val _ _ _ he' vd
  have hi : (innerD e')[j]? = some t.2.1 := by
    cases hx : (innerD e')[j]? with
    | none =>
      have : atD e' [.int ((j : Nat) : Int)] = none := by
        have e1 : (((j : Nat) : Int)).toNat = j := by omega
        have e2 : (0 : Int) ≤ ((j : Nat) : Int) := by omega
        simp only [atD, if_pos e2, e1, hx]
      rw [this] at o1
      cases o1
    | some e => rw [atD_int hx] at o1; exact o1
  refine ⟨p, j, e', hpj, he', ve, ze, ?_, by rw [← o2, htn], fun hs => ?_, fun z => ?_⟩
  · cases e' with
    | list es => exact hi
    | str x =>
      simp only [innerD] at hi
      split at hi
      · exact hi
      · simp at hi
    | _ => simp [innerD] at hi
  · cases e' with
    | str x =>
      simp only [innerD] at hi
      split at hi
      · unfold signD at hi
        rw [List.getElem?_map] at hi
        cases h2 : x.cps.toList[j]? with
        | none =>
          rw [h2] at hi
          cases hi
        | some c =>
          rw [h2] at hi
          have := Option.some.inj hi
          rw [← this]
          rfl
      · simp at hi
    | _ => simp [strB] at hs
  · rw [z] at hi
    simp [innerD] at hi
theorem kind_text {d : PyData} (hv : valD d) : decide (V.str (kindS d) = V.str "text") = strB d := by
  cases d with
  | list es => exact decide_eq_false fun z => absurd (show ("list" : Str) = "text" from V.str.inj z) (by decide +kernel)
  | none => exact decide_eq_false fun z => absurd (show ("nothing" : Str) = "text" from V.str.inj z) (by decide +kernel)
  | str x => exact decide_eq_true rfl
  | bool _ => exact hv.elim
  | int _ => exact hv.elim
  | tuple _ => exact hv.elim
  | dict _ => exact hv.elim
def spBuilt (K : PySem.W.Frag) : Sp := fun vs H Q _ => ∃ (v u : V) (d : PyData) (t : Pt) (Hv : Hp), vs = [v, u] ∧ Same Hv H ∧ Dp K Hv v d ∧ Dp K Hv u (plD t) ∧ t ∈ plT d ∧ valD d ∧ sz d ≤ 4000 ∧ d.depth ≤ 30 ∧ ∀ H', Same H H' → Q (.bl true) H'
theorem DpAll.got {K : PySem.W.Frag} {H : Hp} : ∀ {ds : List PyData} {vs : List V} {i : Nat} {d : PyData}, DpAll K H vs ds → ds[i]? = some d → ∃ v, vs[i]? = some v ∧ Dp K H v d
  | _ :: _, _, 0, _, .cons h1 _, h => by
    simp only [List.getElem?_cons_zero, Option.some.injEq] at h
    subst h
    exact ⟨_, rfl, h1⟩
  | _ :: _, _, i + 1, _, .cons _ h2, h => by
    simp only [List.getElem?_cons_succ] at h ⊢
    exact DpAll.got h2 h
  | [], _, _, _, _, h => by simp at h
theorem pls_dp {K : PySem.W.Frag} {H : Hp} : ∀ {ws : List V} {ts : List Pt}, Pls H ws (ts.map (·.1)) → DpAll K H ws (ts.map plD)
  | _, [], h => by
    cases h
    exact .nil
  | _, t :: ts, h => by
    cases h with
    | cons h1 h2 => exact .cons (.tup (SqT.of h1) (dp_nats _)) (pls_dp h2)
theorem shaped_nats (p : List Nat) : SeqAt.shaped (.tuple (natD p)) = true := by
  have h : ∀ p : List Nat, PyData.canLayAll0 (natD p) = true ∧ PyData.depthAll (natD p) = 0 := by
    intro p
    induction p with
    | nil => exact ⟨rfl, rfl⟩
    | cons i p ih =>
      simp only [natD, List.map_cons, PyData.canLayAll0, PyData.canLay0, PyData.depthAll, PyData.depth] at ih ⊢
      exact ⟨by rw [ih.1]; rfl, by rw [ih.2]; rfl⟩
  obtain ⟨h1, h2⟩ := h p
  unfold SeqAt.shaped
  rw [Bool.and_eq_true]
  refine ⟨by simp only [PyData.canLay0, h1], decide_eq_true ?_⟩
  simp only [PyData.depth, h2]
  omega
section
variable {P : Program} {w : World} {K : PySem.W.Frag} {mg : Str → Option Value} {base : Heap} {NP CN : Addr}
theorem scBuilt : FnScope ["_law_value_here", "_law_place", "_law_here", "_law_is_letter", "_law_above", "_law_inner"] ["_law_value_here", "_law_place"] (defScope s__law_is_built) := ⟨rfl, rfl, rfl, by decide +kernel, rfl, by decide +kernel, by decide +kernel⟩
theorem ok_built {f fP fT fK fZ fD fV fI fL : Addr} {fd dP dT dK dZ dD dV dI dL : FuncData} (F : Fun K "_law_is_built" "_law_is_built" s__law_is_built f fd) (C : Ask P w K mg base NP fP fT fK fZ fD dP dT dK dZ dD)
    (GV : FnOk P w K mg base CX0 3 fV dV ["thing"] (spOkV K (.bl true))) (gV : mg "is_value" = some (.ref fV)) (kV : PySem.W.keepIn K (.ref fV) = true) (bV : Binds K dV ["thing"] [])
    (GI : FnOk P w K mg base (L2.CX P w) 3 fI dI ["value"] (spItemsOf K CN)) (gI : mg "items_of" = some (.ref fI)) (kI : PySem.W.keepIn K (.ref fI) = true) (bI : Binds K dI ["value"] [])
    (GL : FnOk P w K mg base CX0 2 fL dL ["value"] (spPlacesOf K)) (gL : mg "places_of" = some (.ref fL)) (kL : PySem.W.keepIn K (.ref fL) = true) (bL : Binds K dL ["value"] []) :
    FnOk P w K mg base CX0 7 f fd ["_law_value_here", "_law_place"] (spBuilt K) := by
  refine F.ok scBuilt (fun vs H Q E h => ?_) (fun cdv A outer s H vs Q E hr h => ?_)
  · obtain ⟨v, u, d, t, Hv, rfl, _⟩ := h
    rfl
  · obtain ⟨v, u, d, t, Hv, rfl, sv, hd, hp, ht, vd, hz, hdp, q⟩ := h
    have r1 : Room 1 _ := hr.mono (by decide)
    have r2 : Room 2 _ := hr.mono (by decide)
    have r3 : Room 3 _ := hr.mono (by decide)
    have r6 : Room 6 _ := hr
    have hu := hr.units
    refine ⟨_, pss_cons (ps_set (i := 2) scBuilt.nd rfl (.inl rfl) (pe_call (E := EF) C.GP r6 (by rfl) C.gP C.kP C.bP .nil passF (pa_cons (pv 0) (pa_cons (pv 1) pa_nil)))) <|
      pss_cons (ps_if (pt_not (pt_val (pe_call GV r3 (by rfl) gV kV bV .nil pass0 (pa_cons (pv 2) pa_nil)))) (pss_one (ps_ret pe_bl)) pss_nil) <|
      pss_cons (ps_set (i := 3) scBuilt.nd rfl (.inl rfl) pe_bl) <|
      C8.pss_cut (ps_if (pt_cmpR (op_neD hu) (pv 1) (pe_tup pa_nil) (nomark _))
        (pss_cons (ps_set (i := 4) scBuilt.nd rfl (.inl rfl) (pe_call (E := EF) C.GP r6 (by rfl) C.gP C.kP C.bP .nil passF (pa_cons (pv 0) (pa_cons (pe_slice sl_tup (pv 1) po_none (po_some (pe_un un_neg pe_int))) pa_nil)))) <|
         pss_cons (ps_if (pt_cmpR (op_neD hu) (pe_ix ix_list (pe_call (E := EF) GI r3 (by rfl) gI kI bI .nil passF (pa_cons (pv 4) pa_nil)) (pe_ix ix_tup (pv 1) (pe_un un_neg pe_int) (fun _ _ => rfl)) (fun _ _ => rfl)) (pv 2) (nomark _)) (pss_one (ps_ret pe_bl)) pss_nil) <|
         pss_one (ps_set (i := 3) scBuilt.nd rfl (.inl rfl) (pe_cmpR op_eq (pe_call C.GK r1 (by rfl) C.gK C.kK C.bK .nil pass0 (pa_cons (pv 4) pa_nil)) pe_str (nomark _)))) pss_nil) <|
      C8.pss_cut (ps_if (PW.pt (pw_or (pt_cmpR op_ne (pe_call (E := EF) C.GT r6 (by rfl) C.gT C.kT C.bT .nil passF (pa_cons (pv 0) (pa_cons (pv 1) pa_nil))) (pv 3) (nomark _)) (pw_or1 (PW.pt (pw_and (pt_val (pv 3)) (pw_and1 (pt_cmpR op_ne (pe_call C.GZ r2 (by rfl) C.gZ C.kZ C.bZ .nil pass0 (pa_cons (pv 2) pa_nil)) pe_int (nomark _)))))))) (pss_one (ps_ret pe_bl)) pss_nil) <|
      pss_cons (ps_for PassesOwn.never rfl (pi_list (pe_call GL r2 (by rfl) gL kL bL .nil pass0 (pa_cons (pv 2) pa_nil))) (pg_name (i := 5) scBuilt.nd rfl (.inl rfl))
        (pss_one (ps_if (pt_cmpR (op_neD hu) (pe_call (E := EF) C.GP r6 (by rfl) C.gP C.kP C.bP .nil passF (pa_cons (pv 0) (pa_cons (pe_op op_catA (pv 1) (pv 5)) pa_nil))) (pe_call (E := EF) C.GP r6 (by rfl) C.gP C.kP C.bP .nil passF (pa_cons (pv 2) (pa_cons (pv 5) pa_nil))) (nomark _)) (pss_one (ps_ret pe_bl)) pss_nil))) <|
      pss_one (ps_ret pe_bl), ?_⟩
    obtain ⟨o1, o2, o3, o4⟩ := plT_ok d vd t ht
    obtain ⟨ve, ze, de⟩ := at_val _ _ _ o1 vd
    have tn := (pl_nd vd (by omega) ht).1
    have tl := (pl_nd vd (by omega) ht).2
    refine ⟨v, rfl, u, rfl, v, u, d, plD t, H, rfl, Same.refl _, dp_same sv _ _ hd, dp_same sv _ _ hp, vd, by omega, by omega, fun e' he H1 y s1 hy => ?_, fun z => (fd_at o1 z).elim⟩
    obtain rfl : t.2.1 = e' := Option.some.inj (o1.symm.trans he)
    have hy1 := dp_same newp_same _ _ hy
    refine ⟨_, rfl, y, t.2.1, H1, rfl, Same.refl _, hy1, ve, by omega, fun H2 s2 => ⟨_, rfl, iteF ?_⟩⟩
    have shE := val_shaped ve (by omega)
    have s02 : Same H H2 := s1.trans s2
    refine ⟨fun σ' G => ∃ z4, σ' = [some v, some u, some y, some (.bl t.2.2), z4, none] ∧ Same H2 G, ?_, ?_⟩
    · refine ⟨_, rfl, by decide, fun t0 n0 => ⟨plD t, .tuple [], dp_same (sv.trans (s02.trans (same_upd n0))) _ _ hp, .tup (SqT.of upd_same) .nil, shaped_nats _, by decide +kernel, _, rfl, ?_⟩⟩
      have sG : Same H2 (upd H2 t0 (.tup [])) := same_upd n0
      generalize upd H2 t0 (.tup []) = G0 at sG
      by_cases hne : t.1 = []
      · have e0 : (!PyData.eqv (plD t) (.tuple [])) = false := by
          unfold plD
          rw [hne]
          decide +kernel
        have e1 : t.2.2 = false := by
          rw [← o2, hne]
          rfl
        refine iteF' e0 ⟨none, ?_, sG⟩
        rw [e1]
        rfl
      · obtain ⟨p, j, e', hpj, ha', va', za', hj, hb, hsz, hnn⟩ := above_ok vd ⟨o1, o2, o3, o4⟩ hne
        have e0 : (!PyData.eqv (plD t) (.tuple [])) = true := by
          unfold plD
          cases q : natD t.1 with
          | nil =>
            rw [hpj, natD_append] at q
            simp [natD] at q
          | cons a l => simp [PyData.eqv, PyData.eqvAll]
        refine iteT' e0 ?_
        obtain ⟨ua, us, rfl, hua, hus⟩ := dp_tup hp
        have ul := DpAll.length hus
        have nl : (natD t.1).length = p.length + 1 := by rw [hpj]; simp [natD]
        refine ⟨v, rfl, _, rfl, _, rfl, -1, rfl, ua, us, rfl, same_sqt (sv.trans (s02.trans sG)) hua, ?_, fun t3 n3 => ?_⟩
        · rintro ⟨_, z⟩
          have : HT.sIx us.length us.length (some (-1)) = us.length - 1 := by
            show (if (-1 : Int) < 0 then ((-1 : Int) + ((us.length : Nat) : Int)).toNat else min (-1 : Int).toNat us.length) = us.length - 1
            rw [if_pos (by decide)]
            omega
          omega
        · rw [cut_init]
          have s3 : Same H2 (upd G0 t3 (.tup us.dropLast)) := sG.trans (same_upd n3)
          have h3 : (upd G0 t3 (.tup us.dropLast)) t3 = some (.tup us.dropLast) := upd_same
          generalize upd G0 t3 (.tup us.dropLast) = G3 at s3 h3
          have hdl : (natD t.1).dropLast = natD p := by rw [hpj, natD_append]; exact List.dropLast_concat
          have np : nd (.tuple (natD p)) ≤ 1000000 := by
            have a1 := nd_nats p
            have a2 : t.1.length = p.length + 1 := by rw [hpj]; simp
            simp only [nd]
            omega
          refine ⟨v, .ref t3, d, .tuple (natD p), G3, rfl, Same.refl _, dp_same (sv.trans (s02.trans s3)) _ _ hd, .tup (SqT.of h3) (by rw [← hdl]; exact DpAll.init (dpAll_same (sv.trans (s02.trans s3)) _ _ hus)), vd, by omega, np, fun e4 he4 G4 w4 s4 hw4 => ?_, fun z => (fd_at ha' z).elim⟩
          obtain rfl : e' = e4 := Option.some.inj (ha'.symm.trans he4)
          have hw4' := dp_same newp_same _ _ hw4
          refine ⟨_, rfl, w4, e', G4, rfl, Same.refl _, hw4', va', by omega, fun z => (hnn z).elim, fun _ G5 v5 S5 s5 tr5 nw5 => ?_⟩
          cases tr5 with
          | @lst a5 xs5 _ _ ha5 ht5 _ =>
            have hd5 : DpAll K G5 xs5 (itemsD e') := TrAll.dp (K := K) ht5
            obtain ⟨x5, hx5, hdx5⟩ := TX.DpAll.got hd5 hj
            have lu : us[p.length]? = some (.int ((j : Nat) : Int)) := by
              have hn : natD t.1 = natD p ++ [.int ((j : Nat) : Int)] := by rw [hpj, natD_append]; rfl
              have : (natD t.1)[p.length]? = some (.int ((j : Nat) : Int)) := by
                rw [hn, List.getElem?_append_right (by simp [natD])]
                simp [natD]
              obtain ⟨x, hx, hdx⟩ := TX.DpAll.got hus this
              cases hdx
              exact hx
            have al : atI us (-1) = some (.int ((j : Nat) : Int)) := by
              have e1 : us.length = p.length + 1 := by omega
              have e2 : ixN us.length (-1) = some p.length := by
                unfold ixN
                rw [if_neg (by decide), if_pos (by omega)]
                congr 1
                omega
              unfold atI
              rw [e2]
              exact lu
            refine ⟨_, rfl, 1, rfl, ua, us, _, _, rfl, rfl, same_sqt (sv.trans (s02.trans (s3.trans (s4.trans s5)))) hua, al, a5, xs5, _, x5, rfl, rfl, SqL.of ha5, atI_nat hx5, _, rfl, t.2.1, t.2.1, hdx5, dp_same (s2.trans (s3.trans (s4.trans s5))) _ _ hy1, shE, shE, _, rfl, ?_⟩
            have er : (!PyData.eqv t.2.1 t.2.1) = false := by
              rw [SeqAt.eqv_refl _ (val_can _ ve)]
              rfl
            refine iteF' er ⟨_, rfl, w4, e', G5, rfl, Same.refl _, dp_same s5 _ _ hw4', va', by omega, fun G6 s6 => ⟨rfl, some w4, ?_, s3.trans (s4.trans (s5.trans s6))⟩⟩
            have := kind_text va'
            show (List.set _ 3 (some (V.bl (decide (V.str (kindS e') = V.str "text"))))) = _
            rw [this, ← hb]
            rfl
    rintro σ' G ⟨z4, rfl, sG⟩
    have s0G : Same H G := s02.trans sG
    refine ⟨fun σ' G' => σ' = [some v, some u, some y, some (.bl t.2.2), z4, none] ∧ Same G G', ?_, ?_⟩
    · refine ⟨v, rfl, u, rfl, v, u, d, plD t, G, rfl, Same.refl _, dp_same (sv.trans s0G) _ _ hd, dp_same (sv.trans s0G) _ _ hp, by omega, by omega, fun ks' e' hk he G2 s2' => ?_, fun z => (fd_at o1 z).elim⟩
      obtain rfl := PyData.tuple.inj hk
      rw [o2]
      refine ⟨_, rfl, rfl, _, rfl, iteF' (by rw [decide_eq_true rfl]; rfl) ⟨_, rfl, _, rfl, ?_⟩⟩
      cases hb : t.2.2 with
      | false => exact iteF (iteF ⟨rfl, s2'⟩)
      | true =>
        obtain ⟨c, hc⟩ := o3 hb
        have z2 : sz t.2.1 = 2 := by
          rw [hc]
          rfl
        refine iteT ⟨_, rfl, y, t.2.1, G2, rfl, Same.refl _, dp_same (s2.trans (sG.trans s2')) _ _ hy1, ve, by omega, fun G3 s3 => ⟨rfl, _, rfl, iteF' ?_ ⟨rfl, s2'.trans s3⟩⟩⟩
        show (!decide (V.int ((sz t.2.1 : Nat) : Int) = V.int 2)) = false
        rw [z2]
        rfl
    rintro σ' G2 ⟨rfl, sG2⟩
    have s1G : Same H1 G2 := (s2.trans sG).trans sG2
    have s0G2 : Same H G2 := s0G.trans sG2
    refine ⟨_, rfl, y, t.2.1, G2, rfl, Same.refl _, dp_same s1G _ _ hy1, ve, by omega, fun G3 l ys s3 nl hl hys => ?_⟩
    refine ⟨l, rfl, ⟨ys, SqL.of hl⟩, for_list (K := K) (a := l) (xs := ys) (fun i σ H5 => ∃ z5, σ = [some v, some u, some y, some (.bl t.2.2), z4, z5] ∧ Same G3 H5) ⟨none, rfl, Same.refl _⟩ (fun i σ H5 hi ⟨_, _, s5⟩ => SqL.of (s5 _ _ hl)) ?_ ?_⟩
    · rintro i x σ H5 hx ⟨z5, rfl, s5⟩
      obtain ⟨xi, q', rfl, hq, hpi⟩ := Pls.get hys hx
      obtain ⟨t2, ht2, rfl⟩ := get_map hpi
      have hm2 := List.mem_of_getElem? ht2
      obtain ⟨i1, i2, _, _⟩ := plT_ok t.2.1 ve t2 hm2
      have tn2 := (pl_nd ve (by omega) hm2)
      have hat : atD d (natD (t.1 ++ t2.1)) = some t2.2.1 := by
        rw [natD_append, at_append _ _ _ _ o1]
        exact i1
      have s05 : Same H H5 := (s0G2.trans s3).trans s5
      obtain ⟨ua, us, rfl, hua, hus⟩ := dp_tup hp
      have ul := DpAll.length hus
      have nl1 : (natD t.1).length = t.1.length := List.length_map ..
      have nl2 : (natV t2.1).length = t2.1.length := List.length_map ..
      have hq5 : Dp K H5 (.ref xi) (.tuple (natD t2.1)) := .tup (SqT.of (s5 _ _ hq)) (dp_nats _)
      have hd5 : Dp K H5 v d := dp_same (sv.trans s05) _ _ hd
      have nn : nd (.tuple (natD (t.1 ++ t2.1))) ≤ 1000000 := by
        have := nd_nats (t.1 ++ t2.1)
        rw [List.length_append] at this
        simp only [nd]
        omega
      have key : ∀ (G5 : Hp) (w5 : V), Same H5 G5 → Dp K G5 w5 (.tuple (natD (t.1 ++ t2.1))) → spPart K NP [v, w5] G5 (fun x6 H6 => ∃ v7, ([some v, some (.ref ua), some y, some (.bl t.2.2), z4, some (.ref xi)] : L2.St)[2]? = some (some v7) ∧ ∃ v8, ([some v, some (.ref ua), some y, some (.bl t.2.2), z4, some (.ref xi)] : L2.St)[5]? = some (some v8) ∧ spPart K NP [v7, v8] H6 (fun y7 H7 => rNeD K x6 y7 H7 fun b7 H8 => ∃ k, b7 = .bl k ∧ if k = true then Q (.bl false) H8 else ∃ z5, ([some v, some (.ref ua), some y, some (.bl t.2.2), z4, some (.ref xi)] : L2.St) = [some v, some (.ref ua), some y, some (.bl t.2.2), z4, z5] ∧ Same G3 H8) EF) EF := by
        intro G5 w5 s55 hw5
        refine ⟨v, w5, d, _, G5, rfl, Same.refl _, dp_same s55 _ _ hd5, hw5, vd, by omega, nn, fun e6 he6 G6 x6 s6 hx6 => ?_, fun z => (fd_at hat z).elim⟩
        obtain rfl : t2.2.1 = e6 := Option.some.inj (hat.symm.trans he6)
        have hx6' := dp_same newp_same _ _ hx6
        have s66 : Same G3 G6 := s5.trans (s55.trans s6)
        refine ⟨_, rfl, _, rfl, y, .ref xi, t.2.1, .tuple (natD t2.1), G6, rfl, Same.refl _, dp_same (s1G.trans (s3.trans s66)) _ _ hy1, dp_same (s55.trans s6) _ _ hq5, ve, by omega, by unfold plD at tn2; omega, fun e7 he7 G7 x7 s7 hx7 => ?_, fun z => (fd_at i1 z).elim⟩
        obtain rfl : t2.2.1 = e7 := Option.some.inj (i1.symm.trans he7)
        have hx7' := dp_same newp_same _ _ hx7
        obtain ⟨ve2, _, de2⟩ := at_val _ _ _ i1 ve
        have sh2 := val_shaped ve2 (by omega)
        refine ⟨t2.2.1, t2.2.1, dp_same s7 _ _ hx6', hx7', sh2, sh2, _, rfl, iteF' ?_ ⟨_, rfl, s66.trans s7⟩⟩
        rw [SeqAt.eqv_refl _ (val_can _ ve2)]
        rfl
      refine ⟨v, rfl, _, rfl, _, rfl, ua, xi, us, natV t2.1, rfl, rfl, same_sqt (sv.trans s05) hua, SqT.of (s5 _ _ hq), ?_, fun hz0 => ?_, fun h1 h2 => ?_, fun h1 h2 t6 n6 => ?_⟩
      · exact Nat.le_trans (show us.length + (natV t2.1).length ≤ 30000 by omega) (by decide)
      · have e1 : t.1 = [] := by
          have : t.1.length = 0 := by rw [← nl1, ← ul, hz0]; rfl
          exact List.length_eq_zero_iff.mp this
        refine key H5 _ (Same.refl _) ?_
        rw [e1]
        exact hq5
      · have e1 : t2.1 = [] := by
          have : t2.1.length = 0 := by rw [← nl2, h2]; rfl
          exact List.length_eq_zero_iff.mp this
        refine key H5 _ (Same.refl _) ?_
        rw [e1, List.append_nil]
        exact dp_same (sv.trans s05) _ _ hp
      · refine key _ _ (same_upd n6) (.tup (SqT.of upd_same) ?_)
        rw [natD_append]
        exact DpAll.append (dpAll_same ((sv.trans s05).trans (same_upd n6)) _ _ hus) (dp_nats _)
    · rintro σ H5 ⟨z5, rfl, s5⟩
      exact q H5 ((s0G2.trans s3).trans s5)
end
end TX
namespace TX
open PySem PySem.Spec PyProof.Rows L2
/-! ### what is shown of values -/
mutual
theorem val_shown : ∀ d : PyData, valD d → d.showable = true ∧ d.hasDict = false ∧ d.leavesShort 1921 = true ∧ d.bulk + 1 ≤ 2 * sz d
  | .none, _ => ⟨rfl, rfl, rfl, by simp [PyData.bulk, sz]⟩
  | .str x, h => by
    refine ⟨rfl, rfl, ?_, ?_⟩
    · simp only [PyData.leavesShort, List.all_eq_true, decide_eq_true_eq]
      intro c hc
      have := (h c hc).2
      exact Nat.lt_of_le_of_lt this (by decide)
    · have e : x.length = x.cps.size := rfl
      simp only [PyData.bulk, sz]
      omega
  | .list es, h => by
    obtain ⟨h1, h2, h3, h4⟩ := val_shownAll es h
    refine ⟨by simpa [PyData.showable] using h1, by simpa [PyData.hasDict] using h2, by simpa [PyData.leavesShort] using h3, ?_⟩
    simp only [PyData.bulk, sz]
    omega
  | .bool _, h => h.elim
  | .int _, h => h.elim
  | .tuple _, h => h.elim
  | .dict _, h => h.elim
theorem val_shownAll : ∀ ds : List PyData, valAll ds → PyData.showableAll ds = true ∧ PyData.hasDictAll ds = false ∧ PyData.leavesShortAll 1921 ds = true ∧ PyData.bulkAll ds ≤ 2 * szAll ds
  | [], _ => ⟨rfl, rfl, rfl, by simp [PyData.bulkAll]⟩
  | d :: ds, h => by
    obtain ⟨a1, a2, a3, a4⟩ := val_shown d h.1
    obtain ⟨b1, b2, b3, b4⟩ := val_shownAll ds h.2
    refine ⟨by simp [PyData.showableAll, a1, b1], by simp [PyData.hasDictAll, a2, b2], by simp [PyData.leavesShortAll, a3, b3], ?_⟩
    simp only [PyData.bulkAll, szAll]
    omega
end
theorem shown_fit {d : PyData} (hv : valD d) (hs : sz d ≤ 4000) : d.shown.length ≤ sizeLine := by
  obtain ⟨_, _, h3, h4⟩ := val_shown d hv
  have e1 := PyData.shown_le_bulk 1921 (by decide) d h3
  have e2 : (1921 + 2) * d.bulk ≤ 1923 * 8000 := Nat.mul_le_mul_left _ (by omega)
  exact Nat.le_trans e1 (Nat.le_trans (Nat.add_le_add_right e2 _) (by decide))
mutual
theorem val_eqv : ∀ (a b : PyData), valD a → valD b → (PyData.eqv a b = true ↔ a = b)
  | .none, .none, _, _ => by simp [PyData.eqv]
  | .str x, .str y, _, _ => by simp [PyData.eqv]
  | .list xs, .list ys, ha, hb => by
    simp only [PyData.eqv, PyData.list.injEq]
    exact val_eqvAll xs ys ha hb
  | .none, .str _, _, _ => by simp [PyData.eqv]
  | .none, .list _, _, _ => by simp [PyData.eqv]
  | .str _, .none, _, _ => by simp [PyData.eqv]
  | .str _, .list _, _, _ => by simp [PyData.eqv]
  | .list _, .none, _, _ => by simp [PyData.eqv]
  | .list _, .str _, _, _ => by simp [PyData.eqv]
  | .bool _, _, h, _ => h.elim
  | .int _, _, h, _ => h.elim
  | .tuple _, _, h, _ => h.elim
  | .dict _, _, h, _ => h.elim
  | _, .bool _, _, h => h.elim
  | _, .int _, _, h => h.elim
  | _, .tuple _, _, h => h.elim
  | _, .dict _, _, h => h.elim
theorem val_eqvAll : ∀ (as bs : List PyData), valAll as → valAll bs → (PyData.eqvAll as bs = true ↔ as = bs)
  | [], [], _, _ => by simp [PyData.eqvAll]
  | [], _ :: _, _, _ => by simp [PyData.eqvAll]
  | _ :: _, [], _, _ => by simp [PyData.eqvAll]
  | a :: as, b :: bs, ha, hb => by
    simp only [PyData.eqvAll, Bool.and_eq_true, List.cons.injEq, val_eqv a b ha.1 hb.1, val_eqvAll as bs ha.2 hb.2]
end

/-! ### rows of a place, a kind and a size -/
def rowD (t : Pt) : PyData := .tuple [plD t, .str (kindS t.2.1), .int ((sz t.2.1 : Nat) : Int)]
theorem kind_strOk (d : PyData) : PyData.strOk (kindS d) = true := by
  cases d <;> (simp only [kindS]; decide +kernel)
theorem nats_lay : ∀ p : List Nat, PyData.canLayAll0 (natD p) = true ∧ PyData.depthAll (natD p) = 0
  | [] => ⟨rfl, rfl⟩
  | i :: p => by
    have ih := nats_lay p
    simp only [natD, List.map_cons, PyData.canLayAll0, PyData.canLay0, PyData.depthAll, PyData.depth] at ih ⊢
    exact ⟨by rw [ih.1]; rfl, by rw [ih.2]; rfl⟩
theorem rows_lay : ∀ ts : List Pt, PyData.canLayAll0 (ts.map rowD) = true ∧ PyData.depthAll (ts.map rowD) ≤ 2
  | [] => ⟨rfl, Nat.zero_le _⟩
  | t :: ts => by
    obtain ⟨a, b⟩ := rows_lay ts
    obtain ⟨c, d⟩ := nats_lay t.1
    simp only [List.map_cons, PyData.canLayAll0, rowD, plD, PyData.canLay0, PyData.depthAll, PyData.depth, a, c, d, kind_strOk]
    exact ⟨rfl, by omega⟩
theorem rows_shaped (ts : List Pt) : SeqAt.shaped (.list (ts.map rowD)) = true := by
  obtain ⟨a, b⟩ := rows_lay ts
  unfold SeqAt.shaped
  rw [Bool.and_eq_true]
  refine ⟨by simp only [PyData.canLay0, a], decide_eq_true ?_⟩
  simp only [PyData.depth]
  omega
theorem nats_eqv : ∀ p q : List Nat, PyData.eqvAll (natD p) (natD q) = true → p = q
  | [], [], _ => rfl
  | [], _ :: _, h => by simp [natD, PyData.eqvAll] at h
  | _ :: _, [], h => by simp [natD, PyData.eqvAll] at h
  | a :: p, b :: q, h => by
    simp only [natD, List.map_cons, PyData.eqvAll, PyData.eqv, Bool.and_eq_true, beq_iff_eq] at h
    have := nats_eqv p q h.2
    have h1 := h.1
    rw [this, show a = b by omega]
theorem rows_eqv : ∀ ts us : List Pt, PyData.eqvAll (ts.map rowD) (us.map rowD) = true → ts.map (·.1) = us.map (·.1)
  | [], [], _ => rfl
  | [], _ :: _, h => by simp [PyData.eqvAll] at h
  | _ :: _, [], h => by simp [PyData.eqvAll] at h
  | a :: p, b :: q, h => by
    simp only [List.map_cons, PyData.eqvAll, Bool.and_eq_true] at h
    have ih := rows_eqv p q h.2
    have h1 := h.1
    simp only [rowD, plD, PyData.eqv, PyData.eqvAll, Bool.and_eq_true] at h1
    rw [List.map_cons, List.map_cons, ih, nats_eqv _ _ h1.1]
def tRow (K : PySem.W.Frag) (NP : Addr) (j : Nat) : TE := tTup (tCons (tVar 12) (tCons (tCall (spKd K) [] E0 (tCons (tCall (spPart K NP) [] EF (tCons (tVar j) (tCons (tVar 12) tNil))) tNil)) (tCons (tCall (spZz K) [] E0 (tCons (tCall (spPart K NP) [] EF (tCons (tVar j) (tCons (tVar 12) tNil))) tNil)) tNil)))
def tSame (K : PySem.W.Frag) (NP : Addr) : TE := tOp (rEqD K) (tCall (spPart K NP) [] EF (tCons (tVar 3) (tCons (tOp (rIxT K) (tVar 13) (tC (.int 0))) tNil))) (tCall (spPart K NP) [] EF (tCons (tVar 4) (tCons (tOp (rIxT K) (tVar 13) (tC (.int 0))) tNil)))
theorem row_read {K : PySem.W.Frag} {NP : Addr} {j : Nat} {σ : L2.St} {v x : V} {d : PyData} {t : Pt} {H : Hp} {D : Addr} {Q : VK} (hj : σ[j]? = some (some v)) (hx : σ[12]? = some (some x)) (hv : Dp K H v d) (hxD : Dp K (del H D) x (plD t)) (hD : H D ≠ none) (vd : valD d) (hz : sz d ≤ 4000) (ht : t ∈ plT d)
    (q : ∀ (H4 : Hp) (y : V), Same H H4 → Dp K (del H4 D) y (rowD t) → Q y H4) : tRow K NP j σ H Q := by
  obtain ⟨o1, o2, o3, o4⟩ := plT_ok d vd t ht
  obtain ⟨ve, ze, de⟩ := at_val _ _ _ o1 vd
  have tn := (pl_nd vd (by omega) ht).1
  have hxH := dp_same del_in _ _ hxD
  refine ⟨x, hx, v, hj, x, hx, v, x, d, plD t, H, rfl, Same.refl _, hv, hxH, vd, by omega, by omega, fun e' he G1 y1 s1 hy1 => ?_, fun z => (fd_at o1 z).elim⟩
  obtain rfl : t.2.1 = e' := Option.some.inj (o1.symm.trans he)
  refine ⟨y1, t.2.1, G1, rfl, Same.refl _, dp_same newp_same _ _ hy1, ve, by omega, fun G2 s2 => ⟨v, hj, x, hx, v, x, d, plD t, H, rfl, s1.trans s2, hv, hxH, vd, by omega, by omega, fun e' he G3 y3 s3 hy3 => ?_, fun z => (fd_at o1 z).elim⟩⟩
  obtain rfl : t.2.1 = e' := Option.some.inj (o1.symm.trans he)
  refine ⟨y3, t.2.1, G3, rfl, Same.refl _, dp_same newp_same _ _ hy3, ve, by omega, fun G4 s4 => ⟨(by show 3 ≤ sizeLine; decide), fun t0 n0 => ?_⟩⟩
  have s04 : Same H G4 := ((s1.trans s2).trans s3).trans s4
  have s5 : Same H (upd G4 t0 (.tup [x, .str (kindS t.2.1), .int ((sz t.2.1 : Nat) : Int)])) := s04.trans (same_upd n0)
  refine q _ _ s5 ?_
  have hne : t0 ≠ D := fun z => by
    cases e : H D with
    | none => exact hD e
    | some o => rw [z, s04 _ _ e] at n0; cases n0
  exact .tup (SqT.of (by rw [del_ne hne, upd_same])) (.cons (dp_same (del_mono' s5) _ _ hxD) (.cons (.str _) (.cons (.int _) .nil)))
theorem dp_bools {K : PySem.W.Frag} {H : Hp} : ∀ (l : List Bool) {xs : List V}, DpAll K H xs (l.map PyData.bool) → xs = l.map V.bl
  | [], _, h => by
    cases h
    rfl
  | c :: l, _, h => by
    cases h with
    | cons h1 h2 =>
      cases h1
      rw [dp_bools l h2]
      rfl
structure Ml (mg : Str → Option Value) : Prop where
  max : mg "max" = none
  repr : mg "repr" = none
  all : mg "all" = none
def spLaw (K : PySem.W.Frag) : Sp := fun vs H Q _ => ∃ (a : Addr) (ns : List Int), vs = [.ref a] ∧ SqL K H a (ns.map V.int) ∧ ns.length ≤ 63 ∧ ∀ H', Q (.bl true) H'
theorem ite_both {c : Bool} {A B : VK → Prop} {Q R : VK} (h : ∀ v H', R v H' → Q v H') (hA : c = true → (∀ v H', R v H' → Q v H') → A Q) (hB : c = false → (∀ v H', R v H' → Q v H') → B Q) : if c = true then A Q else B Q := by
  cases c with
  | true => exact iteT (hA rfl h)
  | false => exact iteF (hB rfl h)
/-- a value that came of the bag, told over the heap without the bag -/
theorem del_dp {K : PySem.W.Frag} {H G1 H4 : Hp} {p : Addr} {v : V} {d : PyData} (np0 : H p = none) (bag1 : BagAt G1 p) (k : ∀ b o, b ≠ p → H b = some o → G1 b = some o) (k4 : ∀ b o, b ≠ p → G1 b = some o → H4 b = some o) (hv : Dp K (newp G1 H4) v d) : Dp K (del H4 p) v d ∧ Same H (del H4 p) := by
  refine ⟨dp_same (fun b o e => ?_) _ _ hv, fun b o e => ?_⟩
  · have bp : b ≠ p := fun z => by
      obtain ⟨x, y, e4⟩ := bag1
      rw [z, newp_old e4] at e
      cases e
    rw [del_ne bp]
    exact newp_same _ _ e
  · have bp := ne_of_none e np0
    rw [del_ne bp]
    exact k4 b o bp (k b o bp e)
theorem tyes_in {σ : L2.St} {H : Hp} {Q : Bool → Hp → Prop} (h : Q true H) : tYes σ H Q := h
theorem del_upd {H : Hp} {p : Addr} {o : HO} : del (upd H p o) p = del H p := by
  funext b
  by_cases z : b = p
  · rw [z, del_same, del_same]
  · rw [del_ne z, del_ne z, upd_ne z]
theorem pls_del {H : Hp} {p : Addr} (bg : BagAt H p) {ws : List V} {ps : List (List Nat)} (h : Pls H ws ps) : Pls (del H p) ws ps := by
  induction h with
  | nil => exact .nil
  | cons h _ ih =>
    refine .cons ?_ ih
    obtain ⟨x, y, e⟩ := bg
    rw [del_ne (fun z => by rw [z, e] at h; cases h)]
    exact h
theorem lst_del {H : Hp} {p a : Addr} (bg : BagAt H p) {ws : List V} {ps : List (List Nat)} (h : Pls H ws ps) (ha : H a = some (.lst ws)) : del H p a = some (.lst ws) := by
  obtain ⟨x, y, e⟩ := bg
  rw [del_ne (fun z => by
    rw [z, e] at ha
    cases ha
    cases h)]
  exact ha
theorem alike_all {d e : PyData} (vd : valD d) (ve : valD e) : (((plT d).zip (plT e)).map fun tu => PyData.eqv tu.1.2.1 tu.2.2.1).all id = PyData.eqv d e := by
  obtain ⟨r, h1⟩ := plT_head d
  obtain ⟨r', h2⟩ := plT_head e
  cases h : PyData.eqv d e with
  | false =>
    rw [h1, h2, List.zip_cons_cons, List.map_cons, List.all_cons]
    show (PyData.eqv d e && _) = false
    rw [h, Bool.false_and]
  | true =>
    obtain rfl := (val_eqv d e vd ve).mp h
    rw [List.all_eq_true]
    intro b hb
    obtain ⟨tu, ht, rfl⟩ := List.mem_map.mp hb
    obtain ⟨i, hi⟩ := List.getElem?_of_mem ht
    obtain ⟨ha, hc⟩ := List.getElem?_zip_eq_some.mp hi
    have e1 : tu.1 = tu.2 := Option.some.inj (ha.symm.trans hc)
    obtain ⟨o1, _⟩ := plT_ok d vd tu.1 (List.mem_of_getElem? ha)
    obtain ⟨v1, _, _⟩ := at_val _ _ _ o1 vd
    rw [← e1]
    exact SeqAt.eqv_refl _ (val_can _ v1)
theorem rows_same {d e : PyData} (vd : valD d) (ve : valD e) (h : PyData.eqv (.list ((plT d).map rowD)) (.list ((plT e).map rowD)) = false) : PyData.eqv d e = false := by
  cases q : PyData.eqv d e with
  | false => rfl
  | true =>
    obtain rfl := (val_eqv d e vd ve).mp q
    have : PyData.canLay0 (.list ((plT d).map rowD)) = true := by
      simp only [PyData.canLay0, (rows_lay _).1]
    rw [SeqAt.eqv_refl _ this] at h
    cases h
section
variable {P : Program} {w : World} {K : PySem.W.Frag} {mg : Str → Option Value} {base : Heap} {NP : Addr}
/-- what the law calls -/
structure Lc (P : Program) (w : World) (K : PySem.W.Frag) (mg : Str → Option Value) (base : Heap) (NP : Addr) (a1 a2 a3 a4 a5 a6 a7 a8 fP fT fK fZ fD : Addr) (d1 d2 d3 d4 d5 d6 d7 d8 dP dT dK dZ dD : FuncData) : Prop where
  A : Ask P w K mg base NP fP fT fK fZ fD dP dT dK dZ dD
  G1 : FnOk P w K mg base CX0 1 a1 d1 ["_law_script", "_law_at"] (spBag K)
  G2 : FnOk P w K mg base CX0 1 a2 d2 ["_law_bag_here", "_law_many"] spTake
  G3 : FnOk P w K mg base CX0 8 a3 d3 ["_law_bag_here"] (spGreat K)
  G4 : FnOk P w K mg base CX0 8 a4 d4 ["_law_bag_here", "_law_deep", "_law_room"] (spValue K 5)
  G5 : FnOk P w K mg base CX0 17 a5 d5 ["_law_value_here"] (spAgain K 13)
  G6 : FnOk P w K mg base CX0 2 a6 d6 ["value"] (spPlacesOf K)
  G7 : FnOk P w K mg base CX0 7 a7 d7 ["_law_value_here", "_law_places"] (spCounted K)
  G8 : FnOk P w K mg base CX0 7 a8 d8 ["_law_value_here", "_law_place"] (spBuilt K)
  b1 : Binds K d1 ["_law_script", "_law_at"] []
  b2 : Binds K d2 ["_law_bag_here", "_law_many"] []
  b3 : Binds K d3 ["_law_bag_here"] []
  b4 : Binds K d4 ["_law_bag_here", "_law_deep", "_law_room"] []
  b5 : Binds K d5 ["_law_value_here"] []
  b6 : Binds K d6 ["value"] []
  b7 : Binds K d7 ["_law_value_here", "_law_places"] []
  b8 : Binds K d8 ["_law_value_here", "_law_place"] []
  g1 : mg "_law_bag" = some (.ref a1)
  g2 : mg "_law_take" = some (.ref a2)
  g3 : mg "_law_great" = some (.ref a3)
  g4 : mg "_law_value" = some (.ref a4)
  g5 : mg "_law_again" = some (.ref a5)
  g6 : mg "places_of" = some (.ref a6)
  g7 : mg "_law_is_counted" = some (.ref a7)
  g8 : mg "_law_is_built" = some (.ref a8)
  k1 : PySem.W.keepIn K (.ref a1) = true
  k2 : PySem.W.keepIn K (.ref a2) = true
  k3 : PySem.W.keepIn K (.ref a3) = true
  k4 : PySem.W.keepIn K (.ref a4) = true
  k5 : PySem.W.keepIn K (.ref a5) = true
  k6 : PySem.W.keepIn K (.ref a6) = true
  k7 : PySem.W.keepIn K (.ref a7) = true
  k8 : PySem.W.keepIn K (.ref a8) = true
theorem scLaw : FnScope ["_law_script", "_law_at", "_law_bag_here", "_law_value_here", "_law_other", "_law_places", "_law_before", "_law_turn", "_law_rows", "_law_others", "_law_likes", "_law_is_alike", "_law_place", "_law_row"] ["_law_script"] (defScope sLaw) := ⟨rfl, rfl, rfl, by decide +kernel, rfl, by decide +kernel, by decide +kernel⟩
theorem ok_law {f a1 a2 a3 a4 a5 a6 a7 a8 fP fT fK fZ fD : Addr} {fd d1 d2 d3 d4 d5 d6 d7 d8 dP dT dK dZ dD : FuncData} (F : Fun K "law" "law" sLaw f fd) (M : Ml mg) (B : Nb mg) (Y : Nv mg) (L : Lc P w K mg base NP a1 a2 a3 a4 a5 a6 a7 a8 fP fT fK fZ fD d1 d2 d3 d4 d5 d6 d7 d8 dP dT dK dZ dD) : FnG P w K mg base CX0 18 f fd ["_law_script"] (spLaw K) := by
  refine fng_of F scLaw (fun vs H Q E h => ?_) (fun cdv A outer s H vs Q E hgd hr h => ?_)
  · obtain ⟨a, ns, rfl, _⟩ := h
    rfl
  · obtain ⟨a0, ns, rfl, hS, hn, q⟩ := h
    have hu := hr.units
    have r1 : Room 1 _ := hr.mono (by decide)
    have r2 : Room 2 _ := hr.mono (by decide)
    have r6 : Room 6 _ := hr.mono (by decide)
    have r7 : Room 7 _ := hr.mono (by decide)
    have r8 : Room 8 _ := hr.mono (by decide)
    refine ⟨_, pss_cons (ps_for PassesOwn.never rfl (pi_range1 (by rfl) Y.range (pa_cons (pe_callB (call_max2 rfl) (by rfl) M.max (by decide +kernel) (pa_cons pe_int (pa_cons (pe_callB (call_min2 rfl) (by rfl) Y.min (by decide +kernel) (pa_cons pe_int (pa_cons (pe_callB call_len_seq (by rfl) B.len PySem.boot_len (pa_cons (pv 0) pa_nil)) pa_nil))) pa_nil))) pa_nil))
        (pg_name (i := 1) scLaw.nd rfl (.inl rfl)) (
        pss_cons (ps_set (i := 2) scLaw.nd rfl (.inl rfl) (pe_call L.G1 r1 (by rfl) L.g1 L.k1 L.b1 .nil pass0 (pa_cons (pv 0) (pa_cons (pv 1) pa_nil)))) <|
        pss_cons (ps_set (i := 3) scLaw.nd rfl (.inr rfl) (pe_ifExp (pt_cmpR op_eq (pe_call L.G2 r1 (by rfl) L.g2 L.k2 L.b2 .nil pass0 (pa_cons (pv 2) (pa_cons pe_int pa_nil))) pe_int (nomark _)) (pe_call L.G3 r8 (by rfl) L.g3 L.k3 L.b3 .nil pass0 (pa_cons (pv 2) pa_nil)) (pe_call L.G4 r8 (by rfl) L.g4 L.k4 L.b4 .nil pass0 (pa_cons (pv 2) (pa_cons pe_int (pa_cons pe_int pa_nil)))))) <|
        pss_cons (ps_set (i := 4) scLaw.nd rfl (.inr rfl) (pe_ifExp (pt_cmpR op_eq (pe_call L.G2 r1 (by rfl) L.g2 L.k2 L.b2 .nil pass0 (pa_cons (pv 2) (pa_cons pe_int pa_nil))) pe_int (nomark _)) (pe_call L.G4 r8 (by rfl) L.g4 L.k4 L.b4 .nil pass0 (pa_cons (pv 2) (pa_cons pe_int (pa_cons pe_int pa_nil)))) (pe_call L.G5 hr (by rfl) L.g5 L.k5 L.b5 .nil pass0 (pa_cons (pv 3) pa_nil)))) <|
        pss_cons (ps_par (i := 5) (j := 6) rfl scLaw.nd rfl rfl (by decide) rfl rfl (pa_cons (pe_call L.G6 r2 (by rfl) L.g6 L.k6 L.b6 .nil pass0 (pa_cons (pv 3) pa_nil)) (pa_cons (pe_callB (call_repr hgd hu) (by rfl) M.repr (by decide +kernel) (pa_cons (pv 3) pa_nil)) pa_nil)) (by rfl)) <|
        C8.pss_cut (ps_if (PW.pt (pw_or (pt_cmpR op_ne (pe_callB (call_repr hgd hu) (by rfl) M.repr (by decide +kernel) (pa_cons (pe_call L.G5 hr (by rfl) L.g5 L.k5 L.b5 .nil pass0 (pa_cons (pv 3) pa_nil)) pa_nil)) (pv 6) (nomark _)) (pw_or1 (pt_not (pt_val (pe_call L.G7 r7 (by rfl) L.g7 L.k7 L.b7 .nil pass0 (pa_cons (pv 3) (pa_cons (pv 5) pa_nil)))))))) (pss_one (ps_ret pe_bl)) pss_nil) <|
        C8.pss_cut (ps_for PassesOwn.never rfl (pi_range1 (by rfl) Y.range (pa_cons (pe_callB (call_min2 rfl) (by rfl) Y.min (by decide +kernel) (pa_cons pe_int (pa_cons (pe_callB call_len_seq (by rfl) B.len PySem.boot_len (pa_cons (pv 5) pa_nil)) pa_nil))) pa_nil)) (pg_name (i := 7) scLaw.nd rfl (.inl rfl))
          (pss_one (ps_if (pt_not (pt_val (pe_call L.G8 r7 (by rfl) L.g8 L.k8 L.b8 .nil pass0 (pa_cons (pv 3) (pa_cons (pe_ix ix_list (pv 5) (pe_call L.G2 r1 (by rfl) L.g2 L.k2 L.b2 .nil pass0 (pa_cons (pv 2) (pa_cons (pe_callB call_len_seq (by rfl) B.len PySem.boot_len (pa_cons (pv 5) pa_nil)) pa_nil))) (fun _ _ => rfl)) pa_nil))))) (pss_one (ps_ret pe_bl)) pss_nil))) <|
        pss_cons (ps_setLc (i := 8) (own := [("_law_place", 12)]) (g := gName 12) (tt := tYes) (te := tRow K NP 3) rfl scLaw.nd rfl rfl (sw_true rfl rfl rfl (by decide +kernel)) (pi_list (pv 5)) (blkOk_by (own := [("_law_place", 12)]) (N := ["_law_script", "_law_at", "_law_bag_here", "_law_value_here", "_law_other", "_law_places", "_law_before", "_law_turn", "_law_rows", "_law_others", "_law_likes", "_law_is_alike", "_law_place", "_law_row"]) (sc := defScope sLaw) (by decide +kernel)) (fun _ _ _ _ _ => pg_name (i := 12) scLaw.nd rfl (Or.inl rfl)) (fun _ _ _ _ _ => pts_nil) (fun _ _ _ _ _ => (pe_tup (pa_cons (pv 12) (pa_cons (pe_call L.A.GK r1 (by rfl) L.A.gK L.A.kK L.A.bK .nil pass0 (pa_cons (pe_call (E := EF) L.A.GP r6 (by rfl) L.A.gP L.A.kP L.A.bP .nil passF (pa_cons (pv 3) (pa_cons (pv 12) pa_nil))) pa_nil)) (pa_cons (pe_call L.A.GZ r2 (by rfl) L.A.gZ L.A.kZ L.A.bZ .nil pass0 (pa_cons (pe_call (E := EF) L.A.GP r6 (by rfl) L.A.gP L.A.kP L.A.bP .nil passF (pa_cons (pv 3) (pa_cons (pv 12) pa_nil))) pa_nil)) pa_nil)))))) <|
        pss_cons (ps_set (i := 9) scLaw.nd rfl (.inl rfl) (pe_call L.G6 r2 (by rfl) L.g6 L.k6 L.b6 .nil pass0 (pa_cons (pv 4) pa_nil))) <|
        pss_cons (ps_setLc (i := 10) (own := [("_law_place", 12)]) (g := gName 12) (tt := tYes) (te := tRow K NP 4) rfl scLaw.nd rfl rfl (sw_true rfl rfl rfl (by decide +kernel)) (pi_list (pv 9)) (blkOk_by (own := [("_law_place", 12)]) (N := ["_law_script", "_law_at", "_law_bag_here", "_law_value_here", "_law_other", "_law_places", "_law_before", "_law_turn", "_law_rows", "_law_others", "_law_likes", "_law_is_alike", "_law_place", "_law_row"]) (sc := defScope sLaw) (by decide +kernel)) (fun _ _ _ _ _ => pg_name (i := 12) scLaw.nd rfl (Or.inl rfl)) (fun _ _ _ _ _ => pts_nil) (fun _ _ _ _ _ => (pe_tup (pa_cons (pv 12) (pa_cons (pe_call L.A.GK r1 (by rfl) L.A.gK L.A.kK L.A.bK .nil pass0 (pa_cons (pe_call (E := EF) L.A.GP r6 (by rfl) L.A.gP L.A.kP L.A.bP .nil passF (pa_cons (pv 4) (pa_cons (pv 12) pa_nil))) pa_nil)) (pa_cons (pe_call L.A.GZ r2 (by rfl) L.A.gZ L.A.kZ L.A.bZ .nil pass0 (pa_cons (pe_call (E := EF) L.A.GP r6 (by rfl) L.A.gP L.A.kP L.A.bP .nil passF (pa_cons (pv 4) (pa_cons (pv 12) pa_nil))) pa_nil)) pa_nil)))))) <|
        pss_cons (ps_set (i := 11) scLaw.nd rfl (.inl rfl) (pe_cmpR (op_eqD hu) (pv 8) (pv 10) (nomark _))) <|
        C8.pss_cut (ps_if (pt_val (pv 11)) (pss_one (ps_set (i := 11) scLaw.nd rfl (.inl rfl) (pe_callB (cr_all rfl) (by rfl) M.all (by decide +kernel) (pa_cons (pe_lc (own := [("_law_row", 13)]) (g := gName 13) (tt := tYes) (te := tSame K NP) rfl scLaw.nd (pi_list (pv 8)) (blkOk_by (own := [("_law_row", 13)]) (N := ["_law_script", "_law_at", "_law_bag_here", "_law_value_here", "_law_other", "_law_places", "_law_before", "_law_turn", "_law_rows", "_law_others", "_law_likes", "_law_is_alike", "_law_place", "_law_row"]) (sc := defScope sLaw) (by decide +kernel)) (fun _ _ _ _ _ => pg_name (i := 13) scLaw.nd rfl (Or.inl rfl)) (fun _ _ _ _ _ => pts_nil)
            (fun _ _ _ _ _ => pe_cmpR (op_eqD hu) (pe_call (E := EF) L.A.GP r6 (by rfl) L.A.gP L.A.kP L.A.bP .nil passF (pa_cons (pv 3) (pa_cons (pe_ix ix_tup (pv 13) pe_int (fun _ _ => rfl)) pa_nil))) (pe_call (E := EF) L.A.GP r6 (by rfl) L.A.gP L.A.kP L.A.bP .nil passF (pa_cons (pv 4) (pa_cons (pe_ix ix_tup (pv 13) pe_int (fun _ _ => rfl)) pa_nil))) (nomark _))) pa_nil)))) pss_nil) <|
        pss_one (ps_if (PW.pt (pw_or (pt_cmpR op_ne (pv 11) (pe_cmpR (op_eqD hu) (pv 3) (pv 4) (nomark _)) (nomark _)) (pw_or1 (pt_cmpR op_ne (pe_callB (call_repr hgd hu) (by rfl) M.repr (by decide +kernel) (pa_cons (pv 3) pa_nil)) (pv 6) (nomark _))))) (pss_one (ps_ret pe_bl)) pss_nil)))
      (pss_one (ps_ret pe_bl)), ?_⟩
    refine ⟨_, rfl, a0, _, rfl, .inl hS, _, _, rfl, _, _, rfl, _, rfl, ?_, ?_, ?_⟩
    · split <;> (try split) <;> omega
    · split <;> (try split) <;> omega
    refine for_range (lo := 0) (fun i σ H1 => ∃ y1 y2 y3 y4 y5 y6 y7 y8 y9 y10 y11, σ = [some (.ref a0), y1, y2, y3, y4, y5, y6, y7, y8, y9, y10, y11, none, none] ∧ Same H H1) ⟨_, _, _, _, _, _, _, _, _, _, _, rfl, Same.refl _⟩ ?_ ?_
    · rintro i σ H1 hi ⟨y1, y2, y3, y4, y5, y6, y7, y8, y9, y10, y11, rfl, sm⟩
      have e0 : (0 : Int) + (i : Int) = (i : Int) := by omega
      rw [e0]
      refine ⟨_, rfl, _, rfl, a0, ns, i, rfl, sm.seq hS, hn, fun H2 p s2 np bag => ?_⟩
      have np0 : H p = none := sm.free np
      refine ⟨_, rfl, p, 3, rfl, bag, by decide, by decide, fun x1 y1' k hk0 hk1 => ⟨rfl, _, rfl, ?_⟩⟩
      have kp : ∀ b o, b ≠ p → H2 b = some o → upd H2 p (.lst [.int x1, .int y1']) b = some o := fun b o hb e => by
        rw [upd_ne hb]
        exact e
      have bag1 : BagAt (upd H2 p (.lst [.int x1, .int y1'])) p := ⟨_, _, upd_same⟩
      generalize upd H2 p (.lst [.int x1, .int y1']) = G1 at kp bag1
      refine ite_both (R := fun v H4 => ∃ d, BagAt H4 p ∧ Dp K (del H4 p) v d ∧ Same H (del H4 p) ∧ valD d ∧ d.depth ≤ 13 ∧ sz d ≤ 500) ?_ (fun _ hq => ?_) (fun _ hq => ?_)
      rotate_left
      · exact ⟨_, rfl, p, rfl, bag1, fun H4 v d k4 b4 hv vd dd sz0 => hq v H4 ⟨d, b4, (del_dp np0 bag1 (fun b o bp e => kp b o bp (s2 b o (sm b o e))) k4 hv).1, (del_dp np0 bag1 (fun b o bp e => kp b o bp (s2 b o (sm b o e))) k4 hv).2, vd, dd, sz0⟩⟩
      · exact ⟨_, rfl, p, 5, 60, rfl, bag1, by decide, by decide, by decide, fun H4 v d k4 b4 hv vd dd sz0 => hq v H4 ⟨d, b4, (del_dp np0 bag1 (fun b o bp e => kp b o bp (s2 b o (sm b o e))) k4 hv).1, (del_dp np0 bag1 (fun b o bp e => kp b o bp (s2 b o (sm b o e))) k4 hv).2, vd, by omega, by omega⟩⟩
      rintro v H4 ⟨d, bag4, hv, sHc, vd, dd, sz0⟩
      -- the other one
      refine ⟨_, rfl, p, 2, rfl, bag4, by decide, by decide, fun x2 y2' k2 hk20 hk21 => ⟨rfl, _, rfl, ?_⟩⟩
      have e45 : del (upd H4 p (.lst [.int x2, .int y2'])) p = del H4 p := del_upd
      have bag5 : BagAt (upd H4 p (.lst [.int x2, .int y2'])) p := ⟨_, _, upd_same⟩
      generalize upd H4 p (.lst [.int x2, .int y2']) = G5 at e45 bag5
      rw [← e45] at hv sHc
      clear e45
      refine ite_both (R := fun w H6 => ∃ e, BagAt H6 p ∧ Dp K (del H6 p) w e ∧ Same (del G5 p) (del H6 p) ∧ valD e ∧ e.depth ≤ 13 ∧ sz e ≤ 500) ?_ (fun _ hq => ?_) (fun _ hq => ?_)
      rotate_left
      · exact ⟨_, rfl, p, 2, 5, rfl, bag5, by decide, by decide, by decide, fun H6 w e k6 b6 hw ve de ze => hq w H6 ⟨e, b6, (del_dp del_same bag5 (fun b o bp q => by rw [del_ne bp] at q; exact q) k6 hw).1, (del_dp del_same bag5 (fun b o bp q => by rw [del_ne bp] at q; exact q) k6 hw).2, ve, by omega, by omega⟩⟩
      · exact ⟨_, rfl, v, d, del G5 p, rfl, del_in, hv, vd, dd, by omega, fun H6 w s6 hw => hq w H6 ⟨d, bag_same bag5 s6, dp_same (newp_del (bag_in bag5)) _ _ hw, del_mono' s6, vd, dd, sz0⟩⟩
      rintro w H6 ⟨e, bag6, hw, s56, ve, de, ze⟩
      have hv6 : Dp K (del H6 p) v d := dp_same s56 _ _ hv
      have sH6 : Same H (del H6 p) := sHc.trans s56
      have nB : del H6 p p = none := del_same
      have sB6 : Same (del H6 p) H6 := del_in
      generalize hB : del H6 p = Bs at hv6 hw sH6 nB sB6
      clear hv sHc s56 hB
      obtain ⟨w1, w2, _, _⟩ := val_shown d vd
      have w3 : d.shown.length ≤ sizeLine := shown_fit vd (by omega)
      have lT := plT_len d vd
      refine ⟨_, rfl, v, d, Bs, rfl, sB6, hv6, vd, by omega, fun H7 l ys s7 nl hl hys => ?_⟩
      refine ⟨_, rfl, v, d, rfl, dp_same (sB6.trans s7) _ _ hv6, w1, w2, by omega, w3, _, _, rfl, ?_⟩
      have lys : ys.length = (plT d).length := by rw [Pls.len hys, List.length_map]
      have bag7 := bag_same bag6 s7
      have sB7 : Same Bs H7 := sB6.trans s7
      have hl7 := lst_del bag7 hys hl
      have hys7 := pls_del bag7 hys
      have hv7 : Dp K (del H7 p) v d := dp_same (del_out nB sB7) _ _ hv6
      have hw7 : Dp K (del H7 p) w e := dp_same (del_out nB sB7) _ _ hw
      have sH7 : Same H (del H7 p) := sH6.trans (del_out nB sB7)
      have nC : del H7 p p = none := del_same
      have sC7 : Same (del H7 p) H7 := del_in
      generalize del H7 p = C at hl7 hys7 hv7 hw7 sH7 nC sC7
      clear hv6 hw sH6 sB6 sB7 s7 nl hl hys nB
      have hP : Dp K C (.ref l) (.list ((plT d).map plD)) := .lst (SqL.of hl7) (pls_dp hys7)
      have hA := pls_dp (K := K) hys7
      refine ⟨fun σ' G' => σ' = [some (.ref a0), some (.int i), some (.ref p), some v, some w, some (.ref l), some (.str d.shown), y7, y8, y9, y10, y11, none, none] ∧ Same C G' ∧ BagAt G' p, ?_, ?_⟩
      · refine ⟨_, rfl, v, d, C, rfl, sC7, hv7, vd, dd, by omega, fun H8 v8 s8 hv8 => ⟨v8, d, rfl, dp_same newp_same _ _ hv8, w1, w2, by omega, w3, _, rfl, rfl, _, rfl, iteF' (by rw [decide_eq_true rfl]; rfl) ?_⟩⟩
        exact ⟨_, rfl, _, rfl, v, .ref l, d, C, rfl, sC7.trans s8, hv7, hP, vd, by omega, fun H9 s9 => ⟨_, rfl, iteF ⟨rfl, sC7.trans (s8.trans s9), bag_same bag7 (s8.trans s9)⟩⟩⟩
      rintro σ' G ⟨rfl, sG, bagG⟩
      refine ⟨fun σ' G' => ∃ z7, σ' = [some (.ref a0), some (.int i), some (.ref p), some v, some w, some (.ref l), some (.str d.shown), z7, y8, y9, y10, y11, none, none] ∧ Same C G', ?_, ?_⟩
      · have l1 : 1 ≤ ys.length := by
          obtain ⟨r, h1⟩ := plT_head d
          rw [lys, h1]
          simp
        refine ⟨_, rfl, l, ys, rfl, .inl (SqL.of (sG _ _ hl7)), _, _, rfl, _, rfl, ?_, ?_, ?_⟩
        · split <;> omega
        · split <;> omega
        refine for_range (lo := 0) (fun j σ H7 => ∃ z7, σ = [some (.ref a0), some (.int i), some (.ref p), some v, some w, some (.ref l), some (.str d.shown), z7, y8, y9, y10, y11, none, none] ∧ Same C H7 ∧ BagAt H7 p) ⟨_, rfl, sG, bagG⟩ ?_ ?_
        · rintro j σ H8 hj ⟨z7, rfl, s8, bag8⟩
          refine ⟨_, rfl, _, rfl, _, rfl, _, rfl, l, ys, rfl, .inl (SqL.of (s8 _ _ hl7)), p, _, rfl, bag8, by omega, by omega, fun x9 y9' m hm0 hm1 => ?_⟩
          obtain ⟨n, rfl⟩ : ∃ n : Nat, m = n := ⟨m.toNat, by omega⟩
          have hn' : n < ys.length := by omega
          have hx := List.getElem?_eq_getElem hn'
          obtain ⟨dd', hdd, hxd⟩ := DpAll.get hA hx
          obtain ⟨t, ht, rfl⟩ := get_map hdd
          have s9 : Same C (upd H8 p (.lst [.int x9, .int y9'])) := same_fresh nC s8
          have bag9 : BagAt (upd H8 p (.lst [.int x9, .int y9'])) p := ⟨_, _, upd_same⟩
          generalize upd H8 p (.lst [.int x9, .int y9']) = H9 at s9 bag9
          refine ⟨l, ys, _, ys[n], rfl, rfl, SqL.of (s9 _ _ hl7), atI_nat hx, v, ys[n], d, t, C, rfl, s9, hv7, hxd, List.mem_of_getElem? ht, vd, by omega, by omega, fun H10 s10 => ⟨_, rfl, iteF ⟨_, rfl, s9.trans s10, bag_same bag9 s10⟩⟩⟩
        · rintro σ H8 ⟨z7, rfl, s8, bag8⟩
          exact ⟨z7, rfl, s8⟩
      rintro σ' G1 ⟨z7, rfl, sG1⟩
      -- the rows
      refine ⟨_, rfl, l, rfl, ⟨ys, SqL.of (sG1 _ _ hl7)⟩, fun D1 n1 => lc_list (K := K) (a := l) (xs := ys) (fun j H' => LcD K G1 D1 (((plT d).take j).map rowD) H') (lcd_start n1) (fun j H' hj L' => SqL.of (L'.sm _ _ (sG1 _ _ hl7))) ?_ ?_⟩
      · rintro j x H' hx L'
        obtain ⟨dd', hdd, hxd⟩ := DpAll.get hA hx
        obtain ⟨t, ht, rfl⟩ := get_map hdd
        refine ⟨rfl, tyes_in (iteT ?_)⟩
        refine row_read (D := D1) rfl rfl (dp_same (sG1.trans L'.sm) _ _ hv7) (dp_same (sG1.trans (L'.base n1)) _ _ hxd) L'.on vd (by omega) (List.mem_of_getElem? ht) fun G4 y s4 hy => lcd_push' L' n1 s4 hy (take_map1 ht) ?_
        rw [List.length_map, List.length_take]
        omega
      rintro G2 L2
      rw [lys, List.take_length] at L2
      have hR := L2.dp
      have sG2 := L2.sm
      have sC2 : Same C G2 := sG1.trans sG2
      clear L2
      have lE := plT_len e ve
      refine ⟨_, rfl, w, e, C, rfl, sC2, hw7, ve, by omega, fun G3 l3 ys3 s3 nl3 hl3 hys3 => ?_⟩
      have lys3 : ys3.length = (plT e).length := by rw [Pls.len hys3, List.length_map]
      have hA3 := pls_dp (K := K) hys3
      have sC3 := sC2.trans s3
      refine ⟨_, rfl, l3, rfl, ⟨ys3, SqL.of hl3⟩, fun D2 n2 => lc_list (K := K) (a := l3) (xs := ys3) (fun j H' => LcD K G3 D2 (((plT e).take j).map rowD) H') (lcd_start n2) (fun j H' hj L' => SqL.of (L'.sm _ _ hl3)) ?_ ?_⟩
      · rintro j x H' hx L'
        obtain ⟨dd', hdd, hxd⟩ := DpAll.get hA3 hx
        obtain ⟨t, ht, rfl⟩ := get_map hdd
        refine ⟨rfl, tyes_in (iteT ?_)⟩
        refine row_read (D := D2) rfl rfl (dp_same (sC3.trans L'.sm) _ _ hw7) (dp_same (L'.base n2) _ _ hxd) L'.on ve (by omega) (List.mem_of_getElem? ht) fun G4 y s4 hy => lcd_push' L' n2 s4 hy (take_map1 ht) ?_
        rw [List.length_map, List.length_take]
        omega
      rintro G4 L4
      rw [lys3, List.take_length] at L4
      have hR4 := dp_same (s3.trans L4.sm) _ _ hR
      have hS4 := L4.dp
      have sC4 := sC3.trans L4.sm
      clear L4
      have hv4 := dp_same sC4 _ _ hv7
      have hw4 := dp_same sC4 _ _ hw7
      refine ⟨_, rfl, _, rfl, _, _, hR4, hS4, rows_shaped _, rows_shaped _, ?_⟩
      refine ⟨fun σ' G' => σ' = [some (.ref a0), some (.int i), some (.ref p), some v, some w, some (.ref l), some (.str d.shown), z7, some (.ref D1), some (.ref l3), some (.ref D2), some (.bl (PyData.eqv d e)), none, none] ∧ Same G4 G', ?_, ?_⟩
      · refine ⟨_, rfl, _, rfl, ?_⟩
        cases hb : PyData.eqv (.list ((plT d).map rowD)) (.list ((plT e).map rowD)) with
        | false =>
          refine iteF ⟨?_, Same.refl _⟩
          rw [rows_same vd ve hb]
          rfl
        | true =>
          have hmap := rows_eqv _ _ (by simpa only [PyData.eqv] using hb)
          have hlen : (plT d).length = (plT e).length := by simpa using congrArg List.length hmap
          obtain ⟨a5, xs5, e5, hS5, hA5⟩ := dp_items hR4
          cases e5
          have lx5 : xs5.length = (plT d).length := (DpAll.length hA5).trans (List.length_map ..)
          refine iteT ⟨_, rfl, D1, rfl, ⟨xs5, hS5⟩, fun D nD => lc_list (K := K) (a := D1) (xs := xs5) (fun j H' => LcD K G4 D ((((plT d).zip (plT e)).take j).map fun tu => PyData.bool (PyData.eqv tu.1.2.1 tu.2.2.1)) H') (lcd_start nD) (fun j H' hj L' => L'.sm.seq hS5) ?_ ?_⟩
          · rintro j x H' hx L'
            obtain ⟨dd', hdd, hxd⟩ := DpAll.get hA5 hx
            obtain ⟨t, ht, rfl⟩ := get_map hdd
            have jl := (List.getElem?_eq_some_iff.mp ht).1
            have hu2 : (plT e)[j]? = some ((plT e)[j]'(by omega)) := List.getElem?_eq_getElem (by omega)
            generalize (plT e)[j]'(by omega) = u at hu2
            have htu : t.1 = u.1 := by
              have a1 : ((plT d).map (·.1))[j]? = some t.1 := by rw [List.getElem?_map, ht]; rfl
              have a2 : ((plT e).map (·.1))[j]? = some u.1 := by rw [List.getElem?_map, hu2]; rfl
              rw [hmap] at a1
              exact Option.some.inj (a1.symm.trans a2)
            obtain ⟨o1, o2, _, _⟩ := plT_ok d vd t (List.mem_of_getElem? ht)
            obtain ⟨u1, u2, _, _⟩ := plT_ok e ve u (List.mem_of_getElem? hu2)
            obtain ⟨vt, zt, dt⟩ := at_val _ _ _ o1 vd
            obtain ⟨vu, zu, du⟩ := at_val _ _ _ u1 ve
            have tn := (pl_nd vd (by omega) (List.mem_of_getElem? ht)).1
            rw [← htu] at u1
            obtain ⟨rt, rs, rfl, hrt, hrs⟩ := dp_tup hxd
            cases hrs with
            | @cons x0 _ _ _ hx0 _ =>
              have hpl := dp_same L'.sm _ _ hx0
              refine ⟨rfl, v, rfl, .ref rt, rfl, rt, _, _, x0, rfl, rfl, same_sqt L'.sm hrt, atI_nat (j := 0) rfl, v, x0, d, plD t, H', rfl, Same.refl _, dp_same L'.sm _ _ hv4, hpl, vd, by omega, by omega, fun e' he G6 y6 s6 hy6 => ?_, fun z => (fd_at o1 z).elim⟩
              obtain rfl : t.2.1 = e' := Option.some.inj (o1.symm.trans he)
              refine ⟨w, rfl, .ref rt, rfl, rt, _, _, x0, rfl, rfl, same_sqt (L'.sm.trans s6) hrt, atI_nat (j := 0) rfl, w, x0, e, plD t, G6, rfl, Same.refl _, dp_same (L'.sm.trans s6) _ _ hw4, dp_same s6 _ _ hpl, ve, by omega, by omega, fun e' he G7 y7' s7 hy7 => ?_, fun z => (fd_at u1 z).elim⟩
              obtain rfl : u.2.1 = e' := Option.some.inj (u1.symm.trans he)
              refine ⟨t.2.1, u.2.1, dp_same s7 _ _ (dp_same newp_same _ _ hy6), dp_same newp_same _ _ hy7, val_shaped vt (by omega), val_shaped vu (by omega), lcd_push' (d := .bool (PyData.eqv t.2.1 u.2.1)) L' nD (s6.trans s7) (.bl _) (take_map1 (t := (t, u)) (List.getElem?_zip_eq_some.mpr ⟨ht, hu2⟩)) ?_⟩
              rw [List.length_map, List.length_take, List.length_zip]
              omega
          · rintro G8 L8
            rw [List.take_of_length_le (by rw [List.length_zip]; omega)] at L8
            obtain ⟨us8, e8, hA8⟩ := L8.ex
            have hi : us8 = (((plT d).zip (plT e)).map fun tu => PyData.eqv tu.1.2.1 tu.2.2.1).map V.bl := dp_bools _ (by rw [List.map_map]; exact hA8)
            refine ⟨D, _, rfl, SqL.of (by rw [e8, hi]), ?_, L8.sm⟩
            rw [alike_all vd ve]
            rfl
      rintro σ' G5 ⟨rfl, s5⟩
      have hv5 := dp_same s5 _ _ hv4
      refine ⟨_, rfl, _, rfl, _, rfl, d, e, hv5, dp_same s5 _ _ hw4, val_shaped vd (by omega), val_shaped ve (by omega), rfl, _, rfl, iteF' (by rw [decide_eq_true rfl]; rfl) ?_⟩
      exact ⟨_, rfl, v, d, rfl, hv5, w1, w2, by omega, w3, _, rfl, rfl, _, rfl, iteF' (by rw [decide_eq_true rfl]; rfl) ⟨_, _, _, _, _, _, _, _, _, _, _, rfl, sH7.trans (sC4.trans s5)⟩⟩
    · rintro σ H1 ⟨y1, y2, y3, y4, y5, y6, y7, y8, y9, y10, y11, rfl, sm⟩
      exact q H1
end
end TX
namespace TX
open PySem PySem.Spec PyProof.Rows L2
theorem all_mk {P : Program} {w : World} {K : PySem.W.Frag} {h : Heap} {mg : Str → Option Value} {fa TE f0 f1 f2 f3 f4 f5 f6 f7 f8 f9 f10 f11 f12 f13 f14 f15 f16 f17 f18 f19 f20 f21 f22 f23 f24 f25 f26 CN NP fN fP : Addr} (X : K.In h) (G : h.Ns mainGlobals mg) (hfa : mg "law" = some (.ref fa))
    {od0 an0 : Option Addr} {sl0 : Array (Option Value)} {oc0 kV0 dc0 pm0 cd0 ct0 : Value}
    {od1 an1 : Option Addr} {sl1 : Array (Option Value)} {oc1 kV1 dc1 pm1 cd1 ct1 : Value}
    {od2 an2 : Option Addr} {sl2 : Array (Option Value)} {oc2 kV2 dc2 pm2 cd2 ct2 : Value}
    {od3 an3 : Option Addr} {sl3 : Array (Option Value)} {oc3 kV3 dc3 pm3 cd3 ct3 : Value}
    {od4 an4 : Option Addr} {sl4 : Array (Option Value)} {oc4 kV4 dc4 pm4 cd4 ct4 : Value}
    {od5 an5 : Option Addr} {sl5 : Array (Option Value)} {oc5 kV5 dc5 pm5 cd5 ct5 : Value}
    {od6 an6 : Option Addr} {sl6 : Array (Option Value)} {oc6 kV6 dc6 pm6 cd6 ct6 : Value}
    {od7 an7 : Option Addr} {sl7 : Array (Option Value)} {oc7 kV7 dc7 pm7 cd7 ct7 : Value}
    {od8 an8 : Option Addr} {sl8 : Array (Option Value)} {oc8 kV8 dc8 pm8 cd8 ct8 : Value}
    {od9 an9 : Option Addr} {sl9 : Array (Option Value)} {oc9 kV9 dc9 pm9 cd9 ct9 : Value}
    {od10 an10 : Option Addr} {sl10 : Array (Option Value)} {oc10 kV10 dc10 pm10 cd10 ct10 : Value}
    {od11 an11 : Option Addr} {sl11 : Array (Option Value)} {oc11 kV11 dc11 pm11 cd11 ct11 : Value}
    {od12 an12 : Option Addr} {sl12 : Array (Option Value)} {oc12 kV12 dc12 pm12 cd12 ct12 : Value}
    {od13 an13 : Option Addr} {sl13 : Array (Option Value)} {oc13 kV13 dc13 pm13 cd13 ct13 : Value}
    {od14 an14 : Option Addr} {sl14 : Array (Option Value)} {oc14 kV14 dc14 pm14 cd14 ct14 : Value}
    {od15 an15 : Option Addr} {sl15 : Array (Option Value)} {oc15 kV15 dc15 pm15 cd15 ct15 : Value}
    {od16 an16 : Option Addr} {sl16 : Array (Option Value)} {oc16 kV16 dc16 pm16 cd16 ct16 : Value}
    {od17 an17 : Option Addr} {sl17 : Array (Option Value)} {oc17 kV17 dc17 pm17 cd17 ct17 : Value}
    {od18 an18 : Option Addr} {sl18 : Array (Option Value)} {oc18 kV18 dc18 pm18 cd18 ct18 : Value}
    {od19 an19 : Option Addr} {sl19 : Array (Option Value)} {oc19 kV19 dc19 pm19 cd19 ct19 : Value}
    {od20 an20 : Option Addr} {sl20 : Array (Option Value)} {oc20 kV20 dc20 pm20 cd20 ct20 : Value}
    {od21 an21 : Option Addr} {sl21 : Array (Option Value)} {oc21 kV21 dc21 pm21 cd21 ct21 : Value}
    {od22 an22 : Option Addr} {sl22 : Array (Option Value)} {oc22 kV22 dc22 pm22 cd22 ct22 : Value}
    {od23 an23 : Option Addr} {sl23 : Array (Option Value)} {oc23 kV23 dc23 pm23 cd23 ct23 : Value}
    {od24 an24 : Option Addr} {sl24 : Array (Option Value)} {oc24 kV24 dc24 pm24 cd24 ct24 : Value}
    {od25 an25 : Option Addr} {sl25 : Array (Option Value)} {oc25 kV25 dc25 pm25 cd25 ct25 : Value}
    {od26 an26 : Option Addr} {sl26 : Array (Option Value)} {oc26 kV26 dc26 pm26 cd26 ct26 : Value}
    {tA : Tok}
    {nmT qT : Str} {NT' : Addr} {bsT mrT : List Value} {hdT : Bool} {snT : List Str} {subT : List Value} {abT : Bool} {colT : Option Bool} {ddT : Option Addr} {m0T m1T m2T m3T m5T : Option Value}
    {nmCN qCN : Str} {NCN : Addr} {bsCN : List Value} {snCN : List Str} {subCN : List Value} {abCN : Bool} {colCN : Option Bool} {ddCN : Option Addr} {m0CN m1CN m2CN m3CN m5CN : Option Value}
    {nmNP qNP : Str} {NNP : Addr} {bsNP : List Value} {snNP : List Str} {subNP : List Value} {abNP : Bool} {colNP : Option Bool} {ddNP : Option Addr} {m0NP m1NP m2NP m3NP m5NP : Option Value}
    {odN anN : Option Addr} {slN : Array (Option Value)} {ocN kVN dcN pmN cdN ctN : Value}
    {odP anP : Option Addr} {slP : Array (Option Value)} {ocP kVP dcP pmP cdP ctP : Value}
    (a0 : PySem.W.nsIn K mainGlobals "all_parts" = some (some (.ref f0)))
    (l0 : K.lookup f0 = some ⟨oc0, od0, .func (PySem.W.fnOf "all_parts" "all_parts" (defArgs sParts) (defBody sParts) (defScope sParts) .none kV0 dc0 pm0 an0 cd0 ct0), sl0⟩)
    (c0 : PySem.W.codeIn K cd0 "all_parts" = true)
    (k0 : PySem.W.keepIn K (.ref f0) = true)
    (a1 : PySem.W.nsIn K mainGlobals "copy_of" = some (some (.ref f1)))
    (l1 : K.lookup f1 = some ⟨oc1, od1, .func (PySem.W.fnOf "copy_of" "copy_of" (defArgs sCopy) (defBody sCopy) (defScope sCopy) .none kV1 dc1 pm1 an1 cd1 ct1), sl1⟩)
    (c1 : PySem.W.codeIn K cd1 "copy_of" = true)
    (k1 : PySem.W.keepIn K (.ref f1) = true)
    (a2 : PySem.W.nsIn K mainGlobals "is_whole_number" = some (some (.ref f2)))
    (l2 : K.lookup f2 = some ⟨oc2, od2, .func (PySem.W.fnOf "is_whole_number" "is_whole_number" (defArgs s_is_whole_number) (defBody s_is_whole_number) (defScope s_is_whole_number) .none kV2 dc2 pm2 an2 cd2 ct2), sl2⟩)
    (c2 : PySem.W.codeIn K cd2 "is_whole_number" = true)
    (k2 : PySem.W.keepIn K (.ref f2) = true)
    (a3 : PySem.W.nsIn K mainGlobals "is_text" = some (some (.ref f3)))
    (l3 : K.lookup f3 = some ⟨oc3, od3, .func (PySem.W.fnOf "is_text" "is_text" (defArgs s_is_text) (defBody s_is_text) (defScope s_is_text) .none kV3 dc3 pm3 an3 cd3 ct3), sl3⟩)
    (c3 : PySem.W.codeIn K cd3 "is_text" = true)
    (k3 : PySem.W.keepIn K (.ref f3) = true)
    (a4 : PySem.W.nsIn K mainGlobals "place_of_last" = some (some (.ref f4)))
    (l4 : K.lookup f4 = some ⟨oc4, od4, .func (PySem.W.fnOf "place_of_last" "place_of_last" (defArgs s_place_of_last) (defBody s_place_of_last) (defScope s_place_of_last) .none kV4 dc4 pm4 an4 cd4 ct4), sl4⟩)
    (c4 : PySem.W.codeIn K cd4 "place_of_last" = true)
    (k4 : PySem.W.keepIn K (.ref f4) = true)
    (a5 : PySem.W.nsIn K mainGlobals "first_fault" = some (some (.ref f5)))
    (l5 : K.lookup f5 = some ⟨oc5, od5, .func (PySem.W.fnOf "first_fault" "first_fault" (defArgs s_first_fault) (defBody s_first_fault) (defScope s_first_fault) .none kV5 dc5 pm5 an5 cd5 ct5), sl5⟩)
    (c5 : PySem.W.codeIn K cd5 "first_fault" = true)
    (k5 : PySem.W.keepIn K (.ref f5) = true)
    (a6 : PySem.W.nsIn K mainGlobals "is_value" = some (some (.ref f6)))
    (l6 : K.lookup f6 = some ⟨oc6, od6, .func (PySem.W.fnOf "is_value" "is_value" (defArgs s_is_value) (defBody s_is_value) (defScope s_is_value) .none kV6 dc6 pm6 an6 cd6 ct6), sl6⟩)
    (c6 : PySem.W.codeIn K cd6 "is_value" = true)
    (k6 : PySem.W.keepIn K (.ref f6) = true)
    (a7 : PySem.W.nsIn K mainGlobals "kind_of" = some (some (.ref f7)))
    (l7 : K.lookup f7 = some ⟨oc7, od7, .func (PySem.W.fnOf "kind_of" "kind_of" (defArgs sKindOf) (defBody sKindOf) (defScope sKindOf) .none kV7 dc7 pm7 an7 cd7 ct7), sl7⟩)
    (c7 : PySem.W.codeIn K cd7 "kind_of" = true)
    (k7 : PySem.W.keepIn K (.ref f7) = true)
    (a8 : PySem.W.nsIn K mainGlobals "size_of" = some (some (.ref f8)))
    (l8 : K.lookup f8 = some ⟨oc8, od8, .func (PySem.W.fnOf "size_of" "size_of" (defArgs sSizeOf) (defBody sSizeOf) (defScope sSizeOf) .none kV8 dc8 pm8 an8 cd8 ct8), sl8⟩)
    (c8 : PySem.W.codeIn K cd8 "size_of" = true)
    (k8 : PySem.W.keepIn K (.ref f8) = true)
    (a9 : PySem.W.nsIn K mainGlobals "lists_among" = some (some (.ref f9)))
    (l9 : K.lookup f9 = some ⟨oc9, od9, .func (PySem.W.fnOf "lists_among" "lists_among" (defArgs sAmong) (defBody sAmong) (defScope sAmong) .none kV9 dc9 pm9 an9 cd9 ct9), sl9⟩)
    (c9 : PySem.W.codeIn K cd9 "lists_among" = true)
    (k9 : PySem.W.keepIn K (.ref f9) = true)
    (a10 : PySem.W.nsIn K mainGlobals "depth_of" = some (some (.ref f10)))
    (l10 : K.lookup f10 = some ⟨oc10, od10, .func (PySem.W.fnOf "depth_of" "depth_of" (defArgs sDepthOf) (defBody sDepthOf) (defScope sDepthOf) .none kV10 dc10 pm10 an10 cd10 ct10), sl10⟩)
    (c10 : PySem.W.codeIn K cd10 "depth_of" = true)
    (k10 : PySem.W.keepIn K (.ref f10) = true)
    (a11 : PySem.W.nsIn K mainGlobals "items_of" = some (some (.ref f11)))
    (l11 : K.lookup f11 = some ⟨oc11, od11, .func (PySem.W.fnOf "items_of" "items_of" (defArgs sItemsOf) (defBody sItemsOf) (defScope sItemsOf) .none kV11 dc11 pm11 an11 cd11 ct11), sl11⟩)
    (c11 : PySem.W.codeIn K cd11 "items_of" = true)
    (k11 : PySem.W.keepIn K (.ref f11) = true)
    (a12 : PySem.W.nsIn K mainGlobals "inner_of" = some (some (.ref f12)))
    (l12 : K.lookup f12 = some ⟨oc12, od12, .func (PySem.W.fnOf "inner_of" "inner_of" (defArgs s_inner_of) (defBody s_inner_of) (defScope s_inner_of) .none kV12 dc12 pm12 an12 cd12 ct12), sl12⟩)
    (c12 : PySem.W.codeIn K cd12 "inner_of" = true)
    (k12 : PySem.W.keepIn K (.ref f12) = true)
    (a13 : PySem.W.nsIn K mainGlobals "places_of" = some (some (.ref f13)))
    (l13 : K.lookup f13 = some ⟨oc13, od13, .func (PySem.W.fnOf "places_of" "places_of" (defArgs s_places_of) (defBody s_places_of) (defScope s_places_of) .none kV13 dc13 pm13 an13 cd13 ct13), sl13⟩)
    (c13 : PySem.W.codeIn K cd13 "places_of" = true)
    (k13 : PySem.W.keepIn K (.ref f13) = true)
    (a14 : PySem.W.nsIn K mainGlobals "found_at" = some (some (.ref f14)))
    (l14 : K.lookup f14 = some ⟨oc14, od14, .func (PySem.W.fnOf "found_at" "found_at" (defArgs s_found_at) (defBody s_found_at) (defScope s_found_at) .none kV14 dc14 pm14 an14 cd14 ct14), sl14⟩)
    (c14 : PySem.W.codeIn K cd14 "found_at" = true)
    (k14 : PySem.W.keepIn K (.ref f14) = true)
    (a15 : PySem.W.nsIn K mainGlobals "part_of" = some (some (.ref f15)))
    (l15 : K.lookup f15 = some ⟨oc15, od15, .func (PySem.W.fnOf "part_of" "part_of" (defArgs s_part_of) (defBody s_part_of) (defScope s_part_of) .none kV15 dc15 pm15 an15 cd15 ct15), sl15⟩)
    (c15 : PySem.W.codeIn K cd15 "part_of" = true)
    (k15 : PySem.W.keepIn K (.ref f15) = true)
    (a16 : PySem.W.nsIn K mainGlobals "is_torn" = some (some (.ref f16)))
    (l16 : K.lookup f16 = some ⟨oc16, od16, .func (PySem.W.fnOf "is_torn" "is_torn" (defArgs s_is_torn) (defBody s_is_torn) (defScope s_is_torn) .none kV16 dc16 pm16 an16 cd16 ct16), sl16⟩)
    (c16 : PySem.W.codeIn K cd16 "is_torn" = true)
    (k16 : PySem.W.keepIn K (.ref f16) = true)
    (a17 : PySem.W.nsIn K mainGlobals "_law_bag" = some (some (.ref f17)))
    (l17 : K.lookup f17 = some ⟨oc17, od17, .func (PySem.W.fnOf "_law_bag" "_law_bag" (defArgs sBag) (defBody sBag) (defScope sBag) .none kV17 dc17 pm17 an17 cd17 ct17), sl17⟩)
    (c17 : PySem.W.codeIn K cd17 "_law_bag" = true)
    (k17 : PySem.W.keepIn K (.ref f17) = true)
    (a18 : PySem.W.nsIn K mainGlobals "_law_take" = some (some (.ref f18)))
    (l18 : K.lookup f18 = some ⟨oc18, od18, .func (PySem.W.fnOf "_law_take" "_law_take" (defArgs sTake) (defBody sTake) (defScope sTake) .none kV18 dc18 pm18 an18 cd18 ct18), sl18⟩)
    (c18 : PySem.W.codeIn K cd18 "_law_take" = true)
    (k18 : PySem.W.keepIn K (.ref f18) = true)
    (a19 : PySem.W.nsIn K mainGlobals "_law_text" = some (some (.ref f19)))
    (l19 : K.lookup f19 = some ⟨oc19, od19, .func (PySem.W.fnOf "_law_text" "_law_text" (defArgs sText) (defBody sText) (defScope sText) .none kV19 dc19 pm19 an19 cd19 ct19), sl19⟩)
    (c19 : PySem.W.codeIn K cd19 "_law_text" = true)
    (k19 : PySem.W.keepIn K (.ref f19) = true)
    (a20 : PySem.W.nsIn K mainGlobals "_law_size" = some (some (.ref f20)))
    (l20 : K.lookup f20 = some ⟨oc20, od20, .func (PySem.W.fnOf "_law_size" "_law_size" (defArgs sSize) (defBody sSize) (defScope sSize) .none kV20 dc20 pm20 an20 cd20 ct20), sl20⟩)
    (c20 : PySem.W.codeIn K cd20 "_law_size" = true)
    (k20 : PySem.W.keepIn K (.ref f20) = true)
    (a21 : PySem.W.nsIn K mainGlobals "_law_value" = some (some (.ref f21)))
    (l21 : K.lookup f21 = some ⟨oc21, od21, .func (PySem.W.fnOf "_law_value" "_law_value" (defArgs sValue) (defBody sValue) (defScope sValue) .none kV21 dc21 pm21 an21 cd21 ct21), sl21⟩)
    (c21 : PySem.W.codeIn K cd21 "_law_value" = true)
    (k21 : PySem.W.keepIn K (.ref f21) = true)
    (a22 : PySem.W.nsIn K mainGlobals "_law_great" = some (some (.ref f22)))
    (l22 : K.lookup f22 = some ⟨oc22, od22, .func (PySem.W.fnOf "_law_great" "_law_great" (defArgs sGreat) (defBody sGreat) (defScope sGreat) .none kV22 dc22 pm22 an22 cd22 ct22), sl22⟩)
    (c22 : PySem.W.codeIn K cd22 "_law_great" = true)
    (k22 : PySem.W.keepIn K (.ref f22) = true)
    (a23 : PySem.W.nsIn K mainGlobals "_law_again" = some (some (.ref f23)))
    (l23 : K.lookup f23 = some ⟨oc23, od23, .func (PySem.W.fnOf "_law_again" "_law_again" (defArgs s__law_again) (defBody s__law_again) (defScope s__law_again) .none kV23 dc23 pm23 an23 cd23 ct23), sl23⟩)
    (c23 : PySem.W.codeIn K cd23 "_law_again" = true)
    (k23 : PySem.W.keepIn K (.ref f23) = true)
    (a24 : PySem.W.nsIn K mainGlobals "_law_is_counted" = some (some (.ref f24)))
    (l24 : K.lookup f24 = some ⟨oc24, od24, .func (PySem.W.fnOf "_law_is_counted" "_law_is_counted" (defArgs s__law_is_counted) (defBody s__law_is_counted) (defScope s__law_is_counted) .none kV24 dc24 pm24 an24 cd24 ct24), sl24⟩)
    (c24 : PySem.W.codeIn K cd24 "_law_is_counted" = true)
    (k24 : PySem.W.keepIn K (.ref f24) = true)
    (a25 : PySem.W.nsIn K mainGlobals "_law_is_built" = some (some (.ref f25)))
    (l25 : K.lookup f25 = some ⟨oc25, od25, .func (PySem.W.fnOf "_law_is_built" "_law_is_built" (defArgs s__law_is_built) (defBody s__law_is_built) (defScope s__law_is_built) .none kV25 dc25 pm25 an25 cd25 ct25), sl25⟩)
    (c25 : PySem.W.codeIn K cd25 "_law_is_built" = true)
    (k25 : PySem.W.keepIn K (.ref f25) = true)
    (a26 : PySem.W.nsIn K mainGlobals "law" = some (some (.ref f26)))
    (l26 : K.lookup f26 = some ⟨oc26, od26, .func (PySem.W.fnOf "law" "law" (defArgs sLaw) (defBody sLaw) (defScope sLaw) .none kV26 dc26 pm26 an26 cd26 ct26), sl26⟩)
    (c26 : PySem.W.codeIn K cd26 "law" = true)
    (k26 : PySem.W.keepIn K (.ref f26) = true)
    (aTE : PySem.W.nsIn K mainGlobals "TextorlistError" = some (some (.ref TE)))
    (lTE : K.lookup TE = some (excClassObj nmT qT TE NT' bsT mrT hdT snT subT abT colT ddT m0T m1T m2T m3T m5T "ValueError.__new__"))
    (tTE : PySem.W.typeIn K (.ref TE) = some (.type "type"))
    (hn : PySem.W.specialIn K (.builtin "object.__class__") "__get__" = some (some (.builtin "getset_descriptor.__get__")))
    (ht : PySem.W.takesIn K (.builtin "object.__class__") = some true)
    (aCCN : PySem.W.nsIn K mainGlobals "NoItems" = some (some (.ref CN)))
    (xCN : K.lookup CN = some (excClassObj nmCN qCN CN NCN bsCN [.ref TE, .type "ValueError", .type "Exception", .type "BaseException", .type "object"] true snCN subCN abCN colCN ddCN m0CN m1CN m2CN m3CN m5CN "ValueError.__new__"))
    (saCN : PySem.W.findIn K (.ref CN) "__setattr__" = some (some (.builtin "object.__setattr__")))
    (gaCN : PySem.W.findIn K (.ref CN) "__getattribute__" = some (some (.builtin "BaseException.__getattribute__")))
    (ggCN : PySem.W.findIn K (.ref CN) "__getattr__" = some none)
    (haCN : PySem.W.findIn K (.ref CN) "__class__" = some (some (.builtin "object.__class__")))
    (kcCN : PySem.W.keepIn K (.ref CN) = true)
    (aCNP : PySem.W.nsIn K mainGlobals "NoPlace" = some (some (.ref NP)))
    (xNP : K.lookup NP = some (excClassObj nmNP qNP NP NNP bsNP [.ref TE, .type "ValueError", .type "Exception", .type "BaseException", .type "object"] true snNP subNP abNP colNP ddNP m0NP m1NP m2NP m3NP m5NP "ValueError.__new__"))
    (saNP : PySem.W.findIn K (.ref NP) "__setattr__" = some (some (.builtin "object.__setattr__")))
    (gaNP : PySem.W.findIn K (.ref NP) "__getattribute__" = some (some (.builtin "BaseException.__getattribute__")))
    (ggNP : PySem.W.findIn K (.ref NP) "__getattr__" = some none)
    (haNP : PySem.W.findIn K (.ref NP) "__class__" = some (some (.builtin "object.__class__")))
    (kcNP : PySem.W.keepIn K (.ref NP) = true)
    (aN : PySem.W.findIn K (.ref CN) "__init__" = some (some (.ref fN)))
    (lN : K.lookup fN = some ⟨ocN, odN, .func (PySem.W.fnOf "__init__" "NoItems.__init__" (defArgs mNoItems_init) (defBody mNoItems_init) (defScope mNoItems_init) .none kVN dcN pmN anN cdN ctN), slN⟩)
    (cN : PySem.W.codeIn K cdN "NoItems.__init__" = true)
    (kN : PySem.W.keepIn K (.ref fN) = true)
    (tN : PySem.W.typeIn K (.ref fN) = some (.type "function"))
    (aP : PySem.W.findIn K (.ref NP) "__init__" = some (some (.ref fP)))
    (lP : K.lookup fP = some ⟨ocP, odP, .func (PySem.W.fnOf "__init__" "NoPlace.__init__" (defArgs mNoPlace_init) (defBody mNoPlace_init) (defScope mNoPlace_init) .none kVP dcP pmP anP cdP ctP), slP⟩)
    (cP : PySem.W.codeIn K cdP "NoPlace.__init__" = true)
    (kP : PySem.W.keepIn K (.ref fP) = true)
    (nP : PySem.W.findIn K (.ref NP) "place" = some none)
    (tP : PySem.W.typeIn K (.ref fP) = some (.type "function"))
    (aAl : PySem.W.nsIn K mainGlobals "ALPHABET" = some (some (.str "abcdefghijklmnopqrstuvwxyz" tA)))
    (zisinstance : PySem.W.nsIn K mainGlobals "isinstance" = some none)
    (zlist : PySem.W.nsIn K mainGlobals "list" = some none)
    (ztuple : PySem.W.nsIn K mainGlobals "tuple" = some none)
    (zlen : PySem.W.nsIn K mainGlobals "len" = some none)
    (zabs : PySem.W.nsIn K mainGlobals "abs" = some none)
    (zenumerate : PySem.W.nsIn K mainGlobals "enumerate" = some none)
    (zint : PySem.W.nsIn K mainGlobals "int" = some none)
    (zrange : PySem.W.nsIn K mainGlobals "range" = some none)
    (zsum : PySem.W.nsIn K mainGlobals "sum" = some none)
    (zmin : PySem.W.nsIn K mainGlobals "min" = some none)
    (zmax : PySem.W.nsIn K mainGlobals "max" = some none)
    (zrepr : PySem.W.nsIn K mainGlobals "repr" = some none)
    (zstr : PySem.W.nsIn K mainGlobals "str" = some none)
    (zbool : PySem.W.nsIn K mainGlobals "bool" = some none)
    (zall : PySem.W.nsIn K mainGlobals "all" = some none) :
    ∃ fd : FuncData, (∀ (s : Shared) (v : Value), BindsTo s fd ⟨[v], []⟩ [("_law_script", v)]) ∧ ∀ base : Heap, K.In base → base.Ns mainGlobals mg → FnG P w K mg base CX0 18 fa fd ["_law_script"] (spLaw K) := by
  have e := hfa.symm.trans (PySem.W.mg_of X G a26)
  cases e
  have F0 := fun_mk (st := sParts) l0 c0 k0
  have F1 := fun_mk (st := sCopy) l1 c1 k1
  have F2 := fun_mk (st := s_is_whole_number) l2 c2 k2
  have F3 := fun_mk (st := s_is_text) l3 c3 k3
  have F4 := fun_mk (st := s_place_of_last) l4 c4 k4
  have F5 := fun_mk (st := s_first_fault) l5 c5 k5
  have F6 := fun_mk (st := s_is_value) l6 c6 k6
  have F7 := fun_mk (st := sKindOf) l7 c7 k7
  have F8 := fun_mk (st := sSizeOf) l8 c8 k8
  have F9 := fun_mk (st := sAmong) l9 c9 k9
  have F10 := fun_mk (st := sDepthOf) l10 c10 k10
  have F11 := fun_mk (st := sItemsOf) l11 c11 k11
  have F12 := fun_mk (st := s_inner_of) l12 c12 k12
  have F13 := fun_mk (st := s_places_of) l13 c13 k13
  have F14 := fun_mk (st := s_found_at) l14 c14 k14
  have F15 := fun_mk (st := s_part_of) l15 c15 k15
  have F16 := fun_mk (st := s_is_torn) l16 c16 k16
  have F17 := fun_mk (st := sBag) l17 c17 k17
  have F18 := fun_mk (st := sTake) l18 c18 k18
  have F19 := fun_mk (st := sText) l19 c19 k19
  have F20 := fun_mk (st := sSize) l20 c20 k20
  have F21 := fun_mk (st := sValue) l21 c21 k21
  have F22 := fun_mk (st := sGreat) l22 c22 k22
  have F23 := fun_mk (st := s__law_again) l23 c23 k23
  have F24 := fun_mk (st := s__law_is_counted) l24 c24 k24
  have F25 := fun_mk (st := s__law_is_built) l25 c25 k25
  have F26 := fun_mk (st := sLaw) l26 c26 k26
  have b0 := F0.binds (ps := ["thing"]) fun _ _ _ _ _ _ us hl => match us, hl with | [_], _ => rfl
  have g0 := PySem.W.mg_of X G a0
  have b1 := F1.binds (ps := ["thing"]) fun _ _ _ _ _ _ us hl => match us, hl with | [_], _ => rfl
  have g1 := PySem.W.mg_of X G a1
  have b2 := F2.binds (ps := ["thing"]) fun _ _ _ _ _ _ us hl => match us, hl with | [_], _ => rfl
  have g2 := PySem.W.mg_of X G a2
  have b3 := F3.binds (ps := ["thing"]) fun _ _ _ _ _ _ us hl => match us, hl with | [_], _ => rfl
  have g3 := PySem.W.mg_of X G a3
  have b4 := F4.binds (ps := ["steps"]) fun _ _ _ _ _ _ us hl => match us, hl with | [_], _ => rfl
  have g4 := PySem.W.mg_of X G a4
  have b5 := F5.binds (ps := ["thing"]) fun _ _ _ _ _ _ us hl => match us, hl with | [_], _ => rfl
  have g5 := PySem.W.mg_of X G a5
  have b6 := F6.binds (ps := ["thing"]) fun _ _ _ _ _ _ us hl => match us, hl with | [_], _ => rfl
  have g6 := PySem.W.mg_of X G a6
  have b7 := F7.binds (ps := ["value"]) fun _ _ _ _ _ _ us hl => match us, hl with | [_], _ => rfl
  have g7 := PySem.W.mg_of X G a7
  have b8 := F8.binds (ps := ["value"]) fun _ _ _ _ _ _ us hl => match us, hl with | [_], _ => rfl
  have g8 := PySem.W.mg_of X G a8
  have b9 := F9.binds (ps := ["values"]) fun _ _ _ _ _ _ us hl => match us, hl with | [_], _ => rfl
  have g9 := PySem.W.mg_of X G a9
  have b10 := F10.binds (ps := ["value"]) fun _ _ _ _ _ _ us hl => match us, hl with | [_], _ => rfl
  have g10 := PySem.W.mg_of X G a10
  have b11 := F11.binds (ps := ["value"]) fun _ _ _ _ _ _ us hl => match us, hl with | [_], _ => rfl
  have g11 := PySem.W.mg_of X G a11
  have b12 := F12.binds (ps := ["part"]) fun _ _ _ _ _ _ us hl => match us, hl with | [_], _ => rfl
  have g12 := PySem.W.mg_of X G a12
  have b13 := F13.binds (ps := ["value"]) fun _ _ _ _ _ _ us hl => match us, hl with | [_], _ => rfl
  have g13 := PySem.W.mg_of X G a13
  have b14 := F14.binds (ps := ["value", "place"]) fun _ _ _ _ _ _ us hl => match us, hl with | [_, _], _ => rfl
  have g14 := PySem.W.mg_of X G a14
  have b15 := F15.binds (ps := ["value", "place"]) fun _ _ _ _ _ _ us hl => match us, hl with | [_, _], _ => rfl
  have g15 := PySem.W.mg_of X G a15
  have b16 := F16.binds (ps := ["value", "place"]) fun _ _ _ _ _ _ us hl => match us, hl with | [_, _], _ => rfl
  have g16 := PySem.W.mg_of X G a16
  have b17 := F17.binds (ps := ["_law_script", "_law_at"]) fun _ _ _ _ _ _ us hl => match us, hl with | [_, _], _ => rfl
  have g17 := PySem.W.mg_of X G a17
  have b18 := F18.binds (ps := ["_law_bag_here", "_law_many"]) fun _ _ _ _ _ _ us hl => match us, hl with | [_, _], _ => rfl
  have g18 := PySem.W.mg_of X G a18
  have b19 := F19.binds (ps := ["_law_bag_here", "_law_most"]) fun _ _ _ _ _ _ us hl => match us, hl with | [_, _], _ => rfl
  have g19 := PySem.W.mg_of X G a19
  have b20 := F20.binds (ps := ["_law_value_here"]) fun _ _ _ _ _ _ us hl => match us, hl with | [_], _ => rfl
  have g20 := PySem.W.mg_of X G a20
  have b21 := F21.binds (ps := ["_law_bag_here", "_law_deep", "_law_room"]) fun _ _ _ _ _ _ us hl => match us, hl with | [_, _, _], _ => rfl
  have g21 := PySem.W.mg_of X G a21
  have b22 := F22.binds (ps := ["_law_bag_here"]) fun _ _ _ _ _ _ us hl => match us, hl with | [_], _ => rfl
  have g22 := PySem.W.mg_of X G a22
  have b23 := F23.binds (ps := ["_law_value_here"]) fun _ _ _ _ _ _ us hl => match us, hl with | [_], _ => rfl
  have g23 := PySem.W.mg_of X G a23
  have b24 := F24.binds (ps := ["_law_value_here", "_law_places"]) fun _ _ _ _ _ _ us hl => match us, hl with | [_, _], _ => rfl
  have g24 := PySem.W.mg_of X G a24
  have b25 := F25.binds (ps := ["_law_value_here", "_law_place"]) fun _ _ _ _ _ _ us hl => match us, hl with | [_, _], _ => rfl
  have g25 := PySem.W.mg_of X G a25
  have EN := fun_mk (st := mNoItems_init) lN cN kN
  have bN := EN.binds (ps := ["self"]) fun _ _ _ _ _ _ us hl => match us, hl with | [_], _ => rfl
  have EP := fun_mk (st := mNoPlace_init) lP cP kP
  have bP := EP.binds (ps := ["self", "place"]) fun _ _ _ _ _ _ us hl => match us, hl with | [_, _], _ => rfl
  have hTp : ∀ x : Str, PySem.W.nsIn K mainGlobals x = some none → mg x = none := fun x z => PySem.W.mg_none_of X G z
  have cCN := cl_of (TE := TE) (PySem.W.mg_of X G aCCN) xCN saCN gaCN ggCN haCN hn ht kcCN
  have cNP := cl_of (TE := TE) (PySem.W.mg_of X G aCNP) xNP saNP gaNP ggNP haNP hn ht kcNP
  refine ⟨PySem.W.fnOf "law" "law" (defArgs sLaw) (defBody sLaw) (defScope sLaw) .none kV26 dc26 pm26 an26 cd26 ct26, fun s v => .of_eq rfl, fun base _ _ => ?_⟩
  have NM : Nm mg := ⟨hTp _ zisinstance, hTp _ zlist, hTp _ ztuple⟩
  have NB : Nb mg := ⟨hTp _ zlen, hTp _ zabs, hTp _ zenumerate, hTp _ zint⟩
  have NK : Nk mg := ⟨hTp _ zstr, hTp _ zbool⟩
  have NV : Nv mg := ⟨hTp _ zrange, hTp _ zsum, hTp _ zmin⟩
  have GPa : FnOk P w K mg base CX0 1 f0 _ ["thing"] (spParts K) := ok_parts F0 NM
  have GC : FnOk P w K mg base CX0 2 f1 _ ["thing"] (spCopy K) := ok_copy (k := 0) F1 NM F0 b0 g0
  have GCT : FnOk P w K mg base CX0 2 f1 _ ["thing"] (spCopyT K) := ok_copyT (k := 0) F1 NM F0 b0 g0
  have GW := ok_whole (P := P) (w := w) (base := base) F2 NM NK NB
  have GIT : FnOk P w K mg base CX0 1 f3 _ ["thing"] (spIsText K) := ok_isText F3 NM NK (PySem.W.mg_of X G aAl)
  have GLa : FnOk P w K mg base CX0 1 f4 _ ["steps"] (spLast K) := ok_last F4 NM NB
  have GF : FnOk P w K mg base CX0 2 f5 _ ["thing"] (spFault K) := ok_fault F5 NM NB NV GIT g3 k3 b3 GLa g4 k4 b4
  have GV := ok_isV F6 GF g5 k5 b5
  have GKi := ok_kindOf (P := P) (w := w) (base := base) F7 NM NK
  have GSz := ok_sizeOf F8 NM NK NV NB GPa g0 k0 b0
  have GAm := ok_among (P := P) (w := w) (base := base) F9 NM
  have GDe := ok_depthOf F10 GAm g9 k9 b9
  have GIn := ok_in (P := P) (w := w) (mg := mg) (base := base) EN
  have GIt := ok_itemsOf F11 NM cCN aN tN GIn bN GCT g1 k1 b1
  have GNn := ok_inner (P := P) (w := w) (base := base) F12 NM NK NB
  have GPl := ok_placesOf F13 NM NB NV GNn g12 k12 b12
  have GNp := ok_inNp (mg := mg) (C := NP) EP GC g1 k1 b1
  have GFo := ok_found F14 NM NB cNP aP tP nP GNp bP GW g2 k2 b2 GNn g12 k12 b12
  have GPt := ok_part F15 GC g1 k1 b1 GFo g14 k14 b14
  have GTo := ok_torn F16 NM NK GFo g14 k14 b14
  have GB : FnOk P w K mg base CX0 1 f17 _ ["_law_script", "_law_at"] (spBag K) := ok_bag (k := 0) F17 NB
  have GT : FnOk P w K mg base CX0 1 f18 _ ["_law_bag_here", "_law_many"] spTake := ok_take (k := 0) F18 NB
  have GX : FnOk P w K mg base CX0 2 f19 _ ["_law_bag_here", "_law_most"] spText := ok_text F19 NB NV F18 b18 g18
  have C1 : Vc P w K mg base f18 f19 f20 (PySem.W.fnOf "_law_take" "_law_take" (defArgs sTake) (defBody sTake) (defScope sTake) .none kV18 dc18 pm18 an18 cd18 ct18) (PySem.W.fnOf "_law_text" "_law_text" (defArgs sText) (defBody sText) (defScope sText) .none kV19 dc19 pm19 an19 cd19 ct19) (PySem.W.fnOf "_law_size" "_law_size" (defArgs sSize) (defBody sSize) (defScope sSize) .none kV20 dc20 pm20 an20 cd20 ct20) := ⟨GT, b18, g18, k18, GX, b19, g19, k19, fun N => ok_size F20 NM NB NV b20 g20 N, b20, g20, k20⟩
  have GVa := ok_values F21 b21 g21 NV C1
  have GG := ok_great F22 NV C1 (GVa 4) g21 k21 b21
  have GAg := ok_again F23 b23 g23 GKi g7 k7 b7 GIt g11 k11 b11
  have AK := (⟨GPt, g15, k15, b15, GTo, g16, k16, b16, GKi, g7, k7, b7, GSz, g8, k8, b8, GDe, g10, k10, b10⟩ : Ask P w K mg base NP f15 f16 f7 f8 f10 _ _ _ _ _)
  have GCo := ok_counted F24 NB (hTp _ zmax) AK
  have GBu := ok_built F25 AK GV g6 k6 b6 GIt g11 k11 b11 GPl g13 k13 b13
  exact ok_law F26 ⟨hTp _ zmax, hTp _ zrepr, hTp _ zall⟩ NB NV ⟨AK, GB, GT, GG, GVa 5, GAg 13, GPl, GCo, GBu, b17, b18, b22, b21, b23, b13, b24, b25, g17, g18, g22, g21, g23, g13, g24, g25, k17, k18, k22, k21, k23, k13, k24, k25⟩
end TX
open PySem PySem.W PyProof.Rows
set_option maxRecDepth 100000 in
set_option maxHeartbeats 0 in
theorem PySem.Challenge.cw_textorlist_k05_whole_values_by_their_pla_holds : PySem.Challenge.rw_textorlist_k05_whole_values_by_their_pla.Holds := by
  w_on; o_law; k_head; (case hw => w_witness2)
  k_fill
  refine TX.walkG (l := PySem.Challenge.rw_textorlist_k05_whole_values_by_their_pla) (n := 63) (k := 18) (x := "_law_script") (sp := fun w => TX.spLaw _) rfl (by decide) rfl ⟨rfl, by decide, by decide⟩ (fun w h Y => PySem.W.kIn_of Y) ?F (fun _ _ a ns hl _ hS => ⟨a, ns, rfl, hS, hl, fun _ => rfl⟩)
  case F =>
    intro w mg fa h KX G hmg
    refine' TX.all_mk KX G hmg ?a0 ?l0 ?c0 ?k0 ?a1 ?l1 ?c1 ?k1 ?a2 ?l2 ?c2 ?k2 ?a3 ?l3 ?c3 ?k3 ?a4 ?l4 ?c4 ?k4 ?a5 ?l5 ?c5 ?k5 ?a6 ?l6 ?c6 ?k6 ?a7 ?l7 ?c7 ?k7 ?a8 ?l8 ?c8 ?k8 ?a9 ?l9 ?c9 ?k9 ?a10 ?l10 ?c10 ?k10 ?a11 ?l11 ?c11 ?k11 ?a12 ?l12 ?c12 ?k12 ?a13 ?l13 ?c13 ?k13 ?a14 ?l14 ?c14 ?k14 ?a15 ?l15 ?c15 ?k15 ?a16 ?l16 ?c16 ?k16 ?a17 ?l17 ?c17 ?k17 ?a18 ?l18 ?c18 ?k18 ?a19 ?l19 ?c19 ?k19 ?a20 ?l20 ?c20 ?k20 ?a21 ?l21 ?c21 ?k21 ?a22 ?l22 ?c22 ?k22 ?a23 ?l23 ?c23 ?k23 ?a24 ?l24 ?c24 ?k24 ?a25 ?l25 ?c25 ?k25 ?a26 ?l26 ?c26 ?k26 ?aTE ?lTE ?tTE ?hn ?ht ?aCCN ?xCN ?saCN ?gaCN ?ggCN ?haCN ?kcCN ?aCNP ?xNP ?saNP ?gaNP ?ggNP ?haNP ?kcNP ?aN ?lN ?cN ?kN ?tN ?aP ?lP ?cP ?kP ?nP ?tP ?aAl ?zisinstance ?zlist ?ztuple ?zlen ?zabs ?zenumerate ?zint ?zrange ?zsum ?zmin ?zmax ?zrepr ?zstr ?zbool ?zall
    (case a0 => k_is)
    (case l0 => k_is)
    (case c0 => k_is)
    (case k0 => k_is)
    (case a1 => k_is)
    (case l1 => k_is)
    (case c1 => k_is)
    (case k1 => k_is)
    (case a2 => k_is)
    (case l2 => k_is)
    (case c2 => k_is)
    (case k2 => k_is)
    (case a3 => k_is)
    (case l3 => k_is)
    (case c3 => k_is)
    (case k3 => k_is)
    (case a4 => k_is)
    (case l4 => k_is)
    (case c4 => k_is)
    (case k4 => k_is)
    (case a5 => k_is)
    (case l5 => k_is)
    (case c5 => k_is)
    (case k5 => k_is)
    (case a6 => k_is)
    (case l6 => k_is)
    (case c6 => k_is)
    (case k6 => k_is)
    (case a7 => k_is)
    (case l7 => k_is)
    (case c7 => k_is)
    (case k7 => k_is)
    (case a8 => k_is)
    (case l8 => k_is)
    (case c8 => k_is)
    (case k8 => k_is)
    (case a9 => k_is)
    (case l9 => k_is)
    (case c9 => k_is)
    (case k9 => k_is)
    (case a10 => k_is)
    (case l10 => k_is)
    (case c10 => k_is)
    (case k10 => k_is)
    (case a11 => k_is)
    (case l11 => k_is)
    (case c11 => k_is)
    (case k11 => k_is)
    (case a12 => k_is)
    (case l12 => k_is)
    (case c12 => k_is)
    (case k12 => k_is)
    (case a13 => k_is)
    (case l13 => k_is)
    (case c13 => k_is)
    (case k13 => k_is)
    (case a14 => k_is)
    (case l14 => k_is)
    (case c14 => k_is)
    (case k14 => k_is)
    (case a15 => k_is)
    (case l15 => k_is)
    (case c15 => k_is)
    (case k15 => k_is)
    (case a16 => k_is)
    (case l16 => k_is)
    (case c16 => k_is)
    (case k16 => k_is)
    (case a17 => k_is)
    (case l17 => k_is)
    (case c17 => k_is)
    (case k17 => k_is)
    (case a18 => k_is)
    (case l18 => k_is)
    (case c18 => k_is)
    (case k18 => k_is)
    (case a19 => k_is)
    (case l19 => k_is)
    (case c19 => k_is)
    (case k19 => k_is)
    (case a20 => k_is)
    (case l20 => k_is)
    (case c20 => k_is)
    (case k20 => k_is)
    (case a21 => k_is)
    (case l21 => k_is)
    (case c21 => k_is)
    (case k21 => k_is)
    (case a22 => k_is)
    (case l22 => k_is)
    (case c22 => k_is)
    (case k22 => k_is)
    (case a23 => k_is)
    (case l23 => k_is)
    (case c23 => k_is)
    (case k23 => k_is)
    (case a24 => k_is)
    (case l24 => k_is)
    (case c24 => k_is)
    (case k24 => k_is)
    (case a25 => k_is)
    (case l25 => k_is)
    (case c25 => k_is)
    (case k25 => k_is)
    (case a26 => k_is)
    (case l26 => k_is)
    (case c26 => k_is)
    (case k26 => k_is)
    (case aTE => k_is)
    (case lTE => k_is)
    (case tTE => k_is)
    (case hn => k_is)
    (case ht => k_is)
    (case aCCN => k_is)
    (case xCN => k_is)
    (case saCN => k_is)
    (case gaCN => k_is)
    (case ggCN => k_is)
    (case haCN => k_is)
    (case kcCN => k_is)
    (case aCNP => k_is)
    (case xNP => k_is)
    (case saNP => k_is)
    (case gaNP => k_is)
    (case ggNP => k_is)
    (case haNP => k_is)
    (case kcNP => k_is)
    (case aN => k_is)
    (case lN => k_is)
    (case cN => k_is)
    (case kN => k_is)
    (case tN => k_is)
    (case aP => k_is)
    (case lP => k_is)
    (case cP => k_is)
    (case kP => k_is)
    (case nP => k_is)
    (case tP => k_is)
    (case aAl => k_is)
    (case zisinstance => k_is)
    (case zlist => k_is)
    (case ztuple => k_is)
    (case zlen => k_is)
    (case zabs => k_is)
    (case zenumerate => k_is)
    (case zint => k_is)
    (case zrange => k_is)
    (case zsum => k_is)
    (case zmin => k_is)
    (case zmax => k_is)
    (case zrepr => k_is)
    (case zstr => k_is)
    (case zbool => k_is)
    (case zall => k_is)
