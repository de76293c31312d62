import PyProof.Rows.All
import PyProof.ListStr
import HandS.Flow
import HandS.StrMore
import HandS.Iter
import HandS.Walk
import Wide.All
import OpenK.AllK
import Wide.FinOn
import HandS.ForMost
import HandS.Style
import HandS.IsInst
import HandS.ExcInit
import HandS.ExcIs
import HandS.ExcField
import HandS.ForExc
import HandS.TupAny
import PyProof.InstNe
import PyProof.MeetsIn
import PyProof.Rows.Range3
import HandS.OwnEq
import HandS.Small
import KE.KOpsOwn
import HandS.Codes
import PyProof.LongRange
import PyProof.ListMulRight
import HandS.TupLe
import HandS.ClsMeth
import HandS.Codes
import HandS.Comp
import HandS.Conv
import HandS.Defaults
import HandS.Dict
import HandS.DictComp
import HandS.ExcField
import HandS.ExcInit
import HandS.ExcIs
import HandS.FStr
import HandS.Flow
import HandS.ForExc
import HandS.ForMost
import HandS.IsInst
import HandS.Iter
import HandS.More
import HandS.ReplaceDef
import HandS.ReplaceLit
import HandS.SetFor
import HandS.Sort
import HandS.StrMore
import HandS.StrSplit
import HandS.Style
import HandS.Text
import HandS.Walk
import KE.KTabLook
import OpenK.AllK
import PyProof.Rows.All
import PyProof.Rows.ListMulArg
import PyProof.Rows.StrInSeq3
import PyProof.StrBlock2
import PyProof.StrLawsReplace
import PyProof.StrLawsWords2
import Wide.All
import Wide.FinOn
import PySem.Challenge.RW_textorlist_k31_functions_call_themselves
set_option Elab.async false
set_option linter.all false
set_option maxRecDepth 100000
set_option maxHeartbeats 8000000
set_option exponentiation.threshold 300
namespace TX
open PySem PySem.Spec PyProof.Rows L2

/-! ### either of two rules -/
section
variable {X : Cx}
theorem pe_alt {e : Expr} {t u : TE} (h1 : PE X e t) (h2 : PE X e u) : PE X e (fun σ H Q => t σ H Q ∨ u σ H Q) :=
  ⟨fun pins s σ H Q I h => h.elim (h1.run pins s σ H Q I) (h2.run pins s σ H Q I)⟩
theorem ps_alt {e : Stmt} {t u : TS} (h1 : PS X e t) (h2 : PS X e u) : PS X e (fun D σ H => t D σ H ∨ u D σ H) :=
  ⟨fun pins s σ H D I h => h.elim (h1.run pins s σ H D I) (h2.run pins s σ H D I)⟩
theorem pi_alt {tg e : Expr} {t u : TI} (h1 : PI X tg e t) (h2 : PI X tg e u) : PI X tg e (fun σ H R => t σ H R ∨ u σ H R) :=
  ⟨fun pins s σ H R I h => h.elim (h1.run pins s σ H R I) (h2.run pins s σ H R I)⟩
end

/-! ### data stays where the heap grows -/
theorem same_sqt {K : PySem.W.Frag} {H H' : Hp} {a : Addr} {xs : List V} (e : Same H H') (h : SqT K H a xs) : SqT K H' a xs := by
  rcases h with (h | ⟨o, h⟩) | h
  · exact .inl (.inl (e _ _ h))
  · exact .inl (.inr ⟨o, e _ _ h⟩)
  · exact .inr h
mutual
theorem dp_same {K : PySem.W.Frag} {H H' : Hp} (e : Same H H') : ∀ (d : PyData) (v : V), Dp K H v d → Dp K H' v d
  | .none, _, h => by cases h; exact .non
  | .bool b, _, h => by cases h; exact .bl b
  | .int i, _, h => by cases h; exact .int i
  | .str x, _, h => by cases h; exact .str x
  | .list xs, _, h => by
    cases h with
    | lst h1 h2 => exact .lst (e.seq h1) (dpAll_same e xs _ h2)
  | .tuple xs, _, h => by
    cases h with
    | tup h1 h2 => exact .tup (same_sqt e h1) (dpAll_same e xs _ h2)
  | .dict _, _, h => nomatch h
theorem dpAll_same {K : PySem.W.Frag} {H H' : Hp} (e : Same H H') : ∀ (ds : List PyData) (vs : List V), DpAll K H vs ds → DpAll K H' vs ds
  | [], _, h => by cases h; exact .nil
  | d :: ds, _, h => by
    cases h with
    | cons h1 h2 => exact .cons (dp_same e d _ h1) (dpAll_same e ds _ h2)
end
theorem DpAll.length {K : PySem.W.Frag} {H : Hp} : ∀ {ds : List PyData} {vs : List V}, DpAll K H vs ds → vs.length = ds.length
  | [], _, h => by cases h; rfl
  | _ :: _, _, h => by
    cases h with
    | cons _ h2 => exact congrArg (· + 1) (DpAll.length h2)
theorem DpAll.append {K : PySem.W.Frag} {H : Hp} : ∀ {ds es : List PyData} {vs ws : List V}, DpAll K H vs ds → DpAll K H ws es → DpAll K H (vs ++ ws) (ds ++ es)
  | [], _, _, _, h, g => by cases h; exact g
  | _ :: _, _, _, _, h, g => by
    cases h with
    | cons h1 h2 => exact .cons h1 (DpAll.append h2 g)
theorem DpAll.split {K : PySem.W.Frag} {H : Hp} : ∀ {ds es : List PyData} {vs : List V}, DpAll K H vs (ds ++ es) → ∃ a b, vs = a ++ b ∧ DpAll K H a ds ∧ DpAll K H b es
  | [], _, vs, h => ⟨[], vs, rfl, .nil, h⟩
  | d :: ds, es, _, h => by
    cases h with
    | cons h1 h2 =>
      obtain ⟨a, b, rfl, ha, hb⟩ := DpAll.split (ds := ds) (es := es) h2
      exact ⟨_ :: a, b, rfl, .cons h1 ha, hb⟩
theorem same_upd {H : Hp} {p : Addr} {o : HO} (h : H p = none) : Same H (upd H p o) := fun b x e => by
  rw [upd_ne (ne_of_none e h)]
  exact e
/-- a fresh place may be written again and again -/
theorem same_fresh {H0 H : Hp} {p : Addr} {o : HO} (h : H0 p = none) (e : Same H0 H) : Same H0 (upd H p o) := fun b x q => by
  rw [upd_ne (ne_of_none q h)]
  exact e b x q

/-! ### the number of parts -/
mutual
def nd : PyData → Nat
  | .list xs => ndAll xs + 1
  | .tuple xs => ndAll xs + 1
  | _ => 1
def ndAll : List PyData → Nat
  | [] => 0
  | d :: ds => nd d + ndAll ds
end
theorem ndAll_append : ∀ (a b : List PyData), ndAll (a ++ b) = ndAll a + ndAll b
  | [], b => by simp [ndAll]
  | d :: a, b => by
    rw [List.cons_append, ndAll, ndAll, ndAll_append a b]
    omega
theorem nd_pos : ∀ d : PyData, 1 ≤ nd d
  | .none => by simp [nd]
  | .bool _ => by simp [nd]
  | .int _ => by simp [nd]
  | .str _ => by simp [nd]
  | .list _ => by simp [nd]
  | .tuple _ => by simp [nd]
  | .dict _ => by simp [nd]
theorem ndAll_len : ∀ ds : List PyData, ds.length ≤ ndAll ds
  | [] => by simp
  | d :: ds => by
    have := ndAll_len ds
    have := nd_pos d
    rw [ndAll, List.length_cons]
    omega

/-! ### what a value's type is, for isinstance -/
/-- the type of a value that represents data -/
def tyD : PyData → String
  | .none => "NoneType"
  | .bool _ => "bool"
  | .int _ => "int"
  | .str _ => "str"
  | .list _ => "list"
  | .tuple _ => "tuple"
  | .dict _ => "dict"
theorem dp_ty {K : PySem.W.Frag} {H : Hp} {v : V} {d : PyData} (h : Dp K H v d) : TyX K H v (.type (tyD d)) := by
  cases h with
  | non => exact .base .non
  | bl b => exact .base (.bl b)
  | int i => exact .base (.int i)
  | str x => exact .base (.str x)
  | lst h1 _ =>
    rcases h1 with (h | ⟨o, h⟩) | ⟨o, its, n, hk, hc, _⟩
    · exact .base (.lst h)
    · exact .base (.frz h)
    · exact .kList hk hc
  | tup h1 _ =>
    rcases h1 with (h | ⟨o, h⟩) | ⟨o, its, n, hk, hc, _⟩
    · exact .base (.tup h)
    · exact .fTuple h
    · exact .kTuple hk hc

/-! ### repr of data -/
section
variable {X : Cx}
def rRepr (K : PySem.W.Frag) : List V → Hp → VK → Prop := fun xs H Q => ∃ v d, xs = [v] ∧ Dp K H v d ∧ d.showable = true ∧ d.hasDict = false ∧ d.depth ≤ 60 ∧ d.shown.length ≤ sizeLine ∧ Q (.str d.shown) H
theorem call_repr (hg : X.A.guards = some []) (hu : X.A.units + 64 < cLine) : CallR X (.builtin "repr") (rRepr X.K) := by
  intro pins s σ H xs us Q I r h
  obtain ⟨v, d, rfl, hd, hs, hn, hz, hl, q⟩ := h
  obtain ⟨u, rfl, rv⟩ := r.one
  have fin : ∀ tk t, EP X pins σ Q (.str d.shown t) { s with toks := tk } := fun tk t => ⟨.str _, H, I.tok tk, ⟨t, rfl⟩, q⟩
  obtain ⟨as, rd⟩ := Dp.reads I d v u hd rv
  cases hd with
  | non =>
    cases rv
    simp only [PyData.shown] at fin
    exact PySem.P.repr_of_none (fin _ _)
  | bl b =>
    cases rv
    simp only [PyData.shown] at fin
    exact PySem.P.repr_of_bool (fin _ _)
  | int i =>
    obtain ⟨t, rfl⟩ := rv
    simp only [PyData.shown] at fin
    exact PySem.P.repr_of_int (by simpa [PyData.showable] using hs) (fin _ _)
  | str x =>
    obtain ⟨t, rfl⟩ := rv
    simp only [PyData.shown] at fin hl
    exact PySem.P.repr_of_str (fin _ _) hl
  | lst h1 h2 =>
    cases rv
    exact repr_of_reads' rd hs (PyData.noDict_hsm hn) hg (by omega) (fun _ _ e => e) (fun h' t tk hk => ⟨.str _, H, I.kept hk, ⟨t, rfl⟩, q⟩) hl
  | tup h1 h2 =>
    cases rv
    exact repr_of_reads' rd hs (PyData.noDict_hsm hn) hg (by omega) (fun _ _ e => e) (fun h' t tk hk => ⟨.str _, H, I.kept hk, ⟨t, rfl⟩, q⟩) hl
end
end TX
namespace TX
open PySem PySem.Spec PyProof.Rows L2
/-! ### a def that is called where nothing is being shown (no repr under way) -/
structure FnG (P : Program) (w : World) (K : PySem.W.Frag) (mg : Str → Option Value) (base : Heap) (C : CXT) (k : Nat) (f : Addr) (fd : FuncData) (ps : List Str) (sp : Sp) : Prop where
  len : ∀ vs H Q E, sp vs H Q E → vs.length = ps.length
  go : ∀ (A : Around), A.guards = some [] → ∀ (outer : List Env) (s : Shared) (H : Hp) (args : Args) (us : List Value) (vs : List V) (Q : VK) (E : XK), Room k A → Env0 P w K mg base A outer s H →
    BindsTo s fd args (ps.zip us) → Vals vs us → sp vs H Q E → codeAny (model P w) A (.call (.ref f) args) (CR C outer P w H s Q E) s
section
variable {P : Program} {w : World} {K : PySem.W.Frag} {mg : Str → Option Value} {base : Heap} {C : CXT} {k : Nat} {f : Addr} {fd : FuncData} {N ps : List Str} {sp : Sp}
theorem fng_of {x qual : Str} {st : Stmt} (F : Fun K x qual st f fd) (S : FnScope N ps (defScope st)) (len : ∀ vs H Q E, sp vs H Q E → vs.length = ps.length)
    (hb : ∀ (cdv : Value) (A : Around) (outer : List Env) (s : Shared) (H : Hp) (vs : List V) (Q : VK) (E : XK), A.guards = some [] → Room k (A.deeper (envOfC qual (defScope st) s.heap.objs.size f cdv)) → sp vs H Q E →
      ∃ t, PSs (cxOf CX0 P w K mg base N qual (defScope st) f cdv A outer s H E).nox (defBody st) t ∧ t { nx := fun _ H' => Q .non H', rt := Q } (start N vs) H) : FnG P w K mg base CX0 (k + 1) f fd ps sp := by
  obtain ⟨oc, od, kV, doc, pm, an, cdv, ct, osl, rfl, lk, hcd⟩ := F.ex
  refine ⟨len, fun A hg outer s H args us vs Q E hr e0 hbd r hsp => ?_⟩
  have up : ∀ b o, base.get? b = some o → s.heap.get? b = some o := fun b o e => (e0.bs b o e).1
  have KX : K.In s.heap := e0.mod.kin.keeps up
  have par : ∀ y ∈ ps.zip us, (defScope st).names.lookup y.1 = some .local ∨ ((defScope st).names.lookup y.1 = some .cell ∧ ((cellsFrom (s.heap.objs.size + 1) (defScope st).names []).lookup y.1).isSome = true) := by
    rintro ⟨n, v⟩ hy
    exact (S.par n (List.of_mem_zip hy).1).imp id fun q => ⟨q, PySem.W.cellsFrom_some _ _ _ (.inl q)⟩
  refine codeAny_call_function hr.depth (KX _ _ lk) rfl S.co S.gen rfl (PySem.W.codeRec_of KX hcd) (hbd _ _ _ _ (wpAny_newFunctionEnv_cells S.kind par fun env he s1 x => ?_))
  cases he
  obtain ⟨t, ht, hq⟩ := hb cdv A outer s H vs Q E hg (hr.deeper _) hsp
  refine ⟨(e0.mod.nolimit.keeps up).keeps x.toInCall.keep, codeAny_func (wpAny_mono (ht.nox.run [] s1 (start N vs) H _ (inv_start S hr.hd e0 (len _ _ _ _ hsp) r x) hq) (fun fl s' hs => ?_) fun e s' hs => hs)⟩
  cases fl with
  | next => exact let ⟨σ', H', J, q⟩ := hs; ⟨.non, H', J.os, J.bare, J.base, J.hok, rfl, q⟩
  | ret u => exact let ⟨v, σ', H', J, rv, q⟩ := hs; ⟨v, H', J.os, J.bare, J.base, J.hok, rv, q⟩
  | brk => exact let ⟨_, _, _, q⟩ := hs; False.elim q
  | cont => exact let ⟨_, _, _, q⟩ := hs; False.elim q
theorem deeper_guards {A : Around} {env : Env} : (A.deeper env).guards = A.guards := rfl
end
section
variable {X : Cx} {C : CXT} {k : Nat} {f : Addr} {fd : FuncData} {ps : List Str} {sp : Sp} {dvs : List V} {ds : List Value} {E : XK} {x : Str} {p pos : Pos} {e : Expr} {es : List Expr} {t : TA}
theorem pe_callG (F : FnG X.prog X.w X.K X.mg X.base C k f fd ps sp) (hgd : X.A.guards = some []) (hr : Room k X.A) (hg : Gl X x) (hm : X.mg x = some (.ref f)) (hk : PySem.W.keepIn X.K (.ref f) = true) (hb : Binds X.K fd ps ds) (hd : Vals dvs ds)
    (hx : Passes C X E) (ha : PA X (e :: es) t) (hdb : (x == ("__debug__" : Str)) = false := by decide) (he : starEach (e :: es) X.env = (false, eval e X.env) :: starEach es X.env := by rfl)
    (hpl : (backTo pos (starEach es X.env)).any (·.1) = false := by rfl) : PE X (.Call (.Name x p) (e :: es) [] pos) (tCall sp dvs E t) := by
  refine ⟨fun pins s σ H Q I h => wpAny_Call_Name_kw (ld_glob I hg hm (PySem.W.callWith_K (h₀ := X.base) I.ok.mod.kin hk (thn (ha.run pos pins s σ H _ I h) fun us s1 h1 => ?_) he hpl) hdb)⟩
  obtain ⟨vs, H1, I1, r, q⟩ := h1
  have r2 := r.append hd
  have hl : (us ++ ds).length = ps.length := r2.length.symm.trans (F.len _ _ _ _ q)
  refine ⟨I1.kIn, wpAny_call (codeAny_mono (F.go X.A hgd X.stack s1 H1 ⟨us, []⟩ _ _ _ _ hr I1.env0 (hb s1 us I1.kIn hl) r2 q) fun r s' hq => ?_)⟩
  cases r with
  | error er => exact hx pins σ H1 s1 er s' I1 hq
  | ok fl => cases fl with
    | ret u => exact I1.after hq
    | next => exact hq.elim
    | brk => exact hq.elim
    | cont => exact hq.elim
end
/-- the law's def, called by the claim -/
theorem lawG {P : Program} {w : World} {K : PySem.W.Frag} {mg mb : Str → Option Value} {k : Nat} {fa a : Addr} {fd : FuncData} {x : Str} {sp : Sp} {s₁ : Shared} {vs : List Value} {ns : List Int}
    (KX : K.In s₁.heap) (hns : s₁.heap.Ns mainGlobals mg) (hb : s₁.heap.Ns builtinsNs mb) (hbb : ∀ x : Str, x ≠ "__name__" → mb x = bootBuiltins x) (hlim : s₁.heap.NoLimit) (hg : s₁.gens = #[])
    (ha : s₁.heap.get? a = some { cls := .type "list", data := .seq vs.toArray }) (hi : IntsAre vs ns) (hl : ns.length ≤ sizeLine) (hr : Room k callerA)
    (F : ∀ base : Heap, K.In base → base.Ns mainGlobals mg → FnG P w K mg base CX0 k fa fd [x] sp) (hbind : ∀ (s : Shared) (u : Value), BindsTo s fd ⟨[u], []⟩ [(x, u)])
    (hsp : ∀ H : Hp, Only H → SqL K H a (ns.map V.int) → sp [.ref a] H (fun v _ => v = .bl true) fun _ _ _ => False) :
    codeAny (model P w) callerA (.call (.ref fa) ⟨[.ref a], []⟩) (fun r s' => r = .ok (.ret (.bool true)) ∧ OldK s₁.heap s'.heap ∧ s'.os = s₁.os ∧ AllBare s'.gens) s₁ := by
  have rv := vals_ints hi
  have lenV := hi.length
  have main : ∀ H : Hp, Only H → SqL K H a (ns.map V.int) → HOk P w H s₁.heap → (∀ b, H b ≠ none → b = a) → (H a ≠ none → K.lookup a = none) →
      codeAny (model P w) callerA (.call (.ref fa) ⟨[.ref a], []⟩) (fun r s' => r = .ok (.ret (.bool true)) ∧ OldK s₁.heap s'.heap ∧ s'.os = s₁.os ∧ AllBare s'.gens) s₁ := by
    intro H hO hS hok hA hK
    have atA : ∀ {b : Addr} {u : HO}, H b = some u → b = a := fun q => hA _ (by rw [q]; exact fun z => nomatch z)
    have noD : ∀ {b : Addr} {o : Obj} {es : Array DictEntry} {ep : Nat}, s₁.heap.get? b = some o → o.data = .dict es ep → H b = none := by
      intro b o es ep e d
      cases q : H b with
      | none => rfl
      | some u =>
        cases atA q
        rw [ha] at e
        cases e
        exact absurd d (fun z => nomatch z)
    have nsK : ∀ {b : Addr} {m : Str → Option Value}, s₁.heap.Ns b m → (hidT s₁.heap H).Ns b m := fun ⟨o, es, ep, e, d, r⟩ => ⟨o, es, ep, hidT_get e (noD e d), d, r⟩
    have hKb : K.In (hidT s₁.heap H) := by
      intro b o e
      refine hidT_get (KX b o e) ?_
      cases q : H b with
      | none => rfl
      | some u =>
        cases atA q
        rw [hK (by rw [q]; exact fun z => nomatch z)] at e
        cases e
    have hM : Mod K mg (hidT s₁.heap H) := ⟨hKb, nsK hns, ⟨mb, nsK hb, hbb⟩, let ⟨mc, h1, h2⟩ := hlim; ⟨mc, nsK h1, h2⟩⟩
    have e0 : Env0 P w K mg (hidT s₁.heap H) callerA [] s₁ H := ⟨rfl, hM, fun b o e => of_hidT e, Nat.le_of_eq (hidT_size _ _), trivial, fun b hb => (nomatch hb), hok, .of_eq hg⟩
    refine codeAny_mono ((F _ hKb (nsK hns)).go callerA rfl [] s₁ H ⟨[.ref a], []⟩ [.ref a] [.ref a] _ _ hr e0 (hbind s₁ (.ref a)) (.cons rfl .nil) (hsp H hO hS)) fun r s' h => ?_
    cases r with
    | error e => exact (show False from h).elim
    | ok fl => cases fl with
      | next => exact h.elim
      | brk => exact h.elim
      | cont => exact h.elim
      | ret u =>
        obtain ⟨v, H', os, bare, un, hok', r', q⟩ := h
        cases (show v = .bl true from q)
        cases (show u = Value.bool true from r')
        refine ⟨rfl, OldK.of_keep fun b o e => ?_, os, bare⟩
        cases q : H b with
        | none => exact un.keep b o e q (fun z => nomatch z) (fun z => nomatch z)
        | some u =>
          rcases hO b with z | ⟨ob, xs, z⟩
          · rw [q] at z
            cases z
          · obtain ⟨e1, _⟩ := hok b _ z
            obtain ⟨e2, _⟩ := hok' b _ (un.frzs b ob _ z)
            rw [e] at e1
            cases e1
            exact e2
  cases hk : K.lookup a with
  | some o =>
    have e := KX a o hk
    rw [ha] at e
    cases e
    exact main (fun _ => none) (fun _ => .inl rfl) (.inr ⟨_, vs.toArray, _, hk, rfl, rfl, rfl, by rw [List.size_toArray, lenV]; exact hl, by simpa using rv⟩) (fun b u z => nomatch z) (fun b z => absurd rfl z) fun z => absurd rfl z
  | none =>
    refine main (fun b => if b = a then some (.frz { cls := .type "list", data := .seq vs.toArray } (.lst (ns.map V.int))) else none) (fun b => ?_) (.inl (.inr ⟨{ cls := .type "list", data := .seq vs.toArray }, if_pos rfl⟩)) (fun b u z => ?_) (fun b z => ?_) fun _ => hk
    · by_cases hb : b = a
      · exact .inr ⟨_, _, if_pos hb⟩
      · exact .inl (if_neg hb)
    · by_cases hb : b = a
      · cases hb
        cases (if_pos rfl).symm.trans z
        exact ⟨ha, by rw [List.length_map]; exact hl, vs, _, rv, ha⟩
      · cases (if_neg hb).symm.trans z
    · exact Classical.byContradiction fun hb => z (if_neg hb)
theorem walkG {l : PySem.W.OpenLaw} {n k : Nat} {q : Program} {loose : List Str} {XP : (Str → Option Value) → Heap → Prop} {YP : World → Heap → Prop} {d : DefRec} {K : Params → PySem.W.Frag} {sp : World → Sp} {x : Str}
    (hn : l.most = some n) (hn2 : n ≤ sizeLine) (hdf : d.params.defaults = []) (hr : Room k callerA) (hY : ∀ (w : World) (h : Heap), YP w h → (K w.params).In h)
    (F : ∀ (w : World) (mg : Str → Option Value) (fa : Addr) (h : Heap), (K w.params).In h → h.Ns mainGlobals mg → mg d.name = some (.ref fa) →
      ∃ fd : FuncData, (∀ (s : Shared) (u : Value), BindsTo s fd ⟨[u], []⟩ [(x, u)]) ∧ ∀ base : Heap, (K w.params).In base → base.Ns mainGlobals mg → FnG l.prog w (K w.params) mg base CX0 k fa fd [x] (sp w))
    (hsp : ∀ (w : World) (H : Hp) (a : Addr) (ns : List Int), ns.length ≤ n → Only H → SqL (K w.params) H a (ns.map V.int) → sp w [.ref a] H (fun v _ => v = .bl true) fun _ _ _ => False) :
    PySem.W.WalkO q loose XP YP l.row.toRowW d [] (fun f vs => PySem.call f vs) := by
  refine Att.attach_call hn hdf fun w s₀ s₁ mg mb fa o pm cd doc a vs ns G Y ho hd hcd hmg hobj hints hlen hg => ?_
  obtain ⟨fd, hb, hF⟩ := F w mg fa _ (hY w _ Y) G.T.g hmg
  exact lawG (hY w _ Y) G.T.g G.T.b G.T.builtins G.T.nolimit hg hobj hints (Nat.le_trans hlen hn2) hr hF hb fun H hO hS => hsp w H a ns hlen hO hS
end TX
namespace TX
open PySem PySem.Spec PyProof.Rows L2
section
variable {prog : Program} {w : World} {A : Around} {E : Value → Shared → Prop} {s : Shared}
theorem slAdj_back (n : Nat) : Builtin.Slice.sliceAdjust none none (-1) (n : Int) = ((n : Int) - 1, -1) := rfl
theorem slPl_back (n : Nat) : Builtin.Slice.slicePlaces ((n : Int) - 1) (-1) (-1) = n := by
  unfold Builtin.Slice.slicePlaces
  rw [if_neg (by decide)]
  split
  · have e : -(-1 : Int) = 1 := by decide
    rw [e, Int.ediv_one]
    omega
  · omega
theorem slApp_back {sl : Addr} {n : Nat} {u : Tok} {Q : Int × Int × Nat → Shared → Prop} (hs : s.heap.IsSliceOf sl .none .none (.int (-1) u)) (h : Q ((n : Int) - 1, -1, n) s) :
    wpAny (model prog w) A (Builtin.Slice.sliceApplied (.ref sl) (pure (n : Int))) Q E s := by
  obtain ⟨os, g1, g2, g3⟩ := hs
  unfold Builtin.Slice.sliceApplied Builtin.Slice.sliceFields
  refine wpAny_bind (wpAny_bind (wpAny_field g1 g3 (x := .none) rfl (wpAny_bind (wpAny_field g1 g3 (x := .none) rfl (wpAny_bind (wpAny_field g1 g3 (x := .int (-1) u) rfl (wpAny_pure ?_)))))))
  refine wpAny_bind (slicePart_int ?_)
  show wpAny _ _ (if ((-1 : Int) == 0) = true then _ else _) _ _ s
  rw [if_neg (by decide)]
  refine wpAny_bind (slicePart_none (wpAny_bind (slicePart_none (wpAny_bind (wpAny_pure ?_)))))
  show wpAny _ _ (match Builtin.Slice.sliceAdjust none none (-1) (n : Int) with | (lo, hi) => pure (lo, (-1 : Int), Builtin.Slice.slicePlaces lo hi (-1))) _ _ s
  rw [slAdj_back]
  show wpAny _ _ (pure ((n : Int) - 1, (-1 : Int), Builtin.Slice.slicePlaces ((n : Int) - 1) (-1) (-1))) _ _ s
  rw [slPl_back]
  exact wpAny_pure h
theorem fm_congr {f g : Nat → Option Value} : ∀ l : List Nat, (∀ k ∈ l, f k = g k) → l.filterMap f = l.filterMap g
  | [], _ => rfl
  | k :: l, h => by
    rw [List.filterMap_cons, List.filterMap_cons, h k List.mem_cons_self, fm_congr l fun j hj => h j (List.mem_cons_of_mem _ hj)]
theorem pick_back (l : List Value) : ((List.range l.length).filterMap fun (k : Nat) => l.toArray[(((l.length : Nat) : Int) - 1 + (k : Int) * (-1)).toNat]?) = l.reverse := by
  have e : ∀ k ∈ List.range l.length, (fun (k : Nat) => l.toArray[(((l.length : Nat) : Int) - 1 + (k : Int) * (-1)).toNat]?) k = (some ∘ fun k => (l.reverse[k]?).getD .none) k := by
    intro k hk
    have hk' := List.mem_range.mp hk
    have e1 : (((l.length : Nat) : Int) - 1 + (k : Int) * (-1)).toNat = l.length - 1 - k := by omega
    show l.toArray[(((l.length : Nat) : Int) - 1 + (k : Int) * (-1)).toNat]? = some ((l.reverse[k]?).getD .none)
    rw [e1, List.getElem?_toArray, List.getElem?_reverse (by omega), List.getElem?_eq_getElem (by omega)]
    rfl
  rw [fm_congr _ e, List.filterMap_eq_map]
  apply List.ext_getElem?
  intro i
  rw [List.getElem?_map]
  by_cases h : i < l.length
  · rw [List.getElem?_range h, List.getElem?_eq_getElem (by simpa using h)]
    simp [List.getElem?_eq_getElem, h]
  · rw [List.getElem?_eq_none (by simpa using h), List.getElem?_eq_none (by simpa using h)]
    rfl
/-- t[::-1] of a tuple -/
theorem getItem_tuple_back {t sl : Addr} {items : List Value} {u : Tok} {Q : Value → Shared → Prop} (ht : IsTup s.heap t items.toArray) (hs : s.heap.IsSliceOf sl .none .none (.int (-1) u))
    (h : Q (.ref s.heap.objs.size) { s with heap := s.heap.push { cls := .type "tuple", data := .seq items.reverse.toArray } }) (hsz : items.length ≤ sizeLine) : wpAny (model prog w) A (getItem (.ref t) (.ref sl)) Q E s := by
  have hTs : s.TypeIs (.ref sl) "slice" := let ⟨os, g1, g2, _⟩ := hs; ⟨os, g1, g2⟩
  have hfit : sizeOk (.seq items.reverse.toArray) := by
    show items.reverse.toArray.size ≤ sizeLine
    rw [List.size_toArray, List.length_reverse]
    exact hsz
  unfold getItem
  try with_reducible refine wpAny_holding ?_
  first | refine wpAny_bind (wpAny_pure ?_) | skip
  refine wpAny_bind (wpAny_sequenceKey ht.typeIs (by decide) ?_)
  refine wpAny_bind (wpAny_callSpecial?_slot (name := Str.ofString "__getitem__") ht.typeIs PyProof.Rows.slot_tuple_getitem (wpAny_call_entry PyProof.Rows.slot_tuple_getitem ht.typeIs entry_tuple_getitem ?_ (args_tuple_getitem _ _)))
  show wpAny _ _ (Builtin.Tuple.tupleItemsOf (.ref t) >>= _) _ _ s
  refine wpAny_bind (tupleItemsOf_ ht (wpAny_bind (wpAny_typeOf hTs ?_)))
  rw [if_pos (by decide)]
  refine wpAny_bind (slApp_back hs ?_)
  have no : ¬ ((((items.toArray.size : Nat) : Int) - 1 == 0 && (-1 : Int) == 1 && items.toArray.size == items.toArray.size) = true) := by
    intro q
    rw [Bool.and_eq_true, Bool.and_eq_true] at q
    exact absurd (eq_of_beq q.1.2) (by decide)
  show wpAny _ _ (if (((items.toArray.size : Nat) : Int) - 1 == 0 && (-1 : Int) == 1 && items.toArray.size == items.toArray.size) = true then _ else _) _ _ s
  rw [if_neg no]
  have e : ((List.range items.toArray.size).filterMap fun (k : Nat) => items.toArray[(((items.toArray.size : Nat) : Int) - 1 + (k : Int) * (-1)).toNat]?) = items.reverse := by
    rw [List.size_toArray]
    exact pick_back items
  rw [e]
  first
    | exact wpAny_bind (m := Builtin.Tuple.tupleExact _) (wpAny_newObj_type (wpAny_pure ⟨_, rfl, wpAny_pure h⟩) hfit)
    | exact wpAny_bind (m := Builtin.Tuple.tupleExact _) (wpAny_newObj_type (wpAny_bind (wpAny_pure (wpAny_pure ⟨_, rfl, wpAny_pure h⟩))) hfit)
    | exact wpAny_bind (wpAny_bind (m := Builtin.Tuple.tupleExact _) (wpAny_newObj_type (wpAny_pure (wpAny_pure ⟨_, rfl, wpAny_pure h⟩)) hfit))
    | exact wpAny_bind (wpAny_bind (m := Builtin.Tuple.tupleExact _) (wpAny_newObj_type (wpAny_pure ⟨_, rfl, wpAny_pure h⟩) hfit))
end
section
variable {X : Cx}
def tRevT (K : PySem.W.Frag) (te : TE) : TE := fun σ H Q => te σ H fun x H1 => ∃ a xs, x = .ref a ∧ SqT K H1 a xs ∧ ∀ p, H1 p = none → Q (.ref p) (upd H1 p (.tup xs.reverse))
theorem pe_revT {e : Expr} {te : TE} {k : Nat} {p1 p2 p3 pos : Pos} (he : PE X e te) : PE X (.Subscript e (.Slice none none (some (.UnaryOp .USub (.Constant (.int 1) k p1) p2)) p3) pos) (tRevT X.K te) := by
  refine ⟨fun pins s σ H Q I h => Subscript_ (thn (he.run pins s σ H _ I h) fun v s1 ⟨x, H1, I1, r1, a, xs, ex, hx, q⟩ => ?_)⟩
  subst ex
  cases r1
  have hst : PO X (some (.UnaryOp .USub (.Constant (.int 1) k p1) p2)) (tPart (tUn (rU fun i => .int (-i)) (tC (.int 1)))) := po_some (pe_un un_neg pe_int)
  refine wpAny_Slice (thn (po_none.run pins s1 σ H1 (fun o H2 => o = none ∧ H2 = H1) I1 ⟨rfl, rfl⟩) fun vl s2 ⟨l, H2, I2, pl, el, e2⟩ => ?_)
  subst el e2
  refine thn (po_none.run pins s2 σ H2 (fun o H3 => o = none ∧ H3 = H2) I2 ⟨rfl, rfl⟩) fun vu s3 ⟨u, H3, I3, pu, eu, e3⟩ => ?_
  subst eu e3
  refine thn (hst.run pins s3 σ H3 (fun o H4 => o = some (-1) ∧ H4 = H3) I3 ⟨1, rfl, -1, rfl, rfl, rfl⟩) fun vs s4 ⟨o, H4, I4, ps, eo, e4⟩ => ?_
  subst eo e4
  have I5 : Inv X pins σ H4 { s4 with heap := s4.heap.push { cls := .type "slice", data := .fields #[vl, vu, vs] } } := I4.kept (t' := s4.toks) fun b ob q => Heap.get?_push_of_some _ q
  obtain ⟨its, r, ht, hz⟩ := I5.tuple hx
  have hlen := r.length
  cases pl
  cases pu
  obtain ⟨tk, rfl⟩ : ∃ tk, vs = .int (-1) tk := by
    cases ps
    exact ⟨_, rfl⟩
  show wpAny (model X.prog X.w) X.A (subscriptTail e (.Slice none none (some (.UnaryOp .USub (.Constant (.int 1) k p1) p2)) p3) (.ref a) (.ref s4.heap.objs.size)) (EP X pins σ Q) X.xe { s4 with heap := s4.heap.push { cls := .type "slice", data := .fields #[.none, .none, .int (-1) tk] } }
  refine tail_any (ops := [.ref a, .ref s4.heap.objs.size]) ht.typeIs PyProof.Rows.slot_tuple_getitem.lookup ?_ (by with_unfolding_all rfl)
  refine getItem_tuple_back ht (Heap.IsSliceOf.new _ _ _ _) ?_ (by omega)
  refine ⟨.ref _, _, I5.laid (t' := s4.toks) (o := .tup xs.reverse) (fun b ob q => Heap.get?_push_of_some _ q) (Nat.le_refl _) ?_, rfl, q _ (I5.hok.fresh (Nat.le_refl _))⟩
  exact ⟨by rw [List.length_reverse]; exact hz, _, r.reverse, ⟨_, Heap.get?_push_size _ rfl, rfl, _, rfl⟩⟩
end
theorem ext_tup (l : Addr) (items : Array Value) (n : Nat) (b : Addr) (items2 : Array Value) (n2 : Nat) (dd : Option Addr) (sl : Array (Option Value)) (hs0 : ¬(!items.isEmpty && Builtin.List.listTooLong (items.size + items2.size)) = true)
    (hs1 : items.size ≤ sizeLine) (hs2 : items.size + items2.size ≤ sizeLine + 1) :
    Meets (Builtin.«list.extend» ⟨[.ref l, .ref b], []⟩) (fun _ R s => s.heap.get? l = some { cls := .type "list", dict := none, data := .seq items n, slots := #[] } ∧ s.heap.get? b = some { cls := .type "tuple", dict := dd, data := .seq items2 n2, slots := sl } ∧
      R (.ok (.ret Value.none)) { s with heap := s.heap.update l (Obj.mapSeq fun x => x ++ items2), toks := s.toks }) :=
  .of_wp fun prog w A R s h => by
    obtain ⟨hp, g, d, tk, os⟩ := s
    obtain ⟨hl, hb, h⟩ := h
    have f1 := AutoSeq1.idx_int
    have f2 := AutoSeq1.sub_tuple_tuple
    have f3 := AutoSeq1.sub_list_list
    have f4 := AutoSeq1.sub_tuple_list
    have f5 := AutoSeq1.sub_list_tuple
    have hz' : (items ++ items2).size ≤ sizeLine + 1 := by
      rw [Array.size_append]
      exact hs2
    wp_walk using (wpAny_updateSeq hl rfl (hz := hs1) (_hz' := hz')), AutoSeq1.wpAny_loadPart' hl, AutoSeq1.wpAny_loadPart' hb
    exact ⟨_, rfl, h⟩
section
variable {X : Cx}
def rExtT (K : PySem.W.Frag) : V → List V → Hp → VK → Prop := fun x vs H Q => ∃ l b xs zs, x = .ref l ∧ vs = [.ref b] ∧ H l = some (.lst xs) ∧ SqT K H b zs ∧ xs.length + zs.length ≤ sizeLine ∧ Q .non (upd H l (.lst (xs ++ zs)))
theorem mt_extT : MtM X "list.extend" (rExtT X.K) := by
  intro pins s σ H x vs v us Q I rx rv h
  obtain ⟨l, b, xs, zs, rfl, rfl, hH, hB, hz, q⟩ := h
  cases rx
  obtain ⟨u, rfl, ru⟩ := rv.one
  cases ru
  obtain ⟨z, its, n, r, hl, e⟩ := I.lstM hH
  obtain ⟨its2, r2, ⟨⟨cls, dd, data, sl⟩, e2, hc, n2, hd⟩, hz2⟩ := I.tuple hB
  simp only at hc hd
  subst hc hd
  have hl2 := r2.length
  have hsz : its.toArray.size + its2.toArray.size ≤ sizeLine := by
    rw [List.size_toArray, List.size_toArray]
    omega
  have hlong : ¬ (!its.toArray.isEmpty && Builtin.List.listTooLong (its.toArray.size + its2.toArray.size)) = true := by
    rw [notLongL hsz, Bool.and_false]
    exact Bool.false_ne_true
  refine call_meets F.slot_list_extend ⟨_, e, rfl⟩ F.entry_list_extend (F.args_list_extend_2 _ _) (ext_tup l its.toArray n b its2.toArray n2 dd sl hlong (by rw [List.size_toArray]; omega) (by omega)) ⟨e, e2, ?_⟩
  refine ⟨.non, _, I.lset (its' := its ++ its2) hH e (by simp) (r.append r2) ?_, rfl, q⟩
  rw [List.length_append]
  omega
end
end TX
namespace TX
open PySem PySem.Spec PySem.Calls PyProof.Rows L2
open PySem.W (Frag InstAt findIn subIn hasDictIn specialIn takesIn mroIn clsIn Looks looks_findIn looks_find looks_subIn KitX)
section
variable {prog : Program} {w : World} {A : Around} {E : Value → Shared → Prop} {s : Shared} {K : Frag} {x D : Addr} {ox : Obj} {od : Option Obj}
theorem clsSome {D : Addr} (h : hasDictIn K D = true) : (clsIn K D).isSome = true := by
  unfold hasDictIn at h
  cases e : clsIn K D with
  | none => rw [e] at h; cases h
  | some c => rfl
theorem findData {C : Addr} {name : Str} {a g : Value} (hc : (clsIn K C).isSome = true) (ha : findIn K (.ref C) name = some (some a)) (hg : specialIn K a "__get__" = some (some g)) (ht : takesIn K a = some true) :
    PySem.W.findObj K C od name = some (.bind g a) := by
  obtain ⟨cd, hc⟩ := Option.isSome_iff_exists.mp hc
  simp [PySem.W.findObj, hc, ha, hg, ht]
/-- e.__class__ of an exception of an own class, with or without a dict of its own -/
theorem classOf {Q : Option Value → Shared → Prop} (T : ExcC K D) (X : K.In s.heap) (I : InstAt s.heap x ox D od) (h : Q (some (.ref D)) { s with toks := s.toks + 1 }) : wpAny (model prog w) A (getAttr? (.ref x) "__class__") Q E s := by
  have hf : PySem.W.findObj K D od "__class__" = some (.bind (.builtin "getset_descriptor.__get__") (.builtin "object.__class__")) := findData (clsSome T.hd) T.ha T.hn T.ht
  obtain ⟨hp, g, d, t, os⟩ := s
  have L0 := I.type (M := model prog w)
  have L1 := looks_findIn (M := model prog w) X T.hg
  have L2 := looks_findIn (M := model prog w) X T.hk
  have L3 := looks_find (M := model prog w) X I hf
  have sub : Looks (model prog w) hp (isInstance (.ref x) (.type "BaseException")) true := L0.andThen (looks_subIn X T.hs)
  have n0 : (false && onTheHeap (Value.builtin "BaseException.__getattribute__")) = false := rfl
  have n2 : (Value.builtin "BaseException.__getattribute__" == Value.builtin "object.__getattribute__") = false := by decide +kernel
  have n1 : (onTheHeap (Value.ref D) && Value.builtin "BaseException.__getattribute__" == Value.builtin "object.__getattribute__") = false := by
    rw [n2]
    rfl
  unfold getAttr? getAttrBy? getAttrBy
  refine wpAny_bind (wpAny_mkText (wpAny_bind (wpAny_attempt (wpAny_holding (wpAny_bind (L0.at (wpAny_bind (L1.at ?_))))))))
  show wpAny _ _ (if (onTheHeap (Value.ref D) && Value.builtin "BaseException.__getattribute__" == Value.builtin "object.__getattribute__") = true then _ else _) _ _ _
  rw [n1, if_neg Bool.false_ne_true]
  unfold getAttrByItsOwn hookBefore
  refine wpAny_bind ?_
  rw [if_pos (show onTheHeap (Value.ref D) = true from rfl)]
  refine L2.at (wpAny_bind (wpAny_attempt (wpAny_holding ?_)))
  unfold callGetattribute
  rw [n0, if_neg Bool.false_ne_true]
  unfold boundAndCalled
  rw [PySem.F.excAttr_ValueError.ga.bind (.ref x)]
  refine wpAny_bind (wpAny_pure ?_)
  show wpAny _ _ (call (.builtin "BaseException.__getattribute__") [.ref x, .str "__class__" t]) _ _ _
  refine wpAny_call (codeAny_call_builtin PySem.F.excAttr_ValueError.ga.plain PySem.F.entry_bexc_ga ?_)
  refine @PySem.W.check_slot (model prog w) _ _ ⟨hp, g, d, t + 1, os⟩ "BaseException.__getattribute__" "BaseException" "__getattribute__" (.ref x) [.str "__class__" t] [] _ (by decide +kernel) (by decide +kernel) sub (PySem.F.args_bexc_ga (.ref x) (.str "__class__" t)) ?_
  unfold Builtin.«object.__getattribute__»
  refine wpAny_bind (wpAny_of_eq (a := ((Value.ref x : Value), [Value.str "__class__" t])) (by first | rfl | (simp only [slotArgs]; rfl)) ?_)
  refine wpAny_bind (wpAny_pure (wpAny_bind (L0.at (wpAny_bind (L3.at ?_)))))
  show wpAny _ _ (holding [Value.builtin "object.__class__"] (call (.builtin "getset_descriptor.__get__") [.builtin "object.__class__", .ref x, .ref D]) >>= ret) _ _ _
  refine wpAny_bind (wpAny_holding (wpAny_call (PySem.W.class_get (s := ⟨hp, g, d, t + 1, os⟩) (ox := ox) (od := od) X I T.hm (wpAny_pure ?_))))
  show wpAny _ _ (handedOut (.ref D)) _ _ _
  rw [PySem.W.handedOut_of (v := .ref D) rfl]
  first
    | exact wpAny_pure (wpAny_pure h)
    | exact wpAny_pure h
    | exact wpAny_pure (wpAny_bind (wpAny_pure (wpAny_pure h)))
theorem kitE (T : ExcC K D) : KitX K (.ref x) (.ref D) (fun h => InstAt h x ox D od) where
  ty := fun _ _ _ I => I.type
  it := fun _ _ X _ => by
    obtain ⟨cd, hc⟩ := Option.isSome_iff_exists.mp (clsSome T.hd)
    unfold clsIn at hc
    split at hc
    · rename_i c' d' cd' sl' ho
      intro A' Q' E' s' k q
      unfold isType loadHead
      exact wpAny_bind (wpAny_loadPart (k _ _ (X _ _ ho)) (wpAny_pure q))
    · cases hc
  ne := fun h tp dd its n sl X htp => by
    obtain ⟨cd, hc⟩ := Option.isSome_iff_exists.mp (clsSome T.hd)
    refine Bool.eq_false_iff.mpr fun q => ?_
    have e : D = tp := Value.ref.inj (beq_iff_eq.mp q)
    subst e
    unfold clsIn at hc
    split at hc
    · rename_i c' d' cd' sl' ho
      have z := (X _ _ ho).symm.trans htp
      cases z
    · cases hc
  ca := fun X I k => classOf T X I k
end
/-- the exception that the suite holds, as the state has it -/
theorem atE {X : Cx} {pins : List (Addr × Obj)} {σ : L2.St} {H : Hp} {s : Shared} {a D : Addr} {oe : Obj} {d : Option Addr} {pn : List (Addr × Obj)} (I : Inv (X.suite a ((a, oe) :: pn)) pins σ H s) (hz : Zc (.ref D) d oe) (hf : ∃ vs, oe.data = .fields vs)
    (hd : ∀ dd, d = some dd → ∃ fs, H dd = some (.xd fs)) : ∃ od, InstAt s.heap a oe D od := by
  obtain ⟨hget, _⟩ := I.pin (a, oe) (List.mem_append.mpr (.inl List.mem_cons_self))
  obtain ⟨vs, hv⟩ := hf
  obtain ⟨oc, odd, oda, osl⟩ := oe
  obtain ⟨h1, h2⟩ := hz
  dsimp only at h1 h2 hv
  subst h1 h2 hv
  cases odd with
  | none => exact ⟨none, hget, rfl, rfl, trivial⟩
  | some dd =>
    obtain ⟨fs, hx⟩ := hd dd rfl
    have ob : ObjOk X.prog X.w H s.heap dd (.xd fs) := I.hok dd _ hx
    obtain ⟨mA, ⟨o, es, ep, ho, _⟩, _⟩ := ob
    exact ⟨some o, hget, rfl, rfl, ho⟩
/-- isinstance(e, c) -/
def rIsE2 (K : Frag) (D a : Addr) (d : Option Addr) : List V → Hp → VK → Prop := fun xs H Q => ∃ (c : V) (cv : Value) (b : Bool), xs = [.ref a, c] ∧ ClsV c cv ∧ PySem.W.kitOne K (.ref D) cv = some b ∧ (∀ dd, d = some dd → ∃ fs, H dd = some (.xd fs)) ∧ Q (.bl b) H
theorem call_isE2 {X : Cx} {a D : Addr} {oe : Obj} {d : Option Addr} {pn : List (Addr × Obj)} (C : ExcC X.K D) (hz : Zc (.ref D) d oe) (hf : ∃ vs, oe.data = .fields vs) : CallR (X.suite a ((a, oe) :: pn)) (.builtin "isinstance") (rIsE2 X.K D a d) := by
  intro pins s σ H xs us Q I r h
  obtain ⟨c, cv, b, rfl, hcv, e, hd, q⟩ := h
  obtain ⟨u1, u2, rfl, r1, r2⟩ := vals2 r
  cases (show u1 = Value.ref a from r1)
  cases hcv.eq r2
  obtain ⟨od, J⟩ := atE I hz hf hd
  exact PySem.W.kia_one (kitE C) I.kIn J e (fun z => nomatch z) fun tk => ⟨.bl b, H, I.tok tk, rfl, q⟩
/-- isinstance(e, (c1, c2, ..)) -/
def rIsET (K : Frag) (D a : Addr) (d : Option Addr) : List V → Hp → VK → Prop := fun xs H Q => ∃ (tp : Addr) (cs : List V) (us : List Value) (b : Bool), xs = [.ref a, .ref tp] ∧ H tp = some (.tup cs) ∧ Paired ClsV cs us ∧ PySem.W.kitAny K (.ref D) us = some b ∧
  (∀ dd, d = some dd → ∃ fs, H dd = some (.xd fs)) ∧ Q (.bl b) H
theorem call_isET {X : Cx} {a D : Addr} {oe : Obj} {d : Option Addr} {pn : List (Addr × Obj)} (C : ExcC X.K D) (hz : Zc (.ref D) d oe) (hf : ∃ vs, oe.data = .fields vs) : CallR (X.suite a ((a, oe) :: pn)) (.builtin "isinstance") (rIsET X.K D a d) := by
  intro pins s σ H xs us Q I r h
  obtain ⟨tp, cs, ws, b, rfl, hT, k, e, hd, q⟩ := h
  obtain ⟨u1, u2, rfl, r1, r2⟩ := vals2 r
  cases (show u1 = Value.ref a from r1)
  cases (show u2 = Value.ref tp from r2)
  obtain ⟨_, its, rv, o, h1, h2, n, h3⟩ := (show ObjOk X.prog X.w H s.heap tp (.tup cs) from I.hok tp _ hT)
  cases ClsV.all k rv
  obtain ⟨oc, odd, dt, sl⟩ := o
  simp only at h2 h3
  subst h2 h3
  obtain ⟨od, J⟩ := atE I hz hf hd
  exact PySem.W.kia_tup (kitE C) I.kIn J h1 e (fun z => nomatch z) fun tk => ⟨.bl b, H, I.tok tk, rfl, q⟩
/-! ### X(), an own exception class whose __init__ stores nothing -/
def tMkN (C : Addr) (sp : Sp) : L2.St → Hp → XK → Prop := fun _ H Q => ∀ a, H a = none → sp [.ref a] (upd H a (exo a C none)) (fun v H2 => v = .non ∧ H2 a = some (exo a C none) ∧ Q (.ref C) none (del H2 a)) (fun _ _ _ => False)
theorem pmk_oexN {X : Cx} {CX : CXT} {x : Str} {C fI : Addr} {k : Nat} {fd : FuncData} {ps : List Str} {sp : Sp} {p pos : Pos} (T : OexC X.K C) (iC : findIn X.K (.ref C) "__init__" = some (some (.ref fI))) (tI : PySem.W.typeIn X.K (.ref fI) = some (.type "function"))
    (F1 : FnOk X.prog X.w X.K X.mg X.base CX k fI fd ps sp) (hr : Room (k + 1) X.A) (hb : Binds X.K fd ps []) (hx : Passes CX X (fun _ _ _ => False)) (hg : Gl X x) (hm : X.mg x = some (.ref C)) (hdb : (x == ("__debug__" : Str)) = false := by decide) :
    PMk X (.Call (.Name x p) [] [] pos) (tMkN C sp) := by
  intro pins s σ H Q I h
  obtain ⟨nm, q, N, bs, bm, sn, sub, ab, col, dd, k0, k1, k2, k3, k5, hC, hbm⟩ := T.cls
  refine wpAny_Call_Name_kw (ld_glob I hg hm (PySem.W.callWith_K0 I.kIn T.kC ?_) hdb)
  obtain ⟨hp, g, dr, tk, os⟩ := s
  have hsz : hp.objs.size ≤ hp.objs.size + 1 := Nat.le_succ _
  have hn : H (hp.objs.size + 1) = none := I.hok.fresh hsz
  have hq := h (hp.objs.size + 1) hn
  have kk : ∀ b o, hp.get? b = some o → ((hp.push (PySem.W.kdv_tup [])).push (PySem.HandSPX.excO C hp.objs.size)).get? b = some o := fun b o e => Heap.get?_push_of_some _ (Heap.get?_push_of_some _ e)
  have hget : ((hp.push (PySem.W.kdv_tup [])).push (PySem.HandSPX.excO C hp.objs.size)).get? (hp.objs.size + 1) = some (PySem.HandSPX.excO C hp.objs.size) := by heap_get
  have I2 : Inv X pins σ (upd H (hp.objs.size + 1) (exo (hp.objs.size + 1) C none)) ⟨(hp.push (PySem.W.kdv_tup [])).push (PySem.HandSPX.excO C hp.objs.size), g, dr, tk, os⟩ :=
    I.laid (t' := tk) (a := hp.objs.size + 1) (o := exo (hp.objs.size + 1) C none) (h' := (hp.push (PySem.W.kdv_tup [])).push (PySem.HandSPX.excO C hp.objs.size)) kk hsz (exo_ok hget)
  have r2 : Vals [V.ref (hp.objs.size + 1)] [Value.ref (hp.objs.size + 1)] := .cons rfl .nil
  have hl : ([Value.ref (hp.objs.size + 1)] ++ ([] : List Value)).length = ps.length := (F1.len _ _ _ _ hq).symm ▸ rfl
  refine wpAny_call (PySem.HandSPX.call_own F.excBase_ValueError (fun Y => PySem.HandSPX.refsVE_contains Y bm hbm) (I.kIn _ _ hC) (looks_findIn I.kIn iC) (fun self => PySem.W.bind_fn I.kIn self tI) (by show 0 ≤ sizeLine; exact Nat.zero_le _)
    (codeAny_mono (F1.run _ X.stack _ _ ⟨[Value.ref (hp.objs.size + 1)], []⟩ [Value.ref (hp.objs.size + 1)] _ _ (fun _ _ _ => False) (hr.make C [] []) (I2.env0.make C [] []) (hb _ [Value.ref (hp.objs.size + 1)] I2.kIn hl) r2 hq) fun r s' hq' => ?_))
  cases r with
  | error er => exact hx pins σ _ _ er s' I2 hq'
  | ok fl => cases fl with
    | next => exact False.elim hq'
    | brk => exact False.elim hq'
    | cont => exact False.elim hq'
    | ret u =>
      obtain ⟨v, H2, os2, bare2, un2, hok2, rv, ev, ea, q2⟩ := hq'
      subst ev
      refine ⟨rv, ?_⟩
      obtain ⟨h2, g2, d2, t2, os'⟩ := s'
      generalize hA : hp.objs.size + 1 = a at *
      obtain ⟨t0, hoe⟩ := exo_at hok2 ea
      obtain ⟨G, g1', g2'⟩ := restrict h2 fun b => decide (b ≠ a)
      have gk : ∀ b, b ≠ a → G.get? b = h2.get? b := fun b hb => g1' b (decide_eq_true hb)
      have ge : G.get? a = none := g2' a (by simp)
      have nha : ∀ {b : Addr} {o : Obj}, hp.get? b = some o → b ≠ a := fun {b o} z => Nat.ne_of_lt (Nat.lt_of_lt_of_le (Heap.lt_size z) hsz)
      have up : ∀ {b : Addr}, b ≠ a → H b = none → upd H a (exo a C none) b = none := fun {b} hb n => by
        rw [upd_ne hb]
        exact n
      have U : Un (frs X.stack) [] H (del H2 a) hp G := {
        keep := fun b o z n hf hx => (gk b (nha z)).trans (un2.keep b o (kk b o z) (up (nha z) n) hf hx)
        slot := fun b o z n hf hx => by
          rw [gk b (nha z)]
          exact un2.slot b o (kk b o z) (up (nha z) n) hf hx
        free := fun b o z n hx => by
          rw [del_ne (nha z)]
          exact un2.free b o (kk b o z) (up (nha z) n) hx
        there := fun b o z hx => by
          rw [gk b (nha z)]
          exact un2.there b o (kk b o z) hx
        tups := fun b xs z => by
          rw [del_ne (ne_of_none z hn)]
          exact un2.tups b xs (by rw [upd_ne (ne_of_none z hn)]; exact z)
        frzs := fun b o v z => by
          rw [del_ne (ne_of_none z hn)]
          exact un2.frzs b o v (by rw [upd_ne (ne_of_none z hn)]; exact z)
        tbls := fun b ps z => by
          rw [del_ne (ne_of_none z hn)]
          exact un2.tbls b ps (by rw [upd_ne (ne_of_none z hn)]; exact z) }
      have hok3 : HOk X.prog X.w (del H2 a) G := fun b o z => by
        have hba : b ≠ a := fun e => by
          rw [e, del_same] at z
          cases z
        rw [del_ne hba] at z
        have noa : ∀ {c : Addr}, H2 c = some (.own b) → c ≠ a := fun {c} hc => at_ne ea hc exo_own
        refine (hok2 b o z).stay (fun c v hc y => ?_) (fun c hc => by rw [del_ne (noa hc)]; exact hc) (fun c xs hc => by rw [del_ne (at_ne ea hc exo_tup)]; exact hc)
        have hca : c ≠ a := hc.elim (fun e => e ▸ hba) noa
        exact (gk c hca).trans y
      have J : Inv X pins σ (del H2 a) ⟨G, g2, d2, t2, os'⟩ := I.call' (ch := []) os2 U hok3 bare2 (fun b z => absurd z (by simp))
      refine ⟨a, _, _, ⟨G, g2, d2, t2, os'⟩, _, .ref C, none, rfl, J, fun b o z => ?_, ge, hoe, ⟨rfl, rfl⟩, rfl, rfl, del_same, rfl, bare2, raises_own T.exC T.tyC, q2⟩
      by_cases hba : b = a
      · rw [hba] at z
        have z' : G.get? a = some o := z
        rw [ge] at z'
        cases z'
      · exact (gk b hba).symm.trans z
end TX
namespace TX
open PySem PySem.Spec PyProof.Rows L2
def top (i : Nat) : Stmt := PySem.Challenge.pw_textorlist_k31_functions_call_themselves.main.body.getD i (.Pass ⟨0, 0, 0, 0⟩)
abbrev s__wall : Stmt := top 0
abbrev sParts : Stmt := top 2
abbrev sCopy : Stmt := top 3
abbrev cTextorlistError : Stmt := top 5
abbrev cBadProgram : Stmt := top 6
abbrev mBadProgram_init : Stmt := inClass (top 6) 0
abbrev mBadProgram_str : Stmt := inClass (top 6) 1
abbrev cTooMany : Stmt := top 7
abbrev mTooMany_init : Stmt := inClass (top 7) 0
abbrev mTooMany_str : Stmt := inClass (top 7) 1
abbrev s_cleaned : Stmt := top 13
abbrev s_spread : Stmt := top 14
abbrev s_rows_of : Stmt := top 15
abbrev s_is_name : Stmt := top 16
abbrev s_shape_of : Stmt := top 17
abbrev s_atom_of : Stmt := top 23
abbrev s_asked_form : Stmt := top 24
abbrev s_settle : Stmt := top 25
abbrev s_put_atom : Stmt := top 26
abbrev s_put_operator : Stmt := top 27
abbrev s_read_compound : Stmt := top 28
abbrev s_read_test : Stmt := top 29
abbrev cLine : Stmt := top 38
abbrev mLine_init : Stmt := inClass (top 38) 0
abbrev s_can_be : Stmt := top 39
abbrev s_read_def : Stmt := top 40
abbrev s_read_for : Stmt := top 41
abbrev s_read_if : Stmt := top 42
abbrev s_read_call : Stmt := top 43
abbrev s_read_gift : Stmt := top 44
abbrev s_read_named : Stmt := top 45
abbrev s_read_bare : Stmt := top 46
abbrev s_read_inner : Stmt := top 47
abbrev s_asked_forms : Stmt := top 48
abbrev cBlock : Stmt := top 50
abbrev mBlock_init : Stmt := inClass (top 50) 0
abbrev s_block_of : Stmt := top 51
abbrev cReading : Stmt := top 52
abbrev mReading_init : Stmt := inClass (top 52) 0
abbrev mReading_is_whole : Stmt := inClass (top 52) 1
abbrev mReading_may_stand : Stmt := inClass (top 52) 2
abbrev mReading_accepts : Stmt := inClass (top 52) 3
abbrev mReading_ends_choice : Stmt := inClass (top 52) 4
abbrev mReading_close : Stmt := inClass (top 52) 5
abbrev mReading_put : Stmt := inClass (top 52) 6
abbrev mReading_begin : Stmt := inClass (top 52) 7
abbrev s_read_rows : Stmt := top 53
abbrev s_text_of : Stmt := top 55
abbrev cProgram : Stmt := top 56
abbrev mProgram_init : Stmt := inClass (top 56) 3
abbrev mProgram_len : Stmt := inClass (top 56) 4
abbrev mProgram_str : Stmt := inClass (top 56) 5
abbrev mProgram_eq : Stmt := inClass (top 56) 6
abbrev mProgram_names : Stmt := inClass (top 56) 7
abbrev mProgram_takers : Stmt := inClass (top 56) 8
abbrev mProgram_spots : Stmt := inClass (top 56) 9
abbrev mProgram_opener_of : Stmt := inClass (top 56) 10
abbrev mProgram_is_plain_spot : Stmt := inClass (top 56) 11
abbrev mProgram_place_of : Stmt := inClass (top 56) 12
abbrev mProgram_marked : Stmt := inClass (top 56) 13
abbrev sBag : Stmt := top 58
abbrev sTake : Stmt := top 59
abbrev s__law_of : Stmt := top 60
abbrev s__law_wrong : Stmt := top 61
abbrev s__law_opened : Stmt := top 62
abbrev s__law_arguments : Stmt := top 63
abbrev s__law_is_let : Stmt := top 64
abbrev sLaw : Stmt := top 65
end TX
namespace TX
open PySem PySem.Builtin PySem.Builtin.Str PySem.StrLaws
/-! ### texts as lists of signs: replace, split -/
/-- z for each p, from the left; k signs are passed over -/
def rp (p z : List Nat) : Nat → List Nat → List Nat
  | _, [] => []
  | k + 1, _ :: r => rp p z k r
  | 0, c :: r => if p.isPrefixOf (c :: r) = true then z ++ rp p z (p.length - 1) r else c :: rp p z 0 r
theorem rp_skip {p z : List Nat} : ∀ (k : Nat) (l : List Nat), rp p z k l = rp p z 0 (l.drop k)
  | 0, l => by rw [List.drop_zero]
  | k + 1, [] => by simp [rp]
  | k + 1, c :: r => by
    rw [rp, List.drop_succ_cons]
    exact rp_skip k r
theorem rp_at {p z l : List Nat} (hp : 1 ≤ p.length) (h : p <+: l) : rp p z 0 l = z ++ rp p z 0 (l.drop p.length) := by
  cases l with
  | nil =>
    have h0 : p.length ≤ 0 := h.length_le
    omega
  | cons c r =>
    rw [rp, if_pos (List.isPrefixOf_iff_prefix.mpr h), rp_skip]
    obtain ⟨n, hn⟩ : ∃ n, p.length = n + 1 := ⟨p.length - 1, by omega⟩
    rw [hn, List.drop_succ_cons]
    rfl
theorem rp_on {p z : List Nat} : ∀ (n : Nat) (l : List Nat), n ≤ l.length → (∀ k, k < n → ¬ p <+: l.drop k) → rp p z 0 l = l.take n ++ rp p z 0 (l.drop n)
  | 0, l, _, _ => by simp
  | n + 1, [], h, _ => by simp at h
  | n + 1, c :: r, h, hn => by
    have h0 := hn 0 (by omega)
    rw [List.drop_zero] at h0
    rw [rp, if_neg (fun z => h0 (List.isPrefixOf_iff_prefix.mp z)), List.take_succ_cons, List.drop_succ_cons, List.cons_append]
    rw [rp_on n r (by simpa using h) fun k hk => by simpa using hn (k + 1) (by omega)]
theorem rp_none {p z : List Nat} (hp : 1 ≤ p.length) {l : List Nat} (h : ∀ k, ¬ p <+: l.drop k) : rp p z 0 l = l := by
  rw [rp_on l.length l (Nat.le_refl _) fun k _ => h k, List.take_length, List.drop_length]
  simp [rp]
theorem at_prefix {x y : Str} {k : Nat} : At x y x.length k ↔ (k + y.length ≤ x.length ∧ y.cps.toList <+: x.cps.toList.drop k) := by
  unfold At
  rw [subAt_eq, beq_iff_eq]
  have ly : y.cps.toList.length = y.length := by simp [Str.length]
  refine and_congr_right fun hk => ⟨fun h => ?_, fun h => ?_⟩
  · rw [← h]
    exact List.take_prefix _ _
  · have e := List.prefix_iff_eq_take.mp h
    rw [ly] at e
    exact e.symm
theorem prefix_at {x y : Str} (hy : 1 ≤ y.length) {k : Nat} (h : y.cps.toList <+: x.cps.toList.drop k) : At x y x.length k := by
  refine at_prefix.mpr ⟨?_, h⟩
  have := h.length_le
  have ly : y.cps.toList.length = y.length := by simp [Str.length]
  have lx : x.cps.toList.length = x.length := by simp [Str.length]
  rw [List.length_drop, ly, lx] at this
  omega
def joinL (z : List Nat) : List (List Nat) → List Nat
  | [] => []
  | [a] => a
  | a :: b :: r => a ++ z ++ joinL z (b :: r)
theorem join_list (z : Str) : ∀ ps : List Str, (Str.join z ps).cps.toList = joinL z.cps.toList (ps.map (·.cps.toList))
  | [] => rfl
  | [a] => rfl
  | a :: b :: r => by
    have ih := join_list z (b :: r)
    show (a ++ z ++ Str.join z (b :: r)).cps.toList = _
    rw [Str.cps_append, Str.cps_append, Array.toList_append, Array.toList_append, ih]
    rfl
theorem parts_rp {x y : Str} (hy : 1 ≤ y.length) (z : List Nat) : ∀ (cuts : List Nat) (a f : Nat), a ≤ x.length → ChainG x y x.length a cuts f → (∀ k, f ≤ k → ¬ At x y x.length k) →
    joinL z ((partsFrom x y.length a cuts).map (·.cps.toList)) = rp y.cps.toList z 0 (x.cps.toList.drop a)
  | [], a, f, ha, h, hn => by
    have e : f = a := h
    subst e
    have lx : x.cps.toList.length = x.length := by simp [Str.length]
    rw [rp_none (by simpa [Str.length] using hy) fun k hk => ?_]
    · show (strSub x f x.length).cps.toList = _
      rw [strSub_toList, List.take_of_length_le (by rw [List.length_drop, lx]; exact Nat.le_refl _)]
    · rw [List.drop_drop] at hk
      exact hn _ (Nat.le_add_right _ _) (prefix_at hy hk)
  | c :: r, a, f, ha, h, hn => by
    obtain ⟨h1, h2, h3, h4⟩ := h
    have hc := h2.1
    have lx : x.cps.toList.length = x.length := by simp [Str.length]
    have ly : y.cps.toList.length = y.length := by simp [Str.length]
    obtain ⟨p, q, e⟩ := partsFrom_ne x y.length (c + y.length) r
    have ih := parts_rp hy z r (c + y.length) f hc h4 hn
    have main : joinL z ((partsFrom x y.length a (c :: r)).map (·.cps.toList)) = (strSub x a c).cps.toList ++ z ++ joinL z ((partsFrom x y.length (c + y.length) r).map (·.cps.toList)) := by
      show joinL z ((strSub x a c).cps.toList :: (partsFrom x y.length (c + y.length) r).map (·.cps.toList)) = _
      rw [e]
      rfl
    rw [main, ih, strSub_toList]
    rw [rp_on (c - a) (x.cps.toList.drop a) (by rw [List.length_drop, lx]; omega) fun k hk hk2 => h3 (a + k) (by omega) (by omega) (prefix_at hy (by rw [List.drop_drop] at hk2; exact hk2))]
    rw [List.drop_drop, show a + (c - a) = c by omega, rp_at (by rw [ly]; exact hy) (at_prefix.mp h2).2, List.drop_drop, ly, List.append_assoc]
/-- x.replace(y, z) -/
theorem replace_list {x y z : Str} (hy : 1 ≤ y.length) : (Txt.replace x y z).cps.toList = rp y.cps.toList z.cps.toList 0 x.cps.toList := by
  obtain ⟨f, h, hn⟩ := occ_tight x y hy
  have key := parts_rp hy z.cps.toList _ 0 f (Nat.zero_le _) h hn
  rw [List.drop_zero] at key
  rw [← key, ← join_list, ← partsBetween_eq, ← glued_eq_join]
  unfold Txt.replace
  have y0 : (y.length == 0) = false := beq_eq_false_iff_ne.mpr (by omega)
  rw [y0, Bool.false_and, Bool.or_false]
  cases he : (occurrences x y 0 x.length (x.length + 1)).isEmpty with
  | false => rw [if_neg Bool.false_ne_true]
  | true =>
    rw [if_pos rfl, List.isEmpty_iff.mp he, glued_eq_join, partsBetween_eq]
    show _ = (strSub x 0 x.length).cps.toList
    rw [sub_whole]
/-- lists without c that are joined by it are told by what comes out -/
theorem joinL_inj {c : Nat} : ∀ {ps qs : List (List Nat)}, ps ≠ [] → qs ≠ [] → (∀ p ∈ ps, c ∉ p) → (∀ q ∈ qs, c ∉ q) → joinL [c] ps = joinL [c] qs → ps = qs := by
  have first : ∀ {a b r s : List Nat}, c ∉ a → c ∉ b → a ++ [c] ++ r = b ++ [c] ++ s → a = b ∧ r = s := by
    intro a
    induction a with
    | nil =>
      intro b r s _ hb e
      cases b with
      | nil => exact ⟨rfl, by simpa using e⟩
      | cons d b =>
        simp at e
        exact absurd (by rw [e.1]; exact List.mem_cons_self) hb
    | cons d a ih =>
      intro b r s ha hb e
      cases b with
      | nil =>
        simp at e
        exact absurd (by rw [← e.1]; exact List.mem_cons_self) ha
      | cons d' b =>
        simp only [List.cons_append, List.cons.injEq] at e
        obtain ⟨e1, e2⟩ := e
        obtain ⟨e3, e4⟩ := ih (fun z => ha (List.mem_cons_of_mem _ z)) (fun z => hb (List.mem_cons_of_mem _ z)) e2
        exact ⟨by rw [e1, e3], e4⟩
  intro ps
  induction ps with
  | nil => exact fun h => absurd rfl h
  | cons a ps ih =>
    intro qs _ hq fp fq e
    cases qs with
    | nil => exact absurd rfl hq
    | cons b qs =>
      have fa := fp a List.mem_cons_self
      have fb := fq b List.mem_cons_self
      cases ps with
      | nil =>
        cases qs with
        | nil =>
          have e : a = b := e
          rw [e]
        | cons b2 qs =>
          have e : a = b ++ [c] ++ joinL [c] (b2 :: qs) := e
          exact absurd (by rw [e]; simp) fa
      | cons a2 ps =>
        cases qs with
        | nil =>
          have e : a ++ [c] ++ joinL [c] (a2 :: ps) = b := e
          exact absurd (by rw [← e]; simp) fb
        | cons b2 qs =>
          have e : a ++ [c] ++ joinL [c] (a2 :: ps) = b ++ [c] ++ joinL [c] (b2 :: qs) := e
          obtain ⟨e1, e2⟩ := first fa fb e
          rw [e1, ih (by simp) (by simp) (fun p hp => fp p (List.mem_cons_of_mem _ hp)) (fun q hq => fq q (List.mem_cons_of_mem _ hq)) e2]
theorem split_ne (x y : Str) : Txt.split x y ≠ [] := by
  unfold Txt.split
  split
  · simp
  · split
    · simp
    · rw [partsBetween_eq]
      obtain ⟨p, q, e⟩ := partsFrom_ne x y.length 0 (occurrences x y 0 x.length (x.length + 1))
      rw [e]
      simp
/-- x.split(c), x being made of parts without c -/
theorem split_list {x : Str} {c : Nat} {ps : List (List Nat)} (hp : ps ≠ []) (fp : ∀ p ∈ ps, c ∉ p) (e : x.cps.toList = joinL [c] ps) : (Txt.split x ⟨#[c]⟩).map (·.cps.toList) = ps := by
  refine joinL_inj (c := c) (fun z => split_ne x ⟨#[c]⟩ (List.map_eq_nil_iff.mp z)) hp (fun p hp => ?_) fp ?_
  · obtain ⟨q, hq, rfl⟩ := List.mem_map.mp hp
    exact split_free x c q hq
  · rw [← e]
    have := join_list ⟨#[c]⟩ (Txt.split x ⟨#[c]⟩)
    rw [join_split] at this
    exact this.symm
/-! ### the words of a text -/
def wl (sp : Nat → Bool) : List Nat → List Nat → List (List Nat)
  | [], [] => []
  | cur, [] => [cur]
  | cur, c :: r => if sp c = true then (if cur = [] then wl sp [] r else cur :: wl sp [] r) else wl sp (cur ++ [c]) r
def subL (x : Str) (p : Nat × Nat) : List Nat := (x.cps.toList.drop p.1).take (p.2 - p.1)
def curL (x : Str) (cur : Nat) : Option Nat → List Nat
  | none => []
  | some b => subL x (b, cur)
theorem subL_snoc {x : Str} {b cur c : Nat} (hb : b ≤ cur) (h : x.cps.toList[cur]? = some c) : subL x (b, cur + 1) = subL x (b, cur) ++ [c] := by
  unfold subL
  rw [show cur + 1 - b = (cur - b) + 1 by omega, List.take_add_one, List.getElem?_drop, show b + (cur - b) = cur by omega, h]
  rfl
theorem words_run (x : Str) (limit : Nat) (hl : x.length < limit) : ∀ (m cur : Nat) (ws : Array (Nat × Nat)) (st : Option Nat), cur + m = x.length → ws.size ≤ cur → (∀ b, st = some b → b < cur ∧ ws.size ≤ b) →
    (swEnd x (forIn (List.range' cur m) ((none, ws, st) : SwSt) (swBody x limit)).run).map (subL x) = ws.toList.map (subL x) ++ wl Unicode.isSpace (curL x cur st) (x.cps.toList.drop cur)
  | 0, cur, ws, st, hc, hz, hs => by
    have lx : x.cps.toList.length = x.length := by simp [Str.length]
    rw [show List.range' cur 0 = [] from rfl, List.forIn_nil]
    rw [List.drop_of_length_le (show x.cps.toList.length ≤ cur by omega)]
    cases st with
    | none =>
      show ws.toList.map (subL x) = _
      simp [curL, wl]
    | some b =>
      obtain ⟨h1, h2⟩ := hs b rfl
      show (ws.push (b, x.length)).toList.map (subL x) = _
      have ne : subL x (b, x.length) ≠ [] := fun z => by
        have := congrArg List.length z
        unfold subL at this
        rw [List.length_take, List.length_drop, lx] at this
        simp at this
        omega
      have ec : cur = x.length := by omega
      subst ec
      rw [Array.toList_push, List.map_append]
      congr 1
      show [subL x (b, x.length)] = wl Unicode.isSpace (subL x (b, x.length)) []
      cases h : subL x (b, x.length) with
      | nil => exact absurd h ne
      | cons a r => rfl
  | m + 1, cur, ws, st, hc, hz, hs => by
    have lx : x.cps.toList.length = x.length := by simp [Str.length]
    have hlt : cur < x.cps.toList.length := by omega
    have hget : x.cps.toList[cur]? = some x.cps.toList[cur] := List.getElem?_eq_getElem hlt
    have hD : x.cps.getD cur 0 = x.cps.toList[cur] := by
      have hlt' : cur < x.cps.size := by simpa using hlt
      simp [Array.getD, hlt']
    rw [List.range'_succ, List.forIn_cons, List.drop_eq_getElem_cons hlt]
    have hsz : ¬ ((ws.size == limit) = true) := by
      rw [beq_iff_eq]
      omega
    unfold swBody
    simp only [hsz, if_false, hD]
    generalize x.cps.toList[cur] = c at hget
    cases st with
    | none =>
      cases hsp : Unicode.isSpace c with
      | false =>
        have ih := words_run x limit hl m (cur + 1) ws (some cur) (by omega) (by omega) (fun b e => by cases e; omega)
        rw [wl, hsp, if_neg Bool.false_ne_true]
        refine ih.trans ?_
        show _ ++ wl Unicode.isSpace (subL x (cur, cur + 1)) _ = _ ++ wl Unicode.isSpace ([] ++ [c]) _
        rw [subL_snoc (Nat.le_refl _) hget]
        have e0 : subL x (cur, cur) = [] := by
          unfold subL
          rw [Nat.sub_self, List.take_zero]
        rw [e0]
      | true =>
        have ih := words_run x limit hl m (cur + 1) ws none (by omega) (by omega) (fun b e => by cases e)
        rw [wl, hsp, if_pos rfl]
        show _ = _ ++ (if ([] : List Nat) = [] then _ else _)
        rw [if_pos rfl]
        exact ih
    | some b =>
      obtain ⟨h1, h2⟩ := hs b rfl
      have ne : subL x (b, cur) ≠ [] := fun z => by
        have := congrArg List.length z
        unfold subL at this
        rw [List.length_take, List.length_drop, lx] at this
        simp at this
        omega
      cases hsp : Unicode.isSpace c with
      | false =>
        have ih := words_run x limit hl m (cur + 1) ws (some b) (by omega) (by omega) (fun b' e => by cases e; omega)
        rw [wl, hsp, if_neg Bool.false_ne_true]
        refine ih.trans ?_
        show _ ++ wl Unicode.isSpace (subL x (b, cur + 1)) _ = _ ++ wl Unicode.isSpace (subL x (b, cur) ++ [c]) _
        rw [subL_snoc (by omega) hget]
      | true =>
        have ih := words_run x limit hl m (cur + 1) (ws.push (b, cur)) none (by omega) (by rw [Array.size_push]; omega) (fun b' e => by cases e)
        rw [wl, hsp, if_pos rfl]
        refine ih.trans ?_
        show _ = _ ++ (if subL x (b, cur) = [] then _ else _)
        rw [if_neg ne, Array.toList_push, List.map_append, List.append_assoc]
        rfl
theorem space_words (x : Str) : (spaceWords x (x.length + 1)).map (subL x) = wl Unicode.isSpace [] x.cps.toList := by
  rw [sw_eq]
  have key := words_run x (x.length + 1) (Nat.lt_succ_self _) x.length 0 #[] none (by omega) (by simp) (fun b e => by cases e)
  rw [List.drop_zero] at key
  exact key
theorem words_list (x : Str) : (Txt.words x).map (·.cps.toList) = wl Unicode.isSpace [] x.cps.toList := by
  rw [← space_words]
  unfold Txt.words
  split
  · rename_i h
    rw [beq_iff_eq] at h
    rw [h]
    show [x.cps.toList] = [subL x (0, x.length)]
    have lx : x.cps.toList.length = x.length := by simp [Str.length]
    unfold subL
    rw [List.drop_zero, Nat.sub_zero, List.take_of_length_le (by omega)]
  · unfold wordsOf
    rw [List.map_map]
    refine List.map_congr_left fun p _ => ?_
    exact strSub_toList x p.1 p.2
end TX
namespace TX
open PySem PySem.Builtin PySem.Builtin.Str PySem.StrLaws
/-! ### blanks around signs -/
theorem rp_one {c : Nat} {z : List Nat} : ∀ l : List Nat, rp [c] z 0 l = l.flatMap fun d => if d = c then z else [d]
  | [] => rfl
  | d :: l => by
    rw [rp, List.flatMap_cons]
    by_cases h : d = c
    · subst h
      rw [if_pos (by simp), if_pos rfl]
      show z ++ rp [d] z 0 l = _
      rw [rp_one l]
    · rw [if_neg (by simpa using fun z => h z.symm), if_neg h, rp_one l]
      rfl
/-- each of the signs S with blanks around it -/
def apart (S : List Nat) (d : Nat) : List Nat := if d ∈ S then [32, d, 32] else [d]
theorem apart_one {S : List Nat} {c : Nat} (h : c ∉ S) (hc : c ≠ 32) (l : List Nat) : rp [c] [32, c, 32] 0 (l.flatMap (apart S)) = l.flatMap (apart (c :: S)) := by
  rw [rp_one, List.flatMap_assoc]
  congr 1
  funext d
  unfold apart
  by_cases hd : d ∈ S
  · have n1 : d ≠ c := fun z => h (z ▸ hd)
    rw [if_pos hd, if_pos (List.mem_cons_of_mem _ hd)]
    simp [n1, Ne.symm hc]
  · rw [if_neg hd]
    by_cases e : d = c
    · subst e
      simp
    · rw [if_neg (by simp [e, hd])]
      simp [e]
def sgs : List Nat := [33, 62, 60, 51, 50, 49, 48, 61, 45, 43, 42, 46, 58, 93, 91, 41, 40]
/-- as apart sgs; a sign of S and = behind it stay one -/
def pairs (S : List Nat) : Bool → List Nat → List Nat
  | _, [] => []
  | true, _ :: r => pairs S false r
  | false, d :: r => if d ∈ S ∧ r.head? = some 61 then [32, d, 61, 32] ++ pairs S true r else apart sgs d ++ pairs S false r
theorem pairs_nil : ∀ l : List Nat, pairs [] false l = l.flatMap (apart sgs)
  | [] => rfl
  | d :: l => by
    rw [pairs, if_neg (fun z => nomatch z.1), List.flatMap_cons, pairs_nil l]
theorem mem_sgs : 61 ∈ sgs ∧ 32 ∉ sgs := by decide
/-- what comes first is a blank or no sign -/
theorem pairs_head {S : List Nat} : ∀ (l : List Nat) {a : Nat}, (pairs S false l).head? = some a → a = 32 ∨ a ∉ sgs
  | [], a, h => by simp [pairs] at h
  | d :: r, a, h => by
    rw [pairs] at h
    split at h
    · exact .inl (by simpa using h.symm)
    · unfold apart at h
      by_cases hd : d ∈ sgs
      · rw [if_pos hd] at h
        exact .inl (by simpa using h.symm)
      · rw [if_neg hd] at h
        have : d = a := by simpa using h
        exact .inr (this ▸ hd)
theorem pairs_two {S : List Nat} (hS : ∀ d ∈ S, d ≠ 61) {l : List Nat} {b : Nat} {q : List Nat} (h : pairs S false l = 32 :: b :: q) (hb : b = 61) : l.head? = some 61 := by
  subst hb
  cases l with
  | nil => simp [pairs] at h
  | cons d r =>
    rw [pairs] at h
    split at h
    · rename_i hd
      have : d = 61 := by
        simp only [List.cons_append, List.cons.injEq] at h
        exact h.2.1
      exact absurd this (hS d hd.1)
    · unfold apart at h
      by_cases hd : d ∈ sgs
      · rw [if_pos hd] at h
        have : d = 61 := by
          simp only [List.cons_append, List.cons.injEq] at h
          exact h.2.1
        rw [this]
        rfl
      · rw [if_neg hd] at h
        have h2 : pairs S false r = 61 :: q := by
          simp only [List.cons_append, List.nil_append, List.cons.injEq] at h
          exact h.2
        rcases pairs_head r (a := 61) (by rw [h2]; rfl) with z | z
        · cases z
        · exact absurd mem_sgs.1 z
theorem pairs_true {S : List Nat} {r : List Nat} (h : r.head? = some 61) : ∃ r', r = 61 :: r' ∧ pairs S true r = pairs S false r' := by
  cases r with
  | nil => cases h
  | cons c r' =>
    have : c = 61 := by simpa using h
    exact ⟨r', by rw [this], rfl⟩
theorem pass {p w rest : List Nat} {z : List Nat} (h : ∀ k, k < w.length → ¬ p <+: (w ++ rest).drop k) : rp p z 0 (w ++ rest) = w ++ rp p z 0 rest := by
  rw [rp_on w.length (w ++ rest) (by simp) h]
  simp
theorem six {s : Nat} {l : List Nat} (h : [32, s, 32, 32, 61, 32] <+: l) : ∃ q, l = 32 :: s :: 32 :: 32 :: 61 :: 32 :: q := by
  obtain ⟨q, e⟩ := h
  exact ⟨q, e.symm⟩
theorem pairs_step {S : List Nat} {s : Nat} (h1 : s ∈ sgs) (h2 : s ≠ 61) (h3 : s ∉ S) (hS : ∀ d ∈ S, d ∈ sgs ∧ d ≠ 61) : ∀ (n : Nat) (l : List Nat), l.length ≤ n → rp [32, s, 32, 32, 61, 32] [32, s, 61, 32] 0 (pairs S false l) = pairs (s :: S) false l
  | _, [], _ => rfl
  | 0, d :: r, h => by simp at h
  | n + 1, d :: r, h => by
    have s32 : s ≠ 32 := fun z => mem_sgs.2 (z ▸ h1)
    have hd61 : ∀ d ∈ S, d ≠ 61 := fun d hd => (hS d hd).2
    have n61 : 61 ∉ S := fun z => hd61 61 z rfl
    have hs : ∀ {l : List Nat} {q : List Nat}, pairs S false l = s :: q → False := fun {l q} e => by
      rcases pairs_head l (a := s) (by rw [e]; rfl) with z | z
      · exact s32 z
      · exact z h1
    have len : r.length ≤ n := by simpa using h
    by_cases hc : d = s ∧ r.head? = some 61
    · obtain ⟨rfl, hr⟩ := hc
      obtain ⟨r', rfl, _⟩ := pairs_true (S := S) hr
      have e1 : pairs S false (d :: 61 :: r') = [32, d, 32, 32, 61, 32] ++ pairs S false r' := by
        rw [pairs, if_neg (fun z => h3 z.1), pairs, if_neg (fun z => n61 z.1)]
        unfold apart
        rw [if_pos h1, if_pos mem_sgs.1]
        rfl
      have e2 : pairs (d :: S) false (d :: 61 :: r') = [32, d, 61, 32] ++ pairs (d :: S) false r' := by
        rw [pairs, if_pos ⟨List.mem_cons_self, rfl⟩]
        rfl
      rw [e1, e2, rp_at (by simp) (List.prefix_append _ _)]
      congr 1
      have := pairs_step h1 h2 h3 hS n r' (by simp at len; omega)
      simpa using this
    · by_cases hd : d ∈ S ∧ r.head? = some 61
      · obtain ⟨r', rfl, _⟩ := pairs_true (S := S) hd.2
        have ds : d ≠ s := fun z => h3 (z ▸ hd.1)
        have d32 : d ≠ 32 := fun z => mem_sgs.2 (z ▸ (hS d hd.1).1)
        have e1 : pairs S false (d :: 61 :: r') = [32, d, 61, 32] ++ pairs S false r' := by
          rw [pairs, if_pos hd]
          rfl
        have e2 : pairs (s :: S) false (d :: 61 :: r') = [32, d, 61, 32] ++ pairs (s :: S) false r' := by
          rw [pairs, if_pos ⟨List.mem_cons_of_mem _ hd.1, rfl⟩]
          rfl
        rw [e1, e2, pass fun k hk hp => ?_, pairs_step h1 h2 h3 hS n r' (by simp at len; omega)]
        obtain ⟨q, e⟩ := six hp
        obtain rfl | rfl | rfl | rfl : k = 0 ∨ k = 1 ∨ k = 2 ∨ k = 3 := by
          simp at hk
          omega
        · simp at e
        · simp at e
          exact d32 e.1
        · simp at e
        · simp at e
          exact hs e
      · have e1 : pairs S false (d :: r) = apart sgs d ++ pairs S false r := by rw [pairs, if_neg hd]
        have e2 : pairs (s :: S) false (d :: r) = apart sgs d ++ pairs (s :: S) false r := by
          rw [pairs, if_neg fun z => ?_]
          rcases List.mem_cons.mp z.1 with y | y
          · exact hc ⟨y, z.2⟩
          · exact hd ⟨y, z.2⟩
        rw [e1, e2, pass fun k hk hp => ?_, pairs_step h1 h2 h3 hS n r len]
        obtain ⟨q, e⟩ := six hp
        unfold apart at hk e
        by_cases hg : d ∈ sgs
        · have d32 : d ≠ 32 := fun z => mem_sgs.2 (z ▸ hg)
          rw [if_pos hg] at hk e
          obtain rfl | rfl | rfl : k = 0 ∨ k = 1 ∨ k = 2 := by
            simp at hk
            omega
          · simp at e
            exact hc ⟨e.1, pairs_two hd61 e.2 rfl⟩
          · simp at e
            exact d32 e.1
          · simp at e
            exact hs e
        · rw [if_neg hg] at hk e
          obtain rfl : k = 0 := by
            simp at hk
            omega
          simp at e
          exact hs e.2
theorem apart_len {S : List Nat} : ∀ l : List Nat, (l.flatMap (apart S)).length ≤ 3 * l.length
  | [] => Nat.le_refl _
  | d :: l => by
    have := apart_len (S := S) l
    rw [List.flatMap_cons, List.length_append, List.length_cons]
    unfold apart at this ⊢
    split
    · simp only [List.length_cons, List.length_nil]
      omega
    · simp only [List.length_cons, List.length_nil]
      omega
theorem pairs_len {S : List Nat} : ∀ (n : Nat) (l : List Nat), l.length ≤ n → (pairs S false l).length ≤ 3 * l.length
  | _, [], _ => Nat.le_refl _
  | 0, d :: r, h => by simp at h
  | n + 1, d :: r, h => by
    have len : r.length ≤ n := by simpa using h
    rw [pairs]
    split
    · rename_i hd
      obtain ⟨r', rfl, e⟩ := pairs_true (S := S) hd.2
      rw [e]
      have := pairs_len (S := S) n r' (by simp at len; omega)
      simp only [List.length_append, List.length_cons, List.length_nil]
      omega
    · have := pairs_len (S := S) n r len
      unfold apart
      split <;> simp only [List.length_append, List.length_cons, List.length_nil] <;> omega
/-- behind one replacement of a sign -/
def Apart (S : List Nat) (n : Nat) (x : Str) (l : List Nat) : Prop := x.cps.toList = l.flatMap (apart S) ∧ l.length ≤ n
theorem Apart.len {S : List Nat} {n : Nat} {x : Str} {l : List Nat} (h : Apart S n x l) : x.length ≤ 3 * n := by
  have a := apart_len (S := S) l
  have e : x.cps.toList.length = x.length := by simp [Str.length]
  rw [h.1] at e
  have := h.2
  omega
theorem Apart.next {S : List Nat} {n c : Nat} {x y z : Str} {l : List Nat} (h : Apart S n x l) (hy : y.cps.toList = [c]) (hz : z.cps.toList = [32, c, 32]) (hc : c ∉ S) (c32 : c ≠ 32) : Apart (c :: S) n (Txt.replace x y z) l := by
  have ly : y.length = 1 := by
    have : y.cps.toList.length = y.length := by simp [Str.length]
    rw [← this, hy]
    rfl
  refine ⟨?_, h.2⟩
  rw [replace_list (by omega), hy, hz, h.1, apart_one hc c32]
/-- behind one replacement of a pair -/
def Pairs (S : List Nat) (n : Nat) (x : Str) (l : List Nat) : Prop := x.cps.toList = pairs S false l ∧ l.length ≤ n
theorem Pairs.len {S : List Nat} {n : Nat} {x : Str} {l : List Nat} (h : Pairs S n x l) : x.length ≤ 3 * n := by
  have a := pairs_len (S := S) l.length l (Nat.le_refl _)
  have e : x.cps.toList.length = x.length := by simp [Str.length]
  rw [h.1] at e
  have := h.2
  omega
theorem Apart.pairs {n : Nat} {x : Str} {l : List Nat} (h : Apart sgs n x l) : Pairs [] n x l := ⟨by rw [h.1, pairs_nil], h.2⟩
theorem Pairs.next {S : List Nat} {n s : Nat} {x y z : Str} {l : List Nat} (h : Pairs S n x l) (hy : y.cps.toList = [32, s, 32, 32, 61, 32]) (hz : z.cps.toList = [32, s, 61, 32]) (h1 : s ∈ sgs) (h2 : s ≠ 61) (h3 : s ∉ S) (hS : ∀ d ∈ S, d ∈ sgs ∧ d ≠ 61) : Pairs (s :: S) n (Txt.replace x y z) l := by
  have ly : y.length = 6 := by
    have : y.cps.toList.length = y.length := by simp [Str.length]
    rw [← this, hy]
    rfl
  refine ⟨?_, h.2⟩
  rw [replace_list (by omega), hy, hz, h.1, pairs_step h1 h2 h3 hS _ _ (Nat.le_refl _)]
theorem rep_fits {n : Nat} {x : Str} {k : Nat} (h : x.length ≤ 3 * n) (hn : n ≤ 200000) (hk : k ≤ 6) : x.length + (x.length + 1) * k ≤ 16777216 := by
  have a : (x.length + 1) * k ≤ (3 * n + 1) * 6 := Nat.mul_le_mul (by omega) hk
  omega
/-- lines stay lines -/
theorem pairs_line {S : List Nat} (hS : ∀ d ∈ S, d ∈ sgs) : ∀ (n : Nat) (a b : List Nat), a.length ≤ n → pairs S false (a ++ 10 :: b) = pairs S false a ++ 10 :: pairs S false b
  | _, [], b, _ => by
    have n10 : (10 : Nat) ∉ sgs := by decide
    show pairs S false (10 :: b) = 10 :: pairs S false b
    rw [pairs, if_neg fun z => n10 (hS _ z.1)]
    unfold apart
    rw [if_neg n10]
    rfl
  | 0, d :: a, b, h => by simp at h
  | n + 1, d :: a, b, h => by
    have len : a.length ≤ n := by simpa using h
    show pairs S false (d :: (a ++ 10 :: b)) = _
    by_cases hd : d ∈ S ∧ a.head? = some 61
    · obtain ⟨a', rfl, e⟩ := pairs_true (S := S) hd.2
      have h2 : pairs S false (d :: (61 :: a' ++ 10 :: b)) = [32, d, 61, 32] ++ pairs S false (a' ++ 10 :: b) := by
        rw [pairs, if_pos ⟨hd.1, rfl⟩]
        rfl
      have h3 : pairs S false (d :: 61 :: a') = [32, d, 61, 32] ++ pairs S false a' := by
        rw [pairs, if_pos hd]
        rfl
      rw [h2, h3, pairs_line hS n a' b (by simp at len; omega), List.append_assoc]
    · have hd2 : ¬ (d ∈ S ∧ (a ++ 10 :: b).head? = some 61) := fun z => by
        cases a with
        | nil => simp at z
        | cons c a => exact hd ⟨z.1, by simpa using z.2⟩
      have h2 : pairs S false (d :: (a ++ 10 :: b)) = apart sgs d ++ pairs S false (a ++ 10 :: b) := by rw [pairs, if_neg hd2]
      have h3 : pairs S false (d :: a) = apart sgs d ++ pairs S false a := by rw [pairs, if_neg hd]
      rw [h2, h3, pairs_line hS n a b len, List.append_assoc]
theorem pairs_lines {S : List Nat} (hS : ∀ d ∈ S, d ∈ sgs) : ∀ ls : List (List Nat), pairs S false (joinL [10] ls) = joinL [10] (ls.map (pairs S false))
  | [] => rfl
  | [a] => rfl
  | a :: b :: r => by
    have ih := pairs_lines hS (b :: r)
    show pairs S false (a ++ [10] ++ joinL [10] (b :: r)) = pairs S false a ++ [10] ++ joinL [10] ((b :: r).map (pairs S false))
    rw [List.append_assoc, List.append_assoc, ← ih]
    exact pairs_line hS _ a _ (Nat.le_refl _)
theorem pairs_no {S : List Nat} : ∀ (n : Nat) (l : List Nat), l.length ≤ n → 10 ∉ l → 10 ∉ pairs S false l
  | _, [], _, _ => by simp [pairs]
  | 0, d :: r, h, _ => by simp at h
  | n + 1, d :: r, h, hn => by
    have len : r.length ≤ n := by simpa using h
    have d10 : (10 : Nat) ≠ d := fun z => hn (z ▸ List.mem_cons_self)
    have r10 : 10 ∉ r := fun z => hn (List.mem_cons_of_mem _ z)
    rw [pairs]
    split
    · rename_i hd
      obtain ⟨r', rfl, e⟩ := pairs_true (S := S) hd.2
      rw [e]
      have := pairs_no (S := S) n r' (by simp at len; omega) fun z => r10 (List.mem_cons_of_mem _ z)
      simp [d10, this]
    · have := pairs_no (S := S) n r len r10
      unfold apart
      split <;> simp [d10, this]
end TX
namespace TX
open PySem PySem.Spec PyProof.Rows L2
/-! ### tests and statements where a token is out -/
def PTT (X : Cx) (e : Expr) (t : TT) : Prop := ∀ (pins : List (Addr × Obj)) (s : Shared) (σ : L2.St) (H : Hp) (Q : Bool → Hp → Prop), 1 ≤ s.toks → Inv X pins σ H s → t σ H Q → wpAny (model X.prog X.w) X.A (isTrue e X.env (eval e X.env)) (TP X pins σ Q) X.xe s
def PWT (X : Cx) (e : Expr) (t : TT) : Prop := ∀ (whole : Sem Value) (pins : List (Addr × Obj)) (s : Shared) (σ : L2.St) (H : Hp) (Q : Bool → Hp → Prop), 1 ≤ s.toks → Inv X pins σ H s → t σ H Q → wpAny (model X.prog X.w) X.A (isTrue e X.env whole) (TP X pins σ Q) X.xe s
section
variable {X : Cx} {e a b o : Expr} {rest : List Expr} {te to : TE} {tA tB' tc : TT} {pos pos' apos : Pos}
theorem PTT.of {t : TT} (h : PT X e t) : PTT X e t := fun pins s σ H Q _ I q => h.run pins s σ H Q I q
theorem PWT.pt {t : TT} (h : PWT X e t) : PTT X e t := fun pins s σ H Q n I q => h _ pins s σ H Q n I q
theorem ptt_val (h : PET X e te) (he : ∀ whole, isTrue e X.env whole = (do let v ← whole; standAt e.pos; holding [v] (truthy v)) := by intro _; rfl) : PTT X e (tB te) := by
  intro pins s σ H Q n I hq
  refine isTrue_plain (thn (h pins s σ H _ n I hq) fun v s1 ⟨x, H1, I1, r1, q1⟩ => ?_) (he _)
  obtain ⟨d, rfl, q⟩ := q1
  cases r1
  exact wpAny_truthy_bool ⟨H1, I1, q⟩
theorem pwt_and1 (h : PTT X a tA) : PWT X (.BoolOp .And [a] pos) tA := by
  intro wh pins s σ H Q n I hq
  refine isTrue_and (thn (h pins s σ H Q n I hq) fun c s1 z => ?_)
  cases c with
  | false => exact z
  | true => exact isTrue_and_nil z
theorem pwt_and (h : PTT X a tA) (g : PWT X (.BoolOp .And (b :: rest) pos) tB') : PWT X (.BoolOp .And (a :: b :: rest) pos) (tAnd tA tB') := by
  intro wh pins s σ H Q n I hq
  refine isTrue_and (wpAny_mono (PySem.wpAny_toks (h pins s σ H _ n I hq)) (fun c s1 z => ?_) fun _ _ z => z.2)
  obtain ⟨le, H1, I1, q1⟩ := z
  cases c with
  | false => exact ⟨H1, I1, q1⟩
  | true => exact g wh pins s1 σ H1 Q (Nat.le_trans n le) I1 q1
theorem pst_ifT {x y : List Stmt} {t u : TS} (h : PTT X a tc) (hx : PSsT X x t) (hy : PSsT X y u) : PST X (.If a x y pos) (tIfS tc t u) := by
  intro pins s σ H D n I hq
  refine wpAny_If (wpAny_mono (PySem.wpAny_toks (h pins s σ H _ n I hq)) (fun c s1 z => ?_) fun _ _ z => z.2)
  obtain ⟨le, H1, I1, q1⟩ := z
  cases c with
  | false => exact hy pins s1 σ H1 D (Nat.le_trans n le) I1 q1
  | true => exact hx pins s1 σ H1 D (Nat.le_trans n le) I1 q1
/-- x = e -/
theorem pst_set {i : Nat} {x : Str} (hN : X.N.Nodup) (hi : X.N[i]? = some x) (hx : Loc X.env.scope x) (he : PET X e te) (hs : swapsWith e (some (.Name x pos')) pos.line X.env = pure false := by rfl) (hf : X.fn x = true ∨ X.env.scope.names.lookup x = some .local := by first | exact .inl rfl | exact .inr rfl | assumption) :
    PST X (.Assign [.Name x pos'] e pos) (tAsg te (gName i)) := by
  intro pins s σ H D n I h
  refine wpAny_Assign_Name (thn (he pins s σ H _ n I h) fun v s1 ⟨y, H1, I1, r1, q1⟩ => ?_) hs
  exact store_ok I1 hN hi hx r1 (fun s2 I2 => ⟨_, H1, I2, q1⟩) hf
/-- e.m() of a text -/
theorem pet_m0 {id : String} {name : Str} {r : V → List V → Hp → VK → Prop} (slot : Slot "str" name id) (ty : typeOf (.builtin id) = pure (.type "method_descriptor")) (rule : MtR X id r) (ho : PET X o to)
    (hbase : attributeBase o name X.env (eval o X.env) = eval o X.env := by rfl) (hline : (apos.endLine == pos.line) = true := by rfl) : PET X (.Call (.Attribute o name apos) [] [] pos) (tM0 r to) := by
  intro pins s σ H Q n I h
  refine wpAny_Call_method0_late hbase hline (thn (ho pins s σ H _ n I h) fun v s1 ⟨x, H1, I1, r1, q1⟩ => ?_)
  obtain ⟨⟨z, rfl⟩, q1⟩ := q1
  obtain ⟨t, rfl⟩ := _root_.id r1
  exact ⟨"str", id, PySem.F.plainAttrs_str, slot, ty, typeIs_str _ _ _, (fun _ e => nomatch e), Calls.callWith_builtin rfl (PySem.evalArgs_none (rule pins s1 σ H1 _ [] _ [] Q I1 r1 .nil q1))⟩
end
/-- a def whose body begins with a token out -/
theorem fun_okT {CXT0 : CXT} {P : Program} {w : World} {K : PySem.W.Frag} {mg : Str → Option Value} {base : Heap} {x qual : Str} {st : Stmt} {f : Addr} {fd : FuncData} {N ps : List Str} {k : Nat} {sp : Sp} (F : Fun K x qual st f fd) (S : FnScope N ps (defScope st)) (nc : ∀ y ∈ (defScope st).names, y.2 ≠ .cell) (hps : 1 ≤ ps.length) (len : ∀ vs H Q E, sp vs H Q E → vs.length = ps.length)
    (hb : ∀ (cdv : Value) (A : Around) (outer : List Env) (s : Shared) (H : Hp) (vs : List V) (Q : VK) (E : XK), Room k (A.deeper (envOfC qual (defScope st) s.heap.objs.size f cdv)) → sp vs H Q E → ∃ t, PSsT (cxOf CXT0 P w K mg base N qual (defScope st) f cdv A outer s H E) (defBody st) t ∧ t { nx := fun _ H' => Q .non H', rt := Q } (start N vs) H) : FnOk P w K mg base CXT0 (k + 1) f fd ps sp := by
  obtain ⟨oc, od, kV, doc, pm, an, cdv, ct, osl, e0, lk, hcd⟩ := F.ex
  subst e0
  exact fn_ofT lk hcd S nc hps len (hb cdv)
end TX
namespace TX
open PySem PySem.Spec PyProof.Rows L2
/-! ### tokens: cleaned, spread, rows_of -/
def dbls : List Nat := [62, 60, 33, 43]
def spSpread : Sp := fun vs H Q _ => ∃ x : Str, vs = [.str x] ∧ x.length ≤ 50000 ∧ ∀ y : Str, y.cps.toList = pairs dbls false x.cps.toList → Q (.str y) H
def plainT (x : Str) : Bool := Txt.isascii x && (Txt.islower x && Txt.isprintable (Txt.replace x "\n" " "))
def knownS : Str := "abcdefghijklmnopqrstuvwxyz0123456789()[]:.*+-=<>! \n"
def chS (c : Nat) : Str := ⟨#[c]⟩
def knownB (c : Nat) : Bool := !(Builtin.Str.occurrences knownS (chS c) 0 knownS.length 1).isEmpty
def clean1 (c : Nat) : Str := if knownB c = true then chS c else "~"
def cleanZ (x : Str) : Str := if plainT x = true then x else Txt.join "" (x.cps.toList.map clean1)
theorem clean_plain {x : Str} (h : plainT x = true) : cleanZ x = x := if_pos h
theorem txt_joinA (y : Str) (ts : List Str) : Txt.join y ts = Str.join y ts := by
  cases ts with
  | nil => rfl
  | cons t r => exact StrLaws.glued_cons y r t
theorem join_nil (zs : List Str) (h : ∀ z ∈ zs, z.length = 1) : (Txt.join "" zs).length = zs.length := by
  have e : ("" : Str).cps.toList = [] := rfl
  have hl : (Txt.join "" zs).length = (Txt.join "" zs).cps.toList.length := by simp [Str.length]
  rw [hl, txt_joinA, join_list, e]
  have key : ∀ ps : List (List Nat), (∀ p ∈ ps, p.length = 1) → (joinL [] ps).length = ps.length := by
    intro ps
    induction ps with
    | nil => exact fun _ => rfl
    | cons a r ih =>
      intro h
      cases r with
      | nil => exact h a List.mem_cons_self
      | cons b r =>
        have := ih fun p hp => h p (List.mem_cons_of_mem _ hp)
        show (a ++ [] ++ joinL [] (b :: r)).length = _
        rw [List.append_nil, List.length_append, this, h a List.mem_cons_self]
        simp
        omega
  rw [key _ fun p hp => ?_, List.length_map]
  obtain ⟨z, hz, rfl⟩ := List.mem_map.mp hp
  have := h z hz
  rw [← this]
  simp [Str.length]
theorem clean1_len (c : Nat) : (clean1 c).length = 1 := by
  unfold clean1
  split <;> rfl
theorem clean_len (x : Str) : (cleanZ x).length = x.length := by
  unfold cleanZ
  split
  · rfl
  · rw [join_nil _ fun z hz => ?_, List.length_map]
    · simp [Str.length]
    · obtain ⟨c, _, rfl⟩ := List.mem_map.mp hz
      exact clean1_len c
def spCleaned : Sp := fun vs H Q _ => ∃ x : Str, vs = [.str x] ∧ x.length ≤ 50000 ∧ ∀ H', Same H H' → Q (.str (cleanZ x)) H'
section
variable {P : Program} {w : World} {K : PySem.W.Frag} {mg : Str → Option Value} {base : Heap}
theorem scSpread : FnScope ["text"] ["text"] (defScope s_spread) := ⟨rfl, rfl, rfl, by decide +kernel, rfl, by decide +kernel, by decide +kernel⟩
theorem ok_spread {f : Addr} {fd : FuncData} (F : Fun K "spread" "spread" s_spread f fd) : FnOk P w K mg base CX0 1 f fd ["text"] spSpread := by
  refine fun_okT F scSpread (by decide +kernel) (by decide) (fun vs H Q E h => ?_) (fun cdv A outer s H vs Q E hr h => ?_)
  · obtain ⟨x, rfl, _⟩ := h
    rfl
  · obtain ⟨x, rfl, hx, q⟩ := h
    refine ⟨_, psst_cons (pst_set (i := 0) scSpread.nd rfl (.inl rfl) (CwR.pet_replT (CwR.pet_replT (CwR.pet_replT (CwR.pet_replT (CwR.pet_replC (pv 0))))))) <|
      psst_cons (pst_set (i := 0) scSpread.nd rfl (.inl rfl) (CwR.pet_replT (CwR.pet_replT (CwR.pet_replT (CwR.pet_replT (CwR.pet_replC (pv 0))))))) <|
      psst_cons (pst_set (i := 0) scSpread.nd rfl (.inl rfl) (CwR.pet_replT (CwR.pet_replT (CwR.pet_replT (CwR.pet_replC (pv 0)))))) <|
      psst_cons (pst_set (i := 0) scSpread.nd rfl (.inl rfl) (CwR.pet_replT (CwR.pet_replT (CwR.pet_replC (pv 0))))) <|
      CwR.psst_one (CwR.pst_ret (CwR.pet_replT (CwR.pet_replT (CwR.pet_replT (CwR.pet_replC (pv 0)))))), ?_⟩
    have fits : ∀ {y : Str} {k : Nat}, y.length ≤ 3 * 50000 → k ≤ 6 → y.length + (y.length + 1) * k ≤ 16777216 := fun h g => rep_fits h (by decide) g
    have a0 : Apart [] 50000 x x.cps.toList := by
      refine ⟨?_, by simpa [Str.length] using hx⟩
      have : (apart [] : Nat → List Nat) = fun d => [d] := by
        funext d
        unfold apart
        rw [if_neg (fun z => nomatch z)]
      rw [this]
      simp
    have a1 := a0.next (y := "(") (z := " ( ") (c := 40) (by decide +kernel) (by decide +kernel) (by decide) (by decide)
    have a2 := a1.next (y := ")") (z := " ) ") (c := 41) (by decide +kernel) (by decide +kernel) (by decide) (by decide)
    have a3 := a2.next (y := "[") (z := " [ ") (c := 91) (by decide +kernel) (by decide +kernel) (by decide) (by decide)
    have a4 := a3.next (y := "]") (z := " ] ") (c := 93) (by decide +kernel) (by decide +kernel) (by decide) (by decide)
    have a5 := a4.next (y := ":") (z := " : ") (c := 58) (by decide +kernel) (by decide +kernel) (by decide) (by decide)
    have a6 := a5.next (y := ".") (z := " . ") (c := 46) (by decide +kernel) (by decide +kernel) (by decide) (by decide)
    have a7 := a6.next (y := "*") (z := " * ") (c := 42) (by decide +kernel) (by decide +kernel) (by decide) (by decide)
    have a8 := a7.next (y := "+") (z := " + ") (c := 43) (by decide +kernel) (by decide +kernel) (by decide) (by decide)
    have a9 := a8.next (y := "-") (z := " - ") (c := 45) (by decide +kernel) (by decide +kernel) (by decide) (by decide)
    have a10 := a9.next (y := "=") (z := " = ") (c := 61) (by decide +kernel) (by decide +kernel) (by decide) (by decide)
    have a11 := a10.next (y := "0") (z := " 0 ") (c := 48) (by decide +kernel) (by decide +kernel) (by decide) (by decide)
    have a12 := a11.next (y := "1") (z := " 1 ") (c := 49) (by decide +kernel) (by decide +kernel) (by decide) (by decide)
    have a13 := a12.next (y := "2") (z := " 2 ") (c := 50) (by decide +kernel) (by decide +kernel) (by decide) (by decide)
    have a14 := a13.next (y := "3") (z := " 3 ") (c := 51) (by decide +kernel) (by decide +kernel) (by decide) (by decide)
    have a15 := a14.next (y := "<") (z := " < ") (c := 60) (by decide +kernel) (by decide +kernel) (by decide) (by decide)
    have a16 := a15.next (y := ">") (z := " > ") (c := 62) (by decide +kernel) (by decide +kernel) (by decide) (by decide)
    have a17 := a16.next (y := "!") (z := " ! ") (c := 33) (by decide +kernel) (by decide +kernel) (by decide) (by decide)
    have p0 := a17.pairs
    have p1 := p0.next (y := " +  = ") (z := " += ") (s := 43) (by decide +kernel) (by decide +kernel) (by decide) (by decide) (by decide) (by decide)
    have p2 := p1.next (y := " !  = ") (z := " != ") (s := 33) (by decide +kernel) (by decide +kernel) (by decide) (by decide) (by decide) (by decide)
    have p3 := p2.next (y := " <  = ") (z := " <= ") (s := 60) (by decide +kernel) (by decide +kernel) (by decide) (by decide) (by decide) (by decide)
    have p4 := p3.next (y := " >  = ") (z := " >= ") (s := 62) (by decide +kernel) (by decide +kernel) (by decide) (by decide) (by decide) (by decide)
    refine ⟨_, rfl, _, rfl, fits a0.len (by decide), _, rfl, fits a1.len (by decide), _, rfl, fits a2.len (by decide), _, rfl, fits a3.len (by decide), _, rfl, fits a4.len (by decide), ?_⟩
    refine ⟨_, rfl, _, rfl, fits a5.len (by decide), _, rfl, fits a6.len (by decide), _, rfl, fits a7.len (by decide), _, rfl, fits a8.len (by decide), _, rfl, fits a9.len (by decide), ?_⟩
    refine ⟨_, rfl, _, rfl, fits a10.len (by decide), _, rfl, fits a11.len (by decide), _, rfl, fits a12.len (by decide), _, rfl, fits a13.len (by decide), ?_⟩
    refine ⟨_, rfl, _, rfl, fits a14.len (by decide), _, rfl, fits a15.len (by decide), _, rfl, fits a16.len (by decide), ?_⟩
    exact ⟨_, rfl, _, rfl, fits p0.len (by decide), _, rfl, fits p1.len (by decide), _, rfl, fits p2.len (by decide), _, rfl, fits p3.len (by decide), q _ p4.1⟩
end
end TX
namespace TX
open PySem PySem.Spec PyProof.Rows L2
theorem delAt {H : Hp} {a : Addr} : del H a a = none := if_pos rfl
theorem delNe {H : Hp} {a b : Addr} (h : b ≠ a) : del H a b = H b := if_neg h
theorem delSub {H : Hp} {a : Addr} : Same (del H a) H := fun b o e => by
  by_cases h : b = a
  · rw [h, delAt] at e
    cases e
  · rw [delNe h] at e
    exact e
def leadL (l : List Nat) : Nat := (l.takeWhile (" " : Str).cps.contains).length
theorem lstrip_len (x : Str) : (Txt.lstripChars x " ").length + leadL x.cps.toList = x.length := by
  unfold Txt.lstripChars
  rw [stripBy_eq]
  have lx : x.cps.toList.length = x.length := by simp [Str.length]
  have h : leadL x.cps.toList ≤ x.length := by
    rw [← lx]
    exact (List.takeWhile_prefix _).length_le
  show (Builtin.Str.strSub x (leadL x.cps.toList) x.length).length + leadL x.cps.toList = x.length
  rw [StrLaws.sub_len x _ _ (Nat.le_refl _)]
  omega
def strOf (l : List Nat) : Str := ⟨l.toArray⟩
theorem strOf_list (x : Str) : strOf x.cps.toList = x := by simp [strOf]
/-- spaces ahead and tokens of a line -/
def rowOf (l : List Nat) : Nat × List Str := (leadL (pairs dbls false l), (wl Unicode.isSpace [] (pairs dbls false l)).map strOf)
def RowAt (H : Hp) (v : V) (r : Nat × List Str) : Prop := ∃ t a, v = .ref t ∧ H t = some (.tup [.int (r.1 : Nat), .ref a]) ∧ H a = some (.lst (r.2.map V.str))
inductive RowsAt (H : Hp) : List V → List (Nat × List Str) → Prop
  | nil : RowsAt H [] []
  | cons {v : V} {r : Nat × List Str} {vs : List V} {rs : List (Nat × List Str)} : RowAt H v r → RowsAt H vs rs → RowsAt H (v :: vs) (r :: rs)
theorem RowAt.same {H H' : Hp} {v : V} {r : Nat × List Str} (s : Same H H') (h : RowAt H v r) : RowAt H' v r := by
  obtain ⟨t, a, e, h1, h2⟩ := h
  exact ⟨t, a, e, s _ _ h1, s _ _ h2⟩
theorem RowsAt.same {H H' : Hp} (s : Same H H') : ∀ {vs : List V} {rs : List (Nat × List Str)}, RowsAt H vs rs → RowsAt H' vs rs
  | _, _, .nil => .nil
  | _, _, .cons h t => .cons (h.same s) (t.same s)
theorem RowsAt.snoc {H : Hp} {v : V} {r : Nat × List Str} : ∀ {vs : List V} {rs : List (Nat × List Str)}, RowsAt H vs rs → RowAt H v r → RowsAt H (vs ++ [v]) (rs ++ [r])
  | _, _, .nil, h => .cons h .nil
  | _, _, .cons h t, g => .cons h (t.snoc g)
theorem RowsAt.length {H : Hp} : ∀ {vs : List V} {rs : List (Nat × List Str)}, RowsAt H vs rs → vs.length = rs.length
  | _, _, .nil => rfl
  | _, _, .cons _ t => congrArg (· + 1) t.length
def spRowsOf : Sp := fun vs H Q _ => ∃ (x : Str) (ls : List (List Nat)), vs = [.str x] ∧ x.length ≤ 50000 ∧ (cleanZ x).cps.toList = joinL [10] ls ∧ ls ≠ [] ∧ (∀ l ∈ ls, 10 ∉ l) ∧
  ∀ (H' : Hp) (R : Addr) (rs : List V), Same H H' → H R = none → H' R = some (.lst rs) → RowsAt H' rs (ls.map rowOf) → Q (.ref R) H'
theorem joinL_le {z : List Nat} : ∀ {ps : List (List Nat)} {p : List Nat}, p ∈ ps → p.length ≤ (joinL z ps).length
  | [a], p, h => by
    rw [List.mem_singleton.mp h]
    exact Nat.le_refl _
  | a :: b :: r, p, h => by
    show _ ≤ (a ++ z ++ joinL z (b :: r)).length
    rw [List.length_append, List.length_append]
    rcases List.mem_cons.mp h with e | e
    · rw [e]
      omega
    · have := joinL_le (z := z) e
      omega
theorem joinL_many {c : Nat} : ∀ {ps : List (List Nat)}, ps.length ≤ (joinL [c] ps).length + 1
  | [] => by simp
  | [a] => by simp
  | a :: b :: r => by
    have := joinL_many (c := c) (ps := b :: r)
    show _ ≤ (a ++ [c] ++ joinL [c] (b :: r)).length + 1
    rw [List.length_append, List.length_append]
    simp only [List.length_cons, List.length_nil] at this ⊢
    omega
section
variable {P : Program} {w : World} {K : PySem.W.Frag} {mg : Str → Option Value} {base : Heap}
theorem scCleaned : FnScope ["text", "letter"] ["text"] (defScope s_cleaned) := ⟨rfl, rfl, rfl, by decide +kernel, rfl, by decide +kernel, by decide +kernel⟩
theorem ok_cleaned {f : Addr} {fd : FuncData} {tK : Tok} (gK : mg "KNOWN" = some (.str knownS tK)) (F : Fun K "cleaned" "cleaned" s_cleaned f fd) : FnOk P w K mg base CX0 1 f fd ["text"] spCleaned := by
  refine fun_okT F scCleaned (by decide +kernel) (by decide) (fun vs H Q E h => ?_) (fun cdv A outer s H vs Q E hr h => ?_)
  · obtain ⟨x, rfl, _⟩ := h
    rfl
  · obtain ⟨x, rfl, hx, q⟩ := h
    refine ⟨_, psst_cons (pst_ifT (PWT.pt (pwt_and (PTT.of (pt_val (pe_m0 PySem.F.slot_str_isascii PySem.F.type_str_isascii mt_isascii (pv 0)))) (pwt_and (PTT.of (pt_val (pe_m0 PySem.F.slot_str_islower PySem.F.type_str_islower mt_islower (pv 0)))) (pwt_and1 (ptt_val (pet_m0 PySem.F.slot_str_isprintable PySem.F.type_str_isprintable mt_isprintable (CwR.pet_replC (pv 0)))))))) (CwR.psst_one (CwR.pst_ret (CwR.PET.of (pv 0)))) CwR.psst_nil) <|
      CwR.psst_one (PST.of (ps_ret (pe_join pe_str (pe_lc (own := [("letter", 1)]) (g := gName 1) (tt := tYes) (te := tIf (tTest (tOp (fun x y H Q => ∃ i j, x = .str i ∧ y = .str j ∧ Q (.bl (!(Builtin.Str.occurrences j i 0 j.length 1).isEmpty)) H) (tVar 1) (tC (.str knownS)))) (tVar 1) (tC (.str "~"))) rfl scCleaned.nd (pi_str (pv 0))
        (blkOk_by (own := [("letter", 1)]) (N := ["text", "letter"]) (sc := defScope s_cleaned) (by decide +kernel)) (fun _ _ _ _ _ => pg_name (i := 1) scCleaned.nd rfl (Or.inl rfl)) (fun _ _ _ _ _ => pts_nil)
        (fun _ _ _ _ _ => pe_ifExp (pt_cmpR op_in_str (pv 1) (pe_glob (v := .str knownS) (by rfl) gK ⟨_, rfl⟩) (by rfl)) (pv 1) pe_str))))), ?_⟩
    have no : plainT x = false → tRet (tM1 (fun x xs H Q => ∃ a p, ∃ ys : List Str, x = .str a ∧ xs = [.ref p] ∧ (SqL K H p (ys.map V.str) ∨ SqT K H p (ys.map V.str)) ∧ (ys.map (·.length)).sum + ys.length * a.length ≤ 16777216 ∧ Q (.str (Txt.join a ys)) H) (tC (.str "")) (tLc (iStr (tVar 0)) (gName 1) tYes (tIf (tTest (tOp (fun x y H Q => ∃ i j, x = .str i ∧ y = .str j ∧ Q (.bl (!(Builtin.Str.occurrences j i 0 j.length 1).isEmpty)) H) (tVar 1) (tC (.str knownS)))) (tVar 1) (tC (.str "~"))) [1])) { nx := fun _ H' => Q .non H', rt := Q } [some (.str x), none] H := fun hp => by
      have ex : cleanZ x = Txt.join "" (x.cps.toList.map clean1) := by
        unfold cleanZ
        rw [hp]
        rfl
      rw [ex] at q
      have sl : x.cps.size = x.length := rfl
      refine ⟨⟨_, rfl⟩, _, rfl, x, rfl, fun D nD => lc_it (walk_str (z := x)) (fun i H' => H' D = some (.lst (((x.cps.toList.take i).map clean1).map V.str)) ∧ Same H H') ⟨upd_same, same_upd nD⟩ (fun _ _ _ _ => trivial) ?_ ?_⟩
      · rintro i v H' G hi ⟨hD, s2⟩ ⟨rfl, c, hc, rfl⟩
        have tk : (x.cps.toList.take (i + 1)).map clean1 = (x.cps.toList.take i).map clean1 ++ [clean1 c] := by
          rw [List.take_add_one, Array.getElem?_toList, hc, List.map_append]
          rfl
        have sz : ((x.cps.toList.take i).map clean1).length ≤ 50000 := by
          rw [List.length_map, List.length_take]
          have e : x.cps.toList.length = x.length := by simp [Str.length]
          omega
        refine ⟨rfl, ?_⟩
        refine ⟨_, rfl, chS c, knownS, rfl, rfl, _, rfl, ?_⟩
        show (if knownB c = true then _ else _)
        by_cases k : knownB c = true
        · rw [if_pos k]
          refine ⟨_, rfl, _, hD, ?_, ?_, same_fresh nD s2⟩
          · rw [List.length_map]
            exact Nat.lt_of_le_of_lt sz (by decide)
          · rw [tk, show clean1 c = chS c from if_pos k, List.map_append]
            exact upd_same
        · rw [if_neg k]
          refine ⟨_, hD, ?_, ?_, same_fresh nD s2⟩
          · rw [List.length_map]
            exact Nat.lt_of_le_of_lt sz (by decide)
          · rw [tk, show clean1 c = "~" from if_neg k, List.map_append]
            exact upd_same
      · rintro H' ⟨hD, s2⟩
        have ta : x.cps.toList.take x.cps.size = x.cps.toList := List.take_of_length_le (by simp)
        rw [ta] at hD
        refine ⟨"", D, _, rfl, rfl, .inl (SqL.of hD), ?_, q H' s2⟩
        have : ∀ l : List Nat, ((l.map clean1).map (·.length)).sum = l.length := fun l => by
          induction l with
          | nil => rfl
          | cons a l ih =>
            simp only [List.map_cons, List.sum_cons, List.length_cons, clean1_len, ih]
            omega
        rw [this, List.length_map]
        have e : x.cps.toList.length = x.length := by simp [Str.length]
        have e0 : ("" : Str).length = 0 := rfl
        rw [e, e0]
        omega
    cases hp : plainT x with
    | false =>
      have no := no hp
      unfold plainT at hp
      refine ⟨_, rfl, ⟨_, rfl⟩, x, rfl, rfl, trivial, _, rfl, ?_⟩
      cases h1 : Txt.isascii x with
      | false => exact iteF (iteF no)
      | true =>
        refine iteT ⟨_, rfl, ⟨_, rfl⟩, x, rfl, rfl, trivial, _, rfl, ?_⟩
        cases h2 : Txt.islower x with
        | false => exact iteF (iteF no)
        | true =>
          refine iteT ⟨_, rfl, _, rfl, rep_fits (n := 50000) (by omega) (by decide) (by decide), ⟨_, rfl⟩, _, rfl, rfl, trivial, _, rfl, ?_⟩
          rw [h1, h2, Bool.true_and, Bool.true_and] at hp
          rw [hp]
          exact iteF no
    | true =>
      rw [clean_plain hp] at q
      unfold plainT at hp
      rw [Bool.and_eq_true, Bool.and_eq_true] at hp
      obtain ⟨h1, h2, h3⟩ := hp
      refine ⟨_, rfl, ⟨_, rfl⟩, x, rfl, rfl, trivial, _, rfl, ?_⟩
      rw [h1]
      refine iteT ⟨_, rfl, ⟨_, rfl⟩, x, rfl, rfl, trivial, _, rfl, ?_⟩
      rw [h2]
      refine iteT ⟨_, rfl, _, rfl, rep_fits (n := 50000) (by omega) (by decide) (by decide), ⟨_, rfl⟩, _, rfl, rfl, trivial, _, rfl, ?_⟩
      rw [h3]
      exact iteT ⟨_, rfl, q H fun _ _ e => e⟩
theorem scRowsOf : FnScope ["text", "line"] ["text"] (defScope s_rows_of) := ⟨rfl, rfl, rfl, by decide +kernel, rfl, by decide +kernel, by decide +kernel⟩
theorem ok_rowsOf {f fC fS : Addr} {fd dC dS : FuncData} (F : Fun K "rows_of" "rows_of" s_rows_of f fd) (len : mg "len" = none) (GC : FnOk P w K mg base CX0 1 fC dC ["text"] spCleaned) (gC : mg "cleaned" = some (.ref fC)) (kC : PySem.W.keepIn K (.ref fC) = true) (bC : Binds K dC ["text"] [])
    (GS : FnOk P w K mg base CX0 1 fS dS ["text"] spSpread) (gS : mg "spread" = some (.ref fS)) (kS : PySem.W.keepIn K (.ref fS) = true) (bS : Binds K dS ["text"] []) : FnOk P w K mg base CX0 2 f fd ["text"] spRowsOf := by
  refine F.ok scRowsOf (fun vs H Q E h => ?_) (fun cdv A outer s H vs Q E hr h => ?_)
  · obtain ⟨x, ls, rfl, _⟩ := h
    rfl
  · obtain ⟨x, ls, rfl, hx, hl, hne, hf, q⟩ := h
    refine ⟨_, pss_one (ps_ret (pe_lc (own := [("line", 1)]) (g := gName 1) (tt := tYes) (te := tTup (tCons (tOp (rI0 fun i j => .int (i - j)) (tCB (fun xs H Q => ∃ z : Str, xs = [.str z] ∧ z.length ≤ sizeLine ∧ Q (.int z.length) H) (tCons (tVar 1) tNil)) (tCB (fun xs H Q => ∃ z : Str, xs = [.str z] ∧ z.length ≤ sizeLine ∧ Q (.int z.length) H) (tCons (tM1 (fun x xs H Q => ∃ a b, x = .str a ∧ xs = [.str b] ∧ a.length ≤ sizeLine ∧ Q (.str (Txt.lstripChars a b)) H) (tVar 1) (tC (.str " "))) tNil))) (tCons (tM0 (fun x xs H Q => ∃ a, x = .str a ∧ xs = [] ∧ a.length + 2 ≤ sizeLine ∧ rNewStrs (Txt.words a) H Q) (tVar 1)) tNil))) rfl scRowsOf.nd
      (pi_list (pe_split (pe_call GS hr (by rfl) gS kS bS .nil pass0 (pa_cons (pe_call GC hr (by rfl) gC kC bC .nil pass0 (pa_cons (pv 0) pa_nil)) pa_nil)) pe_str))
      (blkOk_by (own := [("line", 1)]) (N := ["text", "line"]) (sc := defScope s_rows_of) (by decide +kernel)) (fun _ _ _ _ _ => pg_name (i := 1) scRowsOf.nd rfl (Or.inl rfl)) (fun _ _ _ _ _ => pts_nil)
      (fun _ _ _ _ _ => pe_tup (pa_cons (pe_op op_sub (pe_callB call_len_str (by rfl) len PySem.boot_len (pa_cons (pv 1) pa_nil)) (pe_callB call_len_str (by rfl) len PySem.boot_len (pa_cons (pe_m1 PySem.F.slot_str_lstrip PySem.F.type_str_lstrip mt_lstripChars (pv 1) pe_str) pa_nil))) (pa_cons (pe_words (pv 1)) pa_nil))))), ?_⟩
    have lx : (cleanZ x).cps.toList.length = x.length := by
      rw [← clean_len x]
      simp [Str.length]
    have hS : ∀ d ∈ dbls, d ∈ sgs := by decide
    refine ⟨_, rfl, x, rfl, hx, fun H s0 => ⟨cleanZ x, rfl, by rw [clean_len]; exact hx, fun y hy => ?_⟩⟩
    have q := fun (H' : Hp) (R : Addr) (rs : List V) (s : Same H H') (n : H R = none) => q H' R rs (s0.trans s) (s0.free n)
    have yl : y.length ≤ 150000 := by
      have a := pairs_len (S := dbls) _ (cleanZ x).cps.toList (Nat.le_refl _)
      rw [← hy] at a
      have b : y.cps.toList.length = y.length := by simp [Str.length]
      omega
    rw [hl, pairs_lines hS] at hy
    have hps := split_list (x := y) (c := 10) (ps := ls.map (pairs dbls false)) (by simpa using hne) (fun p hp => by
      obtain ⟨l, hl, rfl⟩ := List.mem_map.mp hp
      exact pairs_no l.length l (Nat.le_refl _) (hf l hl)) hy
    have nl : (⟨#[10]⟩ : Str) = "\n" := rfl
    rw [nl] at hps
    have many : ls.length ≤ 50001 := by
      have := joinL_many (c := 10) (ps := ls)
      rw [← hl] at this
      omega
    have eN : (Txt.split y "\n").length = ls.length := by
      have := congrArg List.length hps
      simpa using this
    refine ⟨⟨_, rfl⟩, y, "\n", rfl, rfl, rfl, Nat.le_trans (show y.length + 2 ≤ 150002 by omega) (by decide), fun l nl => ?_⟩
    have s1 := same_upd (o := .lst ((Txt.split y "\n").map V.str)) nl
    have e1 := upd_same (H := H) (a := l) (o := .lst ((Txt.split y "\n").map V.str))
    generalize upd H l (.lst ((Txt.split y "\n").map V.str)) = G at s1 e1 ⊢
    refine ⟨l, rfl, ⟨_, SqL.of e1⟩, fun D nD => lc_list (K := K) (a := l) (xs := (Txt.split y "\n").map V.str) (fun j H' => ∃ rs, H' D = some (.lst rs) ∧ RowsAt (del H' D) rs ((ls.map rowOf).take j) ∧ Same G H') ⟨[], upd_same, .nil, same_upd nD⟩ (fun j H' hj ⟨_, _, _, sm⟩ => SqL.of (sm _ _ e1)) ?_ ?_⟩
    · rintro j v H' hv ⟨rs, hD, hr1, sm⟩
      rw [List.getElem?_map] at hv
      cases hz : (Txt.split y "\n")[j]? with
      | none =>
        rw [hz] at hv
        cases hv
      | some z =>
        rw [hz] at hv
        cases hv
        have jl := (List.getElem?_eq_some_iff.mp hz).1
        obtain ⟨li, hli, ez⟩ : ∃ li, ls[j]? = some li ∧ z.cps.toList = pairs dbls false li := by
          have h1 := congrArg (fun t => t[j]?) hps
          simp only [List.getElem?_map, hz] at h1
          cases h2 : ls[j]? with
          | none =>
            rw [h2] at h1
            cases h1
          | some li =>
            rw [h2] at h1
            exact ⟨li, rfl, Option.some.inj h1⟩
        have zl : z.length ≤ 150000 := by
          have h1 : z.cps.toList.length ≤ y.cps.toList.length := by
            rw [hy, ez]
            exact joinL_le (List.mem_map.mpr ⟨li, List.mem_of_getElem? hli, rfl⟩)
          have b1 : y.cps.toList.length = y.length := by simp [Str.length]
          have b2 : z.cps.toList.length = z.length := by simp [Str.length]
          omega
        have fit : z.length + 2 ≤ sizeLine := Nat.le_trans (show _ ≤ 150002 by omega) (by decide)
        have sl := lstrip_len z
        refine ⟨rfl, ?_⟩
        refine ⟨_, rfl, z, rfl, by omega, _, rfl, ⟨_, rfl⟩, z, " ", rfl, rfl, by omega, _, rfl, by omega, _, _, rfl, rfl, _, rfl, ⟨_, rfl⟩, z, rfl, rfl, fit, fun wa nwa => ⟨(by show 2 ≤ sizeLine; decide), fun t nt => ?_⟩⟩
        have Dw : D ≠ wa := ne_of_none hD nwa
        have s2 : Same H' (upd H' wa (.lst ((Txt.words z).map V.str))) := same_upd nwa
        have Dt : D ≠ t := ne_of_none (s2 _ _ hD) nt
        have wt : wa ≠ t := fun e => by
          rw [← e, upd_same] at nt
          cases nt
        have ei : ((z.length : Nat) : Int) - ((Txt.lstripChars z " ").length : Nat) = ((rowOf li).1 : Nat) := by
          show _ = ((leadL (pairs dbls false li) : Nat) : Int)
          rw [← ez]
          omega
        have ew : (Txt.words z).map V.str = (rowOf li).2.map V.str := by
          congr 1
          show _ = (wl Unicode.isSpace [] (pairs dbls false li)).map strOf
          rw [← ez, ← words_list, List.map_map]
          have : (strOf ∘ fun s : Str => s.cps.toList) = id := by
            funext s
            exact strOf_list s
          rw [this, List.map_id]
        dsimp only
        rw [ei, ew]
        rw [ew] at s2
        generalize hG2 : upd (upd H' wa (.lst ((rowOf li).2.map V.str))) t (.tup [.int ((rowOf li).1 : Nat), .ref wa]) = G2
        rw [ew] at nt
        have s3 : Same H' G2 := by
          rw [← hG2]
          exact s2.trans (same_upd nt)
        have g1 : G2 t = some (.tup [.int ((rowOf li).1 : Nat), .ref wa]) := by rw [← hG2, upd_same]
        have g2 : G2 wa = some (.lst ((rowOf li).2.map V.str)) := by rw [← hG2, upd_ne wt, upd_same]
        have few : rs.length ≤ 50001 := by
          have := RowsAt.length hr1
          rw [List.length_take] at this
          have h2 : (ls.map rowOf).length = ls.length := by simp
          omega
        refine ⟨rs, s3 _ _ hD, Nat.lt_of_le_of_lt few (by decide), rs ++ [.ref t], upd_same, ?_, same_fresh nD (sm.trans s3)⟩
        have tk : (ls.map rowOf).take (j + 1) = (ls.map rowOf).take j ++ [rowOf li] := by
          rw [List.take_add_one, List.getElem?_map, hli]
          rfl
        rw [tk]
        have sd : Same (del H' D) (del (upd G2 D (.lst (rs ++ [.ref t]))) D) := fun b o e => by
          by_cases hb : b = D
          · rw [hb, delAt] at e
            cases e
          · rw [delNe hb] at e ⊢
            rw [upd_ne hb]
            exact s3 _ _ e
        refine (hr1.same sd).snoc ⟨t, wa, rfl, ?_, ?_⟩
        · rw [delNe Dt.symm, upd_ne Dt.symm]
          exact g1
        · rw [delNe Dw.symm, upd_ne Dw.symm]
          exact g2
    · rintro H' ⟨rs, hD, hr1, sm⟩
      rw [List.length_map, eN, List.take_of_length_le (by simp)] at hr1
      exact q H' D rs (s1.trans sm) (s1.free nD) hD (hr1.same delSub)
end
end TX
namespace TX
open PySem PySem.Spec PyProof.Rows L2 KTD
def lk (K : PySem.W.Frag) : Addr → Option Obj := fun b => K.lookup b
/-! ### a dict of the module's own, with texts as keys: told by its entries -/
def KTab (K : PySem.W.Frag) (a : Addr) (D : List (Str × Dat)) : Prop := tabLook (datLooks (lk K)) (lk K) a D = true
def flatV : PyData → V
  | .bool b => .bl b
  | .int i => .int i
  | .str z => .str z
  | _ => .non
/-- one of its values -/
def DatV (K : PySem.W.Frag) : Dat → V → Prop
  | .flat d, x => x = flatV d
  | .tup ds, x => ∃ a, x = .ref a ∧ ∀ H, SqT K H a (ds.map flatV)
  | _, _ => False
def smallD : Dat → Bool
  | .flat _ => true
  | .tup ds => decide (ds.length ≤ 1000)
  | _ => false
theorem flat_rel {d : PyData} {v : Value} (h : flatLooks d v = true) : RelV (flatV d) v := by
  unfold flatLooks at h
  split at h
  · rfl
  · rw [beq_iff_eq] at h
    rw [h]
    rfl
  · rw [beq_iff_eq] at h
    rw [h]
    exact ⟨_, rfl⟩
  · rw [beq_iff_eq] at h
    rw [h]
    exact ⟨_, rfl⟩
  · cases h
theorem flats_rel : ∀ {ds : List PyData} {vs : List Value}, flatsLook ds vs = true → Vals (ds.map flatV) vs
  | [], [], _ => .nil
  | d :: ds, v :: vs, h => by
    unfold flatsLook at h
    rw [Bool.and_eq_true] at h
    exact .cons (flat_rel h.1) (flats_rel h.2)
  | [], _ :: _, h => by cases h
  | _ :: _, [], h => by cases h
theorem flats_len : ∀ {ds : List PyData} {vs : List Value}, flatsLook ds vs = true → vs.length = ds.length := fun h => by
  have := (flats_rel h).length
  rw [List.length_map] at this
  exact this.symm
theorem dat_rel {K : PySem.W.Frag} {d : Dat} {v : Value} (hs : smallD d = true) (h : datLooks (lk K) d v = true) : ∃ x, DatV K d x ∧ RelV x v := by
  unfold datLooks at h
  split at h
  · exact ⟨_, rfl, flat_rel h⟩
  · cases hs
  · cases hs
  · cases hs
  · rename_i ds a
    refine ⟨.ref a, ⟨a, rfl, fun H => .inr ?_⟩, rfl⟩
    split at h
    · rename_i o ho
      rw [Bool.and_eq_true] at h
      obtain ⟨hc, h⟩ := h
      split at h
      · rename_i vs n hd
        refine ⟨o, vs, n, ho, beq_iff_eq.mp hc, hd, ?_, flats_rel h⟩
        have l := flats_len h
        have l2 : ds.length ≤ 1000 := of_decide_eq_true hs
        rw [Array.length_toList] at l
        exact Nat.le_trans (show vs.size ≤ 1000 by omega) (by decide)
      · cases h
    · cases h
  · cases hs
  · cases h
section
variable {prog : Program} {w : World} {A : Around} {E : Value → Shared → Prop} {s : Shared} {K : PySem.W.Frag} {a : Addr} {D : List (Str × Dat)} {k : Str} {tk : Tok}
theorem KTab.text {h : Heap} (T : KTab K a D) (X : K.In h) : TextTab h a D := text_of_look (fun b o e => X b o e) T
theorem KTab.here {h : Heap} (T : KTab K a D) (X : K.In h) : Here h h a D := ⟨T.text X, fun _ _ e => e⟩
theorem kt_dictGet {Q : Option Value → Shared → Prop} (T : KTab K a D) (X : K.In s.heap) (h1 : ∀ d v, datumAt k D = some d → datLooks (lk K) d v = true → Q (some v) { s with toks := s.toks + 1 }) (h2 : datumAt k D = none → Q none { s with toks := s.toks + 1 }) :
    wpAny (model prog w) A (dictGet a (.str k tk)) Q E s := by
  obtain ⟨_, o, es, ep, at_, hcls, hdat, rows⟩ := tab_of_look (R := fun d v => datLooks (lk K) d v = true) (h := s.heap) (fun d v z => z) (fun b o e => X b o e) T
  have same : findBy (fun k v => v.isStr k) es k = (es.toList.find? fun e => e.key.isStr k).map (·.val) := by
    obtain ⟨l⟩ := es
    simp [findBy]
  have want : Q (findBy (fun k v => v.isStr k) es k) { s with toks := s.toks + 1 } := by
    rw [same]
    cases hat : datumAt k D with
    | none =>
      rw [rows.find_none hat]
      exact h2 hat
    | some d =>
      obtain ⟨v, e, l⟩ := rows.find_some hat
      rw [e]
      exact h1 d v hat l
  rw [findBy_of_findIdx?] at want
  unfold dictGet
  try with_reducible refine wpAny_holding ?_
  refine wpAny_bind (wpAny_pyHash_str (wpAny_bind (kt_dictFind_strs (s := { s with toks := s.toks + 1 }) at_ hdat (by obtain ⟨l⟩ := es; simpa using rows.exact) ?_)))
  cases fi : es.findIdx? fun e => e.key.isStr k with
  | some i =>
    rw [fi] at want
    exact wpAny_bind (wpAny_dictEntries (s := { s with toks := s.toks + 1 }) at_ hdat (wpAny_pure want))
  | none =>
    rw [fi] at want
    exact wpAny_pure want
end
section
variable {X : Cx} {a : Addr} {D : List (Str × Dat)}
def tInK (D : List (Str × Dat)) (ty : TE) : TE := fun σ H Q => ty σ H fun y H1 => ∃ z, y = .str z ∧ Q (.bl (inKeys z D)) H1
def tNotInK (D : List (Str × Dat)) (ty : TE) : TE := fun σ H Q => ty σ H fun y H1 => ∃ z, y = .str z ∧ Q (.bl (!inKeys z D)) H1
/-- y in D -/
theorem pc_inK {i : Expr} {x : Str} {p : Pos} {ty : TE} (T : KTab X.K a D) (hi : PE X i ty) (hg : Gl X x) (hm : X.mg x = some (.ref a)) (hdb : (x == ("__debug__" : Str)) = false := by decide) : PC X .In i (.Name x p) (tInK D ty) := by
  refine ⟨fun pins s σ H Q I h => ?_⟩
  refine thn (hi.run pins s σ H _ I h) fun iv s1 ⟨y, H1, I1, ry, z, ey, q⟩ => ?_
  subst ey
  obtain ⟨t, rfl⟩ := ry
  refine ld_glob I1 hg hm ?_ hdb
  exact in_text (T.here I1.kIn) ⟨.bl _, H1, I1.tok _, rfl, q⟩
/-- y not in D -/
theorem pc_notinK {i : Expr} {x : Str} {p : Pos} {ty : TE} (T : KTab X.K a D) (hi : PE X i ty) (hg : Gl X x) (hm : X.mg x = some (.ref a)) (hdb : (x == ("__debug__" : Str)) = false := by decide) : PC X .NotIn i (.Name x p) (tNotInK D ty) := by
  refine ⟨fun pins s σ H Q I h => ?_⟩
  refine thn (hi.run pins s σ H _ I h) fun iv s1 ⟨y, H1, I1, ry, z, ey, q⟩ => ?_
  subst ey
  obtain ⟨t, rfl⟩ := ry
  refine ld_glob I1 hg hm ?_ hdb
  exact notin_text (T.here I1.kIn) ⟨.bl _, H1, I1.tok _, rfl, q⟩
/-- what D.get(y) gives -/
def GotK (K : PySem.W.Frag) (D : List (Str × Dat)) (z : Str) (dv : V) (Q : V → Prop) : Prop := match datumAt z D with
  | some d => ∀ v, DatV K d v → Q v
  | none => Q dv
theorem meetsK1 {prog : Program} {w : World} {K : PySem.W.Frag} {k : Str} {tk : Tok} : MeetsIn prog w (Builtin.«dict.get» ⟨[.ref a, .str k tk], []⟩) (fun _ R s => KTab K a D ∧ K.In s.heap ∧ (∀ d v, datumAt k D = some d → datLooks (lk K) d v = true → R (.ok (.ret v)) { s with toks := s.toks + 1 }) ∧ (datumAt k D = none → R (.ok (.ret .none)) { s with toks := s.toks + 1 })) :=
  .of_wp fun A R s ⟨T, X, h1, h2⟩ => by
    show wpAny _ _ (dictGet a (.str k tk) >>= fun _ => _) _ _ s
    refine wpAny_bind (kt_dictGet T X (fun d v e l => wpAny_pure ⟨v, rfl, h1 d v e l⟩) fun e => ?_)
    show wpAny _ _ (Builtin.Dict.missed a (.str k tk) >>= fun _ => _) _ _ _
    exact wpAny_bind (wpAny_missed_other (T.here X).1.1 (wpAny_pure ⟨.none, rfl, h2 e⟩))
theorem meetsK2 {prog : Program} {w : World} {K : PySem.W.Frag} {k : Str} {tk : Tok} {dv : Value} : MeetsIn prog w (Builtin.«dict.get» ⟨[.ref a, .str k tk, dv], []⟩) (fun _ R s => KTab K a D ∧ K.In s.heap ∧ (∀ d v, datumAt k D = some d → datLooks (lk K) d v = true → R (.ok (.ret v)) { s with toks := s.toks + 1 }) ∧ (datumAt k D = none → R (.ok (.ret dv)) { s with toks := s.toks + 1 })) :=
  .of_wp fun A R s ⟨T, X, h1, h2⟩ => by
    show wpAny _ _ (dictGet a (.str k tk) >>= fun _ => _) _ _ s
    refine wpAny_bind (kt_dictGet T X (fun d v e l => wpAny_pure ⟨v, rfl, h1 d v e l⟩) fun e => ?_)
    show wpAny _ _ (Builtin.Dict.missed a (.str k tk) >>= fun _ => _) _ _ _
    exact wpAny_bind (wpAny_missed_other (T.here X).1.1 (wpAny_pure ⟨dv, rfl, h2 e⟩))
def tGetK (K : PySem.W.Frag) (D : List (Str × Dat)) (ty : TE) : TE := fun σ H Q => ty σ H fun y H1 => ∃ z, y = .str z ∧ GotK K D z .non fun v => Q v H1
def tGet2K (K : PySem.W.Frag) (D : List (Str × Dat)) (ty tf : TE) : TE := fun σ H Q => ty σ H fun y H1 => tf σ H1 fun dv H2 => ∃ z, y = .str z ∧ GotK K D z dv fun v => Q v H2
theorem small_at {k : Str} : ∀ {D : List (Str × Dat)} {d : Dat}, (D.all fun p => smallD p.2) = true → datumAt k D = some d → smallD d = true
  | [], _, _, e => by cases e
  | (x, d0) :: D, d, h, e => by
    rw [List.all_cons, Bool.and_eq_true] at h
    unfold datumAt at e
    split at e
    · cases e
      exact h.1
    · exact small_at h.2 e
/-- D.get(y) -/
theorem pe_getK {e : Expr} {x : Str} {p apos cpos : Pos} {ty : TE} (T : KTab X.K a D) (hs : (D.all fun p => smallD p.2) = true) (he : PE X e ty) (hg : Gl X x) (hm : X.mg x = some (.ref a)) (m : M1 X (.Name x p) "get" apos e cpos) (hdb : (x == ("__debug__" : Str)) = false := by decide) : PE X (.Call (.Attribute (.Name x p) "get" apos) [e] [] cpos) (tGetK X.K D ty) := by
  refine ⟨fun pins s σ H Q I h => ?_⟩
  refine wpAny_Call_method m.base m.few m.line PySem.F.plainAttrs_dict PySem.F.slot_dict_get PySem.F.type_dict_get (ld_glob I hg hm ?_ hdb)
  refine ⟨(T.here I.kIn).typeIs, (T.here I.kIn).noDict, ?_⟩
  rw [m.trees]
  refine Calls.callWith_builtin rfl (Calls.evalArgs_plain (Calls.spliced_cons (thn (he.run pins s σ H _ I h) fun iv s2 ⟨y, H2, I2, ry, z, ey, q⟩ => Calls.spliced_nil ?_)))
  subst ey
  obtain ⟨t, rfl⟩ := ry
  refine call_meetsIn PySem.F.slot_dict_get (T.here I2.kIn).typeIs PySem.F.entry_dict_get (PySem.F.args_dict_get_2 _ _) meetsK1 ⟨T, I2.kIn, fun d v ed l => ?_, fun ed => ?_⟩
  · unfold GotK at q
    rw [ed] at q
    obtain ⟨x, dx, rx⟩ := dat_rel (small_at hs ed) l
    exact ⟨x, H2, I2.tok _, rx, q x dx⟩
  · unfold GotK at q
    rw [ed] at q
    exact ⟨.non, H2, I2.tok _, rfl, q⟩
/-- D.get(y, f) -/
theorem pe_get2K {e f : Expr} {x : Str} {p apos cpos : Pos} {ty tf : TE} (T : KTab X.K a D) (hs : (D.all fun p => smallD p.2) = true) (he : PE X e ty) (hf : PE X f tf) (hg : Gl X x) (hm : X.mg x = some (.ref a)) (m : M2 X (.Name x p) "get" apos e f cpos) (hdb : (x == ("__debug__" : Str)) = false := by decide) : PE X (.Call (.Attribute (.Name x p) "get" apos) [e, f] [] cpos) (tGet2K X.K D ty tf) := by
  refine ⟨fun pins s σ H Q I h => ?_⟩
  refine wpAny_Call_method m.base m.few m.line PySem.F.plainAttrs_dict PySem.F.slot_dict_get PySem.F.type_dict_get (ld_glob I hg hm ?_ hdb)
  refine ⟨(T.here I.kIn).typeIs, (T.here I.kIn).noDict, ?_⟩
  rw [m.trees]
  refine Calls.callWith_builtin rfl (Calls.evalArgs_plain (Calls.spliced_cons (thn (he.run pins s σ H _ I h) fun iv s2 ⟨y, H2, I2, ry, q⟩ =>
    Calls.spliced_cons (thn (hf.run pins s2 σ H2 _ I2 q) fun fv s3 ⟨dv, H3, I3, rf, z, ey, q2⟩ => Calls.spliced_nil ?_))))
  subst ey
  obtain ⟨t, rfl⟩ := ry
  refine call_meetsIn PySem.F.slot_dict_get (T.here I3.kIn).typeIs PySem.F.entry_dict_get (PySem.F.args_dict_get_3 _ _ _) meetsK2 ⟨T, I3.kIn, fun d v ed l => ?_, fun ed => ?_⟩
  · unfold GotK at q2
    rw [ed] at q2
    obtain ⟨x, dx, rx⟩ := dat_rel (small_at hs ed) l
    exact ⟨x, H3, I3.tok _, rx, q2 x dx⟩
  · unfold GotK at q2
    rw [ed] at q2
    exact ⟨dv, H3, I3.tok _, rf, q2⟩
def tItemK (K : PySem.W.Frag) (D : List (Str × Dat)) (ty : TE) : TE := fun σ H Q => ty σ H fun y H1 => ∃ z d, y = .str z ∧ datumAt z D = some d ∧ ∀ v, DatV K d v → Q v H1
/-- D[y], there -/
theorem pe_itemK {e : Expr} {x : Str} {p pos : Pos} {ty : TE} (T : KTab X.K a D) (hs : (D.all fun p => smallD p.2) = true) (he : PE X e ty) (hg : Gl X x) (hm : X.mg x = some (.ref a)) (hn : NoSl e) (hdb : (x == ("__debug__" : Str)) = false := by decide) : PE X (.Subscript (.Name x p) e pos) (tItemK X.K D ty) := by
  refine ⟨fun pins s σ H Q I h => ?_⟩
  refine subD_of PySem.F.slot_dict_getitem.lookup hn (ld_glob I hg hm (thn (he.run pins s σ H _ I h) fun iv s2 ⟨y, H2, I2, ry, z, d, ey, ed, q⟩ => ?_) hdb)
  subst ey
  obtain ⟨t, rfl⟩ := ry
  refine ⟨(T.here I2.kIn).typeIs, ?_⟩
  unfold getItem
  try with_reducible refine wpAny_holding ?_
  refine wpAny_bind (wpAny_sequenceKey (T.here I2.kIn).typeIs (by decide) ?_)
  refine wpAny_bind (wpAny_callSpecial?_slot (name := Str.ofString "__getitem__") (T.here I2.kIn).typeIs slot_dict_getitem (wpAny_call_entry slot_dict_getitem (T.here I2.kIn).typeIs entry_dict_getitem ?_ (args_dict_getitem _ _)))
  show wpAny _ _ (dictGet a (.str z t) >>= fun _ => _) _ _ s2
  refine wpAny_bind (kt_dictGet T I2.kIn (fun d' v ed' l => ?_) fun z' => ?_)
  · rw [ed] at ed'
    cases ed'
    obtain ⟨x, dx, rx⟩ := dat_rel (small_at hs ed) l
    exact wpAny_pure ⟨v, rfl, wpAny_pure ⟨x, H2, I2.tok _, rx, q x dx⟩⟩
  · rw [ed] at z'
    cases z'
end
end TX
namespace TX
open PySem PySem.Spec PyProof.Rows L2 KTD
def kept : List (Str × Dat) := (["def", "for", "in", "if", "else", "and", "or", "not", "text", "list", "nothing", "len", "key", "many", "some", "join", "skip", "break", "return", "refuse"] : List String).map fun z => (Str.ofString z, Dat.flat (.bool true))
def isNameZ (z : Str) : Bool := Txt.isalpha z && (decide (z.length ≤ 8) && !inKeys z kept)
def spIsName : Sp := fun vs H Q _ => ∃ z : Str, vs = [.str z] ∧ z.length ≤ 1000000 ∧ Q (.bl (isNameZ z)) H
section
variable {P : Program} {w : World} {K : PySem.W.Frag} {mg : Str → Option Value} {base : Heap}
theorem scIsName : FnScope ["token"] ["token"] (defScope s_is_name) := ⟨rfl, rfl, rfl, by decide +kernel, rfl, by decide +kernel, by decide +kernel⟩
theorem ok_isName {f aK : Addr} {fd : FuncData} {tN : Tok} (F : Fun K "is_name" "is_name" s_is_name f fd) (len : mg "len" = none) (gN : mg "NAME_LETTERS" = some (.int 8 tN)) (gK : mg "KEPT_WORDS" = some (.ref aK)) (T : KTab K aK kept) : FnOk P w K mg base CX0 1 f fd ["token"] spIsName := by
  refine F.ok scIsName (fun vs H Q E h => ?_) (fun cdv A outer s H vs Q E hr h => ?_)
  · obtain ⟨x, rfl, _⟩ := h
    rfl
  · obtain ⟨x, rfl, hx, q⟩ := h
    refine ⟨_, pss_one (ps_ret (pe_and (pe_m0 PySem.F.slot_str_isalpha PySem.F.type_str_isalpha mt_isalpha (pv 0)) (pe_and (pe_cmpR op_le (pe_callB call_len_str (by rfl) len PySem.boot_len (pa_cons (pv 0) pa_nil)) (pe_glob (v := .int 8) (by rfl) gN ⟨_, rfl⟩) (nomark _)) (pe_one (pe_cmp (pc_notinK T (pv 0) (by rfl) gK)))))), ?_⟩
    have lz : x.length ≤ sizeLine := Nat.le_trans hx (by decide)
    unfold isNameZ at q
    refine ⟨_, rfl, ⟨_, rfl⟩, x, rfl, rfl, trivial, _, rfl, ?_⟩
    cases h1 : Txt.isalpha x with
    | false =>
      rw [h1] at q
      exact iteF q
    | true =>
      rw [h1] at q
      refine iteT ⟨_, rfl, x, rfl, lz, _, _, rfl, rfl, _, rfl, ?_⟩
      by_cases h2 : x.length ≤ 8
      · rw [decide_eq_true h2] at q
        rw [decide_eq_true (show ((x.length : Nat) : Int) ≤ 8 by omega)]
        exact iteT ⟨_, rfl, x, rfl, q⟩
      · rw [decide_eq_false h2] at q
        rw [decide_eq_false (show ¬ ((x.length : Nat) : Int) ≤ 8 by omega)]
        exact iteF q
end
end TX
namespace TX
open PySem PySem.Spec PyProof.Rows L2
/-! ### e.replace(f"..", "..") -/
section
variable {X : Cx} {o : Expr} {to : TE} {z : Str} {k : Nat} {c1 apos pos jpos : Pos}
theorem pj_toks {pins : List (Addr × Obj)} {σ : L2.St} {es : List Expr} {ts : List TE} {n : Nat} (h : PJ X es ts) : ∀ (acc : Str) (s : Shared) (H : Hp) (Q : Str → Hp → Prop) (R : Str → Shared → Prop), n ≤ s.toks → acc.length ≤ sizeLine → Inv X pins σ H s → tJs ts acc σ H Q →
    (∀ out s1 H1, n ≤ s1.toks → out.length ≤ sizeLine → Inv X pins σ H1 s1 → Q out H1 → R out s1) → Joins (model X.prog X.w) X.A X.xe (evalEach es X.env) acc R s := by
  induction h with
  | nil =>
    intro acc s H Q R hn hz I q g
    have e0 : evalEach [] X.env = [] := by first | rfl | simp [evalEach]
    rw [e0]
    exact g acc s H hn hz I q
  | @cons e t es ts he r ih =>
    intro acc s H Q R hn hz I q g
    have e0 : evalEach (e :: es) X.env = eval e X.env :: evalEach es X.env := by first | rfl | simp [evalEach]
    rw [e0]
    refine wpAny_mono (PySem.wpAny_toks (he.run pins s σ H _ I q)) (fun v s1 g1 => ?_) fun _ _ z => z.2
    obtain ⟨le, x, H1, I1, r1, y, rfl, hy, q1⟩ := g1
    obtain ⟨tk, rfl⟩ := r1
    exact ⟨y, tk, rfl, hy, ih (acc ++ y) s1 H1 Q R (Nat.le_trans hn le) hy I1 q1 g⟩
def tReplJ (to : TE) (ts : List TE) (z : Str) : TE := fun σ H Q => to σ H fun v H1 => ∃ x : Str, v = .str x ∧ tJs ts Str.empty σ H1 fun y H2 => (y == z) = false ∧ x.length + (x.length + 1) * z.length ≤ 16777216 ∧ Q (.str (Txt.replace x y z)) H2
theorem pet_replJ {v1 v2 : Expr} {rest : List Expr} {ts : List TE} (ho : PET X o to) (h : PJ X (v1 :: v2 :: rest) ts)
    (hst : starEach [.JoinedStr (v1 :: v2 :: rest) jpos, .Constant (.str z) k c1] X.env = [(false, eval (.JoinedStr (v1 :: v2 :: rest) jpos) X.env), (false, eval (.Constant (.str z) k c1) X.env)] := by rfl)
    (hbase : attributeBase o "replace" X.env (eval o X.env) = eval o X.env := by rfl) (hline : (apos.endLine == pos.line) = true := by rfl) :
    PET X (.Call (.Attribute o "replace" apos) [.JoinedStr (v1 :: v2 :: rest) jpos, .Constant (.str z) k c1] [] pos) (tReplJ to ts z) := by
  intro pins s σ H Q n I hq
  refine PySem.Call_method2 hbase hst hline (wpAny_mono (PySem.wpAny_toks (ho pins s σ H _ n I hq)) (fun v s1 g => ?_) fun _ _ z => z.2)
  obtain ⟨le, v', H1, I1, r1, x, rfl, q⟩ := g
  obtain ⟨tx, rfl⟩ := r1
  refine ⟨"str", _, PySem.F.plainAttrs_str, PySem.F.slot_str_replace, PySem.F.type_str_replace, typeIs_str _ _ _, (fun _ e => nomatch e), Calls.callWith_builtin rfl (Calls.evalArgs_plain (Calls.spliced_cons ?_))⟩
  refine wpAny_JoinedStr (pj_toks (n := 1) h Str.empty s1 H1 _ _ (Nat.le_trans n le) (Nat.zero_le _) I1 q fun y s2 H2 n2 hz I2 q2 => ⟨hz, ?_⟩)
  obtain ⟨ne, fit, q3⟩ := q2
  refine Calls.spliced_cons (Calls.Constant_str (Calls.spliced_nil ?_))
  exact PySem.SC.replace (by show s2.toks ≠ 0; omega) (by show s2.toks + 1 ≠ 0; omega) (by show s2.toks ≠ s2.toks + 1; omega) ne fit fun t' k' => ⟨.str (Txt.replace x y z), H2, I2.tok k', ⟨t', rfl⟩, q3⟩
end
end TX
namespace TX
open PySem PySem.Spec PyProof.Rows L2 KTD
/-- the shape of a row of tokens, as it is made -/
def shape0 (ts : List Str) (v : Str) : Str := Txt.replace (Str.empty ++ " " ++ Txt.join " " ts ++ " ") (Str.empty ++ " " ++ v ++ " ") " V "
def shapeZ (ts : List Str) (v : Str) : Str := Txt.replace (Txt.replace (Txt.replace (shape0 ts v) " [ V ] " " W ") " many ( V ) " " M ") " some ( V ) " " S "
def spShape (K : PySem.W.Frag) : Sp := fun vs H Q _ => ∃ (l : Addr) (ts : List Str) (v : Str), vs = [.ref l, .str v] ∧ SqL K H l (ts.map V.str) ∧ (ts.map (·.length)).sum + ts.length ≤ 5000 ∧ v.length ≤ 5000 ∧ v ≠ "V" ∧ Q (.str (shapeZ ts v)) H
theorem join_fits : ∀ (ts : List Str), (Txt.join " " ts).length ≤ (ts.map (·.length)).sum + ts.length := fun ts => by
  have e : Txt.join " " ts = Str.join " " ts := by
    cases ts with
    | nil => rfl
    | cons t r => exact StrLaws.glued_cons " " r t
  rw [e]
  have key : ∀ ts : List Str, (Str.join " " ts).length ≤ (ts.map (·.length)).sum + ts.length := by
    intro ts
    induction ts with
    | nil => exact Nat.le_refl _
    | cons t r ih =>
      cases r with
      | nil =>
        show t.length ≤ _
        simp
      | cons t2 r =>
        show (t ++ " " ++ Str.join " " (t2 :: r)).length ≤ _
        have l1 : (" " : Str).length = 1 := rfl
        rw [Str.length_append, Str.length_append, l1]
        simp only [List.map_cons, List.sum_cons, List.length_cons] at ih ⊢
        omega
  exact key ts
section
variable {P : Program} {w : World} {K : PySem.W.Frag} {mg : Str → Option Value} {base : Heap}
theorem scShape : FnScope ["tokens", "variable", "row"] ["tokens", "variable"] (defScope s_shape_of) := ⟨rfl, rfl, rfl, by decide +kernel, rfl, by decide +kernel, by decide +kernel⟩
theorem ok_shape {f : Addr} {fd : FuncData} (F : Fun K "shape_of" "shape_of" s_shape_of f fd) : FnOk P w K mg base CX0 1 f fd ["tokens", "variable"] (spShape K) := by
  refine fun_okT F scShape (by decide +kernel) (by decide) (fun vs H Q E h => ?_) (fun cdv A outer s H vs Q E hr h => ?_)
  · obtain ⟨l, ts, v, rfl, _⟩ := h
    rfl
  · obtain ⟨l, ts, v, rfl, hl, hz, hv, ne, q⟩ := h
    refine ⟨_, psst_cons (pst_set (i := 2) scShape.nd rfl (.inl rfl) (pet_replJ (CwR.PET.of (pe_joined (PJ.cons pe_str (PJ.cons (pe_fmt (pe_join pe_str (pv 0))) (PJ.cons pe_str PJ.nil))))) (PJ.cons pe_str (PJ.cons (pe_fmt (pv 1)) (PJ.cons pe_str PJ.nil))))) <|
      CwR.psst_one (CwR.pst_ret (CwR.pet_replT (CwR.pet_replT (CwR.pet_replC (pv 2))))), ?_⟩
    have l0 : (Str.empty ++ " " : Str).length = 1 := rfl
    have l1 : (" " : Str).length = 1 := rfl
    have jf := join_fits ts
    have la : (Str.empty ++ " " ++ Txt.join " " ts : Str).length = 1 + (Txt.join " " ts).length := by rw [Str.length_append, l0]
    have lb : (Str.empty ++ " " ++ Txt.join " " ts ++ " " : Str).length = 1 + (Txt.join " " ts).length + 1 := by rw [Str.length_append, la, l1]
    have lc : (Str.empty ++ " " ++ v : Str).length = 1 + v.length := by rw [Str.length_append, l0]
    have ld : (Str.empty ++ " " ++ v ++ " " : Str).length = 1 + v.length + 1 := by rw [Str.length_append, lc, l1]
    have fit : ∀ {n : Nat}, n ≤ 20000 → n ≤ sizeLine := fun h => Nat.le_trans h (by decide)
    have nv : ((Str.empty ++ " " ++ v ++ " " : Str) == " V ") = false := by
      refine beq_eq_false_iff_ne.mpr fun e => ne ?_
      have h := congrArg (fun s : Str => s.cps.toList) e
      simp only [Str.cps_append, Array.toList_append] at h
      have h1 : ([] ++ [32] ++ v.cps.toList ++ [32] : List Nat) = [32] ++ [86] ++ [32] := h
      have h2 : v.cps.toList = [86] := List.append_cancel_right (show v.cps.toList ++ [32] = [86] ++ [32] by simpa using h1)
      have h3 : strOf v.cps.toList = strOf [86] := by rw [h2]
      rw [strOf_list] at h3
      exact h3
    have grow : ∀ {x y z : Str} {n : Nat}, x.length ≤ n → z.length ≤ 3 → (Txt.replace x y z).length ≤ n + (n + 1) * 3 := fun {x y z n} hx hz' => by
      have h1 := TK.replace_len x y z
      have h2 : (x.length + 1) * z.length ≤ (n + 1) * 3 := Nat.mul_le_mul (by omega) hz'
      omega
    have fits : ∀ {n k : Nat}, n ≤ 400000 → k ≤ 3 → n + (n + 1) * k ≤ 16777216 := fun {n k} h g => by
      have : (n + 1) * k ≤ (400000 + 1) * 3 := Nat.mul_le_mul (by omega) g
      omega
    have z3 : (" V " : Str).length = 3 ∧ (" W " : Str).length = 3 ∧ (" M " : Str).length = 3 ∧ (" S " : Str).length = 3 := ⟨rfl, rfl, rfl, rfl⟩
    have g0 : (shape0 ts v).length ≤ 5002 + (5002 + 1) * 3 := grow (by rw [lb]; omega) (Nat.le_of_eq z3.1)
    have g1 : (Txt.replace (shape0 ts v) " [ V ] " " W ").length ≤ 20011 + (20011 + 1) * 3 := grow g0 (Nat.le_of_eq z3.2.1)
    have g2 : (Txt.replace (Txt.replace (shape0 ts v) " [ V ] " " W ") " many ( V ) " " M ").length ≤ 80047 + (80047 + 1) * 3 := grow g1 (Nat.le_of_eq z3.2.2.1)
    refine ⟨_, rfl, fit (by rw [l0]; decide), ⟨_, rfl⟩, _, rfl, " ", l, ts, rfl, rfl, .inl hl, by rw [l1]; omega, .inl ⟨_, rfl, fit (by omega), _, rfl, fit (by rw [la]; omega), _, rfl, fit (by rw [lb]; omega), _, rfl, ?_⟩⟩
    refine ⟨_, rfl, fit (by rw [l0]; decide), _, rfl, .inl ⟨_, rfl, fit (by omega), _, rfl, fit (by rw [lc]; omega), _, rfl, fit (by rw [ld]; omega), nv, fits (by rw [lb]; omega) (Nat.le_of_eq z3.1), ?_⟩⟩
    exact ⟨_, rfl, _, rfl, fits (by show (shape0 ts v).length ≤ _; omega) (Nat.le_of_eq z3.2.1), _, rfl, fits (by show (Txt.replace (shape0 ts v) _ _).length ≤ _; omega) (Nat.le_of_eq z3.2.2.1), _, rfl, fits (by show (Txt.replace (Txt.replace (shape0 ts v) _ _) _ _).length ≤ _; omega) (Nat.le_of_eq z3.2.2.2), q⟩
end
end TX
namespace TX
open PySem PySem.Spec PyProof.Rows L2 KTD
/-! ### what names mean -/
abbrev Mean := List (Str × Str)
def mKV (M : Mean) : List (Key × V) := M.map fun p => (.inr p.1, .str p.2)
def meanAt : Mean → Str → Option Str
  | [], _ => none
  | (x, m) :: M, z => if x = z then some m else meanAt M z
theorem mKV_at (z : Str) : ∀ M : Mean, valV (mKV M) (.inr z) = (meanAt M z).map V.str
  | [] => rfl
  | (x, m) :: M => by
    show valV ((Sum.inr x, V.str m) :: mKV M) (Sum.inr z) = ((if x = z then some m else meanAt M z).map V.str)
    by_cases h : x = z
    · rw [if_pos h, valV_pos (show (Sum.inr x : Key) = Sum.inr z by rw [h])]
      rfl
    · rw [if_neg h, valV_neg (fun e => h (Sum.inr.inj e)), mKV_at z M]
def canBe (M : Mean) (z m : Str) : Bool := decide (meanAt M z = some m) || ((meanAt M z).isNone && isNameZ z)
def spCanBe : Sp := fun vs H Q _ => ∃ (d : Addr) (M : Mean) (z m : Str), vs = [.ref d, .str z, .str m] ∧ H d = some (.dK (mKV M)) ∧ z.length ≤ 1000000 ∧ Q (.bl (canBe M z m)) H
section
variable {P : Program} {w : World} {K : PySem.W.Frag} {mg : Str → Option Value} {base : Heap}
theorem scCanBe : FnScope ["meanings", "name", "meaning"] ["meanings", "name", "meaning"] (defScope s_can_be) := ⟨rfl, rfl, rfl, by decide +kernel, rfl, by decide +kernel, by decide +kernel⟩
theorem ok_canBe {f fN : Addr} {fd dN : FuncData} (F : Fun K "can_be" "can_be" s_can_be f fd) (GN : FnOk P w K mg base CX0 1 fN dN ["token"] spIsName) (gN : mg "is_name" = some (.ref fN)) (kN : PySem.W.keepIn K (.ref fN) = true) (bN : Binds K dN ["token"] []) : FnOk P w K mg base CX0 2 f fd ["meanings", "name", "meaning"] spCanBe := by
  refine F.ok scCanBe (fun vs H Q E h => ?_) (fun cdv A outer s H vs Q E hr h => ?_)
  · obtain ⟨d, M, z, m, rfl, _⟩ := h
    rfl
  · obtain ⟨d, M, z, m, rfl, hd, hz, q⟩ := h
    have hu := hr.units
    have hu2 : (A.deeper (envOfC "can_be" (defScope s_can_be) s.heap.objs.size f cdv)).units + 1 < PySem.cLine := by
      have := hr.un
      omega
    refine ⟨_, pss_one (ps_ret (pe_or (pe_cmpR op_eq (pe_dget1 hu2 (pv 0) (pv 1) ⟨by rfl, by rfl, by rfl, by rfl⟩) (pv 2) (nomark _)) (pe_one (pe_and (pe_cmp (pc_dnotin hu2 (pv 1) (pv 0))) (pe_one (pe_call GN hr (by rfl) gN kN bN .nil pass0 (pa_cons (pv 1) pa_nil))))))), ?_⟩
    have g : DGet H d (.str z) ((meanAt M z).map V.str) := by
      rw [← mKV_at]
      exact DGet.k (k := .inr z) hd
    have isd : IsD H d := .inl ⟨_, .inl hd⟩
    refine ⟨_, rfl, d, rfl, isd, _, rfl, _, g, _, rfl, ?_⟩
    unfold canBe at q
    cases hM : meanAt M z with
    | some m2 =>
      rw [hM] at q g
      refine ⟨rfl, _, rfl, ?_⟩
      by_cases h : m2 = m
      · subst h
        rw [decide_eq_true rfl] at q
        show (if decide (V.str m2 = V.str m2) = true then _ else _)
        rw [decide_eq_true rfl]
        exact iteT q
      · rw [decide_eq_false (fun e => h (Option.some.inj e))] at q
        show (if decide (V.str m2 = V.str m) = true then _ else _)
        rw [decide_eq_false (fun e => h (by injection e))]
        exact iteF ⟨_, rfl, _, rfl, d, _, rfl, g, _, rfl, iteF q⟩
    | none =>
      rw [hM] at q g
      refine ⟨rfl, _, rfl, ?_⟩
      show (if decide (V.non = V.str m) = true then _ else _)
      rw [decide_eq_false (fun e => nomatch e)]
      rw [decide_eq_false (fun e => nomatch e)] at q
      exact iteF ⟨_, rfl, _, rfl, d, _, rfl, g, _, rfl, iteT ⟨_, rfl, z, rfl, hz, q⟩⟩
end
end TX
namespace TX
open PySem PySem.Spec PyProof.Rows L2 KTD
/-! ### lines -/
def lineNames : List Str := ["deed", "name", "variable", "form", "ask", "test", "number", "after", "otherwise"]
structure LnC (K : PySem.W.Frag) (C : Addr) : Prop where
  cl : Cls K C
  na : ∀ f ∈ lineNames, NoAttr K C f
/-- the fields of a line -/
def lineF (d n v f a t nr af ot : V) : List (Str × V) := putF "otherwise" ot (putF "after" af (putF "number" nr (putF "test" t (putF "ask" a (putF "form" f (putF "variable" v (putF "name" n (putF "deed" d []))))))))
def spLine (K : PySem.W.Frag) (C : Addr) : Sp := fun vs H Q _ => ∃ (x dx : Addr) (d n v f a t : V), vs = [.ref x, d, n, v, f, a, t] ∧ H x = some (.ins C dx []) ∧ Q .non (upd H x (.ins C dx (lineF d n v f a t .non .non .non)))
section
variable {P : Program} {w : World} {K : PySem.W.Frag} {mg : Str → Option Value} {base : Heap} {C : Addr}
theorem scLine : FnScope ["self", "deed", "name", "variable", "form", "ask", "test"] ["self", "deed", "name", "variable", "form", "ask", "test"] (defScope mLine_init) := ⟨rfl, rfl, rfl, by decide +kernel, rfl, by decide +kernel, by decide +kernel⟩
theorem upd_upd {H : Hp} {a : Addr} {o o' : HO} : upd (upd H a o) a o' = upd H a o' := by
  funext b
  by_cases h : b = a
  · rw [h, upd_same, upd_same]
  · rw [upd_ne h, upd_ne h, upd_ne h]
theorem ok_line {f : Addr} {fd : FuncData} (F : FunD K "__init__" "Line.__init__" (defArgs mLine_init) (defBody mLine_init) (defScope mLine_init) [.non, .non, .non, .non, .non] [] f fd) (T : LnC K C) : FnOk P w K mg base CX0 1 f fd ["self", "deed", "name", "variable", "form", "ask", "test"] (spLine K C) := by
  refine F.ok scLine (fun vs H Q E h => ?_) (fun cdv A outer s H vs Q E hr h => ?_)
  · obtain ⟨x, dx, d, n, v, fo, a, t, rfl, _⟩ := h
    rfl
  · obtain ⟨x, dx, d, n, v, fo, a, t, rfl, hx, q⟩ := h
    refine ⟨_, pss_cons (ps_fld (pv 0) (pv 1) rfl) <| pss_cons (ps_fld (pv 0) (pv 2) rfl) <| pss_cons (ps_fld (pv 0) (pv 3) rfl) <| pss_cons (ps_fld (pv 0) (pv 4) rfl) <| pss_cons (ps_fld (pv 0) (pv 5) rfl) <| pss_cons (ps_fld (pv 0) (pv 6) rfl) <|
      pss_cons (ps_fld (pv 0) pe_non rfl) <| pss_cons (ps_fld (pv 0) pe_non rfl) <| pss_one (ps_fld (pv 0) pe_non rfl), ?_⟩
    have na : ∀ {f : Str}, f ∈ lineNames → NoAttr K C f := fun h => T.na _ h
    refine ⟨_, rfl, _, rfl, x, C, dx, _, rfl, hx, T.cl, na (by decide +kernel), (by show 0 < 1000; decide), ?_⟩
    refine ⟨_, rfl, _, rfl, x, C, dx, _, rfl, upd_same, T.cl, na (by decide +kernel), (by show 1 < 1000; decide), ?_⟩
    refine ⟨_, rfl, _, rfl, x, C, dx, _, rfl, upd_same, T.cl, na (by decide +kernel), (by show 2 < 1000; decide), ?_⟩
    refine ⟨_, rfl, _, rfl, x, C, dx, _, rfl, upd_same, T.cl, na (by decide +kernel), (by show 3 < 1000; decide), ?_⟩
    refine ⟨_, rfl, _, rfl, x, C, dx, _, rfl, upd_same, T.cl, na (by decide +kernel), (by show 4 < 1000; decide), ?_⟩
    refine ⟨_, rfl, _, rfl, x, C, dx, _, rfl, upd_same, T.cl, na (by decide +kernel), (by show 5 < 1000; decide), ?_⟩
    refine ⟨_, rfl, x, C, dx, _, rfl, upd_same, T.cl, na (by decide +kernel), (by show 6 < 1000; decide), ?_⟩
    refine ⟨_, rfl, x, C, dx, _, rfl, upd_same, T.cl, na (by decide +kernel), (by show 7 < 1000; decide), ?_⟩
    refine ⟨_, rfl, x, C, dx, _, rfl, upd_same, T.cl, na (by decide +kernel), (by show 8 < 1000; decide), ?_⟩
    show Q .non _
    rw [upd_upd, upd_upd, upd_upd, upd_upd, upd_upd, upd_upd, upd_upd, upd_upd]
    exact q
end
end TX
namespace TX
open PySem PySem.Spec PyProof.Rows L2 KTD
/-! ### the line that begins a function -/
def readDef (ts : List Str) (M : Mean) : Option (Str × Str) := match ts with
  | [a, n, b, v, c, d] => if a = "def" ∧ b = "(" ∧ c = ")" ∧ d = ":" ∧ (meanAt M n).isSome = false ∧ n ≠ v ∧ isNameZ n = true ∧ canBe M v "variable" = true then some (n, v) else none
  | _ => none
/-- a new line -/
def NewLn (C : Addr) (H : Hp) (fs : List (Str × V)) (Q : VK) : Prop := ∀ (H' : Hp) (x dx : Addr), Same H H' → H x = none → H' x = some (.ins C dx fs) → Q (.ref x) H'
def spReadDef (K : PySem.W.Frag) (C : Addr) : Sp := fun vs H Q _ => ∃ (l d : Addr) (ts : List Str) (M : Mean), vs = [.ref l, .ref d] ∧ SqL K H l (ts.map V.str) ∧ (∀ t ∈ ts, t.length ≤ 1000000) ∧ H d = some (.dK (mKV M)) ∧
  (readDef ts M = none → Q .non H) ∧ ∀ n v, readDef ts M = some (n, v) → NewLn C H (lineF (.str "def") (.str n) (.str v) .non .non .non .non .non .non) Q
structure LnM (K : PySem.W.Frag) (mg : Str → Option Value) (C fL : Addr) (dL : FuncData) : Prop where
  T : LnC K C
  M : Mk K C fL
  mgC : mg "Line" = some (.ref C)
  b5 : Binds K dL ["self", "deed", "name", "variable", "form", "ask", "test"] [.none, .none, .none, .none, .none]
  b3 : Binds K dL ["self", "deed", "name", "variable", "form", "ask", "test"] [.none, .none, .none]
  b1 : Binds K dL ["self", "deed", "name", "variable", "form", "ask", "test"] [.none]
  b0 : Binds K dL ["self", "deed", "name", "variable", "form", "ask", "test"] []
section
variable {P : Program} {w : World} {K : PySem.W.Frag} {mg : Str → Option Value} {base : Heap} {C : Addr}
theorem scReadDef : FnScope ["tokens", "meanings", "name", "variable"] ["tokens", "meanings"] (defScope s_read_def) := ⟨rfl, rfl, rfl, by decide +kernel, rfl, by decide +kernel, by decide +kernel⟩
theorem ok_readDef {f fN fB fL : Addr} {fd dN dB dL : FuncData} {tV : Tok} (F : Fun K "read_def" "read_def" s_read_def f fd) (len : mg "len" = none) (GN : FnOk P w K mg base CX0 1 fN dN ["token"] spIsName) (gN : mg "is_name" = some (.ref fN)) (kN : PySem.W.keepIn K (.ref fN) = true) (bN : Binds K dN ["token"] [])
    (GB : FnOk P w K mg base CX0 2 fB dB ["meanings", "name", "meaning"] spCanBe) (gB : mg "can_be" = some (.ref fB)) (kB : PySem.W.keepIn K (.ref fB) = true) (bB : Binds K dB ["meanings", "name", "meaning"] []) (gV : mg "VARIABLE" = some (.str "variable" tV))
    (L : LnM K mg C fL dL) (GL : FnOk P w K mg base CX0 1 fL dL ["self", "deed", "name", "variable", "form", "ask", "test"] (spLine K C)) : FnOk P w K mg base CX0 3 f fd ["tokens", "meanings"] (spReadDef K C) := by
  refine F.ok scReadDef (fun vs H Q E h => ?_) (fun cdv A outer s H vs Q E hr h => ?_)
  · obtain ⟨l, d, ts, M, rfl, _⟩ := h
    rfl
  · obtain ⟨l, d, ts, M, rfl, hl, hz, hd, q0, q1⟩ := h
    have hu2 : (A.deeper (envOfC "read_def" (defScope s_read_def) s.heap.objs.size f cdv)).units + 1 < PySem.cLine := by
      have := hr.un
      omega
    have r1 : Room 1 _ := hr.mono (by decide)
    have r2 : Room 2 _ := hr.mono (by decide)
    refine ⟨_, pss_cons (ps_if (PW.pt (pw_or (pt_cmpR op_ne (pe_callB call_len_seq (by rfl) len PySem.boot_len (pa_cons (pv 0) pa_nil)) pe_int (nomark _)) (pw_or (pt_cmpR op_ne (pe_ix ix_list (pv 0) pe_int (fun _ _ => rfl)) pe_str (nomark _)) (pw_or (pt_cmpR op_ne (pe_ix ix_list (pv 0) pe_int (fun _ _ => rfl)) pe_str (nomark _)) (pw_or (pt_cmpR op_ne (pe_ix ix_list (pv 0) pe_int (fun _ _ => rfl)) pe_str (nomark _)) (pw_or1 (pt_cmpR op_ne (pe_ix ix_list (pv 0) pe_int (fun _ _ => rfl)) pe_str (nomark _)))))))) (pss_one (ps_ret pe_non)) pss_nil) <|
      pss_cons (ps_par (i := 2) (j := 3) rfl scReadDef.nd rfl rfl (by decide) rfl rfl (pa_cons (pe_ix ix_list (pv 0) pe_int (fun _ _ => rfl)) (pa_cons (pe_ix ix_list (pv 0) pe_int (fun _ _ => rfl)) pa_nil)) (by rfl)) <|
      pss_cons (ps_if (PW.pt (pw_or (pt_cmp (pc_din hu2 (pv 2) (pv 1))) (pw_or (pt_cmpR op_eq (pv 2) (pv 3) (nomark _)) (pw_or (pt_not (pt_val (pe_call GN r1 (by rfl) gN kN bN .nil pass0 (pa_cons (pv 2) pa_nil)))) (pw_or1 (pt_not (pt_val (pe_call GB r2 (by rfl) gB kB bB .nil pass0 (pa_cons (pv 1) (pa_cons (pv 3) (pa_cons (pe_glob (v := .str "variable") (by rfl) gV ⟨_, rfl⟩) pa_nil)))))))))))
        (pss_one (ps_ret pe_non)) pss_nil) <|
      pss_one (ps_ret (pe_make (dvs := [.non, .non, .non]) L.M GL r2 (by rfl) L.mgC L.b3 (.cons rfl (.cons rfl (.cons rfl .nil))) pass0 (pa_cons pe_str (pa_cons (pv 2) (pa_cons (pv 3) pa_nil))))), ?_⟩
    have nst : ∀ {a b : Str} {A' B' : Prop}, (a ≠ b → A') → (a = b → B') → (if (!decide (V.str a = V.str b)) = true then A' else B') := fun {a b A' B'} h g => by
      by_cases e : a = b
      · rw [decide_eq_true (by rw [e])]
        exact iteF (g e)
      · rw [decide_eq_false (fun z => e (by injection z))]
        exact iteT (h e)
    have at_ : ∀ {i : Nat} {t : Str}, ts[i]? = some t → atI (ts.map V.str) (i : Int) = some (.str t) := fun h => atI_nat (by rw [List.getElem?_map, h]; rfl)
    refine ⟨_, rfl, l, _, rfl, .inl hl, rfl, _, rfl, ?_⟩
    rw [List.length_map]
    by_cases h6 : ts.length = 6
    · obtain ⟨a, n, b, v, c, e, rfl⟩ : ∃ a n b v c e, ts = [a, n, b, v, c, e] := by
        match ts, h6 with
        | [a, n, b, v, c, e], _ => exact ⟨a, n, b, v, c, e, rfl⟩
      rw [decide_eq_true (show V.int (([a, n, b, v, c, e] : List Str).length : Nat) = V.int 6 from rfl)]
      refine iteF ?_
      have no : ∀ {p : Prop}, ¬ p → ((a = "def" ∧ b = "(" ∧ c = ")" ∧ e = ":" ∧ (meanAt M n).isSome = false ∧ n ≠ v ∧ isNameZ n = true ∧ canBe M v "variable" = true) → p) → readDef [a, n, b, v, c, e] M = none := fun hp h => by
        unfold readDef
        exact if_neg fun z => hp (h z)
      refine ⟨_, rfl, l, _, 0, _, rfl, rfl, hl, at_ (i := 0) rfl, rfl, _, rfl, nst (fun ne => iteT (q0 (no ne fun z => z.1))) fun ea => ?_⟩
      refine ⟨_, rfl, l, _, 2, _, rfl, rfl, hl, at_ (i := 2) rfl, rfl, _, rfl, nst (fun ne => iteT (q0 (no ne fun z => z.2.1))) fun eb => ?_⟩
      refine ⟨_, rfl, l, _, 4, _, rfl, rfl, hl, at_ (i := 4) rfl, rfl, _, rfl, nst (fun ne => iteT (q0 (no ne fun z => z.2.2.1))) fun ec => ?_⟩
      refine ⟨_, rfl, l, _, 5, _, rfl, rfl, hl, at_ (i := 5) rfl, rfl, _, rfl, nst (fun ne => q0 (no ne fun z => z.2.2.2.1)) fun ee => ?_⟩
      have zn := hz n (by simp)
      have zv := hz v (by simp)
      refine ⟨_, rfl, l, _, 1, _, rfl, rfl, hl, at_ (i := 1) rfl, _, rfl, l, _, 3, _, rfl, rfl, hl, at_ (i := 3) rfl, _, _, rfl, ?_⟩
      have g : DGet H d (.str n) ((meanAt M n).map V.str) := by
        rw [← mKV_at]
        exact DGet.k (k := .inr n) hd
      refine ⟨_, rfl, _, rfl, d, _, rfl, g, _, rfl, ?_⟩
      cases hM : meanAt M n with
      | some m => exact iteT (iteT (q0 (no (p := False) id fun z => by rw [hM] at z; exact nomatch z.2.2.2.2.1)))
      | none =>
        refine iteF ⟨_, rfl, _, rfl, rfl, _, rfl, ?_⟩
        by_cases env : n = v
        · subst env
          rw [decide_eq_true rfl]
          exact iteT (iteT (q0 (no (p := False) id fun z => z.2.2.2.2.2.1 rfl)))
        · rw [decide_eq_false (fun z => env (by injection z))]
          refine iteF ⟨_, rfl, n, rfl, zn, _, rfl, ?_⟩
          cases hN : isNameZ n with
          | false => exact iteT (iteT (q0 (no (p := False) id fun z => by rw [hN] at z; exact nomatch z.2.2.2.2.2.2.1)))
          | true =>
            refine iteF ⟨_, rfl, _, rfl, d, M, v, "variable", rfl, hd, zv, _, rfl, ?_⟩
            cases hC : canBe M v "variable" with
            | false => exact iteT (q0 (no (p := False) id fun z => by rw [hC] at z; exact nomatch z.2.2.2.2.2.2.2))
            | true =>
              refine iteF ?_
              have yes : readDef [a, n, b, v, c, e] M = some (n, v) := by
                unfold readDef
                exact if_pos ⟨ea, eb, ec, ee, by rw [hM]; rfl, env, hN, hC⟩
              refine ⟨_, rfl, _, rfl, ?_⟩
              dsimp only [tNil, List.nil_append, List.append_nil, List.cons_append]
              refine fun x dx nx ndx hne => ⟨x, dx, .str "def", .str n, .str v, .non, .non, .non, rfl, upd_same, rfl, ?_⟩
              refine q1 n v yes _ x dx ?_ nx upd_same
              exact same_fresh nx (same_fresh nx (same_upd ndx))
    · rw [decide_eq_false (fun z => h6 (by injection z with z; omega))]
      refine iteT (iteT (q0 ?_))
      unfold readDef
      split
      · exact absurd rfl h6
      · rfl
end
end TX
namespace TX
open PySem PySem.Spec PyProof.Rows L2 KTD
/-! ### calls and gifts -/
/-- a table of forms -/
abbrev Tbl := List (Str × (Str × Str))
def tblD (t : Tbl) : List (Str × Dat) := t.map fun p => (p.1, Dat.tup [.str p.2.1, .str p.2.2])
def tblAt : Tbl → Str → Option (Str × Str)
  | [], _ => none
  | (x, y) :: t, z => if z = x then some y else tblAt t z
theorem tblD_at (z : Str) : ∀ t : Tbl, datumAt z (tblD t) = (tblAt t z).map fun q => Dat.tup [.str q.1, .str q.2]
  | [] => rfl
  | (x, y) :: t => by
    show (if decide (z = x) = true then some _ else datumAt z (tblD t)) = (if z = x then some y else tblAt t z).map _
    by_cases h : z = x
    · rw [if_pos h, if_pos (decide_eq_true h)]
      rfl
    · rw [if_neg h, if_neg (by simpa using h), tblD_at z t]
theorem tblD_small : ∀ t : Tbl, ((tblD t).all fun p => smallD p.2) = true
  | [] => rfl
  | (x, y) :: t => by
    show (true && ((tblD t).all fun p => smallD p.2)) = true
    rw [Bool.true_and]
    exact tblD_small t
def blockF (ln va ow lo : V) : List (Str × V) := putF "looped" lo (putF "own" ow (putF "variable" va (putF "line" ln [])))
structure BkC (K : PySem.W.Frag) (C : Addr) : Prop where
  cl : Cls K C
  na : ∀ f ∈ (["line", "variable", "own", "looped"] : List Str), NoAttr K C f
def readCall (t : Tbl) (name shape : Str) (own : Str) (looped : Bool) : Option (Str × Str) := match tblAt t shape with
  | none => none
  | some q => if name = own ∧ q.2 = "it" ∧ (q.1 ≠ "plain" ∨ looped = false) then none else some q
def spReadCall (K : PySem.W.Frag) (C CB : Addr) (t : Tbl) : Sp := fun vs H Q _ => ∃ (name shape own : Str) (b dx : Addr) (ln va : V) (lo : Bool), vs = [.str name, .str shape, .ref b] ∧ H b = some (.ins CB dx (blockF ln va (.str own) (.bl lo))) ∧
  (readCall t name shape own lo = none → Q .non H) ∧ ∀ f a, readCall t name shape own lo = some (f, a) → NewLn C H (lineF (.str "call") (.str name) .non (.str f) (.str a) .non .non .non .non) Q
section
variable {P : Program} {w : World} {K : PySem.W.Frag} {mg : Str → Option Value} {base : Heap} {C CB : Addr}
theorem scReadCall : FnScope ["name", "shape", "block", "told", "form", "ask"] ["name", "shape", "block"] (defScope s_read_call) := ⟨rfl, rfl, rfl, by decide +kernel, rfl, by decide +kernel, by decide +kernel⟩
theorem ok_readCall {f fL aT : Addr} {fd dL : FuncData} {t : Tbl} (F : Fun K "read_call" "read_call" s_read_call f fd) (TT : KTab K aT (tblD t)) (gT : mg "ARGUMENTS" = some (.ref aT)) (TB : BkC K CB)
    (L : LnM K mg C fL dL) (GL : FnOk P w K mg base CX0 1 fL dL ["self", "deed", "name", "variable", "form", "ask", "test"] (spLine K C)) : FnOk P w K mg base CX0 3 f fd ["name", "shape", "block"] (spReadCall K C CB t) := by
  refine F.ok scReadCall (fun vs H Q E h => ?_) (fun cdv A outer s H vs Q E hr h => ?_)
  · obtain ⟨name, shape, own, b, dx, ln, va, lo, rfl, _⟩ := h
    rfl
  · obtain ⟨name, shape, own, b, dx, ln, va, lo, rfl, hb, q0, q1⟩ := h
    have r2 : Room 2 _ := hr.mono (by decide)
    refine ⟨_, pss_cons (ps_set (i := 3) scReadCall.nd rfl (.inl rfl) (pe_getK TT (tblD_small t) (pv 1) (by rfl) gT ⟨by rfl, by rfl, by rfl, by rfl⟩)) <|
      pss_cons (ps_if (pt_cmp (pc_isN (pv 3))) (pss_one (ps_ret pe_non)) pss_nil) <|
      pss_cons (ps_asg (pv 3) (pg_tup rfl (pgs_cons (pg_name (i := 4) scReadCall.nd rfl (.inl rfl)) (pgs_cons (pg_name (i := 5) scReadCall.nd rfl (.inl rfl)) pgs_nil)))) <|
      pss_cons (ps_if (PW.pt (pw_and (pt_cmpR op_eq (pv 0) (pe_fld (pv 2) rfl) (nomark _)) (pw_and (pt_cmpR op_eq (pv 5) pe_str (nomark _)) (pw_and1 (PW.pt (pw_or (pt_cmpR op_ne (pv 4) pe_str (nomark _)) (pw_or1 (pt_not (pt_val (pe_fld (pv 2) rfl)))))))))) (pss_one (ps_ret pe_non)) pss_nil) <|
      pss_one (ps_ret (pe_make (dvs := [.non]) L.M GL r2 (by rfl) L.mgC L.b1 (.cons rfl .nil) pass0 (pa_cons pe_str (pa_cons (pv 0) (pa_cons pe_non (pa_cons (pv 4) (pa_cons (pv 5) pa_nil))))))), ?_⟩
    have na : ∀ {f : Str}, f ∈ (["line", "variable", "own", "looped"] : List Str) → NoAttr K CB f := fun h => TB.na _ h
    have st : ∀ {a b : Str} {A' B' : Prop}, (a = b → A') → (a ≠ b → B') → (if decide (V.str a = V.str b) = true then A' else B') := fun {a b A' B'} h g => by
      by_cases e : a = b
      · rw [decide_eq_true (by rw [e])]
        exact iteT (h e)
      · rw [decide_eq_false (fun z => e (by injection z))]
        exact iteF (g e)
    refine ⟨_, rfl, shape, rfl, ?_⟩
    unfold GotK
    rw [tblD_at]
    have fin : ∀ q, tblAt t shape = some q → ¬ (name = own ∧ q.2 = "it" ∧ (q.1 ≠ "plain" ∨ lo = false)) → readCall t name shape own lo = some (q.1, q.2) := fun q e n => by
      unfold readCall
      rw [e]
      exact if_neg n
    have bad : ∀ q, tblAt t shape = some q → (name = own ∧ q.2 = "it" ∧ (q.1 ≠ "plain" ∨ lo = false)) → readCall t name shape own lo = none := fun q e n => by
      unfold readCall
      rw [e]
      exact if_pos n
    cases ht : tblAt t shape with
    | none =>
      have e0 : readCall t name shape own lo = none := by
        unfold readCall
        rw [ht]
      exact ⟨_, rfl, _, rfl, iteT (q0 e0)⟩
    | some pr =>
      obtain ⟨fo, ak⟩ := pr
      rintro v ⟨a, rfl, hv⟩
      refine ⟨_, rfl, _, rfl, iteF ?_⟩
      refine ⟨_, rfl, a, _, rfl, hv H, rfl, _, _, rfl, _, _, rfl, rfl, ?_⟩
      have fin2 : ¬ (name = own ∧ ak = "it" ∧ (fo ≠ "plain" ∨ lo = false)) → (tRet (tMake C (spLine K C) [.non] E0 (tCons (tC (.str "call")) (tCons (tVar 0) (tCons (tC .non) (tCons (tVar 4) (tCons (tVar 5) tNil))))))) { nx := fun _ H' => Q .non H', rt := Q } [some (.str name), some (.str shape), some (.ref b), some (.ref a), some (.str fo), some (.str ak)] H := fun n => by
        refine ⟨_, rfl, _, rfl, _, rfl, ?_⟩
        dsimp only [tNil, List.nil_append, List.append_nil, List.cons_append]
        refine fun x dx' nx ndx hne => ⟨x, dx', .str "call", .str name, .non, .str fo, .str ak, .non, rfl, upd_same, rfl, ?_⟩
        refine q1 fo ak (fin _ ht n) _ x dx' ?_ nx upd_same
        exact same_fresh nx (same_fresh nx (same_upd ndx))
      refine ⟨_, rfl, _, rfl, b, CB, dx, _, _, rfl, hb, TB.cl, na (by decide +kernel), rfl, rfl, _, rfl, st (fun e1 => ?_) (fun e1 => ?_)⟩
      · refine ⟨_, rfl, rfl, _, rfl, st (fun e2 => ?_) (fun e2 => ?_)⟩
        · refine ⟨_, rfl, rfl, _, rfl, ?_⟩
          by_cases e3 : fo = "plain"
          · rw [decide_eq_true (show flatV (PyData.str (fo, ak).fst) = V.str "plain" by show V.str fo = _; rw [e3])]
            refine iteF ⟨_, rfl, b, CB, dx, _, _, rfl, hb, TB.cl, na (by decide +kernel), rfl, _, rfl, ?_⟩
            cases lo with
            | true => exact iteF (fin2 fun z => z.2.2.elim (fun y => y e3) (fun y => nomatch y))
            | false => exact iteT (q0 (bad _ ht ⟨e1, e2, .inr rfl⟩))
          · rw [decide_eq_false (show ¬ flatV (PyData.str (fo, ak).fst) = V.str "plain" from fun z => e3 (V.str.inj z))]
            exact iteT (iteT (q0 (bad _ ht ⟨e1, e2, .inl e3⟩)))
        · exact iteF (fin2 fun z => e2 z.2.1)
      · exact iteF (fin2 fun z => e1 z.1)
end
end TX
namespace TX
open PySem PySem.Spec PyProof.Rows L2 KTD
/-! ### what a line hands over -/
def formsT : List (Str × Str) := [("V", "plain"), ("W", "wrap"), ("M", "many"), ("S", "some")]
def formsD : List (Str × Dat) := formsT.map fun p => (p.1, Dat.flat (.str p.2))
def formAt (z : Str) : Option Str := (formsT.find? fun p => decide (z = p.1)).map (·.2)
/-- the form and what it takes of it -/
def readGift (ta tg : Tbl) (name shape : Str) : Option (Str × Str) := match (tblAt ta shape).or (tblAt tg shape) with
  | some q => some (q.1, if q.2 = "only" then "each" else q.2)
  | none => match Txt.words shape with
    | [a, b, c, d] => if a = "=" ∧ b = name ∧ c = "+" then (formAt d).map fun f => (f, "sum") else none
    | _ => none
def spReadGift (K : PySem.W.Frag) (C : Addr) (ta tg : Tbl) : Sp := fun vs H Q _ => ∃ (name shape : Str), vs = [.str name, .str shape] ∧ shape.length ≤ 1500000 ∧ PyData.strOk name = true ∧ PyData.strOk shape = true ∧
  (readGift ta tg name shape = none → ∀ H', Same H H' → Q .non H') ∧ ∀ f a, readGift ta tg name shape = some (f, a) → NewLn C H (lineF (.str "give") (.str name) .non (.str f) (.str a) .non .non .non .non) Q
theorem wl_mem {sp : Nat → Bool} : ∀ (l cur : List Nat), ∀ w ∈ wl sp cur l, ∀ c ∈ w, c ∈ cur ∨ c ∈ l
  | [], [], w, hw, c, hc => by simp [wl] at hw
  | [], a :: cur, w, hw, c, hc => by
    have : w = a :: cur := by simpa [wl] using hw
    rw [this] at hc
    exact .inl hc
  | d :: l, cur, w, hw, c, hc => by
    rw [wl] at hw
    by_cases h1 : sp d = true
    · rw [if_pos h1] at hw
      by_cases h2 : cur = []
      · rw [if_pos h2] at hw
        rcases wl_mem l [] w hw c hc with z | z
        · cases z
        · exact .inr (List.mem_cons_of_mem _ z)
      · rw [if_neg h2] at hw
        rcases List.mem_cons.mp hw with z | z
        · rw [z] at hc
          exact .inl hc
        · rcases wl_mem l [] w z c hc with y | y
          · cases y
          · exact .inr (List.mem_cons_of_mem _ y)
    · rw [if_neg h1] at hw
      rcases wl_mem l (cur ++ [d]) w hw c hc with z | z
      · rcases List.mem_append.mp z with y | y
        · exact .inl y
        · exact .inr (by rw [List.mem_singleton.mp y]; exact List.mem_cons_self)
      · exact .inr (List.mem_cons_of_mem _ z)
theorem words_ok {x w : Str} (h : PyData.strOk x = true) (hw : w ∈ Txt.words x) : PyData.strOk w = true := by
  unfold PyData.strOk at h ⊢
  rw [Array.all_eq_true_iff_forall_mem] at h ⊢
  intro c hc
  have hm : w.cps.toList ∈ (Txt.words x).map (·.cps.toList) := List.mem_map.mpr ⟨w, hw, rfl⟩
  rw [words_list] at hm
  rcases wl_mem _ _ _ hm c (Array.mem_toList_iff.mpr hc) with z | z
  · cases z
  · exact h c (Array.mem_toList_iff.mp z)
theorem formsD_at (z : Str) : datumAt z formsD = (formAt z).map fun f => Dat.flat (.str f) := by
  unfold formsD formAt formsT
  simp only [List.map_cons, List.map_nil, datumAt, List.find?]
  repeat' split <;> simp_all
section
variable {P : Program} {w : World} {K : PySem.W.Frag} {mg : Str → Option Value} {base : Heap} {C : Addr}
theorem scReadGift : FnScope ["name", "shape", "told", "words"] ["name", "shape"] (defScope s_read_gift) := ⟨rfl, rfl, rfl, by decide +kernel, rfl, by decide +kernel, by decide +kernel⟩
theorem ok_readGift {f fL aA aG aF : Addr} {fd dL : FuncData} {ta tg : Tbl} (F : Fun K "read_gift" "read_gift" s_read_gift f fd) (len : mg "len" = none) (TA : KTab K aA (tblD ta)) (gA : mg "ARGUMENTS" = some (.ref aA)) (TG : KTab K aG (tblD tg)) (gG : mg "GIFTS" = some (.ref aG)) (TF : KTab K aF formsD) (gF : mg "FORMS" = some (.ref aF))
    (L : LnM K mg C fL dL) (GL : FnOk P w K mg base CX0 1 fL dL ["self", "deed", "name", "variable", "form", "ask", "test"] (spLine K C)) : FnOk P w K mg base CX0 3 f fd ["name", "shape"] (spReadGift K C ta tg) := by
  refine F.ok scReadGift (fun vs H Q E h => ?_) (fun cdv A outer s H vs Q E hr h => ?_)
  · obtain ⟨name, shape, rfl, _⟩ := h
    rfl
  · obtain ⟨name, shape, rfl, hz, okn, oks, q0, q1⟩ := h
    have r2 : Room 2 _ := hr.mono (by decide)
    have hu := hr.units
    refine ⟨_, pss_cons (ps_set (i := 2) scReadGift.nd rfl (.inl rfl) (pe_orT (pe_getK TA (tblD_small ta) (pv 1) (by rfl) gA ⟨by rfl, by rfl, by rfl, by rfl⟩) (pe_one (pe_getK TG (tblD_small tg) (pv 1) (by rfl) gG ⟨by rfl, by rfl, by rfl, by rfl⟩)))) <|
      pss_cons (ps_if (pt_cmp (pc_notN (pv 2))) (pss_one (ps_ret (pe_make (dvs := [.non]) L.M GL r2 (by rfl) L.mgC L.b1 (.cons rfl .nil) pass0 (pa_cons pe_str (pa_cons (pv 0) (pa_cons pe_non (pa_cons (pe_ix ix_tup (pv 2) pe_int (fun _ _ => rfl)) (pa_cons (pe_ifExp (pt_cmpR op_eq (pe_ix ix_tup (pv 2) pe_int (fun _ _ => rfl)) pe_str (nomark _)) pe_str (pe_ix ix_tup (pv 2) pe_int (fun _ _ => rfl))) pa_nil)))))))) pss_nil) <|
      pss_cons (ps_set (i := 3) scReadGift.nd rfl (.inl rfl) (pe_words (pv 1))) <|
      pss_cons (ps_if (PW.pt (pw_and (pt_cmpR op_eq (pe_callB call_len_seq (by rfl) len PySem.boot_len (pa_cons (pv 3) pa_nil)) pe_int (nomark _)) (pw_and (pt_cmpR (op_eqD hu) (pe_slice sl_list (pv 3) po_none (po_some pe_int)) (pe_lst (pa_cons pe_str (pa_cons (pv 0) (pa_cons pe_str pa_nil)))) (nomark _)) (pw_and1 (pt_cmp (pc_inK TF (pe_ix ix_list (pv 3) pe_int (fun _ _ => rfl)) (by rfl) gF))))))
        (pss_one (ps_ret (pe_make (dvs := [.non]) L.M GL r2 (by rfl) L.mgC L.b1 (.cons rfl .nil) pass0 (pa_cons pe_str (pa_cons (pv 0) (pa_cons pe_non (pa_cons (pe_itemK TF (by decide +kernel) (pe_ix ix_list (pv 3) pe_int (fun _ _ => rfl)) (by rfl) gF (fun _ _ => rfl)) (pa_cons pe_str pa_nil)))))))) pss_nil) <|
      pss_one (ps_ret pe_non), ?_⟩
    refine ⟨_, rfl, shape, rfl, ?_⟩
    unfold GotK
    rw [tblD_at]
    cases hA : tblAt ta shape with
    | some pr =>
      obtain ⟨fo, ak⟩ := pr
      rintro v ⟨a, rfl, hv⟩
      refine ⟨true, .inr (.inl ⟨_, hv H, rfl⟩), iteT ?_⟩
      refine ⟨_, rfl, _, rfl, iteT ?_⟩
      refine ⟨_, rfl, _, rfl, a, _, 0, _, rfl, rfl, hv _, atI_nat (j := 0) rfl, _, rfl, a, _, 1, _, rfl, rfl, hv _, atI_nat (j := 1) rfl, rfl, _, rfl, ?_⟩
      have er : readGift ta tg name shape = some (fo, if ak = "only" then ("each" : Str) else ak) := by
        unfold readGift
        rw [hA]
        rfl
      have mk : NewLn C H (lineF (.str "give") (.str name) .non (.str fo) (.str (if ak = "only" then ("each" : Str) else ak)) .non .non .non .non) Q := q1 _ _ er
      by_cases eo : ak = "only"
      · rw [if_pos eo] at mk
        rw [decide_eq_true (show flatV (PyData.str ak) = V.str "only" by show V.str ak = _; rw [eo])]
        refine iteT ?_
        dsimp only [tNil, List.nil_append, List.append_nil, List.cons_append]
        exact fun x dx nx ndx hne => ⟨x, dx, .str "give", .str name, .non, .str fo, .str "each", .non, rfl, upd_same, rfl, mk _ x dx (same_fresh nx (same_fresh nx (same_upd ndx))) nx upd_same⟩
      · rw [if_neg eo] at mk
        rw [decide_eq_false (show ¬ flatV (PyData.str ak) = V.str "only" from fun z => eo (V.str.inj z))]
        refine iteF ?_
        refine ⟨_, rfl, a, _, 1, _, rfl, rfl, hv _, atI_nat (j := 1) rfl, ?_⟩
        dsimp only [tNil, List.nil_append, List.append_nil, List.cons_append]
        exact fun x dx nx ndx hne => ⟨x, dx, .str "give", .str name, .non, .str fo, .str ak, .non, rfl, upd_same, rfl, mk _ x dx (same_fresh nx (same_fresh nx (same_upd ndx))) nx upd_same⟩
    | none =>
      refine ⟨false, rfl, iteF ⟨_, rfl, shape, rfl, ?_⟩⟩
      unfold GotK
      rw [tblD_at]
      cases hG : tblAt tg shape with
      | some pr =>
        obtain ⟨fo, ak⟩ := pr
        rintro v ⟨a, rfl, hv⟩
        refine ⟨_, rfl, _, rfl, iteT ?_⟩
        refine ⟨_, rfl, _, rfl, a, _, 0, _, rfl, rfl, hv _, atI_nat (j := 0) rfl, _, rfl, a, _, 1, _, rfl, rfl, hv _, atI_nat (j := 1) rfl, rfl, _, rfl, ?_⟩
        have er : readGift ta tg name shape = some (fo, if ak = "only" then ("each" : Str) else ak) := by
          unfold readGift
          rw [hA, hG]
          rfl
        have mk : NewLn C H (lineF (.str "give") (.str name) .non (.str fo) (.str (if ak = "only" then ("each" : Str) else ak)) .non .non .non .non) Q := q1 _ _ er
        by_cases eo : ak = "only"
        · rw [if_pos eo] at mk
          rw [decide_eq_true (show flatV (PyData.str ak) = V.str "only" by show V.str ak = _; rw [eo])]
          refine iteT ?_
          dsimp only [tNil, List.nil_append, List.append_nil, List.cons_append]
          exact fun x dx nx ndx hne => ⟨x, dx, .str "give", .str name, .non, .str fo, .str "each", .non, rfl, upd_same, rfl, mk _ x dx (same_fresh nx (same_fresh nx (same_upd ndx))) nx upd_same⟩
        · rw [if_neg eo] at mk
          rw [decide_eq_false (show ¬ flatV (PyData.str ak) = V.str "only" from fun z => eo (V.str.inj z))]
          refine iteF ?_
          refine ⟨_, rfl, a, _, 1, _, rfl, rfl, hv _, atI_nat (j := 1) rfl, ?_⟩
          dsimp only [tNil, List.nil_append, List.append_nil, List.cons_append]
          exact fun x dx nx ndx hne => ⟨x, dx, .str "give", .str name, .non, .str fo, .str ak, .non, rfl, upd_same, rfl, mk _ x dx (same_fresh nx (same_fresh nx (same_upd ndx))) nx upd_same⟩
      | none =>
        refine ⟨_, rfl, _, rfl, iteF ?_⟩
        have no : (Txt.words shape).length ≠ 4 → readGift ta tg name shape = none := fun h => by
          unfold readGift
          rw [hA, hG]
          show (match Txt.words shape with | [a, b, c, d] => _ | _ => none) = none
          split
          · rename_i e
            rw [e] at h
            exact absurd rfl h
          · rfl
        refine ⟨_, rfl, ⟨_, rfl⟩, shape, rfl, rfl, Nat.le_trans (show shape.length + 2 ≤ 1500002 by omega) (by decide), fun l nl => ?_⟩
        have s1 : Same H (upd H l (.lst ((Txt.words shape).map V.str))) := same_upd nl
        have e1 : (upd H l (.lst ((Txt.words shape).map V.str))) l = some (.lst ((Txt.words shape).map V.str)) := upd_same
        generalize upd H l (.lst ((Txt.words shape).map V.str)) = G at s1 e1 ⊢
        refine ⟨_, rfl, l, _, rfl, .inl (SqL.of e1), rfl, _, rfl, ?_⟩
        rw [List.length_map]
        by_cases h4 : (Txt.words shape).length = 4
        · obtain ⟨a, b, c, e, ew⟩ : ∃ a b c e, Txt.words shape = [a, b, c, e] := by
            match h : Txt.words shape, h4 with
            | [a, b, c, e], _ => exact ⟨a, b, c, e, rfl⟩
          have ok : ∀ t ∈ ([a, b, c, e] : List Str), PyData.strOk t = true := fun t ht => words_ok oks (by rw [ew]; exact ht)
          rw [ew] at e1 ⊢
          refine iteT ?_
          refine ⟨_, rfl, _, rfl, l, _, rfl, SqL.of e1, fun c1 nc => ?_⟩
          have s2 := same_upd (o := .lst (cutV (([a, b, c, e] : List Str).map V.str) none (some 3))) nc
          have e2 := upd_same (H := G) (a := c1) (o := .lst (cutV (([a, b, c, e] : List Str).map V.str) none (some 3)))
          have cu : cutV (([a, b, c, e] : List Str).map V.str) none (some 3) = [.str a, .str b, .str c] := rfl
          rw [cu] at s2 e2 ⊢
          generalize upd G c1 (.lst [.str a, .str b, .str c]) = G2 at s2 e2 ⊢
          have l2 := s2 _ _ e1
          refine ⟨_, rfl, (by show 3 ≤ sizeLine; decide), fun c3 n3 => ?_⟩
          have s3 := same_upd (o := .lst [.str "=", .str name, .str "+"]) n3
          have e3 := upd_same (H := G2) (a := c3) (o := .lst [.str "=", .str name, .str "+"])
          generalize upd G2 c3 (.lst [.str "=", .str name, .str "+"]) = G3 at s3 e3 ⊢
          have l3 := s3 _ _ l2
          have sh : ∀ {x y z : Str}, PyData.strOk x = true → PyData.strOk y = true → PyData.strOk z = true → SeqAt.shaped (.list [.str x, .str y, .str z]) = true := fun {x y z} hx hy hz => by
            unfold SeqAt.shaped
            have cl : (PyData.list [.str x, .str y, .str z]).canLay0 = true := by simp only [PyData.canLay0, PyData.canLayAll0, hx, hy, hz, Bool.and_self]
            rw [cl, Bool.true_and]
            rfl
          have ev : PyData.eqv (.list [.str a, .str b, .str c]) (.list [.str "=", .str name, .str "+"]) = decide (a = "=" ∧ b = name ∧ c = "+") := by
            by_cases h1 : a = "=" <;> by_cases h2 : b = name <;> by_cases h3 : c = "+" <;> simp [PyData.eqv, PyData.eqvAll, h1, h2, h3]
          refine ⟨.list [.str a, .str b, .str c], .list [.str "=", .str name, .str "+"], .lst (SqL.of (s3 _ _ e2)) (.cons (.str _) (.cons (.str _) (.cons (.str _) .nil))), .lst (SqL.of e3) (.cons (.str _) (.cons (.str _) (.cons (.str _) .nil))), sh (ok a (by simp)) (ok b (by simp)) (ok c (by simp)), sh (by decide +kernel) okn (by decide +kernel), _, rfl, ?_⟩
          rw [ev]
          have sAll := s1.trans (s2.trans s3)
          have rd : readGift ta tg name shape = if a = "=" ∧ b = name ∧ c = "+" then (formAt e).map fun f => (f, ("sum" : Str)) else none := by
            unfold readGift
            rw [hA, hG, ew]
            rfl
          by_cases hc : a = "=" ∧ b = name ∧ c = "+"
          · rw [if_pos hc] at rd
            rw [decide_eq_true hc]
            refine iteT ⟨_, rfl, l, _, 3, _, rfl, rfl, SqL.of l3, atI_nat (j := 3) rfl, e, rfl, _, rfl, ?_⟩
            have ik : inKeys e formsD = (formAt e).isSome := by
              rw [← isSome_datumAt, formsD_at, Option.isSome_map]
            rw [ik]
            cases hf : formAt e with
            | none =>
              rw [hf] at rd
              exact iteF (q0 rd G3 sAll)
            | some fo =>
              rw [hf] at rd
              refine iteT ⟨_, rfl, _, rfl, l, _, 3, _, rfl, rfl, SqL.of l3, atI_nat (j := 3) rfl, e, _, rfl, by rw [formsD_at, hf]; rfl, fun v hv => ?_⟩
              have hv : v = .str fo := hv
              subst hv
              dsimp only [tNil, List.nil_append, List.append_nil, List.cons_append]
              exact fun x dx nx ndx hne => ⟨x, dx, .str "give", .str name, .non, .str fo, .str "sum", .non, rfl, upd_same, rfl, q1 fo "sum" rd _ x dx (sAll.trans (same_fresh nx (same_fresh nx (same_upd ndx)))) (sAll.free nx) upd_same⟩
          · rw [if_neg hc] at rd
            rw [decide_eq_false hc]
            exact iteF (iteF (q0 rd G3 sAll))
        · rw [decide_eq_false (fun z => h4 (by injection z with z; omega))]
          exact iteF (iteF (q0 (no h4) G s1))
end
end TX
namespace TX
open PySem PySem.Spec PyProof.Rows L2 KTD
/-! ### loops, lines of one word -/
def readFor (tl : Tbl) (ts : List Str) (va : Str) (M : Mean) : Option (Str × Str × Str) := match tblAt tl (shapeZ (ts.drop 2) va), ts[1]? with
  | some q, some x => if canBe M x "variable" = true then some (x, q.1, q.2) else none
  | _, _ => none
def Few (ts : List Str) : Prop := (ts.map (·.length)).sum + ts.length ≤ 5000
theorem few_one : ∀ {ts : List Str} {t : Str}, t ∈ ts → t.length ≤ (ts.map (·.length)).sum
  | a :: ts, t, h => by
    simp only [List.map_cons, List.sum_cons]
    rcases List.mem_cons.mp h with e | e
    · rw [e]
      omega
    · have := few_one e
      omega
theorem few_drop : ∀ (n : Nat) (ts : List Str), ((ts.drop n).map (·.length)).sum + (ts.drop n).length ≤ (ts.map (·.length)).sum + ts.length
  | 0, ts => by rw [List.drop_zero]; exact Nat.le_refl _
  | n + 1, [] => by simp
  | n + 1, a :: ts => by
    have := few_drop n ts
    simp only [List.drop_succ_cons, List.map_cons, List.sum_cons, List.length_cons]
    omega
theorem cut_drop {ts : List V} {n : Nat} (h : n ≤ ts.length) : cutV ts (some (n : Int)) none = ts.drop n := by
  unfold cutV
  rw [HT.sIx_nat, HT.sIx_none, Nat.min_eq_left h, List.take_of_length_le (by rw [List.length_drop]; exact Nat.le_refl _)]
def spReadFor (K : PySem.W.Frag) (C CB : Addr) (tl : Tbl) : Sp := fun vs H Q _ => ∃ (l b dx d : Addr) (ts : List Str) (va : Str) (ln ow lo : V) (M : Mean), vs = [.ref l, .ref b, .ref d] ∧ H l = some (.lst (ts.map V.str)) ∧ 2 < ts.length ∧ Few ts ∧ H b = some (.ins CB dx (blockF ln (.str va) ow lo)) ∧ va.length ≤ 5000 ∧ va ≠ "V" ∧ H d = some (.dK (mKV M)) ∧
  (readFor tl ts va M = none → ∀ H', Same H H' → Q .non H') ∧ ∀ x f a, readFor tl ts va M = some (x, f, a) → NewLn C H (lineF (.str "for") .non (.str x) (.str f) (.str a) .non .non .non .non) Q
section
variable {P : Program} {w : World} {K : PySem.W.Frag} {mg : Str → Option Value} {base : Heap} {C CB : Addr}
theorem scReadFor : FnScope ["tokens", "block", "meanings", "told"] ["tokens", "block", "meanings"] (defScope s_read_for) := ⟨rfl, rfl, rfl, by decide +kernel, rfl, by decide +kernel, by decide +kernel⟩
theorem ok_readFor {f fS fB fL aT : Addr} {fd dS dB dL : FuncData} {tl : Tbl} {tV : Tok} (F : Fun K "read_for" "read_for" s_read_for f fd) (TT : KTab K aT (tblD tl)) (gT : mg "LOOPS" = some (.ref aT)) (TB : BkC K CB) (GS : FnOk P w K mg base CX0 1 fS dS ["tokens", "variable"] (spShape K)) (gS : mg "shape_of" = some (.ref fS)) (kS : PySem.W.keepIn K (.ref fS) = true) (bS : Binds K dS ["tokens", "variable"] [])
    (GB : FnOk P w K mg base CX0 2 fB dB ["meanings", "name", "meaning"] spCanBe) (gB : mg "can_be" = some (.ref fB)) (kB : PySem.W.keepIn K (.ref fB) = true) (bB : Binds K dB ["meanings", "name", "meaning"] []) (gV : mg "VARIABLE" = some (.str "variable" tV))
    (L : LnM K mg C fL dL) (GL : FnOk P w K mg base CX0 1 fL dL ["self", "deed", "name", "variable", "form", "ask", "test"] (spLine K C)) : FnOk P w K mg base CX0 3 f fd ["tokens", "block", "meanings"] (spReadFor K C CB tl) := by
  refine F.ok scReadFor (fun vs H Q E h => ?_) (fun cdv A outer s H vs Q E hr h => ?_)
  · obtain ⟨l, b, dx, d, ts, va, ln, ow, lo, M, rfl, _⟩ := h
    rfl
  · obtain ⟨l, b, dx, d, ts, va, ln, ow, lo, M, rfl, hl, h2, hz, hb, hv, hV, hd, q0, q1⟩ := h
    have r1 : Room 1 _ := hr.mono (by decide)
    have r2 : Room 2 _ := hr.mono (by decide)
    refine ⟨_, pss_cons (ps_set (i := 3) scReadFor.nd rfl (.inl rfl) (pe_getK TT (tblD_small tl) (pe_call GS r1 (by rfl) gS kS bS .nil pass0 (pa_cons (pe_slice sl_list (pv 0) (po_some pe_int) po_none) (pa_cons (pe_fld (pv 1) rfl) pa_nil))) (by rfl) gT ⟨by rfl, by rfl, by rfl, by rfl⟩)) <|
      pss_cons (ps_if (PW.pt (pw_or (pt_cmp (pc_isN (pv 3))) (pw_or1 (pt_not (pt_val (pe_call GB r2 (by rfl) gB kB bB .nil pass0 (pa_cons (pv 2) (pa_cons (pe_ix ix_list (pv 0) pe_int (fun _ _ => rfl)) (pa_cons (pe_glob (v := .str "variable") (by rfl) gV ⟨_, rfl⟩) pa_nil))))))))) (pss_one (ps_ret pe_non)) pss_nil) <|
      pss_one (ps_ret (pe_make (dvs := [.non]) L.M GL r2 (by rfl) L.mgC L.b1 (.cons rfl .nil) pass0 (pa_cons pe_str (pa_cons pe_non (pa_cons (pe_ix ix_list (pv 0) pe_int (fun _ _ => rfl)) (pa_cons (pe_ix ix_tup (pv 3) pe_int (fun _ _ => rfl)) (pa_cons (pe_ix ix_tup (pv 3) pe_int (fun _ _ => rfl)) pa_nil))))))), ?_⟩
    obtain ⟨x, hx⟩ : ∃ x, ts[1]? = some x := ⟨ts[1], List.getElem?_eq_getElem (by omega)⟩
    have zx : x.length ≤ 1000000 := by
      have := few_one (List.mem_of_getElem? hx)
      unfold Few at hz
      omega
    refine ⟨_, rfl, _, rfl, l, _, rfl, SqL.of hl, fun c nc => ?_⟩
    rw [show (2 : Int) = ((2 : Nat) : Int) from rfl, cut_drop (by rw [List.length_map]; omega), ← List.map_drop]
    have s1 := same_upd (o := .lst ((ts.drop 2).map V.str)) nc
    have e1 := upd_same (H := H) (a := c) (o := .lst ((ts.drop 2).map V.str))
    generalize upd H c (.lst ((ts.drop 2).map V.str)) = G at s1 e1 ⊢
    refine ⟨_, rfl, b, CB, dx, _, _, rfl, s1 _ _ hb, TB.cl, TB.na _ (by decide +kernel), rfl, c, ts.drop 2, va, rfl, SqL.of e1, ?_, hv, hV, _, rfl, ?_⟩
    · have := few_drop 2 ts
      unfold Few at hz
      omega
    unfold GotK
    rw [tblD_at]
    have at1 : atI (ts.map V.str) 1 = some (.str x) := atI_nat (j := 1) (by rw [List.getElem?_map, hx]; rfl)
    have rd : readFor tl ts va M = match tblAt tl (shapeZ (ts.drop 2) va) with | some q => (if canBe M x "variable" = true then some (x, q.1, q.2) else none) | none => none := by
      unfold readFor
      rw [hx]
      cases tblAt tl (shapeZ (ts.drop 2) va) <;> rfl
    cases hA : tblAt tl (shapeZ (ts.drop 2) va) with
    | none =>
      rw [hA] at rd
      exact ⟨_, rfl, _, rfl, iteT (iteT (q0 rd G s1))⟩
    | some pr =>
      obtain ⟨fo, ak⟩ := pr
      rw [hA] at rd
      rintro v ⟨a, rfl, hv2⟩
      refine ⟨_, rfl, _, rfl, iteF ?_⟩
      refine ⟨_, rfl, _, rfl, l, _, 1, _, rfl, rfl, SqL.of (s1 _ _ hl), at1, d, M, x, "variable", rfl, s1 _ _ hd, zx, _, rfl, ?_⟩
      cases hC : canBe M x "variable" with
      | false =>
        rw [hC] at rd
        exact iteT (q0 rd G s1)
      | true =>
        rw [hC] at rd
        refine iteF ⟨_, rfl, l, _, 1, _, rfl, rfl, SqL.of (s1 _ _ hl), at1, _, rfl, a, _, 0, _, rfl, rfl, hv2 _, atI_nat (j := 0) rfl, _, rfl, a, _, 1, _, rfl, rfl, hv2 _, atI_nat (j := 1) rfl, ?_⟩
        dsimp only [tNil, List.nil_append, List.append_nil, List.cons_append]
        exact fun y dy nx ndx hne => ⟨y, dy, .str "for", .non, .str x, .str fo, .str ak, .non, rfl, upd_same, rfl, q1 x fo ak rd _ y dy (s1.trans (same_fresh nx (same_fresh nx (same_upd ndx)))) (s1.free nx) upd_same⟩
end
end TX
namespace TX
open PySem PySem.Spec PyProof.Rows L2 KTD
/-- a line of one word -/
def readBare (ts : List Str) (lo : Bool) : Option Str := match ts with
  | [] => none
  | w :: r => if w = "else" then (if r = [(":" : Str)] then some "else" else none) else if r ≠ [] ∨ ((w = "skip" ∨ w = "break") ∧ lo = false) then none else some w
def spReadBare (K : PySem.W.Frag) (C CB : Addr) : Sp := fun vs H Q _ => ∃ (l b dx : Addr) (ts : List Str) (ln va ow : V) (lo : Bool), vs = [.ref l, .ref b] ∧ H l = some (.lst (ts.map V.str)) ∧ 0 < ts.length ∧ (∀ t ∈ ts, PyData.strOk t = true) ∧ H b = some (.ins CB dx (blockF ln va ow (.bl lo))) ∧
  (readBare ts lo = none → ∀ H', Same H H' → Q .non H') ∧ ∀ w, readBare ts lo = some w → NewLn C H (lineF (.str w) .non .non .non .non .non .non .non .non) Q
theorem inV_two (w : Str) : inV (.str w) [.str "skip", .str "break"] = decide (w = "skip" ∨ w = "break") := by
  show ((("skip" : Str) == w) || ((("break" : Str) == w) || false)) = _
  rw [Bool.or_false, Bool.decide_or]
  have e : ∀ x : Str, (x == w) = decide (w = x) := fun x => by
    by_cases h : w = x
    · subst h
      rw [decide_eq_true rfl]
      exact beq_self_eq_true _
    · rw [decide_eq_false h]
      exact beq_eq_false_iff_ne.mpr fun z => h z.symm
  rw [e, e]
theorem lay_texts : ∀ {ts : List Str}, (∀ t ∈ ts, PyData.strOk t = true) → PyData.canLayAll0 (ts.map PyData.str) = true ∧ PyData.depthAll (ts.map PyData.str) = 0
  | [], _ => ⟨rfl, rfl⟩
  | x :: l, h => by
    have ih := lay_texts (ts := l) fun t ht => h t (List.mem_cons_of_mem _ ht)
    constructor
    · show ((PyData.str x).canLay0 && PyData.canLayAll0 (l.map PyData.str)) = true
      rw [ih.1]
      exact (Bool.and_true _).trans (h x (List.mem_cons_self ..))
    · show max (PyData.str x).depth (PyData.depthAll (l.map PyData.str)) = 0
      rw [ih.2]
      rfl
theorem shaped_texts {ts : List Str} (h : ∀ t ∈ ts, PyData.strOk t = true) : SeqAt.shaped (.list (ts.map PyData.str)) = true := by
  have ih := lay_texts h
  unfold SeqAt.shaped
  have cl : (PyData.list (ts.map PyData.str)).canLay0 = true := ih.1
  rw [cl, Bool.true_and]
  refine decide_eq_true ?_
  show PyData.depthAll (ts.map PyData.str) + 1 ≤ 64
  rw [ih.2]
  decide
theorem dps_texts {K : PySem.W.Frag} {H : Hp} : ∀ (ts : List Str), DpAll K H (ts.map V.str) (ts.map PyData.str)
  | [] => .nil
  | x :: l => .cons (.str x) (dps_texts l)
section
variable {P : Program} {w : World} {K : PySem.W.Frag} {mg : Str → Option Value} {base : Heap} {C CB : Addr}
theorem scReadBare : FnScope ["tokens", "block", "word"] ["tokens", "block"] (defScope s_read_bare) := ⟨rfl, rfl, rfl, by decide +kernel, rfl, by decide +kernel, by decide +kernel⟩
theorem ok_readBare {f fL : Addr} {fd dL : FuncData} (F : Fun K "read_bare" "read_bare" s_read_bare f fd) (len : mg "len" = none) (TB : BkC K CB)
    (L : LnM K mg C fL dL) (GL : FnOk P w K mg base CX0 1 fL dL ["self", "deed", "name", "variable", "form", "ask", "test"] (spLine K C)) : FnOk P w K mg base CX0 3 f fd ["tokens", "block"] (spReadBare K C CB) := by
  refine F.ok scReadBare (fun vs H Q E h => ?_) (fun cdv A outer s H vs Q E hr h => ?_)
  · obtain ⟨l, b, dx, ts, ln, va, ow, lo, rfl, _⟩ := h
    rfl
  · obtain ⟨l, b, dx, ts, ln, va, ow, lo, rfl, hl, h0, hk, hb, q0, q1⟩ := h
    have r2 : Room 2 _ := hr.mono (by decide)
    have hu := hr.units
    refine ⟨_, pss_cons (ps_set (i := 2) scReadBare.nd rfl (.inl rfl) (pe_ix ix_list (pv 0) pe_int (fun _ _ => rfl))) <|
      pss_cons (ps_if (pt_cmpR op_eq (pv 2) pe_str (nomark _)) (pss_one (ps_ret (pe_ifExp (pt_cmpR (op_eqD hu) (pv 0) (pe_lst (pa_cons pe_str (pa_cons pe_str pa_nil))) (nomark _)) (pe_make (dvs := [.non, .non, .non, .non, .non]) L.M GL r2 (by rfl) L.mgC L.b5 (.cons rfl (.cons rfl (.cons rfl (.cons rfl (.cons rfl .nil))))) pass0 (pa_cons pe_str pa_nil)) pe_non))) pss_nil) <|
      pss_cons (ps_if (PW.pt (pw_or (pt_cmpR op_gt (pe_callB call_len_seq (by rfl) len PySem.boot_len (pa_cons (pv 0) pa_nil)) pe_int (nomark _)) (pw_or1 (PW.pt (pw_and (pt_cmpR op_in_seq (pv 2) (pe_tup (pa_cons pe_str (pa_cons pe_str pa_nil))) (by rfl)) (pw_and1 (pt_not (pt_val (pe_fld (pv 1) rfl))))))))) (pss_one (ps_ret pe_non)) pss_nil) <|
      pss_one (ps_ret (pe_make (dvs := [.non, .non, .non, .non, .non]) L.M GL r2 (by rfl) L.mgC L.b5 (.cons rfl (.cons rfl (.cons rfl (.cons rfl (.cons rfl .nil))))) pass0 (pa_cons (pv 2) pa_nil))), ?_⟩
    obtain ⟨wd, r, rfl⟩ : ∃ wd r, ts = wd :: r := by
      cases ts with
      | nil => cases h0
      | cons a r => exact ⟨a, r, rfl⟩
    refine ⟨_, rfl, l, _, 0, _, rfl, rfl, SqL.of hl, atI_nat (j := 0) rfl, _, rfl, rfl, _, rfl, ?_⟩
    by_cases he : wd = "else"
    · subst he
      rw [decide_eq_true rfl]
      refine iteT ⟨_, rfl, (by show 2 ≤ sizeLine; decide), fun c nc => ?_⟩
      have s1 := same_upd (o := .lst [.str "else", .str ":"]) nc
      have e1 := upd_same (H := H) (a := c) (o := .lst [.str "else", .str ":"])
      have hl1 := s1 _ _ hl
      generalize upd H c (.lst [.str "else", .str ":"]) = G at s1 e1 hl1
      refine ⟨.list ((("else" : Str) :: r).map PyData.str), .list ([("else" : Str), ":"].map PyData.str), .lst (SqL.of hl1) (dps_texts _), .lst (SqL.of e1) (dps_texts ["else", ":"]), shaped_texts hk, shaped_texts (by decide +kernel), _, rfl, ?_⟩
      have ev : PyData.eqv (.list ((("else" : Str) :: r).map PyData.str)) (.list ([("else" : Str), ":"].map PyData.str)) = decide (r = [(":" : Str)]) := by
        match r with
        | [] => rfl
        | [y] => by_cases h : y = ":" <;> simp [PyData.eqv, PyData.eqvAll, h]
        | y :: z :: q => simp [PyData.eqv, PyData.eqvAll]
      rw [ev]
      have rd : readBare (("else" : Str) :: r) lo = if r = [(":" : Str)] then some ("else" : Str) else none := by
        unfold readBare
        exact if_pos rfl
      by_cases hr0 : r = [(":" : Str)]
      · rw [if_pos hr0] at rd
        rw [decide_eq_true hr0]
        refine iteT ?_
        dsimp only [tNil, List.nil_append, List.append_nil, List.cons_append]
        exact fun x dx nx ndx hne => ⟨x, dx, .str "else", .non, .non, .non, .non, .non, rfl, upd_same, rfl, q1 "else" rd _ x dx (s1.trans (same_fresh nx (same_fresh nx (same_upd ndx)))) (s1.free nx) upd_same⟩
      · rw [if_neg hr0] at rd
        rw [decide_eq_false hr0]
        exact iteF (q0 rd G s1)
    · rw [decide_eq_false (fun z => he (by injection z))]
      refine iteF ⟨_, rfl, l, _, rfl, .inl (SqL.of hl), _, _, rfl, rfl, _, rfl, ?_⟩
      have rd : readBare (wd :: r) lo = if r ≠ [] ∨ ((wd = "skip" ∨ wd = "break") ∧ lo = false) then none else some wd := if_neg he
      rw [List.length_map]
      by_cases hr0 : r = []
      · subst hr0
        rw [decide_eq_false (show ¬ ((1 : Int) < (([wd] : List Str).length : Nat)) from by simp)]
        refine iteF ⟨_, rfl, (by decide), fun c nc => ?_⟩
        have s1 := same_upd (o := .tup [.str "skip", .str "break"]) nc
        have e1 := upd_same (H := H) (a := c) (o := .tup [.str "skip", .str "break"])
        have hb1 := s1 _ _ hb
        generalize upd H c (.tup [.str "skip", .str "break"]) = G at s1 e1 hb1 ⊢
        refine ⟨c, _, rfl, .inr (SqT.of e1), rfl, rfl, ?_⟩
        have iv : inV (.str wd) [.str (Str.ofString "skip"), .str (Str.ofString "break")] = decide (wd = "skip" ∨ wd = "break") := inV_two wd
        rw [iv]
        have yes : ¬ ((wd = "skip" ∨ wd = "break") ∧ lo = false) → NewLn C G (lineF (.str wd) .non .non .non .non .non .non .non .non) Q := fun h => by
          rw [if_neg (fun z => z.elim (fun z => z rfl) h)] at rd
          exact fun G' x dx sg nx e => q1 wd rd G' x dx (s1.trans sg) (s1.free nx) e
        by_cases hw : wd = "skip" ∨ wd = "break"
        · rw [decide_eq_true hw]
          refine ⟨_, rfl, iteT ?_⟩
          refine ⟨_, rfl, b, CB, dx, _, _, rfl, hb1, TB.cl, TB.na _ (by decide +kernel), rfl, lo, rfl, ?_⟩
          cases lo with
          | false =>
            refine iteT ?_
            rw [if_pos (.inr ⟨hw, rfl⟩)] at rd
            exact q0 rd G s1
          | true =>
            refine iteF ⟨_, rfl, ?_⟩
            dsimp only [tNil, List.nil_append, List.append_nil, List.cons_append]
            exact fun x dx nx ndx hne => ⟨x, dx, .str wd, .non, .non, .non, .non, .non, rfl, upd_same, rfl, yes (fun z => nomatch z.2) _ x dx (same_fresh nx (same_fresh nx (same_upd ndx))) nx upd_same⟩
        · rw [decide_eq_false hw]
          refine ⟨_, rfl, iteF (iteF ⟨_, rfl, ?_⟩)⟩
          dsimp only [tNil, List.nil_append, List.append_nil, List.cons_append]
          exact fun x dx nx ndx hne => ⟨x, dx, .str wd, .non, .non, .non, .non, .non, rfl, upd_same, rfl, yes (fun z => hw z.1) _ x dx (same_fresh nx (same_fresh nx (same_upd ndx))) nx upd_same⟩
      · rw [decide_eq_true (show (1 : Int) < ((wd :: r).length : Nat) from by cases r with | nil => exact absurd rfl hr0 | cons a b => simp only [List.length_cons]; omega)]
        refine iteT (iteT ?_)
        rw [if_pos (.inl hr0)] at rd
        exact q0 rd H fun _ _ e => e
end
end TX
namespace TX
open PySem PySem.Spec PyProof.Rows L2 KTD
/-! ### a line that begins with a name -/
/-- deed, form, ask -/
def readNamed (ta tg : Tbl) (ts : List Str) (va own : Str) (lo : Bool) (M : Mean) : Option (Str × Str × Str × Str) := match ts with
  | [] => none
  | z :: r =>
    if meanAt M z = some "function" then (readCall ta z (shapeZ r va) own lo).map fun q => ("call", z, q.1, q.2)
    else if canBe M z "taker" = true then (readGift ta tg z (shapeZ r va)).map fun q => ("give", z, q.1, q.2) else none
def spReadNamed (K : PySem.W.Frag) (C CB : Addr) (ta tg : Tbl) : Sp := fun vs H Q _ => ∃ (l b dx d : Addr) (ts : List Str) (va own : Str) (ln : V) (lo : Bool) (M : Mean), vs = [.ref l, .ref b, .ref d] ∧ H l = some (.lst (ts.map V.str)) ∧ 0 < ts.length ∧ Few ts ∧
  H b = some (.ins CB dx (blockF ln (.str va) (.str own) (.bl lo))) ∧ va.length ≤ 5000 ∧ va ≠ "V" ∧ H d = some (.dK (mKV M)) ∧ (∀ t ∈ ts, PyData.strOk t = true) ∧ (shapeZ (ts.drop 1) va).length ≤ 1500000 ∧ PyData.strOk (shapeZ (ts.drop 1) va) = true ∧
  (readNamed ta tg ts va own lo M = none → ∀ H', Same H H' → Q .non H') ∧ ∀ de z f a, readNamed ta tg ts va own lo M = some (de, z, f, a) → NewLn C H (lineF (.str de) (.str z) .non (.str f) (.str a) .non .non .non .non) Q
section
variable {P : Program} {w : World} {K : PySem.W.Frag} {mg : Str → Option Value} {base : Heap} {C CB : Addr}
theorem scReadNamed : FnScope ["tokens", "block", "meanings", "name", "shape"] ["tokens", "block", "meanings"] (defScope s_read_named) := ⟨rfl, rfl, rfl, by decide +kernel, rfl, by decide +kernel, by decide +kernel⟩
theorem ok_readNamed {f fS fB fC fG : Addr} {fd dS dB dC dG : FuncData} {ta tg : Tbl} {tF tT : Tok} (F : Fun K "read_named" "read_named" s_read_named f fd) (TB : BkC K CB)
    (GS : FnOk P w K mg base CX0 1 fS dS ["tokens", "variable"] (spShape K)) (gS : mg "shape_of" = some (.ref fS)) (kS : PySem.W.keepIn K (.ref fS) = true) (bS : Binds K dS ["tokens", "variable"] [])
    (GB : FnOk P w K mg base CX0 2 fB dB ["meanings", "name", "meaning"] spCanBe) (gB : mg "can_be" = some (.ref fB)) (kB : PySem.W.keepIn K (.ref fB) = true) (bB : Binds K dB ["meanings", "name", "meaning"] [])
    (GC : FnOk P w K mg base CX0 3 fC dC ["name", "shape", "block"] (spReadCall K C CB ta)) (gC : mg "read_call" = some (.ref fC)) (kC : PySem.W.keepIn K (.ref fC) = true) (bC : Binds K dC ["name", "shape", "block"] [])
    (GG : FnOk P w K mg base CX0 3 fG dG ["name", "shape"] (spReadGift K C ta tg)) (gG : mg "read_gift" = some (.ref fG)) (kG : PySem.W.keepIn K (.ref fG) = true) (bG : Binds K dG ["name", "shape"] [])
    (gF : mg "FUNCTION" = some (.str "function" tF)) (gT : mg "TAKER" = some (.str "taker" tT)) : FnOk P w K mg base CX0 4 f fd ["tokens", "block", "meanings"] (spReadNamed K C CB ta tg) := by
  refine F.ok scReadNamed (fun vs H Q E h => ?_) (fun cdv A outer s H vs Q E hr h => ?_)
  · obtain ⟨l, b, dx, d, ts, va, own, ln, lo, M, rfl, _⟩ := h
    rfl
  · obtain ⟨l, b, dx, d, ts, va, own, ln, lo, M, rfl, hl, h0, hz, hb, hv, hV, hd, hk, zl, zk, q0, q1⟩ := h
    have hu2 : (A.deeper (envOfC "read_named" (defScope s_read_named) s.heap.objs.size f cdv)).units + 1 < PySem.cLine := by
      have := hr.un
      omega
    have r1 : Room 1 _ := hr.mono (by decide)
    have r2 : Room 2 _ := hr.mono (by decide)
    have r3 : Room 3 _ := hr.mono (by decide)
    refine ⟨_, pss_cons (ps_set (i := 3) scReadNamed.nd rfl (.inl rfl) (pe_ix ix_list (pv 0) pe_int (fun _ _ => rfl))) <|
      pss_cons (ps_set (i := 4) scReadNamed.nd rfl (.inl rfl) (pe_call GS r1 (by rfl) gS kS bS .nil pass0 (pa_cons (pe_slice sl_list (pv 0) (po_some pe_int) po_none) (pa_cons (pe_fld (pv 1) rfl) pa_nil)))) <|
      pss_cons (ps_if (pt_cmpR op_eq (pe_dget1 hu2 (pv 2) (pv 3) ⟨by rfl, by rfl, by rfl, by rfl⟩) (pe_glob (v := .str "function") (by rfl) gF ⟨_, rfl⟩) (nomark _)) (pss_one (ps_ret (pe_call GC r3 (by rfl) gC kC bC .nil pass0 (pa_cons (pv 3) (pa_cons (pv 4) (pa_cons (pv 1) pa_nil)))))) pss_nil) <|
      pss_one (ps_ret (pe_ifExp (pt_val (pe_call GB r2 (by rfl) gB kB bB .nil pass0 (pa_cons (pv 2) (pa_cons (pv 3) (pa_cons (pe_glob (v := .str "taker") (by rfl) gT ⟨_, rfl⟩) pa_nil))))) (pe_call GG r3 (by rfl) gG kG bG .nil pass0 (pa_cons (pv 3) (pa_cons (pv 4) pa_nil))) pe_non)), ?_⟩
    obtain ⟨z, r, rfl⟩ : ∃ z r, ts = z :: r := by
      cases ts with
      | nil => cases h0
      | cons a r => exact ⟨a, r, rfl⟩
    have zx : z.length ≤ 1000000 := by
      have := few_one (List.mem_cons_self (a := z) (l := r))
      unfold Few at hz
      omega
    have rd : readNamed ta tg (z :: r) va own lo M = if meanAt M z = some "function" then (readCall ta z (shapeZ r va) own lo).map fun q => (("call" : Str), z, q.1, q.2) else if canBe M z "taker" = true then (readGift ta tg z (shapeZ r va)).map fun q => (("give" : Str), z, q.1, q.2) else none := rfl
    refine ⟨_, rfl, l, _, 0, _, rfl, rfl, SqL.of hl, atI_nat (j := 0) rfl, ?_⟩
    refine ⟨_, rfl, _, rfl, l, _, rfl, SqL.of hl, fun c nc => ?_⟩
    rw [show (1 : Int) = ((1 : Nat) : Int) from rfl, cut_drop (by rw [List.length_map]; exact h0), ← List.map_drop]
    rw [List.drop_succ_cons, List.drop_zero] at zl zk ⊢
    have s1 := same_upd (o := .lst (r.map V.str)) nc
    have e1 := upd_same (H := H) (a := c) (o := .lst (r.map V.str))
    generalize upd H c (.lst (r.map V.str)) = G at s1 e1 ⊢
    refine ⟨_, rfl, b, CB, dx, _, _, rfl, s1 _ _ hb, TB.cl, TB.na _ (by decide +kernel), rfl, c, r, va, rfl, SqL.of e1, ?_, hv, hV, ?_⟩
    · have := few_drop 1 (z :: r)
      unfold Few at hz
      rw [List.drop_succ_cons, List.drop_zero] at this
      omega
    have hdG := s1 _ _ hd
    have g : DGet G d (.str z) ((meanAt M z).map V.str) := by
      rw [← mKV_at]
      exact DGet.k (k := .inr z) hdG
    have isd : IsD G d := .inl ⟨_, .inl hdG⟩
    have other : meanAt M z ≠ some "function" → readNamed ta tg (z :: r) va own lo M = if canBe M z "taker" = true then (readGift ta tg z (shapeZ r va)).map fun q => (("give" : Str), z, q.1, q.2) else none := fun h => by rw [rd, if_neg h]
    refine ⟨_, rfl, d, rfl, isd, _, rfl, _, g, ?_⟩
    have ne : decide (((meanAt M z).map V.str).getD .non = V.str "function") = decide (meanAt M z = some "function") := by
      cases meanAt M z with
      | none => rfl
      | some m => exact decide_eq_decide.mpr ⟨fun e => congrArg some (V.str.inj e), fun e => congrArg V.str (Option.some.inj e)⟩
    refine ⟨by cases meanAt M z <;> rfl, _, rfl, ?_⟩
    show (if decide (((meanAt M z).map V.str).getD .non = V.str "function") = true then _ else _)
    rw [ne]
    by_cases hF : meanAt M z = some "function"
    · rw [decide_eq_true hF]
      rw [if_pos hF] at rd
      refine iteT ⟨_, rfl, _, rfl, _, rfl, z, shapeZ r va, own, b, dx, ln, .str va, lo, rfl, s1 _ _ hb, ?_, ?_⟩
      · intro e
        rw [e] at rd
        exact q0 rd G s1
      · intro fo ak e
        rw [e] at rd
        exact fun G' x dx sg nx e => q1 _ _ _ _ rd G' x dx (s1.trans sg) (s1.free nx) e
    · rw [decide_eq_false hF]
      have rd2 := other hF
      refine iteF ⟨_, rfl, _, rfl, d, M, z, "taker", rfl, hdG, zx, _, rfl, ?_⟩
      cases hC : canBe M z "taker" with
      | false =>
        rw [if_neg (by rw [hC]; exact Bool.false_ne_true)] at rd2
        exact iteF (q0 rd2 G s1)
      | true =>
        rw [if_pos hC] at rd2
        refine iteT ⟨_, rfl, _, rfl, z, shapeZ r va, rfl, zl, hk z (List.mem_cons_self ..), zk, ?_, ?_⟩
        · intro e G' sg
          rw [e] at rd2
          exact q0 rd2 G' (s1.trans sg)
        · intro fo ak e
          rw [e] at rd2
          exact fun G' x dx sg nx e => q1 _ _ _ _ rd2 G' x dx (s1.trans sg) (s1.free nx) e
end
end TX
namespace TX
open PySem PySem.Spec PyProof.Rows L2 KTD
/-! ### blocks -/
def spBlock (K : PySem.W.Frag) (C : Addr) : Sp := fun vs H Q _ => ∃ (x dx : Addr) (ln va ow lo : V), vs = [.ref x, ln, va, ow, lo] ∧ H x = some (.ins C dx []) ∧ Q .non (upd H x (.ins C dx (blockF ln va ow lo)))
structure BkM (K : PySem.W.Frag) (mg : Str → Option Value) (C fB : Addr) (dB : FuncData) : Prop where
  T : BkC K C
  M : Mk K C fB
  mgC : mg "Block" = some (.ref C)
  b0 : Binds K dB ["self", "line", "variable", "own", "looped"] []
/-- a new block -/
def NewBk (C : Addr) (H : Hp) (fs : List (Str × V)) (Q : VK) : Prop := ∀ (H' : Hp) (x dx : Addr), Same H H' → H x = none → H' x = some (.ins C dx fs) → Q (.ref x) H'
/-- its variable, its function, and whether it is in a loop -/
def blockOf (deed : Str) (lv lname av aown : V) (alo : Bool) : V × V × Bool :=
  if deed = "def" then (lv, lname, false) else if deed = "for" then (lv, aown, true) else (av, aown, alo)
def spBlockOf (K : PySem.W.Frag) (C CB : Addr) : Sp := fun vs H Q _ => ∃ (x dx b bx : Addr) (de : Str) (n v fo ak t nr af ot ln va ow : V) (lo : Bool), vs = [.ref x, .ref b] ∧ H x = some (.ins C dx (lineF (.str de) n v fo ak t nr af ot)) ∧ H b = some (.ins CB bx (blockF ln va ow (.bl lo))) ∧
  NewBk CB H (blockF (.ref x) (blockOf de v n va ow lo).1 (blockOf de v n va ow lo).2.1 (.bl (blockOf de v n va ow lo).2.2)) Q
section
variable {P : Program} {w : World} {K : PySem.W.Frag} {mg : Str → Option Value} {base : Heap} {C CB : Addr}
theorem scBlock : FnScope ["self", "line", "variable", "own", "looped"] ["self", "line", "variable", "own", "looped"] (defScope mBlock_init) := ⟨rfl, rfl, rfl, by decide +kernel, rfl, by decide +kernel, by decide +kernel⟩
theorem ok_block {f : Addr} {fd : FuncData} (F : Fun K "__init__" "Block.__init__" mBlock_init f fd) (T : BkC K C) : FnOk P w K mg base CX0 1 f fd ["self", "line", "variable", "own", "looped"] (spBlock K C) := by
  refine F.ok scBlock (fun vs H Q E h => ?_) (fun cdv A outer s H vs Q E hr h => ?_)
  · obtain ⟨x, dx, ln, va, ow, lo, rfl, _⟩ := h
    rfl
  · obtain ⟨x, dx, ln, va, ow, lo, rfl, hx, q⟩ := h
    refine ⟨_, pss_cons (ps_fld (pv 0) (pv 1) rfl) <| pss_cons (ps_fld (pv 0) (pv 2) rfl) <| pss_cons (ps_fld (pv 0) (pv 3) rfl) <| pss_one (ps_fld (pv 0) (pv 4) rfl), ?_⟩
    have na : ∀ {f : Str}, f ∈ (["line", "variable", "own", "looped"] : List Str) → NoAttr K C f := fun h => T.na _ h
    refine ⟨_, rfl, _, rfl, x, C, dx, _, rfl, hx, T.cl, na (by decide +kernel), (by show 0 < 1000; decide), ?_⟩
    refine ⟨_, rfl, _, rfl, x, C, dx, _, rfl, upd_same, T.cl, na (by decide +kernel), (by show 1 < 1000; decide), ?_⟩
    refine ⟨_, rfl, _, rfl, x, C, dx, _, rfl, upd_same, T.cl, na (by decide +kernel), (by show 2 < 1000; decide), ?_⟩
    refine ⟨_, rfl, _, rfl, x, C, dx, _, rfl, upd_same, T.cl, na (by decide +kernel), (by show 3 < 1000; decide), ?_⟩
    show Q .non _
    rw [upd_upd, upd_upd, upd_upd]
    exact q
theorem scBlockOf : FnScope ["line", "around"] ["line", "around"] (defScope s_block_of) := ⟨rfl, rfl, rfl, by decide +kernel, rfl, by decide +kernel, by decide +kernel⟩
theorem ok_blockOf {f fB : Addr} {fd dB : FuncData} (F : Fun K "block_of" "block_of" s_block_of f fd) (LT : LnC K C) (B : BkM K mg CB fB dB) (GB : FnOk P w K mg base CX0 1 fB dB ["self", "line", "variable", "own", "looped"] (spBlock K CB)) : FnOk P w K mg base CX0 3 f fd ["line", "around"] (spBlockOf K C CB) := by
  refine F.ok scBlockOf (fun vs H Q E h => ?_) (fun cdv A outer s H vs Q E hr h => ?_)
  · obtain ⟨x, dx, b, bx, de, n, v, fo, ak, t, nr, af, ot, ln, va, ow, lo, rfl, _⟩ := h
    rfl
  · obtain ⟨x, dx, b, bx, de, n, v, fo, ak, t, nr, af, ot, ln, va, ow, lo, rfl, hx, hb, q⟩ := h
    have r2 : Room 2 _ := hr.mono (by decide)
    refine ⟨_, pss_cons (ps_if (pt_cmpR op_eq (pe_fld (pv 0) rfl) pe_str (nomark _)) (pss_one (ps_ret (pe_make (dvs := []) B.M GB r2 (by rfl) B.mgC B.b0 .nil pass0 (pa_cons (pv 0) (pa_cons (pe_fld (pv 0) rfl) (pa_cons (pe_fld (pv 0) rfl) (pa_cons pe_bl pa_nil))))))) pss_nil) <|
      pss_cons (ps_if (pt_cmpR op_eq (pe_fld (pv 0) rfl) pe_str (nomark _)) (pss_one (ps_ret (pe_make (dvs := []) B.M GB r2 (by rfl) B.mgC B.b0 .nil pass0 (pa_cons (pv 0) (pa_cons (pe_fld (pv 0) rfl) (pa_cons (pe_fld (pv 1) rfl) (pa_cons pe_bl pa_nil))))))) pss_nil) <|
      pss_one (ps_ret (pe_make (dvs := []) B.M GB r2 (by rfl) B.mgC B.b0 .nil pass0 (pa_cons (pv 0) (pa_cons (pe_fld (pv 1) rfl) (pa_cons (pe_fld (pv 1) rfl) (pa_cons (pe_fld (pv 1) rfl) pa_nil)))))), ?_⟩
    have nl : ∀ {f : Str}, f ∈ lineNames → NoAttr K C f := fun h => LT.na _ h
    have nb : ∀ {f : Str}, f ∈ (["line", "variable", "own", "looped"] : List Str) → NoAttr K CB f := fun h => B.T.na _ h
    refine ⟨_, rfl, x, C, dx, _, _, rfl, hx, LT.cl, nl (by decide +kernel), rfl, rfl, _, rfl, ?_⟩
    unfold blockOf at q
    have st : ∀ {a b : Str} {A' B' : Prop}, (a = b → A') → (a ≠ b → B') → (if decide (V.str a = V.str b) = true then A' else B') := fun {a b A' B'} h g => by
      by_cases e : a = b
      · rw [decide_eq_true (by rw [e])]
        exact iteT (h e)
      · rw [decide_eq_false (fun z => e (by injection z))]
        exact iteF (g e)
    refine st (fun e => ?_) (fun e => ?_)
    · rw [if_pos e] at q
      refine ⟨_, rfl, _, rfl, x, C, dx, _, _, rfl, hx, LT.cl, nl (by decide +kernel), rfl, _, rfl, x, C, dx, _, _, rfl, hx, LT.cl, nl (by decide +kernel), rfl, ?_⟩
      dsimp only [tNil, List.nil_append, List.append_nil, List.cons_append]
      exact fun y dy nx ndx hne => ⟨y, dy, _, _, _, _, rfl, upd_same, rfl, q _ y dy (same_fresh nx (same_fresh nx (same_upd ndx))) nx upd_same⟩
    · rw [if_neg e] at q
      refine ⟨_, rfl, x, C, dx, _, _, rfl, hx, LT.cl, nl (by decide +kernel), rfl, rfl, _, rfl, st (fun e => ?_) (fun e => ?_)⟩
      · rw [if_pos e] at q
        refine ⟨_, rfl, _, rfl, x, C, dx, _, _, rfl, hx, LT.cl, nl (by decide +kernel), rfl, _, rfl, b, CB, bx, _, _, rfl, hb, B.T.cl, nb (by decide +kernel), rfl, ?_⟩
        dsimp only [tNil, List.nil_append, List.append_nil, List.cons_append]
        exact fun y dy nx ndx hne => ⟨y, dy, _, _, _, _, rfl, upd_same, rfl, q _ y dy (same_fresh nx (same_fresh nx (same_upd ndx))) nx upd_same⟩
      · rw [if_neg e] at q
        refine ⟨_, rfl, _, rfl, b, CB, bx, _, _, rfl, hb, B.T.cl, nb (by decide +kernel), rfl, _, rfl, b, CB, bx, _, _, rfl, hb, B.T.cl, nb (by decide +kernel), rfl, _, rfl, b, CB, bx, _, _, rfl, hb, B.T.cl, nb (by decide +kernel), rfl, ?_⟩
        dsimp only [tNil, List.nil_append, List.append_nil, List.cons_append]
        exact fun y dy nx ndx hne => ⟨y, dy, _, _, _, _, rfl, upd_same, rfl, q _ y dy (same_fresh nx (same_fresh nx (same_upd ndx))) nx upd_same⟩
end
end TX
namespace TX
open PySem PySem.Spec PyProof.Rows L2 KTD
/-! ### tests: steps and their codes -/
inductive All2 {α β : Type} (R : α → β → Prop) : List α → List β → Prop
  | nil : All2 R [] []
  | cons {a : α} {b : β} {as : List α} {bs : List β} : R a b → All2 R as bs → All2 R (a :: as) (b :: bs)
section
variable {α β : Type} {R S : α → β → Prop}
theorem All2.length : ∀ {as : List α} {bs : List β}, All2 R as bs → as.length = bs.length
  | _, _, .nil => rfl
  | _, _, .cons _ t => congrArg (· + 1) t.length
theorem All2.imp (h : ∀ a b, R a b → S a b) : ∀ {as : List α} {bs : List β}, All2 R as bs → All2 S as bs
  | _, _, .nil => .nil
  | _, _, .cons r t => .cons (h _ _ r) (t.imp h)
theorem All2.imp' : ∀ {as : List α} {bs : List β}, (∀ a ∈ as, ∀ b ∈ bs, R a b → S a b) → All2 R as bs → All2 S as bs
  | _, _, _, .nil => .nil
  | _, _, h, .cons r t => .cons (h _ List.mem_cons_self _ List.mem_cons_self r) (t.imp' fun a ha b hb => h a (List.mem_cons_of_mem _ ha) b (List.mem_cons_of_mem _ hb))
theorem All2.snoc : ∀ {as : List α} {bs : List β} {a : α} {b : β}, All2 R as bs → R a b → All2 R (as ++ [a]) (bs ++ [b])
  | _, _, _, _, .nil, r => .cons r .nil
  | _, _, _, _, .cons r t, q => .cons r (t.snoc q)
theorem All2.get : ∀ {as : List α} {bs : List β} {i : Nat} {a : α} {b : β}, All2 R as bs → as[i]? = some a → bs[i]? = some b → R a b
  | _, _, 0, _, _, .cons r _, h, g => by
    cases h
    cases g
    exact r
  | _, _, i + 1, _, _, .cons _ t, h, g => t.get (i := i) (by simpa using h) (by simpa using g)
theorem All2.right : ∀ {as : List α} {bs : List β} {i : Nat} {b : β}, All2 R as bs → bs[i]? = some b → ∃ a, as[i]? = some a ∧ R a b
  | _, _, 0, _, .cons r _, g => by
    cases g
    exact ⟨_, rfl, r⟩
  | _, _, i + 1, _, .cons _ t, g => by
    obtain ⟨a, h, r⟩ := t.right (i := i) (by simpa using g)
    exact ⟨a, by simpa using h, r⟩
theorem All2.take : ∀ {as : List α} {bs : List β} (n : Nat), All2 R as bs → All2 R (as.take n) (bs.take n)
  | _, _, 0, _ => .nil
  | _, _, n + 1, .nil => .nil
  | _, _, n + 1, .cons r t => .cons r (t.take n)
theorem All2.set : ∀ {as : List α} {bs : List β} {i : Nat} {a : α} {b' : β}, All2 R as bs → as[i]? = some a → (∀ (j : Nat) a' b, j ≠ i → as[j]? = some a' → bs[j]? = some b → R a' b → S a' b) → S a b' → All2 S as (bs.set i b')
  | _, _, 0, _, _, .cons _ t, h, k, q => by
    cases h
    refine .cons q ?_
    have key : ∀ {as : List α} {bs : List β} {n : Nat}, All2 R as bs → (∀ (j : Nat) a' b, as[j]? = some a' → bs[j]? = some b → R a' b → S a' b) → All2 S as bs := by
      intro as bs n t
      induction t with
      | nil => exact fun _ => .nil
      | cons r _ ih => exact fun k => .cons (k 0 _ _ rfl rfl r) (ih fun j a' b h1 h2 => k (j + 1) a' b (by simpa using h1) (by simpa using h2))
    exact key (n := 0) t fun j a' b h1 h2 => k (j + 1) a' b (by omega) (by simpa using h1) (by simpa using h2)
  | _, _, i + 1, _, _, .cons r t, h, k, q => by
    exact .cons (k 0 _ _ (by omega) rfl rfl r) (t.set (i := i) (by simpa using h) (fun j a' b ne h1 h2 => k (j + 1) a' b (by omega) (by simpa using h1) (by simpa using h2)) q)
/-- both lists change at one place -/
theorem All2.set2 : ∀ {as : List α} {bs : List β} {i : Nat} {a : α} {b : β}, All2 R as bs → R a b → All2 R (as.set i a) (bs.set i b)
  | _, _, _, _, _, .nil, _ => .nil
  | _, _, 0, _, _, .cons _ t, q => .cons q t
  | _, _, i + 1, _, _, .cons r t, q => .cons r (t.set2 (i := i) q)
end
inductive More
  | non
  | word (s : Str)
  | num (n : Nat)
  | three (f s : Str) (n : Nat)
abbrev TStep := Str × More
abbrev Code := List TStep
def MoreAt (K : PySem.W.Frag) (H : Hp) : V → More → Prop
  | v, .non => v = .non
  | v, .word s => v = .str s
  | v, .num n => v = .int n
  | v, .three f s n => ∃ a, v = .ref a ∧ SqT K H a [.str f, .str s, .int n]
def StepAt (K : PySem.W.Frag) (H : Hp) (v : V) (p : TStep) : Prop := ∃ a u, v = .ref a ∧ SqT K H a [.str p.1, u] ∧ MoreAt K H u p.2
theorem MoreAt.same {K : PySem.W.Frag} {H H' : Hp} (s : Same H H') {v : V} : ∀ {m : More}, MoreAt K H v m → MoreAt K H' v m
  | .non, h => h
  | .word _, h => h
  | .num _, h => h
  | .three _ _ _, ⟨a, e, h⟩ => ⟨a, e, same_sqt s h⟩
theorem StepAt.same {K : PySem.W.Frag} {H H' : Hp} (s : Same H H') {v : V} {p : TStep} (h : StepAt K H v p) : StepAt K H' v p := by
  obtain ⟨a, u, e, h1, h2⟩ := h
  exact ⟨a, u, e, same_sqt s h1, h2.same s⟩
def CodeAt (K : PySem.W.Frag) (H : Hp) (v : V) : Option Code → Prop
  | none => v = .non
  | some c => ∃ a vs, v = .ref a ∧ H a = some (.lst vs) ∧ All2 (StepAt K H) vs c
theorem CodeAt.same {K : PySem.W.Frag} {H H' : Hp} (s : Same H H') {v : V} : ∀ {c : Option Code}, CodeAt K H v c → CodeAt K H' v c
  | none, h => h
  | some _, ⟨a, vs, e, h1, h2⟩ => ⟨a, vs, e, s _ _ h1, h2.imp fun _ _ h => h.same s⟩
/-! ### the step for an atom -/
def signsS : List Str := ["=", "!=", "<", "<=", ">", ">="]
def numsT : List (Str × Nat) := [("0", 0), ("1", 1), ("2", 2), ("3", 3)]
def numsD : List (Str × Dat) := numsT.map fun p => (p.1, Dat.flat (.int (p.2 : Nat)))
def numAt (z : Str) : Option Nat := (numsT.find? fun p => decide (z = p.1)).map (·.2)
abbrev ATb := List (Str × TStep)
def moreD : More → PyData
  | .word s => .str s
  | _ => .none
def atomsD (t : ATb) : List (Str × Dat) := t.map fun p => (p.1, Dat.tup [.str p.2.1, moreD p.2.2])
def atomAt : ATb → Str → Option TStep
  | [], _ => none
  | (x, y) :: t, z => if z = x then some y else atomAt t z
/-- words and nothing, no numbers -/
def AOk (t : ATb) : Prop := ∀ p ∈ t, p.2.2 = .non ∨ ∃ s, p.2.2 = .word s
theorem atomsD_at (z : Str) : ∀ t : ATb, datumAt z (atomsD t) = (atomAt t z).map fun q => Dat.tup [.str q.1, moreD q.2]
  | [] => rfl
  | (x, y) :: t => by
    show (if decide (z = x) = true then some _ else datumAt z (atomsD t)) = (if z = x then some y else atomAt t z).map _
    by_cases h : z = x
    · rw [if_pos h, if_pos (decide_eq_true h)]
      rfl
    · rw [if_neg h, if_neg (by simpa using h), atomsD_at z t]
theorem atomsD_small : ∀ t : ATb, ((atomsD t).all fun p => smallD p.2) = true
  | [] => rfl
  | (x, y) :: t => by
    show (true && ((atomsD t).all fun p => smallD p.2)) = true
    rw [Bool.true_and]
    exact atomsD_small t
theorem atom_in : ∀ {t : ATb} {z : Str} {q : TStep}, atomAt t z = some q → ∃ p ∈ t, p.2 = q
  | [], _, _, h => nomatch h
  | (x, y) :: t, z, q, h => by
    have h : (if z = x then some y else atomAt t z) = some q := h
    by_cases e : z = x
    · rw [if_pos e] at h
      cases h
      exact ⟨_, List.mem_cons_self, rfl⟩
    · rw [if_neg e] at h
      obtain ⟨p, hp, e2⟩ := atom_in h
      exact ⟨p, List.mem_cons_of_mem _ hp, e2⟩
theorem numsD_at (z : Str) : datumAt z numsD = (numAt z).map fun f => Dat.flat (.int (f : Nat)) := by
  unfold numsD numAt numsT
  simp only [List.map_cons, List.map_nil, datumAt, List.find?]
  repeat' split <;> simp_all
def atomOf (t : ATb) (ws : List Str) : Option TStep := match ws with
  | [a, b, c, d] => match formAt b, numAt d with
    | some f, some n => if a = "len" ∧ c ∈ signsS then some ("len", .three f c n) else atomAt t (Txt.join " " ws)
    | _, _ => atomAt t (Txt.join " " ws)
  | _ => atomAt t (Txt.join " " ws)
def spAtom (K : PySem.W.Frag) (t : ATb) : Sp := fun vs H Q _ => ∃ (l : Addr) (ws : List Str), vs = [.ref l] ∧ SqL K H l (ws.map V.str) ∧ (ws.map (·.length)).sum + ws.length ≤ 4000000 ∧
  (atomOf t ws = none → Q .non H) ∧ ∀ p, atomOf t ws = some p → ∀ H' v, Same H H' → StepAt K H' v p → Q v H'
theorem inV_textsC (w : Str) : ∀ ws : List Str, inV (.str w) (ws.map V.str) = decide (w ∈ ws)
  | [] => by simp [inV]
  | a :: ws => by
    have ih := inV_textsC w ws
    unfold inV at ih ⊢
    rw [List.map_cons, List.any_cons, ih]
    show ((a == w) || _) = _
    by_cases h : w = a
    · subst h
      simp
    · have : (a == w) = false := beq_eq_false_iff_ne.mpr fun z => h z.symm
      rw [this, Bool.false_or]
      simp [h]
theorem flat_textsC : ∀ ws : List Str, (ws.map V.str).all L2.flatV = true
  | [] => rfl
  | a :: ws => by
    rw [List.map_cons, List.all_cons, flat_textsC ws]
    rfl
def askedStep (p : TStep) : Option Str := if p.1 = "key in" then (match p.2 with
    | .word s => some s
    | _ => none) else if p.1 = "len" then (match p.2 with
    | .three f _ _ => some f
    | _ => none) else none
structure StepOk (p : TStep) : Prop where
  key : p.1 = "key in" → ∃ s, p.2 = .word s
  len : p.1 = "len" → ∃ f s n, p.2 = .three f s n
def spAskedF (K : PySem.W.Frag) : Sp := fun vs H Q _ => ∃ (v : V) (p : TStep), vs = [v] ∧ StepAt K H v p ∧ StepOk p ∧ Q (oV' (askedStep p)) H
where oV' : Option Str → V
  | none => .non
  | some s => .str s
section
variable {P : Program} {w : World} {K : PySem.W.Frag} {mg : Str → Option Value} {base : Heap}
theorem scAtom : FnScope ["words"] ["words"] (defScope s_atom_of) := ⟨rfl, rfl, rfl, by decide +kernel, rfl, by decide +kernel, by decide +kernel⟩
theorem ok_atom {f aA aF aN aS : Addr} {fd : FuncData} {t : ATb} (F : Fun K "atom_of" "atom_of" s_atom_of f fd) (len : mg "len" = none) (TA : KTab K aA (atomsD t)) (gA : mg "ATOMS" = some (.ref aA)) (okA : AOk t) (TF : KTab K aF formsD) (gF : mg "FORMS" = some (.ref aF)) (TN : KTab K aN numsD) (gN : mg "NUMBERS" = some (.ref aN))
    (TS : ∀ H, SqT K H aS (signsS.map V.str)) (gS : mg "SIGNS" = some (.ref aS)) : FnOk P w K mg base CX0 1 f fd ["words"] (spAtom K t) := by
  refine F.ok scAtom (fun vs H Q E h => ?_) (fun cdv A outer s H vs Q E hr h => ?_)
  · obtain ⟨l, ws, rfl, _⟩ := h
    rfl
  · obtain ⟨l, ws, rfl, hl, hz, q0, q1⟩ := h
    refine ⟨_, pss_cons (ps_if (PW.pt (pw_and (pt_cmpR op_eq (pe_callB call_len_seq (by rfl) len PySem.boot_len (pa_cons (pv 0) pa_nil)) pe_int (nomark _)) (pw_and (pt_cmpR op_eq (pe_ix ix_list (pv 0) pe_int (fun _ _ => rfl)) pe_str (nomark _)) (pw_and (pt_cmp (pc_inK TF (pe_ix ix_list (pv 0) pe_int (fun _ _ => rfl)) (by rfl) gF)) (pw_and (pt_cmpR op_in_seq (pe_ix ix_list (pv 0) pe_int (fun _ _ => rfl)) (pe_glob (v := .ref aS) (by rfl) gS rfl) (by rfl)) (pw_and1 (pt_cmp (pc_inK TN (pe_ix ix_list (pv 0) pe_int (fun _ _ => rfl)) (by rfl) gN))))))))
        (pss_one (ps_ret (pe_tup (pa_cons pe_str (pa_cons (pe_tup (pa_cons (pe_itemK TF (by decide +kernel) (pe_ix ix_list (pv 0) pe_int (fun _ _ => rfl)) (by rfl) gF (fun _ _ => rfl)) (pa_cons (pe_ix ix_list (pv 0) pe_int (fun _ _ => rfl)) (pa_cons (pe_itemK TN (by decide +kernel) (pe_ix ix_list (pv 0) pe_int (fun _ _ => rfl)) (by rfl) gN (fun _ _ => rfl)) pa_nil)))) pa_nil))))) pss_nil) <|
      pss_one (ps_ret (pe_getK TA (atomsD_small t) (pe_join pe_str (pv 0)) (by rfl) gA ⟨by rfl, by rfl, by rfl, by rfl⟩)), ?_⟩
    -- the table
    have tab : atomOf t ws = atomAt t (Txt.join " " ws) → (tRet (tGetK K (atomsD t) (tM1 (fun x xs H Q => ∃ a p, ∃ ys : List Str, x = .str a ∧ xs = [.ref p] ∧ (SqL K H p (ys.map V.str) ∨ SqT K H p (ys.map V.str)) ∧ (ys.map (·.length)).sum + ys.length * a.length ≤ 16777216 ∧ Q (.str (Txt.join a ys)) H) (tC (.str " ")) (tVar 0))) { nx := fun _ H' => Q .non H', rt := Q } [some (.ref l)] H) := fun e => by
      rw [e] at q0 q1
      have l1 : (" " : Str).length = 1 := rfl
      refine ⟨⟨_, rfl⟩, _, rfl, " ", l, ws, rfl, rfl, .inl hl, by rw [l1]; omega, Txt.join " " ws, rfl, ?_⟩
      unfold GotK
      rw [atomsD_at]
      cases hA : atomAt t (Txt.join " " ws) with
      | none => exact q0 hA
      | some p =>
        rintro v ⟨a, rfl, hv⟩
        refine q1 p hA H (.ref a) (Same.refl _) ⟨a, _, rfl, hv H, ?_⟩
        obtain ⟨p', hp, e2⟩ := atom_in hA
        rcases okA p' hp with e3 | ⟨s, e3⟩
        · rw [e2] at e3
          rw [e3]
          rfl
        · rw [e2] at e3
          rw [e3]
          rfl
    refine ⟨_, rfl, l, _, rfl, .inl hl, rfl, _, rfl, ?_⟩
    rw [List.length_map]
    by_cases h4 : ws.length = 4
    · obtain ⟨a, b, c, d, rfl⟩ : ∃ a b c d, ws = [a, b, c, d] := by
        match ws, h4 with
        | [a, b, c, d], _ => exact ⟨a, b, c, d, rfl⟩
      have at_ : ∀ {i : Nat} {t : Str}, ([a, b, c, d] : List Str)[i]? = some t → atI (([a, b, c, d] : List Str).map V.str) (i : Int) = some (.str t) := fun h => atI_nat (by rw [List.getElem?_map, h]; rfl)
      have rd : atomOf t [a, b, c, d] = match formAt b, numAt d with
        | some f, some n => if a = "len" ∧ c ∈ signsS then some ("len", .three f c n) else atomAt t (Txt.join " " [a, b, c, d])
        | _, _ => atomAt t (Txt.join " " [a, b, c, d]) := rfl
      rw [decide_eq_true (show V.int (([a, b, c, d] : List Str).length : Nat) = V.int 4 from rfl)]
      refine iteT ⟨_, rfl, l, _, 0, _, rfl, rfl, hl, at_ (i := 0) rfl, rfl, _, rfl, ?_⟩
      have no : ∀ {x : Bool}, (¬ (a = "len" ∧ c ∈ signsS) ∨ formAt b = none ∨ numAt d = none) → atomOf t [a, b, c, d] = atomAt t (Txt.join " " [a, b, c, d]) := fun h => by
        rw [rd]
        cases hb : formAt b with
        | none => rfl
        | some f =>
          cases hd : numAt d with
          | none => rfl
          | some n =>
            dsimp only
            rcases h with h | h | h
            · rw [if_neg h]
            · rw [hb] at h
              cases h
            · rw [hd] at h
              cases h
      by_cases ha : a = "len"
      · rw [decide_eq_true (by rw [ha])]
        refine iteT ⟨_, rfl, l, _, 1, _, rfl, rfl, hl, at_ (i := 1) rfl, b, rfl, _, rfl, ?_⟩
        have ik : inKeys b formsD = (formAt b).isSome := by rw [← isSome_datumAt, formsD_at, Option.isSome_map]
        rw [ik]
        cases hb : formAt b with
        | none => exact iteF (iteF (tab (no (x := true) (.inr (.inl hb)))))
        | some fo =>
          refine iteT ⟨_, rfl, l, _, 2, _, rfl, rfl, hl, at_ (i := 2) rfl, aS, _, rfl, .inr (TS H), rfl, flat_textsC _, ?_⟩
          rw [inV_textsC]
          refine ⟨_, rfl, ?_⟩
          by_cases hc : c ∈ signsS
          · rw [decide_eq_true hc]
            refine iteT ⟨_, rfl, l, _, 3, _, rfl, rfl, hl, at_ (i := 3) rfl, d, rfl, _, rfl, ?_⟩
            have iq : inKeys d numsD = (numAt d).isSome := by rw [← isSome_datumAt, numsD_at, Option.isSome_map]
            rw [iq]
            cases hd : numAt d with
            | none => exact iteF (tab (no (x := true) (.inr (.inr hd))))
            | some n =>
              rw [hb, hd] at rd
              dsimp only at rd
              rw [if_pos ⟨ha, hc⟩] at rd
              refine iteT ⟨_, rfl, l, _, 1, _, rfl, rfl, hl, at_ (i := 1) rfl, b, _, rfl, by rw [formsD_at, hb]; rfl, fun v hv => ?_⟩
              have hv : v = .str fo := hv
              subst hv
              refine ⟨_, rfl, l, _, 2, _, rfl, rfl, hl, at_ (i := 2) rfl, _, rfl, l, _, 3, _, rfl, rfl, hl, at_ (i := 3) rfl, d, _, rfl, by rw [numsD_at, hd]; rfl, fun v hv => ?_⟩
              have hv : v = .int (n : Nat) := hv
              subst hv
              refine ⟨(by show 3 ≤ sizeLine; decide), fun t1 n1 => ⟨(by show 2 ≤ sizeLine; decide), fun t2 n2 => ?_⟩⟩
              have s1 := same_upd (o := .tup [.str fo, .str c, .int (n : Nat)]) n1
              have e1 := upd_same (H := H) (a := t1) (o := .tup [.str fo, .str c, .int (n : Nat)])
              dsimp only at n2 ⊢
              generalize upd H t1 (.tup [.str fo, .str c, .int (n : Nat)]) = G at s1 e1 n2 ⊢
              exact q1 _ rd _ (.ref t2) (s1.trans (same_upd n2)) ⟨t2, _, rfl, SqT.of upd_same, t1, rfl, SqT.of (same_upd n2 _ _ e1)⟩
          · rw [decide_eq_false hc]
            exact iteF (iteF (tab (no (x := true) (.inl fun z => hc z.2))))
      · rw [decide_eq_false (fun e => ha (V.str.inj e))]
        exact iteF (iteF (tab (no (x := true) (.inl fun z => ha z.1))))
    · rw [decide_eq_false (fun z => h4 (by injection z with z; omega))]
      refine iteF (iteF (tab ?_))
      unfold atomOf
      split
      · exact absurd rfl h4
      · rfl
theorem scAskedF : FnScope ["step", "word", "more"] ["step"] (defScope s_asked_form) := ⟨rfl, rfl, rfl, by decide +kernel, rfl, by decide +kernel, by decide +kernel⟩
theorem ok_askedF {f : Addr} {fd : FuncData} (F : Fun K "asked_form" "asked_form" s_asked_form f fd) : FnOk P w K mg base CX0 1 f fd ["step"] (spAskedF K) := by
  refine F.ok scAskedF (fun vs H Q E h => ?_) (fun cdv A outer s H vs Q E hr h => ?_)
  · obtain ⟨v, p, rfl, _⟩ := h
    rfl
  · obtain ⟨v, p, rfl, ⟨a, u, rfl, h1, h2⟩, ok, q⟩ := h
    refine ⟨_, pss_cons (ps_asg (pv 0) (pg_tup rfl (pgs_cons (pg_name (i := 1) scAskedF.nd rfl (.inl rfl)) (pgs_cons (pg_name (i := 2) scAskedF.nd rfl (.inl rfl)) pgs_nil)))) <|
      pss_cons (ps_if (pt_cmpR op_eq (pv 1) pe_str (nomark _)) (pss_one (ps_ret (pv 2))) pss_nil) <|
      pss_one (ps_ret (pe_ifExp (pt_cmpR op_eq (pv 1) pe_str (nomark _)) (pe_ix ix_tup (pv 2) pe_int (fun _ _ => rfl)) pe_non)), ?_⟩
    refine ⟨_, rfl, a, _, rfl, h1, rfl, _, _, rfl, _, _, rfl, rfl, ?_⟩
    unfold askedStep at q
    refine ⟨_, rfl, rfl, _, rfl, ?_⟩
    by_cases e1 : p.1 = "key in"
    · obtain ⟨s, es⟩ := ok.key e1
      rw [if_pos e1, es] at q
      rw [es] at h2
      have h2 : u = .str s := h2
      rw [decide_eq_true (by rw [e1])]
      subst h2
      exact iteT ⟨_, rfl, q⟩
    · rw [if_neg e1] at q
      rw [decide_eq_false (fun e => e1 (V.str.inj e))]
      refine iteF ⟨_, rfl, rfl, _, rfl, ?_⟩
      by_cases e2 : p.1 = "len"
      · obtain ⟨fo, s, n, es⟩ := ok.len e2
        rw [if_pos e2, es] at q
        rw [es] at h2
        obtain ⟨b, rfl, h3⟩ := h2
        rw [decide_eq_true (by rw [e2])]
        exact iteT ⟨_, rfl, b, _, 0, _, rfl, rfl, h3, atI_nat (j := 0) rfl, q⟩
      · rw [if_neg e2] at q
        rw [decide_eq_false (fun e => e2 (V.str.inj e))]
        exact iteF q
end
end TX
namespace TX
open PySem PySem.Spec PyProof.Rows L2 KTD
/-! ### tests: what waits, and the code so far -/
abbrev Wt := Str × Option Nat
abbrev Cell := Option TStep
def oN : Option Nat → V
  | none => .non
  | some n => .int (n : Nat)
def rankOf (s : Str) : Nat := if s = "(" then 0 else if s = "or" then 1 else if s = "and" then 2 else 3
def ranksT : List (Str × Nat) := [("(", 0), ("or", 1), ("and", 2), ("not", 3)]
def ranksD : List (Str × Dat) := ranksT.map fun p => (p.1, Dat.flat (.int (p.2 : Nat)))
def WdOk (p : Wt) (n : Nat) : Prop := p = ⟨"(", none⟩ ∨ p = ⟨"not", none⟩ ∨ ∃ i, i < n ∧ (p = ⟨"and", some i⟩ ∨ p = ⟨"or", some i⟩)
def WOk (z : List Wt) (n : Nat) : Prop := ∀ p ∈ z, WdOk p n
def endCell (p : Wt) (c : List Cell) : List Cell := if p.1 = "not" then c ++ [(some ⟨"not", .non⟩ : Cell)] else match p.2 with
  | some i => c.set i (some ⟨p.1, .num c.length⟩)
  | none => c
def settleZ (r : Nat) : List Wt → List Cell → List Wt × List Cell
  | [], c => ([], c)
  | p :: z, c => if r ≤ rankOf p.1 then settleZ r z (endCell p c) else (p :: z, c)
theorem WdOk.mono {p : Wt} {n m : Nat} (h : WdOk p n) (l : n ≤ m) : WdOk p m := by
  rcases h with h | h | ⟨i, h1, h2⟩
  · exact .inl h
  · exact .inr (.inl h)
  · exact .inr (.inr ⟨i, by omega, h2⟩)
theorem WOk.mono {z : List Wt} {n m : Nat} (h : WOk z n) (l : n ≤ m) : WOk z m := fun p hp => (h p hp).mono l
theorem endCell_len (p : Wt) (c : List Cell) : c.length ≤ (endCell p c).length ∧ (endCell p c).length ≤ c.length + 1 := by
  unfold endCell
  split
  · simp
  · split <;> simp
theorem settle_len (r : Nat) : ∀ (z : List Wt) (c : List Cell), c.length ≤ (settleZ r z c).2.length ∧ (settleZ r z c).1.length ≤ z.length ∧ (settleZ r z c).2.length + (settleZ r z c).1.length ≤ c.length + z.length
  | [], c => by simp [settleZ]
  | p :: z, c => by
    unfold settleZ
    split
    · obtain ⟨h1, h2, h3⟩ := settle_len r z (endCell p c)
      have := endCell_len p c
      rw [List.length_cons]
      omega
    · simp
theorem settle_ok (r : Nat) : ∀ {z : List Wt} {c : List Cell}, WOk z c.length → WOk (settleZ r z c).1 (settleZ r z c).2.length
  | [], c, _ => fun _ h => nomatch h
  | p :: z, c, h => by
    unfold settleZ
    split
    · exact settle_ok r (fun q hq => (h q (List.mem_cons_of_mem _ hq)).mono (endCell_len p c).1)
    · exact h
def CellAt (K : PySem.W.Frag) (H : Hp) (v : V) : Cell → Prop
  | none => v = .non
  | some p => StepAt K H v p
def WaitAt (H : Hp) (v : V) (p : Wt) : Prop := ∃ b, v = .ref b ∧ H b = some (.tup [.str p.1, oN p.2])
theorem CellAt.same {K : PySem.W.Frag} {H H' : Hp} (s : Same H H') {v : V} : ∀ {c : Cell}, CellAt K H v c → CellAt K H' v c
  | none, h => h
  | some _, h => StepAt.same s h
theorem WaitAt.same {H H' : Hp} (s : Same H H') {v : V} {p : Wt} (h : WaitAt H v p) : WaitAt H' v p := by
  obtain ⟨b, e, h⟩ := h
  exact ⟨b, e, s _ _ h⟩
theorem ne_kindC {H : Hp} {a b : Addr} {o o' : HO} (h : H a = some o) (g : H b = some o') (ne : o ≠ o') : a ≠ b := fun z => by
  rw [z, g] at h
  cases h
  exact ne rfl
/-- a tuple stays when a list changes -/
theorem sqt_upd {K : PySem.W.Frag} {H : Hp} {a l : Addr} {xs ys : List V} {o : HO} (h : SqT K H a xs) (hl : H l = some (.lst ys)) : SqT K (upd H l o) a xs := by
  rcases h with (h | ⟨u, h⟩) | h
  · exact .inl (.inl ((upd_ne (ne_kindC h hl fun z => nomatch z)).trans h))
  · exact .inl (.inr ⟨u, (upd_ne (ne_kindC h hl fun z => nomatch z)).trans h⟩)
  · exact .inr h
theorem MoreAt.upd {K : PySem.W.Frag} {H : Hp} {l : Addr} {ys : List V} {o : HO} (hl : H l = some (.lst ys)) {v : V} : ∀ {m : More}, MoreAt K H v m → MoreAt K (upd H l o) v m
  | .non, h => h
  | .word _, h => h
  | .num _, h => h
  | .three _ _ _, ⟨a, e, h⟩ => ⟨a, e, sqt_upd h hl⟩
theorem StepAt.upd {K : PySem.W.Frag} {H : Hp} {l : Addr} {ys : List V} {o : HO} (hl : H l = some (.lst ys)) {v : V} {p : TStep} (h : StepAt K H v p) : StepAt K (upd H l o) v p := by
  obtain ⟨a, u, e, h1, h2⟩ := h
  exact ⟨a, u, e, sqt_upd h1 hl, h2.upd hl⟩
theorem CellAt.upd {K : PySem.W.Frag} {H : Hp} {l : Addr} {ys : List V} {o : HO} (hl : H l = some (.lst ys)) {v : V} : ∀ {c : Cell}, CellAt K H v c → CellAt K (upd H l o) v c
  | none, h => h
  | some _, h => StepAt.upd hl h
theorem WaitAt.upd {H : Hp} {l : Addr} {ys : List V} {o : HO} (hl : H l = some (.lst ys)) {v : V} {p : Wt} (h : WaitAt H v p) : WaitAt (upd H l o) v p := by
  obtain ⟨b, e, h⟩ := h
  exact ⟨b, e, (upd_ne (ne_kindC h hl fun z => nomatch z)).trans h⟩
/-- the code and what waits, on the heap; what waits last stands first in z -/
structure TsAt (K : PySem.W.Frag) (H : Hp) (C W : Addr) (c : List Cell) (z : List Wt) : Prop where
  ne : C ≠ W
  C : ∃ vs, H C = some (.lst vs) ∧ All2 (CellAt K H) vs c
  W : ∃ ws, H W = some (.lst ws.reverse) ∧ All2 (WaitAt H) ws z
/-- what may change: two lists -/
structure Off2 (C W : Addr) (H H' : Hp) : Prop where
  keep : ∀ b o, b ≠ C → b ≠ W → H b = some o → H' b = some o
  grow : ∀ b, H' b = none → H b = none
section
variable {K : PySem.W.Frag} {H H' : Hp} {C W : Addr} {c : List Cell} {z : List Wt} {p : Wt}
theorem Off2.refl : Off2 C W H H := ⟨fun _ _ _ _ h => h, fun _ h => h⟩
theorem Off2.of (s : Same H H') : Off2 C W H H' := ⟨fun b o _ _ h => s _ _ h, fun b h => s.free h⟩
theorem Off2.trans {H2 : Hp} (a : Off2 C W H H') (b : Off2 C W H' H2) : Off2 C W H H2 := ⟨fun x o n1 n2 h => b.keep x o n1 n2 (a.keep x o n1 n2 h), fun x h => a.grow x (b.grow x h)⟩
theorem Off2.updC (o : HO) : Off2 C W H (L2.upd H C o) := ⟨fun b u n1 _ h => (upd_ne n1).trans h, fun b h => by
  by_cases e : b = C
  · rw [e, upd_same] at h
    cases h
  · rw [upd_ne e] at h
    exact h⟩
theorem Off2.updW (o : HO) : Off2 C W H (L2.upd H W o) := ⟨fun b u _ n1 h => (upd_ne n1).trans h, fun b h => by
  by_cases e : b = W
  · rw [e, upd_same] at h
    cases h
  · rw [upd_ne e] at h
    exact h⟩
theorem TsAt.same (t : TsAt K H C W c z) (s : Same H H') : TsAt K H' C W c z := by
  obtain ⟨ne, ⟨vs, h1, h2⟩, ws, h3, h4⟩ := t
  exact ⟨ne, ⟨vs, s _ _ h1, h2.imp fun _ _ => CellAt.same s⟩, ws, s _ _ h3, h4.imp fun _ _ => WaitAt.same s⟩
theorem TsAt.pop (t : TsAt K H C W c (p :: z)) : ∃ (b : Addr) (ws : List V), H W = some (.lst (ws.reverse ++ [.ref b])) ∧ H b = some (.tup [.str p.1, oN p.2]) ∧ ws.length = z.length ∧ TsAt K (L2.upd H W (.lst ws.reverse)) C W c z := by
  obtain ⟨ne, ⟨vs, h1, h2⟩, ws, h3, h4⟩ := t
  cases h4 with
  | @cons v _ ws' _ h5 h6 =>
    obtain ⟨b, rfl, hb⟩ := h5
    rw [List.reverse_cons] at h3
    exact ⟨b, ws', h3, hb, h6.length, ne, ⟨vs, (upd_ne ne).trans h1, h2.imp fun _ _ => CellAt.upd h3⟩, ws', upd_same, h6.imp fun _ _ => WaitAt.upd h3⟩
theorem TsAt.push (t : TsAt K H C W c z) : ∃ ws : List V, H W = some (.lst ws.reverse) ∧ ws.length = z.length ∧ ∀ b, H b = some (.tup [.str p.1, oN p.2]) → TsAt K (L2.upd H W (.lst (ws.reverse ++ [.ref b]))) C W c (p :: z) := by
  obtain ⟨ne, ⟨vs, h1, h2⟩, ws, h3, h4⟩ := t
  refine ⟨ws, h3, h4.length, fun b hb => ⟨ne, ⟨vs, (upd_ne ne).trans h1, h2.imp fun _ _ => CellAt.upd h3⟩, .ref b :: ws, ?_, .cons ⟨b, rfl, (upd_ne (ne_kindC hb h3 fun z => nomatch z)).trans hb⟩ (h4.imp fun _ _ => WaitAt.upd h3)⟩⟩
  rw [List.reverse_cons]
  exact upd_same
theorem TsAt.put (t : TsAt K H C W c z) : ∃ vs : List V, H C = some (.lst vs) ∧ vs.length = c.length ∧ ∀ v e, CellAt K H v e → TsAt K (L2.upd H C (.lst (vs ++ [v]))) C W (c ++ [e]) z := by
  obtain ⟨ne, ⟨vs, h1, h2⟩, ws, h3, h4⟩ := t
  exact ⟨vs, h1, h2.length, fun v e hv => ⟨ne, ⟨_, upd_same, (h2.imp fun _ _ => CellAt.upd h1).snoc (hv.upd h1)⟩, ws, (upd_ne ne.symm).trans h3, h4.imp fun _ _ => WaitAt.upd h1⟩⟩
theorem TsAt.set (t : TsAt K H C W c z) : ∃ vs : List V, H C = some (.lst vs) ∧ vs.length = c.length ∧ ∀ i v e, CellAt K H v e → TsAt K (L2.upd H C (.lst (vs.set i v))) C W (c.set i e) z := by
  obtain ⟨ne, ⟨vs, h1, h2⟩, ws, h3, h4⟩ := t
  exact ⟨vs, h1, h2.length, fun i v e hv => ⟨ne, ⟨_, upd_same, (h2.imp fun _ _ => CellAt.upd h1).set2 (hv.upd h1)⟩, ws, (upd_ne ne.symm).trans h3, h4.imp fun _ _ => WaitAt.upd h1⟩⟩
end
theorem ranks_at (s : Str) : datumAt s ranksD = (ranksT.find? fun p => decide (s = p.1)).map fun p => Dat.flat (.int (p.2 : Nat)) := by
  unfold ranksD ranksT
  simp only [List.map_cons, List.map_nil, datumAt, List.find?]
  repeat' split <;> simp_all
theorem ranks_ok {p : Wt} {n : Nat} (h : WdOk p n) : datumAt p.1 ranksD = some (Dat.flat (.int (rankOf p.1 : Nat))) := by
  have k : ∀ x ∈ (["(", "not", "and", "or"] : List Str), datumAt x ranksD = some (Dat.flat (.int (rankOf x : Nat))) := by
    intro x hx
    simp only [List.mem_cons, List.not_mem_nil, or_false] at hx
    rcases hx with rfl | rfl | rfl | rfl <;> rfl
  rcases h with rfl | rfl | ⟨i, _, rfl | rfl⟩
  · exact k _ (by simp)
  · exact k _ (by simp)
  · exact k _ (by simp)
  · exact k _ (by simp)
def spSettle (K : PySem.W.Frag) : Sp := fun vs H Q _ => ∃ (C W : Addr) (c : List Cell) (z : List Wt) (r : Nat), vs = [.ref C, .ref W, .int r] ∧ 1 ≤ r ∧ TsAt K H C W c z ∧ WOk z c.length ∧ c.length + z.length ≤ 10000000 ∧
  ∀ H', TsAt K H' C W (settleZ r z c).2 (settleZ r z c).1 → Off2 C W H H' → Q .non H'
section
variable {P : Program} {w : World} {K : PySem.W.Frag} {mg : Str → Option Value} {base : Heap}
theorem scSettle : FnScope ["code", "waiting", "rank", "word", "at"] ["code", "waiting", "rank"] (defScope s_settle) := ⟨rfl, rfl, rfl, by decide +kernel, rfl, by decide +kernel, by decide +kernel⟩
theorem ok_settle {f aR : Addr} {fd : FuncData} (F : Fun K "settle" "settle" s_settle f fd) (len : mg "len" = none) (TR : KTab K aR ranksD) (gR : mg "RANKS" = some (.ref aR)) : FnOk P w K mg base CX0 1 f fd ["code", "waiting", "rank"] (spSettle K) := by
  refine F.ok scSettle (fun vs H Q E h => ?_) (fun cdv A outer s H vs Q E hr h => ?_)
  · obtain ⟨C, W, c, z, r, rfl, _⟩ := h
    rfl
  · obtain ⟨C, W, c, z, r, rfl, hr1, ts, hz, hn, q⟩ := h
    refine ⟨_, pss_one (ps_while PassesOwn.never (PW.pt (pw_and (pt_truth (pv 1) (by intro _; rfl)) (pw_and1 (pt_cmpR op_ge (pe_itemK TR (by decide +kernel) (pe_ix ix_tup (pe_ix ix_list (pv 1) (pe_un un_neg pe_int) (fun _ _ => rfl)) pe_int (fun _ _ => rfl)) (by rfl) gR (fun _ _ => rfl)) (pv 2) (nomark _)))))
      (pss_cons (ps_asg (pe_bm0 PySem.F.plainAttrs_list PySem.F.slot_list_pop PySem.F.type_list_pop mt_pop (pv 1)) (pg_tup rfl (pgs_cons (pg_name (i := 3) scSettle.nd rfl (.inl rfl)) (pgs_cons (pg_name (i := 4) scSettle.nd rfl (.inl rfl)) pgs_nil)))) <|
       pss_one (ps_if (pt_cmpR op_eq (pv 3) pe_str (nomark _))
        (pss_one (ps_expr (pe_bm PySem.F.plainAttrs_list PySem.F.slot_list_append PySem.F.type_list_append mt_append (pv 0) (pa_cons (pe_tup (pa_cons pe_str (pa_cons pe_non pa_nil))) pa_nil))))
        (pss_one (ps_asg (pe_tup (pa_cons (pv 3) (pa_cons (pe_callB call_len_seq (by rfl) len PySem.boot_len (pa_cons (pv 0) pa_nil)) pa_nil))) (pg_sub (pv 0) (pv 4) set_list)))))), ?_⟩
    refine ⟨fun m σ H1 => ∃ (c1 : List Cell) (z1 : List Wt) (y3 y4 : Option V), σ = [some (.ref C), some (.ref W), some (.int (r : Nat)), y3, y4] ∧ TsAt K H1 C W c1 z1 ∧ WOk z1 c1.length ∧ c1.length + z1.length ≤ 10000000 ∧ settleZ r z1 c1 = settleZ r z c ∧ Off2 C W H H1 ∧ m = z1.length,
      ⟨_, c, z, none, none, rfl, ts, hz, hn, rfl, Off2.refl, rfl⟩, ?_⟩
    rintro m σ H1 ⟨c1, z1, y3, y4, rfl, ts1, hz1, hn1, e1, of1, rfl⟩
    cases z1 with
    | nil =>
      obtain ⟨ws, hw, hl⟩ := ts1.W
      cases hl
      refine ⟨_, rfl, _, .inl ⟨_, SqL.of hw, rfl⟩, iteF (iteF ?_)⟩
      have e2 : settleZ r z c = ([], c1) := e1.symm.trans rfl
      rw [e2] at q
      exact q H1 ts1 of1
    | cons p z1 =>
      obtain ⟨b, ws, hw, hb, hl, ts2⟩ := ts1.pop
      have wp := hz1 p List.mem_cons_self
      refine ⟨_, rfl, _, .inl ⟨_, SqL.of hw, rfl⟩, ?_⟩
      rw [show (!(ws.reverse ++ [V.ref b]).isEmpty) = true by simp]
      refine iteT ⟨_, rfl, _, rfl, W, _, _, _, rfl, rfl, SqL.of hw, atI_last _ _, b, _, 0, _, rfl, rfl, SqT.of hb, atI_nat (j := 0) rfl, p.1, _, rfl, ranks_ok wp, fun v hv => ?_⟩
      have hv : v = .int (rankOf p.1 : Nat) := hv
      subst hv
      refine ⟨_, rfl, _, _, rfl, rfl, _, rfl, ?_⟩
      by_cases hk : r ≤ rankOf p.1
      · rw [decide_eq_true (show ((r : Nat) : Int) ≤ (rankOf p.1 : Nat) by omega)]
        have e2 : settleZ r z1 (endCell p c1) = settleZ r z c := by
          rw [← e1]
          rw [settleZ, if_pos hk]
        have el := endCell_len p c1
        rw [List.length_cons] at hn1
        refine iteT ⟨fun σ' H2 => ∃ (y3 y4 : Option V), σ' = [some (.ref C), some (.ref W), some (.int (r : Nat)), y3, y4] ∧ TsAt K H2 C W (endCell p c1) z1 ∧ Off2 C W H1 H2, ?_, ?_⟩
        · rintro σ' H2 ⟨y3, y4, rfl, g1, g2⟩
          exact ⟨z1.length, by simp, endCell p c1, z1, y3, y4, rfl, g1, fun q hq => (hz1 q (List.mem_cons_of_mem _ hq)).mono el.1, by omega, e2, of1.trans g2, rfl⟩
        refine ⟨_, rfl, .inl ⟨rfl, _, SqL.of hw⟩, W, _, .ref b, rfl, rfl, hw, by simp, ?_⟩
        rw [List.dropLast_concat]
        have hb2 : (upd H1 W (.lst ws.reverse)) b = some (.tup [.str p.1, oN p.2]) := (upd_ne (ne_kindC hb hw fun z => nomatch z)).trans hb
        have o2 : Off2 C W H1 (upd H1 W (.lst ws.reverse)) := Off2.updW _
        generalize upd H1 W (.lst ws.reverse) = H2 at ts2 hb2 o2 ⊢
        refine ⟨b, _, rfl, SqT.of hb2, rfl, _, _, rfl, _, _, rfl, rfl, ?_⟩
        refine ⟨_, rfl, rfl, _, rfl, ?_⟩
        rcases wp with rfl | rfl | ⟨i, hi, hp⟩
        · exact absurd hk (by show ¬ r ≤ 0; omega)
        · obtain ⟨vs, hC, hvl, put⟩ := ts2.put
          have ex : endCell ("not", none) c1 = c1 ++ [some ⟨"not", .non⟩] := rfl
          rw [ex]
          refine iteT ⟨_, rfl, .inl ⟨rfl, _, SqL.of hC⟩, (by show 2 ≤ sizeLine; decide), fun t nt => ⟨C, vs, _, rfl, rfl, same_upd nt _ _ hC, Nat.lt_of_le_of_lt (show vs.length ≤ 10000000 by omega) (by decide), ?_⟩⟩
          obtain ⟨vs', hC', hvl', put'⟩ := (ts2.same (same_upd (o := .tup [.str "not", .non]) nt)).put
          rw [same_upd nt _ _ hC] at hC'
          cases hC'
          exact ⟨_, _, rfl, put' (.ref t) (some ⟨"not", .non⟩) ⟨t, .non, rfl, SqT.of upd_same, rfl⟩, o2.trans ((Off2.of (same_upd nt)).trans (Off2.updC _))⟩
        · obtain ⟨vs, hC, hvl, put⟩ := ts2.set
          have hn' : p.1 ≠ "not" := by
            rcases hp with rfl | rfl
            · exact fun z => by cases z
            · exact fun z => by cases z
          have hp2 : p.2 = some i := by rcases hp with rfl | rfl <;> rfl
          have ex : endCell p c1 = c1.set i (some ⟨p.1, .num c1.length⟩) := by
            unfold endCell
            rw [if_neg hn', hp2]
          rw [ex]
          rw [decide_eq_false fun z => hn' (V.str.inj z)]
          refine iteF ⟨_, rfl, _, rfl, C, vs, rfl, .inl (SqL.of hC), (by show 2 ≤ sizeLine; decide), fun t nt => ?_⟩
          obtain ⟨vs', hC', hvl', set'⟩ := (ts2.same (same_upd (o := .tup [.str p.1, .int (vs.length : Nat)]) nt)).set
          have hC2 := hC'
          rw [same_upd nt _ _ hC] at hC'
          cases hC'
          refine ⟨_, rfl, _, rfl, C, vs, (i : Int), i, rfl, by rw [hp2]; rfl, hC2, ?_, _, _, rfl, set' i (.ref t) (some ⟨p.1, .num c1.length⟩) ⟨t, .int (vs.length : Nat), rfl, SqT.of upd_same, by rw [hvl]; rfl⟩, o2.trans ((Off2.of (same_upd nt)).trans (Off2.updC _))⟩
          unfold ixN
          rw [if_pos (by omega), if_pos (by omega), Int.toNat_natCast]
      · rw [decide_eq_false (show ¬ ((r : Nat) : Int) ≤ (rankOf p.1 : Nat) by omega)]
        have e2 : settleZ r z c = (p :: z1, c1) := by
          rw [← e1]
          unfold settleZ
          rw [if_neg hk]
        rw [e2] at q
        exact iteF (q H1 ts1 of1)
end
end TX
namespace TX
open PySem PySem.Spec PyProof.Rows L2 KTD
/-! ### tests: atoms and operators behind the code -/
def spPutAtom (K : PySem.W.Frag) (t : ATb) : Sp := fun vs H Q _ => ∃ (C W l : Addr) (c : List Cell) (z : List Wt) (ws : List Str), vs = [.ref C, .ref l] ∧ TsAt K H C W c z ∧ c.length ≤ 10000000 ∧ SqL K H l (ws.map V.str) ∧ (ws.map (·.length)).sum + ws.length ≤ 4000000 ∧
  (atomOf t ws = none → Q (.bl false) H) ∧ ∀ p, atomOf t ws = some p → ∀ H', TsAt K H' C W (c ++ [some p]) z → Off2 C W H H' → Q (.bl true) H'
def opZ (w : Str) (z : List Wt) (c : List Cell) : Bool × List Wt × List Cell :=
  let s := settleZ (if w = "and" then 2 else 1) z c
  if w = ":" then (s.1.isEmpty, s.1, s.2) else if w = ")" then (match s.1 with
    | [] => (false, [], s.2)
    | _ :: r => (true, r, s.2)) else (true, ⟨w, some s.2.length⟩ :: s.1, s.2 ++ [none])
def opW : List Str := ["and", "or", ")", ":"]
theorem opZ_ok {w : Str} {z : List Wt} {c : List Cell} (hw : w ∈ opW) (h : WOk z c.length) : WOk (opZ w z c).2.1 (opZ w z c).2.2.length := by
  have k := settle_ok (if w = "and" then 2 else 1) h
  unfold opZ
  dsimp only
  by_cases e1 : w = ":"
  · rw [if_pos e1]
    exact k
  · rw [if_neg e1]
    by_cases e2 : w = ")"
    · rw [if_pos e2]
      split
      · exact fun _ h => nomatch h
      · rename_i e
        rw [e] at k
        exact fun p hp => k p (List.mem_cons_of_mem _ hp)
    · rw [if_neg e2]
      intro p hp
      rw [List.length_append]
      rcases List.mem_cons.mp hp with rfl | hp
      · refine .inr (.inr ⟨_, Nat.lt_succ_self _, ?_⟩)
        simp only [opW, List.mem_cons, List.not_mem_nil, or_false] at hw
        rcases hw with rfl | rfl | rfl | rfl
        · exact .inl rfl
        · exact .inr rfl
        · exact absurd rfl e2
        · exact absurd rfl e1
      · exact (k p hp).mono (by omega)
theorem opZ_len (w : Str) (z : List Wt) (c : List Cell) : (opZ w z c).2.2.length + (opZ w z c).2.1.length ≤ c.length + z.length + 2 := by
  have k := settle_len (if w = "and" then 2 else 1) z c
  unfold opZ
  dsimp only
  split
  · dsimp only
    omega
  · split
    · split
      · rename_i e
        rw [e] at k
        simp only [List.length_nil] at k ⊢
        omega
      · rename_i e
        rw [e] at k
        simp only [List.length_cons] at k ⊢
        omega
    · simp only [List.length_cons, List.length_append, List.length_nil]
      omega
def spPutOp (K : PySem.W.Frag) : Sp := fun vs H Q _ => ∃ (C W : Addr) (c : List Cell) (z : List Wt) (wd : Str), vs = [.ref C, .ref W, .str wd] ∧ wd ∈ opW ∧ TsAt K H C W c z ∧ WOk z c.length ∧ c.length + z.length ≤ 10000000 ∧
  ∀ H', TsAt K H' C W (opZ wd z c).2.2 (opZ wd z c).2.1 → Off2 C W H H' → Q (.bl (opZ wd z c).1) H'
section
variable {P : Program} {w : World} {K : PySem.W.Frag} {mg : Str → Option Value} {base : Heap}
theorem scPutAtom : FnScope ["code", "words", "step"] ["code", "words"] (defScope s_put_atom) := ⟨rfl, rfl, rfl, by decide +kernel, rfl, by decide +kernel, by decide +kernel⟩
theorem ok_putAtom {f fA : Addr} {fd dA : FuncData} {t : ATb} (F : Fun K "put_atom" "put_atom" s_put_atom f fd) (GA : FnOk P w K mg base CX0 1 fA dA ["words"] (spAtom K t)) (gA : mg "atom_of" = some (.ref fA)) (kA : PySem.W.keepIn K (.ref fA) = true) (bA : Binds K dA ["words"] []) : FnOk P w K mg base CX0 2 f fd ["code", "words"] (spPutAtom K t) := by
  refine F.ok scPutAtom (fun vs H Q E h => ?_) (fun cdv A outer s H vs Q E hr h => ?_)
  · obtain ⟨C, W, l, c, z, ws, rfl, _⟩ := h
    rfl
  · obtain ⟨C, W, l, c, z, ws, rfl, ts, hc, hl, hz, q0, q1⟩ := h
    refine ⟨_, pss_cons (ps_set (i := 2) scPutAtom.nd rfl (.inl rfl) (pe_call GA (hr.mono (by decide)) (by rfl) gA kA bA .nil pass0 (pa_cons (pv 1) pa_nil))) <|
      pss_cons (ps_if (pt_cmp (pc_notN (pv 2))) (pss_one (ps_expr (pe_bm PySem.F.plainAttrs_list PySem.F.slot_list_append PySem.F.type_list_append mt_append (pv 0) (pa_cons (pv 2) pa_nil)))) pss_nil) <|
      pss_one (ps_ret (pe_cmp (pc_notN (pv 2)))), ?_⟩
    refine ⟨_, rfl, l, ws, rfl, hl, hz, fun e => ?_, fun p e H' v sm hv => ?_⟩
    · refine ⟨_, rfl, _, rfl, ?_⟩
      have nn : (!decide (V.non = V.non)) = false := by simp
      rw [nn]
      refine iteF ⟨_, rfl, ?_⟩
      show Q (.bl (!decide (V.non = V.non))) H
      rw [nn]
      exact q0 e
    · obtain ⟨a, u, rfl, h1, h2⟩ := hv
      obtain ⟨vs, hC, hvl, put⟩ := (ts.same sm).put
      have nn : (!decide (V.ref a = V.non)) = true := by simp
      refine ⟨_, rfl, _, rfl, ?_⟩
      rw [nn]
      refine iteT ⟨_, rfl, .inl ⟨rfl, _, SqL.of hC⟩, _, rfl, C, vs, _, rfl, rfl, hC, Nat.lt_of_le_of_lt (show vs.length ≤ 10000000 by omega) (by decide), _, rfl, ?_⟩
      show Q (.bl (!decide (V.ref a = V.non))) _
      rw [nn]
      exact q1 p e _ (put (.ref a) (some p) ⟨a, u, rfl, h1, h2⟩) ((Off2.of sm).trans (Off2.updC _))
theorem scPutOp : FnScope ["code", "waiting", "word"] ["code", "waiting", "word"] (defScope s_put_operator) := ⟨rfl, rfl, rfl, by decide +kernel, rfl, by decide +kernel, by decide +kernel⟩
theorem ok_putOp {f fS aR : Addr} {fd dS : FuncData} (F : Fun K "put_operator" "put_operator" s_put_operator f fd) (len : mg "len" = none) (GS : FnOk P w K mg base CX0 1 fS dS ["code", "waiting", "rank"] (spSettle K)) (gS : mg "settle" = some (.ref fS)) (kS : PySem.W.keepIn K (.ref fS) = true) (bS : Binds K dS ["code", "waiting", "rank"] [])
    (TR : KTab K aR ranksD) (gR : mg "RANKS" = some (.ref aR)) : FnOk P w K mg base CX0 2 f fd ["code", "waiting", "word"] (spPutOp K) := by
  refine F.ok scPutOp (fun vs H Q E h => ?_) (fun cdv A outer s H vs Q E hr h => ?_)
  · obtain ⟨C, W, c, z, wd, rfl, _⟩ := h
    rfl
  · obtain ⟨C, W, c, z, wd, rfl, hwd, ts, hz, hn, q⟩ := h
    refine ⟨_, pss_cons (ps_expr (pe_call GS (hr.mono (by decide)) (by rfl) gS kS bS .nil pass0 (pa_cons (pv 0) (pa_cons (pv 1) (pa_cons (pe_get2K TR (by decide +kernel) (pv 2) (pe_itemK TR (by decide +kernel) pe_str (by rfl) gR (fun _ _ => rfl)) (by rfl) gR ⟨by rfl, by rfl, by rfl, by rfl⟩) pa_nil))))) <|
      pss_cons (ps_if (pt_cmpR op_eq (pv 2) pe_str (nomark _)) (pss_one (ps_ret (pe_notT (pv 1)))) pss_nil) <|
      pss_cons (ps_if (pt_cmpR op_eq (pv 2) pe_str (nomark _)) (pss_cons (ps_if (pt_truth (pv 1) (by intro _; rfl)) (pss_cons (ps_expr (pe_bm0 PySem.F.plainAttrs_list PySem.F.slot_list_pop PySem.F.type_list_pop mt_pop (pv 1))) (pss_one (ps_ret pe_bl))) pss_nil) (pss_one (ps_ret pe_bl))) pss_nil) <|
      pss_cons (ps_expr (pe_bm PySem.F.plainAttrs_list PySem.F.slot_list_append PySem.F.type_list_append mt_append (pv 1) (pa_cons (pe_tup (pa_cons (pv 2) (pa_cons (pe_callB call_len_seq (by rfl) len PySem.boot_len (pa_cons (pv 0) pa_nil)) pa_nil))) pa_nil))) <|
      pss_cons (ps_expr (pe_bm PySem.F.plainAttrs_list PySem.F.slot_list_append PySem.F.type_list_append mt_append (pv 0) (pa_cons pe_non pa_nil))) <|
      pss_one (ps_ret pe_bl), ?_⟩
    have rk : datumAt wd ranksD = if wd = "and" then some (Dat.flat (.int (2 : Nat))) else if wd = "or" then some (Dat.flat (.int (1 : Nat))) else none := by
      simp only [opW, List.mem_cons, List.not_mem_nil, or_false] at hwd
      rcases hwd with rfl | rfl | rfl | rfl <;> rfl
    have rd : (datumAt wd ranksD = some (Dat.flat (.int (2 : Nat))) ∧ (if wd = "and" then 2 else 1) = 2) ∨ (datumAt wd ranksD = some (Dat.flat (.int (1 : Nat))) ∧ (if wd = "and" then 2 else 1) = 1) ∨ (datumAt wd ranksD = none ∧ (if wd = "and" then 2 else 1) = 1) := by
      rw [rk]
      by_cases e1 : wd = "and"
      · rw [if_pos e1, if_pos e1]
        exact .inl ⟨rfl, rfl⟩
      · rw [if_neg e1, if_neg e1]
        by_cases e2 : wd = "or"
        · rw [if_pos e2]
          exact .inr (.inl ⟨rfl, rfl⟩)
        · rw [if_neg e2]
          exact .inr (.inr ⟨rfl, rfl⟩)
    refine ⟨_, rfl, _, rfl, _, rfl, _, _, rfl, (by rfl : datumAt ("or" : Str) ranksD = some (Dat.flat (.int (1 : Nat)))), fun v hv => ?_⟩
    have hv : v = .int (1 : Nat) := hv
    subst hv
    refine ⟨_, rfl, ?_⟩
    have ok1 := settle_len (if wd = "and" then 2 else 1) z c
    unfold GotK
    unfold opZ at q
    dsimp only at q
    generalize hrr : (if wd = "and" then 2 else 1) = r at rd q ok1
    have hr1 : 1 ≤ r := by
      rw [← hrr]
      split <;> omega
    have got : ∀ {G : V → Prop}, G (.int (r : Nat)) → (match datumAt wd ranksD with
        | some d => ∀ v, DatV K d v → G v
        | none => G (.int (1 : Nat))) := by
      intro G g
      rcases rd with ⟨e, rfl⟩ | ⟨e, rfl⟩ | ⟨e, rfl⟩
      · rw [e]
        intro v hv
        have hv : v = .int (2 : Nat) := hv
        subst hv
        exact g
      · rw [e]
        intro v hv
        have hv : v = .int (1 : Nat) := hv
        subst hv
        exact g
      · rw [e]
        exact g
    refine got ⟨C, W, c, z, r, rfl, hr1, ts, hz, hn, fun H1 ts1 of1 => ?_⟩
    generalize settleZ r z c = s1 at q ts1 ok1
    obtain ⟨z1, c1⟩ := s1
    dsimp only at q ts1 ok1
    refine ⟨_, rfl, rfl, _, rfl, ?_⟩
    by_cases e1 : wd = ":"
    · rw [if_pos e1] at q
      rw [decide_eq_true (show V.str wd = V.str ":" by rw [e1])]
      obtain ⟨ws, hw, hl⟩ := ts1.W
      refine iteT ⟨_, rfl, _, .inl ⟨_, SqL.of hw, rfl⟩, ?_⟩
      have hl := hl.length
      rw [show (!(!ws.reverse.isEmpty)) = z1.isEmpty by cases ws <;> cases z1 <;> simp_all]
      exact q H1 ts1 of1
    rw [if_neg e1] at q
    rw [decide_eq_false fun z => e1 (V.str.inj z)]
    refine iteF ⟨_, rfl, rfl, _, rfl, ?_⟩
    by_cases e2 : wd = ")"
    · rw [if_pos e2] at q
      rw [decide_eq_true (show V.str wd = V.str ")" by rw [e2])]
      cases z1 with
      | nil =>
        obtain ⟨ws, hw, hl⟩ := ts1.W
        cases hl
        exact iteT ⟨_, rfl, _, .inl ⟨_, SqL.of hw, rfl⟩, iteF (q H1 ts1 of1)⟩
      | cons p z2 =>
        obtain ⟨b, ws, hw, hb, hl, ts2⟩ := ts1.pop
        refine iteT ⟨_, rfl, _, .inl ⟨_, SqL.of hw, rfl⟩, ?_⟩
        rw [show (!(ws.reverse ++ [V.ref b]).isEmpty) = true by simp]
        refine iteT ⟨_, rfl, .inl ⟨rfl, _, SqL.of hw⟩, W, _, .ref b, rfl, rfl, hw, by simp, ?_⟩
        rw [List.dropLast_concat]
        exact q _ ts2 (of1.trans (Off2.updW _))
    · rw [if_neg e2] at q
      rw [decide_eq_false fun z => e2 (V.str.inj z)]
      obtain ⟨vs, hC, hvl⟩ := ts1.C
      have hvl := hvl.length
      obtain ⟨ws, hW, hwl⟩ := ts1.W
      have hwl := hwl.length
      refine iteF ⟨_, rfl, .inl ⟨rfl, _, SqL.of hW⟩, _, rfl, _, rfl, C, vs, rfl, .inl (SqL.of hC), (by show 2 ≤ sizeLine; decide), fun t nt => ⟨W, _, _, rfl, rfl, same_upd nt _ _ hW, ?_, ?_⟩⟩
      · rw [List.length_reverse]
        exact Nat.lt_of_le_of_lt (show ws.length ≤ 10000000 by omega) (by decide)
      · obtain ⟨ws', hW', _, push⟩ := (ts1.same (same_upd (o := .tup [.str wd, .int (vs.length : Nat)]) nt)).push (p := ⟨wd, some c1.length⟩)
        have hW2 := hW'
        rw [same_upd nt _ _ hW] at hW'
        have eW : ws.reverse = ws'.reverse := HO.lst.inj (Option.some.inj hW')
        have ts3 := push t (by rw [upd_same, hvl]; rfl)
        rw [← eW] at ts3
        obtain ⟨vs3, hC3, hvl3, put⟩ := ts3.put
        exact ⟨_, rfl, .inl ⟨rfl, _, SqL.of hC3⟩, C, vs3, _, rfl, rfl, hC3, Nat.lt_of_le_of_lt (show vs3.length ≤ 10000000 by omega) (by decide), q _ (put .non none rfl) (of1.trans ((Off2.of (same_upd nt)).trans ((Off2.updW _).trans (Off2.updC _))))⟩
end
end TX
namespace TX
open PySem PySem.Spec PyProof.Rows L2 KTD
/-! ### tests: more than one atom -/
structure CS where
  c : List Cell
  z : List Wt
  atom : List Str
  ended : Bool
def cstep (t : ATb) (S : CS) (w : Str) : Option CS :=
  if w = "not" ∨ w = "(" then (if S.atom ≠ [] ∨ S.ended = true then none else some ⟨S.c, ⟨w, none⟩ :: S.z, S.atom, S.ended⟩)
  else if w ∈ opW then match (if S.ended = true then some S.c else (atomOf t S.atom).map fun p => S.c ++ [some p]) with
    | none => none
    | some c1 => if (opZ w S.z c1).1 = true then some ⟨(opZ w S.z c1).2.2, (opZ w S.z c1).2.1, [], decide (w = ")")⟩ else none
  else if S.ended = true then none else some ⟨S.c, S.z, S.atom ++ [w], S.ended⟩
def compZ (t : ATb) : CS → List Str → Option CS
  | S, [] => some S
  | S, w :: ws => match cstep t S w with
    | none => none
    | some S2 => compZ t S2 ws
def CS.init : CS := ⟨[], [], [], false⟩
def sumL (ws : List Str) : Nat := (ws.map (·.length)).sum
theorem sumL_app (a b : List Str) : sumL (a ++ b) = sumL a + sumL b := by
  unfold sumL
  rw [List.map_append, List.sum_append]
/-- what a state of the walk keeps: n is how many words came, m how long they are -/
structure COk (S : CS) (n m : Nat) : Prop where
  w : WOk S.z S.c.length
  l : S.c.length + S.z.length + S.atom.length ≤ 3 * n
  a : sumL S.atom ≤ m
  al : S.atom.length ≤ n
theorem COk.init : COk CS.init 0 0 := ⟨(fun _ h => nomatch h), Nat.le_refl _, Nat.le_refl _, Nat.le_refl _⟩
theorem cstep_ok {t : ATb} {S S2 : CS} {n m : Nat} {w : Str} (h : COk S n m) (e : cstep t S w = some S2) : COk S2 (n + 1) (m + w.length) := by
  obtain ⟨h1, h2, h3, h4⟩ := h
  unfold cstep at e
  by_cases e1 : w = "not" ∨ w = "("
  · rw [if_pos e1] at e
    by_cases e2 : S.atom ≠ [] ∨ S.ended = true
    · rw [if_pos e2] at e
      cases e
    · rw [if_neg e2] at e
      cases e
      refine ⟨fun p hp => ?_, by simp only [List.length_cons]; omega, by show sumL S.atom ≤ _; omega, by show S.atom.length ≤ _; omega⟩
      rcases List.mem_cons.mp hp with rfl | hp
      · rcases e1 with rfl | rfl
        · exact .inr (.inl rfl)
        · exact .inl rfl
      · exact h1 p hp
  · rw [if_neg e1] at e
    by_cases e2 : w ∈ opW
    · rw [if_pos e2] at e
      cases hc : (if S.ended = true then some S.c else (atomOf t S.atom).map fun p => S.c ++ [some p]) with
      | none =>
        rw [hc] at e
        cases e
      | some c1 =>
        rw [hc] at e
        dsimp only at e
        have l1 : S.c.length ≤ c1.length ∧ c1.length ≤ S.c.length + 1 := by
          by_cases he : S.ended = true
          · rw [if_pos he] at hc
            cases hc
            omega
          · rw [if_neg he] at hc
            cases ha : atomOf t S.atom with
            | none =>
              rw [ha] at hc
              cases hc
            | some p =>
              rw [ha] at hc
              cases hc
              simp
        by_cases e3 : (opZ w S.z c1).1 = true
        · rw [if_pos e3] at e
          cases e
          have k := opZ_len w S.z c1
          refine ⟨opZ_ok e2 (h1.mono l1.1), ?_, Nat.zero_le _, Nat.zero_le _⟩
          simp only [List.length_nil]
          omega
        · rw [if_neg e3] at e
          cases e
    · rw [if_neg e2] at e
      by_cases e3 : S.ended = true
      · rw [if_pos e3] at e
        cases e
      · rw [if_neg e3] at e
        cases e
        refine ⟨h1, ?_, ?_, ?_⟩
        · simp only [List.length_append, List.length_cons, List.length_nil]
          omega
        · show sumL (S.atom ++ [w]) ≤ _
          rw [sumL_app]
          unfold sumL
          simp only [List.map_cons, List.map_nil, List.sum_cons, List.sum_nil]
          unfold sumL at h3
          omega
        · simp only [List.length_append, List.length_cons, List.length_nil]
          omega
def spComp (K : PySem.W.Frag) (t : ATb) : Sp := fun vs H Q _ => ∃ (l : Addr) (ws : List Str), vs = [.ref l] ∧ SqL K H l (ws.map V.str) ∧ sumL ws ≤ 1500000 ∧ ws.length ≤ 1500000 ∧
  (compZ t CS.init ws = none → ∀ H', Same H H' → Q .non H') ∧ ∀ S, compZ t CS.init ws = some S → ∀ (H' : Hp) (a : Addr) (vs : List V), Same H H' → H a = none → H' a = some (.lst vs) → All2 (CellAt K H') vs S.c → Q (.ref a) H'
section
variable {P : Program} {w : World} {K : PySem.W.Frag} {mg : Str → Option Value} {base : Heap}
theorem Off2.back {C W : Addr} {H H1 H2 : Hp} (s : Same H H1) (c : H C = none) (w : H W = none) (o : Off2 C W H1 H2) : Same H H2 := fun b u h => o.keep b u (fun z => by rw [z, c] at h; cases h) (fun z => by rw [z, w] at h; cases h) (s _ _ h)
theorem scComp : FnScope ["words", "code", "waiting", "atom", "ended", "word"] ["words"] (defScope s_read_compound) := ⟨rfl, rfl, rfl, by decide +kernel, rfl, by decide +kernel, by decide +kernel⟩
theorem ok_comp {f fA fO : Addr} {fd dA dO : FuncData} {t : ATb} (F : Fun K "read_compound" "read_compound" s_read_compound f fd) (GA : FnOk P w K mg base CX0 2 fA dA ["code", "words"] (spPutAtom K t)) (gA : mg "put_atom" = some (.ref fA)) (kA : PySem.W.keepIn K (.ref fA) = true) (bA : Binds K dA ["code", "words"] [])
    (GO : FnOk P w K mg base CX0 2 fO dO ["code", "waiting", "word"] (spPutOp K)) (gO : mg "put_operator" = some (.ref fO)) (kO : PySem.W.keepIn K (.ref fO) = true) (bO : Binds K dO ["code", "waiting", "word"] []) : FnOk P w K mg base CX0 3 f fd ["words"] (spComp K t) := by
  refine F.ok scComp (fun vs H Q E h => ?_) (fun cdv A outer s H vs Q E hr h => ?_)
  · obtain ⟨l, ws, rfl, _⟩ := h
    rfl
  · obtain ⟨l, ws, rfl, hl, hz, hn, q0, q1⟩ := h
    have r2 : Room 2 _ := hr.mono (by decide)
    refine ⟨_, pss_cons (ps_asg (pe_tup (pa_cons (pe_lst pa_nil) (pa_cons (pe_lst pa_nil) (pa_cons (pe_lst pa_nil) (pa_cons pe_bl pa_nil))))) (pg_tup rfl (pgs_cons (pg_name (i := 1) scComp.nd rfl (.inl rfl)) (pgs_cons (pg_name (i := 2) scComp.nd rfl (.inl rfl)) (pgs_cons (pg_name (i := 3) scComp.nd rfl (.inl rfl)) (pgs_cons (pg_name (i := 4) scComp.nd rfl (.inl rfl)) pgs_nil)))))) <|
      pss_cons (ps_for PassesOwn.never rfl (pi_list (pv 0)) (pg_name (i := 5) scComp.nd rfl (.inl rfl))
        (pss_one (ps_if (pt_cmpR op_in_seq (pv 5) (pe_tup (pa_cons pe_str (pa_cons pe_str pa_nil))) (by rfl))
          (pss_cons (ps_if (PW.pt (pw_or (pt_truth (pv 3) (by intro _; rfl)) (pw_or1 (pt_val (pv 4))))) (pss_one (ps_ret pe_non)) pss_nil) <|
           pss_one (ps_expr (pe_bm PySem.F.plainAttrs_list PySem.F.slot_list_append PySem.F.type_list_append mt_append (pv 2) (pa_cons (pe_tup (pa_cons (pv 5) (pa_cons pe_non pa_nil))) pa_nil))))
          (pss_one (ps_if (pt_cmpR op_in_seq (pv 5) (pe_tup (pa_cons pe_str (pa_cons pe_str (pa_cons pe_str (pa_cons pe_str pa_nil))))) (by rfl))
            (C8.pss_cut (ps_if (PW.pt (pw_and (pt_not (pt_val (pv 4))) (pw_and1 (pt_not (pt_val (pe_call GA r2 (by rfl) gA kA bA .nil pass0 (pa_cons (pv 1) (pa_cons (pv 3) pa_nil)))))))) (pss_one (ps_ret pe_non)) pss_nil) <|
             pss_cons (ps_par (i := 3) (j := 4) rfl scComp.nd rfl rfl (by decide) rfl rfl (pa_cons (pe_lst pa_nil) (pa_cons (pe_cmpR op_eq (pv 5) pe_str (nomark _)) pa_nil)) rfl) <|
             pss_one (ps_if (pt_not (pt_val (pe_call GO r2 (by rfl) gO kO bO .nil pass0 (pa_cons (pv 1) (pa_cons (pv 2) (pa_cons (pv 5) pa_nil)))))) (pss_one (ps_ret pe_non)) pss_nil))
            (pss_one (ps_if (pt_val (pv 4)) (pss_one (ps_ret pe_non))
              (pss_one (ps_expr (pe_bm PySem.F.plainAttrs_list PySem.F.slot_list_append PySem.F.type_list_append mt_append (pv 3) (pa_cons (pv 5) pa_nil))))))))))) <|
      pss_one (ps_ret (pv 1)), ?_⟩
    refine ⟨(by decide), fun C nC => ⟨(by decide), fun W nW => ⟨(by decide), fun a na => ⟨(by show 4 ≤ sizeLine; decide), fun t0 nt0 => ⟨t0, _, rfl, SqT.of upd_same, rfl, _, _, rfl, _, _, rfl, _, _, rfl, _, _, rfl, rfl, ?_⟩⟩⟩⟩⟩
    dsimp only at nC nW na nt0 ⊢
    have nCH : H C = none := nC
    have nWC : W ≠ C := fun e => by
      rw [e, upd_same] at nW
      cases nW
    have nWH : H W = none := (same_upd nC).free nW
    have naW : a ≠ W := fun e => by
      rw [e, upd_same] at na
      cases na
    have naC : a ≠ C := fun e => by
      rw [e, upd_ne nWC.symm, upd_same] at na
      cases na
    have naH : H a = none := (same_upd nC).free ((same_upd nW).free na)
    have sm0 : Same H (upd (upd (upd (upd H C (.lst [])) W (.lst [])) a (.lst [])) t0 (.tup [.ref C, .ref W, .ref a, .bl false])) := ((same_upd nC).trans ((same_upd nW).trans (same_upd na))).trans (same_upd nt0)
    have hC0 : (upd (upd (upd (upd H C (.lst [])) W (.lst [])) a (.lst [])) t0 (.tup [.ref C, .ref W, .ref a, .bl false])) C = some (.lst []) := same_upd nt0 _ _ ((upd_ne naC.symm).trans ((upd_ne nWC.symm).trans upd_same))
    have hW0 : (upd (upd (upd (upd H C (.lst [])) W (.lst [])) a (.lst [])) t0 (.tup [.ref C, .ref W, .ref a, .bl false])) W = some (.lst []) := same_upd nt0 _ _ ((upd_ne naW.symm).trans upd_same)
    have ha0 : (upd (upd (upd (upd H C (.lst [])) W (.lst [])) a (.lst [])) t0 (.tup [.ref C, .ref W, .ref a, .bl false])) a = some (.lst []) := same_upd nt0 _ _ upd_same
    generalize upd (upd (upd (upd H C (.lst [])) W (.lst [])) a (.lst [])) t0 (.tup [.ref C, .ref W, .ref a, .bl false]) = H0 at sm0 hC0 hW0 ha0 ⊢
    refine ⟨_, rfl, l, rfl, ⟨_, sm0.seq hl⟩, for_list (K := K) (a := l) (xs := ws.map V.str) (fun i σ H1 => ∃ (S : CS) (a : Addr) (y : Option V), σ = [some (.ref l), some (.ref C), some (.ref W), some (.ref a), some (.bl S.ended), y] ∧ Same H H1 ∧ TsAt K H1 C W S.c S.z ∧ H1 a = some (.lst (S.atom.map V.str)) ∧ H a = none ∧ a ≠ C ∧ a ≠ W ∧
      COk S i (sumL (ws.take i)) ∧ compZ t S (ws.drop i) = compZ t CS.init ws)
      ⟨CS.init, a, none, rfl, sm0, ⟨nWC.symm, ⟨_, hC0, .nil⟩, [], hW0, .nil⟩, ha0, naH, naC, naW, COk.init, rfl⟩ (fun i σ H1 hi ⟨S, a, y, _, sm, _⟩ => sm.seq hl) ?_ ?_⟩
    · rintro i x σ H1 hx ⟨S, a, y, rfl, sm, ts, ha, naH, naC, naW, ok, cz⟩
      rw [List.getElem?_map] at hx
      obtain ⟨wd, hwd, rfl⟩ : ∃ wd, ws[i]? = some wd ∧ V.str wd = x := by
        cases e : ws[i]? with
        | none =>
          rw [e] at hx
          cases hx
        | some wd =>
          rw [e] at hx
          cases hx
          exact ⟨wd, rfl, rfl⟩
      have il : i < ws.length := (List.getElem?_eq_some_iff.mp hwd).1
      have dr : ws.drop i = wd :: ws.drop (i + 1) := by
        rw [List.drop_eq_getElem_cons il, (List.getElem?_eq_some_iff.mp hwd).2]
      have tk : sumL (ws.take (i + 1)) = sumL (ws.take i) + wd.length := by
        rw [List.take_add_one, hwd, sumL_app]
        unfold sumL
        simp
      have tz : sumL (ws.take i) + sumL (ws.drop i) = sumL ws := by
        rw [← sumL_app, List.take_append_drop]
      rw [dr] at cz
      have cz : (match cstep t S wd with | none => none | some S2 => compZ t S2 (ws.drop (i + 1))) = compZ t CS.init ws := cz
      have bad : cstep t S wd = none → compZ t CS.init ws = none := fun e => by
        rw [← cz, e]
      have nx : ∀ (S2 : CS) (a2 : Addr) (y2 : Option V) (H2 : Hp), cstep t S wd = some S2 → Same H H2 → TsAt K H2 C W S2.c S2.z → H2 a2 = some (.lst (S2.atom.map V.str)) → H a2 = none → a2 ≠ C → a2 ≠ W →
          ∃ (S : CS) (a : Addr) (y : Option V), ([some (.ref l), some (.ref C), some (.ref W), some (.ref a2), some (.bl S2.ended), y2] : L2.St) = [some (.ref l), some (.ref C), some (.ref W), some (.ref a), some (.bl S.ended), y] ∧ Same H H2 ∧ TsAt K H2 C W S.c S.z ∧ H2 a = some (.lst (S.atom.map V.str)) ∧ H a = none ∧ a ≠ C ∧ a ≠ W ∧
            COk S (i + 1) (sumL (ws.take (i + 1))) ∧ compZ t S (ws.drop (i + 1)) = compZ t CS.init ws := fun S2 a2 y2 H2 e g1 g2 g3 g4 g5 g6 => ⟨S2, a2, y2, rfl, g1, g2, g3, g4, g5, g6, by
          rw [tk]
          exact cstep_ok ok e, by
          rw [← cz, e]⟩
      have okl := ok.l
      have oka := ok.a
      have okn := ok.al
      have el : (S.atom.map V.str).isEmpty = decide (S.atom = []) := by cases S.atom <;> rfl
      -- not, (
      refine ⟨_, rfl, (by decide), fun t1 n1 => ⟨t1, _, rfl, .inr (SqT.of upd_same), rfl, flat_textsC ["not", "("], ?_⟩⟩
      have s1 : Same H1 (upd H1 t1 (.tup [.str "not", .str "("])) := same_upd n1
      dsimp only at n1 ⊢
      generalize upd H1 t1 (.tup [.str "not", .str "("]) = H2 at s1 ⊢
      rw [show inV (.str wd) ([.str "not", .str "("] : List V) = decide (wd ∈ (["not", "("] : List Str)) from inV_textsC wd ["not", "("]]
      have ha1 := s1 _ _ ha
      refine ⟨_, rfl, ?_⟩
      by_cases c1 : wd = "not" ∨ wd = "("
      · rw [decide_eq_true (by simpa using c1)]
        have cs : cstep t S wd = if S.atom ≠ [] ∨ S.ended = true then none else some ⟨S.c, ⟨wd, none⟩ :: S.z, S.atom, S.ended⟩ := by
          unfold cstep
          rw [if_pos c1]
        refine iteT ⟨_, rfl, _, .inl ⟨_, SqL.of ha1, rfl⟩, ?_⟩
        rw [el]
        by_cases e1 : S.atom = []
        · rw [decide_eq_true e1]
          by_cases e2 : S.ended = true
          · rw [if_pos (.inr e2)] at cs
            rw [e2]
            exact iteF ⟨_, rfl, _, rfl, iteT (q0 (bad cs) H2 (sm.trans s1))⟩
          · rw [if_neg (fun z => z.elim (fun z => z e1) e2)] at cs
            have e2' : S.ended = false := by simpa using e2
            rw [e2']
            obtain ⟨ws1, hW, hwl, push⟩ := (ts.same s1).push (p := ⟨wd, none⟩)
            have hW := hW
            refine iteF ⟨_, rfl, _, rfl, iteF ⟨_, rfl, .inl ⟨rfl, _, SqL.of hW⟩, _, rfl, (by show 2 ≤ sizeLine; decide), fun t2 n2 => ⟨W, _, _, rfl, rfl, same_upd n2 _ _ hW, ?_, ?_⟩⟩⟩
            · rw [List.length_reverse]
              exact Nat.lt_of_le_of_lt (show ws1.length ≤ 10000000 by omega) (by decide)
            · obtain ⟨ws2, hW2, _, push2⟩ := ((ts.same s1).same (same_upd (o := .tup [.str wd, .non]) n2)).push (p := ⟨wd, none⟩)
              rw [same_upd n2 _ _ hW] at hW2
              have eW : ws1.reverse = ws2.reverse := HO.lst.inj (Option.some.inj hW2)
              have ts3 := push2 t2 upd_same
              rw [← eW] at ts3
              have sm3 : Same H (upd (upd H2 t2 (.tup [.str wd, .non])) W (.lst (ws1.reverse ++ [.ref t2]))) := Off2.back (C := C) (W := W) ((sm.trans s1).trans (same_upd n2)) nCH nWH (Off2.updW _)
              have := nx ⟨S.c, ⟨wd, none⟩ :: S.z, S.atom, S.ended⟩ a (some (.str wd)) _ cs sm3 ts3 ((upd_ne naW).trans (same_upd n2 _ _ ha1)) naH naC naW
              rw [e2'] at this
              exact this
        · rw [if_pos (.inl e1)] at cs
          rw [decide_eq_false e1]
          exact iteT (iteT (q0 (bad cs) H2 (sm.trans s1)))
      · rw [decide_eq_false (by simpa using c1)]
        have cs : cstep t S wd = if wd ∈ opW then match (if S.ended = true then some S.c else (atomOf t S.atom).map fun p => S.c ++ [some p]) with
            | none => none
            | some c1 => if (opZ wd S.z c1).1 = true then some ⟨(opZ wd S.z c1).2.2, (opZ wd S.z c1).2.1, [], decide (wd = ")")⟩ else none
          else if S.ended = true then none else some ⟨S.c, S.z, S.atom ++ [wd], S.ended⟩ := by
          unfold cstep
          rw [if_neg c1]
        refine iteF ⟨_, rfl, (by decide), fun t2 n2 => ⟨t2, _, rfl, .inr (SqT.of upd_same), rfl, flat_textsC opW, ?_⟩⟩
        have s2 : Same H2 (upd H2 t2 (.tup [.str "and", .str "or", .str ")", .str ":"])) := same_upd n2
        dsimp only at n2 ⊢
        generalize upd H2 t2 (.tup [.str "and", .str "or", .str ")", .str ":"]) = H3 at s2 ⊢
        rw [show inV (.str wd) ([.str "and", .str "or", .str ")", .str ":"] : List V) = decide (wd ∈ opW) from inV_textsC wd opW]
        have s3 := (sm.trans s1).trans s2
        have ts3 := (ts.same s1).same s2
        have ha3 := s2 _ _ ha1
        refine ⟨_, rfl, ?_⟩
        by_cases c2 : wd ∈ opW
        · rw [decide_eq_true c2]
          rw [if_pos c2] at cs
          refine iteT ⟨fun σ' H4 => σ' = [some (.ref l), some (.ref C), some (.ref W), some (.ref a), some (.bl S.ended), some (.str wd)] ∧ Same H H4 ∧ ∃ c1, (if S.ended = true then some S.c else (atomOf t S.atom).map fun p => S.c ++ [some p]) = some c1 ∧ TsAt K H4 C W c1 S.z, ?_, ?_⟩
          · refine ⟨_, rfl, _, rfl, ?_⟩
            by_cases e2 : S.ended = true
            · rw [e2]
              exact iteF (iteF ⟨rfl, s3, S.c, rfl, ts3⟩)
            · have e2' : S.ended = false := by simpa using e2
              rw [e2'] at cs ⊢
              refine iteT ⟨_, rfl, _, rfl, C, W, a, S.c, S.z, S.atom, rfl, ts3, by omega, SqL.of ha3, ?_, fun e => ?_, fun p e H4 ts4 of4 => ?_⟩
              · show sumL S.atom + _ ≤ _
                omega
              · rw [e] at cs
                exact ⟨_, rfl, iteT (q0 (bad cs) _ s3)⟩
              · exact ⟨_, rfl, iteF ⟨rfl, Off2.back s3 nCH nWH of4, _, by rw [e]; rfl, ts4⟩⟩
          · rintro σ' H4 ⟨rfl, s4, c1, ec, ts4⟩
            rw [ec] at cs
            dsimp only at cs
            have l1 : S.c.length ≤ c1.length ∧ c1.length ≤ S.c.length + 1 := by
              by_cases he : S.ended = true
              · rw [if_pos he] at ec
                cases ec
                omega
              · rw [if_neg he] at ec
                cases ha : atomOf t S.atom with
                | none =>
                  rw [ha] at ec
                  cases ec
                | some p =>
                  rw [ha] at ec
                  cases ec
                  simp
            refine ⟨(by decide), fun a2 na2 => ⟨_, rfl, rfl, _, _, rfl, ?_⟩⟩
            have s5 : Same H4 (upd H4 a2 (.lst [])) := same_upd na2
            have e5 : (upd H4 a2 (.lst [])) a2 = some (.lst []) := upd_same
            dsimp only at na2 ⊢
            generalize upd H4 a2 (.lst []) = H5 at s5 e5 ⊢
            refine ⟨_, rfl, _, rfl, _, rfl, C, W, c1, S.z, wd, rfl, c2, ts4.same s5, ok.w.mono l1.1, by omega, fun H6 ts6 of6 => ?_⟩
            have s6 := Off2.back (s4.trans s5) nCH nWH of6
            have n2H : H a2 = none := s4.free na2
            have a2C : a2 ≠ C := fun z => by
              obtain ⟨vs, hC, _⟩ := ts4.C
              rw [z, hC] at na2
              cases na2
            have a2W : a2 ≠ W := fun z => by
              obtain ⟨vs, hW, _⟩ := ts4.W
              rw [z, hW] at na2
              cases na2
            refine ⟨_, rfl, ?_⟩
            by_cases eo : (opZ wd S.z c1).1 = true
            · rw [if_pos eo] at cs
              rw [eo]
              have := nx _ a2 (some (.str wd)) H6 cs s6 ts6 (of6.keep _ _ a2C a2W e5) n2H a2C a2W
              refine iteF ?_
              have ed : decide (V.str wd = V.str ")") = decide (wd = ")") := by
                by_cases z : wd = ")"
                · rw [decide_eq_true z, decide_eq_true (by rw [z])]
                · rw [decide_eq_false z, decide_eq_false fun x => z (V.str.inj x)]
              rw [← ed] at this
              exact this
            · have eo' : (opZ wd S.z c1).1 = false := by simpa using eo
              rw [if_neg eo] at cs
              rw [eo']
              exact iteT (q0 (bad cs) _ s6)
        · rw [decide_eq_false c2]
          rw [if_neg c2] at cs
          refine iteF ⟨_, rfl, _, rfl, ?_⟩
          by_cases e2 : S.ended = true
          · rw [if_pos e2] at cs
            rw [e2]
            exact iteT (q0 (bad cs) _ s3)
          · rw [if_neg e2] at cs
            have e2' : S.ended = false := by simpa using e2
            rw [e2']
            refine iteF ⟨_, rfl, .inl ⟨rfl, _, SqL.of ha3⟩, _, rfl, a, _, _, rfl, rfl, ha3, ?_, ?_⟩
            · rw [List.length_map]
              exact Nat.lt_of_le_of_lt (show S.atom.length ≤ 10000000 by omega) (by decide)
            · have sm4 : Same H (upd H3 a (.lst (S.atom.map V.str ++ [.str wd]))) := fun b u h => (upd_ne (fun z => by rw [z, naH] at h; cases h)).trans (s3 _ _ h)
              have ts4 : TsAt K (upd H3 a (.lst (S.atom.map V.str ++ [.str wd]))) C W S.c S.z := by
                obtain ⟨ne, ⟨vs, h1, h2⟩, ws, h3, h4⟩ := ts3
                exact ⟨ne, ⟨vs, (upd_ne naC.symm).trans h1, h2.imp fun _ _ => CellAt.upd ha3⟩, ws, (upd_ne naW.symm).trans h3, h4.imp fun _ _ => WaitAt.upd ha3⟩
              have := nx ⟨S.c, S.z, S.atom ++ [wd], S.ended⟩ a (some (.str wd)) _ cs sm4 ts4 (by rw [upd_same, List.map_append]; rfl) naH naC naW
              rw [e2'] at this
              exact this
    · rintro σ H1 ⟨S, a, y, rfl, sm, ts, ha, naH, naC, naW, ok, cz⟩
      rw [List.length_map, List.drop_length] at cz
      obtain ⟨vs, hC, hv⟩ := ts.C
      exact ⟨_, rfl, q1 S cz.symm H1 C vs sm nCH hC hv⟩
end
end TX
namespace TX
open PySem PySem.Spec PyProof.Rows L2 KTD
/-! ### tests: how often a word stands in a list; no place of the code stays empty -/
def Hole (c : List Cell) (z : List Wt) : Prop := ∀ i : Nat, c[i]? = some none → ∃ p ∈ z, p.2 = some i
theorem hole_end {p : Wt} {c : List Cell} {z : List Wt} (h : Hole c (p :: z)) (w : WdOk p c.length) : Hole (endCell p c) z := by
  intro i hi
  rcases w with rfl | rfl | ⟨j, hj, hp⟩
  · obtain ⟨q, hq, e⟩ := h i hi
    rcases List.mem_cons.mp hq with rfl | hq
    · cases e
    · exact ⟨q, hq, e⟩
  · have hi : (c ++ [(some ⟨"not", .non⟩ : Cell)])[i]? = some none := hi
    by_cases il : i < c.length
    · rw [List.getElem?_append_left il] at hi
      obtain ⟨q, hq, e⟩ := h i hi
      rcases List.mem_cons.mp hq with rfl | hq
      · cases e
      · exact ⟨q, hq, e⟩
    · rw [List.getElem?_append_right (by omega)] at hi
      cases k : i - c.length with
      | zero =>
        rw [k] at hi
        cases hi
      | succ n =>
        rw [k] at hi
        cases hi
  · have hn : p.1 ≠ "not" := by
      rcases hp with rfl | rfl
      · exact fun z => by cases z
      · exact fun z => by cases z
    have hp2 : p.2 = some j := by rcases hp with rfl | rfl <;> rfl
    have ex : endCell p c = c.set j (some ⟨p.1, .num c.length⟩) := by
      unfold endCell
      rw [if_neg hn, hp2]
    rw [ex, List.getElem?_set] at hi
    by_cases ji : j = i
    · subst ji
      rw [if_pos rfl, if_pos hj] at hi
      cases hi
    · rw [if_neg ji] at hi
      obtain ⟨q, hq, e⟩ := h i hi
      rcases List.mem_cons.mp hq with rfl | hq
      · rw [hp2] at e
        exact absurd (Option.some.inj e) ji
      · exact ⟨q, hq, e⟩
theorem hole_settle (r : Nat) : ∀ {z : List Wt} {c : List Cell}, Hole c z → WOk z c.length → Hole (settleZ r z c).2 (settleZ r z c).1
  | [], c, h, _ => h
  | p :: z, c, h, w => by
    unfold settleZ
    split
    · exact hole_settle r (hole_end h (w p List.mem_cons_self)) fun q hq => (w q (List.mem_cons_of_mem _ hq)).mono (endCell_len p c).1
    · exact h
/-- what stands first behind settling binds less tightly -/
theorem settle_top {r : Nat} : ∀ {z : List Wt} {c : List Cell} {p : Wt} {q : List Wt}, (settleZ r z c).1 = p :: q → rankOf p.1 < r
  | [], c, p, q, h => nomatch h
  | p' :: z, c, p, q, h => by
    unfold settleZ at h
    by_cases k : r ≤ rankOf p'.1
    · rw [if_pos k] at h
      exact settle_top h
    · rw [if_neg k] at h
      cases h
      omega
theorem hole_op {w : Str} {z : List Wt} {c : List Cell} (h : Hole c z) (k : WOk z c.length) : Hole (opZ w z c).2.2 (opZ w z c).2.1 := by
  have h1 := hole_settle (if w = "and" then 2 else 1) h k
  have k1 := settle_ok (if w = "and" then 2 else 1) k
  unfold opZ
  dsimp only
  by_cases e1 : w = ":"
  · rw [if_pos e1]
    exact h1
  · rw [if_neg e1]
    by_cases e2 : w = ")"
    · rw [if_pos e2]
      have ea : (if w = "and" then 2 else 1) = 1 := by
        rw [e2]
        rfl
      rw [ea] at h1 k1 ⊢
      cases hs : (settleZ 1 z c).1 with
      | nil =>
        rw [hs] at h1
        exact h1
      | cons p q =>
        have tp := settle_top hs
        rw [hs] at h1 k1
        intro i hi
        obtain ⟨x, hx, e⟩ := h1 i hi
        rcases List.mem_cons.mp hx with rfl | hx
        · rcases k1 x List.mem_cons_self with rfl | rfl | ⟨j, _, rfl | rfl⟩
          · cases e
          · cases e
          · exact absurd tp (show ¬ rankOf "and" < 1 by decide +kernel)
          · exact absurd tp (show ¬ rankOf "or" < 1 by decide +kernel)
        · exact ⟨x, hx, e⟩
    · rw [if_neg e2]
      generalize settleZ (if w = "and" then 2 else 1) z c = s at h1
      intro i hi
      have hi : (s.2 ++ [(none : Cell)])[i]? = some none := hi
      by_cases il : i < s.2.length
      · rw [List.getElem?_append_left il] at hi
        obtain ⟨q, hq, e⟩ := h1 i hi
        exact ⟨q, List.mem_cons_of_mem _ hq, e⟩
      · have ie : i = s.2.length := by
          have := (List.getElem?_eq_some_iff.mp hi).1
          rw [List.length_append, List.length_singleton] at this
          omega
        exact ⟨_, List.mem_cons_self, by rw [ie]⟩
theorem hole_app {c : List Cell} {z : List Wt} {p : TStep} (h : Hole c z) : Hole (c ++ [some p]) z := by
  intro i hi
  by_cases il : i < c.length
  · rw [List.getElem?_append_left il] at hi
    exact h i hi
  · rw [List.getElem?_append_right (by omega)] at hi
    cases k : i - c.length with
    | zero =>
      rw [k] at hi
      cases hi
    | succ n =>
      rw [k] at hi
      cases hi
theorem hole_step {t : ATb} {S S2 : CS} {n m : Nat} {w : Str} (h : Hole S.c S.z) (k : COk S n m) (e : cstep t S w = some S2) : Hole S2.c S2.z ∧ (w = ":" → S2.z = []) := by
  unfold cstep at e
  by_cases e1 : w = "not" ∨ w = "("
  · rw [if_pos e1] at e
    by_cases e2 : S.atom ≠ [] ∨ S.ended = true
    · rw [if_pos e2] at e
      cases e
    · rw [if_neg e2] at e
      cases e
      refine ⟨fun i hi => ?_, fun z => ?_⟩
      · obtain ⟨q, hq, e⟩ := h i hi
        exact ⟨q, List.mem_cons_of_mem _ hq, e⟩
      · rw [z] at e1
        exact absurd e1 (by decide +kernel)
  · rw [if_neg e1] at e
    by_cases e2 : w ∈ opW
    · rw [if_pos e2] at e
      cases hc : (if S.ended = true then some S.c else (atomOf t S.atom).map fun p => S.c ++ [some p]) with
      | none =>
        rw [hc] at e
        cases e
      | some c1 =>
        rw [hc] at e
        dsimp only at e
        have l1 : Hole c1 S.z ∧ S.c.length ≤ c1.length := by
          by_cases he : S.ended = true
          · rw [if_pos he] at hc
            cases hc
            exact ⟨h, Nat.le_refl _⟩
          · rw [if_neg he] at hc
            cases ha : atomOf t S.atom with
            | none =>
              rw [ha] at hc
              cases hc
            | some p =>
              rw [ha] at hc
              cases hc
              exact ⟨hole_app h, by simp⟩
        by_cases e3 : (opZ w S.z c1).1 = true
        · rw [if_pos e3] at e
          cases e
          refine ⟨hole_op l1.1 (k.w.mono l1.2), fun z => ?_⟩
          subst z
          have : (settleZ 1 S.z c1).1.isEmpty = true := e3
          show (settleZ 1 S.z c1).1 = []
          cases hh : (settleZ 1 S.z c1).1 with
          | nil => rfl
          | cons a b =>
            rw [hh] at this
            cases this
        · rw [if_neg e3] at e
          cases e
    · rw [if_neg e2] at e
      by_cases e3 : S.ended = true
      · rw [if_pos e3] at e
        cases e
      · rw [if_neg e3] at e
        cases e
        exact ⟨h, fun z => absurd (by rw [z]; decide +kernel) e2⟩
theorem comp_full {t : ATb} : ∀ {ws : List Str} {S S2 : CS} {n m : Nat}, Hole S.c S.z → COk S n m → compZ t S ws = some S2 → ws.getLast? = some ":" → ∀ i : Nat, S2.c[i]? ≠ some none
  | [], S, S2, n, m, _, _, _, h => nomatch h
  | w :: ws, S, S2, n, m, hh, k, e, hl => by
    have e : (match cstep t S w with | none => none | some S2 => compZ t S2 ws) = some S2 := e
    cases es : cstep t S w with
    | none =>
      rw [es] at e
      cases e
    | some S1 =>
      rw [es] at e
      have e : compZ t S1 ws = some S2 := e
      obtain ⟨h1, h2⟩ := hole_step hh k es
      cases ws with
      | nil =>
        cases e
        have h2 := h2 (Option.some.inj hl)
        intro i hi
        obtain ⟨p, hp, _⟩ := h1 i hi
        rw [h2] at hp
        cases hp
      | cons w2 ws =>
        exact comp_full h1 (cstep_ok k es) e (by rw [← hl]; rfl)
def testZ (t : ATb) (ws : List Str) : Option Code := if ws.getLast? ≠ some ":" ∨ 1 < ws.count (":" : Str) then none else match atomOf t ws.dropLast with
  | some p => some [p]
  | none => (compZ t CS.init ws).map fun S => S.c.filterMap id
theorem full_cells {K : PySem.W.Frag} {H : Hp} : ∀ {vs : List V} {c : List Cell}, All2 (CellAt K H) vs c → (∀ i : Nat, c[i]? ≠ some none) → All2 (StepAt K H) vs (c.filterMap id)
  | _, _, .nil, _ => .nil
  | _, _, .cons (b := none) r t, h => absurd rfl (h 0)
  | _, _, .cons (b := some p) r t, h => .cons r (full_cells t fun i => h (i + 1))
/-! ### how often a text stands in a list of texts -/
section
variable {X : Cx}
theorem strs_count {k : Str} : ∀ {us : List Value} {ns : List Str}, StrsAre us ns → us.countP (isStrOf k) = ns.count k
  | _, _, .nil => rfl
  | _, _, .cons n t h => by
    have ih := strs_count (k := k) h
    rw [List.countP_cons, List.count_cons, ih] <;> rfl
def rCntS (K : PySem.W.Frag) : V → List V → Hp → VK → Prop := fun x xs H Q => ∃ (p : Addr) (ns : List Str) (k : Str), x = .ref p ∧ xs = [.str k] ∧ SqL K H p (ns.map V.str) ∧ Q (.int (ns.count k : Nat)) H
theorem mt_countS : MtR X "list.count" (rCntS X.K) := by
  intro pins s σ H x xs v us Q I rx rxs h
  obtain ⟨p, ns, k, rfl, rfl, hs, q⟩ := h
  cases rx
  obtain ⟨u, rfl, ru⟩ := rxs.one
  obtain ⟨t, rfl⟩ := ru
  obtain ⟨its, rv, ⟨⟨cls, dd, data, sl⟩, n, ho, hc, hdn, hd⟩, hlen⟩ := I.list hs
  simp only at hc hd
  subst hc hd
  have hi := Vals.strs rv
  refine call_meets PySem.F.slot_list_count ⟨_, ho, rfl⟩ PySem.F.entry_list_count (PySem.F.args_list_count_2 _ _)
    (SeqAt.list_countAt p its.toArray n dd sl (.str k t) (isStrOf k)) ⟨ho, fun y hy => (eq_isStrOf k t hi y (by simpa using hy)).at _ _, ?_⟩
  have ec : its.toArray.toList.countP (isStrOf k) = ns.count k := strs_count hi
  refine ⟨.int (ns.count k : Nat), H, I.tok _, ⟨s.toks, ?_⟩, q⟩
  show Value.int ((its.toArray.toList.countP (isStrOf k) : Nat) : Int) s.toks = Value.int ((ns.count k : Nat) : Int) s.toks
  rw [ec]
end
section
variable {P : Program} {w : World} {K : PySem.W.Frag} {mg : Str → Option Value} {base : Heap}
theorem cut_initT (us : List V) : cutV us none (some (-1)) = us.dropLast := by
  unfold cutV
  have e1 : HT.sIx us.length 0 none = 0 := rfl
  have e2 : HT.sIx us.length us.length (some (-1)) = us.length - 1 := by
    show (if (-1 : Int) < 0 then ((-1 : Int) + ((us.length : Nat) : Int)).toNat else min (-1 : Int).toNat us.length) = us.length - 1
    exact (if_pos (by decide)).trans (by omega)
  rw [e1, e2, List.drop_zero, Nat.sub_zero, List.dropLast_eq_take]
theorem cut_lastT (us : List V) : cutV us (some (-1)) none = us.drop (us.length - 1) := by
  unfold cutV
  have e1 : HT.sIx us.length us.length none = us.length := rfl
  have e2 : HT.sIx us.length 0 (some (-1)) = us.length - 1 := by
    show (if (-1 : Int) < 0 then ((-1 : Int) + ((us.length : Nat) : Int)).toNat else min (-1 : Int).toNat us.length) = us.length - 1
    exact (if_pos (by decide)).trans (by omega)
  rw [e1, e2, List.take_of_length_le (by rw [List.length_drop]; exact Nat.le_refl _)]
theorem last_is (ws : List Str) (x : Str) : (ws.drop (ws.length - 1) = [x]) = (ws.getLast? = some x) := by
  cases h : ws.reverse with
  | nil =>
    have : ws = [] := by simpa using h
    subst this
    simp
  | cons a r =>
    have : ws = r.reverse ++ [a] := by
      have := congrArg List.reverse h
      simpa using this
    subst this
    simp
theorem layT : ∀ {ts : List Str}, (∀ t ∈ ts, PyData.strOk t = true) → PyData.canLayAll0 (ts.map PyData.str) = true ∧ PyData.depthAll (ts.map PyData.str) = 0
  | [], _ => ⟨rfl, rfl⟩
  | x :: l, h => by
    have ih := layT (ts := l) fun t ht => h t (List.mem_cons_of_mem _ ht)
    constructor
    · show ((PyData.str x).canLay0 && PyData.canLayAll0 (l.map PyData.str)) = true
      rw [ih.1]
      exact (Bool.and_true _).trans (h x (List.mem_cons_self ..))
    · show max (PyData.str x).depth (PyData.depthAll (l.map PyData.str)) = 0
      rw [ih.2]
      rfl
theorem shapedT {ts : List Str} (h : ∀ t ∈ ts, PyData.strOk t = true) : SeqAt.shaped (.list (ts.map PyData.str)) = true := by
  have ih := layT h
  unfold SeqAt.shaped
  have cl : (PyData.list (ts.map PyData.str)).canLay0 = true := ih.1
  rw [cl, Bool.true_and]
  refine decide_eq_true ?_
  show PyData.depthAll (ts.map PyData.str) + 1 ≤ 64
  rw [ih.2]
  decide
theorem dpsT {K : PySem.W.Frag} {H : Hp} : ∀ (ts : List Str), DpAll K H (ts.map V.str) (ts.map PyData.str)
  | [] => .nil
  | x :: l => .cons (.str x) (dpsT l)
/-- a list that is new -/
def CodeNew (H : Hp) (v : V) : Prop := ∀ a, v = .ref a → H a = none
def spTest (K : PySem.W.Frag) (t : ATb) : Sp := fun vs H Q _ => ∃ (l : Addr) (ws : List Str), vs = [.ref l] ∧ SqL K H l (ws.map V.str) ∧ sumL ws ≤ 1500000 ∧ ws.length ≤ 1500000 ∧ (∀ x ∈ ws, PyData.strOk x = true) ∧
  (testZ t ws = none → ∀ H', Same H H' → Q .non H') ∧ ∀ c, testZ t ws = some c → ∀ (H' : Hp) (v : V), Same H H' → CodeNew H v → CodeAt K H' v (some c) → Q v H'
theorem scTest : FnScope ["words", "step"] ["words"] (defScope s_read_test) := ⟨rfl, rfl, rfl, by decide +kernel, rfl, by decide +kernel, by decide +kernel⟩
theorem ok_test {f fA fC : Addr} {fd dA dC : FuncData} {t : ATb} (F : Fun K "read_test" "read_test" s_read_test f fd) (GA : FnOk P w K mg base CX0 1 fA dA ["words"] (spAtom K t)) (gA : mg "atom_of" = some (.ref fA)) (kA : PySem.W.keepIn K (.ref fA) = true) (bA : Binds K dA ["words"] [])
    (GC : FnOk P w K mg base CX0 3 fC dC ["words"] (spComp K t)) (gC : mg "read_compound" = some (.ref fC)) (kC : PySem.W.keepIn K (.ref fC) = true) (bC : Binds K dC ["words"] []) : FnOk P w K mg base CX0 4 f fd ["words"] (spTest K t) := by
  refine F.ok scTest (fun vs H Q E h => ?_) (fun cdv A outer s H vs Q E hr h => ?_)
  · obtain ⟨l, ws, rfl, _⟩ := h
    rfl
  · obtain ⟨l, ws, rfl, hl, hz, hn, hs, q0, q1⟩ := h
    have hu := hr.units
    refine ⟨_, pss_cons (ps_if (PW.pt (pw_or (pt_cmpR (op_neD hu) (pe_slice sl_list (pv 0) (po_some (pe_un un_neg pe_int)) po_none) (pe_lst (pa_cons pe_str pa_nil)) (nomark _)) (pw_or1 (pt_cmpR op_gt (pe_bm PySem.F.plainAttrs_list PySem.F.slot_list_count PySem.F.type_list_count mt_countS (pv 0) (pa_cons pe_str pa_nil)) pe_int (nomark _))))) (pss_one (ps_ret pe_non)) pss_nil) <|
      pss_cons (ps_set (i := 1) scTest.nd rfl (.inl rfl) (pe_call GA (hr.mono (by decide)) (by rfl) gA kA bA .nil pass0 (pa_cons (pe_slice sl_list (pv 0) po_none (po_some (pe_un un_neg pe_int))) pa_nil))) <|
      pss_one (ps_ret (pe_ifExp (pt_cmp (pc_isN (pv 1))) (pe_call GC (hr.mono (by decide)) (by rfl) gC kC bC .nil pass0 (pa_cons (pv 0) pa_nil)) (pe_lst (pa_cons (pv 1) pa_nil)))), ?_⟩
    refine ⟨_, rfl, _, rfl, _, rfl, l, _, rfl, hl, fun p np => ⟨(by decide), fun p2 np2 => ?_⟩⟩
    have ec : cutV (ws.map V.str) (some (-1)) none = (ws.drop (ws.length - 1)).map V.str := by
      rw [cut_lastT, List.length_map, List.map_drop]
    rw [ec] at np2 ⊢
    have hl0 : Same H (upd (upd H p (.lst ((ws.drop (ws.length - 1)).map V.str))) p2 (.lst [.str ":"])) := (same_upd np).trans (same_upd np2)
    have h1 : (upd (upd H p (.lst ((ws.drop (ws.length - 1)).map V.str))) p2 (.lst [.str ":"])) p = some (.lst ((ws.drop (ws.length - 1)).map V.str)) := same_upd np2 _ _ upd_same
    have h2 : (upd (upd H p (.lst ((ws.drop (ws.length - 1)).map V.str))) p2 (.lst [.str ":"])) p2 = some (.lst [.str ":"]) := upd_same
    dsimp only at np2 ⊢
    generalize upd (upd H p (.lst ((ws.drop (ws.length - 1)).map V.str))) p2 (.lst [.str ":"]) = G at hl0 h1 h2 ⊢
    refine ⟨.list ((ws.drop (ws.length - 1)).map PyData.str), .list ([(":" : Str)].map PyData.str), .lst (SqL.of h1) (dpsT _), .lst (SqL.of h2) (dpsT [":"]), shapedT fun x hx => hs x (List.mem_of_mem_drop hx), shapedT (by decide +kernel), _, rfl, ?_⟩
    have ev : PyData.eqv (.list ((ws.drop (ws.length - 1)).map PyData.str)) (.list ([(":" : Str)].map PyData.str)) = decide (ws.drop (ws.length - 1) = [(":" : Str)]) := by
      generalize ws.drop (ws.length - 1) = r
      match r with
      | [] => rfl
      | [y] => by_cases h : y = ":" <;> simp [PyData.eqv, PyData.eqvAll, h]
      | y :: z :: q => simp [PyData.eqv, PyData.eqvAll]
    rw [ev]
    have tz : testZ t ws = if ws.getLast? ≠ some ":" ∨ 1 < ws.count (":" : Str) then none else match atomOf t ws.dropLast with
      | some p => some [p]
      | none => (compZ t CS.init ws).map fun S => S.c.filterMap id := rfl
    have li := last_is ws ":"
    by_cases el : ws.getLast? = some (":" : Str)
    · rw [decide_eq_true (li ▸ el)]
      refine iteF ⟨_, rfl, .inl ⟨rfl, _, hl0.seq hl⟩, l, ws, ":", rfl, rfl, hl0.seq hl, _, _, rfl, rfl, _, rfl, ?_⟩
      by_cases ct : 1 < ws.count (":" : Str)
      · rw [decide_eq_true (by omega)]
        rw [if_pos (.inr ct)] at tz
        exact iteT (q0 tz G hl0)
      · rw [decide_eq_false (by omega)]
        rw [if_neg (fun z => z.elim (fun z => z el) ct)] at tz
        refine iteF ⟨_, rfl, _, rfl, _, rfl, l, _, rfl, hl0.seq hl, fun p3 np3 => ?_⟩
        rw [show cutV (ws.map V.str) none (some (-1)) = ws.dropLast.map V.str by rw [cut_initT, List.map_dropLast]]
        have s3 : Same H (upd G p3 (.lst (ws.dropLast.map V.str))) := hl0.trans (same_upd np3)
        have e3 : (upd G p3 (.lst (ws.dropLast.map V.str))) p3 = some (.lst (ws.dropLast.map V.str)) := upd_same
        generalize upd G p3 (.lst (ws.dropLast.map V.str)) = G3 at s3 e3 ⊢
        have dl : sumL ws.dropLast ≤ sumL ws := by
          rw [List.dropLast_eq_take]
          have := sumL_app (ws.take (ws.length - 1)) (ws.drop (ws.length - 1))
          rw [List.take_append_drop] at this
          omega
        refine ⟨p3, ws.dropLast, rfl, SqL.of e3, ?_, fun e => ?_, fun q e G4 v s4 hv => ?_⟩
        · show sumL ws.dropLast + _ ≤ _
          rw [List.length_dropLast]
          omega
        · rw [e] at tz
          dsimp only at tz
          refine ⟨_, rfl, _, rfl, ?_⟩
          rw [decide_eq_true rfl]
          refine iteT ⟨_, rfl, l, ws, rfl, s3.seq hl, hz, hn, fun ce H' s' => ?_, fun S ce H' a vs s' na ha hv => ?_⟩
          · rw [ce] at tz
            exact q0 tz H' (s3.trans s')
          · rw [ce] at tz
            exact q1 _ tz H' (.ref a) (s3.trans s') (fun b e => by cases e; exact s3.free na) ⟨a, vs, rfl, ha, full_cells hv (comp_full (fun i hi => by cases hi) COk.init ce el)⟩
        · rw [e] at tz
          dsimp only at tz
          obtain ⟨x, u, rfl, g1, g2⟩ := hv
          refine ⟨_, rfl, _, rfl, ?_⟩
          rw [decide_eq_false fun z => nomatch z]
          refine iteF ⟨_, rfl, (by show 1 ≤ sizeLine; decide), fun y ny => ?_⟩
          have s5 : Same G4 (upd G4 y (.lst [.ref x])) := same_upd ny
          have e5 : (upd G4 y (.lst [.ref x])) y = some (.lst [.ref x]) := upd_same
          dsimp only [tNil] at ny ⊢
          exact q1 _ tz _ (.ref y) ((s3.trans s4).trans s5) (fun b e => by cases e; exact (s3.trans s4).free ny) ⟨y, _, rfl, e5, .cons ⟨x, u, rfl, same_sqt s5 g1, g2.same s5⟩ .nil⟩
    · rw [decide_eq_false fun z => el (li ▸ z)]
      rw [if_pos (.inl el)] at tz
      exact iteT (iteT (q0 tz G hl0))
end
end TX
namespace TX
open PySem PySem.Spec PyProof.Rows L2 KTD
/-! ### the line of an if -/
theorem wl_sizes {sp : Nat → Bool} : ∀ (l cur : List Nat), ((wl sp cur l).map (·.length)).sum ≤ cur.length + l.length ∧ (wl sp cur l).length ≤ cur.length + l.length
  | [], [] => by simp [wl]
  | [], c :: cs => by simp [wl]
  | d :: r, cur => by
    have e : wl sp cur (d :: r) = if sp d = true then (if cur = [] then wl sp [] r else cur :: wl sp [] r) else wl sp (cur ++ [d]) r := by
      cases cur <;> rfl
    rw [e]
    split
    · obtain ⟨h1, h2⟩ := wl_sizes (sp := sp) r []
      simp only [List.length_nil, Nat.zero_add] at h1 h2
      split
      · rw [List.length_cons]
        exact ⟨by omega, by omega⟩
      · rename_i hc
        have : 0 < cur.length := List.length_pos_iff.mpr hc
        simp only [List.map_cons, List.sum_cons, List.length_cons]
        exact ⟨by omega, by omega⟩
    · obtain ⟨h1, h2⟩ := wl_sizes (sp := sp) r (cur ++ [d])
      rw [List.length_append, List.length_singleton] at h1 h2
      rw [List.length_cons]
      exact ⟨by omega, by omega⟩
theorem words_sizes (x : Str) : sumL (Txt.words x) ≤ x.length ∧ (Txt.words x).length ≤ x.length := by
  have h := wl_sizes (sp := Unicode.isSpace) x.cps.toList []
  rw [← words_list] at h
  have e : (Txt.words x).map ((fun (l : List Nat) => l.length) ∘ fun (y : Str) => y.cps.toList) = (Txt.words x).map (·.length) := by
    refine List.map_congr_left fun y _ => ?_
    show y.cps.toList.length = y.length
    rw [Array.length_toList]
    rfl
  rw [List.map_map, e, List.length_map, List.length_nil, Nat.zero_add, Array.length_toList] at h
  exact h
end TX
namespace TX
open PySem PySem.Spec PyProof.Rows L2 KTD
/-! ### a line inside of a block -/
/-- a line as it was read -/
structure LnZ where
  deed : Str
  name : Option Str
  var : Option Str
  form : Option Str
  ask : Option Str
  code : Option Code
def oV : Option Str → V
  | none => .non
  | some s => .str s
def LnZ.f (z : LnZ) (tv nr af ot : V) : List (Str × V) := lineF (.str z.deed) (oV z.name) (oV z.var) (oV z.form) (oV z.ask) tv nr af ot
/-- a new line, with its code -/
def NewLz (K : PySem.W.Frag) (C : Addr) (H : Hp) (z : LnZ) (Q : VK) : Prop := ∀ (H' : Hp) (x dx : Addr) (tv : V), Same H H' → H x = none → H' x = some (.ins C dx (z.f tv .non .non .non)) → CodeNew H tv → CodeAt K H' tv z.code → Q (.ref x) H'
theorem NewLz.of {K : PySem.W.Frag} {C : Addr} {H : Hp} {z : LnZ} {Q : VK} (h : NewLz K C H z Q) (hc : z.code = none) : NewLn C H (z.f .non .non .non .non) Q := fun H' x dx s n e => h H' x dx .non s n e (fun _ z => nomatch z) (by rw [hc]; rfl)
theorem NewLz.same {K : PySem.W.Frag} {C : Addr} {H H1 : Hp} {z : LnZ} {Q : VK} (s : Same H H1) (h : NewLz K C H z Q) : NewLz K C H1 z Q := fun H' x dx tv s' n e w c => h H' x dx tv (s.trans s') (s.free n) e (fun a z => s.free (w a z)) c
def bareW : List Str := ["else", "skip", "break", "return", "refuse"]
/-- tables of loops, arguments, gifts; how tests are read -/
structure Tbs where
  tl : Tbl
  ta : Tbl
  tg : Tbl
  rt : List Str → Str → Option Code
def readInner (T : Tbs) (ts : List Str) (va own : Str) (lo : Bool) (M : Mean) : Option LnZ := match ts with
  | [] => none
  | w :: r =>
    if w = "for" then (if 2 < ts.length then (readFor T.tl ts va M).map fun q => ⟨"for", none, some q.1, some q.2.1, some q.2.2, none⟩ else none)
    else if w = "if" then (T.rt r va).map fun c => ⟨"if", none, none, none, none, some c⟩
    else if w ∈ bareW then (readBare ts lo).map fun w => ⟨w, none, none, none, none, none⟩
    else (readNamed T.ta T.tg ts va own lo M).map fun q => ⟨q.1, some q.2.1, none, some q.2.2.1, some q.2.2.2, none⟩
def spReadIf (K : PySem.W.Frag) (C CB : Addr) (T : Tbs) : Sp := fun vs H Q _ => ∃ (l b dx : Addr) (ts : List Str) (va : Str) (ln ow lo : V), vs = [.ref l, .ref b] ∧ H l = some (.lst (ts.map V.str)) ∧ 0 < ts.length ∧ Few ts ∧
  H b = some (.ins CB dx (blockF ln (.str va) ow lo)) ∧ va.length ≤ 5000 ∧ va ≠ "V" ∧ (∀ t ∈ ts, PyData.strOk t = true) ∧ (shapeZ (ts.drop 1) va).length ≤ 1500000 ∧ PyData.strOk (shapeZ (ts.drop 1) va) = true ∧
  (T.rt (ts.drop 1) va = none → ∀ H', Same H H' → Q .non H') ∧ ∀ c, T.rt (ts.drop 1) va = some c → NewLz K C H ⟨"if", none, none, none, none, some c⟩ Q
def spReadInner (K : PySem.W.Frag) (C CB : Addr) (T : Tbs) : Sp := fun vs H Q _ => ∃ (l b dx d : Addr) (ts : List Str) (va own : Str) (ln : V) (lo : Bool) (M : Mean), vs = [.ref l, .ref b, .ref d] ∧ H l = some (.lst (ts.map V.str)) ∧ 0 < ts.length ∧ Few ts ∧
  H b = some (.ins CB dx (blockF ln (.str va) (.str own) (.bl lo))) ∧ va.length ≤ 5000 ∧ va ≠ "V" ∧ H d = some (.dK (mKV M)) ∧ (∀ t ∈ ts, PyData.strOk t = true) ∧ (shapeZ (ts.drop 1) va).length ≤ 1500000 ∧ PyData.strOk (shapeZ (ts.drop 1) va) = true ∧
  (readInner T ts va own lo M = none → ∀ H', Same H H' → Q .non H') ∧ ∀ z, readInner T ts va own lo M = some z → NewLz K C H z Q
theorem inV_texts (w : Str) : ∀ ws : List Str, inV (.str w) (ws.map V.str) = decide (w ∈ ws)
  | [] => by simp [inV]
  | a :: ws => by
    have ih := inV_texts w ws
    unfold inV at ih ⊢
    rw [List.map_cons, List.any_cons, ih]
    show ((a == w) || _) = _
    by_cases h : w = a
    · subst h
      simp
    · have : (a == w) = false := beq_eq_false_iff_ne.mpr fun z => h z.symm
      rw [this, Bool.false_or]
      simp [h]
theorem flat_texts : ∀ ws : List Str, (ws.map V.str).all L2.flatV = true
  | [] => rfl
  | a :: ws => by
    rw [List.map_cons, List.all_cons, flat_texts ws]
    rfl
section
variable {P : Program} {w : World} {K : PySem.W.Frag} {mg : Str → Option Value} {base : Heap} {C CB : Addr}
theorem scReadIf : FnScope ["tokens", "block", "code"] ["tokens", "block"] (defScope s_read_if) := ⟨rfl, rfl, rfl, by decide +kernel, rfl, by decide +kernel, by decide +kernel⟩
theorem ok_readIf {f fS fT fL : Addr} {fd dS dT dL : FuncData} {T : Tbs} {tA : ATb} (hT : ∀ ts va, T.rt ts va = testZ tA (Txt.words (shapeZ ts va))) (F : Fun K "read_if" "read_if" s_read_if f fd) (TB : BkC K CB)
    (GS : FnOk P w K mg base CX0 1 fS dS ["tokens", "variable"] (spShape K)) (gS : mg "shape_of" = some (.ref fS)) (kS : PySem.W.keepIn K (.ref fS) = true) (bS : Binds K dS ["tokens", "variable"] [])
    (GT : FnOk P w K mg base CX0 4 fT dT ["words"] (spTest K tA)) (gT : mg "read_test" = some (.ref fT)) (kT : PySem.W.keepIn K (.ref fT) = true) (bT : Binds K dT ["words"] [])
    (L : LnM K mg C fL dL) (GL : FnOk P w K mg base CX0 1 fL dL ["self", "deed", "name", "variable", "form", "ask", "test"] (spLine K C)) : FnOk P w K mg base CX0 5 f fd ["tokens", "block"] (spReadIf K C CB T) := by
  refine F.ok scReadIf (fun vs H Q E h => ?_) (fun cdv A outer s H vs Q E hr h => ?_)
  · obtain ⟨l, b, dx, ts, va, ln, ow, lo, rfl, _⟩ := h
    rfl
  · obtain ⟨l, b, dx, ts, va, ln, ow, lo, rfl, hl, h0, hz, hb, hv, hV, hk, zl, zk, q0, q1⟩ := h
    refine ⟨_, pss_cons (ps_set (i := 2) scReadIf.nd rfl (.inl rfl) (pe_call GT hr (by rfl) gT kT bT .nil pass0 (pa_cons (pe_words (pe_call GS (hr.mono (by decide)) (by rfl) gS kS bS .nil pass0 (pa_cons (pe_slice sl_list (pv 0) (po_some pe_int) po_none) (pa_cons (pe_fld (pv 1) rfl) pa_nil)))) pa_nil))) <|
      pss_one (ps_ret (pe_ifExp (pt_cmp (pc_isN (pv 2))) pe_non (pe_make (dvs := []) L.M GL (hr.mono (by decide)) (by rfl) L.mgC L.b0 .nil pass0 (pa_cons pe_str (pa_cons pe_non (pa_cons pe_non (pa_cons pe_non (pa_cons pe_non (pa_cons (pv 2) pa_nil))))))))), ?_⟩
    refine ⟨_, rfl, _, rfl, l, _, rfl, SqL.of hl, fun c nc => ?_⟩
    rw [show (1 : Int) = ((1 : Nat) : Int) from rfl, cut_drop (by rw [List.length_map]; exact h0), ← List.map_drop]
    have s1 := same_upd (o := .lst ((ts.drop 1).map V.str)) nc
    have e1 := upd_same (H := H) (a := c) (o := .lst ((ts.drop 1).map V.str))
    generalize upd H c (.lst ((ts.drop 1).map V.str)) = G at s1 e1 ⊢
    refine ⟨_, rfl, b, CB, dx, _, _, rfl, s1 _ _ hb, TB.cl, TB.na _ (by decide +kernel), rfl, c, ts.drop 1, va, rfl, SqL.of e1, ?_, hv, hV, ?_⟩
    · have := few_drop 1 ts
      unfold Few at hz
      omega
    have ws := words_sizes (shapeZ (ts.drop 1) va)
    refine ⟨⟨_, rfl⟩, _, rfl, rfl, Nat.le_trans (show (shapeZ (ts.drop 1) va).length + 2 ≤ 1500002 by omega) (by decide), fun p np => ?_⟩
    have s2 : Same H (upd G p (.lst ((Txt.words (shapeZ (ts.drop 1) va)).map V.str))) := s1.trans (same_upd np)
    have e2 : (upd G p (.lst ((Txt.words (shapeZ (ts.drop 1) va)).map V.str))) p = some (.lst ((Txt.words (shapeZ (ts.drop 1) va)).map V.str)) := upd_same
    generalize upd G p (.lst ((Txt.words (shapeZ (ts.drop 1) va)).map V.str)) = G2 at s2 e2 ⊢
    rw [hT] at q0
    simp only [hT] at q1
    refine ⟨p, _, rfl, SqL.of e2, by omega, by omega, fun x hx => words_ok zk hx, fun e H' s3 => ?_, fun c e H' v s3 nw hv => ?_⟩
    · refine ⟨_, rfl, _, rfl, ?_⟩
      rw [decide_eq_true rfl]
      exact iteT (q0 e H' (s2.trans s3))
    · obtain ⟨a, vs, rfl, g1, g2⟩ := hv
      refine ⟨_, rfl, _, rfl, ?_⟩
      rw [decide_eq_false fun z => nomatch z]
      refine iteF ⟨_, rfl, ?_⟩
      dsimp only [tNil, List.nil_append, List.append_nil, List.cons_append]
      have s4 := s2.trans s3
      intro x dx nx ndx hne
      have fin : ∀ H2, Same H' H2 → H2 x = some (.ins C dx (lineF (.str "if") .non .non .non .non (.ref a) .non .non .non)) → Q (.ref x) H2 := fun H2 sH hx => q1 c e H2 x dx (.ref a) (s4.trans sH) (s4.free nx) hx (fun b z => s2.free (nw b z)) (CodeAt.same (c := some c) sH ⟨a, vs, rfl, g1, g2⟩)
      exact ⟨x, dx, .str "if", .non, .non, .non, .non, .ref a, rfl, upd_same, rfl, fin _ (same_fresh nx (same_fresh nx (same_upd ndx))) upd_same⟩
theorem scReadInner : FnScope ["tokens", "block", "meanings", "word"] ["tokens", "block", "meanings"] (defScope s_read_inner) := ⟨rfl, rfl, rfl, by decide +kernel, rfl, by decide +kernel, by decide +kernel⟩
theorem ok_readInner {f fF fB fN : Addr} {fd dF dB dN : FuncData} {T : Tbs} (F : Fun K "read_inner" "read_inner" s_read_inner f fd) (len : mg "len" = none)
    (GF : FnOk P w K mg base CX0 3 fF dF ["tokens", "block", "meanings"] (spReadFor K C CB T.tl)) (gF : mg "read_for" = some (.ref fF)) (kF : PySem.W.keepIn K (.ref fF) = true) (bF : Binds K dF ["tokens", "block", "meanings"] [])
    (GB : FnOk P w K mg base CX0 3 fB dB ["tokens", "block"] (spReadBare K C CB)) (gB : mg "read_bare" = some (.ref fB)) (kB : PySem.W.keepIn K (.ref fB) = true) (bB : Binds K dB ["tokens", "block"] [])
    {fI : Addr} {dI : FuncData} (GI : FnOk P w K mg base CX0 5 fI dI ["tokens", "block"] (spReadIf K C CB T)) (gI : mg "read_if" = some (.ref fI)) (kI : PySem.W.keepIn K (.ref fI) = true) (bI : Binds K dI ["tokens", "block"] [])
    (GN : FnOk P w K mg base CX0 4 fN dN ["tokens", "block", "meanings"] (spReadNamed K C CB T.ta T.tg)) (gN : mg "read_named" = some (.ref fN)) (kN : PySem.W.keepIn K (.ref fN) = true) (bN : Binds K dN ["tokens", "block", "meanings"] []) : FnOk P w K mg base CX0 6 f fd ["tokens", "block", "meanings"] (spReadInner K C CB T) := by
  refine F.ok scReadInner (fun vs H Q E h => ?_) (fun cdv A outer s H vs Q E hr h => ?_)
  · obtain ⟨l, b, dx, d, ts, va, own, ln, lo, M, rfl, _⟩ := h
    rfl
  · obtain ⟨l, b, dx, d, ts, va, own, ln, lo, M, rfl, hl, h0, hz, hb, hv, hV, hd, hk, zl, zk, q0, q1⟩ := h
    have r3 : Room 3 _ := hr.mono (by decide)
    have r4 : Room 4 _ := hr.mono (by decide)
    have r5 : Room 5 _ := hr
    refine ⟨_, pss_cons (ps_set (i := 3) scReadInner.nd rfl (.inl rfl) (pe_ix ix_list (pv 0) pe_int (fun _ _ => rfl))) <|
      pss_cons (ps_if (pt_cmpR op_eq (pv 3) pe_str (nomark _)) (pss_one (ps_ret (pe_ifExp (pt_cmpR op_gt (pe_callB call_len_seq (by rfl) len PySem.boot_len (pa_cons (pv 0) pa_nil)) pe_int (nomark _)) (pe_call GF r3 (by rfl) gF kF bF .nil pass0 (pa_cons (pv 0) (pa_cons (pv 1) (pa_cons (pv 2) pa_nil)))) pe_non))) pss_nil) <|
      pss_cons (ps_if (pt_cmpR op_eq (pv 3) pe_str (nomark _)) (pss_one (ps_ret (pe_call GI r5 (by rfl) gI kI bI .nil pass0 (pa_cons (pv 0) (pa_cons (pv 1) pa_nil))))) pss_nil) <|
      pss_cons (ps_if (pt_cmpR op_in_seq (pv 3) (pe_tup (pa_cons pe_str (pa_cons pe_str (pa_cons pe_str (pa_cons pe_str (pa_cons pe_str pa_nil)))))) (by rfl)) (pss_one (ps_ret (pe_call GB r3 (by rfl) gB kB bB .nil pass0 (pa_cons (pv 0) (pa_cons (pv 1) pa_nil))))) pss_nil) <|
      pss_one (ps_ret (pe_call GN r4 (by rfl) gN kN bN .nil pass0 (pa_cons (pv 0) (pa_cons (pv 1) (pa_cons (pv 2) pa_nil))))), ?_⟩
    obtain ⟨wd, r, rfl⟩ : ∃ wd r, ts = wd :: r := by
      cases ts with
      | nil => cases h0
      | cons a r => exact ⟨a, r, rfl⟩
    have rd : readInner T (wd :: r) va own lo M = if wd = "for" then (if 2 < (wd :: r).length then (readFor T.tl (wd :: r) va M).map fun q => LnZ.mk "for" none (some q.1) (some q.2.1) (some q.2.2) none else none)
        else if wd = "if" then (T.rt r va).map fun c => LnZ.mk "if" none none none none (some c)
        else if wd ∈ bareW then (readBare (wd :: r) lo).map fun w => LnZ.mk w none none none none none
        else (readNamed T.ta T.tg (wd :: r) va own lo M).map fun q => LnZ.mk q.1 (some q.2.1) none (some q.2.2.1) (some q.2.2.2) none := rfl
    have st : ∀ {a b : Str} {A' B' : Prop}, (a = b → A') → (a ≠ b → B') → (if decide (V.str a = V.str b) = true then A' else B') := fun {a b A' B'} h g => by
      by_cases e : a = b
      · rw [decide_eq_true (by rw [e])]
        exact iteT (h e)
      · rw [decide_eq_false (fun z => e (by injection z))]
        exact iteF (g e)
    refine ⟨_, rfl, l, _, 0, _, rfl, rfl, SqL.of hl, atI_nat (j := 0) rfl, _, rfl, rfl, _, rfl, st (fun e => ?_) (fun e => ?_)⟩
    · rw [if_pos e] at rd
      refine ⟨_, rfl, l, _, rfl, .inl (SqL.of hl), _, _, rfl, rfl, _, rfl, ?_⟩
      rw [List.length_map]
      by_cases h2 : 2 < (wd :: r).length
      · rw [if_pos h2] at rd
        rw [decide_eq_true (show (2 : Int) < ((wd :: r).length : Nat) by omega)]
        refine iteT ⟨_, rfl, _, rfl, _, rfl, l, b, dx, d, _, va, ln, .str own, .bl lo, M, rfl, hl, h2, hz, hb, hv, hV, hd, ?_, ?_⟩
        · intro e
          rw [e] at rd
          exact q0 rd
        · intro x fo ak e
          rw [e] at rd
          exact (q1 _ rd).of rfl
      · rw [if_neg h2] at rd
        rw [decide_eq_false (show ¬ (2 : Int) < ((wd :: r).length : Nat) by omega)]
        exact iteF (q0 rd H fun _ _ e => e)
    · rw [if_neg e] at rd
      refine ⟨_, rfl, rfl, _, rfl, st (fun e2 => ?_) (fun e2 => ?_)⟩
      · rw [if_pos e2] at rd
        refine ⟨_, rfl, _, rfl, l, b, dx, _, va, ln, .str own, .bl lo, rfl, hl, h0, hz, hb, hv, hV, hk, zl, zk, fun e => ?_, fun c e => ?_⟩
        · have e : T.rt r va = none := e
          rw [e] at rd
          exact q0 rd
        · have e : T.rt r va = some c := e
          rw [e] at rd
          exact q1 _ rd
      rw [if_neg e2] at rd
      refine ⟨_, rfl, (by decide), fun c nc => ?_⟩
      have s1 := same_upd (o := .tup (bareW.map V.str)) nc
      have e1 := upd_same (H := H) (a := c) (o := .tup (bareW.map V.str))
      have eb : ([V.str (Str.ofString "else"), V.str (Str.ofString "skip"), V.str (Str.ofString "break"), V.str (Str.ofString "return"), V.str (Str.ofString "refuse")] : List V) = bareW.map V.str := rfl
      rw [eb]
      generalize upd H c (.tup (bareW.map V.str)) = G at s1 e1 ⊢
      refine ⟨c, _, rfl, .inr (SqT.of e1), rfl, flat_texts _, ?_⟩
      rw [inV_texts]
      refine ⟨_, rfl, ?_⟩
      by_cases hw : wd ∈ bareW
      · rw [if_pos hw] at rd
        rw [decide_eq_true hw]
        refine iteT ⟨_, rfl, _, rfl, l, b, dx, _, ln, .str va, .str own, lo, rfl, s1 _ _ hl, h0, hk, s1 _ _ hb, ?_, ?_⟩
        · intro e G' sg
          rw [e] at rd
          exact q0 rd G' (s1.trans sg)
        · intro w e
          rw [e] at rd
          exact ((q1 _ rd).same s1).of rfl
      · rw [if_neg hw] at rd
        rw [decide_eq_false hw]
        refine iteF ⟨_, rfl, _, rfl, _, rfl, l, b, dx, d, _, va, own, ln, lo, M, rfl, s1 _ _ hl, h0, hz, s1 _ _ hb, hv, hV, s1 _ _ hd, hk, zl, zk, ?_, ?_⟩
        · intro e G' sg
          rw [e] at rd
          exact q0 rd G' (s1.trans sg)
        · intro de z fo ak e
          rw [e] at rd
          exact ((q1 _ rd).same s1).of rfl
end
end TX
namespace TX
open PySem PySem.Spec PyProof.Rows L2 KTD
/-! ### what is known behind some lines -/
structure LnS where
  z : LnZ
  num : Nat
  aft : Nat
  oth : Option Nat
structure Bk where
  line : Option Nat
  var : Option Str
  own : Option Str
  lo : Bool
structure RS where
  lines : List LnS
  mean : Mean
  found : List (Nat × Str)
  blocks : List Bk
def oI : Option Nat → V
  | none => .non
  | some n => .int (n : Nat)
def LnS.f (l : LnS) (tv : V) : List (Str × V) := l.z.f tv (.int (l.num : Nat)) (.int (l.aft : Nat)) (oI l.oth)
/-- where it stands -/
structure RA where
  r : Addr
  dx : Addr
  aL : Addr
  aM : Addr
  aF : Addr
  aB : Addr
  xs : List Addr
  fs : List Addr
  bs : List Addr
def RA.own (A : RA) : List Addr := A.r :: A.aL :: A.aM :: A.aF :: A.aB :: A.xs
def readF (aL aM aF aB : Addr) : List (Str × V) := putF "blocks" (.ref aB) (putF "found" (.ref aF) (putF "meanings" (.ref aM) (putF "lines" (.ref aL) [])))
def datO : HO → Bool
  | .lst _ => true
  | .tup _ => true
  | .frz _ _ => true
  | _ => false
/-- lists and tuples outside of three lists -/
def outD (A : RA) (H : Hp) : Hp := fun b => if b = A.aL ∨ b = A.aF ∨ b = A.aB then none else match H b with
  | some o => if datO o = true then some o else none
  | none => none
theorem outD_some {A : RA} {H : Hp} {b : Addr} {o : HO} : outD A H b = some o ↔ (b ≠ A.aL ∧ b ≠ A.aF ∧ b ≠ A.aB) ∧ H b = some o ∧ datO o = true := by
  unfold outD
  by_cases h : b = A.aL ∨ b = A.aF ∨ b = A.aB
  · rw [if_pos h]
    constructor
    · exact fun z => nomatch z
    · rintro ⟨⟨h1, h2, h3⟩, _⟩
      rcases h with h | h | h
      · exact absurd h h1
      · exact absurd h h2
      · exact absurd h h3
  · rw [if_neg h]
    have h' : b ≠ A.aL ∧ b ≠ A.aF ∧ b ≠ A.aB := ⟨fun z => h (.inl z), fun z => h (.inr (.inl z)), fun z => h (.inr (.inr z))⟩
    cases e : H b with
    | none => simp
    | some o2 =>
      cases d : datO o2 with
      | false => simp only [d]; constructor
                 · exact fun z => nomatch z
                 · rintro ⟨_, e, d'⟩
                   cases e
                   rw [d] at d'
                   cases d'
      | true =>
        simp only [d, if_true]
        constructor
        · intro e
          cases e
          exact ⟨h', rfl, d⟩
        · exact fun z => z.2.1
def LnAt (K : PySem.W.Frag) (C : Addr) (H V : Hp) (x : Addr) (l : LnS) : Prop := ∃ (dx : Addr) (tv : L2.V), H x = some (.ins C dx (l.f tv)) ∧ CodeAt K V tv l.z.code
def FdAt (H : Hp) (a : Addr) (p : Nat × Str) : Prop := H a = some (.tup [.int (p.1 : Nat), .str p.2])
def bkLine (xs : List Addr) : Option Nat → V
  | none => .non
  | some i => .ref (xs[i]?.getD 0)
def BkAt (CB : Addr) (H : Hp) (xs : List Addr) (b : Addr) (k : Bk) : Prop := ∃ bx : Addr, H b = some (.ins CB bx (blockF (bkLine xs k.line) (oV k.var) (oV k.own) (.bl k.lo)))
structure RdAt (K : PySem.W.Frag) (C CB CR : Addr) (H : Hp) (A : RA) (S : RS) : Prop where
  r : H A.r = some (.ins CR A.dx (readF A.aL A.aM A.aF A.aB))
  L : H A.aL = some (.lst (A.xs.map V.ref))
  M : H A.aM = some (.dK (mKV S.mean))
  F : H A.aF = some (.lst (A.fs.map V.ref))
  B : H A.aB = some (.lst (A.bs.map V.ref))
  LF : A.aL ≠ A.aF
  LB : A.aL ≠ A.aB
  FB : A.aF ≠ A.aB
  nd : A.xs.Nodup
  lines : All2 (LnAt K C H (outD A H)) A.xs S.lines
  found : All2 (FdAt H) A.fs S.found
  blocks : All2 (BkAt CB H A.xs) A.bs S.blocks
/-- from a heap to another one: what is not its own stays -/
structure Ext (A : RA) (H : Hp) (A' : RA) (H' : Hp) : Prop where
  keep : ∀ b o, b ∉ A.own → H b = some o → H' b = some o
  grow : ∀ b, H' b = none → H b = none
  own : ∀ b, b ∈ A'.own → b ∈ A.own ∨ H b = none
theorem Ext.trans {A A' A2 : RA} {H H' H2 : Hp} (h : Ext A H A' H') (g : Ext A' H' A2 H2) : Ext A H A2 H2 := by
  refine ⟨fun b o nb e => g.keep b o (fun z => ?_) (h.keep b o nb e), fun b e => h.grow b (g.grow b e), fun b hb => ?_⟩
  · rcases h.own b z with y | y
    · exact nb y
    · rw [e] at y
      cases y
  · rcases g.own b hb with y | y
    · exact h.own b y
    · exact .inr (h.grow b y)
theorem Ext.same {A : RA} {H H' : Hp} (s : Same H H') : Ext A H A H' := ⟨fun b o _ e => s b o e, fun b e => s.free e, fun b h => .inl h⟩
theorem Ext.refl {A : RA} {H : Hp} : Ext A H A H := Ext.same fun _ _ e => e
theorem outD_same {A : RA} {H H' : Hp} (s : Same H H') : Same (outD A H) (outD A H') := fun b o e => by
  rw [outD_some] at e ⊢
  exact ⟨e.1, s _ _ e.2.1, e.2.2⟩
theorem RdAt.same {K : PySem.W.Frag} {C CB CR : Addr} {H H' : Hp} {A : RA} {S : RS} (s : Same H H') (h : RdAt K C CB CR H A S) : RdAt K C CB CR H' A S :=
  ⟨s _ _ h.r, s _ _ h.L, s _ _ h.M, s _ _ h.F, s _ _ h.B, h.LF, h.LB, h.FB, h.nd, h.lines.imp fun a b ⟨dx, tv, e, c⟩ => ⟨dx, tv, s _ _ e, c.same (outD_same s)⟩, h.found.imp fun a b e => s _ _ e, h.blocks.imp fun a b ⟨bx, e⟩ => ⟨bx, s _ _ e⟩⟩
/-- unlike things stand at unlike places -/
theorem ne_kind {H : Hp} {a b : Addr} {o o' : HO} (h : H a = some o) (g : H b = some o') (ne : o ≠ o') : a ≠ b := fun z => by
  rw [z, g] at h
  exact ne (Option.some.inj h).symm
theorem ins_ne_lst {C dx : Addr} {fs : List (Str × V)} {xs : List V} : HO.ins C dx fs ≠ HO.lst xs := fun z => nomatch z
theorem mem_x {K : PySem.W.Frag} {C CB CR : Addr} {H : Hp} {A : RA} {S : RS} (h : RdAt K C CB CR H A S) {x : Addr} (hx : x ∈ A.xs) : ∃ l dx tv, l ∈ S.lines ∧ H x = some (.ins C dx (LnS.f l tv)) := by
  obtain ⟨i, hi⟩ := List.mem_iff_getElem?.mp hx
  have il := (List.getElem?_eq_some_iff.mp hi).1
  rw [h.lines.length] at il
  have hl : S.lines[i]? = some S.lines[i] := List.getElem?_eq_getElem il
  obtain ⟨dx, tv, e, _⟩ := h.lines.get hi hl
  exact ⟨_, dx, tv, List.mem_of_getElem? hl, e⟩
/-- fields tell lines, blocks and readings apart -/
def fldN (fs : List (Str × V)) : Option Str := fs.head?.map (·.1)
theorem fld_line (l : LnS) (tv : V) : fldN (l.f tv) = some "deed" := rfl
theorem fld_block (ln va ow lo : V) : fldN (blockF ln va ow lo) = some "line" := rfl
theorem fld_read (a b c d : Addr) : fldN (readF a b c d) = some "lines" := rfl
theorem ne_fld {H : Hp} {a b C C' dx dx' : Addr} {fs fs' : List (Str × V)} {s s' : Str} (h : H a = some (.ins C dx fs)) (g : H b = some (.ins C' dx' fs')) (e : fldN fs = some s) (e' : fldN fs' = some s') (ne : s ≠ s') : a ≠ b := ne_kind h g fun z => by
  injection z with _ _ z
  rw [z, e'] at e
  exact ne (Option.some.inj e).symm
/-- a step of a test stays where what is its own may change -/
theorem Ext.sqt {K : PySem.W.Frag} {C CB CR : Addr} {G G2 : Hp} {A B : RA} {S : RS} (h : RdAt K C CB CR G A S) (E : Ext A G B G2) {a : Addr} {xs : List V} (s : SqT K G a xs) : SqT K (outD B G2) a xs := by
  have out : ∀ o, G a = some o → (∀ C d f, o ≠ .ins C d f) → (∀ l, o ≠ .lst l) → (∀ k, o ≠ .dK k) → a ∉ A.own ∧ a ∉ B.own := fun o e i1 i2 i3 => by
    have nA : a ∉ A.own := fun z => by
      rcases List.mem_cons.mp z with y | z
      · exact ne_kind e h.r (i1 _ _ _) y
      rcases List.mem_cons.mp z with y | z
      · exact ne_kind e h.L (i2 _) y
      rcases List.mem_cons.mp z with y | z
      · exact ne_kind e h.M (i3 _) y
      rcases List.mem_cons.mp z with y | z
      · exact ne_kind e h.F (i2 _) y
      rcases List.mem_cons.mp z with y | z
      · exact ne_kind e h.B (i2 _) y
      · obtain ⟨l, dx, tv, _, e2⟩ := mem_x h z
        exact ne_kind e e2 (i1 _ _ _) rfl
    exact ⟨nA, fun z => (E.own a z).elim nA fun y => by rw [y] at e; cases e⟩
  have ne : ∀ o, G a = some o → a ∉ B.own → a ≠ B.aL ∧ a ≠ B.aF ∧ a ≠ B.aB := fun o e nB => ⟨fun z => nB (by rw [z]; simp [RA.own]), fun z => nB (by rw [z]; simp [RA.own]), fun z => nB (by rw [z]; simp [RA.own])⟩
  rcases s with (s | ⟨u, s⟩) | s
  · obtain ⟨nA, nB⟩ := out _ s (fun _ _ _ z => nomatch z) (fun _ z => nomatch z) (fun _ z => nomatch z)
    exact .inl (.inl (outD_some.mpr ⟨ne _ s nB, E.keep a _ nA s, rfl⟩))
  · obtain ⟨nA, nB⟩ := out _ s (fun _ _ _ z => nomatch z) (fun _ z => nomatch z) (fun _ z => nomatch z)
    exact .inl (.inr ⟨u, outD_some.mpr ⟨ne _ s nB, E.keep a _ nA s, rfl⟩⟩)
  · exact .inr s
theorem Ext.code {K : PySem.W.Frag} {C CB CR : Addr} {H G G2 : Hp} {A B : RA} {S : RS} (h0 : ∀ b, H b = none → b ∉ A.own) (h : RdAt K C CB CR G A S) (E : Ext A G B G2) {v : V} {c : Option Code} (nw : CodeNew H v) (s : CodeAt K G v c) : CodeAt K (outD B G2) v c := by
  cases c with
  | none => exact s
  | some c =>
    obtain ⟨a, vs, rfl, h1, h2⟩ := s
    have nA := h0 a (nw a rfl)
    have nB : a ∉ B.own := fun z => (E.own a z).elim nA fun y => by rw [y] at h1; cases h1
    refine ⟨a, vs, rfl, outD_some.mpr ⟨⟨fun z => nB (by rw [z]; simp [RA.own]), fun z => nB (by rw [z]; simp [RA.own]), fun z => nB (by rw [z]; simp [RA.own])⟩, E.keep a _ nA h1, rfl⟩, h2.imp fun x p ⟨b, u, e, g1, g2⟩ => ⟨b, u, e, E.sqt h g1, ?_⟩⟩
    have more : ∀ {u : V} {m : More}, MoreAt K G u m → MoreAt K (outD B G2) u m := fun {u m} g => by
      cases m with
      | non => exact g
      | word _ => exact g
      | num _ => exact g
      | three _ _ _ =>
        obtain ⟨b, e, g⟩ := g
        exact ⟨b, e, E.sqt h g⟩
    exact more g2
end TX
namespace TX
open PySem PySem.Spec PyProof.Rows L2 KTD
/-! ### a reading: its beginning, its questions -/
def openW : List Str := ["def", "for", "if", "else"]
def RS.init : RS := ⟨[], [], [], [⟨none, none, none, false⟩]⟩
def isWhole (S : RS) : Bool := match S.lines.getLast? with
  | some l => !decide (l.z.deed ∈ openW)
  | none => false
def mayStand (S : RS) (n : Nat) : Bool := decide (n = 2 * S.blocks.length - 2) || (decide (n < 2 * S.blocks.length - 2) && (decide (n % 2 = 0) && isWhole S))
def endsChoice (S : RS) (d : Nat) : Bool := decide (d < S.blocks.length - 1) && (match S.blocks[d + 1]? with
  | some b => (match b.line with
    | some i => (match S.lines[i]? with
      | some l => decide (l.z.deed = "if")
      | none => false)
    | none => false)
  | none => false)
structure RdC (K : PySem.W.Frag) (C : Addr) : Prop where
  cl : Cls K C
  na : ∀ f ∈ (["lines", "meanings", "found", "blocks"] : List Str), NoAttr K C f
def spRdInit (K : PySem.W.Frag) (C CB CR : Addr) : Sp := fun vs H Q _ => ∃ x dx : Addr, vs = [.ref x] ∧ H x = some (.ins CR dx []) ∧
  ∀ (H' : Hp) (A : RA), A.r = x → A.xs = [] → RdAt K C CB CR H' A RS.init → (∀ b o, b ≠ x → H b = some o → H' b = some o) → (∀ b, H' b = none → H b = none) → (∀ b ∈ A.own, b = x ∨ H b = none) → Q .non H'
def spWhole (K : PySem.W.Frag) (C CB CR : Addr) : Sp := fun vs H Q _ => ∃ (A : RA) (S : RS), vs = [.ref A.r] ∧ RdAt K C CB CR H A S ∧ S.lines ≠ [] ∧ Q (.bl (isWhole S)) H
def spMay (K : PySem.W.Frag) (C CB CR : Addr) : Sp := fun vs H Q _ => ∃ (A : RA) (S : RS) (n : Nat), vs = [.ref A.r, .int (n : Nat)] ∧ RdAt K C CB CR H A S ∧ (1 < S.blocks.length → S.lines ≠ []) ∧ 1 ≤ S.blocks.length ∧ Q (.bl (mayStand S n)) H
def spEnds (K : PySem.W.Frag) (C CB CR : Addr) : Sp := fun vs H Q _ => ∃ (A : RA) (S : RS) (d : Nat), vs = [.ref A.r, .int (d : Nat)] ∧ RdAt K C CB CR H A S ∧ (∀ b, S.blocks[d + 1]? = some b → ∃ i, b.line = some i ∧ i < S.lines.length) ∧ 1 ≤ S.blocks.length ∧ Q (.bl (endsChoice S d)) H
section
variable {P : Program} {w : World} {K : PySem.W.Frag} {mg : Str → Option Value} {base : Heap} {C CB CR : Addr}
theorem scRdInit : FnScope ["self"] ["self"] (defScope mReading_init) := ⟨rfl, rfl, rfl, by decide +kernel, rfl, by decide +kernel, by decide +kernel⟩
theorem ok_rdInit {f fB : Addr} {fd dB : FuncData} (F : Fun K "__init__" "Reading.__init__" mReading_init f fd) (R : RdC K CR) (B : BkM K mg CB fB dB) (GB : FnOk P w K mg base CX0 1 fB dB ["self", "line", "variable", "own", "looped"] (spBlock K CB)) : FnOk P w K mg base CX0 3 f fd ["self"] (spRdInit K C CB CR) := by
  refine F.ok scRdInit (fun vs H Q E h => ?_) (fun cdv A outer s H vs Q E hr h => ?_)
  · obtain ⟨x, dx, rfl, _⟩ := h
    rfl
  · obtain ⟨x, dx, rfl, hx, q⟩ := h
    have r2 : Room 2 _ := hr.mono (by decide)
    have na : ∀ {f : Str}, f ∈ (["lines", "meanings", "found", "blocks"] : List Str) → NoAttr K CR f := fun h => R.na _ h
    refine ⟨_, pss_cons (ps_fld (pv 0) (pe_lst pa_nil) rfl) <| pss_cons (ps_fld (pv 0) pe_dnewK rfl) <| pss_cons (ps_fld (pv 0) (pe_lst pa_nil) rfl) <|
      pss_one (ps_fld (pv 0) (pe_lst (pa_cons (pe_make (dvs := []) B.M GB r2 (by rfl) B.mgC B.b0 .nil pass0 (pa_cons pe_non (pa_cons pe_non (pa_cons pe_non (pa_cons pe_bl pa_nil))))) pa_nil)) rfl), ?_⟩
    refine ⟨(by decide), fun aL nL => ⟨_, rfl, x, CR, dx, _, rfl, by rw [upd_ne (ne_of_none hx nL)]; exact hx, R.cl, na (by decide +kernel), (by show 0 < 1000; decide), ?_⟩⟩
    have xL : x ≠ aL := ne_of_none hx nL
    have e1 : (upd (upd H aL (.lst [])) x (.ins CR dx (putF "lines" (.ref aL) []))) x = some (.ins CR dx (putF "lines" (.ref aL) [])) := upd_same
    have l1 : (upd (upd H aL (.lst [])) x (.ins CR dx (putF "lines" (.ref aL) []))) aL = some (.lst []) := by rw [upd_ne xL.symm, upd_same]
    have k1 : ∀ b o, b ≠ x → H b = some o → (upd (upd H aL (.lst [])) x (.ins CR dx (putF "lines" (.ref aL) []))) b = some o := fun b o hb e => by
      rw [upd_ne hb, upd_ne (ne_of_none e nL)]
      exact e
    have n1 : ∀ b, (upd (upd H aL (.lst [])) x (.ins CR dx (putF "lines" (.ref aL) []))) b = none → H b = none := fun b e => by
      by_cases hb : b = x
      · rw [hb, e1] at e
        cases e
      · by_cases hc : b = aL
        · rw [hc, l1] at e
          cases e
        · rw [upd_ne hb, upd_ne hc] at e
          exact e
    generalize upd (upd H aL (.lst [])) x (.ins CR dx (putF "lines" (.ref aL) [])) = H1 at e1 l1 k1 n1 ⊢
    refine fun aM nM => ⟨_, rfl, x, CR, dx, _, rfl, by rw [upd_ne (ne_of_none e1 nM)]; exact e1, R.cl, na (by decide +kernel), (by show 1 < 1000; decide), ?_⟩
    have xM : x ≠ aM := ne_of_none e1 nM
    have LM : aL ≠ aM := ne_of_none l1 nM
    have e2 : (upd (upd H1 aM (.dK [])) x (.ins CR dx (putF "meanings" (.ref aM) (putF "lines" (.ref aL) [])))) x = some (.ins CR dx (putF "meanings" (.ref aM) (putF "lines" (.ref aL) []))) := upd_same
    have m2 : (upd (upd H1 aM (.dK [])) x (.ins CR dx (putF "meanings" (.ref aM) (putF "lines" (.ref aL) [])))) aM = some (.dK []) := by rw [upd_ne xM.symm, upd_same]
    have l2 : (upd (upd H1 aM (.dK [])) x (.ins CR dx (putF "meanings" (.ref aM) (putF "lines" (.ref aL) [])))) aL = some (.lst []) := by rw [upd_ne xL.symm, upd_ne LM, l1]
    have k2 : ∀ b o, b ≠ x → H b = some o → (upd (upd H1 aM (.dK [])) x (.ins CR dx (putF "meanings" (.ref aM) (putF "lines" (.ref aL) [])))) b = some o := fun b o hb e => by
      rw [upd_ne hb, upd_ne (ne_of_none (k1 b o hb e) nM)]
      exact k1 b o hb e
    have n2 : ∀ b, (upd (upd H1 aM (.dK [])) x (.ins CR dx (putF "meanings" (.ref aM) (putF "lines" (.ref aL) [])))) b = none → H b = none := fun b e => by
      by_cases hb : b = x
      · rw [hb, e2] at e
        cases e
      · by_cases hc : b = aM
        · rw [hc, m2] at e
          cases e
        · rw [upd_ne hb, upd_ne hc] at e
          exact n1 b e
    have nM0 := n1 _ nM
    generalize upd (upd H1 aM (.dK [])) x (.ins CR dx (putF "meanings" (.ref aM) (putF "lines" (.ref aL) []))) = H2 at e2 m2 l2 k2 n2 ⊢
    refine ⟨(by decide), fun aF nF => ⟨_, rfl, x, CR, dx, _, rfl, by rw [upd_ne (ne_of_none e2 nF)]; exact e2, R.cl, na (by decide +kernel), (by show 2 < 1000; decide), ?_⟩⟩
    have xF : x ≠ aF := ne_of_none e2 nF
    have LF : aL ≠ aF := ne_of_none l2 nF
    have MF : aM ≠ aF := ne_of_none m2 nF
    have e3 : (upd (upd H2 aF (.lst [])) x (.ins CR dx (putF "found" (.ref aF) (putF "meanings" (.ref aM) (putF "lines" (.ref aL) []))))) x = some (.ins CR dx (putF "found" (.ref aF) (putF "meanings" (.ref aM) (putF "lines" (.ref aL) [])))) := upd_same
    have f3 : (upd (upd H2 aF (.lst [])) x (.ins CR dx (putF "found" (.ref aF) (putF "meanings" (.ref aM) (putF "lines" (.ref aL) []))))) aF = some (.lst []) := by rw [upd_ne xF.symm, upd_same]
    have m3 : (upd (upd H2 aF (.lst [])) x (.ins CR dx (putF "found" (.ref aF) (putF "meanings" (.ref aM) (putF "lines" (.ref aL) []))))) aM = some (.dK []) := by rw [upd_ne xM.symm, upd_ne MF, m2]
    have l3 : (upd (upd H2 aF (.lst [])) x (.ins CR dx (putF "found" (.ref aF) (putF "meanings" (.ref aM) (putF "lines" (.ref aL) []))))) aL = some (.lst []) := by rw [upd_ne xL.symm, upd_ne LF, l2]
    have k3 : ∀ b o, b ≠ x → H b = some o → (upd (upd H2 aF (.lst [])) x (.ins CR dx (putF "found" (.ref aF) (putF "meanings" (.ref aM) (putF "lines" (.ref aL) []))))) b = some o := fun b o hb e => by
      rw [upd_ne hb, upd_ne (ne_of_none (k2 b o hb e) nF)]
      exact k2 b o hb e
    have n3 : ∀ b, (upd (upd H2 aF (.lst [])) x (.ins CR dx (putF "found" (.ref aF) (putF "meanings" (.ref aM) (putF "lines" (.ref aL) []))))) b = none → H b = none := fun b e => by
      by_cases hb : b = x
      · rw [hb, e3] at e
        cases e
      · by_cases hc : b = aF
        · rw [hc, f3] at e
          cases e
        · rw [upd_ne hb, upd_ne hc] at e
          exact n2 b e
    have nF0 := n2 _ nF
    generalize upd (upd H2 aF (.lst [])) x (.ins CR dx (putF "found" (.ref aF) (putF "meanings" (.ref aM) (putF "lines" (.ref aL) [])))) = H3 at e3 f3 m3 l3 k3 n3 ⊢
    dsimp only [tNil, List.nil_append, List.append_nil, List.cons_append]
    refine fun y dy ny ndy hne => ⟨y, dy, .non, .non, .non, .bl false, rfl, upd_same, rfl, ?_⟩
    have s4 : Same H3 (upd (upd (upd H3 dy (.own y)) y (.ins CB dy [])) y (.ins CB dy (blockF .non .non .non (.bl false)))) := same_fresh ny (same_fresh ny (same_upd ndy))
    have b4 : (upd (upd (upd H3 dy (.own y)) y (.ins CB dy [])) y (.ins CB dy (blockF .non .non .non (.bl false)))) y = some (.ins CB dy (blockF .non .non .non (.bl false))) := upd_same
    generalize upd (upd (upd H3 dy (.own y)) y (.ins CB dy [])) y (.ins CB dy (blockF .non .non .non (.bl false))) = H4 at s4 b4 ⊢
    refine ⟨(by show 1 ≤ sizeLine; decide), fun aB nB => ⟨_, rfl, x, CR, dx, _, rfl, by rw [upd_ne (ne_of_none (s4 _ _ e3) nB)]; exact s4 _ _ e3, R.cl, na (by decide +kernel), (by show 3 < 1000; decide), ?_⟩⟩
    have s5 := s4.trans (same_upd (o := .lst [.ref y]) nB)
    have xB := ne_of_none (s4 _ _ e3) nB
    have FB := ne_of_none (s4 _ _ f3) nB
    have LB := ne_of_none (s4 _ _ l3) nB
    have xy : x ≠ y := ne_of_none e3 ny
    have yB := ne_of_none b4 nB
    have nB0 := n3 _ (s4.free nB)
    refine q _ ⟨x, dx, aL, aM, aF, aB, [], [], [y]⟩ rfl rfl ?_ ?_ ?_ ?_
    · refine ⟨upd_same, ?_, ?_, ?_, ?_, LF, LB, FB, List.nodup_nil, .nil, .nil, .cons ⟨dy, ?_⟩ .nil⟩
      · rw [upd_ne xL.symm]
        exact s5 _ _ l3
      · rw [upd_ne xM.symm]
        exact s5 _ _ m3
      · rw [upd_ne xF.symm]
        exact s5 _ _ f3
      · rw [upd_ne xB.symm, upd_same]
        rfl
      · rw [upd_ne xy.symm, upd_ne yB, b4]
        rfl
    · intro b o hb e
      rw [upd_ne hb]
      exact s5 _ _ (k3 b o hb e)
    · intro b e
      by_cases hb : b = x
      · rw [hb, upd_same] at e
        cases e
      · rw [upd_ne hb] at e
        exact n3 b (s5.free e)
    · intro b hb
      rcases List.mem_cons.mp hb with e | hb
      · exact .inl e
      rcases List.mem_cons.mp hb with e | hb
      · exact .inr (by rw [e]; exact nL)
      rcases List.mem_cons.mp hb with e | hb
      · exact .inr (by rw [e]; exact nM0)
      rcases List.mem_cons.mp hb with e | hb
      · exact .inr (by rw [e]; exact nF0)
      rcases List.mem_cons.mp hb with e | hb
      · exact .inr (by rw [e]; exact nB0)
      · cases hb
end
end TX
namespace TX
open PySem PySem.Spec PyProof.Rows L2 KTD
theorem lines_get (A : RA) : (readF A.aL A.aM A.aF A.aB).lookup ("lines" : Str) = some (V.ref A.aL) := rfl
theorem blocks_get (A : RA) : (readF A.aL A.aM A.aF A.aB).lookup ("blocks" : Str) = some (V.ref A.aB) := rfl
theorem atI_end {xs : List V} {v : V} (h : xs.getLast? = some v) : atI xs (-1) = some v := by
  have hl : 0 < xs.length := by
    cases xs with
    | nil => cases h
    | cons a r => exact Nat.succ_pos _
  unfold atI ixN
  rw [if_neg (by omega), if_pos (by omega)]
  rw [List.getLast?_eq_getElem?] at h
  have e : ((xs.length : Int) + -1).toNat = xs.length - 1 := by omega
  first
    | (show xs[((xs.length : Int) + -1).toNat]? = _; rw [e]; exact h)
    | (simp [e]; exact h)
theorem last_at {K : PySem.W.Frag} {C CB CR : Addr} {H : Hp} {A : RA} {S : RS} (h : RdAt K C CB CR H A S) {l : LnS} (e : S.lines.getLast? = some l) : ∃ x dx tv, (A.xs.map V.ref).getLast? = some (.ref x) ∧ H x = some (.ins C dx (l.f tv)) := by
  rw [List.getLast?_eq_getElem?] at e
  obtain ⟨x, hx, dx, tv, hl, _⟩ := h.lines.right e
  refine ⟨x, dx, tv, ?_, hl⟩
  rw [List.getLast?_eq_getElem?, List.length_map, h.lines.length, List.getElem?_map, hx]
  rfl
section
variable {P : Program} {w : World} {K : PySem.W.Frag} {mg : Str → Option Value} {base : Heap} {C CB CR : Addr}
theorem scWhole : FnScope ["self"] ["self"] (defScope mReading_is_whole) := ⟨rfl, rfl, rfl, by decide +kernel, rfl, by decide +kernel, by decide +kernel⟩
theorem ok_whole {f aO : Addr} {fd : FuncData} (F : Fun K "is_whole" "Reading.is_whole" mReading_is_whole f fd) (R : RdC K CR) (LT : LnC K C) (gO : mg "OPENERS" = some (.ref aO)) (TO : ∀ H, SqT K H aO (openW.map V.str)) : FnOk P w K mg base CX0 1 f fd ["self"] (spWhole K C CB CR) := by
  refine F.ok scWhole (fun vs H Q E h => ?_) (fun cdv A outer s H vs Q E hr h => ?_)
  · obtain ⟨A, S, rfl, _⟩ := h
    rfl
  · obtain ⟨A, S, rfl, h, ne, q⟩ := h
    refine ⟨_, pss_one (ps_ret (pe_cmpR op_notIn_seq (pe_fld (pe_ix ix_list (pe_fld (pv 0) rfl) (pe_un un_neg pe_int) (fun _ _ => rfl)) rfl) (pe_glob (v := .ref aO) (by rfl) gO rfl) (by rfl))), ?_⟩
    cases e : S.lines.getLast? with
    | none => exact absurd (List.getLast?_eq_none_iff.mp e) ne
    | some l =>
      obtain ⟨x, dx, tv, ex, hx⟩ := last_at h e
      refine ⟨_, rfl, A.r, CR, A.dx, _, _, rfl, h.r, R.cl, R.na _ (by decide +kernel), lines_get A, _, rfl, A.aL, _, _, _, rfl, rfl, SqL.of h.L, atI_end ex, x, C, dx, _, _, rfl, hx, LT.cl, LT.na _ (by decide +kernel), rfl, aO, openW.map V.str, rfl, .inr (TO H), rfl, flat_texts _, ?_⟩
      unfold isWhole at q
      rw [e] at q
      rw [inV_texts]
      exact q
theorem scMay : FnScope ["self", "spaces", "inmost"] ["self", "spaces"] (defScope mReading_may_stand) := ⟨rfl, rfl, rfl, by decide +kernel, rfl, by decide +kernel, by decide +kernel⟩
theorem ok_may {f fW : Addr} {fd dW : FuncData} (F : Fun K "may_stand" "Reading.may_stand" mReading_may_stand f fd) (len : mg "len" = none) (R : RdC K CR) (mW : Meth K CR "is_whole" fW) (GW : FnOk P w K mg base CX0 1 fW dW ["self"] (spWhole K C CB CR)) (bW : Binds K dW ["self"] []) : FnOk P w K mg base CX0 2 f fd ["self", "spaces"] (spMay K C CB CR) := by
  refine F.ok scMay (fun vs H Q E h => ?_) (fun cdv A outer s H vs Q E hr h => ?_)
  · obtain ⟨A, S, n, rfl, _⟩ := h
    rfl
  · obtain ⟨A, S, n, rfl, h, hl, hb, q⟩ := h
    have r1 : Room 1 _ := hr.mono (by decide)
    refine ⟨_, pss_cons (ps_set (i := 2) scMay.nd rfl (.inl rfl) (pe_op op_sub (pe_op op_mul pe_int (pe_callB call_len_seq (by rfl) len PySem.boot_len (pa_cons (pe_fld (pv 0) rfl) pa_nil))) pe_int)) <|
      pss_one (ps_ret (pe_or (pe_cmpR op_eq (pv 1) (pv 2) (nomark _)) (pe_one (pe_and (pe_cmpR op_lt (pv 1) (pv 2) (nomark _)) (pe_and (pe_cmpR op_eq (pe_op op_and (pv 1) pe_int) pe_int (nomark _)) (pe_one (pe_meth0 (pv 0) R.cl mW GW r1 bW .nil pass0))))))), ?_⟩
    have bl := h.blocks.length
    refine ⟨_, rfl, A.r, CR, A.dx, _, _, rfl, h.r, R.cl, R.na _ (by decide +kernel), blocks_get A, A.aB, _, rfl, .inl (SqL.of h.B), _, _, rfl, rfl, .inl ⟨by decide, by decide⟩, _, _, rfl, rfl, ?_⟩
    rw [List.length_map, bl]
    refine ⟨_, rfl, _, rfl, rfl, _, rfl, ?_⟩
    have e1 : decide (V.int (n : Nat) = V.int (2 * ((S.blocks.length : Nat) : Int) - 2)) = decide (n = 2 * S.blocks.length - 2) := decide_eq_decide.mpr ⟨fun z => by
      have z := V.int.inj z
      omega, fun z => by
      rw [z]
      congr 1
      omega⟩
    rw [e1]
    unfold mayStand at q
    by_cases h1 : n = 2 * S.blocks.length - 2
    · rw [decide_eq_true h1] at q ⊢
      exact iteT q
    rw [decide_eq_false h1] at q ⊢
    refine iteF ⟨_, rfl, _, rfl, _, _, rfl, rfl, _, rfl, ?_⟩
    have e2 : decide ((n : Int) < 2 * ((S.blocks.length : Nat) : Int) - 2) = decide (n < 2 * S.blocks.length - 2) := decide_eq_decide.mpr ⟨fun z => by omega, fun z => by omega⟩
    rw [e2]
    by_cases h2 : n < 2 * S.blocks.length - 2
    · rw [decide_eq_true h2] at q ⊢
      refine iteT ⟨_, rfl, _, _, rfl, rfl, rfl, _, rfl, ?_⟩
      have e3 : decide (V.int (Builtin.bitAnd (n : Nat) 1) = V.int 0) = decide (n % 2 = 0) := by
        rw [bitAnd_m1]
        exact decide_eq_decide.mpr ⟨fun z => by
          have z := V.int.inj z
          omega, fun z => by
          congr 1
          omega⟩
      rw [e3]
      by_cases h3 : n % 2 = 0
      · rw [decide_eq_true h3] at q ⊢
        exact iteT ⟨_, rfl, A.r, A.dx, _, rfl, h.r, rfl, A, S, rfl, h, hl (by omega), q⟩
      · rw [decide_eq_false h3] at q ⊢
        exact iteF q
    · rw [decide_eq_false h2] at q ⊢
      exact iteF q
theorem scEnds : FnScope ["self", "depth"] ["self", "depth"] (defScope mReading_ends_choice) := ⟨rfl, rfl, rfl, by decide +kernel, rfl, by decide +kernel, by decide +kernel⟩
theorem ok_ends {f : Addr} {fd : FuncData} (F : Fun K "ends_choice" "Reading.ends_choice" mReading_ends_choice f fd) (len : mg "len" = none) (R : RdC K CR) (LT : LnC K C) (BT : BkC K CB) : FnOk P w K mg base CX0 1 f fd ["self", "depth"] (spEnds K C CB CR) := by
  refine F.ok scEnds (fun vs H Q E h => ?_) (fun cdv A outer s H vs Q E hr h => ?_)
  · obtain ⟨A, S, d, rfl, _⟩ := h
    rfl
  · obtain ⟨A, S, d, rfl, h, hi, hb, q⟩ := h
    refine ⟨_, pss_one (ps_ret (pe_and (pe_cmpR op_lt (pv 1) (pe_op op_sub (pe_callB call_len_seq (by rfl) len PySem.boot_len (pa_cons (pe_fld (pv 0) rfl) pa_nil)) pe_int) (nomark _)) (pe_one (pe_cmpR op_eq (pe_fld (pe_fld (pe_ix ix_list (pe_fld (pv 0) rfl) (pe_op op_add (pv 1) pe_int) (fun _ _ => rfl)) rfl) rfl) pe_str (nomark _))))), ?_⟩
    have bl := h.blocks.length
    refine ⟨_, rfl, _, rfl, A.r, CR, A.dx, _, _, rfl, h.r, R.cl, R.na _ (by decide +kernel), blocks_get A, A.aB, _, rfl, .inl (SqL.of h.B), _, _, rfl, rfl, _, _, rfl, rfl, _, rfl, ?_⟩
    rw [List.length_map, bl]
    have e2 : decide ((d : Int) < ((S.blocks.length : Nat) : Int) - 1) = decide (d < S.blocks.length - 1) := decide_eq_decide.mpr ⟨fun z => by omega, fun z => by omega⟩
    rw [e2]
    unfold endsChoice at q
    by_cases h1 : d < S.blocks.length - 1
    · rw [decide_eq_true h1] at q ⊢
      have hk : S.blocks[d + 1]? = some S.blocks[d + 1] := List.getElem?_eq_getElem (by omega)
      obtain ⟨i, ei, il⟩ := hi _ hk
      obtain ⟨b, hb2, bx, hbk⟩ := h.blocks.right hk
      have hl : S.lines[i]? = some S.lines[i] := List.getElem?_eq_getElem il
      obtain ⟨x, hx, dx, tv, hln, _⟩ := h.lines.right hl
      rw [ei] at hbk
      have ebl : bkLine A.xs (some i) = .ref x := by
        show V.ref (A.xs[i]?.getD 0) = _
        rw [hx]
        rfl
      rw [ebl] at hbk
      refine iteT ⟨_, rfl, A.r, CR, A.dx, _, _, rfl, h.r, R.cl, R.na _ (by decide +kernel), blocks_get A, _, rfl, _, _, rfl, rfl, A.aB, _, _, _, rfl, rfl, SqL.of h.B, atI_nat (j := d + 1) (by rw [List.getElem?_map, hb2]; rfl), b, CB, bx, _, _, rfl, hbk, BT.cl, BT.na _ (by decide +kernel), rfl, x, C, dx, _, _, rfl, hln, LT.cl, LT.na _ (by decide +kernel), rfl, rfl, ?_⟩
      rw [hk] at q
      dsimp only at q
      rw [ei] at q
      dsimp only at q
      rw [hl] at q
      dsimp only at q
      have e4 : decide (V.str (S.lines[i].z.deed) = V.str "if") = decide (S.lines[i].z.deed = "if") := decide_eq_decide.mpr ⟨fun z => V.str.inj z, fun z => congrArg V.str z⟩
      show Q (.bl (decide (V.str (S.lines[i].z.deed) = V.str "if"))) H
      rw [e4]
      exact q
    · rw [decide_eq_false h1] at q ⊢
      exact iteF q
end
end TX
namespace TX
open PySem PySem.Spec PyProof.Rows L2 KTD
/-! ### the end of blocks -/
def updL (ls : List LnS) (o : Option Nat) (f : LnS → LnS) : List LnS := match o with
  | none => ls
  | some i => match ls[i]? with
    | some l => ls.set i (f l)
    | none => ls
def behindL (n : Nat) (ls : List LnS) (k : Bk) : List LnS := updL ls k.line fun l => ⟨l.z, l.num, n, some n⟩
def chosenL (n : Nat) (ls : List LnS) (k : Option Bk) : List LnS := match k with
  | some k => updL ls k.line fun l => ⟨l.z, l.num, l.aft, some (n + 1)⟩
  | none => ls
def closeL (S : RS) (d : Nat) (ch : Bool) : List LnS :=
  if ch = true then chosenL S.lines.length ((S.blocks.drop (d + 1)).foldl (behindL S.lines.length) S.lines) S.blocks[d + 1]? else (S.blocks.drop (d + 1)).foldl (behindL S.lines.length) S.lines
def closeS (S : RS) (d : Nat) (ch : Bool) : RS := ⟨closeL S d ch, S.mean, S.found, S.blocks.take (d + 1)⟩
theorem updL_len (ls : List LnS) (o : Option Nat) (f : LnS → LnS) : (updL ls o f).length = ls.length := by
  unfold updL
  cases o with
  | none => rfl
  | some i =>
    dsimp only
    cases ls[i]? with
    | none => rfl
    | some l => exact List.length_set
theorem foldl_len (n : Nat) : ∀ (ks : List Bk) (ls : List LnS), (ks.foldl (behindL n) ls).length = ls.length
  | [], _ => rfl
  | k :: ks, ls => by
    rw [List.foldl_cons, foldl_len n ks]
    exact updL_len _ _ _
theorem closeL_len (S : RS) (d : Nat) (ch : Bool) : (closeL S d ch).length = S.lines.length := by
  unfold closeL chosenL
  split
  · split
    · rw [updL_len, foldl_len]
    · rw [foldl_len]
  · rw [foldl_len]
theorem RdAt.setLine {K : PySem.W.Frag} {C CB CR : Addr} {H : Hp} {A : RA} {S : RS} (h : RdAt K C CB CR H A S) {i : Nat} {x dx : Addr} {l l' : LnS} {tv : V} (hx : A.xs[i]? = some x) (hl : S.lines[i]? = some l) (e : H x = some (.ins C dx (l.f tv))) (c : CodeAt K (outD A H) tv l.z.code) (hz : l'.z = l.z) :
    RdAt K C CB CR (upd H x (.ins C dx (l'.f tv))) A ⟨S.lines.set i l', S.mean, S.found, S.blocks⟩ ∧ Ext A H A (upd H x (.ins C dx (l'.f tv))) := by
  have hm : x ∈ A.xs := List.mem_of_getElem? hx
  have xo : ∀ {b : Addr} {o : HO}, H b = some o → (∀ C dx fs, o ≠ .ins C dx fs) → b ≠ x := fun h1 h2 => ne_kind h1 e (h2 _ _ _)
  have rx : A.r ≠ x := ne_fld h.r e (fld_read ..) (fld_line ..) (by decide +kernel)
  have sD : Same (outD A H) (outD A (upd H x (.ins C dx (l'.f tv)))) := fun b o q => by
    rw [outD_some] at q ⊢
    refine ⟨q.1, ?_, q.2.2⟩
    rw [upd_ne (xo q.2.1 fun _ _ _ z => by rw [z] at q; exact nomatch q.2.2)]
    exact q.2.1
  refine ⟨⟨?_, ?_, ?_, ?_, ?_, h.LF, h.LB, h.FB, h.nd, ?_, ?_, ?_⟩, ?_, ?_, fun b hb => .inl hb⟩
  · rw [upd_ne rx]
    exact h.r
  · rw [upd_ne (xo h.L fun _ _ _ z => nomatch z)]
    exact h.L
  · rw [upd_ne (xo h.M fun _ _ _ z => nomatch z)]
    exact h.M
  · rw [upd_ne (xo h.F fun _ _ _ z => nomatch z)]
    exact h.F
  · rw [upd_ne (xo h.B fun _ _ _ z => nomatch z)]
    exact h.B
  · refine h.lines.set hx (fun j a b ne h1 h2 ⟨dy, ty, e1, c1⟩ => ⟨dy, ty, ?_, c1.same sD⟩) ⟨dx, tv, upd_same, ?_⟩
    · have : a ≠ x := fun z => ne (by
        subst z
        have j1 := (List.getElem?_eq_some_iff.mp h1)
        have j2 := (List.getElem?_eq_some_iff.mp hx)
        exact (List.getElem_inj h.nd).mp (j1.2.trans j2.2.symm))
      rw [upd_ne this]
      exact e1
    · rw [hz]
      exact c.same sD
  · exact h.found.imp fun a b e1 => by
      unfold FdAt at e1 ⊢
      rw [upd_ne (xo e1 fun _ _ _ z => nomatch z)]
      exact e1
  · exact h.blocks.imp fun a b ⟨bx, e1⟩ => ⟨bx, by
      rw [upd_ne (ne_fld e1 e (fld_block ..) (fld_line ..) (by decide +kernel))]
      exact e1⟩
  · intro b o nb e1
    rw [upd_ne fun z => nb (by rw [z]; exact List.mem_cons_of_mem _ (List.mem_cons_of_mem _ (List.mem_cons_of_mem _ (List.mem_cons_of_mem _ (List.mem_cons_of_mem _ hm)))))]
    exact e1
  · intro b e1
    by_cases hb : b = x
    · rw [hb, upd_same] at e1
      cases e1
    · rw [upd_ne hb] at e1
      exact e1
theorem cut_take {ts : List V} {n : Nat} : cutV ts none (some (n : Int)) = ts.take n := by
  unfold cutV
  rw [HT.sIx_nat, HT.sIx_none]
  first
    | (rw [List.drop_zero]; by_cases h : n ≤ ts.length
       · rw [Nat.min_eq_left h]; rfl
       · rw [Nat.min_eq_right (by omega)]; simp [List.take_of_length_le (show ts.length ≤ n by omega)])
    | simp
def spClose (K : PySem.W.Frag) (C CB CR : Addr) : Sp := fun vs H Q _ => ∃ (A : RA) (S : RS) (d : Nat) (ch : Bool), vs = [.ref A.r, .int (d : Nat), .bl ch] ∧ RdAt K C CB CR H A S ∧ d + 1 ≤ S.blocks.length ∧ (ch = true → d + 1 < S.blocks.length) ∧ (∀ b ∈ S.blocks.drop (d + 1), ∃ i, b.line = some i ∧ i < S.lines.length) ∧
  ∀ (H' : Hp) (A' : RA), RdAt K C CB CR H' A' (closeS S d ch) → A'.r = A.r → A'.xs = A.xs → A'.bs = A.bs.take (d + 1) → A'.dx = A.dx → Ext A H A' H' → Q .non H'
section
variable {P : Program} {w : World} {K : PySem.W.Frag} {mg : Str → Option Value} {base : Heap} {C CB CR : Addr}
theorem scClose : FnScope ["self", "depth", "chosen", "behind", "block"] ["self", "depth", "chosen"] (defScope mReading_close) := ⟨rfl, rfl, rfl, by decide +kernel, rfl, by decide +kernel, by decide +kernel⟩
theorem ok_close {f : Addr} {fd : FuncData} (F : Fun K "close" "Reading.close" mReading_close f fd) (len : mg "len" = none) (R : RdC K CR) (LT : LnC K C) (BT : BkC K CB) : FnOk P w K mg base CX0 1 f fd ["self", "depth", "chosen"] (spClose K C CB CR) := by
  refine F.ok scClose (fun vs H Q E h => ?_) (fun cdv A outer s H vs Q E hr h => ?_)
  · obtain ⟨A, S, d, ch, rfl, _⟩ := h
    rfl
  · obtain ⟨A, S, d, ch, rfl, h, hd, hc, hi, q⟩ := h
    refine ⟨_, pss_cons (ps_set (i := 3) scClose.nd rfl (.inl rfl) (pe_callB call_len_seq (by rfl) len PySem.boot_len (pa_cons (pe_fld (pv 0) rfl) pa_nil))) <|
      pss_cons (ps_for PassesOwn.never rfl (pi_list (pe_slice sl_list (pe_fld (pv 0) rfl) (po_some (pe_op op_add (pv 1) pe_int)) po_none)) (pg_name (i := 4) scClose.nd rfl (.inl rfl)) (pss_cons (ps_fld (pe_fld (pv 4) rfl) (pv 3) rfl) (pss_one (ps_fld (pe_fld (pv 4) rfl) (pv 3) rfl)))) <|
      pss_cons (ps_if (pt_val (pv 2)) (pss_one (ps_fld (pe_fld (pe_ix ix_list (pe_fld (pv 0) rfl) (pe_op op_add (pv 1) pe_int) (fun _ _ => rfl)) rfl) (pe_op op_add (pv 3) pe_int) rfl)) pss_nil) <|
      pss_one (ps_fld (pv 0) (pe_slice sl_list (pe_fld (pv 0) rfl) po_none (po_some (pe_op op_add (pv 1) pe_int))) rfl), ?_⟩
    have nr : ∀ {f : Str}, f ∈ (["lines", "meanings", "found", "blocks"] : List Str) → NoAttr K CR f := fun h => R.na _ h
    have nl : ∀ {f : Str}, f ∈ lineNames → NoAttr K C f := fun h => LT.na _ h
    have nb : ∀ {f : Str}, f ∈ (["line", "variable", "own", "looped"] : List Str) → NoAttr K CB f := fun h => BT.na _ h
    have ll := h.lines.length
    have bl := h.blocks.length
    refine ⟨_, rfl, A.r, CR, A.dx, _, _, rfl, h.r, R.cl, nr (by decide +kernel), lines_get A, A.aL, _, rfl, .inl (SqL.of h.L), ?_⟩
    rw [List.length_map, ll]
    refine ⟨_, rfl, A.r, CR, A.dx, _, _, rfl, h.r, R.cl, nr (by decide +kernel), blocks_get A, _, rfl, _, _, rfl, rfl, _, rfl, A.aB, _, rfl, SqL.of h.B, fun p np => ?_⟩
    rw [show ((d : Nat) : Int) + 1 = ((d + 1 : Nat) : Int) from rfl, cut_drop (by rw [List.length_map, bl]; exact hd), ← List.map_drop]
    have s1 := same_upd (o := .lst ((A.bs.drop (d + 1)).map V.ref)) np
    have e1 := upd_same (H := H) (a := p) (o := .lst ((A.bs.drop (d + 1)).map V.ref))
    have pO : p ∉ A.own := fun z => by
      rcases List.mem_cons.mp z with e | z
      · rw [e, h.r] at np
        cases np
      rcases List.mem_cons.mp z with e | z
      · rw [e, h.L] at np
        cases np
      rcases List.mem_cons.mp z with e | z
      · rw [e, h.M] at np
        cases np
      rcases List.mem_cons.mp z with e | z
      · rw [e, h.F] at np
        cases np
      rcases List.mem_cons.mp z with e | z
      · rw [e, h.B] at np
        cases np
      · obtain ⟨l, dx, tv, _, e⟩ := mem_x h z
        rw [e] at np
        cases np
    generalize upd H p (.lst ((A.bs.drop (d + 1)).map V.ref)) = G at s1 e1 ⊢
    refine ⟨p, rfl, ⟨_, SqL.of e1⟩, ?_⟩
    have dropLen : ∀ {j : Nat} {k : Bk}, (S.blocks.drop (d + 1))[j]? = some k → ∃ b, (A.bs.drop (d + 1))[j]? = some b ∧ ∀ {G' : Hp} {ls : List LnS}, RdAt K C CB CR G' A ⟨ls, S.mean, S.found, S.blocks⟩ → BkAt CB G' A.xs b k := fun {j k} hk => by
      rw [List.getElem?_drop] at hk
      obtain ⟨b, hb, _⟩ := h.blocks.right hk
      refine ⟨b, by rw [List.getElem?_drop]; exact hb, fun hG => hG.blocks.get hb hk⟩
    have setF : ∀ {G' : Hp} {ls : List LnS} {i : Nat}, RdAt K C CB CR G' A ⟨ls, S.mean, S.found, S.blocks⟩ → i < ls.length → ∃ x dx tv l, A.xs[i]? = some x ∧ ls[i]? = some l ∧ G' x = some (.ins C dx (l.f tv)) ∧ bkLine A.xs (some i) = .ref x ∧
        ∀ l' : LnS, l'.z = l.z → RdAt K C CB CR (upd G' x (.ins C dx (l'.f tv))) A ⟨ls.set i l', S.mean, S.found, S.blocks⟩ ∧ Ext A G' A (upd G' x (.ins C dx (l'.f tv))) := fun {G' ls i} hG il => by
      have hl : ls[i]? = some ls[i] := List.getElem?_eq_getElem il
      obtain ⟨x, hx, dx, tv, e, c⟩ := hG.lines.right hl
      refine ⟨x, dx, tv, _, hx, hl, e, ?_, fun l' hz => hG.setLine hx hl e c hz⟩
      show V.ref (A.xs[i]?.getD 0) = _
      rw [hx]
      rfl
    refine for_list (K := K) (a := p) (xs := (A.bs.drop (d + 1)).map V.ref) (fun j σ H' => ∃ y, σ = [some (.ref A.r), some (.int (d : Nat)), some (.bl ch), some (.int (S.lines.length : Nat)), y] ∧ RdAt K C CB CR H' A ⟨((S.blocks.drop (d + 1)).take j).foldl (behindL S.lines.length) S.lines, S.mean, S.found, S.blocks⟩ ∧ Ext A H A H' ∧ H' p = some (.lst ((A.bs.drop (d + 1)).map V.ref)))
      ⟨none, rfl, h.same s1, Ext.same s1, e1⟩ (fun j σ H' hj ⟨_, _, _, _, e⟩ => SqL.of e) ?_ ?_
    · rintro j v σ H' hv ⟨y, rfl, hR, hE, hp⟩
      have jl := (List.getElem?_eq_some_iff.mp hv).1
      rw [List.length_map, List.length_drop, bl] at jl
      obtain ⟨k, hk⟩ : ∃ k, (S.blocks.drop (d + 1))[j]? = some k := ⟨_, List.getElem?_eq_getElem (by rw [List.length_drop]; exact jl)⟩
      obtain ⟨b, hb, bk⟩ := dropLen hk
      rw [List.getElem?_map, hb] at hv
      cases hv
      obtain ⟨i, ei, il⟩ := hi k (List.mem_of_getElem? hk)
      have tk : (S.blocks.drop (d + 1)).take (j + 1) = (S.blocks.drop (d + 1)).take j ++ [k] := by
        rw [List.take_add_one, hk]
        rfl
      have lenj : (((S.blocks.drop (d + 1)).take j).foldl (behindL S.lines.length) S.lines).length = S.lines.length := foldl_len _ _ _
      have goal : ((S.blocks.drop (d + 1)).take (j + 1)).foldl (behindL S.lines.length) S.lines = updL (((S.blocks.drop (d + 1)).take j).foldl (behindL S.lines.length) S.lines) (some i) fun l => ⟨l.z, l.num, S.lines.length, some S.lines.length⟩ := by
        rw [tk, List.foldl_append, ← ei]
        rfl
      generalize ((S.blocks.drop (d + 1)).take j).foldl (behindL S.lines.length) S.lines = ls at hR lenj goal
      obtain ⟨x, dx, tv, l, hx, hl, ex, ebl, key⟩ := setF hR (by rw [lenj]; exact il)
      obtain ⟨bx, hbk⟩ := bk hR
      rw [ei, ebl] at hbk
      obtain ⟨kR1, kE1⟩ := key ⟨l.z, l.num, S.lines.length, l.oth⟩ rfl
      refine ⟨_, rfl, _, rfl, b, CB, bx, _, _, rfl, hbk, BT.cl, nb (by decide +kernel), rfl, x, C, dx, _, rfl, ex, LT.cl, nl (by decide +kernel), (by show 9 < 1000; decide), ?_⟩
      have ef1 : putF "after" (.int (S.lines.length : Nat)) (l.f tv) = LnS.f ⟨l.z, l.num, S.lines.length, l.oth⟩ tv := rfl
      rw [ef1]
      have hl1 : (ls.set i ⟨l.z, l.num, S.lines.length, l.oth⟩)[i]? = some ⟨l.z, l.num, S.lines.length, l.oth⟩ := by
        rw [List.getElem?_set_self (by rw [lenj]; exact il)]
      have ex1 : (upd H' x (.ins C dx (LnS.f ⟨l.z, l.num, S.lines.length, l.oth⟩ tv))) x = some (.ins C dx (LnS.f ⟨l.z, l.num, S.lines.length, l.oth⟩ tv)) := upd_same
      have hbk1 : (upd H' x (.ins C dx (LnS.f ⟨l.z, l.num, S.lines.length, l.oth⟩ tv))) b = some (.ins CB bx (blockF (.ref x) (oV k.var) (oV k.own) (.bl k.lo))) := by
        rw [upd_ne (ne_fld hbk ex (fld_block ..) (fld_line ..) (by decide +kernel))]
        exact hbk
      have hp1 := kE1.keep p _ pO hp
      generalize upd H' x (.ins C dx (LnS.f ⟨l.z, l.num, S.lines.length, l.oth⟩ tv)) = H1 at kR1 kE1 ex1 hbk1 hp1 ⊢
      refine ⟨_, rfl, _, rfl, b, CB, bx, _, _, rfl, hbk1, BT.cl, nb (by decide +kernel), rfl, x, C, dx, _, rfl, ex1, LT.cl, nl (by decide +kernel), (by show 9 < 1000; decide), ?_⟩
      obtain ⟨x2, dx2, tv2, l2, hx2, hl2, ex2, _, key2⟩ := setF (i := i) kR1 (by rw [List.length_set, lenj]; exact il)
      rw [hx] at hx2
      cases hx2
      rw [hl1] at hl2
      cases hl2
      rw [ex1] at ex2
      have etv : tv = tv2 := by
        injection ex2 with ex2
        injection ex2 with _ _ ex2
        have := congrArg (fun fs => fs.lookup ("test" : Str)) ex2
        exact Option.some.inj this
      have edx : dx = dx2 := by
        injection ex2 with ex2
        injection ex2
      subst etv
      subst edx
      obtain ⟨kR2, kE2⟩ := key2 ⟨l.z, l.num, S.lines.length, some S.lines.length⟩ rfl
      have ef2 : putF "otherwise" (.int (S.lines.length : Nat)) (LnS.f ⟨l.z, l.num, S.lines.length, l.oth⟩ tv) = LnS.f ⟨l.z, l.num, S.lines.length, some S.lines.length⟩ tv := rfl
      rw [ef2]
      refine ⟨_, rfl, ?_, hE.trans (kE1.trans kE2), kE2.keep p _ pO hp1⟩
      rw [goal]
      have eu : updL ls (some i) (fun l => ⟨l.z, l.num, S.lines.length, some S.lines.length⟩) = ls.set i ⟨l.z, l.num, S.lines.length, some S.lines.length⟩ := by
        unfold updL
        dsimp only
        rw [hl]
      rw [eu]
      rw [List.set_set] at kR2
      exact kR2
    · rintro σ H' ⟨y, rfl, hR, hE, hp⟩
      rw [List.length_map, List.take_of_length_le (by rw [List.length_drop, List.length_drop, bl]; exact Nat.le_refl _)] at hR
      have lenj : (((S.blocks.drop (d + 1))).foldl (behindL S.lines.length) S.lines).length = S.lines.length := foldl_len _ _ _
      -- the end: blocks are cut
      have fin : ∀ (H2 : Hp), RdAt K C CB CR H2 A ⟨closeL S d ch, S.mean, S.found, S.blocks⟩ → Ext A H A H2 → ∀ p2, H2 p2 = none → Q .non (upd (upd H2 p2 (.lst ((A.bs.map V.ref).take (d + 1)))) A.r (.ins CR A.dx (readF A.aL A.aM A.aF p2))) := fun H2 h2 E2 p2 n2 => by
        have s2 : Same H2 (upd H2 p2 (.lst ((A.bs.map V.ref).take (d + 1)))) := same_upd n2
        have b2 := upd_same (H := H2) (a := p2) (o := .lst ((A.bs.map V.ref).take (d + 1)))
        have h3 := h2.same s2
        have E3 := E2.trans (Ext.same s2)
        have pr : A.r ≠ p2 := ne_of_none h2.r n2
        have pL : A.aL ≠ p2 := ne_of_none h2.L n2
        have pF : A.aF ≠ p2 := ne_of_none h2.F n2
        have pB : A.aB ≠ p2 := ne_of_none h2.B n2
        have nH : H p2 = none := E2.grow _ n2
        generalize upd H2 p2 (.lst ((A.bs.map V.ref).take (d + 1))) = H3 at s2 b2 h3 E3 ⊢
        have ro : ∀ {b : Addr} {o : HO}, H3 b = some o → (∀ C dx fs, o ≠ .ins C dx fs) → b ≠ A.r := fun h1 h2 => ne_kind h1 h3.r (h2 _ _ _)
        have sD : Same (outD A H2) (outD ⟨A.r, A.dx, A.aL, A.aM, A.aF, p2, A.xs, A.fs, A.bs.take (d + 1)⟩ (upd H3 A.r (.ins CR A.dx (readF A.aL A.aM A.aF p2)))) := fun b o e => by
          rw [outD_some] at e ⊢
          refine ⟨⟨e.1.1, e.1.2.1, ne_of_none e.2.1 n2⟩, ?_, e.2.2⟩
          rw [upd_ne (ro (s2 _ _ e.2.1) fun _ _ _ z => by rw [z] at e; exact nomatch e.2.2)]
          exact s2 _ _ e.2.1
        refine q _ ⟨A.r, A.dx, A.aL, A.aM, A.aF, p2, A.xs, A.fs, A.bs.take (d + 1)⟩ ⟨upd_same, ?_, ?_, ?_, ?_, h.LF, pL, pF, h.nd, ?_, ?_, ?_⟩ rfl rfl rfl rfl ⟨?_, ?_, ?_⟩
        · rw [upd_ne (ro h3.L fun _ _ _ z => nomatch z)]
          exact h3.L
        · rw [upd_ne (ro h3.M fun _ _ _ z => nomatch z)]
          exact h3.M
        · rw [upd_ne (ro h3.F fun _ _ _ z => nomatch z)]
          exact h3.F
        · rw [upd_ne (ro b2 fun _ _ _ z => nomatch z), b2, List.map_take]
        · exact h2.lines.imp' fun a ha b hb ⟨dx, tv, e, c⟩ => ⟨dx, tv, by
            rw [upd_ne (ne_fld (s2 _ _ e) h3.r (fld_line ..) (fld_read ..) (by decide +kernel))]
            exact s2 _ _ e, c.same sD⟩
        · exact h3.found.imp fun a b e => by
            unfold FdAt at e ⊢
            rw [upd_ne (ro e fun _ _ _ z => nomatch z)]
            exact e
        · exact (h3.blocks.take (d + 1)).imp fun a b ⟨bx, e⟩ => ⟨bx, by
            rw [upd_ne (ne_fld e h3.r (fld_block ..) (fld_read ..) (by decide +kernel))]
            exact e⟩
        · intro b o nb e
          rw [upd_ne fun z => nb (by rw [z]; exact List.mem_cons_self)]
          exact E3.keep b o nb e
        · intro b e
          by_cases hb : b = A.r
          · rw [hb, upd_same] at e
            cases e
          · rw [upd_ne hb] at e
            exact E3.grow b e
        · intro b hb
          rcases List.mem_cons.mp hb with e | hb
          · exact .inl (by rw [e]; exact List.mem_cons_self)
          rcases List.mem_cons.mp hb with e | hb
          · exact .inl (by rw [e]; simp [RA.own])
          rcases List.mem_cons.mp hb with e | hb
          · exact .inl (by rw [e]; simp [RA.own])
          rcases List.mem_cons.mp hb with e | hb
          · exact .inl (by rw [e]; simp [RA.own])
          rcases List.mem_cons.mp hb with e | hb
          · exact .inr (by rw [e]; exact nH)
          · exact .inl (List.mem_cons_of_mem _ (List.mem_cons_of_mem _ (List.mem_cons_of_mem _ (List.mem_cons_of_mem _ (List.mem_cons_of_mem _ hb)))))
      refine ⟨_, rfl, _, rfl, ?_⟩
      cases ch with
      | true =>
        have hlt := hc rfl
        have hk : S.blocks[d + 1]? = some S.blocks[d + 1] := List.getElem?_eq_getElem hlt
        have hk0 : (S.blocks.drop (d + 1))[0]? = some S.blocks[d + 1] := by
          rw [List.getElem?_drop]
          exact hk
        obtain ⟨b, hb, bk⟩ := dropLen hk0
        rw [List.getElem?_drop] at hb
        obtain ⟨i, ei, il⟩ := hi _ (List.mem_of_getElem? hk0)
        have ecl : closeL S d true = updL ((S.blocks.drop (d + 1)).foldl (behindL S.lines.length) S.lines) (some i) fun l => ⟨l.z, l.num, l.aft, some (S.lines.length + 1)⟩ := by
          unfold closeL chosenL
          rw [if_pos rfl, hk, ← ei]
        generalize (S.blocks.drop (d + 1)).foldl (behindL S.lines.length) S.lines = ls at hR lenj ecl
        obtain ⟨x, dx, tv, l, hx, hl, ex, ebl, key⟩ := setF hR (by rw [lenj]; exact il)
        obtain ⟨bx, hbk⟩ := bk hR
        rw [ei, ebl] at hbk
        obtain ⟨kR1, kE1⟩ := key ⟨l.z, l.num, l.aft, some (S.lines.length + 1)⟩ rfl
        refine iteT ⟨_, rfl, _, _, rfl, rfl, _, rfl, A.r, CR, A.dx, _, _, rfl, hR.r, R.cl, nr (by decide +kernel), blocks_get A, _, rfl, _, _, rfl, rfl, A.aB, _, _, _, rfl, rfl, SqL.of hR.B, atI_nat (j := d + 1) (by rw [List.getElem?_map, show A.bs[d + 1]? = some b from hb]; rfl), b, CB, bx, _, _, rfl, hbk, BT.cl, nb (by decide +kernel), rfl, x, C, dx, _, rfl, ex, LT.cl, nl (by decide +kernel), (by show 9 < 1000; decide), ?_⟩
        have ef1 : putF "otherwise" (.int (((S.lines.length : Nat) : Int) + 1)) (l.f tv) = LnS.f ⟨l.z, l.num, l.aft, some (S.lines.length + 1)⟩ tv := rfl
        rw [ef1]
        have eu : closeL S d true = ls.set i ⟨l.z, l.num, l.aft, some (S.lines.length + 1)⟩ := by
          rw [ecl]
          unfold updL
          dsimp only
          rw [hl]
        rw [← eu] at kR1
        have E2 := hE.trans kE1
        generalize upd H' x (.ins C dx (LnS.f ⟨l.z, l.num, l.aft, some (S.lines.length + 1)⟩ tv)) = H1 at kR1 E2 ⊢
        refine ⟨_, rfl, A.r, CR, A.dx, _, _, rfl, kR1.r, R.cl, nr (by decide +kernel), blocks_get A, _, rfl, _, _, rfl, rfl, _, rfl, A.aB, _, rfl, SqL.of kR1.B, fun p2 n2 => ⟨_, rfl, A.r, CR, A.dx, _, rfl, by rw [upd_ne (ne_of_none kR1.r n2)]; exact kR1.r, R.cl, nr (by decide +kernel), (by show 4 < 1000; decide), ?_⟩⟩
        rw [show ((d : Nat) : Int) + 1 = ((d + 1 : Nat) : Int) from rfl, cut_take]
        exact fin H1 kR1 E2 p2 n2
      | false =>
        have ecl : closeL S d false = (S.blocks.drop (d + 1)).foldl (behindL S.lines.length) S.lines := rfl
        rw [← ecl] at hR
        refine iteF ⟨_, rfl, A.r, CR, A.dx, _, _, rfl, hR.r, R.cl, nr (by decide +kernel), blocks_get A, _, rfl, _, _, rfl, rfl, _, rfl, A.aB, _, rfl, SqL.of hR.B, fun p2 n2 => ⟨_, rfl, A.r, CR, A.dx, _, rfl, by rw [upd_ne (ne_of_none hR.r n2)]; exact hR.r, R.cl, nr (by decide +kernel), (by show 4 < 1000; decide), ?_⟩⟩
        rw [show ((d : Nat) : Int) + 1 = ((d + 1 : Nat) : Int) from rfl, cut_take]
        exact fin H' hR hE p2 n2
end
end TX
namespace TX
open PySem PySem.Spec PyProof.Rows L2 KTD
/-! ### forms that are asked for; a line is put behind the others -/
def askedF (z : LnZ) (own : Option Str) : List Str := if z.deed = "if" then (z.code.getD []).filterMap askedStep else match z.form with
  | none => []
  | some f => if z.name = own ∧ z.ask = some "it" then [] else [f]
def putMean : Mean → Str → Str → Mean
  | [], z, m => [(z, m)]
  | (x, k) :: M, z, m => if x = z then (x, m) :: M else (x, k) :: putMean M z m
/-- no name twice -/
def Once : Mean → Prop
  | [] => True
  | (x, _) :: M => meanAt M x = none ∧ Once M
theorem meanAt_put : ∀ (M : Mean) (z m y : Str), meanAt (putMean M z m) y = if z = y then some m else meanAt M y
  | [], z, m, y => rfl
  | (x, k) :: M, z, m, y => by
    unfold putMean
    by_cases h : x = z
    · subst h
      rw [if_pos rfl]
      show (if x = y then some m else meanAt M y) = (if x = y then some m else (if x = y then some k else meanAt M y))
      by_cases g : x = y
      · rw [if_pos g, if_pos g]
      · rw [if_neg g, if_neg g, if_neg g]
    · rw [if_neg h]
      show (if x = y then some k else meanAt (putMean M z m) y) = (if z = y then some m else (if x = y then some k else meanAt M y))
      rw [meanAt_put M z m y]
      by_cases g : x = y
      · rw [if_pos g, if_neg (fun e => h (g.trans e.symm)), if_pos g]
      · rw [if_neg g, if_neg g]
theorem once_put : ∀ (M : Mean) (z m : Str), Once M → Once (putMean M z m)
  | [], z, m, _ => ⟨rfl, trivial⟩
  | (x, k) :: M, z, m, h => by
    unfold putMean
    by_cases g : x = z
    · rw [if_pos g]
      exact h
    · rw [if_neg g]
      refine ⟨?_, once_put M z m h.2⟩
      rw [meanAt_put, if_neg (fun e => g e.symm)]
      exact h.1
theorem any_none : ∀ {M : Mean} {z : Str}, meanAt M z = none → ((mKV M).any fun kv => decide (kv.1 = (.inr z : Key))) = false
  | [], _, _ => rfl
  | (x, k) :: M, z, h => by
    have h : (if x = z then some k else meanAt M z) = none := h
    by_cases g : x = z
    · rw [if_pos g] at h
      cases h
    · rw [if_neg g] at h
      show (decide ((Sum.inr x : Key) = .inr z) || _) = false
      rw [decide_eq_false (fun e => g (Sum.inr.inj e)), Bool.false_or]
      exact any_none h
theorem map_none : ∀ {M : Mean} {z m : Str}, meanAt M z = none → (mKV M).map (fun kv => if kv.1 = (.inr z : Key) then (kv.1, V.str m) else kv) = mKV M
  | [], _, _, _ => rfl
  | (x, k) :: M, z, m, h => by
    have h : (if x = z then some k else meanAt M z) = none := h
    by_cases g : x = z
    · rw [if_pos g] at h
      cases h
    · rw [if_neg g] at h
      show (if (Sum.inr x : Key) = .inr z then _ else ((.inr x : Key), V.str k)) :: _ = ((.inr x : Key), V.str k) :: mKV M
      rw [if_neg (fun e => g (Sum.inr.inj e))]
      congr 1
      exact map_none h
theorem put_kv : ∀ (M : Mean) (z m : Str), Once M → putK (mKV M) (.inr z : Key) (.str m) = mKV (putMean M z m)
  | [], z, m, _ => rfl
  | (x, k) :: M, z, m, h => by
    unfold putK putMean
    by_cases g : x = z
    · subst g
      rw [if_pos rfl, if_pos (by show (decide ((Sum.inr x : Key) = .inr x) || _) = true; rw [decide_eq_true rfl, Bool.true_or])]
      show (if (Sum.inr x : Key) = .inr x then _ else _) :: _ = _ :: _
      rw [if_pos rfl]
      congr 1
      exact map_none h.1
    · rw [if_neg g]
      have ih := put_kv M z m h.2
      unfold putK at ih
      have ea : ((mKV ((x, k) :: M)).any fun kv => decide (kv.1 = (.inr z : Key))) = ((mKV M).any fun kv => decide (kv.1 = (.inr z : Key))) := by
        show (decide ((Sum.inr x : Key) = .inr z) || _) = _
        rw [decide_eq_false (fun e => g (Sum.inr.inj e)), Bool.false_or]
        rfl
      rw [ea]
      show _ = ((.inr x : Key), V.str k) :: mKV (putMean M z m)
      rw [← ih]
      by_cases c : ((mKV M).any fun kv => decide (kv.1 = (.inr z : Key))) = true
      · rw [if_pos c, if_pos c]
        show (if (Sum.inr x : Key) = .inr z then _ else _) :: _ = _ :: _
        rw [if_neg (fun e => g (Sum.inr.inj e))]
        rfl
      · rw [if_neg c, if_neg c]
        rfl
theorem put_len : ∀ (M : Mean) (z m : Str), (putMean M z m).length ≤ M.length + 1
  | [], _, _ => Nat.le_refl _
  | (x, k) :: M, z, m => by
    unfold putMean
    have := put_len M z m
    split <;> simp only [List.length_cons] <;> omega
theorem mKV_len (M : Mean) : (mKV M).length = M.length := List.length_map ..
/-- what is kept of a code -/
def CodeOk (c : Code) : Prop := (∀ p ∈ c, StepOk p) ∧ c.length ≤ 500
def spAsked (K : PySem.W.Frag) (C : Addr) : Sp := fun vs H Q _ => ∃ (x dx : Addr) (z : LnZ) (tv nr af ot : V) (ow : Option Str), vs = [.ref x, oV ow] ∧ H x = some (.ins C dx (z.f tv nr af ot)) ∧ (z.deed = "if" → ∃ c, z.code = some c ∧ CodeAt K H tv (some c) ∧ CodeOk c) ∧
  ∀ H1 p, Same H H1 → H p = none → H1 p = some (.lst ((askedF z ow).map V.str)) → Q (.ref p) H1
section
variable {P : Program} {w : World} {K : PySem.W.Frag} {mg : Str → Option Value} {base : Heap} {C CB CR : Addr}
theorem scAsked : FnScope ["line", "own", "step"] ["line", "own"] (defScope s_asked_forms) := ⟨rfl, rfl, rfl, by decide +kernel, rfl, by decide +kernel, by decide +kernel⟩
theorem dec_oV (a b : Option Str) : decide (oV a = oV b) = decide (a = b) := decide_eq_decide.mpr ⟨fun z => by
  cases a <;> cases b
  · rfl
  · cases z
  · cases z
  · exact congrArg some (V.str.inj z), fun z => by rw [z]⟩
theorem ok_asked {f fA : Addr} {fd dA : FuncData} (F : Fun K "asked_forms" "asked_forms" s_asked_forms f fd) (LT : LnC K C) (GA : FnOk P w K mg base CX0 1 fA dA ["step"] (spAskedF K)) (gA : mg "asked_form" = some (.ref fA)) (kA : PySem.W.keepIn K (.ref fA) = true) (bA : Binds K dA ["step"] []) : FnOk P w K mg base CX0 2 f fd ["line", "own"] (spAsked K C) := by
  refine F.ok scAsked (fun vs H Q E h => ?_) (fun cdv A outer s H vs Q E hr h => ?_)
  · obtain ⟨x, dx, z, tv, nr, af, ot, ow, rfl, _⟩ := h
    rfl
  · obtain ⟨x, dx, z, tv, nr, af, ot, ow, rfl, hx, hi, q⟩ := h
    refine ⟨_, pss_cons (ps_if (pt_cmpR op_eq (pe_fld (pv 0) rfl) pe_str (nomark _)) (pss_one (ps_ret (pe_lc (own := [("step", 2)]) (g := gName 2) (tt := tTest (tNotN (tCall (spAskedF K) [] E (tCons (tVar 2) tNil)))) (te := tCall (spAskedF K) [] E (tCons (tVar 2) tNil)) rfl scAsked.nd (pi_list (pe_fld (pv 0) rfl)) (blkOk_by (own := [("step", 2)]) (N := ["line", "own", "step"]) (sc := defScope s_asked_forms) (by decide +kernel)) (fun _ _ _ _ _ => pg_name (i := 2) scAsked.nd rfl (Or.inl rfl)) (fun _ _ _ _ _ => pts_one (pt_cmp (pc_notN (pe_call GA hr (by rfl) gA kA bA .nil pass0 (pa_cons (pv 2) pa_nil))))) (fun _ _ _ _ _ => pe_call GA hr (by rfl) gA kA bA .nil pass0 (pa_cons (pv 2) pa_nil))))) pss_nil) <|
      pss_cons (ps_if (PW.pt (pw_or (pt_cmp (pc_isN (pe_fld (pv 0) rfl))) (pw_or1 (PW.pt (pw_and (pt_cmpR op_eq (pe_fld (pv 0) rfl) (pv 1) (nomark _)) (pw_and1 (pt_cmpR op_eq (pe_fld (pv 0) rfl) pe_str (nomark _)))))))) (pss_one (ps_ret (pe_lst pa_nil))) pss_nil) <|
      pss_one (ps_ret (pe_lst (pa_cons (pe_fld (pv 0) rfl) pa_nil))), ?_⟩
    have nl : ∀ {f : Str}, f ∈ lineNames → NoAttr K C f := fun h => LT.na _ h
    refine ⟨_, rfl, x, C, dx, _, _, rfl, hx, LT.cl, nl (by decide +kernel), rfl, rfl, _, rfl, ?_⟩
    show (if decide (V.str z.deed = V.str "if") = true then _ else _)
    by_cases hi' : z.deed = "if"
    · rw [decide_eq_true (by rw [hi'])]
      obtain ⟨c, hc, ⟨a, vs, rfl, hv, hs⟩, so, cl⟩ := hi hi'
      have ef : askedF z ow = c.filterMap askedStep := by
        unfold askedF
        rw [if_pos hi', hc]
        rfl
      rw [ef] at q
      have el : c.length = vs.length := hs.length.symm
      refine iteT ⟨_, rfl, x, C, dx, _, _, rfl, hx, LT.cl, nl (by decide +kernel), rfl, a, rfl, ⟨_, SqL.of hv⟩, fun D nD => lc_list (K := K) (a := a) (xs := vs) (fun i H' => H' D = some (.lst (((c.take i).filterMap askedStep).map V.str)) ∧ Same H H') ⟨upd_same, same_upd nD⟩ (fun i H' hi ⟨_, s2⟩ => SqL.of (s2 _ _ hv)) ?_ ?_⟩
      · rintro i v H' hx' ⟨hD, s2⟩
        have il := (List.getElem?_eq_some_iff.mp hx').1
        have hp : c[i]? = some c[i] := List.getElem?_eq_getElem (by omega)
        have hst := (hs.get hx' hp).same s2
        have hso := so _ (List.mem_of_getElem? hp)
        have tk : (c.take (i + 1)).filterMap askedStep = (c.take i).filterMap askedStep ++ (match askedStep c[i] with | none => [] | some f => [f]) := by
          rw [List.take_add_one, hp, List.filterMap_append]
          cases h : askedStep c[i] <;> simp [h]
        refine ⟨rfl, _, rfl, v, c[i], rfl, hst, hso, ?_⟩
        cases ha : askedStep c[i] with
        | none =>
          rw [ha] at tk
          refine ⟨_, rfl, iteF ⟨?_, s2⟩⟩
          rw [tk, List.append_nil]
          exact hD
        | some f =>
          rw [ha] at tk
          have ln : ((c.take i).filterMap askedStep).length ≤ c.length := Nat.le_trans (List.length_filterMap_le _ _) (by rw [List.length_take]; omega)
          refine ⟨_, rfl, iteT ⟨_, rfl, v, c[i], rfl, hst, hso, ?_⟩⟩
          rw [ha]
          refine ⟨_, hD, ?_, ?_, same_fresh nD s2⟩
          · rw [List.length_map]
            exact Nat.lt_of_le_of_lt (Nat.le_trans ln cl) (by decide)
          · rw [tk, List.map_append]
            exact upd_same
      · rintro H' ⟨hD, s2⟩
        rw [← el, List.take_length] at hD
        exact q H' D s2 nD hD
    have hi := hi'
    rw [decide_eq_false (fun e => hi (V.str.inj e))]
    refine iteF ⟨_, rfl, x, C, dx, _, _, rfl, hx, LT.cl, nl (by decide +kernel), rfl, _, rfl, ?_⟩
    unfold askedF at q
    rw [if_neg hi] at q
    obtain ⟨de, na, va, fo, ak, co⟩ := z
    dsimp only at q
    cases fo with
    | none =>
      refine iteT ?_
      refine iteT ?_
      exact ⟨(by show 0 ≤ sizeLine; decide), fun p np => q _ p (same_upd np) np upd_same⟩
    | some fo =>
      dsimp only at q
      refine iteF ⟨_, rfl, x, C, dx, _, oV na, rfl, hx, LT.cl, nl (by decide +kernel), rfl, _, rfl, (by cases na <;> cases ow <;> rfl), _, rfl, ?_⟩
      rw [dec_oV]
      by_cases h1 : na = ow
      · rw [decide_eq_true h1]
        refine iteT ⟨_, rfl, x, C, dx, _, oV ak, rfl, hx, LT.cl, nl (by decide +kernel), rfl, (by cases ak <;> rfl), _, rfl, ?_⟩
        have ea : decide (oV ak = V.str "it") = decide (ak = some "it") := dec_oV ak (some "it")
        show (if decide (oV ak = V.str "it") = true then _ else _)
        rw [ea]
        by_cases h2 : ak = some "it"
        · rw [if_pos ⟨h1, h2⟩] at q
          rw [decide_eq_true h2]
          refine iteT ?_
          exact ⟨(by show 0 ≤ sizeLine; decide), fun p np => q _ p (same_upd np) np upd_same⟩
        · rw [if_neg fun z => h2 z.2] at q
          rw [decide_eq_false h2]
          exact iteF ⟨_, rfl, x, C, dx, _, V.str fo, rfl, hx, LT.cl, nl (by decide +kernel), rfl, (by show 1 ≤ sizeLine; decide), fun p np => q _ p (same_upd np) np upd_same⟩
      · rw [if_neg fun z => h1 z.1] at q
        rw [decide_eq_false h1]
        exact iteF (iteF ⟨_, rfl, x, C, dx, _, V.str fo, rfl, hx, LT.cl, nl (by decide +kernel), rfl, (by show 1 ≤ sizeLine; decide), fun p np => q _ p (same_upd np) np upd_same⟩)
end
end TX
namespace TX
open PySem PySem.Spec PyProof.Rows L2 KTD
/-! ### steps of a reading, on the heap -/
section
variable {K : PySem.W.Frag} {C CB CR : Addr} {H : Hp} {A : RA} {S : RS}
def BkIn (S : RS) : Prop := ∀ k ∈ S.blocks, ∀ i, k.line = some i → i < S.lines.length
def RA.addX (A : RA) (x : Addr) : RA := ⟨A.r, A.dx, A.aL, A.aM, A.aF, A.aB, A.xs ++ [x], A.fs, A.bs⟩
def RA.addF (A : RA) (t : Addr) : RA := ⟨A.r, A.dx, A.aL, A.aM, A.aF, A.aB, A.xs, A.fs ++ [t], A.bs⟩
def RA.addB (A : RA) (b : Addr) : RA := ⟨A.r, A.dx, A.aL, A.aM, A.aF, A.aB, A.xs, A.fs, A.bs ++ [b]⟩
theorem own_r (A : RA) : A.r ∈ A.own := List.mem_cons_self
theorem own_L (A : RA) : A.aL ∈ A.own := List.mem_cons_of_mem _ List.mem_cons_self
theorem own_M (A : RA) : A.aM ∈ A.own := List.mem_cons_of_mem _ (List.mem_cons_of_mem _ List.mem_cons_self)
theorem own_F (A : RA) : A.aF ∈ A.own := List.mem_cons_of_mem _ (List.mem_cons_of_mem _ (List.mem_cons_of_mem _ List.mem_cons_self))
theorem own_B (A : RA) : A.aB ∈ A.own := List.mem_cons_of_mem _ (List.mem_cons_of_mem _ (List.mem_cons_of_mem _ (List.mem_cons_of_mem _ List.mem_cons_self)))
theorem own_x {A : RA} {x : Addr} (h : x ∈ A.xs) : x ∈ A.own := List.mem_cons_of_mem _ (List.mem_cons_of_mem _ (List.mem_cons_of_mem _ (List.mem_cons_of_mem _ (List.mem_cons_of_mem _ h))))
theorem own_addX {A : RA} {x b : Addr} : b ∈ (A.addX x).own ↔ b ∈ A.own ∨ b = x := by
  simp [RA.own, RA.addX, or_assoc]
theorem own_add {A : RA} {x : Addr} : x ∈ (A.addX x).own := own_addX.mpr (.inr rfl)
/-- a change at a place of its own -/
theorem Ext.upd {B : RA} {a : Addr} {o : HO} (h : a ∈ B.own) : Ext B H B (L2.upd H a o) := ⟨fun b o2 nb e => by
  rw [upd_ne fun z => nb (by rw [z]; exact h)]
  exact e, fun b e => by
  by_cases hb : b = a
  · rw [hb, upd_same] at e
    cases e
  · rw [upd_ne hb] at e
    exact e, fun b hb => .inl hb⟩
theorem outD_upd {B : RA} {a : Addr} {o o' : HO} (ha : H a = some o) (h : datO o = false ∨ a = A.aL ∨ a = A.aF ∨ a = A.aB) (eL : B.aL = A.aL) (eF : B.aF = A.aF) (eB : B.aB = A.aB) : Same (outD A H) (outD B (L2.upd H a o')) := fun b u e => by
  rw [outD_some] at e ⊢
  have hb : b ≠ a := fun z => by
    rcases h with h | h | h | h
    · rw [z, ha] at e
      cases e.2.1
      rw [h] at e
      exact nomatch e.2.2
    · exact e.1.1 (z.trans h)
    · exact e.1.2.1 (z.trans h)
    · exact e.1.2.2 (z.trans h)
  rw [eL, eF, eB, upd_ne hb]
  exact e
theorem RdAt.kLst (h : RdAt K C CB CR H A S) {a : Addr} {xs : List V} (ha : H a = some (.lst xs)) (o' : HO) :
    (L2.upd H a o') A.r = some (.ins CR A.dx (readF A.aL A.aM A.aF A.aB)) ∧ (L2.upd H a o') A.aM = some (.dK (mKV S.mean)) ∧ All2 (FdAt (L2.upd H a o')) A.fs S.found ∧ All2 (BkAt CB (L2.upd H a o') A.xs) A.bs S.blocks ∧
    (∀ x dx fs, H x = some (.ins C dx fs) → (L2.upd H a o') x = some (.ins C dx fs)) ∧ ∀ b, b ≠ a → (L2.upd H a o') b = H b := by
  have ne : ∀ {b : Addr} {o : HO}, H b = some o → (∀ l, o ≠ .lst l) → b ≠ a := fun h1 h2 => ne_kind h1 ha (h2 _)
  refine ⟨?_, ?_, ?_, ?_, ?_, fun b hb => upd_ne hb⟩
  · rw [upd_ne (ne h.r fun _ z => nomatch z)]
    exact h.r
  · rw [upd_ne (ne h.M fun _ z => nomatch z)]
    exact h.M
  · exact h.found.imp fun t p e => by
      unfold FdAt at e ⊢
      rw [upd_ne (ne e fun _ z => nomatch z)]
      exact e
  · exact h.blocks.imp fun b k ⟨bx, e⟩ => ⟨bx, by
      rw [upd_ne (ne e fun _ z => nomatch z)]
      exact e⟩
  · intro x dx fs e
    rw [upd_ne (ne e fun _ z => nomatch z)]
    exact e
theorem RdAt.addMean (h : RdAt K C CB CR H A S) (M : Mean) : RdAt K C CB CR (L2.upd H A.aM (.dK (mKV M))) A ⟨S.lines, M, S.found, S.blocks⟩ ∧ Ext A H A (L2.upd H A.aM (.dK (mKV M))) := by
  have ne : ∀ {b : Addr} {o : HO}, H b = some o → (∀ l, o ≠ .dK l) → b ≠ A.aM := fun h1 h2 => ne_kind h1 h.M (h2 _)
  refine ⟨⟨?_, ?_, upd_same, ?_, ?_, h.LF, h.LB, h.FB, h.nd, ?_, ?_, ?_⟩, Ext.upd (own_M A)⟩
  · rw [upd_ne (ne h.r fun _ z => nomatch z)]
    exact h.r
  · rw [upd_ne (ne h.L fun _ z => nomatch z)]
    exact h.L
  · rw [upd_ne (ne h.F fun _ z => nomatch z)]
    exact h.F
  · rw [upd_ne (ne h.B fun _ z => nomatch z)]
    exact h.B
  · exact h.lines.imp fun x l ⟨dx, tv, e, c⟩ => ⟨dx, tv, by
      rw [upd_ne (ne e fun _ z => nomatch z)]
      exact e, c.same (outD_upd h.M (.inl rfl) rfl rfl rfl)⟩
  · exact h.found.imp fun t p e => by
      unfold FdAt at e ⊢
      rw [upd_ne (ne e fun _ z => nomatch z)]
      exact e
  · exact h.blocks.imp fun b k ⟨bx, e⟩ => ⟨bx, by
      rw [upd_ne (ne e fun _ z => nomatch z)]
      exact e⟩
/-- a line comes behind the others -/
theorem RdAt.addLine (h : RdAt K C CB CR H A S) (hi : BkIn S) {x dx : Addr} {l : LnS} {tv : V} (hx : H x = some (.ins C dx (l.f tv))) (nx : x ∉ A.xs) (c : CodeAt K (outD A H) tv l.z.code) :
    RdAt K C CB CR (L2.upd H A.aL (.lst ((A.xs ++ [x]).map V.ref))) (A.addX x) ⟨S.lines ++ [l], S.mean, S.found, S.blocks⟩ ∧ Ext (A.addX x) H (A.addX x) (L2.upd H A.aL (.lst ((A.xs ++ [x]).map V.ref))) := by
  obtain ⟨k1, k2, k3, k4, k5, k6⟩ := h.kLst h.L (.lst ((A.xs ++ [x]).map V.ref))
  have sD : Same (outD A H) (outD (A.addX x) (L2.upd H A.aL (.lst ((A.xs ++ [x]).map V.ref)))) := outD_upd h.L (.inr (.inl rfl)) rfl rfl rfl
  refine ⟨⟨k1, upd_same, k2, ?_, ?_, h.LF, h.LB, h.FB, ?_, ?_, k3, ?_⟩, Ext.upd (own_L _)⟩
  · rw [show (A.addX x).aF = A.aF from rfl, k6 _ h.LF.symm]
    exact h.F
  · rw [show (A.addX x).aB = A.aB from rfl, k6 _ h.LB.symm]
    exact h.B
  · show (A.xs ++ [x]).Nodup
    rw [List.nodup_append]
    refine ⟨h.nd, by simp, fun a ha b hb e => ?_⟩
    rw [List.mem_singleton.mp hb] at e
    exact nx (e ▸ ha)
  · exact (h.lines.imp fun y l ⟨dy, ty, e, c⟩ => show LnAt K C _ _ y l from ⟨dy, ty, k5 _ _ _ e, c.same sD⟩).snoc ⟨dx, tv, k5 _ _ _ hx, c.same sD⟩
  · refine k4.imp' fun b hb k hk ⟨bx, e⟩ => ⟨bx, ?_⟩
    have : bkLine (A.xs ++ [x]) k.line = bkLine A.xs k.line := by
      cases hl : k.line with
      | none => rfl
      | some i =>
        have il := hi k hk i hl
        rw [← h.lines.length] at il
        show V.ref ((A.xs ++ [x])[i]?.getD 0) = V.ref (A.xs[i]?.getD 0)
        rw [List.getElem?_append_left il]
    rw [show (A.addX x).xs = A.xs ++ [x] from rfl, this]
    exact e
/-- one more form is found -/
theorem RdAt.addFound (h : RdAt K C CB CR H A S) {t : Addr} {p : Nat × Str} (ht : FdAt H t p) :
    RdAt K C CB CR (L2.upd H A.aF (.lst ((A.fs ++ [t]).map V.ref))) (A.addF t) ⟨S.lines, S.mean, S.found ++ [p], S.blocks⟩ ∧ Ext A H (A.addF t) (L2.upd H A.aF (.lst ((A.fs ++ [t]).map V.ref))) := by
  obtain ⟨k1, k2, k3, k4, k5, k6⟩ := h.kLst h.F (.lst ((A.fs ++ [t]).map V.ref))
  have sD : Same (outD A H) (outD (A.addF t) (L2.upd H A.aF (.lst ((A.fs ++ [t]).map V.ref)))) := outD_upd h.F (.inr (.inr (.inl rfl))) rfl rfl rfl
  refine ⟨⟨k1, ?_, k2, upd_same, ?_, h.LF, h.LB, h.FB, h.nd, ?_, ?_, k4⟩, ⟨fun b o nb e => ?_, fun b e => ?_, fun b hb => .inl hb⟩⟩
  · rw [show (A.addF t).aL = A.aL from rfl, k6 _ h.LF]
    exact h.L
  · rw [show (A.addF t).aB = A.aB from rfl, k6 _ h.FB.symm]
    exact h.B
  · exact h.lines.imp fun y l ⟨dy, ty, e, c⟩ => show LnAt K C _ _ y l from ⟨dy, ty, k5 _ _ _ e, c.same sD⟩
  · refine k3.snoc ?_
    unfold FdAt at ht ⊢
    rw [k6 _ (ne_kind ht h.F fun z => nomatch z)]
    exact ht
  · exact (Ext.upd (own_F A)).keep b o nb e
  · exact (Ext.upd (own_F A)).grow b e
/-- one more block is open -/
theorem RdAt.addBlock (h : RdAt K C CB CR H A S) {b : Addr} {k : Bk} (hb : BkAt CB H A.xs b k) :
    RdAt K C CB CR (L2.upd H A.aB (.lst ((A.bs ++ [b]).map V.ref))) (A.addB b) ⟨S.lines, S.mean, S.found, S.blocks ++ [k]⟩ ∧ Ext A H (A.addB b) (L2.upd H A.aB (.lst ((A.bs ++ [b]).map V.ref))) := by
  obtain ⟨k1, k2, k3, k4, k5, k6⟩ := h.kLst h.B (.lst ((A.bs ++ [b]).map V.ref))
  have sD : Same (outD A H) (outD (A.addB b) (L2.upd H A.aB (.lst ((A.bs ++ [b]).map V.ref)))) := outD_upd h.B (.inr (.inr (.inr rfl))) rfl rfl rfl
  refine ⟨⟨k1, ?_, k2, ?_, upd_same, h.LF, h.LB, h.FB, h.nd, ?_, k3, ?_⟩, ⟨fun b o nb e => ?_, fun b e => ?_, fun b hb => .inl hb⟩⟩
  · rw [show (A.addB b).aL = A.aL from rfl, k6 _ h.LB]
    exact h.L
  · rw [show (A.addB b).aF = A.aF from rfl, k6 _ h.FB]
    exact h.F
  · exact h.lines.imp fun y l ⟨dy, ty, e, c⟩ => show LnAt K C _ _ y l from ⟨dy, ty, k5 _ _ _ e, c.same sD⟩
  · refine k4.snoc ?_
    obtain ⟨bx, e⟩ := hb
    exact ⟨bx, by
      rw [k6 _ (ne_kind e h.B fun z => nomatch z)]
      exact e⟩
  · exact (Ext.upd (own_B A)).keep b o nb e
  · exact (Ext.upd (own_B A)).grow b e
end
end TX
namespace TX
open PySem PySem.Spec PyProof.Rows L2 KTD
/-! ### a block begins -/
def bkOf (i : Nat) (z : LnZ) (k : Bk) : Bk := if z.deed = "def" then ⟨some i, z.var, z.name, false⟩ else if z.deed = "for" then ⟨some i, z.var, k.own, true⟩ else ⟨some i, k.var, k.own, k.lo⟩
def varM (z : LnZ) (M : Mean) : Mean := match z.var with
  | some v => putMean M v "variable"
  | none => M
def nameM (z : LnZ) (M : Mean) : Mean := match z.name with
  | some n => putMean M n "function"
  | none => M
def beginM (z : LnZ) (M : Mean) : Mean := if z.deed = "def" then nameM z (varM z M) else varM z M
def beginS (S : RS) (i : Nat) (z : LnZ) (k : Bk) : RS := ⟨S.lines, beginM z S.mean, S.found, S.blocks ++ [bkOf i z k]⟩
theorem once_var {z : LnZ} {M : Mean} (h : Once M) : Once (varM z M) := by
  unfold varM
  split
  · exact once_put _ _ _ h
  · exact h
theorem once_begin {z : LnZ} {M : Mean} (h : Once M) : Once (beginM z M) := by
  unfold beginM nameM
  split
  · split
    · exact once_put _ _ _ (once_var h)
    · exact once_var h
  · exact once_var h
theorem len_var (z : LnZ) (M : Mean) : (varM z M).length ≤ M.length + 1 := by
  unfold varM
  split
  · exact put_len _ _ _
  · omega
theorem len_begin (z : LnZ) (M : Mean) : (beginM z M).length ≤ M.length + 2 := by
  have a := len_var z M
  unfold beginM nameM
  split
  · split
    · have := put_len (varM z M) (by assumption) "function"
      omega
    · omega
  · omega
theorem blockOf_is (i : Nat) (z : LnZ) (k : Bk) : blockOf z.deed (oV z.var) (oV z.name) (oV k.var) (oV k.own) k.lo = (oV (bkOf i z k).var, oV (bkOf i z k).own, (bkOf i z k).lo) ∧ (bkOf i z k).line = some i := by
  unfold blockOf bkOf
  by_cases h : z.deed = "def"
  · rw [if_pos h, if_pos h]
    exact ⟨rfl, rfl⟩
  · rw [if_neg h, if_neg h]
    by_cases g : z.deed = "for"
    · rw [if_pos g, if_pos g]
      exact ⟨rfl, rfl⟩
    · rw [if_neg g, if_neg g]
      exact ⟨rfl, rfl⟩
theorem found_get (A : RA) : (readF A.aL A.aM A.aF A.aB).lookup ("found" : Str) = some (V.ref A.aF) := rfl
theorem mean_get (A : RA) : (readF A.aL A.aM A.aF A.aB).lookup ("meanings" : Str) = some (V.ref A.aM) := rfl
theorem blk_out {K : PySem.W.Frag} {C CB CR : Addr} {H : Hp} {A : RA} {S : RS} (h : RdAt K C CB CR H A S) {b bx : Addr} {ln va ow lo : V} (e : H b = some (.ins CB bx (blockF ln va ow lo))) : b ∉ A.own := fun z => by
  rcases List.mem_cons.mp z with y | z
  · exact ne_fld e h.r (fld_block ..) (fld_read ..) (by decide +kernel) y
  rcases List.mem_cons.mp z with y | z
  · exact ne_kind e h.L (fun z => nomatch z) y
  rcases List.mem_cons.mp z with y | z
  · exact ne_kind e h.M (fun z => nomatch z) y
  rcases List.mem_cons.mp z with y | z
  · exact ne_kind e h.F (fun z => nomatch z) y
  rcases List.mem_cons.mp z with y | z
  · exact ne_kind e h.B (fun z => nomatch z) y
  · obtain ⟨l, dx, tv, _, g⟩ := mem_x h z
    exact ne_fld e g (fld_block ..) (fld_line ..) (by decide +kernel) rfl
def spBegin (K : PySem.W.Frag) (C CB CR : Addr) : Sp := fun vs H Q _ => ∃ (A : RA) (S : RS) (x b : Addr) (i : Nat) (l : LnS) (k : Bk), vs = [.ref A.r, .ref x, .ref b] ∧ RdAt K C CB CR H A S ∧ A.xs[i]? = some x ∧ S.lines[i]? = some l ∧ BkAt CB H A.xs b k ∧ (l.z.deed = "def" → l.z.name ≠ none) ∧
  Once S.mean ∧ S.mean.length ≤ 1000000 ∧ S.blocks.length ≤ 1000000 ∧ ∀ (H' : Hp) (A' : RA), RdAt K C CB CR H' A' (beginS S i l.z k) → A'.r = A.r → A'.dx = A.dx → A'.xs = A.xs → Ext A H A' H' → Q .non H'
section
variable {P : Program} {w : World} {K : PySem.W.Frag} {mg : Str → Option Value} {base : Heap} {C CB CR : Addr}
theorem scBegin : FnScope ["self", "line", "around"] ["self", "line", "around"] (defScope mReading_begin) := ⟨rfl, rfl, rfl, by decide +kernel, rfl, by decide +kernel, by decide +kernel⟩
theorem ok_begin {f fO : Addr} {fd dO : FuncData} {tV tF : Tok} (F : Fun K "begin" "Reading.begin" mReading_begin f fd) (R : RdC K CR) (LT : LnC K C) (GO : FnOk P w K mg base CX0 3 fO dO ["line", "around"] (spBlockOf K C CB)) (gO : mg "block_of" = some (.ref fO)) (kO : PySem.W.keepIn K (.ref fO) = true) (bO : Binds K dO ["line", "around"] [])
    (gV : mg "VARIABLE" = some (.str "variable" tV)) (gF : mg "FUNCTION" = some (.str "function" tF)) : FnOk P w K mg base CX0 4 f fd ["self", "line", "around"] (spBegin K C CB CR) := by
  refine F.ok scBegin (fun vs H Q E h => ?_) (fun cdv A outer s H vs Q E hr h => ?_)
  · obtain ⟨A, S, x, b, i, l, k, rfl, _⟩ := h
    rfl
  · obtain ⟨A0, S, x, b, i, l, k, rfl, h, hx, hl, hb, hn, ho, hm, hk, q⟩ := h
    have hu2 : (A.deeper (envOfC "Reading.begin" (defScope mReading_begin) s.heap.objs.size f cdv)).units + 1 < PySem.cLine := by
      have := hr.un
      omega
    have nr : ∀ {f : Str}, f ∈ (["lines", "meanings", "found", "blocks"] : List Str) → NoAttr K CR f := fun h => R.na _ h
    have nl : ∀ {f : Str}, f ∈ lineNames → NoAttr K C f := fun h => LT.na _ h
    refine ⟨_, C8.pss_cut (ps_if (pt_cmp (pc_notN (pe_fld (pv 1) rfl))) (pss_one (ps_dput hu2 (pe_fld (pv 0) rfl) (pe_fld (pv 1) rfl) (pe_glob (v := .str "variable") (by rfl) gV ⟨_, rfl⟩) rfl)) pss_nil) <|
      C8.pss_cut (ps_if (pt_cmpR op_eq (pe_fld (pv 1) rfl) pe_str (nomark _)) (pss_one (ps_dput hu2 (pe_fld (pv 0) rfl) (pe_fld (pv 1) rfl) (pe_glob (v := .str "function") (by rfl) gF ⟨_, rfl⟩) rfl)) pss_nil) <|
      pss_one (ps_expr (pe_bm PySem.F.plainAttrs_list PySem.F.slot_list_append PySem.F.type_list_append mt_append (pe_fld (pv 0) rfl) (pa_cons (pe_call GO (hr.mono (by decide)) (by rfl) gO kO bO .nil pass0 (pa_cons (pv 1) (pa_cons (pv 2) pa_nil))) pa_nil))), ?_⟩
    obtain ⟨dx, tv, ex, cc⟩ := h.lines.get hx hl
    obtain ⟨bx, eb⟩ := hb
    have bo := blk_out h eb
    have keepX : ∀ (G : Hp) (M : Mean), RdAt K C CB CR G A0 ⟨S.lines, M, S.found, S.blocks⟩ → ∃ dx tv, G x = some (.ins C dx (l.f tv)) := fun G M hG => by
      obtain ⟨dx, tv, e, _⟩ := hG.lines.get hx hl
      exact ⟨dx, tv, e⟩
    have len1 := len_var l.z S.mean
    refine ⟨fun σ G => σ = [some (.ref A0.r), some (.ref x), some (.ref b)] ∧ RdAt K C CB CR G A0 ⟨S.lines, varM l.z S.mean, S.found, S.blocks⟩ ∧ Ext A0 H A0 G, ?_, ?_⟩
    · refine ⟨_, rfl, x, C, dx, _, oV l.z.var, rfl, ex, LT.cl, nl (by decide +kernel), rfl, _, rfl, ?_⟩
      cases hv : l.z.var with
      | none =>
        refine iteF ⟨rfl, ?_, Ext.refl⟩
        have : varM l.z S.mean = S.mean := by
          unfold varM
          rw [hv]
        rw [this]
        exact h
      | some v =>
        have em : varM l.z S.mean = putMean S.mean v "variable" := by
          unfold varM
          rw [hv]
        have ef : (l.f tv).lookup ("variable" : Str) = some (.str v) := by
          show some (oV l.z.var) = _
          rw [hv]
          rfl
        refine iteT ⟨_, rfl, A0.r, CR, A0.dx, _, _, rfl, h.r, R.cl, nr (by decide +kernel), mean_get A0, _, rfl, x, C, dx, _, _, rfl, ex, LT.cl, nl (by decide +kernel), ef, A0.aM, _, rfl, DPut.k (k := .inr v) h.M (by rw [mKV_len]; exact Nat.lt_of_le_of_lt hm (by decide)), rfl, ?_⟩
        rw [put_kv _ _ _ ho, em]
        exact h.addMean _
    · rintro σ G ⟨rfl, hG, hE⟩
      have ho1 := once_var (z := l.z) ho
      obtain ⟨dx1, tv1, ex1⟩ := keepX _ _ hG
      refine ⟨fun σ G => σ = [some (.ref A0.r), some (.ref x), some (.ref b)] ∧ RdAt K C CB CR G A0 ⟨S.lines, beginM l.z S.mean, S.found, S.blocks⟩ ∧ Ext A0 H A0 G, ?_, ?_⟩
      · refine ⟨_, rfl, x, C, dx1, _, _, rfl, ex1, LT.cl, nl (by decide +kernel), rfl, rfl, _, rfl, ?_⟩
        show (if decide (V.str l.z.deed = V.str "def") = true then _ else _)
        by_cases hd : l.z.deed = "def"
        · rw [decide_eq_true (by rw [hd])]
          cases hnm : l.z.name with
          | none => exact absurd hnm (hn hd)
          | some n =>
            have em : beginM l.z S.mean = putMean (varM l.z S.mean) n "function" := by
              unfold beginM nameM
              rw [if_pos hd, hnm]
            have ef : (l.f tv1).lookup ("name" : Str) = some (.str n) := by
              show some (oV l.z.name) = _
              rw [hnm]
              rfl
            refine iteT ⟨_, rfl, A0.r, CR, A0.dx, _, _, rfl, hG.r, R.cl, nr (by decide +kernel), mean_get A0, _, rfl, x, C, dx1, _, _, rfl, ex1, LT.cl, nl (by decide +kernel), ef, A0.aM, _, rfl, DPut.k (k := .inr n) hG.M (by rw [mKV_len]; exact Nat.lt_of_le_of_lt (show _ ≤ 1000001 by dsimp only; omega) (by decide)), rfl, ?_⟩
            rw [put_kv _ _ _ ho1, em]
            obtain ⟨g1, g2⟩ := hG.addMean (putMean (varM l.z S.mean) n "function")
            exact ⟨g1, hE.trans g2⟩
        · rw [decide_eq_false (fun e => hd (V.str.inj e))]
          have em : beginM l.z S.mean = varM l.z S.mean := by
            unfold beginM
            rw [if_neg hd]
          rw [em]
          exact iteF ⟨rfl, hG, hE⟩
      · rintro σ G ⟨rfl, hG, hE⟩
        obtain ⟨dx1, tv1, ex1⟩ := keepX _ _ hG
        have eb1 := hE.keep b _ bo eb
        refine ⟨_, rfl, A0.r, CR, A0.dx, _, _, rfl, hG.r, R.cl, nr (by decide +kernel), blocks_get A0, .inl ⟨rfl, _, SqL.of hG.B⟩, ?_⟩
        refine ⟨_, rfl, _, rfl, x, dx1, b, bx, l.z.deed, _, _, _, _, _, _, _, _, _, _, _, k.lo, rfl, ex1, eb1, fun G1 y dy s1 ny ey => ?_⟩
        obtain ⟨e1, e2⟩ := blockOf_is i l.z k
        rw [e1] at ey
        have hk1 : BkAt CB G1 A0.xs y (bkOf i l.z k) := ⟨dy, by
          rw [e2, ey]
          have : bkLine A0.xs (some i) = .ref x := by
            show V.ref (A0.xs[i]?.getD 0) = _
            rw [hx]
            rfl
          rw [this]⟩
        have hG1 := hG.same s1
        refine ⟨A0.aB, _, _, rfl, rfl, hG1.B, ?_, ?_⟩
        · rw [List.length_map, h.blocks.length]
          exact Nat.lt_of_le_of_lt hk (by decide)
        · obtain ⟨g1, g2⟩ := hG1.addBlock hk1
          have ea : A0.bs.map V.ref ++ [V.ref y] = (A0.bs ++ [y]).map V.ref := by simp
          rw [ea]
          exact q _ _ g1 rfl rfl rfl (hE.trans ((Ext.same s1).trans g2))
end
end TX
namespace TX
open PySem PySem.Spec PyProof.Rows L2 KTD
/-! ### a line is put behind the others -/
def putM (z : LnZ) (M : Mean) : Mean := if z.deed = "give" then (match z.name with
  | some n => putMean M n "taker"
  | none => M) else M
def putS0 (S : RS) (z : LnZ) (k : Bk) : RS := ⟨S.lines ++ [⟨z, S.lines.length, S.lines.length + 1, none⟩], putM z S.mean, S.found ++ (askedF z k.own).map fun f => (S.lines.length, f), S.blocks⟩
def putS (S : RS) (z : LnZ) (k : Bk) : RS := if z.deed ∈ openW then beginS (putS0 S z k) S.lines.length z k else putS0 S z k
theorem RdAt.free {K : PySem.W.Frag} {C CB CR : Addr} {H : Hp} {A : RA} {S : RS} (h : RdAt K C CB CR H A S) {p : Addr} (np : H p = none) : p ∉ A.own := fun z => by
  rcases List.mem_cons.mp z with e | z
  · rw [e, h.r] at np
    cases np
  rcases List.mem_cons.mp z with e | z
  · rw [e, h.L] at np
    cases np
  rcases List.mem_cons.mp z with e | z
  · rw [e, h.M] at np
    cases np
  rcases List.mem_cons.mp z with e | z
  · rw [e, h.F] at np
    cases np
  rcases List.mem_cons.mp z with e | z
  · rw [e, h.B] at np
    cases np
  · obtain ⟨l, dx, tv, _, e⟩ := mem_x h z
    rw [e] at np
    cases np
theorem putM_len (z : LnZ) (M : Mean) : (putM z M).length ≤ M.length + 1 := by
  unfold putM
  split
  · split
    · exact put_len _ _ _
    · omega
  · omega
theorem putM_once {z : LnZ} {M : Mean} (h : Once M) : Once (putM z M) := by
  unfold putM
  split
  · split
    · exact once_put _ _ _ h
    · exact h
  · exact h
theorem asked_len (z : LnZ) (o : Option Str) (h : z.deed = "if" → ∃ c, z.code = some c ∧ CodeOk c) : (askedF z o).length ≤ 500 := by
  unfold askedF
  by_cases e : z.deed = "if"
  · obtain ⟨c, hc, so, cl⟩ := h e
    rw [if_pos e, hc]
    exact Nat.le_trans (List.length_filterMap_le _ _) cl
  · rw [if_neg e]
    split
    · exact Nat.zero_le _
    · split
      · exact Nat.zero_le _
      · exact Nat.succ_le_succ (Nat.zero_le _)
def spPut (K : PySem.W.Frag) (C CB CR : Addr) : Sp := fun vs H Q _ => ∃ (A : RA) (S : RS) (x dx b : Addr) (z : LnZ) (tv : V) (k : Bk), vs = [.ref A.r, .ref x, .ref b] ∧ RdAt K C CB CR H A S ∧ H x = some (.ins C dx (z.f tv .non .non .non)) ∧ x ∉ A.xs ∧ CodeAt K (outD A H) tv z.code ∧ BkAt CB H A.xs b k ∧ BkIn S ∧ (∀ i, k.line = some i → i < S.lines.length) ∧
  (z.deed = "if" → ∃ c, z.code = some c ∧ CodeOk c) ∧ (z.deed = "def" → z.name ≠ none) ∧ (z.deed = "give" → z.name ≠ none) ∧ Once S.mean ∧ S.mean.length ≤ 100000 ∧ S.blocks.length ≤ 100000 ∧ S.lines.length ≤ 100000 ∧ S.found.length ≤ 15000000 ∧
  ∀ (H' : Hp) (A' : RA), RdAt K C CB CR H' A' (putS S z k) → A'.r = A.r → A'.dx = A.dx → A'.xs = A.xs ++ [x] → Ext (A.addX x) H A' H' → Q .non H'
section
variable {P : Program} {w : World} {K : PySem.W.Frag} {mg : Str → Option Value} {base : Heap} {C CB CR : Addr}
theorem scPut : FnScope ["self", "line", "around", "number", "form"] ["self", "line", "around"] (defScope mReading_put) := ⟨rfl, rfl, rfl, by decide +kernel, rfl, by decide +kernel, by decide +kernel⟩
theorem ok_put {f fA fB aO : Addr} {fd dA dB : FuncData} {tT : Tok} (F : Fun K "put" "Reading.put" mReading_put f fd) (len : mg "len" = none) (R : RdC K CR) (LT : LnC K C) (BT : BkC K CB) (gO : mg "OPENERS" = some (.ref aO)) (TO : ∀ H, SqT K H aO (openW.map V.str)) (gT : mg "TAKER" = some (.str "taker" tT))
    (GA : FnOk P w K mg base CX0 2 fA dA ["line", "own"] (spAsked K C)) (gA : mg "asked_forms" = some (.ref fA)) (kA : PySem.W.keepIn K (.ref fA) = true) (bA : Binds K dA ["line", "own"] [])
    (mB : Meth K CR "begin" fB) (GB : FnOk P w K mg base CX0 4 fB dB ["self", "line", "around"] (spBegin K C CB CR)) (bB : Binds K dB ["self", "line", "around"] []) : FnOk P w K mg base CX0 5 f fd ["self", "line", "around"] (spPut K C CB CR) := by
  refine F.ok scPut (fun vs H Q E h => ?_) (fun cdv A outer s H vs Q E hr h => ?_)
  · obtain ⟨A, S, x, dx, b, z, tv, k, rfl, _⟩ := h
    rfl
  · obtain ⟨A0, S, x, dx, b, z, tv, k, rfl, h, ex, nx, cc, hb, hi, hk, hI, hD, hG, ho, hm, hbl, hll, hfl, q⟩ := h
    have hu2 : (A.deeper (envOfC "Reading.put" (defScope mReading_put) s.heap.objs.size f cdv)).units + 1 < PySem.cLine := by
      have := hr.un
      omega
    have nr : ∀ {f : Str}, f ∈ (["lines", "meanings", "found", "blocks"] : List Str) → NoAttr K CR f := fun h => R.na _ h
    have nl : ∀ {f : Str}, f ∈ lineNames → NoAttr K C f := fun h => LT.na _ h
    have nb : ∀ {f : Str}, f ∈ (["line", "variable", "own", "looped"] : List Str) → NoAttr K CB f := fun h => BT.na _ h
    refine ⟨_, pss_cons (ps_set (i := 3) scPut.nd rfl (.inl rfl) (pe_callB call_len_seq (by rfl) len PySem.boot_len (pa_cons (pe_fld (pv 0) rfl) pa_nil))) <|
      pss_cons (ps_fld (pv 1) (pv 3) rfl) <| pss_cons (ps_fld (pv 1) (pe_op op_add (pv 3) pe_int) rfl) <|
      pss_cons (ps_expr (pe_bm PySem.F.plainAttrs_list PySem.F.slot_list_append PySem.F.type_list_append mt_append (pe_fld (pv 0) rfl) (pa_cons (pv 1) pa_nil))) <|
      C8.pss_cut (ps_if (pt_cmpR op_eq (pe_fld (pv 1) rfl) pe_str (nomark _)) (pss_one (ps_dput hu2 (pe_fld (pv 0) rfl) (pe_fld (pv 1) rfl) (pe_glob (v := .str "taker") (by rfl) gT ⟨_, rfl⟩) rfl)) pss_nil) <|
      pss_cons (ps_for PassesOwn.never rfl (pi_list (pe_call GA (hr.mono (by decide)) (by rfl) gA kA bA .nil pass0 (pa_cons (pv 1) (pa_cons (pe_fld (pv 2) rfl) pa_nil)))) (pg_name (i := 4) scPut.nd rfl (.inl rfl)) (pss_one (ps_expr (pe_bm PySem.F.plainAttrs_list PySem.F.slot_list_append PySem.F.type_list_append mt_append (pe_fld (pv 0) rfl) (pa_cons (pe_tup (pa_cons (pv 3) (pa_cons (pv 4) pa_nil))) pa_nil))))) <|
      pss_one (ps_if (pt_cmpR op_in_seq (pe_fld (pv 1) rfl) (pe_glob (v := .ref aO) (by rfl) gO rfl) (by rfl)) (pss_one (ps_expr (pe_meth (pv 0) R.cl mB GB (hr.mono (by decide)) bB .nil pass0 (pa_cons (pv 1) (pa_cons (pv 2) pa_nil))))) pss_nil), ?_⟩
    have ll := h.lines.length
    obtain ⟨bx, eb⟩ := hb
    have bo := blk_out h eb
    refine ⟨_, rfl, A0.r, CR, A0.dx, _, _, rfl, h.r, R.cl, nr (by decide +kernel), lines_get A0, A0.aL, _, rfl, .inl (SqL.of h.L), ?_⟩
    rw [List.length_map, ll]
    -- the line's own fields
    refine ⟨_, rfl, _, rfl, x, C, dx, _, rfl, ex, LT.cl, nl (by decide +kernel), (by show 9 < 1000; decide), ?_⟩
    refine ⟨_, rfl, _, _, rfl, rfl, _, rfl, x, C, dx, _, rfl, upd_same, LT.cl, nl (by decide +kernel), (by show 9 < 1000; decide), ?_⟩
    rw [upd_upd]
    have ef : putF "after" (.int (((S.lines.length : Nat) : Int) + 1)) (putF "number" (.int ((S.lines.length : Nat) : Int)) (z.f tv .non .non .non)) = LnS.f ⟨z, S.lines.length, S.lines.length + 1, none⟩ tv := rfl
    rw [ef]
    have xr : x ≠ A0.r := ne_fld ex h.r (fld_line ⟨z, 0, 0, none⟩ tv) (fld_read ..) (by decide +kernel)
    have s1 : ∀ b o, b ≠ x → H b = some o → (upd H x (.ins C dx (LnS.f ⟨z, S.lines.length, S.lines.length + 1, none⟩ tv))) b = some o := fun b o hb e => by
      rw [upd_ne hb]
      exact e
    have kd : ∀ {b : Addr} {o : HO}, H b = some o → (∀ C dx fs, o ≠ .ins C dx fs) → b ≠ x := fun h1 h2 => ne_kind h1 ex (h2 _ _ _)
    have h1 : RdAt K C CB CR (upd H x (.ins C dx (LnS.f ⟨z, S.lines.length, S.lines.length + 1, none⟩ tv))) A0 S := by
      have sD : Same (outD A0 H) (outD A0 (upd H x (.ins C dx (LnS.f ⟨z, S.lines.length, S.lines.length + 1, none⟩ tv)))) := outD_upd ex (.inl rfl) rfl rfl rfl
      refine ⟨s1 _ _ xr.symm h.r, s1 _ _ (kd h.L fun _ _ _ z => nomatch z) h.L, s1 _ _ (kd h.M fun _ _ _ z => nomatch z) h.M, s1 _ _ (kd h.F fun _ _ _ z => nomatch z) h.F, s1 _ _ (kd h.B fun _ _ _ z => nomatch z) h.B, h.LF, h.LB, h.FB, h.nd, ?_, ?_, ?_⟩
      · exact h.lines.imp' fun y hy l hl ⟨dy, ty, e, c⟩ => ⟨dy, ty, s1 _ _ (fun z => nx (z ▸ hy)) e, c.same sD⟩
      · exact h.found.imp fun t p e => by
          unfold FdAt at e ⊢
          exact s1 _ _ (kd e fun _ _ _ z => nomatch z) e
      · exact h.blocks.imp fun b k ⟨bx, e⟩ => ⟨bx, s1 _ _ (ne_fld e ex (fld_block ..) (fld_line ⟨z, 0, 0, none⟩ tv) (by decide +kernel)) e⟩
    have E1 : Ext (A0.addX x) H (A0.addX x) (upd H x (.ins C dx (LnS.f ⟨z, S.lines.length, S.lines.length + 1, none⟩ tv))) := Ext.upd own_add
    have cc1 : CodeAt K (outD A0 (upd H x (.ins C dx (LnS.f ⟨z, S.lines.length, S.lines.length + 1, none⟩ tv)))) tv z.code := cc.same (outD_upd ex (.inl rfl) rfl rfl rfl)
    have eb1 := s1 _ _ (ne_fld eb ex (fld_block ..) (fld_line ⟨z, 0, 0, none⟩ tv) (by decide +kernel)) eb
    have ex1 : (upd H x (.ins C dx (LnS.f ⟨z, S.lines.length, S.lines.length + 1, none⟩ tv))) x = some (.ins C dx (LnS.f ⟨z, S.lines.length, S.lines.length + 1, none⟩ tv)) := upd_same
    generalize upd H x (.ins C dx (LnS.f ⟨z, S.lines.length, S.lines.length + 1, none⟩ tv)) = H1 at s1 h1 E1 cc1 eb1 ex1 ⊢
    refine ⟨_, rfl, A0.r, CR, A0.dx, _, _, rfl, h1.r, R.cl, nr (by decide +kernel), lines_get A0, .inl ⟨rfl, _, SqL.of h1.L⟩, _, rfl, A0.aL, _, _, rfl, rfl, h1.L, (by rw [List.length_map, ll]; exact Nat.lt_of_le_of_lt hll (by decide)), ?_⟩
    have ea : A0.xs.map V.ref ++ [V.ref x] = (A0.xs ++ [x]).map V.ref := by simp
    rw [ea]
    obtain ⟨h2, E2⟩ := h1.addLine hi ex1 nx cc1
    have E2 := E1.trans E2
    have bo2 : b ∉ (A0.addX x).own := fun y => by
      rcases own_addX.mp y with y | y
      · exact bo y
      · exact ne_fld eb ex (fld_block ..) (fld_line ⟨z, 0, 0, none⟩ tv) (by decide +kernel) y
    have eb2 := E2.keep b _ bo2 eb
    generalize upd H1 A0.aL (.lst ((A0.xs ++ [x]).map V.ref)) = H2 at h2 E2 eb2 ⊢
    have hx2 : (A0.addX x).xs[S.lines.length]? = some x := by
      show (A0.xs ++ [x])[S.lines.length]? = _
      rw [← ll]
      simp
    have hl2 : (S.lines ++ [(⟨z, S.lines.length, S.lines.length + 1, none⟩ : LnS)])[S.lines.length]? = some ⟨z, S.lines.length, S.lines.length + 1, none⟩ := by simp
    have line : ∀ {G : Hp} {B : RA} {M : Mean} {fo : List (Nat × Str)} {bs : List Bk}, B.xs = (A0.addX x).xs → RdAt K C CB CR G B ⟨S.lines ++ [⟨z, S.lines.length, S.lines.length + 1, none⟩], M, fo, bs⟩ → ∃ dx tv, G x = some (.ins C dx (LnS.f ⟨z, S.lines.length, S.lines.length + 1, none⟩ tv)) ∧ CodeAt K G tv z.code := fun {G B M fo bs} eB hG => by
      obtain ⟨dx, tv, e, cG⟩ := hG.lines.get (by rw [eB]; exact hx2) hl2
      exact ⟨dx, tv, e, CodeAt.same (fun b o y => (outD_some.mp y).2.1) cG⟩
    refine ⟨fun σ G => σ = [some (.ref A0.r), some (.ref x), some (.ref b), some (.int (S.lines.length : Nat)), none] ∧ RdAt K C CB CR G (A0.addX x) ⟨S.lines ++ [⟨z, S.lines.length, S.lines.length + 1, none⟩], putM z S.mean, S.found, S.blocks⟩ ∧ Ext (A0.addX x) H (A0.addX x) G, ?_, ?_⟩
    · obtain ⟨dx2, tv2, ex2, _⟩ := line rfl h2
      refine ⟨_, rfl, x, C, dx2, _, _, rfl, ex2, LT.cl, nl (by decide +kernel), rfl, rfl, _, rfl, ?_⟩
      show (if decide (V.str z.deed = V.str "give") = true then _ else _)
      by_cases hd : z.deed = "give"
      · rw [decide_eq_true (by rw [hd])]
        cases hnm : z.name with
        | none => exact absurd hnm (hG hd)
        | some n =>
          have em : putM z S.mean = putMean S.mean n "taker" := by
            unfold putM
            rw [if_pos hd, hnm]
          have ef : (LnS.f ⟨z, S.lines.length, S.lines.length + 1, none⟩ tv2).lookup ("name" : Str) = some (.str n) := by
            show some (oV z.name) = _
            rw [hnm]
            rfl
          refine iteT ⟨_, rfl, A0.r, CR, A0.dx, _, _, rfl, h2.r, R.cl, nr (by decide +kernel), mean_get A0, _, rfl, x, C, dx2, _, _, rfl, ex2, LT.cl, nl (by decide +kernel), ef, A0.aM, _, rfl, DPut.k (k := .inr n) h2.M (by rw [mKV_len]; exact Nat.lt_of_le_of_lt hm (by decide)), rfl, ?_⟩
          rw [put_kv _ _ _ ho, em]
          obtain ⟨g1, g2⟩ := h2.addMean (putMean S.mean n "taker")
          exact ⟨g1, E2.trans g2⟩
      · rw [decide_eq_false (fun e => hd (V.str.inj e))]
        have em : putM z S.mean = S.mean := by
          unfold putM
          rw [if_neg hd]
        rw [em]
        exact iteF ⟨rfl, h2, E2⟩
    · rintro σ G ⟨rfl, hG3, E3⟩
      have eb3 := E3.keep b _ bo2 eb
      obtain ⟨dx3, tv3, ex3, c3⟩ := line rfl hG3
      refine ⟨_, rfl, _, rfl, b, CB, bx, _, oV k.own, rfl, eb3, BT.cl, nb (by decide +kernel), rfl, x, dx3, z, tv3, _, _, _, k.own, rfl, ex3, fun y => ?_, fun G4 p s4 np e4 => ?_⟩
      · obtain ⟨c, hc, so⟩ := hI y
        rw [hc] at c3
        exact ⟨c, hc, c3, so⟩
      have pO := hG3.free np
      have h4 := hG3.same s4
      have E4 := E3.trans (Ext.same s4)
      have fl := asked_len z k.own hI
      refine ⟨p, rfl, ⟨_, SqL.of e4⟩, for_list (K := K) (a := p) (xs := (askedF z k.own).map V.str) (fun j σ H' => ∃ (y : Option V) (B : RA), σ = [some (.ref A0.r), some (.ref x), some (.ref b), some (.int (S.lines.length : Nat)), y] ∧ RdAt K C CB CR H' B ⟨S.lines ++ [⟨z, S.lines.length, S.lines.length + 1, none⟩], putM z S.mean, S.found ++ ((askedF z k.own).take j).map fun f => (S.lines.length, f), S.blocks⟩ ∧ B.r = A0.r ∧ B.dx = A0.dx ∧ B.xs = (A0.addX x).xs ∧ Ext (A0.addX x) G4 B H')
        ⟨none, A0.addX x, rfl, by simpa using h4, rfl, rfl, rfl, Ext.refl⟩ (fun j σ H' hj ⟨_, _, _, _, _, _, _, e⟩ => SqL.of (e.keep p _ pO e4)) ?_ ?_⟩
      · rintro j v σ H' hv ⟨y, B, rfl, hR, eBr, eBd, eBx, hE⟩
        rw [List.getElem?_map] at hv
        cases hf : (askedF z k.own)[j]? with
        | none =>
          rw [hf] at hv
          cases hv
        | some fo =>
          rw [hf] at hv
          cases hv
          have tk : (askedF z k.own).take (j + 1) = (askedF z k.own).take j ++ [fo] := by
            rw [List.take_add_one, hf]
            rfl
          have flen := hR.found.length
          dsimp only at flen
          rw [List.length_append, List.length_map, List.length_take] at flen
          refine ⟨_, rfl, B.r, CR, B.dx, _, _, by rw [eBr], hR.r, R.cl, nr (by decide +kernel), found_get B, .inl ⟨rfl, _, SqL.of hR.F⟩, _, rfl, _, rfl, (by show 2 ≤ sizeLine; decide), fun t nt => ?_⟩
          have s5 := same_upd (o := .tup [.int (S.lines.length : Nat), .str fo]) nt
          have e5 : FdAt (upd H' t (.tup [.int (S.lines.length : Nat), .str fo])) t (S.lines.length, fo) := upd_same
          have h5 := hR.same s5
          have E5 := hE.trans (Ext.same s5)
          dsimp only
          generalize upd H' t (.tup [.int (S.lines.length : Nat), .str fo]) = H5 at s5 e5 h5 E5 ⊢
          obtain ⟨g1, g2⟩ := h5.addFound e5
          refine ⟨B.aF, _, _, rfl, rfl, h5.F, ?_, _, B.addF t, rfl, ?_, eBr, eBd, eBx, E5.trans ?_⟩
          · rw [List.length_map]
            exact Nat.lt_of_le_of_lt (show B.fs.length ≤ 15000501 by omega) (by decide)
          · have ea : B.fs.map V.ref ++ [V.ref t] = (B.fs ++ [t]).map V.ref := by simp
            have ef : S.found ++ ((askedF z k.own).take (j + 1)).map (fun f => (S.lines.length, f)) = S.found ++ ((askedF z k.own).take j).map (fun f => (S.lines.length, f)) ++ [(S.lines.length, fo)] := by
              rw [tk, List.map_append, List.append_assoc]
              rfl
            rw [ea, ef]
            exact g1
          · have ea : B.fs.map V.ref ++ [V.ref t] = (B.fs ++ [t]).map V.ref := by simp
            rw [ea]
            exact g2
      · rintro σ H' ⟨y, B, rfl, hR, eBr, eBd, eBx, hE⟩
        rw [List.length_map, List.take_length] at hR
        have E6 := E4.trans hE
        obtain ⟨dx6, tv6, ex6, _⟩ := line eBx hR
        refine ⟨_, rfl, x, C, dx6, _, _, rfl, ex6, LT.cl, nl (by decide +kernel), rfl, aO, openW.map V.str, rfl, .inr (TO H'), rfl, flat_texts _, ?_⟩
        rw [inV_texts]
        refine ⟨_, rfl, ?_⟩
        by_cases hop : z.deed ∈ openW
        · rw [decide_eq_true hop]
          have eb6 := E6.keep b _ bo2 eb
          have hbB : BkAt CB H' B.xs b k := ⟨bx, by
            have : bkLine B.xs k.line = bkLine A0.xs k.line := by
              cases hkl : k.line with
              | none => rfl
              | some i =>
                have il := hk i hkl
                rw [← ll] at il
                show V.ref (B.xs[i]?.getD 0) = V.ref (A0.xs[i]?.getD 0)
                rw [eBx]
                show V.ref ((A0.xs ++ [x])[i]?.getD 0) = _
                rw [List.getElem?_append_left il]
            rw [this]
            exact eb6⟩
          refine iteT ⟨_, rfl, B.r, B.dx, _, by rw [eBr], hR.r, rfl, _, rfl, _, rfl, B, _, x, b, S.lines.length, _, k, by rw [eBr]; rfl, hR, by rw [eBx]; exact hx2, hl2, hbB, hD, putM_once ho, ?_, ?_, ?_⟩
          · have := putM_len z S.mean
            show (putM z S.mean).length ≤ _
            omega
          · show S.blocks.length ≤ _
            omega
          · intro H7 B7 g1 g2 g3 g4 g5
            refine q H7 B7 ?_ (g2.trans eBr) (g3.trans eBd) (g4.trans eBx) (E6.trans g5)
            unfold putS
            rw [if_pos hop]
            exact g1
        · rw [decide_eq_false hop]
          refine iteF (q H' B ?_ eBr eBd eBx E6)
          unfold putS
          rw [if_neg hop]
          exact hR
end
end TX
namespace TX
open PySem PySem.Spec PyProof.Rows L2 KTD
/-! ### the next line: what it comes to -/
def readDefZ (ts : List Str) (M : Mean) : Option LnZ := (readDef ts M).map fun q => ⟨"def", some q.1, some q.2, none, none, none⟩
def lineOf (T : Tbs) (k : Bk) (d : Nat) (ts : List Str) (M : Mean) : Option LnZ := if d = 0 then readDefZ ts M else readInner T ts (k.var.getD "") (k.own.getD "") k.lo M
def shutS (S : RS) (d : Nat) (z : LnZ) : RS := if d < S.blocks.length - 1 then closeS S d (decide (z.deed = "else")) else S
def acceptS (T : Tbs) (S : RS) (sp : Nat) (ts : List Str) : Option RS :=
  if ts = [] ∨ mayStand S sp = false then none else match S.blocks[sp / 2]? with
  | none => none
  | some k => match lineOf T k (sp / 2) ts S.mean with
    | none => none
    | some z => if z.deed = "else" ∧ endsChoice S (sp / 2) = false then none else some (putS (shutS S (sp / 2) z) z k)
def outer : Bk := ⟨none, none, none, false⟩
def cs (t : Str) : List Nat := t.cps.toList
def TokOk (t : Str) : Prop := t ≠ "" ∧ ∀ c ∈ cs t, Unicode.isSpace c = false
def RowTok (ts : List Str) : Prop := Few ts ∧ ∀ t ∈ ts, PyData.strOk t = true ∧ t ≠ "V" ∧ TokOk t
structure BkGood (n : Nat) (k : Bk) : Prop where
  line : ∃ i, k.line = some i ∧ i < n
  var : ∃ v, k.var = some v ∧ v.length ≤ 5000 ∧ v ≠ "V" ∧ PyData.strOk v = true ∧ TokOk v
  own : ∃ o, k.own = some o
structure Good (S : RS) (n : Nat) : Prop where
  blocks : ∃ bs, S.blocks = outer :: bs ∧ ∀ k ∈ bs, BkGood S.lines.length k
  ll : S.lines.length ≤ n
  bl : S.blocks.length ≤ n + 1
  ne : 1 < S.blocks.length → S.lines ≠ []
  once : Once S.mean
  ml : S.mean.length ≤ 3 * n
  fl : S.found.length ≤ 500 * n
theorem Good.init : Good RS.init 0 := ⟨⟨[], rfl, fun k h => nomatch h⟩, Nat.le_refl _, Nat.le_refl _, fun h => absurd h (by decide), trivial, Nat.le_refl _, Nat.le_refl _⟩
theorem BkGood.more {n m : Nat} {k : Bk} (h : BkGood n k) (l : n ≤ m) : BkGood m k := ⟨by
  obtain ⟨i, e, g⟩ := h.line
  exact ⟨i, e, by omega⟩, h.var, h.own⟩
theorem Good.at {S : RS} {n d : Nat} {k : Bk} (h : Good S n) (e : S.blocks[d + 1]? = some k) : BkGood S.lines.length k := by
  obtain ⟨bs, eb, g⟩ := h.blocks
  rw [eb] at e
  exact g k (List.mem_of_getElem? (by simpa using e))
theorem Good.zero {S : RS} {n : Nat} (h : Good S n) : S.blocks[0]? = some outer := by
  obtain ⟨bs, eb, g⟩ := h.blocks
  rw [eb]
  rfl
theorem Good.pos {S : RS} {n : Nat} (h : Good S n) : 1 ≤ S.blocks.length := by
  obtain ⟨bs, eb, g⟩ := h.blocks
  rw [eb]
  simp
theorem Good.bkin {S : RS} {n : Nat} (h : Good S n) : BkIn S := fun k hk i ei => by
  obtain ⟨bs, eb, g⟩ := h.blocks
  rw [eb] at hk
  rcases List.mem_cons.mp hk with e | hk
  · rw [e] at ei
    cases ei
  · obtain ⟨j, ej, l⟩ := (g k hk).line
    rw [ej] at ei
    cases ei
    exact l
theorem readBare_some {w x : Str} {r : List Str} {lo : Bool} (h : readBare (w :: r) lo = some x) : x = w := by
  unfold readBare at h
  dsimp only at h
  by_cases e : w = "else"
  · rw [if_pos e] at h
    split at h
    · cases h
      exact e.symm
    · cases h
  · rw [if_neg e] at h
    split at h
    · cases h
    · cases h
      rfl
theorem readNamed_some {ta tg : Tbl} {ts : List Str} {va own : Str} {lo : Bool} {M : Mean} {q : Str × Str × Str × Str} (h : readNamed ta tg ts va own lo M = some q) : q.1 = "call" ∨ q.1 = "give" := by
  unfold readNamed at h
  split at h
  · cases h
  · split at h
    · obtain ⟨p, _, e⟩ := Option.map_eq_some_iff.mp h
      rw [← e]
      exact .inl rfl
    · split at h
      · obtain ⟨p, _, e⟩ := Option.map_eq_some_iff.mp h
        rw [← e]
        exact .inr rfl
      · cases h
/-- a line of an `if`: its code is small, its steps are whole -/
def IfOk (T : Tbs) (ts : List Str) : Prop := ts.head? = some ("if" : Str) → ∀ va, TokOk va → ∀ c, T.rt (ts.drop 1) va = some c → CodeOk c
structure LnGood (ts : List Str) (z : LnZ) : Prop where
  nif : z.deed = "if" → ∃ c, z.code = some c ∧ CodeOk c
  give : z.deed = "give" → z.name ≠ none
  df : z.deed = "def" → z.name ≠ none
  var : ∀ v, z.var = some v → v ∈ ts
  opn : z.deed = "def" ∨ z.deed = "for" → z.var ≠ none
  code : z.deed ≠ "if" → z.code = none
theorem inr_good {ts : List Str} {de n f a c : Str} (e : de = c) (h1 : c ≠ "if") (h2 : c ≠ "def") (h3 : c ≠ "for") : LnGood ts ⟨de, some n, none, some f, some a, none⟩ ∧ (LnZ.mk de (some n) none (some f) (some a) none).deed ≠ "def" := by
  subst e
  exact ⟨⟨(fun y => absurd y h1), (fun _ z => nomatch z), (fun _ z => nomatch z), (fun v e => nomatch e), fun y => y.elim (fun y => absurd y h2) (fun y => absurd y h3), fun _ => rfl⟩, h2⟩
theorem readInner_good {T : Tbs} {ts : List Str} {va own : Str} {lo : Bool} {M : Mean} {z : LnZ} (h : readInner T ts va own lo M = some z) (hi : IfOk T ts) (hv : TokOk va) : LnGood ts z ∧ z.deed ≠ "def" := by
  unfold readInner at h
  split at h
  · cases h
  · rename_i w r
    split at h
    · split at h
      · obtain ⟨⟨x, f, a⟩, hq, e⟩ := Option.map_eq_some_iff.mp h
        subst e
        refine ⟨⟨(fun e => absurd e (by show ("for" : Str) ≠ "if"; decide +kernel)), fun e => absurd e (by show ("for" : Str) ≠ "give"; decide +kernel), fun e => absurd e (by show ("for" : Str) ≠ "def"; decide +kernel), fun v ev => ?_, (fun _ z => nomatch z), fun _ => rfl⟩, (by show ("for" : Str) ≠ "def"; decide +kernel)⟩
        cases ev
        unfold readFor at hq
        split at hq
        · rename_i q y h1 h2
          split at hq
          · cases hq
            exact List.mem_of_getElem? h2
          · cases hq
        · cases hq
      · cases h
    · split at h
      · rename_i e
        obtain ⟨c, hc, e2⟩ := Option.map_eq_some_iff.mp h
        subst e2
        exact ⟨⟨fun _ => ⟨c, rfl, hi (by rw [e]; rfl) va hv c hc⟩, fun e => absurd e (by show ("if" : Str) ≠ "give"; decide +kernel), fun e => absurd e (by show ("if" : Str) ≠ "def"; decide +kernel), (fun v e => nomatch e), (fun y => y.elim (fun y => absurd y (by show ("if" : Str) ≠ "def"; decide +kernel)) (fun y => absurd y (by show ("if" : Str) ≠ "for"; decide +kernel))), fun y => absurd rfl y⟩, (by show ("if" : Str) ≠ "def"; decide +kernel)⟩
      · rename_i nif
        split at h
        · rename_i hb
          obtain ⟨x, hq, e⟩ := Option.map_eq_some_iff.mp h
          have ex := readBare_some hq
          subst e
          subst ex
          have ne : ∀ y : Str, y ∉ bareW → x ≠ y := fun y hy e => hy (e ▸ hb)
          exact ⟨⟨(fun y => absurd y nif), fun e => absurd e (ne _ (by decide +kernel)), fun e => absurd e (ne _ (by decide +kernel)), (fun v e => nomatch e), fun e => e.elim (fun e => absurd e (ne _ (by decide +kernel))) (fun e => absurd e (ne _ (by decide +kernel))), fun _ => rfl⟩, ne _ (by decide +kernel)⟩
        · obtain ⟨q, hq, e⟩ := Option.map_eq_some_iff.mp h
          subst e
          rcases readNamed_some hq with e | e
          · exact inr_good e (by decide +kernel) (by decide +kernel) (by decide +kernel)
          · exact inr_good e (by decide +kernel) (by decide +kernel) (by decide +kernel)
theorem readDefZ_good {ts : List Str} {M : Mean} {z : LnZ} (h : readDefZ ts M = some z) : LnGood ts z ∧ z.deed = "def" := by
  unfold readDefZ at h
  obtain ⟨⟨n, v⟩, hq, e⟩ := Option.map_eq_some_iff.mp h
  subst e
  refine ⟨⟨(fun e => absurd e (by show ("def" : Str) ≠ "if"; decide +kernel)), fun e => absurd e (by show ("def" : Str) ≠ "give"; decide +kernel), (fun _ z => nomatch z), fun y ev => ?_, (fun _ z => nomatch z), fun _ => rfl⟩, rfl⟩
  cases ev
  unfold readDef at hq
  split at hq
  · split at hq
    · cases hq
      simp
    · cases hq
  · cases hq
theorem lineOf_good {T : Tbs} {k : Bk} {d : Nat} {ts : List Str} {M : Mean} {z : LnZ} (h : lineOf T k d ts M = some z) (hi : IfOk T ts) (hv : d ≠ 0 → TokOk (k.var.getD "")) : LnGood ts z ∧ (z.deed = "def" ↔ d = 0) := by
  unfold lineOf at h
  split at h
  · rename_i e
    obtain ⟨g, e2⟩ := readDefZ_good h
    exact ⟨g, fun _ => e, fun _ => e2⟩
  · rename_i e
    obtain ⟨g, e2⟩ := readInner_good h hi (hv e)
    exact ⟨g, fun y => absurd y e2, fun y => absurd y e⟩
theorem Good.close {S : RS} {n d : Nat} {ch : Bool} (h : Good S n) (hd : d + 1 ≤ S.blocks.length) : Good (closeS S d ch) n := by
  obtain ⟨bs, eb, g⟩ := h.blocks
  refine ⟨⟨bs.take d, ?_, fun k hk => ?_⟩, ?_, ?_, fun hl => ?_, h.once, h.ml, h.fl⟩
  · show S.blocks.take (d + 1) = _
    rw [eb, List.take_succ_cons]
  · rw [show (closeS S d ch).lines = closeL S d ch from rfl, closeL_len]
    exact g k (List.mem_of_mem_take hk)
  · rw [show (closeS S d ch).lines = closeL S d ch from rfl, closeL_len]
    exact h.ll
  · show (S.blocks.take (d + 1)).length ≤ _
    rw [List.length_take]
    have := h.bl
    omega
  · have hl : 1 < (S.blocks.take (d + 1)).length := hl
    rw [List.length_take] at hl
    have := h.ne (by omega)
    intro z
    have e : (closeL S d ch).length = 0 := by rw [show closeL S d ch = (closeS S d ch).lines from rfl, z]; rfl
    rw [closeL_len] at e
    exact this (List.length_eq_zero_iff.mp e)
theorem Good.shut {S : RS} {n d : Nat} {z : LnZ} (h : Good S n) (hd : d + 1 ≤ S.blocks.length) : Good (shutS S d z) n ∧ (shutS S d z).lines.length = S.lines.length ∧ (shutS S d z).mean = S.mean ∧ (shutS S d z).found = S.found ∧ (shutS S d z).blocks = S.blocks.take (d + 1) := by
  unfold shutS
  by_cases e : d < S.blocks.length - 1
  · rw [if_pos e]
    exact ⟨h.close hd, closeL_len S d _, rfl, rfl, rfl⟩
  · rw [if_neg e]
    exact ⟨h, rfl, rfl, rfl, (List.take_of_length_le (by omega)).symm⟩
theorem Good.put {S : RS} {n : Nat} {z : LnZ} {k : Bk} {ts : List Str} (h : Good S n) (hz : LnGood ts z) (ht : RowTok ts) (hk : z.deed ≠ "def" → BkGood S.lines.length k) : Good (putS S z k) (n + 1) ∧ (putS S z k).lines.length = S.lines.length + 1 := by
  obtain ⟨bs, eb, g⟩ := h.blocks
  have h0 : (putS0 S z k).lines.length = S.lines.length + 1 := by
    show (S.lines ++ [_]).length = _
    simp
  have hl : (putS S z k).lines = (putS0 S z k).lines := by
    unfold putS
    split <;> rfl
  have ll := h.ll
  have bl := h.bl
  have ml := h.ml
  have fl := h.fl
  have am := asked_len z k.own hz.nif
  have pm := putM_len z S.mean
  have f0 : (putS0 S z k).found.length ≤ 500 * (n + 1) := by
    show (S.found ++ _).length ≤ _
    rw [List.length_append, List.length_map]
    omega
  have lz : ∀ v, z.var = some v → v.length ≤ 5000 ∧ v ≠ "V" ∧ PyData.strOk v = true ∧ TokOk v := fun v ev => by
    have hm := hz.var v ev
    have f1 := few_one hm
    have f2 := ht.1
    unfold Few at f2
    exact ⟨by omega, (ht.2 v hm).2.1, (ht.2 v hm).1, (ht.2 v hm).2.2⟩
  have some_of : ∀ {o : Option Str}, o ≠ none → ∃ v, o = some v := fun {o} h => by
    cases o with
    | none => exact absurd rfl h
    | some v => exact ⟨v, rfl⟩
  have ne1 : (putS S z k).lines ≠ [] := fun e => by
    rw [hl] at e
    rw [e] at h0
    simp at h0
  refine ⟨?_, by rw [hl]; exact h0⟩
  unfold putS at hl ne1 ⊢
  by_cases ho : z.deed ∈ openW
  · rw [if_pos ho] at hl ne1 ⊢
    have lb := len_begin z (putM z S.mean)
    have gk : BkGood (S.lines.length + 1) (bkOf S.lines.length z k) := by
      unfold bkOf
      by_cases e1 : z.deed = "def"
      · rw [if_pos e1]
        obtain ⟨v, ev⟩ := some_of (hz.opn (.inl e1))
        obtain ⟨o, eo⟩ := some_of (hz.df e1)
        exact ⟨⟨_, rfl, by omega⟩, ⟨v, ev, lz v ev⟩, ⟨o, eo⟩⟩
      · rw [if_neg e1]
        have kg := hk e1
        by_cases e2 : z.deed = "for"
        · rw [if_pos e2]
          obtain ⟨v, ev⟩ := some_of (hz.opn (.inr e2))
          exact ⟨⟨_, rfl, by omega⟩, ⟨v, ev, lz v ev⟩, kg.own⟩
        · rw [if_neg e2]
          exact ⟨⟨_, rfl, by omega⟩, kg.var, kg.own⟩
    refine ⟨⟨bs ++ [bkOf S.lines.length z k], ?_, fun k2 hk2 => ?_⟩, ?_, ?_, fun _ => ne1, once_begin (putM_once h.once), ?_, f0⟩
    · show S.blocks ++ _ = _
      rw [eb]
      rfl
    · rw [hl, h0]
      rcases List.mem_append.mp hk2 with y | y
      · exact (g k2 y).more (by omega)
      · rw [List.mem_singleton.mp y]
        exact gk
    · rw [hl, h0]
      omega
    · show (S.blocks ++ [_]).length ≤ _
      rw [List.length_append]
      simp
      omega
    · show (beginM z (putM z S.mean)).length ≤ _
      omega
  · rw [if_neg ho] at hl ne1 ⊢
    refine ⟨⟨bs, eb, fun k2 hk2 => ?_⟩, ?_, ?_, fun _ => ne1, putM_once h.once, ?_, f0⟩
    · rw [h0]
      exact (g k2 hk2).more (by omega)
    · rw [h0]
      omega
    · show S.blocks.length ≤ _
      omega
    · show (putM z S.mean).length ≤ _
      omega
theorem Good.tok {S : RS} {n d : Nat} {k : Bk} (h : Good S n) (e : S.blocks[d]? = some k) : d ≠ 0 → TokOk (k.var.getD "") := fun d0 => by
  obtain ⟨m, rfl⟩ : ∃ m, d = m + 1 := ⟨d - 1, by omega⟩
  obtain ⟨v, ev, _, _, _, tv⟩ := (h.at e).var
  rw [ev]
  exact tv
theorem accept_good {T : Tbs} {S S' : RS} {n sp : Nat} {ts : List Str} (h : Good S n) (e : acceptS T S sp ts = some S') (ht : RowTok ts) (hi : IfOk T ts) : Good S' (n + 1) ∧ S'.lines.length = S.lines.length + 1 := by
  unfold acceptS at e
  split at e
  · cases e
  · split at e
    · cases e
    · rename_i k hk
      split at e
      · cases e
      · rename_i z hz
        split at e
        · cases e
        · cases e
          obtain ⟨g1, g2⟩ := lineOf_good hz hi (h.tok hk)
          have hd := (List.getElem?_eq_some_iff.mp hk).1
          obtain ⟨s1, s2, _⟩ := h.shut (z := z) (d := sp / 2) hd
          obtain ⟨p1, p2⟩ := s1.put (k := k) g1 ht fun nd => by
            rw [s2]
            obtain ⟨m, hm⟩ : ∃ m, sp / 2 = m + 1 := ⟨sp / 2 - 1, by
              have : sp / 2 ≠ 0 := fun z => nd (g2.mpr z)
              omega⟩
            rw [hm] at hk
            exact h.at hk
          exact ⟨p1, by rw [p2, s2]⟩
end TX
namespace TX
open PySem PySem.Spec PyProof.Rows L2 KTD
/-! ### shapes: their length, their signs -/
theorem rp_mem {p z : List Nat} : ∀ (k : Nat) (l : List Nat), ∀ c ∈ rp p z k l, c ∈ z ∨ c ∈ l
  | _, [], c, h => by simp [rp] at h
  | k + 1, d :: l, c, h => by
    rw [rp] at h
    rcases rp_mem k l c h with e | e
    · exact .inl e
    · exact .inr (List.mem_cons_of_mem _ e)
  | 0, d :: l, c, h => by
    rw [rp] at h
    split at h
    · rcases List.mem_append.mp h with e | e
      · exact .inl e
      · rcases rp_mem _ l c e with e | e
        · exact .inl e
        · exact .inr (List.mem_cons_of_mem _ e)
    · rcases List.mem_cons.mp h with e | e
      · exact .inr (by rw [e]; exact List.mem_cons_self)
      · rcases rp_mem _ l c e with e | e
        · exact .inl e
        · exact .inr (List.mem_cons_of_mem _ e)
theorem strOk_iff {x : Str} : PyData.strOk x = true ↔ ∀ c ∈ x.cps.toList, PyData.strOk ⟨#[c]⟩ = true := by
  unfold PyData.strOk
  rw [Array.all_eq_true_iff_forall_mem]
  constructor
  · intro h c hc
    have := h c (Array.mem_toList_iff.mp hc)
    simp [this]
  · intro h c hc
    have := h c (Array.mem_toList_iff.mpr hc)
    simpa using this
theorem ok_replace {x y z : Str} (hy : 1 ≤ y.length) (hx : PyData.strOk x = true) (hz : PyData.strOk z = true) : PyData.strOk (Txt.replace x y z) = true := by
  rw [strOk_iff] at hx hz ⊢
  intro c hc
  rw [replace_list hy] at hc
  rcases rp_mem _ _ c hc with e | e
  · exact hz c e
  · exact hx c e
theorem ok_append {x y : Str} (hx : PyData.strOk x = true) (hy : PyData.strOk y = true) : PyData.strOk (x ++ y) = true := by
  rw [strOk_iff] at hx hy ⊢
  intro c hc
  rw [Str.cps_append, Array.toList_append] at hc
  rcases List.mem_append.mp hc with e | e
  · exact hx c e
  · exact hy c e
theorem txt_join (y : Str) (ts : List Str) : Txt.join y ts = Str.join y ts := by
  cases ts with
  | nil => rfl
  | cons t r => exact StrLaws.glued_cons y r t
theorem ok_join {y : Str} (hy : PyData.strOk y = true) : ∀ {ts : List Str}, (∀ t ∈ ts, PyData.strOk t = true) → PyData.strOk (Txt.join y ts) = true := by
  intro ts h
  rw [txt_join]
  induction ts with
  | nil => exact (show PyData.strOk (⟨#[]⟩ : Str) = true by decide +kernel)
  | cons t r ih =>
    cases r with
    | nil => exact h t List.mem_cons_self
    | cons t2 r =>
      show PyData.strOk (t ++ y ++ Str.join y (t2 :: r)) = true
      exact ok_append (ok_append (h t List.mem_cons_self) hy) (ih fun u hu => h u (List.mem_cons_of_mem _ hu))
theorem shape_ok {ts : List Str} {v : Str} (h : ∀ t ∈ ts, PyData.strOk t = true) : PyData.strOk (shapeZ ts v) = true := by
  have b : PyData.strOk " " = true := by decide +kernel
  have e : PyData.strOk Str.empty = true := by decide +kernel
  have lv : 1 ≤ (Str.empty ++ " " ++ v ++ " " : Str).length := by
    have l1 : (" " : Str).length = 1 := rfl
    rw [Str.length_append, l1]
    omega
  unfold shapeZ shape0
  exact ok_replace (by decide +kernel) (ok_replace (by decide +kernel) (ok_replace (by decide +kernel) (ok_replace lv (ok_append (ok_append (ok_append e b) (ok_join b h)) b) (by decide +kernel)) (by decide +kernel)) (by decide +kernel)) (by decide +kernel)
theorem shape_len {ts : List Str} {v : Str} (hz : Few ts) : (shapeZ ts v).length ≤ 1500000 := by
  have l0 : (Str.empty ++ " " : Str).length = 1 := rfl
  have l1 : (" " : Str).length = 1 := rfl
  have jf := join_fits ts
  unfold Few at hz
  have la : (Str.empty ++ " " ++ Txt.join " " ts : Str).length = 1 + (Txt.join " " ts).length := by rw [Str.length_append, l0]
  have lb : (Str.empty ++ " " ++ Txt.join " " ts ++ " " : Str).length = 1 + (Txt.join " " ts).length + 1 := by rw [Str.length_append, la, l1]
  have grow : ∀ {x y z : Str} {n : Nat}, x.length ≤ n → z.length ≤ 3 → (Txt.replace x y z).length ≤ n + (n + 1) * 3 := fun {x y z n} hx hz' => by
    have h1 := TK.replace_len x y z
    have h2 : (x.length + 1) * z.length ≤ (n + 1) * 3 := Nat.mul_le_mul (by omega) hz'
    omega
  have z3 : (" V " : Str).length = 3 ∧ (" W " : Str).length = 3 ∧ (" M " : Str).length = 3 ∧ (" S " : Str).length = 3 := ⟨rfl, rfl, rfl, rfl⟩
  have g0 : (shape0 ts v).length ≤ 5002 + (5002 + 1) * 3 := grow (by rw [lb]; omega) (Nat.le_of_eq z3.1)
  have g1 : (Txt.replace (shape0 ts v) " [ V ] " " W ").length ≤ 20011 + (20011 + 1) * 3 := grow g0 (Nat.le_of_eq z3.2.1)
  have g2 : (Txt.replace (Txt.replace (shape0 ts v) " [ V ] " " W ") " many ( V ) " " M ").length ≤ 80047 + (80047 + 1) * 3 := grow g1 (Nat.le_of_eq z3.2.2.1)
  have g3 : (shapeZ ts v).length ≤ 320191 + (320191 + 1) * 3 := grow g2 (Nat.le_of_eq z3.2.2.2)
  omega
theorem few_drop1 {ts : List Str} (h : Few ts) : Few (ts.drop 1) := Nat.le_trans (few_drop 1 ts) h
def spAccepts (K : PySem.W.Frag) (C CB CR : Addr) (T : Tbs) : Sp := fun vs H Q _ => ∃ (A : RA) (S : RS) (n sp : Nat) (l : Addr) (ts : List Str), vs = [.ref A.r, .int (sp : Nat), .ref l] ∧ RdAt K C CB CR H A S ∧ Good S n ∧ n ≤ 30000 ∧ H l = some (.lst (ts.map V.str)) ∧ l ∉ A.own ∧ RowTok ts ∧ IfOk T ts ∧
  (acceptS T S sp ts = none → ∀ H' A', RdAt K C CB CR H' A' S → A'.r = A.r → A'.dx = A.dx → Ext A H A' H' → Q (.bl false) H') ∧ ∀ S', acceptS T S sp ts = some S' → ∀ H' A', RdAt K C CB CR H' A' S' → A'.r = A.r → A'.dx = A.dx → Ext A H A' H' → Q (.bl true) H'
section
variable {P : Program} {w : World} {K : PySem.W.Frag} {mg : Str → Option Value} {base : Heap} {C CB CR : Addr}
theorem scAcc : FnScope ["self", "spaces", "tokens", "depth", "around", "line"] ["self", "spaces", "tokens"] (defScope mReading_accepts) := ⟨rfl, rfl, rfl, by decide +kernel, rfl, by decide +kernel, by decide +kernel⟩
theorem ok_accepts {f fM fD fI fE fC fP : Addr} {fd dM dD dI dE dC dP : FuncData} {T : Tbs} (F : Fun K "accepts" "Reading.accepts" mReading_accepts f fd) (len : mg "len" = none) (R : RdC K CR) (LT : LnC K C)
    (mM : Meth K CR "may_stand" fM) (GM : FnOk P w K mg base CX0 2 fM dM ["self", "spaces"] (spMay K C CB CR)) (bM : Binds K dM ["self", "spaces"] [])
    (GD : FnOk P w K mg base CX0 3 fD dD ["tokens", "meanings"] (spReadDef K C)) (gD : mg "read_def" = some (.ref fD)) (kD : PySem.W.keepIn K (.ref fD) = true) (bD : Binds K dD ["tokens", "meanings"] [])
    (GI : FnOk P w K mg base CX0 6 fI dI ["tokens", "block", "meanings"] (spReadInner K C CB T)) (gI : mg "read_inner" = some (.ref fI)) (kI : PySem.W.keepIn K (.ref fI) = true) (bI : Binds K dI ["tokens", "block", "meanings"] [])
    (mE : Meth K CR "ends_choice" fE) (GE : FnOk P w K mg base CX0 1 fE dE ["self", "depth"] (spEnds K C CB CR)) (bE : Binds K dE ["self", "depth"] [])
    (mC : Meth K CR "close" fC) (GC : FnOk P w K mg base CX0 1 fC dC ["self", "depth", "chosen"] (spClose K C CB CR)) (bC : Binds K dC ["self", "depth", "chosen"] [])
    (mP : Meth K CR "put" fP) (GP : FnOk P w K mg base CX0 5 fP dP ["self", "line", "around"] (spPut K C CB CR)) (bP : Binds K dP ["self", "line", "around"] []) : FnOk P w K mg base CX0 7 f fd ["self", "spaces", "tokens"] (spAccepts K C CB CR T) := by
  refine F.ok scAcc (fun vs H Q E h => ?_) (fun cdv A outer s H vs Q E hr h => ?_)
  · obtain ⟨A, S, n, sp, l, ts, rfl, _⟩ := h
    rfl
  · obtain ⟨A0, S, n, sp, l, ts, rfl, h, g, hn, hl, lo, ht, hi, q0, q1⟩ := h
    have nr : ∀ {f : Str}, f ∈ (["lines", "meanings", "found", "blocks"] : List Str) → NoAttr K CR f := fun h => R.na _ h
    have nl : ∀ {f : Str}, f ∈ lineNames → NoAttr K C f := fun h => LT.na _ h
    refine ⟨_, pss_cons (ps_if (PW.pt (pw_or (pt_not (pt_truth (pv 2) (by intro _; rfl))) (pw_or1 (pt_not (pt_val (pe_meth (pv 0) R.cl mM GM (hr.mono (by decide)) bM .nil pass0 (pa_cons (pv 1) pa_nil))))))) (pss_one (ps_ret pe_bl)) pss_nil) <|
      pss_cons (ps_set (i := 3) scAcc.nd rfl (.inl rfl) (pe_op op_fdiv (pv 1) pe_int)) <|
      pss_cons (ps_set (i := 4) scAcc.nd rfl (.inl rfl) (pe_ix ix_list (pe_fld (pv 0) rfl) (pv 3) (fun _ _ => rfl))) <|
      C8.pss_cut (ps_set (i := 5) scAcc.nd rfl (.inl rfl) (pe_ifExp (pt_truth (pv 3) (by intro _; rfl)) (pe_call GI hr (by rfl) gI kI bI .nil pass0 (pa_cons (pv 2) (pa_cons (pv 4) (pa_cons (pe_fld (pv 0) rfl) pa_nil)))) (pe_call GD (hr.mono (by decide)) (by rfl) gD kD bD .nil pass0 (pa_cons (pv 2) (pa_cons (pe_fld (pv 0) rfl) pa_nil))))) <|
      C8.pss_cut (ps_if (PW.pt (pw_or (pt_cmp (pc_isN (pv 5))) (pw_or1 (PW.pt (pw_and (pt_cmpR op_eq (pe_fld (pv 5) rfl) pe_str (nomark _)) (pw_and1 (pt_not (pt_val (pe_meth (pv 0) R.cl mE GE (hr.mono (by decide)) bE .nil pass0 (pa_cons (pv 3) pa_nil)))))))))) (pss_one (ps_ret pe_bl)) pss_nil) <|
      C8.pss_cut (ps_if (pt_cmpR op_lt (pv 3) (pe_op op_sub (pe_callB call_len_seq (by rfl) len PySem.boot_len (pa_cons (pe_fld (pv 0) rfl) pa_nil)) pe_int) (nomark _)) (pss_one (ps_expr (pe_meth (pv 0) R.cl mC GC (hr.mono (by decide)) bC .nil pass0 (pa_cons (pv 3) (pa_cons (pe_cmpR op_eq (pe_fld (pv 5) rfl) pe_str (nomark _)) pa_nil))))) pss_nil) <|
      pss_cons (ps_expr (pe_meth (pv 0) R.cl mP GP (hr.mono (by decide)) bP .nil pass0 (pa_cons (pv 5) (pa_cons (pv 4) pa_nil)))) <|
      pss_one (ps_ret pe_bl), ?_⟩
    have bl := h.blocks.length
    have gp := g.pos
    have gl := g.ll
    have gb := g.bl
    by_cases h0 : ts = []
    · subst h0
      refine ⟨_, rfl, _, .inl ⟨_, SqL.of hl, rfl⟩, iteT (iteT (q0 ?_ H A0 h rfl rfl Ext.refl))⟩
      unfold acceptS
      exact if_pos (.inl rfl)
    have e0 : true = !(ts.map V.str).isEmpty := by
      cases ts with
      | nil => exact absurd rfl h0
      | cons a r => rfl
    refine ⟨_, rfl, _, .inl ⟨_, SqL.of hl, e0⟩, iteF ?_⟩
    refine ⟨_, rfl, A0.r, A0.dx, _, rfl, h.r, rfl, _, rfl, A0, S, sp, rfl, h, g.ne, gp, _, rfl, ?_⟩
    cases hm : mayStand S sp with
    | false =>
      refine iteT (q0 ?_ H A0 h rfl rfl Ext.refl)
      unfold acceptS
      exact if_pos (.inr hm)
    | true =>
      refine iteF ?_
      have hd : sp / 2 < S.blocks.length := by
        unfold mayStand at hm
        rw [Bool.or_eq_true, Bool.and_eq_true] at hm
        rcases hm with e | ⟨e, _⟩
        · have := of_decide_eq_true e
          omega
        · have := of_decide_eq_true e
          omega
      obtain ⟨k, hk⟩ : ∃ k, S.blocks[sp / 2]? = some k := ⟨_, List.getElem?_eq_getElem hd⟩
      obtain ⟨b, hb, bx, eb⟩ := h.blocks.right hk
      have ac : acceptS T S sp ts = match lineOf T k (sp / 2) ts S.mean with
        | none => none
        | some z => if z.deed = "else" ∧ endsChoice S (sp / 2) = false then none else some (putS (shutS S (sp / 2) z) z k) := by
        unfold acceptS
        rw [if_neg (fun z => z.elim h0 (fun z => by rw [hm] at z; cases z)), hk]
        try rfl
      refine ⟨_, rfl, _, _, rfl, rfl, ⟨by decide, by decide⟩, ?_⟩
      dsimp only
      rw [show ((sp : Nat) : Int) / 2 = ((sp / 2 : Nat) : Int) by omega]
      refine ⟨_, rfl, A0.r, CR, A0.dx, _, _, rfl, h.r, R.cl, nr (by decide +kernel), blocks_get A0, _, rfl, A0.aB, _, _, _, rfl, rfl, SqL.of h.B, atI_nat (j := sp / 2) (by rw [List.getElem?_map, hb]; rfl), ?_⟩
      generalize sp / 2 = d at hd hk hb ac ⊢
      -- the line
      refine ⟨fun σ G => ∃ (ov : V), σ = [some (.ref A0.r), some (.int (sp : Nat)), some (.ref l), some (.int (d : Nat)), some (.ref b), some ov] ∧ Same H G ∧
        ((lineOf T k d ts S.mean = none ∧ ov = .non) ∨ ∃ z x dx tv, lineOf T k d ts S.mean = some z ∧ ov = .ref x ∧ H x = none ∧ G x = some (.ins C dx (z.f tv .non .non .non)) ∧ CodeNew H tv ∧ CodeAt K G tv z.code), ?_, ?_⟩
      · have sOk : ∀ t ∈ ts, PyData.strOk t = true := fun t ht' => (ht.2 t ht').1
        by_cases d0 : d = 0
        · subst d0
          refine ⟨_, rfl, false, rfl, ?_⟩
          refine iteF ⟨_, rfl, _, rfl, A0.r, CR, A0.dx, _, _, rfl, h.r, R.cl, nr (by decide +kernel), mean_get A0, l, A0.aM, ts, S.mean, rfl, SqL.of hl, fun t ht' => ?_, h.M, fun e => ?_, fun nm va e => ?_⟩
          · have f1 := few_one ht'
            have f2 := ht.1
            unfold Few at f2
            omega
          · refine ⟨.non, rfl, Same.refl _, .inl ⟨?_, rfl⟩⟩
            unfold lineOf readDefZ
            rw [if_pos rfl, e]
            rfl
          · intro G x dx s1 nx ex
            refine ⟨.ref x, rfl, s1, .inr ⟨⟨"def", some nm, some va, none, none, none⟩, x, dx, .non, ?_, rfl, nx, ex, (fun _ z => nomatch z), rfl⟩⟩
            unfold lineOf readDefZ
            rw [if_pos rfl, e]
            rfl
        · obtain ⟨m, rfl⟩ : ∃ m, d = m + 1 := ⟨d - 1, by omega⟩
          have kg := g.at hk
          obtain ⟨v, ev, v1, v2, v3⟩ := kg.var
          obtain ⟨o, eo⟩ := kg.own
          have ek : lineOf T k (m + 1) ts S.mean = readInner T ts v o k.lo S.mean := by
            unfold lineOf
            rw [if_neg d0, ev, eo]
            rfl
          rw [ev, eo] at eb
          have ki : true = ((((m + 1 : Nat) : Nat) : Int) != 0) := by
            symm
            rw [bne_iff_ne]
            omega
          refine ⟨_, rfl, true, ki, ?_⟩
          refine iteT ⟨_, rfl, _, rfl, _, rfl, A0.r, CR, A0.dx, _, _, rfl, h.r, R.cl, nr (by decide +kernel), mean_get A0, l, b, bx, A0.aM, ts, v, o, _, k.lo, S.mean, rfl, hl, ?_, ht.1, eb, v1, v2, h.M, sOk, shape_len (few_drop1 ht.1), shape_ok fun t ht' => sOk t (List.mem_of_mem_drop ht'), fun e G s1 => ?_, fun z e => ?_⟩
          · cases ts with
            | nil => exact absurd rfl h0
            | cons a r => exact Nat.succ_pos _
          · exact ⟨.non, rfl, s1, .inl ⟨ek.trans e, rfl⟩⟩
          · intro G x dx tv s1 nx ex nw cc
            exact ⟨.ref x, rfl, s1, .inr ⟨z, x, dx, tv, ek.trans e, rfl, nx, ex, nw, cc⟩⟩
      · rintro σ G ⟨ov, rfl, sG, hz⟩
        have hG := h.same sG
        have EG : Ext A0 H A0 G := Ext.same sG
        refine ⟨fun σ G' => G = G' ∧ ∃ z x dx tv, σ = [some (.ref A0.r), some (.int (sp : Nat)), some (.ref l), some (.int (d : Nat)), some (.ref b), some (.ref x)] ∧ lineOf T k d ts S.mean = some z ∧ H x = none ∧ G x = some (.ins C dx (z.f tv .non .non .non)) ∧ CodeNew H tv ∧ CodeAt K G tv z.code ∧ ¬ (z.deed = "else" ∧ endsChoice S d = false), ?_, ?_⟩
        · rcases hz with ⟨ez, rfl⟩ | ⟨z, x, dx, tv, ez, rfl, nx, ex, nw, cc⟩
          · rw [ez] at ac
            exact ⟨_, rfl, _, rfl, iteT (iteT (q0 ac G A0 hG rfl rfl EG))⟩
          · rw [ez] at ac
            dsimp only at ac
            refine ⟨_, rfl, _, rfl, iteF ⟨_, rfl, x, C, dx, _, _, rfl, ex, LT.cl, nl (by decide +kernel), rfl, rfl, _, rfl, ?_⟩⟩
            have ede : decide (V.str z.deed = V.str "else") = decide (z.deed = "else") := decide_eq_decide.mpr ⟨fun y => V.str.inj y, fun y => congrArg V.str y⟩
            show (if decide (V.str z.deed = V.str "else") = true then _ else _)
            rw [ede]
            by_cases e1 : z.deed = "else"
            · rw [decide_eq_true e1]
              refine iteT ⟨_, rfl, A0.r, A0.dx, _, rfl, hG.r, rfl, _, rfl, A0, S, d, rfl, hG, fun k2 hk2 => (g.at hk2).line, gp, _, rfl, ?_⟩
              cases e2 : endsChoice S d with
              | false =>
                rw [if_pos ⟨e1, e2⟩] at ac
                exact iteT (q0 ac G A0 hG rfl rfl EG)
              | true => exact iteF ⟨rfl, z, x, dx, tv, rfl, ez, nx, ex, nw, cc, fun y => nomatch y.2⟩
            · rw [decide_eq_false e1]
              exact iteF (iteF ⟨rfl, z, x, dx, tv, rfl, ez, nx, ex, nw, cc, fun y => e1 y.1⟩)
        · rintro σ G' ⟨rfl, z, x, dx, tv, rfl, ez, nx, ex, nw, cc, nb⟩
          rw [ez] at ac
          dsimp only at ac
          rw [if_neg nb] at ac
          obtain ⟨lg, ld⟩ := lineOf_good ez hi (g.tok hk)
          have xo := h.free nx
          have lG := sG _ _ hl
          have ede : decide (V.str z.deed = V.str "else") = decide (z.deed = "else") := decide_eq_decide.mpr ⟨fun y => V.str.inj y, fun y => congrArg V.str y⟩
          obtain ⟨s1, s2, s3, s4, s5⟩ := g.shut (z := z) (d := d) hd
          refine ⟨fun σ G2 => σ = [some (.ref A0.r), some (.int (sp : Nat)), some (.ref l), some (.int (d : Nat)), some (.ref b), some (.ref x)] ∧ ∃ B : RA, RdAt K C CB CR G2 B (shutS S d z) ∧ B.r = A0.r ∧ B.dx = A0.dx ∧ B.xs = A0.xs ∧ Ext A0 G B G2, ?_, ?_⟩
          · refine ⟨_, rfl, _, rfl, A0.r, CR, A0.dx, _, _, rfl, hG.r, R.cl, nr (by decide +kernel), blocks_get A0, A0.aB, _, rfl, .inl (SqL.of hG.B), _, _, rfl, rfl, _, _, rfl, rfl, _, rfl, ?_⟩
            rw [List.length_map, bl]
            have e2 : decide ((d : Int) < ((S.blocks.length : Nat) : Int) - 1) = decide (d < S.blocks.length - 1) := decide_eq_decide.mpr ⟨fun z => by omega, fun z => by omega⟩
            rw [e2]
            by_cases hlt : d < S.blocks.length - 1
            · have es : shutS S d z = closeS S d (decide (z.deed = "else")) := if_pos hlt
              rw [es]
              rw [decide_eq_true hlt]
              refine iteT ⟨_, rfl, A0.r, A0.dx, _, rfl, hG.r, rfl, _, rfl, _, rfl, x, C, dx, _, _, rfl, ex, LT.cl, nl (by decide +kernel), rfl, rfl, ?_⟩
              refine ⟨A0, S, d, decide (z.deed = "else"), ?_, hG, hd, fun _ => by omega, fun k2 hk2 => ?_, fun G2 B h2 b1 b2 _ b4 b5 => ⟨rfl, B, h2, b1, b4, b2, b5⟩⟩
              · rw [← ede]
                rfl
              · obtain ⟨j, hj⟩ := List.mem_iff_getElem?.mp hk2
                rw [List.getElem?_drop] at hj
                exact (g.at (d := d + j) (by rw [show d + j + 1 = d + 1 + j by omega]; exact hj)).line
            · have es : shutS S d z = S := if_neg hlt
              rw [es, decide_eq_false hlt]
              exact iteF ⟨rfl, A0, hG, rfl, rfl, rfl, Ext.refl⟩
          · rintro σ G2 ⟨rfl, B, h2, b1, b2, b3, b5⟩
            have ex2 := b5.keep x _ xo ex
            have ebG := sG _ _ eb
            have eb2 := b5.keep b _ (blk_out hG ebG) ebG
            have kin : ∀ i, k.line = some i → i < (shutS S d z).lines.length := fun i ei => by
              rw [s2]
              exact g.bkin k (List.mem_of_getElem? hk) i ei
            have fin : ∀ H' A', RdAt K C CB CR H' A' (putS (shutS S d z) z k) → A'.r = B.r → A'.dx = B.dx → A'.xs = B.xs ++ [x] → Ext (B.addX x) G2 A' H' → Q (.bl true) H' := fun H' A' h3 c1 c2 c3 c4 => by
              have E02 := EG.trans b5
              refine q1 _ ac H' A' h3 (c1.trans b1) (c2.trans b2) ⟨fun b' o nb' e' => c4.keep b' o (fun hm => ?_) (E02.keep b' o nb' e'), fun b' e' => E02.grow b' (c4.grow b' e'), fun b' hb' => ?_⟩
              · rcases own_addX.mp hm with y | y
                · rcases E02.own b' y with w | w
                  · exact nb' w
                  · rw [e'] at w
                    cases w
                · rw [y, nx] at e'
                  cases e'
              · rcases c4.own b' hb' with y | y
                · rcases own_addX.mp y with y | y
                  · exact E02.own b' y
                  · exact .inr (by rw [y]; exact nx)
                · exact .inr (E02.grow b' y)
            refine ⟨_, rfl, B.r, B.dx, _, by rw [b1], h2.r, rfl, _, rfl, _, rfl, B, shutS S d z, x, dx, b, z, tv, k, by rw [b1]; rfl, h2, ex2, ?_, Ext.code (fun _ y => h.free y) hG b5 nw cc, ?_, s1.bkin, kin, lg.nif, lg.df, lg.give, s1.once, ?_, ?_, ?_, ?_, fin⟩
            · rw [b3]
              exact fun hm => xo (own_x hm)
            · refine ⟨bx, ?_⟩
              rw [b3]
              exact eb2
            · have := s1.ml
              omega
            · have := s1.bl
              omega
            · have := s1.ll
              omega
            · have := s1.fl
              omega
end
end TX
namespace TX
open PySem PySem.Spec PyProof.Rows L2
/-! ### the walk over data: a step takes the first of the parts that wait -/
inductive Stp (K : PySem.W.Frag) (H : Hp) : List V × List PyData → V → List V × List PyData → Prop
  | leaf {v : V} {d : PyData} {r : List V} {rd : List PyData} : Dp K H v d → (tyD d == "list" || tyD d == "tuple") = false → Stp K H (v :: r, d :: rd) v (r, rd)
  | lst {a : Addr} {xs r : List V} {es rd : List PyData} : SqL K H a xs → DpAll K H xs es → Stp K H (.ref a :: r, .list es :: rd) (.ref a) (xs ++ r, es ++ rd)
  | tup {a : Addr} {xs r : List V} {es rd : List PyData} : SqT K H a xs → DpAll K H xs es → Stp K H (.ref a :: r, .tuple es :: rd) (.ref a) (xs ++ r, es ++ rd)
/-- the parts so far, the last one first -/
inductive Path (K : PySem.W.Frag) (H : Hp) (S0 : List V × List PyData) : List V → List V × List PyData → Prop
  | nil : Path K H S0 [] S0
  | cons {rs : List V} {S S' : List V × List PyData} {p : V} : Path K H S0 rs S → Stp K H S p S' → Path K H S0 (p :: rs) S'
theorem isLT (d : PyData) (K : PySem.W.Frag) : PySem.W.kitAny K (.type (tyD d)) [.type "list", .type "tuple"] = some (tyD d == "list" || tyD d == "tuple") := by
  cases d with
  | none => exact kitAny_cons (b := false) (kit_ty (a := "NoneType") (b := "list") (by decide +kernel)) (fun _ => kitAny_cons (b := false) (kit_ty (a := "NoneType") (b := "tuple") (by decide +kernel)) (fun _ => kitAny_nil) (fun z => nomatch z)) (fun z => nomatch z)
  | bool _ => exact kitAny_cons (b := false) (kit_ty (a := "bool") (b := "list") (by decide +kernel)) (fun _ => kitAny_cons (b := false) (kit_ty (a := "bool") (b := "tuple") (by decide +kernel)) (fun _ => kitAny_nil) (fun z => nomatch z)) (fun z => nomatch z)
  | int _ => exact kitAny_cons (b := false) (kit_ty (a := "int") (b := "list") (by decide +kernel)) (fun _ => kitAny_cons (b := false) (kit_ty (a := "int") (b := "tuple") (by decide +kernel)) (fun _ => kitAny_nil) (fun z => nomatch z)) (fun z => nomatch z)
  | str _ => exact kitAny_cons (b := false) (kit_ty (a := "str") (b := "list") (by decide +kernel)) (fun _ => kitAny_cons (b := false) (kit_ty (a := "str") (b := "tuple") (by decide +kernel)) (fun _ => kitAny_nil) (fun z => nomatch z)) (fun z => nomatch z)
  | dict _ => exact kitAny_cons (b := false) (kit_ty (a := "dict") (b := "list") (by decide +kernel)) (fun _ => kitAny_cons (b := false) (kit_ty (a := "dict") (b := "tuple") (by decide +kernel)) (fun _ => kitAny_nil) (fun z => nomatch z)) (fun z => nomatch z)
  | list _ => exact kitAny_cons (b := true) (kit_ty (a := "list") (b := "list") (by decide +kernel)) (fun z => nomatch z) (fun _ => rfl)
  | tuple _ => exact kitAny_cons (b := false) (kit_ty (a := "tuple") (b := "list") (by decide +kernel)) (fun _ => kitAny_cons (b := true) (kit_ty (a := "tuple") (b := "tuple") (by decide +kernel)) (fun z => nomatch z) (fun _ => rfl)) (fun z => nomatch z)
/-- what the walk asks of the names of the top -/
structure Nm (mg : Str → Option Value) : Prop where
  isi : mg "isinstance" = none
  lst : mg "list" = none
  tpl : mg "tuple" = none
def spParts (K : PySem.W.Frag) : Sp := fun vs H Q _ => ∃ (v : V) (d : PyData) (Hv : Hp), vs = [v] ∧ Same Hv H ∧ Dp K Hv v d ∧ nd d ≤ 1000000 ∧
  ∀ (H' : Hp) (p : Addr) (rs : List V), Same H H' → H p = none → H' p = some (.lst rs.reverse) → Path K Hv ([v], [d]) rs ([], []) → rs.length = nd d → Q (.ref p) H'
section
variable {P : Program} {w : World} {K : PySem.W.Frag} {mg : Str → Option Value} {base : Heap}
theorem scParts : FnScope ["thing", "waiting", "parts", "part"] ["thing"] (defScope sParts) := ⟨rfl, rfl, rfl, by decide +kernel, rfl, by decide +kernel, by decide +kernel⟩
theorem ok_parts {f : Addr} {fd : FuncData} {k : Nat} (F : Fun K "all_parts" "all_parts" sParts f fd) (T : Nm mg) : FnOk P w K mg base CX0 (k + 1) f fd ["thing"] (spParts K) := by
  refine F.ok scParts (fun vs H Q E h => ?_) (fun cdv A outer s H vs Q E hr h => ?_)
  · obtain ⟨v, d, Hv, rfl, _⟩ := h
    rfl
  · obtain ⟨v, d, Hv, rfl, sv, hd, hn, q⟩ := h
    refine ⟨_, pss_cons (ps_set (i := 1) scParts.nd rfl (.inl rfl) (pe_lst (pa_cons (pv 0) pa_nil)))
      (pss_cons (ps_set (i := 2) scParts.nd rfl (.inl rfl) (pe_lst pa_nil))
      (pss_cons (ps_while PassesOwn.never (pt_truth (pv 1) (by intro _; rfl))
        (pss_cons (ps_set (i := 3) scParts.nd rfl (.inl rfl) (pe_bm0 PySem.F.plainAttrs_list PySem.F.slot_list_pop PySem.F.type_list_pop mt_pop (pv 1)))
        (pss_cons (ps_expr (pe_bm PySem.F.plainAttrs_list PySem.F.slot_list_append PySem.F.type_list_append mt_append (pv 2) (pa_cons (pv 3) pa_nil)))
        (pss_one (ps_if (pt_val (pe_callB call_isiT (by rfl) T.isi (by decide +kernel) (pa_cons (pv 3) (pa_cons (pe_tup (pa_cons (pe_bltn (v := .ty "list") (by rfl) T.lst (by decide +kernel) rfl) (pa_cons (pe_bltn (v := .ty "tuple") (by rfl) T.tpl (by decide +kernel) rfl) pa_nil))) pa_nil))))
          (pss_one (ps_alt (ps_expr (pe_bm PySem.F.plainAttrs_list PySem.F.slot_list_extend PySem.F.type_list_extend mt_extend (pv 1) (pa_cons (pe_revL (pv 3)) pa_nil)))
            (ps_expr (pe_bm PySem.F.plainAttrs_list PySem.F.slot_list_extend PySem.F.type_list_extend mt_extT (pv 1) (pa_cons (pe_revT (pv 3)) pa_nil)))))
          pss_nil)))))
      (pss_one (ps_ret (pv 2))))), ?_⟩
    refine ⟨_, rfl, (by show 1 ≤ sizeLine; decide), fun wa nwa => ⟨by decide, fun pa npa => ?_⟩⟩
    have nwa' : pa ≠ wa := fun e => by
      rw [e, upd_same] at npa
      cases npa
    have npa0 : H pa = none := by
      rw [upd_ne nwa'] at npa
      exact npa
    -- the invariant
    refine ⟨fun m σ H1 => ∃ (rs : List V) (S : List V × List PyData) (y : Option V), σ = [some v, some (.ref wa), some (.ref pa), y] ∧ Same H H1 ∧ H1 wa = some (.lst S.1.reverse) ∧ H1 pa = some (.lst rs.reverse) ∧
      DpAll K Hv S.1 S.2 ∧ Path K Hv ([v], [d]) rs S ∧ rs.length + ndAll S.2 = nd d ∧ m = ndAll S.2, ⟨_, [], ([v], [d]), none, rfl, (same_upd nwa).trans (same_upd npa), ?_, upd_same, .cons hd .nil, .nil, ?_, rfl⟩, ?_⟩
    · rw [upd_ne nwa'.symm, upd_same]
      rfl
    · simp [ndAll]
    rintro m σ H1 ⟨rs, ⟨vs, ds⟩, y, rfl, sm, hw, hp, hS, hP, hc, rfl⟩
    refine ⟨_, rfl, _, .inl ⟨_, SqL.of hw, rfl⟩, ?_⟩
    cases hS with
    | nil =>
      -- nothing waits any more
      refine iteF ?_
      refine ⟨_, rfl, q H1 pa rs sm npa0 hp hP ?_⟩
      simpa [ndAll] using hc
    | @cons v1 r1 d1 rd1 h1 h2 =>
      have hne : (!((v1 :: r1, d1 :: rd1) : List V × List PyData).1.reverse.isEmpty) = true := by simp
      rw [hne]
      refine iteT ?_
      have hlen : rs.length + (nd d1 + ndAll rd1) = nd d := by simpa [ndAll] using hc
      have hrl : rs.length ≤ 1000000 := by omega
      have hvl : r1.length ≤ ndAll rd1 := by
        have e := DpAll.length h2
        have e2 := ndAll_len rd1
        omega
      refine ⟨fun σ' H2 => ∃ (S' : List V × List PyData), σ' = [some v, some (.ref wa), some (.ref pa), some v1] ∧ Same H H2 ∧ H2 wa = some (.lst S'.1.reverse) ∧ H2 pa = some (.lst (v1 :: rs).reverse) ∧ DpAll K Hv S'.1 S'.2 ∧ Stp K Hv (v1 :: r1, d1 :: rd1) v1 S' ∧ ndAll S'.2 + 1 = nd d1 + ndAll rd1, ?_, ?_⟩
      · rintro σ' H2 ⟨S', rfl, g1, g2, g3, g4, g5, g6⟩
        exact ⟨_, by simp only [ndAll]; omega, v1 :: rs, S', _, rfl, g1, g2, g3, g4, .cons hP g5, by rw [List.length_cons]; omega, rfl⟩
      -- part = waiting.pop()
      have ep : ((v1 :: r1, d1 :: rd1) : List V × List PyData).1.reverse = r1.reverse ++ [v1] := by simp
      rw [ep] at hw
      refine ⟨_, rfl, .inl ⟨rfl, _, SqL.of hw⟩, wa, _, v1, rfl, rfl, hw, by simp, ?_⟩
      rw [List.dropLast_concat]
      have sm1 : Same H (upd H1 wa (.lst r1.reverse)) := same_fresh nwa sm
      have hp1 : (upd H1 wa (.lst r1.reverse)) pa = some (.lst rs.reverse) := by
        rw [upd_ne nwa']
        exact hp
      -- parts.append(part)
      refine ⟨_, rfl, .inl ⟨rfl, _, SqL.of hp1⟩, _, rfl, pa, _, _, rfl, rfl, hp1, Nat.lt_of_le_of_lt (by simpa using hrl) (by decide), ?_⟩
      have sm2 := same_fresh (o := .lst (rs.reverse ++ [v1])) npa0 sm1
      have hw2 : (upd (upd H1 wa (.lst r1.reverse)) pa (.lst (rs.reverse ++ [v1]))) wa = some (.lst r1.reverse) := by
        rw [upd_ne nwa'.symm, upd_same]
      have hp2 : (upd (upd H1 wa (.lst r1.reverse)) pa (.lst (rs.reverse ++ [v1]))) pa = some (.lst (rs.reverse ++ [v1])) := upd_same
      -- if isinstance(part, (list, tuple))
      refine ⟨_, rfl, by decide, fun tp ntp => ?_⟩
      have t1 : wa ≠ tp := ne_of_none hw2 ntp
      have t2 : pa ≠ tp := ne_of_none hp2 ntp
      have sm3 : Same H (upd (upd (upd H1 wa (.lst r1.reverse)) pa (.lst (rs.reverse ++ [v1]))) tp (.tup [.ty "list", .ty "tuple"])) := sm2.trans (same_upd ntp)
      have hw3 : (upd (upd (upd H1 wa (.lst r1.reverse)) pa (.lst (rs.reverse ++ [v1]))) tp (.tup [.ty "list", .ty "tuple"])) wa = some (.lst r1.reverse) := by
        rw [upd_ne t1]
        exact hw2
      have hp3 : (upd (upd (upd H1 wa (.lst r1.reverse)) pa (.lst (rs.reverse ++ [v1]))) tp (.tup [.ty "list", .ty "tuple"])) pa = some (.lst (rs.reverse ++ [v1])) := by
        rw [upd_ne t2]
        exact hp2
      refine ⟨v1, tp, _, .type (tyD d1), [.type "list", .type "tuple"], _, rfl, upd_same, .cons (.ty _) (.cons (.ty _) .nil), dp_ty (dp_same (sv.trans sm3) _ _ h1), isLT d1 K, _, rfl, ?_⟩
      have er : (v1 :: rs).reverse = rs.reverse ++ [v1] := by simp
      generalize hG : upd (upd (upd H1 wa (.lst r1.reverse)) pa (.lst (rs.reverse ++ [v1]))) tp (.tup [.ty "list", .ty "tuple"]) = G at sm3 hw3 hp3
      -- what the reversed part puts behind
      have go : ∀ (rp : Addr) (o : HO) (xs : List V) (es : List PyData), G rp = none → DpAll K Hv xs es → nd d1 = ndAll es + 1 → Stp K Hv (v1 :: r1, d1 :: rd1) v1 (xs ++ r1, es ++ rd1) →
          ∃ S' : List V × List PyData, Same H (upd (upd G rp o) wa (.lst (r1.reverse ++ xs.reverse))) ∧ (upd (upd G rp o) wa (.lst (r1.reverse ++ xs.reverse))) wa = some (.lst S'.1.reverse) ∧
            (upd (upd G rp o) wa (.lst (r1.reverse ++ xs.reverse))) pa = some (.lst (v1 :: rs).reverse) ∧ DpAll K Hv S'.1 S'.2 ∧ Stp K Hv (v1 :: r1, d1 :: rd1) v1 S' ∧ ndAll S'.2 + 1 = nd d1 + ndAll rd1 := by
        intro rp o xs es nrp hxs hnd hst
        refine ⟨(xs ++ r1, es ++ rd1), same_fresh nwa (sm3.trans (same_upd nrp)), ?_, ?_, DpAll.append hxs h2, hst, ?_⟩
        · rw [upd_same]
          simp
        · rw [upd_ne nwa', upd_ne (ne_of_none hp3 nrp), er]
          exact hp3
        · show ndAll (es ++ rd1) + 1 = _
          rw [ndAll_append]
          omega
      have fit : ∀ (xs : List V) (es : List PyData), DpAll K Hv xs es → nd d1 = ndAll es + 1 → r1.reverse.length + xs.reverse.length ≤ sizeLine := by
        intro xs es hxs hnd
        have e1 := DpAll.length hxs
        have e2 := ndAll_len es
        rw [List.length_reverse, List.length_reverse]
        exact Nat.le_trans (show r1.length + xs.length ≤ 1000000 by omega) (by decide)
      have wne : ∀ {rp : Addr}, G rp = none → wa ≠ rp := fun h => ne_of_none hw3 h
      have leafy : (tyD d1 == "list" || tyD d1 == "tuple") = false → nd d1 = 1 → if (tyD d1 == "list" || tyD d1 == "tuple") = true then False else ∃ S' : List V × List PyData, Same H G ∧ G wa = some (.lst S'.1.reverse) ∧ G pa = some (.lst (v1 :: rs).reverse) ∧ DpAll K Hv S'.1 S'.2 ∧ Stp K Hv (v1 :: r1, d1 :: rd1) v1 S' ∧ ndAll S'.2 + 1 = nd d1 + ndAll rd1 := by
        intro e1 e2
        rw [e1]
        refine iteF ⟨(r1, rd1), sm3, hw3, by rw [er]; exact hp3, h2, .leaf h1 e1, ?_⟩
        show ndAll rd1 + 1 = _
        omega
      cases h1 with
      | non => exact let ⟨S', g⟩ := leafy rfl rfl; ⟨S', rfl, g⟩
      | bl b => exact let ⟨S', g⟩ := leafy rfl rfl; ⟨S', rfl, g⟩
      | int i => exact let ⟨S', g⟩ := leafy rfl rfl; ⟨S', rfl, g⟩
      | str x => exact let ⟨S', g⟩ := leafy rfl rfl; ⟨S', rfl, g⟩
      | @lst a xs es g1 g2 =>
        refine iteT (.inl ?_)
        refine ⟨_, rfl, .inl ⟨rfl, _, SqL.of hw3⟩, _, rfl, a, xs, rfl, (sv.trans sm3).seq g1, fun rp nrp => ?_⟩
        obtain ⟨S', g⟩ := go rp (.lst xs.reverse) xs es nrp g2 rfl (.lst g1 g2)
        exact ⟨wa, rp, _, _, rfl, rfl, by rw [upd_ne (wne nrp)]; exact hw3, upd_same, fit xs es g2 rfl, S', rfl, g⟩
      | @tup a xs es g1 g2 =>
        refine iteT (.inr ?_)
        refine ⟨_, rfl, .inl ⟨rfl, _, SqL.of hw3⟩, _, rfl, a, xs, rfl, same_sqt (sv.trans sm3) g1, fun rp nrp => ?_⟩
        obtain ⟨S', g⟩ := go rp (.tup xs.reverse) xs es nrp g2 rfl (.tup g1 g2)
        exact ⟨wa, rp, _, _, rfl, rfl, by rw [upd_ne (wne nrp)]; exact hw3, .inl (.inl upd_same), fit xs es g2 rfl, S', rfl, g⟩
end
end TX
namespace TX
open PySem PySem.Spec PyProof.Rows L2
/-- what is new behind H, but the place x -/
def newB (H : Hp) (x : Addr) (H' : Hp) : Hp := fun b => if b = x then none else match H b with
  | none => H' b
  | some _ => none
def newp (H H' : Hp) : Hp := fun b => match H b with
  | none => H' b
  | some _ => none
theorem newp_at {H H' : Hp} {b : Addr} (h : H b = none) : newp H H' b = H' b := by
  unfold newp
  rw [h]
theorem newp_old {H H' : Hp} {b : Addr} {o : HO} (h : H b = some o) : newp H H' b = none := by
  unfold newp
  rw [h]
theorem newp_less {H H1 H2 : Hp} (h : Same H H1) : Same (newp H1 H2) (newp H H2) := fun b o e => by
  cases h1 : H1 b with
  | some u =>
    rw [newp_old h1] at e
    cases e
  | none =>
    rw [newp_at h1] at e
    rw [newp_at (h.free h1)]
    exact e
theorem newB_newp {H H' : Hp} {x : Addr} : Same (newB H x H') (newp H H') := fun b o e => by
  unfold newB at e
  by_cases hb : b = x
  · rw [if_pos hb] at e
    cases e
  · rw [if_neg hb] at e
    exact e
theorem newp_same {H H' : Hp} : Same (newp H H') H' := fun b o e => by
  cases h : H b with
  | none =>
    rw [newp_at h] at e
    exact e
  | some u =>
    rw [newp_old h] at e
    cases e
theorem newB_at {H H' : Hp} {x b : Addr} (h : H b = none) (hx : b ≠ x) : newB H x H' b = H' b := by
  unfold newB
  rw [if_neg hx, h]
theorem newB_mono {H H1 H2 : Hp} {x : Addr} (h : ∀ b o, b ≠ x → H1 b = some o → H2 b = some o) : Same (newB H x H1) (newB H x H2) := fun b o e => by
  by_cases hb : b = x
  · unfold newB at e
    rw [if_pos hb] at e
    cases e
  · cases hh : H b with
    | none =>
      rw [newB_at hh hb] at e ⊢
      exact h b o hb e
    | some u =>
      unfold newB at e
      rw [if_neg hb, hh] at e
      cases e
/-- a leaf is data in any heap -/
theorem dp_leaf {K : PySem.W.Frag} {H H' : Hp} {v : V} {d : PyData} (h : Dp K H v d) (e : (tyD d == "list" || tyD d == "tuple") = false) : Dp K H' v d := by
  cases h with
  | non => exact .non
  | bl b => exact .bl b
  | int i => exact .int i
  | str x => exact .str x
  | lst _ _ => simp [tyD] at e
  | tup _ _ => simp [tyD] at e
def spCopy (K : PySem.W.Frag) : Sp := fun vs H Q _ => ∃ (v : V) (d : PyData) (Hv : Hp), vs = [v] ∧ Same Hv H ∧ Dp K Hv v d ∧ nd d ≤ 1000000 ∧
  ∀ (H' : Hp) (v' : V), Same H H' → Dp K (newp H H') v' d → Q v' H'
theorem kit1 (d : PyData) (K : PySem.W.Frag) : PySem.W.kitOne K (.type (tyD d)) (.type "tuple") = some (tyD d == "tuple") := by
  cases d with
  | none => exact (kit_ty (a := "NoneType") (b := "tuple") (r := false) (by decide +kernel)).trans (by simp [tyD])
  | bool _ => exact (kit_ty (a := "bool") (b := "tuple") (r := false) (by decide +kernel)).trans (by simp [tyD])
  | int _ => exact (kit_ty (a := "int") (b := "tuple") (r := false) (by decide +kernel)).trans (by simp [tyD])
  | str _ => exact (kit_ty (a := "str") (b := "tuple") (r := false) (by decide +kernel)).trans (by simp [tyD])
  | list _ => exact (kit_ty (a := "list") (b := "tuple") (r := false) (by decide +kernel)).trans (by simp [tyD])
  | tuple _ => exact (kit_ty (a := "tuple") (b := "tuple") (r := true) (by decide +kernel)).trans (by simp [tyD])
  | dict _ => exact (kit_ty (a := "dict") (b := "tuple") (r := false) (by decide +kernel)).trans (by simp [tyD])
theorem rev_drop {c : List V} {j : Nat} {y : V} (h : c[j]? = some y) : (c.drop j).reverse = (c.drop (j + 1)).reverse ++ [y] := by
  obtain ⟨hj, e⟩ := List.getElem?_eq_some_iff.mp h
  rw [List.drop_eq_getElem_cons hj, e]
  simp
theorem path_count {K : PySem.W.Frag} {Hv : Hp} {S0 : List V × List PyData} : ∀ {rs : List V} {S : List V × List PyData}, Path K Hv S0 rs S → rs.length + ndAll S.2 = ndAll S0.2
  | _, _, .nil => by simp
  | _, _, .cons hP hs => by
    have ih := path_count hP
    cases hs with
    | @leaf v0 d0 r0 rd0 h e =>
      have one : nd d0 = 1 := by
        cases h with
        | non => rfl
        | bl b => rfl
        | int i => rfl
        | str x => rfl
        | lst _ _ => simp [tyD] at e
        | tup _ _ => simp [tyD] at e
      simp only [ndAll, one] at ih
      rw [List.length_cons]
      dsimp only
      omega
    | lst h g =>
      simp only [ndAll, nd] at ih
      rw [List.length_cons, ndAll_append]
      omega
    | tup h g =>
      simp only [ndAll, nd] at ih
      rw [List.length_cons, ndAll_append]
      omega
section
variable {P : Program} {w : World} {K : PySem.W.Frag} {mg : Str → Option Value} {base : Heap}
theorem scCopy : FnScope ["thing", "done", "part", "made", "_"] ["thing"] (defScope sCopy) := ⟨rfl, rfl, rfl, by decide +kernel, rfl, by decide +kernel, by decide +kernel⟩
theorem ok_copy {f fP : Addr} {fd fdP : FuncData} {k : Nat} (F : Fun K "copy_of" "copy_of" sCopy f fd) (T : Nm mg) (FP : Fun K "all_parts" "all_parts" sParts fP fdP) (bP : Binds K fdP ["thing"] []) (gP : mg "all_parts" = some (.ref fP)) :
    FnOk P w K mg base CX0 (k + 2) f fd ["thing"] (spCopy K) := by
  have GP : FnOk P w K mg base CX0 (k + 1) fP fdP ["thing"] (spParts K) := ok_parts FP T
  refine F.ok scCopy (fun vs H Q E h => ?_) (fun cdv A outer s H vs Q E hr h => ?_)
  · obtain ⟨v, d, Hv, rfl, _⟩ := h
    rfl
  · obtain ⟨v, d, Hv, rfl, sv, hd, hn, q⟩ := h
    refine ⟨_, pss_cons (ps_if (pt_not (pt_val (pe_callB call_isiT (by rfl) T.isi (by decide +kernel) (pa_cons (pv 0) (pa_cons (pe_tup (pa_cons (pe_bltn (v := .ty "list") (by rfl) T.lst (by decide +kernel) rfl) (pa_cons (pe_bltn (v := .ty "tuple") (by rfl) T.tpl (by decide +kernel) rfl) pa_nil))) pa_nil))))) (pss_one (ps_ret (pv 0))) pss_nil) <| pss_cons (ps_set (i := 1) scCopy.nd rfl (.inr rfl) (pe_lst pa_nil))
      (pss_cons (ps_for PassesOwn.never rfl (pi_list (pe_revL (pe_call GP hr (by rfl) gP FP.kp bP .nil pass0 (pa_cons (pv 0) pa_nil)))) (pg_name (i := 2) scCopy.nd rfl (.inl rfl))
        (pss_cons (ps_set (i := 3) scCopy.nd rfl (.inl rfl) (pv 2))
        (pss_cons (ps_if (pt_val (pe_callB call_isiT (by rfl) T.isi (by decide +kernel) (pa_cons (pv 2) (pa_cons (pe_tup (pa_cons (pe_bltn (v := .ty "list") (by rfl) T.lst (by decide +kernel) rfl) (pa_cons (pe_bltn (v := .ty "tuple") (by rfl) T.tpl (by decide +kernel) rfl) pa_nil))) pa_nil))))
          (pss_one (ps_alt
            (ps_setLc (i := 3) (own := [("_", 4)]) (g := gName 4) (tt := tYes) (te := tBM0 K "list" rPop (tVar 1)) rfl scCopy.nd rfl rfl (sw_true rfl rfl rfl (by decide +kernel)) (pi_list (pv 2)) (blkOk_by (N := ["thing", "done", "part", "made", "_"]) (sc := defScope sCopy) (by decide +kernel))
              (fun _ _ _ _ _ => pg_name (i := 4) scCopy.nd rfl (Or.inl rfl)) (fun _ _ _ _ _ => pts_nil) (fun _ _ _ _ _ => pe_bm0 PySem.F.plainAttrs_list PySem.F.slot_list_pop PySem.F.type_list_pop mt_pop (pv 1)))
            (ps_setLc (i := 3) (own := [("_", 4)]) (g := gName 4) (tt := tYes) (te := tBM0 K "list" rPop (tVar 1)) rfl scCopy.nd rfl rfl (sw_true rfl rfl rfl (by decide +kernel)) (pi_tup (pv 2)) (blkOk_by (N := ["thing", "done", "part", "made", "_"]) (sc := defScope sCopy) (by decide +kernel))
              (fun _ _ _ _ _ => pg_name (i := 4) scCopy.nd rfl (Or.inl rfl)) (fun _ _ _ _ _ => pts_nil) (fun _ _ _ _ _ => pe_bm0 PySem.F.plainAttrs_list PySem.F.slot_list_pop PySem.F.type_list_pop mt_pop (pv 1)))))
          pss_nil)
        (pss_cons (ps_if (pt_val (pe_callB call_isi (by rfl) T.isi (by decide +kernel) (pa_cons (pv 2) (pa_cons (pe_bltn (v := .ty "tuple") (by rfl) T.tpl (by decide +kernel) rfl) pa_nil))))
          (pss_one (ps_set (i := 3) scCopy.nd rfl (.inl rfl) (pe_callTy call_tuple_of (by rfl) T.tpl (by decide +kernel) (pa_cons (pv 3) pa_nil))))
          pss_nil)
        (pss_one (ps_expr (pe_bm PySem.F.plainAttrs_list PySem.F.slot_list_append PySem.F.type_list_append mt_append (pv 1) (pa_cons (pv 3) pa_nil))))))))
      (pss_one (ps_ret (pe_ix ix_list (pv 1) pe_int (fun _ _ => rfl))))), ?_⟩
    refine ⟨_, rfl, by decide, fun tp0 ntp0 => ?_⟩
    refine ⟨v, tp0, _, .type (tyD d), [.type "list", .type "tuple"], _, rfl, upd_same, .cons (.ty _) (.cons (.ty _) .nil), dp_ty (dp_same (sv.trans (same_upd ntp0)) _ _ hd), isLT d K, _, rfl, ?_⟩
    have q2 : ∀ (H' : Hp) (v' : V), Same (upd H tp0 (.tup [.ty "list", .ty "tuple"])) H' → Dp K (newp (upd H tp0 (.tup [.ty "list", .ty "tuple"])) H') v' d → Q v' H' := fun H' v' e1 e2 => q H' v' ((same_upd ntp0).trans e1) (dp_same (newp_less (same_upd ntp0)) _ _ e2)
    have sv2 : Same Hv (upd H tp0 (.tup [.ty "list", .ty "tuple"])) := sv.trans (same_upd ntp0)
    cases hlt : (tyD d == "list" || tyD d == "tuple") with
    | false =>
      exact iteT ⟨_, rfl, q2 _ _ (fun _ _ e => e) (dp_leaf hd hlt)⟩
    | true =>
    refine iteF ?_
    generalize upd H tp0 (.tup [.ty "list", .ty "tuple"]) = H at sv2 q2
    clear q sv ntp0 tp0
    have sv := sv2
    have q := q2
    refine ⟨by decide, fun da nda => ?_⟩
    -- all_parts(thing)[::-1]
    refine ⟨_, rfl, v, d, Hv, rfl, sv.trans (same_upd nda), hd, hn, fun H1 p rs sm1 np hp hP hlen => ?_⟩
    have hda1 : H1 da = some (.lst []) := sm1 _ _ upd_same
    refine ⟨p, _, rfl, SqL.of hp, fun r nr => ?_⟩
    rw [List.reverse_reverse]
    have rda : da ≠ r := ne_of_none hda1 nr
    have s0 : Same H (upd H1 r (.lst rs)) := ((same_upd nda).trans sm1).trans (same_upd nr)
    have hr0 : H r = none := ((same_upd nda).trans sm1).free nr
    have nda0 : H da = none := nda
    refine ⟨r, rfl, ⟨_, SqL.of upd_same⟩, for_list (K := K) (a := r) (xs := rs) (fun i σ H2 => ∃ (S : List V × List PyData) (cs : List V) (y2 y3 : Option V), σ = [some v, some (.ref da), y2, y3, none] ∧ Same H H2 ∧ H2 r = some (.lst rs) ∧
      Path K Hv ([v], [d]) (rs.drop i) S ∧ H2 da = some (.lst cs.reverse) ∧ DpAll K (newB H da H2) cs S.2) ?_ ?_ ?_ ?_⟩
    · exact ⟨([], []), [], none, none, rfl, s0, upd_same, hP, by rw [upd_ne rda]; exact hda1, .nil⟩
    · rintro i σ H2 hi ⟨S, cs, y2, y3, rfl, _, g, _⟩
      exact SqL.of g
    · rintro i x σ H2 hx ⟨S, cs, y2, y3, rfl, sm, hrs, hPi, hda, hcs⟩
      have edrop : rs.drop i = x :: rs.drop (i + 1) := by
        obtain ⟨hj, e⟩ := List.getElem?_eq_some_iff.mp hx
        rw [List.drop_eq_getElem_cons hj, e]
      rw [edrop] at hPi
      cases hPi with
      | @cons _ S1 _ _ hP1 hst =>
      have cnt := path_count (.cons hP1 hst)
      have cnt0 : ndAll ([d] : List PyData) = nd d := by simp [ndAll]
      have lcs : cs.length ≤ 1000000 := by
        have e1 := DpAll.length hcs
        have e2 := ndAll_len S.2
        have e3 : ndAll (([v], [d]) : List V × List PyData).2 = nd d := cnt0
        omega
      -- the part's data
      obtain ⟨dx, hdx⟩ : ∃ dx, Dp K Hv x dx ∧ ((∃ r1 rd1, S1 = (x :: r1, dx :: rd1) ∧ S = (r1, rd1) ∧ (tyD dx == "list" || tyD dx == "tuple") = false) ∨
          (∃ a xs es r1 rd1, x = .ref a ∧ dx = .list es ∧ SqL K Hv a xs ∧ DpAll K Hv xs es ∧ S1 = (x :: r1, .list es :: rd1) ∧ S = (xs ++ r1, es ++ rd1)) ∨
          (∃ a xs es r1 rd1, x = .ref a ∧ dx = .tuple es ∧ SqT K Hv a xs ∧ DpAll K Hv xs es ∧ S1 = (x :: r1, .tuple es :: rd1) ∧ S = (xs ++ r1, es ++ rd1))) := by
        cases hst with
        | leaf h e => exact ⟨_, h, .inl ⟨_, _, rfl, rfl, e⟩⟩
        | lst h g => exact ⟨_, .lst h g, .inr (.inl ⟨_, _, _, _, _, rfl, rfl, h, g, rfl, rfl⟩)⟩
        | tup h g => exact ⟨_, .tup h g, .inr (.inr ⟨_, _, _, _, _, rfl, rfl, h, g, rfl, rfl⟩)⟩
      obtain ⟨hx1, hcase⟩ := hdx
      -- made = part; isinstance(part, (list, tuple))
      refine ⟨_, rfl, _, rfl, by decide, fun tp ntp => ?_⟩
      have sm3 : Same H (upd H2 tp (.tup [.ty "list", .ty "tuple"])) := sm.trans (same_upd ntp)
      have hda3 : (upd H2 tp (.tup [.ty "list", .ty "tuple"])) da = some (.lst cs.reverse) := same_upd ntp _ _ hda
      have hrs3 : (upd H2 tp (.tup [.ty "list", .ty "tuple"])) r = some (.lst rs) := same_upd ntp _ _ hrs
      have hcs3 : DpAll K (newB H da (upd H2 tp (.tup [.ty "list", .ty "tuple"]))) cs S.2 := dpAll_same (newB_mono fun b o _ e => same_upd ntp b o e) _ _ hcs
      refine ⟨x, tp, _, .type (tyD dx), [.type "list", .type "tuple"], _, rfl, upd_same, .cons (.ty _) (.cons (.ty _) .nil), dp_ty (dp_same (sv.trans sm3) _ _ hx1), isLT dx K, _, rfl, ?_⟩
      generalize upd H2 tp (.tup [.ty "list", .ty "tuple"]) = G at sm3 hda3 hrs3 hcs3
      rcases hcase with ⟨r1, rd1, rfl, rfl, e⟩ | ⟨a, xs, es, r1, rd1, rfl, rfl, g1, g2, rfl, rfl⟩ | ⟨a, xs, es, r1, rd1, rfl, rfl, g1, g2, rfl, rfl⟩
      · rw [e]
        refine iteF ?_
        have e2 : (tyD dx == "tuple") = false := (Bool.or_eq_false_iff.mp e).2
        refine ⟨_, rfl, x, .ty "tuple", .type (tyD dx), .type "tuple", _, rfl, .ty _, dp_ty (dp_leaf hx1 e), kit1 dx K, _, rfl, ?_⟩
        rw [e2]
        refine iteF ?_
        refine ⟨_, rfl, .inl ⟨rfl, _, SqL.of hda3⟩, _, rfl, da, _, _, rfl, rfl, hda3, Nat.lt_of_le_of_lt (by simpa using lcs) (by decide), ?_⟩
        refine ⟨_, x :: cs, _, _, rfl, same_fresh nda0 sm3, by rw [upd_ne rda.symm]; exact hrs3, hP1, ?_, ?_⟩
        · rw [upd_same]
          simp
        · exact .cons (dp_leaf hx1 e) (dpAll_same (newB_mono fun b o hb e => by rw [upd_ne hb]; exact e) _ _ hcs3)
      · obtain ⟨c1, c2, rfl, hc1, hc2⟩ := DpAll.split hcs3
        have hxl : xs.length = c1.length := (DpAll.length g2).trans (DpAll.length hc1).symm
        refine iteT (.inl ?_)
        refine ⟨_, rfl, a, rfl, ⟨_, (sv.trans sm3).seq g1⟩, fun D nD => lc_list (K := K) (a := a) (xs := xs) (fun j H4 => H4 da = some (.lst (c2.reverse ++ (c1.drop j).reverse)) ∧ H4 D = some (.lst (c1.take j)) ∧ ∀ b o, b ≠ da → b ≠ D → G b = some o → H4 b = some o) ?_ ?_ ?_ ?_⟩
        · have ne : da ≠ D := ne_of_none hda3 nD
          refine ⟨?_, upd_same, fun b o _ hb e => by rw [upd_ne hb]; exact e⟩
          rw [upd_ne ne, hda3]
          simp
        · rintro j H4 hj ⟨_, _, kp⟩
          have nDH : H D = none := sm3.free nD
          exact Same.seq (fun b o e => kp b o (ne_of_none e nda0) (ne_of_none e nDH) (sm3 b o e)) (sv.seq g1)
        · rintro j y H4 hy ⟨k1, k2, kp⟩
          have ne : da ≠ D := ne_of_none hda3 nD
          have hjl : j < c1.length := by
            have := (List.getElem?_eq_some_iff.mp hy).1
            omega
          have hcj : c1[j]? = some c1[j] := List.getElem?_eq_getElem hjl
          rw [rev_drop hcj, ← List.append_assoc] at k1
          refine ⟨rfl, .ref da, rfl, .inl ⟨rfl, _, SqL.of k1⟩, da, _, c1[j], rfl, rfl, k1, by simp, ?_⟩
          rw [List.dropLast_concat]
          refine ⟨c1.take j, by rw [upd_ne ne.symm]; exact k2, ?_, ?_, ?_, fun b o h1 h2 e => ?_⟩
          · refine Nat.lt_of_le_of_lt (show (c1.take j).length ≤ 1000000 from ?_) (by decide)
            rw [List.length_append] at lcs
            have := List.length_take_le j c1
            omega
          · rw [upd_ne ne, upd_same]
          · rw [upd_same, List.take_add_one, hcj]
            rfl
          · rw [upd_ne h2, upd_ne h1]
            exact kp b o h1 h2 e
        · rintro H4 ⟨k1, k2, kp⟩
          have ne : da ≠ D := ne_of_none hda3 nD
          have nDH : H D = none := sm3.free nD
          have sm4 : Same H H4 := fun b o e => kp b o (ne_of_none e nda0) (ne_of_none e nDH) (sm3 b o e)
          have rD : r ≠ D := ne_of_none hrs3 nD
          have hr4 : H4 r = some (.lst rs) := kp r _ rda.symm rD hrs3
          rw [hxl] at k1 k2
          rw [List.drop_length, List.reverse_nil, List.append_nil] at k1
          rw [List.take_length] at k2
          have mono4 : Same (newB H da G) (newB H da H4) := fun b o e => by
            by_cases hb : b = da
            · unfold newB at e
              rw [if_pos hb] at e
              cases e
            · cases hh : H b with
              | some u =>
                unfold newB at e
                rw [if_neg hb, hh] at e
                cases e
              | none =>
                rw [newB_at hh hb] at e ⊢
                exact kp b o hb (ne_of_none e nD) e
          have hd4 : DpAll K (newB H da H4) c1 es := dpAll_same mono4 _ _ hc1
          have hd5 : DpAll K (newB H da H4) c2 rd1 := dpAll_same mono4 _ _ hc2
          have hD4 : (newB H da H4) D = some (.lst c1) := by
            rw [newB_at nDH ne.symm]
            exact k2
          have hc1l : c1.length ≤ 1000000 ∧ c2.length ≤ 1000000 := by
            rw [List.length_append] at lcs
            omega
          refine ⟨_, rfl, .ref a, .ty "tuple", .type "list", .type "tuple", _, rfl, .ty _, dp_ty (d := .list es) (.lst (Same.seq sm4 (sv.seq g1)) (dpAll_same (sv.trans sm4) _ _ g2)), kit1 (.list es) K, _, rfl, ?_⟩
          refine iteF ?_
          refine ⟨_, rfl, .inl ⟨rfl, _, SqL.of k1⟩, _, rfl, da, _, _, rfl, rfl, k1, Nat.lt_of_le_of_lt (by simpa using hc1l.2) (by decide), ?_⟩
          refine ⟨_, .ref D :: c2, _, _, rfl, same_fresh nda0 sm4, by rw [upd_ne rda.symm]; exact hr4, hP1, ?_, ?_⟩
          · rw [upd_same]
            simp
          · have up : Same (newB H da H4) (newB H da (upd H4 da (.lst (c2.reverse ++ [.ref D])))) := newB_mono fun b o hb e => by
              rw [upd_ne hb]
              exact e
            exact .cons (.lst (SqL.of (up _ _ hD4)) (dpAll_same up _ _ hd4)) (dpAll_same up _ _ hd5)
      · obtain ⟨c1, c2, rfl, hc1, hc2⟩ := DpAll.split hcs3
        have hxl : xs.length = c1.length := (DpAll.length g2).trans (DpAll.length hc1).symm
        refine iteT (.inr ?_)
        refine ⟨_, rfl, a, rfl, ⟨_, same_sqt (sv.trans sm3) g1⟩, fun D nD => lc_tup (K := K) (a := a) (xs := xs) (fun j H4 => H4 da = some (.lst (c2.reverse ++ (c1.drop j).reverse)) ∧ H4 D = some (.lst (c1.take j)) ∧ ∀ b o, b ≠ da → b ≠ D → G b = some o → H4 b = some o) ?_ ?_ ?_ ?_⟩
        · have ne : da ≠ D := ne_of_none hda3 nD
          refine ⟨?_, upd_same, fun b o _ hb e => by rw [upd_ne hb]; exact e⟩
          rw [upd_ne ne, hda3]
          simp
        · rintro j H4 hj ⟨_, _, kp⟩
          have nDH : H D = none := sm3.free nD
          exact same_sqt (fun b o e => kp b o (ne_of_none e nda0) (ne_of_none e nDH) (sm3 b o e)) (same_sqt sv g1)
        · rintro j y H4 hy ⟨k1, k2, kp⟩
          have ne : da ≠ D := ne_of_none hda3 nD
          have hjl : j < c1.length := by
            have := (List.getElem?_eq_some_iff.mp hy).1
            omega
          have hcj : c1[j]? = some c1[j] := List.getElem?_eq_getElem hjl
          rw [rev_drop hcj, ← List.append_assoc] at k1
          refine ⟨rfl, .ref da, rfl, .inl ⟨rfl, _, SqL.of k1⟩, da, _, c1[j], rfl, rfl, k1, by simp, ?_⟩
          rw [List.dropLast_concat]
          refine ⟨c1.take j, by rw [upd_ne ne.symm]; exact k2, ?_, ?_, ?_, fun b o h1 h2 e => ?_⟩
          · refine Nat.lt_of_le_of_lt (show (c1.take j).length ≤ 1000000 from ?_) (by decide)
            rw [List.length_append] at lcs
            have := List.length_take_le j c1
            omega
          · rw [upd_ne ne, upd_same]
          · rw [upd_same, List.take_add_one, hcj]
            rfl
          · rw [upd_ne h2, upd_ne h1]
            exact kp b o h1 h2 e
        · rintro H4 ⟨k1, k2, kp⟩
          have ne : da ≠ D := ne_of_none hda3 nD
          have nDH : H D = none := sm3.free nD
          have sm4 : Same H H4 := fun b o e => kp b o (ne_of_none e nda0) (ne_of_none e nDH) (sm3 b o e)
          have rD : r ≠ D := ne_of_none hrs3 nD
          have hr4 : H4 r = some (.lst rs) := kp r _ rda.symm rD hrs3
          rw [hxl] at k1 k2
          rw [List.drop_length, List.reverse_nil, List.append_nil] at k1
          rw [List.take_length] at k2
          have mono4 : Same (newB H da G) (newB H da H4) := fun b o e => by
            by_cases hb : b = da
            · unfold newB at e
              rw [if_pos hb] at e
              cases e
            · cases hh : H b with
              | some u =>
                unfold newB at e
                rw [if_neg hb, hh] at e
                cases e
              | none =>
                rw [newB_at hh hb] at e ⊢
                exact kp b o hb (ne_of_none e nD) e
          have hd4 : DpAll K (newB H da H4) c1 es := dpAll_same mono4 _ _ hc1
          have hd5 : DpAll K (newB H da H4) c2 rd1 := dpAll_same mono4 _ _ hc2
          have hD4 : (newB H da H4) D = some (.lst c1) := by
            rw [newB_at nDH ne.symm]
            exact k2
          have hc1l : c1.length ≤ 1000000 ∧ c2.length ≤ 1000000 := by
            rw [List.length_append] at lcs
            omega
          refine ⟨_, rfl, .ref a, .ty "tuple", .type "tuple", .type "tuple", _, rfl, .ty _, dp_ty (d := .tuple es) (.tup (same_sqt sm4 (same_sqt sv g1)) (dpAll_same (sv.trans sm4) _ _ g2)), kit1 (.tuple es) K, _, rfl, ?_⟩
          refine iteT ?_
          -- made = tuple(made)
          refine ⟨_, rfl, D, c1, rfl, .inl ⟨SqL.of k2, fun tq ntq => ?_⟩⟩
          have nq : H tq = none := sm4.free ntq
          have dq : da ≠ tq := ne_of_none k1 ntq
          have rq : r ≠ tq := ne_of_none hr4 ntq
          have k5 : (upd H4 tq (.tup c1)) da = some (.lst c2.reverse) := by
            rw [upd_ne dq]
            exact k1
          refine ⟨_, rfl, .inl ⟨rfl, _, SqL.of k5⟩, _, rfl, da, _, _, rfl, rfl, k5, Nat.lt_of_le_of_lt (by simpa using hc1l.2) (by decide), ?_⟩
          refine ⟨_, .ref tq :: c2, _, _, rfl, same_fresh nda0 (sm4.trans (same_upd ntq)), by rw [upd_ne rda.symm, upd_ne rq]; exact hr4, hP1, ?_, ?_⟩
          · rw [upd_same]
            simp
          · have up : Same (newB H da H4) (newB H da (upd (upd H4 tq (.tup c1)) da (.lst (c2.reverse ++ [.ref tq])))) := newB_mono fun b o hb e => by
              rw [upd_ne hb, upd_ne (ne_of_none e ntq)]
              exact e
            have at_ : (newB H da (upd (upd H4 tq (.tup c1)) da (.lst (c2.reverse ++ [.ref tq])))) tq = some (.tup c1) := by
              rw [newB_at nq dq.symm, upd_ne dq.symm, upd_same]
            exact .cons (.tup (SqT.of at_) (dpAll_same up _ _ hd4)) (dpAll_same up _ _ hd5)
    · rintro σ H2 ⟨S, cs, y2, y3, rfl, sm, hrs, hPi, hda, hcs⟩
      rw [List.drop_length] at hPi
      cases hPi
      cases hcs with
      | @cons c1 _ _ _ h1 h2 =>
        cases h2
        refine ⟨_, rfl, da, [c1], 0, c1, rfl, rfl, SqL.of hda, atI_nat (j := 0) rfl, ?_⟩
        exact q H2 c1 sm (dp_same newB_newp _ _ h1)
end
end TX
namespace TX
open PySem PySem.Spec PyProof.Rows L2
/-! ### classes of errors -/
structure Cl (K : PySem.W.Frag) (mg : Str → Option Value) (TE : Addr) (nm : Str) (C : Addr) : Prop where
  mgC : mg nm = some (.ref C)
  ox : OexC K C
  ec : ExcC K C
  xf : XfC K C
  ty : PySem.W.typeIn K (.ref C) = some (.type "type")
  mro : ∃ cd, PySem.W.clsIn K C = some cd ∧ cd.mro = [.ref C, .ref TE, .type "ValueError", .type "Exception", .type "BaseException", .type "object"]
theorem mro_is {K : PySem.W.Frag} {C : Addr} {cd : ClassData} {l : List Value} {b : Value} (h : PySem.W.clsIn K C = some cd) (e : cd.mro = l) (hl : l.isEmpty = false) : PySem.W.mroIn K C b = some (l.contains b) := by
  unfold PySem.W.mroIn
  rw [h]
  show (if cd.mro.isEmpty = true then none else some (cd.mro.contains b)) = _
  rw [e, hl, if_neg Bool.false_ne_true]
theorem ref_beq (a b : Addr) : (Value.ref a == Value.ref b) = decide (a = b) := by
  by_cases h : a = b
  · rw [h, decide_eq_true rfl]
    exact beq_self_eq_true _
  · rw [decide_eq_false h]
    exact beq_eq_false_iff_ne.mpr fun e => h (Value.ref.inj e)
section
variable {K : PySem.W.Frag} {mg : Str → Option Value} {TE C D : Addr} {nm nm' : Str}
theorem kit_same (c : Cl K mg TE nm C) : PySem.W.kitOne K (.ref C) (.ref C) = some true := by
  unfold PySem.W.kitOne
  rw [beq_self_eq_true, if_pos rfl]
theorem kit_cls (c : Cl K mg TE nm C) {cd : ClassData} (hd : PySem.W.clsIn K D = some cd) (ht : PySem.W.typeIn K (.ref D) = some (.type "type")) (hne : C ≠ D) : PySem.W.kitOne K (.ref C) (.ref D) = some (decide (D = TE)) := by
  obtain ⟨c1, h1, h2⟩ := c.mro
  have e1 : (Value.ref C == Value.ref D) = false := by
    rw [ref_beq]
    exact decide_eq_false hne
  have e2 : ((PySem.W.clsIn K D).isSome && PySem.W.typeIn K (.ref D) == some (.type "type")) = true := by
    rw [hd, ht]
    rfl
  unfold PySem.W.kitOne
  rw [e1, if_neg Bool.false_ne_true]
  show (if ((PySem.W.clsIn K D).isSome && PySem.W.typeIn K (.ref D) == some (.type "type")) = true then PySem.W.mroIn K C (.ref D) else none) = _
  rw [if_pos e2, mro_is h1 h2 rfl]
  have e3 : (Value.ref D == Value.ref C) = false := by
    rw [ref_beq]
    exact decide_eq_false (Ne.symm hne)
  simp only [List.contains_cons, e3, ref_beq, Bool.false_or]
  have f1 : (Value.ref D == Value.type "ValueError") = false := rfl
  have f2 : (Value.ref D == Value.type "Exception") = false := rfl
  have f3 : (Value.ref D == Value.type "BaseException") = false := rfl
  have f4 : (Value.ref D == Value.type "object") = false := rfl
  simp [f1, f2, f3, f4]
theorem kit_ve (c : Cl K mg TE nm C) : PySem.W.kitOne K (.ref C) (.type "ValueError") = some true := by
  obtain ⟨c1, h1, h2⟩ := c.mro
  unfold PySem.W.kitOne
  rw [show (Value.ref C == Value.type "ValueError") = false from rfl, if_neg Bool.false_ne_true]
  show (if PySem.W.kitMeta "ValueError" = true then PySem.W.mroIn K C (.type "ValueError") else none) = _
  rw [if_pos (by decide +kernel), mro_is h1 h2 rfl]
  have f0 : (Value.type "ValueError" == Value.ref C) = false := rfl
  have f1 : (Value.type "ValueError" == Value.ref TE) = false := rfl
  have f2 : (Value.type "ValueError" == Value.type "ValueError") = true := by decide +kernel
  simp only [List.contains_cons, f0, f1, f2, Bool.true_or, Bool.or_true]
/-- what «except TextorlistError» takes -/
theorem exm_te (c : Cl K mg TE nm C) (hs : PySem.W.subIn K (.ref TE) (.type "BaseException") = some true) (hd : PySem.W.hasDictIn K TE = true) (ht : PySem.W.typeIn K (.ref TE) = some (.type "type")) : PySem.W.exmOne K (.ref C) (.ref TE) = some true := by
  obtain ⟨c1, h1, h2⟩ := c.mro
  refine PySem.W.exm_ref hs hd ht ?_
  show PySem.W.mroIn K C (.ref TE) = _
  rw [mro_is h1 h2 rfl]
  have f1 : (Value.ref TE == Value.ref TE) = true := beq_self_eq_true _
  simp only [List.contains_cons, f1, Bool.true_or, Bool.or_true]
end
theorem take0 {X : Cx} : Takes X (fun _ _ _ _ => False) := fun _ _ ⟨_, _, _, _, _, _, _, _, _, _, _, _, _, _, _, _, z⟩ => z.elim
/-- what the top's row of facts says of an error's class -/
theorem cl_of {K : PySem.W.Frag} {mg : Str → Option Value} {TE C : Addr} {x nm q : Str} {N : Addr} {bs : List Value} {sn : List Str} {sub : List Value} {ab : Bool} {col : Option Bool} {dd : Option Addr} {m0 m1 m2 m3 m5 : Option Value}
    (g : mg x = some (.ref C)) (l : K.lookup C = some (excClassObj nm q C N bs [.ref TE, .type "ValueError", .type "Exception", .type "BaseException", .type "object"] true sn sub ab col dd m0 m1 m2 m3 m5 "ValueError.__new__"))
    (sa : PySem.W.findIn K (.ref C) "__setattr__" = some (some (.builtin "object.__setattr__"))) (ga : PySem.W.findIn K (.ref C) "__getattribute__" = some (some (.builtin "BaseException.__getattribute__"))) (gg : PySem.W.findIn K (.ref C) "__getattr__" = some none)
    (ha : PySem.W.findIn K (.ref C) "__class__" = some (some (.builtin "object.__class__"))) (hn : PySem.W.specialIn K (.builtin "object.__class__") "__get__" = some (some (.builtin "getset_descriptor.__get__"))) (ht : PySem.W.takesIn K (.builtin "object.__class__") = some true)
    (kc : PySem.W.keepIn K (.ref C) = true) : Cl K mg TE x C := by
  have hc : ∃ cd, PySem.W.clsIn K C = some cd ∧ cd.mro = [.ref C, .ref TE, .type "ValueError", .type "Exception", .type "BaseException", .type "object"] ∧ cd.hasDict = true := by
    refine ⟨{ name := nm, bases := bs, mro := [.ref C, .ref TE, .type "ValueError", .type "Exception", .type "BaseException", .type "object"], ns := N, qualname := q, hasDict := true, slotNames := sn, subclasses := sub, abstract := ab, collection := col, hasDel := false }, ?_, ?_, ?_⟩
    · unfold PySem.W.clsIn
      rw [l] <;> rfl
    · rfl
    · rfl
  obtain ⟨cd, h1, h2, h3⟩ := hc
  have has : ∀ T : String, PySem.W.mroIn K C (.type T) = some ((Value.type T == Value.type "ValueError") || ((Value.type T == Value.type "Exception") || ((Value.type T == Value.type "BaseException") || ((Value.type T == Value.type "object") || false)))) := by
    intro T
    rw [mro_is h1 h2 rfl]
    have f0 : (Value.type T == Value.ref C) = false := rfl
    have f1 : (Value.type T == Value.ref TE) = false := rfl
    simp only [List.contains_cons, f0, f1, Bool.false_or, List.contains_nil]
  have sB : PySem.W.subIn K (.ref C) (.type "BaseException") = some true := (has "BaseException").trans (by decide +kernel)
  have sO : PySem.W.mroIn K C (.type "object") = some true := (has "object").trans (by decide +kernel)
  have hd : PySem.W.hasDictIn K C = true := by
    unfold PySem.W.hasDictIn
    rw [h1]
    exact h3
  have ty : PySem.W.typeIn K (.ref C) = some (.type "type") := by
    show (K.lookup C).map (·.cls) = _
    rw [l] <;> rfl
  exact ⟨g, ⟨⟨nm, q, N, bs, _, sn, sub, ab, col, dd, m0, m1, m2, m3, m5, l, rfl⟩, sa, sB, ty, kc⟩, ⟨ga, gg, sB, hd, ha, hn, ht, sO⟩, ⟨ga, gg, sB, hd⟩, ty, cd, h1, h2⟩
theorem passF {X : Cx} : Passes (L2.CX X.prog X.w) X (fun _ _ _ => False) := fun _ _ _ _ _ _ _ ⟨_, _, _, _, _, _, _, _, _, _, _, _, z⟩ => z.elim
/-- behind an __init__ of the fields fs: the error at a, its dict at dx -/
structure Made (K : PySem.W.Frag) (H : Hp) (a C dx : Addr) (fs : List (Str × V)) (H2 : Hp) (ws : List V) (ds : List PyData) : Prop where
  ea : H2 a = some (exo a C (some dx))
  ed : H2 dx = some (exd dx fs)
  new : H dx = none
  ne : dx ≠ a
  keep : ∀ b o, b ≠ a → H b = some o → H2 b = some o
  dat : DpAll K (del (del H2 a) dx) ws ds
def spIn1 (K : PySem.W.Frag) (C : Addr) (fld : Str) : Sp := fun vs H Q _ => ∃ (a : Addr) (v : V) (d : PyData) (Hv : Hp), vs = [.ref a, v] ∧ OexC K C ∧ PySem.W.findIn K (.ref C) fld = some none ∧ H a = some (exo a C none) ∧ Same Hv H ∧ Dp K Hv v d ∧ nd d ≤ 1000000 ∧
  ∀ (H2 : Hp) (dx : Addr) (w : V), Made K H a C dx [(fld, w)] H2 [w] [d] → Q .non H2
theorem cut_same {H H' : Hp} {a dx : Addr} {o : HO} {u u' : HO} (ha : H a = some o) (hd : H' dx = none) : Same (newp H H') (del (del (upd (upd H' dx u) a u') a) dx) := fun b x e => by
  cases h : H b with
  | some y =>
    rw [newp_old h] at e
    cases e
  | none =>
    rw [newp_at h] at e
    have ba : b ≠ a := fun z => by
      rw [z, ha] at h
      cases h
    have bd : b ≠ dx := fun z => by
      rw [z, hd] at e
      cases e
    rw [del_ne bd, del_ne ba, upd_ne ba, upd_ne bd]
    exact e
theorem made_same {K : PySem.W.Frag} {H H2 : Hp} {a C dx : Addr} {fs fs' : List (Str × V)} {ws : List V} {ds : List PyData} (na : H a = none) (M : Made K (upd H a (exo a C none)) a C dx fs H2 ws ds) :
    Same H (upd (del H2 a) dx (.xd fs')) ∧ H dx = none ∧ DpAll K (upd (del H2 a) dx (.xd fs')) ws ds := by
  have hd : H dx = none := by
    have e := M.new
    rw [upd_ne M.ne] at e
    exact e
  refine ⟨fun b o e => ?_, hd, dpAll_same (fun b o e => ?_) _ _ M.dat⟩
  · have ba := ne_of_none e na
    rw [upd_ne (ne_of_none e hd), del_ne ba]
    exact M.keep b o ba (by rw [upd_ne ba]; exact e)
  · by_cases hb : b = dx
    · rw [hb, del_same] at e
      cases e
    · rw [upd_ne hb]
      rw [del_ne hb] at e
      exact e
def tFe (K : PySem.W.Frag) (a : Addr) (cls : Value) (d : Option Addr) (f : Str) (te : TE) : TE := fun σ H Q => ∃ C, cls = .ref C ∧ XfC K C ∧ PySem.W.findIn K (.ref C) f = some none ∧ tXf a cls d C f te σ H Q
theorem pe_fe {X : Cx} {a : Addr} {oe : Obj} {cls : Value} {d : Option Addr} {pn : List (Addr × Obj)} {e : Expr} {te : TE} {pos : Pos} {n : Str} (hz : Zc cls d oe) (hf : ∃ vs, oe.data = .fields vs) (he : PE (X.suite a ((a, oe) :: pn)) e te)
    (hb : attributeBase e n X.env (eval e X.env) = eval e X.env := by rfl) : PE (X.suite a ((a, oe) :: pn)) (.Attribute e n pos) (tFe X.K a cls d n te) := by
  refine ⟨fun pins s σ H Q I h => ?_⟩
  obtain ⟨C, _, T, hno, h⟩ := h
  exact (pe_xf T hno hz hf he hb).run pins s σ H Q I h
end TX
namespace TX
open PySem PySem.Spec PyProof.Rows L2 KTD
/-! ### the lines of a program -/
def readRows (T : Tbs) : RS → Nat → List (Nat × List Str) → Except Nat RS
  | S, _, [] => .ok S
  | S, n, (sp, ts) :: r => match acceptS T S sp ts with
    | none => .error n
    | some S' => readRows T S' (n + 1) r
def readAll (T : Tbs) (rows : List (Nat × List Str)) : Except Nat RS := match readRows T RS.init 0 rows with
  | .error n => .error n
  | .ok S => if isWhole S = true then .ok (closeS S 0 false) else .error rows.length
theorem readRows_snoc (T : Tbs) : ∀ (rows : List (Nat × List Str)) (S S' : RS) (n : Nat) (sp : Nat) (ts : List Str), readRows T S n rows = .ok S' → readRows T S n (rows ++ [(sp, ts)]) = match acceptS T S' sp ts with
    | none => .error (n + rows.length)
    | some S2 => .ok S2
  | [], S, S', n, sp, ts, h => by
    cases h
    show (match acceptS T S sp ts with | none => _ | some S2 => readRows T S2 (n + 1) []) = _
    cases acceptS T S sp ts <;> rfl
  | (a, b) :: r, S, S', n, sp, ts, h => by
    show (match acceptS T S a b with | none => _ | some S2 => readRows T S2 (n + 1) (r ++ [(sp, ts)])) = _
    have h : (match acceptS T S a b with | none => .error n | some S2 => readRows T S2 (n + 1) r) = (.ok S' : Except Nat RS) := h
    cases e : acceptS T S a b with
    | none =>
      rw [e] at h
      cases h
    | some S2 =>
      rw [e] at h
      dsimp only at h ⊢
      rw [readRows_snoc T r S2 S' (n + 1) sp ts h]
      have : n + 1 + r.length = n + ((a, b) :: r).length := by
        rw [List.length_cons]
        omega
      rw [this]
theorem readRows_stop (T : Tbs) : ∀ (rows more : List (Nat × List Str)) (S : RS) (n j : Nat), readRows T S n rows = .error j → readRows T S n (rows ++ more) = .error j
  | [], _, S, n, j, h => by cases h
  | (a, b) :: r, more, S, n, j, h => by
    show (match acceptS T S a b with | none => _ | some S2 => readRows T S2 (n + 1) (r ++ more)) = _
    have h : (match acceptS T S a b with | none => .error n | some S2 => readRows T S2 (n + 1) r) = (.error j : Except Nat RS) := h
    cases e : acceptS T S a b with
    | none =>
      rw [e] at h
      exact h
    | some S2 =>
      rw [e] at h
      exact readRows_stop T r more S2 (n + 1) j h
/-- new behind H -/
def Nb (H : Hp) (A : RA) (G : Hp) : Prop := Same H G ∧ ∀ b ∈ A.own, H b = none
theorem Nb.ext {H G G' : Hp} {A A' : RA} (h : Nb H A G) (e : Ext A G A' G') : Nb H A' G' := ⟨fun b o q => e.keep b o (fun z => by
  rw [h.2 b z] at q
  cases q) (h.1 b o q), fun b hb => by
  rcases e.own b hb with y | y
  · exact h.2 b y
  · exact h.1.free y⟩
def RowsOk (T : Tbs) (rows : List (Nat × List Str)) : Prop := ∀ r ∈ rows, RowTok r.2 ∧ IfOk T r.2
/-- what is handed on where a line is wrong -/
def LineE (BP : Addr) (H : Hp) (n : Nat) (E : XK) : Prop := ∀ (H3 : Hp) (dx : Addr), Same H H3 → H3 dx = some (.xd [("line", .int (n : Nat))]) → E (.ref BP) (some dx) H3
theorem RowsAt.get {H : Hp} : ∀ {vs : List V} {rs : List (Nat × List Str)} {i : Nat} {v : V}, RowsAt H vs rs → vs[i]? = some v → ∃ r, rs[i]? = some r ∧ RowAt H v r
  | _, _, 0, _, .cons h _, e => by
    cases e
    exact ⟨_, rfl, h⟩
  | _, _, i + 1, _, .cons _ t, e => by
    obtain ⟨r, e2, h⟩ := RowsAt.get t (i := i) (by simpa using e)
    exact ⟨r, by simpa using e2, h⟩
  | _, _, _, _, .nil, e => by simp at e
def spReadRows (K : PySem.W.Frag) (C CB CR BP : Addr) (T : Tbs) : Sp := fun vs H Q E => ∃ (l : Addr) (rv : List V) (rows : List (Nat × List Str)), vs = [.ref l] ∧ H l = some (.lst rv) ∧ RowsAt H rv rows ∧ rows ≠ [] ∧ rows.length ≤ 20000 ∧ RowsOk T rows ∧
  (∀ S, readAll T rows = .ok S → Good S rows.length → S.lines.length = rows.length → ∀ H' A, Same H H' → RdAt K C CB CR H' A S → (∀ b ∈ A.own, H b = none) → Q (.ref A.r) H') ∧ ∀ n, readAll T rows = .error n → LineE BP H n E
section
variable {P : Program} {w : World} {K : PySem.W.Frag} {mg : Str → Option Value} {base : Heap} {C CB CR TE BP : Addr}
theorem scBp : FnScope ["self", "line"] ["self", "line"] (defScope mBadProgram_init) := ⟨rfl, rfl, rfl, by decide +kernel, rfl, by decide +kernel, by decide +kernel⟩
theorem ok_inBp {f D fC : Addr} {fd fdC : FuncData} (F : Fun K "__init__" "BadProgram.__init__" mBadProgram_init f fd) (GC : FnOk P w K mg base CX0 2 fC fdC ["thing"] (spCopy K)) (gC : mg "copy_of" = some (.ref fC)) (kC : PySem.W.keepIn K (.ref fC) = true) (bC : Binds K fdC ["thing"] []) :
    FnOk P w K mg base CX0 3 f fd ["self", "line"] (spIn1 K D "line") := by
  refine F.ok scBp (fun vs H Q E h => ?_) (fun cdv A outer s H vs Q E hr h => ?_)
  · obtain ⟨a, v, d, Hv, rfl, _⟩ := h
    rfl
  · obtain ⟨a, v, d, Hv, rfl, ox, no, ha, sv, hd, hn, q⟩ := h
    refine ⟨_, pss_one (ps_ost (pv 0) (pe_call GC hr (by rfl) gC kC bC .nil pass0 (pa_cons (pv 1) pa_nil))), ?_⟩
    refine ⟨_, rfl, v, d, Hv, rfl, sv, hd, hn, fun H' v' sm hv' => ⟨_, rfl, a, D, rfl, ox, no, .inl ⟨sm _ _ ha, fun dx ndx hne => ?_⟩⟩⟩
    refine q _ dx v' ⟨upd_same, by rw [upd_ne hne, upd_same], sm.free ndx, hne, fun b o hb e => ?_, .cons (dp_same (cut_same ha ndx) _ _ hv') .nil⟩
    rw [upd_ne hb, upd_ne (ne_of_none (sm _ _ e) ndx)]
    exact sm _ _ e
theorem scRead : FnScope ["rows", "reading", "number", "spaces", "tokens"] ["rows"] (defScope s_read_rows) := ⟨rfl, rfl, rfl, by decide +kernel, rfl, by decide +kernel, by decide +kernel⟩
theorem ok_readRows {f fR fA fW fC fI : Addr} {fd dR dA dW dC dI : FuncData} {T : Tbs} (F : Fun K "read_rows" "read_rows" s_read_rows f fd) (len : mg "len" = none) (enum : mg "enumerate" = none) (R : RdC K CR) (mgR : mg "Reading" = some (.ref CR)) (MR : Mk K CR fR) (GR : FnOk P w K mg base CX0 3 fR dR ["self"] (spRdInit K C CB CR)) (bR : Binds K dR ["self"] [])
    (mA : Meth K CR "accepts" fA) (GA : FnOk P w K mg base CX0 7 fA dA ["self", "spaces", "tokens"] (spAccepts K C CB CR T)) (bA : Binds K dA ["self", "spaces", "tokens"] [])
    (mW : Meth K CR "is_whole" fW) (GW : FnOk P w K mg base CX0 1 fW dW ["self"] (spWhole K C CB CR)) (bW : Binds K dW ["self"] [])
    (mC : Meth K CR "close" fC) (GC : FnOk P w K mg base CX0 1 fC dC ["self", "depth", "chosen"] (spClose K C CB CR)) (bC : Binds K dC ["self", "depth", "chosen"] [])
    (c : Cl K mg TE "BadProgram" BP) (iC : PySem.W.findIn K (.ref BP) "__init__" = some (some (.ref fI))) (tI : PySem.W.typeIn K (.ref fI) = some (.type "function")) (nP : PySem.W.findIn K (.ref BP) "line" = some none)
    (GI : FnOk P w K mg base CX0 3 fI dI ["self", "line"] (spIn1 K BP "line")) (bI : Binds K dI ["self", "line"] []) : FnOk P w K mg base (L2.CX P w) 8 f fd ["rows"] (spReadRows K C CB CR BP T) := by
  refine F.okX scRead (fun vs H Q E h => ?_) (fun cdv A outer s H vs Q E hr h => ?_)
  · obtain ⟨l, rv, rows, rfl, _⟩ := h
    rfl
  · obtain ⟨l, rv, rows, rfl, hl, hR, hne, hlen, hok, q1, q2⟩ := h
    refine ⟨_, pss_cons (ps_set (i := 1) scRead.nd rfl (.inl rfl) (pe_make0 MR GR (hr.mono (by decide)) (by rfl) mgR bR .nil pass0)) <|
      pss_cons (ps_for (passes_of rfl) rfl (pi_enum (by rfl) enum (pa_cons (pv 0) pa_nil)) (pg_tup rfl (pgs_cons (pg_name (i := 2) scRead.nd rfl (.inl rfl)) (pgs_cons (pg_tup rfl (pgs_cons (pg_name (i := 3) scRead.nd rfl (.inl rfl)) (pgs_cons (pg_name (i := 4) scRead.nd rfl (.inl rfl)) pgs_nil))) pgs_nil)))
        (pss_one (ps_if (pt_not (pt_val (pe_meth (pv 1) R.cl mA GA (hr.mono (by decide)) bA .nil pass0 (pa_cons (pv 3) (pa_cons (pv 4) pa_nil))))) (pss_one (ps_raise rfl (takes_of rfl rfl rfl rfl) (by exact (pmk_oex c.ox iC tI GI (hr.mono (by decide)) bI .nil pass0 (by rfl) c.mgC (pa_cons (pv 2) pa_nil))))) pss_nil))) <|
      pss_cons (ps_if (pt_not (pt_val (pe_meth0 (pv 1) R.cl mW GW (hr.mono (by decide)) bW .nil pass0))) (pss_one (ps_raise rfl (takes_of rfl rfl rfl rfl) (by exact (pmk_oex c.ox iC tI GI (hr.mono (by decide)) bI .nil pass0 (by rfl) c.mgC (pa_cons (pe_callB call_len_seq (by rfl) len PySem.boot_len (pa_cons (pv 0) pa_nil)) pa_nil))))) pss_nil) <|
      pss_cons (ps_expr (pe_meth (pv 1) R.cl mC GC (hr.mono (by decide)) bC .nil pass0 (pa_cons pe_int (pa_cons pe_bl pa_nil)))) <|
      pss_one (ps_ret (pv 1)), ?_⟩
    have bad : ∀ (i : Nat) (Hx : Hp), Same H Hx → readAll T rows = .error i → ∀ a, Hx a = none → ∃ (a' : Addr) (v' : V) (d' : PyData) (Hw : Hp), [V.ref a, V.int (i : Nat)] = [.ref a', v'] ∧ OexC K BP ∧ PySem.W.findIn K (.ref BP) "line" = some none ∧ (upd Hx a (exo a BP none)) a' = some (exo a' BP none) ∧ Same Hw (upd Hx a (exo a BP none)) ∧ Dp K Hw v' d' ∧ nd d' ≤ 1000000 ∧
        ∀ (H2 : Hp) (dx : Addr) (w : V), Made K (upd Hx a (exo a BP none)) a' BP dx [("line", w)] H2 [w] [d'] → V.non = .non ∧ ∃ (dy : Addr) (fs : List (Str × V)), H2 a = some (exo a BP (some dy)) ∧ H2 dy = some (exd dy fs) ∧ Hx dy = none ∧ E (.ref BP) (some dy) (upd (del H2 a) dy (.xd fs)) := by
      intro i Hx sx e a na
      refine ⟨a, .int (i : Nat), .int (i : Nat), H, rfl, c.ox, nP, upd_same, sx.trans (same_upd na), .int _, by simp [nd], fun H2 dx w M => ?_⟩
      obtain ⟨s2, nx, hw⟩ := made_same (fs' := [("line", w)]) na M
      cases hw with
      | cons hw _ =>
        cases hw
        exact ⟨rfl, dx, _, M.ea, M.ed, nx, q2 i e _ dx (sx.trans s2) upd_same⟩
    have rl := RowsAt.length hR
    intro x dx nx ndx nex
    have s0 : Same H (upd (upd H dx (.own x)) x (.ins CR dx [])) := same_fresh nx (same_upd ndx)
    have e0 := upd_same (H := upd H dx (.own x)) (a := x) (o := .ins CR dx [])
    have n0 : ∀ b, (upd (upd H dx (.own x)) x (.ins CR dx [])) b = none → H b = none := fun b e => s0.free e
    generalize upd (upd H dx (.own x)) x (.ins CR dx []) = H0 at s0 e0 n0 ⊢
    refine ⟨x, dx, rfl, e0, fun H1 A eA eX h1 k1 g1 o1 => ?_⟩
    have N1 : Nb H A H1 := ⟨fun b o e => k1 b o (ne_of_none e nx) (s0 _ _ e), fun b hb => by
      rcases o1 b hb with y | y
      · rw [y]
        exact nx
      · exact n0 b y⟩
    refine ⟨rfl, _, rfl, l, rv, rfl, SqL.of (N1.1 _ _ hl), for_it (walk_enum (K := K) (a := l) (xs := rv)) (fun i σ G => ∃ (y2 y3 y4 : Option V) (B : RA) (S : RS), σ = [some (.ref l), some (.ref x), y2, y3, y4] ∧ B.r = x ∧ Nb H B G ∧ RdAt K C CB CR G B S ∧ Good S i ∧ S.lines.length = i ∧ readRows T RS.init 0 (rows.take i) = .ok S) ⟨_, _, _, A, RS.init, rfl, eA, N1, h1, Good.init, rfl, rfl⟩ (fun i σ G hi ⟨_, _, _, _, _, _, _, N, _⟩ => SqL.of (N.1 _ _ hl)) ?_ ?_⟩
    · rintro i v σ G G2 hi ⟨y2, y3, y4, B, S, rfl, eB, N, hG, gS, lS, rr⟩ ⟨tp, a1, b1, rfl, nT, rfl, e1, e2⟩
      cases e1
      obtain ⟨⟨sp, ts⟩, hr1, t1, a1, rfl, ht1, ha1⟩ := hR.get e2
      obtain ⟨rt, rif⟩ := hok _ (List.mem_of_getElem? hr1)
      have s2 : Same G (upd G tp (.tup [.int (i : Nat), .ref t1])) := same_upd nT
      have hG2 := hG.same s2
      have N2 : Nb H B (upd G tp (.tup [.int (i : Nat), .ref t1])) := N.ext (Ext.same s2)
      have tk : rows.take (i + 1) = rows.take i ++ [(sp, ts)] := by
        rw [List.take_add_one, hr1]
        rfl
      have step := readRows_snoc T (rows.take i) RS.init S 0 sp ts rr
      have li : (rows.take i).length = i := by
        rw [List.length_take]
        omega
      rw [← tk, li, Nat.zero_add] at step
      refine ⟨tp, _, rfl, SqT.of upd_same, rfl, _, _, rfl, _, _, rfl, t1, _, rfl, SqT.of (N2.1 _ _ ht1), rfl, _, _, rfl, _, _, rfl, rfl, rfl, ?_⟩
      generalize upd G tp (.tup [.int (i : Nat), .ref t1]) = G2 at s2 hG2 N2 ⊢
      have la : a1 ∉ B.own := fun z => by
        have := N2.2 a1 z
        rw [ha1] at this
        cases this
      refine ⟨_, rfl, B.r, B.dx, _, by rw [eB], hG2.r, rfl, _, rfl, _, rfl, B, S, i, sp, a1, ts, by rw [eB]; rfl, hG2, gS, by omega, N2.1 _ _ ha1, la, rt, rif, fun e H3 A3 h3 c1 c2 c3 => ⟨_, rfl, iteT ?_⟩, fun S' e H3 A3 h3 c1 c2 c3 => ⟨_, rfl, iteF ?_⟩⟩
      · refine ⟨_, rfl, (by show 1 ≤ 1000; decide), fun a na => bad i _ (N2.ext c3).1 ?_ a na⟩
        rw [e] at step
        have := readRows_stop T _ (rows.drop (i + 1)) _ _ _ step
        rw [List.take_append_drop] at this
        unfold readAll
        rw [this]
      · obtain ⟨g1, g2⟩ := accept_good gS e rt rif
        rw [e] at step
        exact ⟨_, _, _, A3, S', rfl, c1.trans eB, N2.ext c3, h3, g1, by omega, step⟩
    · rintro σ G ⟨y2, y3, y4, B, S, rfl, eB, N, hG, gS, lS, rr⟩
      rw [rl, List.take_length] at rr
      have ra : readAll T rows = if isWhole S = true then .ok (closeS S 0 false) else .error rows.length := by
        unfold readAll
        rw [rr]
      have nl : S.lines ≠ [] := fun z => by
        rw [z] at lS
        have : rv.length = 0 := lS.symm
        rw [rl] at this
        exact hne (List.length_eq_zero_iff.mp this)
      refine ⟨_, rfl, B.r, B.dx, _, by rw [eB], hG.r, rfl, B, S, by rw [eB]; rfl, hG, nl, _, rfl, ?_⟩
      cases hw : isWhole S with
      | false =>
        rw [hw, if_neg Bool.false_ne_true] at ra
        refine iteT ⟨_, rfl, l, rv, rfl, .inl (SqL.of (N.1 _ _ hl)), ?_⟩
        rw [rl]
        exact ⟨(by show 1 ≤ 1000; decide), fun a na => bad rows.length _ N.1 ra a na⟩
      | true =>
        rw [hw, if_pos rfl] at ra
        refine iteF ⟨_, rfl, B.r, B.dx, _, by rw [eB], hG.r, rfl, B, S, 0, false, by rw [eB]; rfl, hG, gS.pos, (fun z => nomatch z), fun k hk => ?_, fun H3 A3 h3 c1 c2 c3 c4 c5 => ⟨_, rfl, ?_⟩⟩
        · obtain ⟨j, hj⟩ := List.mem_iff_getElem?.mp hk
          rw [List.getElem?_drop] at hj
          exact (gS.at (d := j) (by rw [show j + 1 = 0 + 1 + j by omega]; exact hj)).line
        · have N3 := N.ext c5
          have := q1 _ ra (by rw [← rl]; exact gS.close gS.pos) (by rw [show (closeS S 0 false).lines = closeL S 0 false from rfl, closeL_len, lS, rl]) H3 A3 N3.1 h3 N3.2
          rw [c1, eB] at this
          exact this
end
end TX
namespace TX
open PySem PySem.Spec PyProof.Rows L2 KTD
/-! ### functions of a program -/
def zsOf (ls : List LnS) : List LnZ := ls.map (·.z)
theorem updL_z {ls : List LnS} {o : Option Nat} {f : LnS → LnS} (h : ∀ l, (f l).z = l.z) : zsOf (updL ls o f) = zsOf ls := by
  unfold updL
  cases o with
  | none => rfl
  | some i =>
    dsimp only
    cases e : ls[i]? with
    | none => rfl
    | some l =>
      unfold zsOf
      dsimp only
      rw [List.map_set, h]
      obtain ⟨il, e2⟩ := List.getElem?_eq_some_iff.mp e
      have : l.z = (ls.map (·.z))[i]'(by simpa using il) := by
        rw [List.getElem_map, e2]
      rw [this, List.set_getElem_self]
theorem behind_z (n : Nat) : ∀ (ks : List Bk) (ls : List LnS), zsOf (ks.foldl (behindL n) ls) = zsOf ls
  | [], _ => rfl
  | k :: ks, ls => by
    rw [List.foldl_cons, behind_z n ks]
    exact updL_z fun _ => rfl
theorem closeL_z (S : RS) (d : Nat) (ch : Bool) : zsOf (closeL S d ch) = zsOf S.lines := by
  unfold closeL chosenL
  split
  · split
    · refine Eq.trans (updL_z ?_) (behind_z _ _ _)
      exact fun _ => rfl
    · rw [behind_z]
  · rw [behind_z]
theorem shutS_z (S : RS) (d : Nat) (z : LnZ) : zsOf (shutS S d z).lines = zsOf S.lines := by
  unfold shutS
  split
  · exact closeL_z S d _
  · rfl
theorem putS_z (S : RS) (z : LnZ) (k : Bk) : zsOf (putS S z k).lines = zsOf S.lines ++ [z] := by
  have : (putS S z k).lines = (putS0 S z k).lines := by
    unfold putS
    split <;> rfl
  rw [this]
  show (S.lines ++ [_]).map _ = _
  rw [List.map_append]
  rfl
theorem accept_z {T : Tbs} {S S' : RS} {sp n : Nat} {ts : List Str} (gS : Good S n) (e : acceptS T S sp ts = some S') (hi : IfOk T ts) : ∃ z, zsOf S'.lines = zsOf S.lines ++ [z] ∧ LnGood ts z ∧ (z.deed = "def" ↔ sp / 2 = 0) ∧ mayStand S sp = true := by
  unfold acceptS at e
  split at e
  · cases e
  · rename_i hm
    split at e
    · cases e
    · rename_i k hk
      split at e
      · cases e
      · rename_i z hz
        split at e
        · cases e
        · cases e
          obtain ⟨g1, g2⟩ := lineOf_good hz hi (gS.tok hk)
          refine ⟨z, ?_, g1, g2, ?_⟩
          · rw [putS_z, shutS_z]
          · cases h : mayStand S sp with
            | true => rfl
            | false => exact absurd (.inr h) hm
structure DefOk (S : RS) : Prop where
  named : ∀ z ∈ zsOf S.lines, z.deed = "def" → z.name ≠ none
  one : S.lines = [] ∧ S.blocks.length = 1 ∨ ∃ z ∈ zsOf S.lines, z.deed = "def"
theorem DefOk.init : DefOk RS.init := ⟨(fun z h => nomatch h), .inl ⟨rfl, rfl⟩⟩
theorem accept_def {T : Tbs} {S S' : RS} {sp n : Nat} {ts : List Str} (gS : Good S n) (e : acceptS T S sp ts = some S') (hi : IfOk T ts) (h : DefOk S) : DefOk S' := by
  obtain ⟨z, ez, g, dz, hm⟩ := accept_z gS e hi
  refine ⟨fun y hy hd => ?_, .inr ?_⟩
  · rw [ez] at hy
    rcases List.mem_append.mp hy with w | w
    · exact h.named y w hd
    · rw [List.mem_singleton.mp w] at hd ⊢
      exact g.df hd
  · rw [ez]
    rcases h.one with ⟨h1, h2⟩ | ⟨y, hy, hd⟩
    · refine ⟨z, List.mem_append_right _ List.mem_cons_self, dz.mpr ?_⟩
      unfold mayStand at hm
      rw [h2, Bool.or_eq_true, Bool.and_eq_true] at hm
      rcases hm with w | ⟨w, _⟩
      · have := of_decide_eq_true w
        omega
      · have := of_decide_eq_true w
        omega
    · exact ⟨y, List.mem_append_left _ hy, hd⟩
theorem rows_def {T : Tbs} : ∀ {rows : List (Nat × List Str)} {S S' : RS} {n m : Nat}, readRows T S n rows = .ok S' → RowsOk T rows → Good S m → DefOk S → DefOk S'
  | [], S, S', n, m, h, _, _, d => by
    cases h
    exact d
  | (a, b) :: r, S, S', n, m, h, ok, gS, d => by
    have h : (match acceptS T S a b with | none => .error n | some S2 => readRows T S2 (n + 1) r) = (.ok S' : Except Nat RS) := h
    cases e : acceptS T S a b with
    | none =>
      rw [e] at h
      cases h
    | some S2 =>
      rw [e] at h
      exact rows_def h (fun x hx => ok x (List.mem_cons_of_mem _ hx)) (accept_good gS e (ok _ List.mem_cons_self).1 (ok _ List.mem_cons_self).2).1 (accept_def gS e (ok _ List.mem_cons_self).2 d)
theorem all_def {T : Tbs} {rows : List (Nat × List Str)} {S : RS} (h : readAll T rows = .ok S) (ok : RowsOk T rows) : (∀ z ∈ zsOf S.lines, z.deed = "def" → z.name ≠ none) ∧ (rows ≠ [] → ∃ z ∈ zsOf S.lines, z.deed = "def") := by
  unfold readAll at h
  cases e : readRows T RS.init 0 rows with
  | error n =>
    rw [e] at h
    cases h
  | ok S0 =>
    rw [e] at h
    dsimp only at h
    cases hw : isWhole S0 with
    | false =>
      rw [hw, if_neg Bool.false_ne_true] at h
      cases h
    | true =>
      rw [hw, if_pos rfl] at h
      cases h
      have d := rows_def e ok Good.init DefOk.init
      have ez : zsOf (closeS S0 0 false).lines = zsOf S0.lines := closeL_z S0 0 false
      rw [ez]
      refine ⟨d.named, fun _ => ?_⟩
      rcases d.one with ⟨h1, _⟩ | h2
      · unfold isWhole at hw
        rw [h1] at hw
        cases hw
      · exact h2
/-- a function's name with the number of its line -/
abbrev Ops := List (Str × Nat)
def putN (L : Ops) (n : Str) (i : Nat) : Ops := if (L.any fun p => decide (p.1 = n)) = true then L.map (fun p => if p.1 = n then (p.1, i) else p) else L ++ [(n, i)]
def opL (lines : List LnZ) : Nat → Ops → Ops := match lines with
  | [] => fun _ L => L
  | z :: r => fun i L => opL r (i + 1) (if z.deed = "def" then putN L (z.name.getD "") i else L)
def opV (xs : List Addr) (L : Ops) : List (Key × V) := L.map fun p => (.inr p.1, .ref (xs[p.2]?.getD 0))
theorem put_op (xs : List Addr) (L : Ops) (n : Str) (i : Nat) : putK (opV xs L) (.inr n : Key) (.ref (xs[i]?.getD 0)) = opV xs (putN L n i) := by
  unfold putK putN opV
  have ea : ((L.map fun p => ((.inr p.1 : Key), V.ref (xs[p.2]?.getD 0))).any fun kv => decide (kv.1 = (.inr n : Key))) = (L.any fun p => decide (p.1 = n)) := by
    rw [List.any_map]
    congr 1
    funext p
    exact decide_eq_decide.mpr ⟨fun e => Sum.inr.inj e, fun e => congrArg Sum.inr e⟩
  rw [ea]
  split
  · rw [List.map_map, List.map_map]
    apply List.map_congr_left
    intro p _
    dsimp only [Function.comp]
    by_cases h : p.1 = n
    · rw [if_pos h, if_pos (by rw [h])]
    · rw [if_neg h, if_neg (fun e => h (Sum.inr.inj e))]
  · rw [List.map_append]
    rfl
theorem opL_snoc : ∀ (zs : List LnZ) (z : LnZ) (i : Nat) (L : Ops), opL (zs ++ [z]) i L = if z.deed = "def" then putN (opL zs i L) (z.name.getD "") (i + zs.length) else opL zs i L
  | [], z, i, L => rfl
  | y :: zs, z, i, L => by
    show opL (zs ++ [z]) (i + 1) _ = _
    rw [opL_snoc zs z (i + 1)]
    show (if z.deed = "def" then putN (opL zs (i + 1) _) _ (i + 1 + zs.length) else _) = (if z.deed = "def" then putN (opL zs (i + 1) _) _ (i + (y :: zs).length) else _)
    rw [List.length_cons, show i + 1 + zs.length = i + (zs.length + 1) by omega]
    rfl
theorem putN_len (L : Ops) (n : Str) (i : Nat) : L.length ≤ (putN L n i).length ∧ (putN L n i).length ≤ L.length + 1 ∧ 1 ≤ (putN L n i).length := by
  unfold putN
  split
  · rename_i h
    rw [List.length_map]
    refine ⟨Nat.le_refl _, by omega, ?_⟩
    cases L with
    | nil => cases h
    | cons a r => simp
  · rw [List.length_append]
    simp
theorem opL_len : ∀ (zs : List LnZ) (i : Nat) (L : Ops), L.length ≤ (opL zs i L).length ∧ (opL zs i L).length ≤ L.length + zs.length
  | [], _, L => ⟨Nat.le_refl _, Nat.le_refl _⟩
  | z :: zs, i, L => by
    have ih := opL_len zs (i + 1) (if z.deed = "def" then putN L (z.name.getD "") i else L)
    have pl := putN_len L (z.name.getD "") i
    show L.length ≤ (opL zs (i + 1) _).length ∧ (opL zs (i + 1) _).length ≤ _
    rw [List.length_cons]
    by_cases h : z.deed = "def"
    · rw [if_pos h] at ih ⊢
      omega
    · rw [if_neg h] at ih ⊢
      omega
theorem opL_pos : ∀ {zs : List LnZ} {i : Nat} {L : Ops}, (∃ z ∈ zs, z.deed = "def") → 1 ≤ (opL zs i L).length
  | [], _, _, ⟨z, h, _⟩ => nomatch h
  | y :: zs, i, L, ⟨z, h, e⟩ => by
    show 1 ≤ (opL zs (i + 1) _).length
    rcases List.mem_cons.mp h with w | w
    · subst w
      rw [if_pos e]
      have := (putN_len L (z.name.getD "") i).2.2
      have := (opL_len zs (i + 1) (putN L (z.name.getD "") i)).1
      omega
    · exact opL_pos ⟨z, w, e⟩
section
variable {K : PySem.W.Frag}
/-- a dict that is made of a list's items -/
theorem dc_list {a : Addr} {xs : List V} {g : TG} {tt : TT} {tk tv : L2.TE} {vs : List Nat} {σ : L2.St} {H0 : Hp} {D : Addr} {Qd : Hp → Prop} (Pv : Nat → Hp → Prop) (h0 : Pv 0 (upd H0 D (.dK []))) (hl : ∀ i H, i ≤ xs.length → Pv i H → SqL K H a xs)
    (hs : ∀ i x H, xs[i]? = some x → Pv i H → g x (wipe σ vs) H fun σ2 H2 => wipe σ2 vs = wipe σ vs ∧ tt σ2 H2 fun b H3 => if b = true then tk σ2 H3 fun y H4 => tv σ2 H4 fun z H5 => ∃ kvs k, y = kV k ∧ H5 D = some (.dK kvs) ∧ kvs.length < sizeLine ∧ Pv (i + 1) (upd H5 D (.dK (putK kvs k z))) else Pv (i + 1) H3)
    (hd : ∀ H, Pv xs.length H → Qd H) : ∃ W : Nat → Nat → Hp → Prop, (∃ m, W 0 m (upd H0 D (.dK []))) ∧ ∀ i m H, W i m H → ((Itl K a).stop i H ∧ Qd H) ∨ ((Itl K a).go i H ∧ ∃ Nx : Hp → Prop, (∀ H', Nx H' → ∃ m', m' < m ∧ W (i + 1) m' H') ∧ ∀ x H', (Itl K a).yld i H x H' → g x (wipe σ vs) H' fun σ2 H2 => wipe σ2 vs = wipe σ vs ∧ tt σ2 H2 fun b H3 => if b = true then tk σ2 H3 fun y H4 => tv σ2 H4 fun z H5 => ∃ kvs k, y = kV k ∧ H5 D = some (.dK kvs) ∧ kvs.length < sizeLine ∧ Nx (upd H5 D (.dK (putK kvs k z))) else Nx H3) := by
  refine ⟨fun i m H => m = xs.length - i ∧ i ≤ xs.length ∧ Pv i H, ⟨xs.length, by simp, Nat.zero_le _, h0⟩, ?_⟩
  rintro i m H ⟨rfl, hi, p⟩
  have q := hl i H hi p
  by_cases hlt : i < xs.length
  · refine .inr ⟨⟨xs, xs[i], q, by simp [hlt]⟩, Pv (i + 1), fun H' p' => ⟨xs.length - (i + 1), by omega, rfl, hlt, p'⟩, fun x H' y => ?_⟩
    obtain ⟨e, y⟩ := y
    subst e
    exact hs i x _ (y xs q) p
  · have e : i = xs.length := by omega
    subst e
    exact .inl ⟨⟨xs, q, Nat.le_refl _⟩, hd H p⟩
end
end TX
namespace TX
open PySem PySem.Builtin PySem.Builtin.Str PySem.StrLaws
/-! ### from the signs of a line to its tokens -/
def dblS : List Nat := [62, 60, 33, 43]
def wordC (c : Nat) : Bool := decide (c ∉ sgs) && !Unicode.isSpace c
def toks (l : List Nat) : List (List Nat) := wl Unicode.isSpace [] (pairs dblS false l)
def leadN (l : List Nat) : Nat := (l.takeWhile fun c => c == 32).length
def lead (l : List Nat) : Nat := leadN (pairs dblS false l)
theorem sgs_sp : ∀ c ∈ sgs, Unicode.isSpace c = false := by decide +kernel
theorem sp32 : Unicode.isSpace 32 = true := by decide +kernel
theorem dbl_sgs : ∀ d ∈ dblS, d ∈ sgs := by decide
theorem pairs_plain {d : Nat} {r : List Nat} (h : d ∉ sgs) : pairs dblS false (d :: r) = d :: pairs dblS false r := by
  rw [pairs, if_neg fun z => h (dbl_sgs d z.1)]
  unfold apart
  rw [if_neg h]
  rfl
theorem pairs_plains {r : List Nat} : ∀ {w : List Nat}, (∀ c ∈ w, c ∉ sgs) → pairs dblS false (w ++ r) = w ++ pairs dblS false r
  | [], _ => rfl
  | d :: w, h => by
    rw [List.cons_append, pairs_plain (h d List.mem_cons_self), pairs_plains fun c hc => h c (List.mem_cons_of_mem _ hc)]
    rfl
theorem pairs_sign {c : Nat} {r : List Nat} (h : c ∈ sgs) (g : ¬ (c ∈ dblS ∧ r.head? = some 61)) : pairs dblS false (c :: r) = 32 :: c :: 32 :: pairs dblS false r := by
  rw [pairs, if_neg g]
  unfold apart
  rw [if_pos h]
  rfl
theorem pairs_dbl {c : Nat} {r : List Nat} (h : c ∈ dblS) : pairs dblS false (c :: 61 :: r) = 32 :: c :: 61 :: 32 :: pairs dblS false r := by
  rw [pairs, if_pos ⟨h, rfl⟩]
  rfl
theorem wl_run {sp : Nat → Bool} : ∀ (w cur r : List Nat), (∀ c ∈ w, sp c = false) → wl sp cur (w ++ r) = wl sp (cur ++ w) r
  | [], cur, r, _ => by rw [List.append_nil]; rfl
  | c :: w, cur, r, h => by
    rw [List.cons_append]
    have h1 := h c List.mem_cons_self
    rw [wl, if_neg (by rw [h1]; exact Bool.false_ne_true), wl_run w (cur ++ [c]) r fun d hd => h d (List.mem_cons_of_mem _ hd)]
    congr 1
    simp
theorem wl_end {sp : Nat → Bool} {w r : List Nat} (hw : w ≠ []) (hr : r = [] ∨ ∃ c q, r = c :: q ∧ sp c = true) : wl sp w r = w :: wl sp [] r := by
  rcases hr with rfl | ⟨c, q, rfl, h⟩
  · cases w with
    | nil => exact absurd rfl hw
    | cons a b => simp [wl]
  · rw [wl, if_pos h, if_neg hw, wl, if_pos h, if_pos rfl]
theorem wl_sp {sp : Nat → Bool} {c : Nat} {r : List Nat} (h : sp c = true) : wl sp [] (c :: r) = wl sp [] r := by
  rw [wl, if_pos h, if_pos rfl]
theorem toks_nil : toks [] = [] := by
  unfold toks
  simp [pairs, wl]
theorem toks_sp (r : List Nat) : toks (32 :: r) = toks r := by
  unfold toks
  rw [pairs_plain (by decide), wl_sp sp32]
/-- what may stand behind a word -/
def Cut (r : List Nat) : Prop := r = [] ∨ ∃ c q, r = c :: q ∧ (c = 32 ∨ c ∈ sgs)
theorem Cut.pairs {r : List Nat} (h : Cut r) : pairs dblS false r = [] ∨ ∃ c q, pairs dblS false r = c :: q ∧ Unicode.isSpace c = true := by
  rcases h with rfl | ⟨c, q, rfl, rfl | h⟩
  · exact .inl (by simp [TX.pairs])
  · exact .inr ⟨32, _, pairs_plain (by decide), sp32⟩
  · by_cases g : c ∈ dblS ∧ q.head? = some 61
    · obtain ⟨q', rfl, _⟩ := pairs_true (S := dblS) g.2
      exact .inr ⟨32, _, pairs_dbl g.1, sp32⟩
    · exact .inr ⟨32, _, pairs_sign h g, sp32⟩
theorem toks_word {w r : List Nat} (hw : w ≠ []) (h : ∀ c ∈ w, wordC c = true) (hr : Cut r) : toks (w ++ r) = w :: toks r := by
  have h1 : ∀ c ∈ w, c ∉ sgs := fun c hc => by
    have := h c hc
    unfold wordC at this
    rw [Bool.and_eq_true] at this
    exact of_decide_eq_true this.1
  have h2 : ∀ c ∈ w, Unicode.isSpace c = false := fun c hc => by
    have := h c hc
    unfold wordC at this
    rw [Bool.and_eq_true] at this
    simpa using this.2
  unfold toks
  rw [pairs_plains h1, wl_run w [] _ h2, List.nil_append, wl_end hw hr.pairs]
theorem toks_sign {c : Nat} {r : List Nat} (h : c ∈ sgs) (g : ¬ (c ∈ dblS ∧ r.head? = some 61)) : toks (c :: r) = [c] :: toks r := by
  unfold toks
  rw [pairs_sign h g, wl_sp sp32]
  have e : wl Unicode.isSpace [] (c :: 32 :: pairs dblS false r) = wl Unicode.isSpace ([] ++ [c]) (32 :: pairs dblS false r) := wl_run [c] [] _ fun d hd => by
    rw [List.mem_singleton.mp hd]
    exact sgs_sp c h
  rw [e, List.nil_append, wl_end (List.cons_ne_nil _ _) (.inr ⟨32, _, rfl, sp32⟩), wl_sp sp32]
theorem toks_dbl {c : Nat} {r : List Nat} (h : c ∈ dblS) : toks (c :: 61 :: r) = [c, 61] :: toks r := by
  unfold toks
  rw [pairs_dbl h, wl_sp sp32]
  have e : wl Unicode.isSpace [] (c :: 61 :: 32 :: pairs dblS false r) = wl Unicode.isSpace ([] ++ [c, 61]) (32 :: pairs dblS false r) := wl_run [c, 61] [] _ fun d hd => by
    rcases List.mem_cons.mp hd with e | e
    · rw [e]
      exact sgs_sp c (dbl_sgs c h)
    · rw [List.mem_singleton.mp e]
      exact sgs_sp 61 (by decide)
  rw [e, List.nil_append, wl_end (List.cons_ne_nil _ _) (.inr ⟨32, _, rfl, sp32⟩), wl_sp sp32]
theorem lead_nil : lead [] = 0 := by
  unfold lead
  simp [pairs, leadN]
theorem lead_sp (r : List Nat) : lead (32 :: r) = lead r + 1 := by
  unfold lead leadN
  rw [pairs_plain (by decide), List.takeWhile_cons, if_pos (by decide)]
  rfl
theorem lead_word {c : Nat} {r : List Nat} (h : wordC c = true) : lead (c :: r) = 0 := by
  unfold wordC at h
  rw [Bool.and_eq_true] at h
  have h1 : c ∉ sgs := of_decide_eq_true h.1
  unfold lead leadN
  rw [pairs_plain h1, List.takeWhile_cons, if_neg]
  · rfl
  · intro z
    rw [beq_iff_eq] at z
    rw [z, sp32] at h
    cases h.2
/-- a line told by its tokens: blanks ahead of each, and behind the last one -/
inductive Pcs : List Nat → List (List Nat) → Prop
  | nil : Pcs [] []
  | sp {r : List Nat} {ts : List (List Nat)} : Pcs r ts → Pcs (32 :: r) ts
  | word {w r : List Nat} {ts : List (List Nat)} : w ≠ [] → (∀ c ∈ w, wordC c = true) → Cut r → Pcs r ts → Pcs (w ++ r) (w :: ts)
  | sign {c : Nat} {r : List Nat} {ts : List (List Nat)} : c ∈ sgs → ¬ (c ∈ dblS ∧ r.head? = some 61) → Pcs r ts → Pcs (c :: r) ([c] :: ts)
  | dbl {c : Nat} {r : List Nat} {ts : List (List Nat)} : c ∈ dblS → Pcs r ts → Pcs (c :: 61 :: r) ([c, 61] :: ts)
theorem Pcs.toks {l : List Nat} {ts : List (List Nat)} (h : Pcs l ts) : toks l = ts := by
  induction h with
  | nil => exact toks_nil
  | sp _ ih => rw [toks_sp, ih]
  | word h1 h2 h3 _ ih => rw [toks_word h1 h2 h3, ih]
  | sign h1 h2 _ ih => rw [toks_sign h1 h2, ih]
  | dbl h1 _ ih => rw [toks_dbl h1, ih]
/-! ### tokens with blanks around them; replacing among tokens -/
def txt (ts : List (List Nat)) : List Nat := ts.flatMap (fun t => 32 :: t) ++ [32]
theorem txt_cons (t : List Nat) (ts : List (List Nat)) : txt (t :: ts) = 32 :: (t ++ txt ts) := by
  unfold txt
  rw [List.flatMap_cons]
  simp
theorem txt_joinL : ∀ {ts : List (List Nat)}, ts ≠ [] → txt ts = 32 :: (joinL [32] ts ++ [32])
  | [], h => absurd rfl h
  | [t], _ => by
    rw [txt_cons]
    rfl
  | t :: u :: r, _ => by
    rw [txt_cons, txt_joinL (ts := u :: r) (fun z => nomatch z)]
    show 32 :: (t ++ 32 :: (joinL [32] (u :: r) ++ [32])) = 32 :: (t ++ [32] ++ joinL [32] (u :: r) ++ [32])
    simp
theorem txt_head : ∀ (ts : List (List Nat)), ∃ q, txt ts = 32 :: q
  | [] => ⟨[], rfl⟩
  | t :: ts => ⟨_, txt_cons t ts⟩
/-- one of two texts begins with the other one: word by word -/
theorem pfx_word {a b r s : List Nat} (ha : 32 ∉ a) (hb : 32 ∉ b) : (a ++ 32 :: r) <+: (b ++ 32 :: s) ↔ a = b ∧ r <+: s := by
  induction a generalizing b with
  | nil =>
    cases b with
    | nil => simp
    | cons d b =>
      simp only [List.nil_append, List.cons_append, List.cons_prefix_cons]
      constructor
      · rintro ⟨rfl, _⟩
        exact absurd List.mem_cons_self hb
      · exact fun z => nomatch z.1
  | cons c a ih =>
    cases b with
    | nil =>
      simp only [List.nil_append, List.cons_append, List.cons_prefix_cons]
      constructor
      · rintro ⟨rfl, _⟩
        exact absurd List.mem_cons_self ha
      · exact fun z => nomatch z.1
    | cons d b =>
      simp only [List.cons_append, List.cons_prefix_cons]
      rw [ih (fun z => ha (List.mem_cons_of_mem _ z)) (fun z => hb (List.mem_cons_of_mem _ z))]
      constructor
      · rintro ⟨rfl, rfl, h⟩
        exact ⟨rfl, h⟩
      · rintro ⟨h1, h2⟩
        cases h1
        exact ⟨rfl, rfl, h2⟩
theorem pfx_txt : ∀ {ps ts : List (List Nat)}, (∀ p ∈ ps, 32 ∉ p) → (∀ t ∈ ts, 32 ∉ t) → (txt ps <+: txt ts ↔ ps <+: ts)
  | [], ts, _, _ => by
    obtain ⟨q, e⟩ := txt_head ts
    rw [e]
    simp [txt]
  | p :: ps, [], h, _ => by
    rw [txt_cons]
    obtain ⟨q, e⟩ := txt_head ps
    constructor
    · intro z
      have := z.length_le
      rw [e] at this
      simp [txt] at this
    · exact fun z => absurd z.length_le (by simp)
  | p :: ps, t :: ts, h, g => by
    rw [txt_cons, txt_cons]
    obtain ⟨q, e⟩ := txt_head ps
    obtain ⟨q', e'⟩ := txt_head ts
    have ih := pfx_txt (ps := ps) (ts := ts) (fun p hp => h p (List.mem_cons_of_mem _ hp)) (fun t ht => g t (List.mem_cons_of_mem _ ht))
    rw [e, e'] at ih ⊢
    simp only [List.cons_prefix_cons, true_and] at ih ⊢
    rw [pfx_word (h p List.mem_cons_self) (g t List.mem_cons_self), ih]
theorem txt_inj {ts us : List (List Nat)} (h : ∀ t ∈ ts, 32 ∉ t) (g : ∀ u ∈ us, 32 ∉ u) (e : txt ts = txt us) : ts = us := by
  have a : ts <+: us := (pfx_txt h g).mp (by rw [e]; exact List.prefix_rfl)
  have b : us <+: ts := (pfx_txt g h).mp (by rw [e]; exact List.prefix_rfl)
  exact a.eq_of_length (Nat.le_antisymm a.length_le b.length_le)
section
variable {α : Type} [DecidableEq α]
/-- whether a list begins with another one -/
def pre : List α → List α → Bool
  | [], _ => true
  | _ :: _, [] => false
  | a :: as, b :: bs => decide (a = b) && pre as bs
theorem pre_iff : ∀ {ps ts : List α}, pre ps ts = true ↔ ps <+: ts
  | [], ts => by simp [pre]
  | p :: ps, [] => by simp [pre]
  | p :: ps, t :: ts => by
    rw [pre, Bool.and_eq_true, List.cons_prefix_cons, pre_iff]
    simp
/-- zs for each ps, from the left; the token behind is passed over, as it shares a blank -/
def replT (ps zs : List α) : Nat → Bool → List α → List α
  | _, _, [] => []
  | k + 1, b, _ :: ts => replT ps zs k b ts
  | 0, true, t :: ts => t :: replT ps zs 0 false ts
  | 0, false, t :: ts => if pre ps (t :: ts) = true then zs ++ replT ps zs (ps.length - 1) true ts else t :: replT ps zs 0 false ts
theorem replT_skip {ps zs : List α} {b : Bool} : ∀ (k : Nat) (ts : List α), replT ps zs k b ts = replT ps zs 0 b (ts.drop k)
  | 0, ts => by rw [List.drop_zero]
  | k + 1, [] => by simp [replT]
  | k + 1, t :: ts => by
    rw [replT, List.drop_succ_cons]
    exact replT_skip k ts
end
theorem txt_drop : ∀ (k : Nat) (ps : List (List Nat)) (ts : List (List Nat)), ps <+: ts → (txt ts).drop (txt ps).length = (txt (ts.drop ps.length)).drop 1
  | _, [], ts, _ => by
    rw [List.length_nil, List.drop_zero]
    rfl
  | k, p :: ps, [], h => absurd h.length_le (by simp)
  | k, p :: ps, t :: ts, h => by
    rw [List.cons_prefix_cons] at h
    obtain ⟨rfl, h⟩ := h
    rw [txt_cons, txt_cons, List.length_cons, List.drop_succ_cons, List.length_append, ← List.drop_drop, List.drop_left]
    rw [List.length_cons, List.drop_succ_cons]
    exact txt_drop k ps ts h
theorem rp_free {p z : List Nat} {q : List Nat} (hp : p = 32 :: q) : ∀ {a r : List Nat}, 32 ∉ a → rp p z 0 (a ++ r) = a ++ rp p z 0 r
  | [], r, _ => rfl
  | c :: a, r, h => by
    rw [List.cons_append, rp, if_neg, rp_free hp fun z => h (List.mem_cons_of_mem _ z)]
    · rfl
    · intro z
      rw [List.isPrefixOf_iff_prefix, hp, List.cons_prefix_cons] at z
      exact h (by rw [← z.1]; exact List.mem_cons_self)
theorem txt_app (zs ts : List (List Nat)) : txt (zs ++ ts) = zs.flatMap (fun t => 32 :: t) ++ txt ts := by
  unfold txt
  rw [List.flatMap_append, List.append_assoc]
/-- replacing in a text, and among its tokens -/
theorem rp_txt {ps zs : List (List Nat)} (hp : ps ≠ []) (h1 : ∀ p ∈ ps, 32 ∉ p) : ∀ (n : Nat) (ts : List (List Nat)), ts.length ≤ n → (∀ t ∈ ts, 32 ∉ t) → rp (txt ps) (txt zs) 0 (txt ts) = txt (replT ps zs 0 false ts)
  | n, [], _, _ => by
    obtain ⟨q, e⟩ := txt_head ps
    have : rp (txt ps) (txt zs) 0 (txt []) = txt [] := by
      refine rp_none (by rw [e]; simp) fun k hk => ?_
      have := hk.length_le
      cases ps with
      | nil => exact hp rfl
      | cons p ps =>
        obtain ⟨q2, e2⟩ := txt_head ps
        rw [txt_cons, e2, List.length_drop] at this
        simp [txt] at this
        omega
    rw [this]
    simp [replT]
  | 0, t :: ts, h, _ => by simp at h
  | n + 1, t :: ts, h, h2 => by
    have len : ts.length ≤ n := by simpa using h
    have ht := h2 t List.mem_cons_self
    have hts : ∀ u ∈ ts, 32 ∉ u := fun u hu => h2 u (List.mem_cons_of_mem _ hu)
    obtain ⟨q, e⟩ := txt_head ps
    have lp : 1 ≤ (txt ps).length := by rw [e]; simp
    by_cases hpre : ps <+: t :: ts
    · rw [rp_at lp ((pfx_txt h1 h2).mpr hpre), txt_drop 0 ps _ hpre]
      rw [replT, if_pos (pre_iff.mpr hpre), replT_skip]
      obtain ⟨m, hm⟩ : ∃ m, ps.length = m + 1 := ⟨ps.length - 1, by
        have : ps.length ≠ 0 := fun z => hp (List.length_eq_zero_iff.mp z)
        omega⟩
      have ed : (t :: ts).drop ps.length = ts.drop (ps.length - 1) := by
        rw [hm, List.drop_succ_cons]
        rfl
      rw [ed]
      cases hd : ts.drop (ps.length - 1) with
      | nil =>
        have e1 : (txt ([] : List (List Nat))).drop 1 = [] := rfl
        rw [e1]
        simp [rp, replT]
      | cons u us =>
        have hu : ∀ x ∈ u :: us, 32 ∉ x := fun x hx => hts x (List.mem_of_mem_drop (by rw [hd]; exact hx))
        rw [txt_cons, List.drop_succ_cons, List.drop_zero, rp_free e (hu u List.mem_cons_self)]
        have ul : us.length ≤ n := by
          have := congrArg List.length hd
          rw [List.length_drop, List.length_cons] at this
          omega
        rw [rp_txt hp h1 n us ul fun x hx => hu x (List.mem_cons_of_mem _ hx)]
        rw [replT, txt_app]
        obtain ⟨q3, e3⟩ := txt_head (replT ps zs 0 false us)
        rw [txt_cons]
        show txt zs ++ (u ++ txt _) = _
        unfold txt
        simp
    · have en : ¬ txt ps <+: txt (t :: ts) := fun z => hpre ((pfx_txt h1 h2).mp z)
      rw [replT, if_neg fun z => hpre (pre_iff.mp z)]
      rw [txt_cons] at en ⊢
      rw [rp, if_neg fun z => en (List.isPrefixOf_iff_prefix.mp z), rp_free e ht, rp_txt hp h1 n ts len hts, txt_cons]
/-- the words of a text of tokens -/
theorem wl_txt : ∀ {ts : List (List Nat)}, (∀ t ∈ ts, t ≠ [] ∧ ∀ c ∈ t, Unicode.isSpace c = false) → wl Unicode.isSpace [] (txt ts) = ts
  | [], _ => by
    show wl Unicode.isSpace [] [32] = []
    rw [wl_sp sp32]
    simp [wl]
  | t :: ts, h => by
    obtain ⟨h1, h2⟩ := h t List.mem_cons_self
    rw [txt_cons, wl_sp sp32, wl_run t [] _ h2, List.nil_append]
    obtain ⟨q, e⟩ := txt_head ts
    rw [wl_end h1 (.inr ⟨32, q, e, sp32⟩), wl_txt fun u hu => h u (List.mem_cons_of_mem _ hu)]
end TX
namespace TX
open PySem PySem.Spec PyProof.Rows L2 KTD
/-! ### shapes by their tokens -/
theorem cs_inj {a b : Str} (h : cs a = cs b) : a = b := by
  have : strOf (cs a) = strOf (cs b) := by rw [h]
  unfold cs at this
  rw [strOf_list, strOf_list] at this
  exact this
def txtS (ts : List Str) : Str := strOf (txt (ts.map cs))
theorem txtS_cs (ts : List Str) : (txtS ts).cps.toList = txt (ts.map cs) := by simp [txtS, strOf]
def Free (t : Str) : Prop := 32 ∉ cs t
instance (t : Str) : Decidable (Free t) := inferInstanceAs (Decidable (32 ∉ cs t))
theorem TokOk.free {t : Str} (h : TokOk t) : Free t := fun z => by
  have := h.2 32 z
  rw [sp32] at this
  cases this
theorem map_replT {ps zs : List Str} : ∀ (k : Nat) (b : Bool) (ts : List Str), (replT ps zs k b ts).map cs = replT (ps.map cs) (zs.map cs) k b (ts.map cs)
  | _, _, [] => by simp [replT]
  | k + 1, b, t :: ts => by
    rw [replT, List.map_cons, replT]
    exact map_replT k b ts
  | 0, true, t :: ts => by
    rw [replT, List.map_cons, List.map_cons, replT, map_replT 0 false ts]
  | 0, false, t :: ts => by
    have e : ∀ (ps ts : List Str), pre (ps.map cs) (ts.map cs) = pre ps ts := fun ps => by
      induction ps with
      | nil => exact fun _ => rfl
      | cons p ps ih =>
        intro ts
        cases ts with
        | nil => rfl
        | cons t ts =>
          rw [List.map_cons, List.map_cons, pre, pre, ih]
          congr 1
          exact decide_eq_decide.mpr ⟨fun z => cs_inj z, fun z => by rw [z]⟩
    rw [replT, List.map_cons, replT, ← List.map_cons, e, List.length_map]
    split
    · rw [List.map_append, map_replT]
    · rw [List.map_cons, map_replT]
def norm (ts : List Str) : List Str := if ts = [] then [""] else ts
def shapeT (ts : List Str) (v : Str) : List Str := replT ["some", "(", "V", ")"] ["S"] 0 false (replT (["many", "(", "V", ")"] : List Str) ["M"] 0 false (replT (["[", "V", "]"] : List Str) ["W"] 0 false (replT ([v] : List Str) ["V"] 0 false ts)))
theorem replT_all {Q : Str → Prop} {ps zs : List Str} (hz : ∀ z ∈ zs, Q z) : ∀ (k : Nat) (b : Bool) (ts : List Str), (∀ t ∈ ts, Q t) → ∀ t ∈ replT ps zs k b ts, Q t
  | _, _, [], _, t, h => by simp [replT] at h
  | k + 1, b, u :: ts, g, t, h => by
    rw [replT] at h
    exact replT_all hz k b ts (fun x hx => g x (List.mem_cons_of_mem _ hx)) t h
  | 0, true, u :: ts, g, t, h => by
    rw [replT] at h
    rcases List.mem_cons.mp h with e | e
    · exact g t (by rw [e]; exact List.mem_cons_self)
    · exact replT_all hz 0 false ts (fun x hx => g x (List.mem_cons_of_mem _ hx)) t e
  | 0, false, u :: ts, g, t, h => by
    rw [replT] at h
    split at h
    · rcases List.mem_append.mp h with e | e
      · exact hz t e
      · exact replT_all hz _ true ts (fun x hx => g x (List.mem_cons_of_mem _ hx)) t e
    · rcases List.mem_cons.mp h with e | e
      · exact g t (by rw [e]; exact List.mem_cons_self)
      · exact replT_all hz 0 false ts (fun x hx => g x (List.mem_cons_of_mem _ hx)) t e
theorem shapeT_all {Q : Str → Prop} (hV : Q "V") (hW : Q "W") (hM : Q "M") (hS : Q "S") {ts : List Str} {v : Str} (h : ∀ t ∈ ts, Q t) : ∀ t ∈ shapeT ts v, Q t := by
  have one : ∀ {z : Str}, Q z → ∀ y ∈ [z], Q y := fun {z} hz y hy => by
    rw [List.mem_singleton.mp hy]
    exact hz
  exact replT_all (one hS) _ _ _ (replT_all (one hM) _ _ _ (replT_all (one hW) _ _ _ (replT_all (one hV) _ _ _ h)))
theorem repl_txt {ps zs ts : List Str} (hp : ps ≠ []) (h1 : ∀ p ∈ ps, Free p) (h2 : ∀ t ∈ ts, Free t) {x y z : Str} (hx : x.cps.toList = txt (ts.map cs)) (hy : y.cps.toList = txt (ps.map cs)) (hz : z.cps.toList = txt (zs.map cs)) (ly : 1 ≤ y.length) :
    (Txt.replace x y z).cps.toList = txt ((replT ps zs 0 false ts).map cs) := by
  rw [replace_list ly, hx, hy, hz, map_replT]
  refine rp_txt (fun e => hp (List.map_eq_nil_iff.mp e)) (fun p hp => ?_) _ _ (Nat.le_refl _) fun t ht => ?_
  · obtain ⟨q, hq, rfl⟩ := List.mem_map.mp hp
    exact h1 q hq
  · obtain ⟨q, hq, rfl⟩ := List.mem_map.mp ht
    exact h2 q hq
theorem norm_ne (ts : List Str) : norm ts ≠ [] := by
  unfold norm
  split
  · exact List.cons_ne_nil _ _
  · assumption
theorem norm_free {ts : List Str} (h : ∀ t ∈ ts, Free t) : ∀ t ∈ norm ts, Free t := by
  unfold norm
  split
  · intro t ht
    rw [List.mem_singleton.mp ht]
    exact (show Free "" by unfold Free cs; decide +kernel)
  · exact h
theorem cs_join (ts : List Str) : (Txt.join " " ts).cps.toList = joinL [32] (ts.map cs) := by
  rw [txt_join, join_list]
  rfl
theorem shape0_txt (ts : List Str) : (Str.empty ++ " " ++ Txt.join " " ts ++ " " : Str).cps.toList = txt ((norm ts).map cs) := by
  have e0 : (Str.empty ++ " " : Str).cps.toList = [32] := rfl
  have e1 : (" " : Str).cps.toList = [32] := rfl
  rw [Str.cps_append, Array.toList_append, Str.cps_append, Array.toList_append, e0, e1, cs_join, txt_joinL (fun e => norm_ne ts (List.map_eq_nil_iff.mp e))]
  unfold norm
  split
  · rename_i h
    subst h
    rfl
  · rfl
theorem shape_is {ts : List Str} {v : Str} (h : ∀ t ∈ ts, Free t) (hv : Free v) : shapeZ ts v = txtS (shapeT (norm ts) v) := by
  have F : ∀ z : Str, (decide (Free z)) = true → Free z := fun z h => of_decide_eq_true h
  have hV : Free "V" := F _ (by decide +kernel)
  have hW : Free "W" := F _ (by decide +kernel)
  have hM : Free "M" := F _ (by decide +kernel)
  have one : ∀ {z : Str}, Free z → ∀ y ∈ [z], Free y := fun {z} hz y hy => by
    rw [List.mem_singleton.mp hy]
    exact hz
  have f0 := norm_free h
  have f1 : ∀ t ∈ replT ([v] : List Str) ["V"] 0 false (norm ts), Free t := replT_all (one hV) _ _ _ f0
  have f2 : ∀ t ∈ replT (["[", "V", "]"] : List Str) ["W"] 0 false (replT ([v] : List Str) ["V"] 0 false (norm ts)), Free t := replT_all (one hW) _ _ _ f1
  have f3 : ∀ t ∈ replT (["many", "(", "V", ")"] : List Str) ["M"] 0 false (replT (["[", "V", "]"] : List Str) ["W"] 0 false (replT ([v] : List Str) ["V"] 0 false (norm ts))), Free t := replT_all (one hM) _ _ _ f2
  have ev : (Str.empty ++ " " ++ v ++ " " : Str).cps.toList = txt (([v] : List Str).map cs) := by
    have e0 : (Str.empty ++ " " : Str).cps.toList = [32] := rfl
    have e1 : (" " : Str).cps.toList = [32] := rfl
    rw [Str.cps_append, Array.toList_append, Str.cps_append, Array.toList_append, e0, e1]
    simp [txt, cs]
  have lv : 1 ≤ (Str.empty ++ " " ++ v ++ " " : Str).length := by
    have l1 : (" " : Str).length = 1 := rfl
    rw [Str.length_append, l1]
    omega
  have P : ∀ {ps : List Str}, (ps.all fun p => decide (Free p)) = true → ∀ p ∈ ps, Free p := fun {ps} hp p h => of_decide_eq_true (List.all_eq_true.mp hp p h)
  have g1 : (shape0 ts v).cps.toList = txt ((replT ([v] : List Str) ["V"] 0 false (norm ts)).map cs) := repl_txt (List.cons_ne_nil _ _) (one hv) f0 (shape0_txt ts) ev (by decide +kernel) lv
  have g2 := repl_txt (y := " [ V ] ") (z := " W ") (ps := ["[", "V", "]"]) (zs := ["W"]) (List.cons_ne_nil _ _) (P (by decide +kernel)) f1 g1 (by decide +kernel) (by decide +kernel) (by decide +kernel)
  have g3 := repl_txt (y := " many ( V ) ") (z := " M ") (ps := ["many", "(", "V", ")"]) (zs := ["M"]) (List.cons_ne_nil _ _) (P (by decide +kernel)) f2 g2 (by decide +kernel) (by decide +kernel) (by decide +kernel)
  have g4 := repl_txt (y := " some ( V ) ") (z := " S ") (ps := ["some", "(", "V", ")"]) (zs := ["S"]) (List.cons_ne_nil _ _) (P (by decide +kernel)) f3 g3 (by decide +kernel) (by decide +kernel) (by decide +kernel)
  apply cs_inj
  show (shapeZ ts v).cps.toList = (txtS _).cps.toList
  rw [txtS_cs]
  exact g4
/-! ### tables by tokens -/
abbrev TTab := List (List Str × (Str × Str))
def ttbl (T : TTab) : Tbl := T.map fun p => (txtS p.1, p.2)
def ttAt : TTab → List Str → Option (Str × Str)
  | [], _ => none
  | (k, q) :: T, ts => if ts = k then some q else ttAt T ts
def FreeT (T : TTab) : Bool := T.all fun p => p.1.all fun t => decide (Free t)
theorem map_cs_inj : ∀ {as bs : List Str}, as.map cs = bs.map cs → as = bs
  | [], [], _ => rfl
  | [], _ :: _, h => nomatch h
  | _ :: _, [], h => nomatch h
  | a :: as, b :: bs, h => by
    rw [List.map_cons, List.map_cons, List.cons.injEq] at h
    rw [cs_inj h.1, map_cs_inj h.2]
theorem txtS_inj {as bs : List Str} (h : ∀ t ∈ as, Free t) (g : ∀ t ∈ bs, Free t) (e : txtS as = txtS bs) : as = bs := by
  have e := congrArg (fun s : Str => s.cps.toList) e
  simp only [txtS_cs] at e
  refine map_cs_inj (txt_inj (fun t ht => ?_) (fun t ht => ?_) e)
  · obtain ⟨q, hq, rfl⟩ := List.mem_map.mp ht
    exact h q hq
  · obtain ⟨q, hq, rfl⟩ := List.mem_map.mp ht
    exact g q hq
theorem tt_at {ts : List Str} (h : ∀ t ∈ ts, Free t) : ∀ {T : TTab}, FreeT T = true → tblAt (ttbl T) (txtS ts) = ttAt T ts
  | [], _ => rfl
  | (k, q) :: T, g => by
    unfold FreeT at g
    rw [List.all_cons, Bool.and_eq_true] at g
    have fk : ∀ t ∈ k, Free t := fun t ht => of_decide_eq_true (List.all_eq_true.mp g.1 t ht)
    show (if txtS ts = txtS k then some q else tblAt (ttbl T) (txtS ts)) = (if ts = k then some q else ttAt T ts)
    by_cases e : ts = k
    · rw [if_pos e, if_pos (by rw [e])]
    · rw [if_neg e, if_neg fun z => e (txtS_inj h fk z), tt_at h g.2]
theorem words_txt {ts : List Str} (h : ∀ t ∈ ts, TokOk t) : Txt.words (txtS ts) = ts := by
  refine map_cs_inj ?_
  have e : (Txt.words (txtS ts)).map cs = wl Unicode.isSpace [] (txtS ts).cps.toList := words_list _
  rw [e, txtS_cs, wl_txt fun t ht => ?_]
  obtain ⟨q, hq, rfl⟩ := List.mem_map.mp ht
  refine ⟨fun z => (h q hq).1 (cs_inj ?_), (h q hq).2⟩
  rw [z]
  rfl
/-! ### reading by tokens -/
structure Tok3 where
  tl : TTab
  ta : TTab
  tg : TTab
  tt : ATb
def readForT (tl : TTab) (ts : List Str) (va : Str) (M : Mean) : Option (Str × Str × Str) := match ttAt tl (shapeT (ts.drop 2) va), ts[1]? with
  | some q, some x => if canBe M x "variable" = true then some (x, q.1, q.2) else none
  | _, _ => none
def readCallT (t : TTab) (name : Str) (sh : List Str) (own : Str) (looped : Bool) : Option (Str × Str) := match ttAt t sh with
  | none => none
  | some q => if name = own ∧ q.2 = "it" ∧ (q.1 ≠ "plain" ∨ looped = false) then none else some q
def readGiftT (ta tg : TTab) (name : Str) (sh : List Str) : Option (Str × Str) := match (ttAt ta sh).or (ttAt tg sh) with
  | some q => some (q.1, if q.2 = "only" then "each" else q.2)
  | none => match sh with
    | [a, b, c, d] => if a = "=" ∧ b = name ∧ c = "+" then (formAt d).map fun f => (f, "sum") else none
    | _ => none
def readNamedT (T : Tok3) (ts : List Str) (va own : Str) (lo : Bool) (M : Mean) : Option (Str × Str × Str × Str) := match ts with
  | [] => none
  | z :: r =>
    if meanAt M z = some "function" then (readCallT T.ta z (shapeT (norm r) va) own lo).map fun q => ("call", z, q.1, q.2)
    else if canBe M z "taker" = true then (readGiftT T.ta T.tg z (shapeT (norm r) va)).map fun q => ("give", z, q.1, q.2) else none
/-- a test by tokens -/
def testT (t : ATb) (r : List Str) (va : Str) : Option Code := if r = [] then none else testZ t (shapeT r va)
def rtZ (t : ATb) (ts : List Str) (va : Str) : Option Code := testZ t (Txt.words (shapeZ ts va))
def readInnerT (T : Tok3) (ts : List Str) (va own : Str) (lo : Bool) (M : Mean) : Option LnZ := match ts with
  | [] => none
  | w :: r =>
    if w = "for" then (if 2 < ts.length then (readForT T.tl ts va M).map fun q => ⟨"for", none, some q.1, some q.2.1, some q.2.2, none⟩ else none)
    else if w = "if" then (testT T.tt r va).map fun c => ⟨"if", none, none, none, none, some c⟩
    else if w ∈ bareW then (readBare ts lo).map fun w => ⟨w, none, none, none, none, none⟩
    else (readNamedT T ts va own lo M).map fun q => ⟨q.1, some q.2.1, none, some q.2.2.1, some q.2.2.2, none⟩
def Tok3.ok (T : Tok3) : Prop := FreeT T.tl = true ∧ FreeT T.ta = true ∧ FreeT T.tg = true
def Tok3.tbs (T : Tok3) : Tbs := ⟨ttbl T.tl, ttbl T.ta, ttbl T.tg, rtZ T.tt⟩
theorem shape_nil {va : Str} (hv : va ≠ "") : shapeT ([""] : List Str) va = ([""] : List Str) := by
  unfold shapeT
  have : replT ([va] : List Str) ["V"] 0 false ([""] : List Str) = ([""] : List Str) := by
    have pv : pre [va] ([""] : List Str) = false := by
      show (decide (va = "") && _) = false
      rw [decide_eq_false hv, Bool.false_and]
    rw [replT, pv, if_neg Bool.false_ne_true]
    simp [replT]
  rw [this]
  decide +kernel
theorem test_is {t : ATb} {r : List Str} {va : Str} (h : ∀ t ∈ r, TokOk t) (hv : TokOk va) : rtZ t r va = testT t r va := by
  have O : ∀ z : Str, (decide (z ≠ "") && (cs z).all fun c => !Unicode.isSpace c) = true → TokOk z := fun z h => by
    rw [Bool.and_eq_true] at h
    exact ⟨of_decide_eq_true h.1, fun c hc => by simpa using List.all_eq_true.mp h.2 c hc⟩
  have tok : ∀ {us : List Str}, (∀ t ∈ us, TokOk t) → ∀ t ∈ shapeT us va, TokOk t := fun h => shapeT_all (O _ (by decide +kernel)) (O _ (by decide +kernel)) (O _ (by decide +kernel)) (O _ (by decide +kernel)) h
  have fr : ∀ t ∈ r, Free t := fun t ht => (h t ht).free
  unfold rtZ testT
  rw [shape_is fr hv.free]
  by_cases e : r = []
  · subst e
    have en : norm ([] : List Str) = ([""] : List Str) := rfl
    rw [en, shape_nil hv.1, if_pos rfl]
    have : Txt.words (txtS ([""] : List Str)) = [] := by decide +kernel
    rw [this]
    rfl
  · have en : norm r = r := if_neg e
    rw [en, if_neg e, words_txt (tok h)]
theorem inner_is {T : Tok3} (hT : T.ok) {ts : List Str} {va own : Str} {lo : Bool} {M : Mean} (h : ∀ t ∈ ts, TokOk t) (hv : TokOk va) : readInner (T.tbs) ts va own lo M = readInnerT T ts va own lo M := by
  obtain ⟨t1, t2, t3⟩ := hT
  have F : ∀ z : Str, (decide (Free z)) = true → Free z := fun z h => of_decide_eq_true h
  have O : ∀ z : Str, (decide (z ≠ "") && (cs z).all fun c => !Unicode.isSpace c) = true → TokOk z := fun z h => by
    rw [Bool.and_eq_true] at h
    exact ⟨of_decide_eq_true h.1, fun c hc => by simpa using List.all_eq_true.mp h.2 c hc⟩
  have free : ∀ {us : List Str}, (∀ t ∈ us, Free t) → ∀ t ∈ shapeT us va, Free t := fun h => shapeT_all (F _ (by decide +kernel)) (F _ (by decide +kernel)) (F _ (by decide +kernel)) (F _ (by decide +kernel)) h
  have tok : ∀ {us : List Str}, (∀ t ∈ us, TokOk t) → ∀ t ∈ shapeT us va, TokOk t := fun h => shapeT_all (O _ (by decide +kernel)) (O _ (by decide +kernel)) (O _ (by decide +kernel)) (O _ (by decide +kernel)) h
  cases ts with
  | nil => rfl
  | cons w r =>
    have hr : ∀ t ∈ r, TokOk t := fun t ht => h t (List.mem_cons_of_mem _ ht)
    have fr : ∀ t ∈ r, Free t := fun t ht => (hr t ht).free
    have e1 : 2 < (w :: r).length → readFor (T.tbs).tl (w :: r) va M = readForT T.tl (w :: r) va M := fun hl => by
      unfold readFor readForT
      have dr : (w :: r).drop 2 = r.drop 1 := rfl
      have fd : ∀ t ∈ r.drop 1, Free t := fun t ht => fr t (List.mem_of_mem_drop ht)
      have nd : norm (r.drop 1) = r.drop 1 := by
        unfold norm
        rw [if_neg]
        intro z
        have := congrArg List.length z
        rw [List.length_drop] at this
        simp only [List.length_cons, List.length_nil] at hl this
        omega
      rw [dr, shape_is fd hv.free, nd, show (T.tbs).tl = ttbl T.tl from rfl, tt_at (free fd) t1]
      try rfl
    have e2 : readNamed (T.tbs).ta (T.tbs).tg (w :: r) va own lo M = readNamedT T (w :: r) va own lo M := by
      unfold readNamed readNamedT readCall readCallT readGift readGiftT
      dsimp only
      rw [shape_is fr hv.free, show (T.tbs).ta = ttbl T.ta from rfl, show (T.tbs).tg = ttbl T.tg from rfl, tt_at (free (norm_free fr)) t2, tt_at (free (norm_free fr)) t3]
      by_cases e : r = []
      · have en : norm r = ([""] : List Str) := if_pos e
        have es : shapeT (norm r) va = ([""] : List Str) := by
          rw [en]
          exact shape_nil hv.1
        rw [es]
        have : Txt.words (txtS ([""] : List Str)) = [] := by decide +kernel
        rw [this]
        try rfl
      · have en : norm r = r := if_neg e
        rw [en, words_txt (tok hr)]
        try rfl
    unfold readInner readInnerT
    dsimp only
    by_cases h1 : w = "for"
    · rw [if_pos h1, if_pos h1]
      by_cases h2 : 2 < (w :: r).length
      · rw [if_pos h2, if_pos h2, e1 h2]
      · rw [if_neg h2, if_neg h2]
    · rw [if_neg h1, if_neg h1]
      by_cases h2 : w = "if"
      · rw [if_pos h2, if_pos h2]
        show (rtZ T.tt r va).map _ = _
        rw [test_is hr hv]
      · rw [if_neg h2, if_neg h2]
        by_cases h3 : w ∈ bareW
        · rw [if_pos h3, if_pos h3]
        · rw [if_neg h3, if_neg h3, e2]
end TX
namespace TX
open PySem PySem.Spec PyProof.Rows L2 KTD
/-! ### reading by tokens, line by line -/
def lineOfT (T : Tok3) (k : Bk) (d : Nat) (ts : List Str) (M : Mean) : Option LnZ := if d = 0 then readDefZ ts M else readInnerT T ts (k.var.getD "") (k.own.getD "") k.lo M
def acceptT (T : Tok3) (S : RS) (sp : Nat) (ts : List Str) : Option RS :=
  if ts = [] ∨ mayStand S sp = false then none else match S.blocks[sp / 2]? with
  | none => none
  | some k => match lineOfT T k (sp / 2) ts S.mean with
    | none => none
    | some z => if z.deed = "else" ∧ endsChoice S (sp / 2) = false then none else some (putS (shutS S (sp / 2) z) z k)
def rowsT (T : Tok3) : RS → Nat → List (Nat × List Str) → Except Nat RS
  | S, _, [] => .ok S
  | S, n, (sp, ts) :: r => match acceptT T S sp ts with
    | none => .error n
    | some S' => rowsT T S' (n + 1) r
def allT (T : Tok3) (rows : List (Nat × List Str)) : Except Nat RS := match rowsT T RS.init 0 rows with
  | .error n => .error n
  | .ok S => if isWhole S = true then .ok (closeS S 0 false) else .error rows.length
theorem accept_is {T : Tok3} (hT : T.ok) {S : RS} {n sp : Nat} {ts : List Str} (g : Good S n) (ht : RowTok ts) : acceptS (T.tbs) S sp ts = acceptT T S sp ts := by
  unfold acceptS acceptT
  by_cases c : ts = [] ∨ mayStand S sp = false
  · rw [if_pos c, if_pos c]
  · rw [if_neg c, if_neg c]
    cases hk : S.blocks[sp / 2]? with
    | none => rfl
    | some k =>
      have e : lineOf (T.tbs) k (sp / 2) ts S.mean = lineOfT T k (sp / 2) ts S.mean := by
        unfold lineOf lineOfT
        by_cases h0 : sp / 2 = 0
        · rw [if_pos h0, if_pos h0]
        · rw [if_neg h0, if_neg h0]
          obtain ⟨m, hm⟩ : ∃ m, sp / 2 = m + 1 := ⟨sp / 2 - 1, by omega⟩
          rw [hm] at hk
          obtain ⟨v, ev, _, _, _, tv⟩ := (g.at hk).var
          refine inner_is hT (fun t h => (ht.2 t h).2.2) ?_
          rw [ev]
          exact tv
      dsimp only
      rw [e]
      try rfl
theorem rows_is {T : Tok3} (hT : T.ok) : ∀ {rows : List (Nat × List Str)} {S : RS} {n m : Nat}, Good S m → RowsOk T.tbs rows → readRows (T.tbs) S n rows = rowsT T S n rows
  | [], _, _, _, _, _ => rfl
  | (sp, ts) :: r, S, n, m, g, h => by
    obtain ⟨h1, h2⟩ := h _ List.mem_cons_self
    show (match acceptS (T.tbs) S sp ts with | none => _ | some S2 => readRows (T.tbs) S2 (n + 1) r) = (match acceptT T S sp ts with | none => _ | some S2 => rowsT T S2 (n + 1) r)
    rw [← accept_is hT g h1]
    cases e : acceptS (T.tbs) S sp ts with
    | none => rfl
    | some S2 => exact rows_is hT (accept_good g e h1 h2).1 fun x hx => h x (List.mem_cons_of_mem _ hx)
theorem all_is {T : Tok3} (hT : T.ok) {rows : List (Nat × List Str)} (h : RowsOk T.tbs rows) : readAll (T.tbs) rows = allT T rows := by
  unfold readAll allT
  rw [rows_is hT Good.init h]
  try rfl
end TX
namespace TX
open PySem PySem.Spec PyProof.Rows L2 KTD
/-! ### a program is made -/
structure PgC (K : PySem.W.Frag) (mg : Str → Option Value) (CP : Addr) (mc : Value) : Prop where
  cl : Cls K CP
  na : ∀ f ∈ (["_rows", "_openers", "lines", "main", "_meanings", "_spots"] : List Str), NoAttr K CP f
  mgP : mg "Program" = some (.ref CP)
  r : ClX.CRead K CP mc
  four : ∃ u, ClX.CVal K CP mc "FUNCTIONS" (.int 4) u
  twelve : ∃ u, ClX.CVal K CP mc "SPOTS" (.int 12) u
def progF (aR aO aT aM aF : Addr) (main : Str) : List (Str × V) := putF "_spots" (.ref aF) (putF "_meanings" (.ref aM) (putF "main" (.str main) (putF "lines" (.ref aT) (putF "_openers" (.ref aO) (putF "_rows" (.ref aR) [])))))
def opsOf (S : RS) : Ops := opL (zsOf S.lines) 0 []
/-- a program on the heap -/
def PgAt (K : PySem.W.Frag) (C CB CR CP : Addr) (H : Hp) (p : Addr) (rows : List (Nat × List Str)) (S : RS) : Prop := ∃ (dx aR aO aT : Addr) (rv : List V) (A : RA) (main : Str) (i : Nat), H p = some (.ins CP dx (progF aR aO aT A.aM A.aF main)) ∧ H aR = some (.lst rv) ∧ RowsAt H rv rows ∧
  H aO = some (.dK (opV A.xs (opsOf S))) ∧ (opsOf S).getLast? = some (main, i) ∧ H aT = some (.tup (A.xs.map V.ref)) ∧ RdAt K C CB CR H A S
theorem RowAt.dat {H H' : Hp} (s : ∀ b o, datO o = true → H b = some o → H' b = some o) {v : V} {r : Nat × List Str} (h : RowAt H v r) : RowAt H' v r := by
  obtain ⟨t, a, e, h1, h2⟩ := h
  exact ⟨t, a, e, s _ _ rfl h1, s _ _ rfl h2⟩
theorem RowsAt.dat {H H' : Hp} (s : ∀ b o, datO o = true → H b = some o → H' b = some o) : ∀ {vs : List V} {rs : List (Nat × List Str)}, RowsAt H vs rs → RowsAt H' vs rs
  | _, _, .nil => .nil
  | _, _, .cons h t => .cons (h.dat s) (t.dat s)
theorem RdAt.other {K : PySem.W.Frag} {C CB CR : Addr} {H : Hp} {A : RA} {S : RS} (h : RdAt K C CB CR H A S) {p C' dx C2 dx2 : Addr} {fs fs' : List (Str × V)} {s : Str} (hp : H p = some (.ins C' dx fs)) (e : fldN fs = some s) (h1 : "deed" ≠ s) (h2 : "line" ≠ s) (h3 : "lines" ≠ s) : RdAt K C CB CR (upd H p (.ins C2 dx2 fs')) A S := by
  have kd : ∀ {b : Addr} {o : HO}, H b = some o → (∀ C dx fs, o ≠ .ins C dx fs) → (upd H p (.ins C2 dx2 fs')) b = some o := fun h1 h2 => by
    rw [upd_ne (ne_kind h1 hp (h2 _ _ _))]
    exact h1
  have fd : ∀ {b C3 dx3 : Addr} {gs : List (Str × V)} {s3 : Str}, H b = some (.ins C3 dx3 gs) → fldN gs = some s3 → s3 ≠ s → (upd H p (.ins C2 dx2 fs')) b = some (.ins C3 dx3 gs) := fun h1 h2 h3 => by
    rw [upd_ne (ne_fld h1 hp h2 e h3)]
    exact h1
  refine ⟨fd h.r (fld_read ..) h3, kd h.L (fun _ _ _ z => nomatch z), kd h.M (fun _ _ _ z => nomatch z), kd h.F (fun _ _ _ z => nomatch z), kd h.B (fun _ _ _ z => nomatch z), h.LF, h.LB, h.FB, h.nd, ?_, ?_, ?_⟩
  · exact h.lines.imp fun x l ⟨dy, ty, e1, c⟩ => ⟨dy, ty, fd e1 (fld_line ..) h1, c.same (outD_upd hp (.inl rfl) rfl rfl rfl)⟩
  · exact h.found.imp fun t p e1 => by
      unfold FdAt at e1 ⊢
      exact kd e1 fun _ _ _ z => nomatch z
  · exact h.blocks.imp fun b k ⟨bx, e1⟩ => ⟨bx, fd e1 (fld_block ..) h2⟩
/-- what is handed on where there is too much -/
def ManyE (TM : Addr) (H : Hp) (what : Str) (E : XK) : Prop := ∀ (H3 : Hp) (dx : Addr), Same H H3 → H3 dx = some (.xd [("what", .str what)]) → E (.ref TM) (some dx) H3
def spProg (K : PySem.W.Frag) (C CB CR CP BP TM : Addr) (T : Tbs) : Sp := fun vs H Q E => ∃ (p dx : Addr) (x : Str) (ls : List (List Nat)), vs = [.ref p, .str x] ∧ H p = some (.ins CP dx []) ∧ x.length ≤ 19000 ∧ (cleanZ x).cps.toList = joinL [10] ls ∧ ls ≠ [] ∧ (∀ l ∈ ls, 10 ∉ l) ∧ RowsOk T (ls.map rowOf) ∧
  (∀ S, readAll T (ls.map rowOf) = .ok S → (opsOf S).length ≤ 4 → S.found.length ≤ 12 → ∀ H', (∀ b o, b ≠ p → H b = some o → H' b = some o) → PgAt K C CB CR CP H' p (ls.map rowOf) S → Q .non H') ∧
  (∀ S, readAll T (ls.map rowOf) = .ok S → 4 < (opsOf S).length → ∀ H0, (∀ b o, b ≠ p → H b = some o → H0 b = some o) → ManyE TM H0 "functions" E) ∧
  (∀ S, readAll T (ls.map rowOf) = .ok S → (opsOf S).length ≤ 4 → 12 < S.found.length → ∀ H0, (∀ b o, b ≠ p → H b = some o → H0 b = some o) → ManyE TM H0 "spots" E) ∧
  ∀ n, readAll T (ls.map rowOf) = .error n → ∀ H0, (∀ b o, b ≠ p → H b = some o → H0 b = some o) → LineE BP H0 n E
section
variable {P : Program} {w : World} {K : PySem.W.Frag} {mg : Str → Option Value} {base : Heap} {C CB CR CP TE BP TM : Addr} {mc : Value}
theorem scTm : FnScope ["self", "what"] ["self", "what"] (defScope mTooMany_init) := ⟨rfl, rfl, rfl, by decide +kernel, rfl, by decide +kernel, by decide +kernel⟩
theorem ok_inTm {f D fC : Addr} {fd fdC : FuncData} (F : Fun K "__init__" "TooMany.__init__" mTooMany_init f fd) (GC : FnOk P w K mg base CX0 2 fC fdC ["thing"] (spCopy K)) (gC : mg "copy_of" = some (.ref fC)) (kC : PySem.W.keepIn K (.ref fC) = true) (bC : Binds K fdC ["thing"] []) :
    FnOk P w K mg base CX0 3 f fd ["self", "what"] (spIn1 K D "what") := by
  refine F.ok scTm (fun vs H Q E h => ?_) (fun cdv A outer s H vs Q E hr h => ?_)
  · obtain ⟨a, v, d, Hv, rfl, _⟩ := h
    rfl
  · obtain ⟨a, v, d, Hv, rfl, ox, no, ha, sv, hd, hn, q⟩ := h
    refine ⟨_, pss_one (ps_ost (pv 0) (pe_call GC hr (by rfl) gC kC bC .nil pass0 (pa_cons (pv 1) pa_nil))), ?_⟩
    refine ⟨_, rfl, v, d, Hv, rfl, sv, hd, hn, fun H' v' sm hv' => ⟨_, rfl, a, D, rfl, ox, no, .inl ⟨sm _ _ ha, fun dx ndx hne => ?_⟩⟩⟩
    refine q _ dx v' ⟨upd_same, by rw [upd_ne hne, upd_same], sm.free ndx, hne, fun b o hb e => ?_, .cons (dp_same (cut_same ha ndx) _ _ hv') .nil⟩
    rw [upd_ne hb, upd_ne (ne_of_none (sm _ _ e) ndx)]
    exact sm _ _ e
theorem scProg : FnScope ["self", "text", "reading", "line"] ["self", "text"] (defScope mProgram_init) := ⟨rfl, rfl, rfl, by decide +kernel, rfl, by decide +kernel, by decide +kernel⟩
theorem ok_prog {f fO fR fM : Addr} {fd dO dR dM : FuncData} {T : Tbs} (F : Fun K "__init__" "Program.__init__" mProgram_init f fd) (len : mg "len" = none) (isi : mg "isinstance" = none) (str : mg "str" = none) (tpl : mg "tuple" = none) (lst : mg "list" = none) (G : PgC K mg CP mc) (R : RdC K CR) (LT : LnC K C)
    (GO : FnOk P w K mg base CX0 2 fO dO ["text"] spRowsOf) (gO : mg "rows_of" = some (.ref fO)) (kO : PySem.W.keepIn K (.ref fO) = true) (bO : Binds K dO ["text"] [])
    (GR : FnOk P w K mg base (L2.CX P w) 8 fR dR ["rows"] (spReadRows K C CB CR BP T)) (gR : mg "read_rows" = some (.ref fR)) (kR : PySem.W.keepIn K (.ref fR) = true) (bR : Binds K dR ["rows"] [])
    (c : Cl K mg TE "BadProgram" BP) (cm : Cl K mg TE "TooMany" TM) (iM : PySem.W.findIn K (.ref TM) "__init__" = some (some (.ref fM))) (tM : PySem.W.typeIn K (.ref fM) = some (.type "function")) (nM : PySem.W.findIn K (.ref TM) "what" = some none)
    (GM : FnOk P w K mg base CX0 3 fM dM ["self", "what"] (spIn1 K TM "what")) (bM : Binds K dM ["self", "what"] []) : FnOk P w K mg base (L2.CX P w) 9 f fd ["self", "text"] (spProg K C CB CR CP BP TM T) := by
  refine F.okX scProg (fun vs H Q E h => ?_) (fun cdv A outer s H vs Q E hr h => ?_)
  · obtain ⟨p, dx, x, ls, rfl, _⟩ := h
    rfl
  · obtain ⟨p, dx, x, ls, rfl, hp, hx, hj, hne, hno, hok, q1, q2, q3, q4⟩ := h
    have hu2 : (A.deeper (envOfC "Program.__init__" (defScope mProgram_init) s.heap.objs.size f cdv)).units + 1 < PySem.cLine := by
      have := hr.un
      omega
    refine ⟨_, pss_cons (ps_if (pt_not (pt_val (pe_callB call_isi (by rfl) isi (by decide +kernel) (pa_cons (pv 1) (pa_cons (pe_bltn (v := .ty "str") (by rfl) str (by decide +kernel) rfl) pa_nil))))) (pss_one ps_never) pss_nil) <|
      pss_cons (ps_fld (pv 0) (pe_call GO (hr.mono (by decide)) (by rfl) gO kO bO .nil pass0 (pa_cons (pv 1) pa_nil)) rfl) <|
      pss_cons (ps_set (i := 2) scProg.nd rfl (.inl rfl) (pe_call (E := E) GR hr (by rfl) gR kR bR .nil (passes_call (takes_of rfl rfl rfl rfl) fun _ _ _ _ z => z) (pa_cons (pe_fld (pv 0) rfl) pa_nil))) <|
      pss_cons (ps_fld (pv 0) (pe_dc (own := [("line", 3)]) (g := gName 3) (tt := tTest (tOp rEq (tFld K (tVar 3) "deed") (tC (.str "def")))) (tk := tFld K (tVar 3) "name") (tv := tVar 3) rfl scProg.nd (pi_list (pe_fld (pv 2) rfl)) (blkOk_by (own := [("line", 3)]) (N := ["self", "text", "reading", "line"]) (sc := defScope mProgram_init) (by decide +kernel))
        (fun _ _ _ _ _ => pg_name (i := 3) scProg.nd rfl (Or.inl rfl)) (fun _ _ _ _ _ => pts_one (pt_cmpR op_eq (pe_fld (pv 3) rfl) pe_str (nomark _))) (fun _ _ _ _ _ => pe_fld (pv 3) rfl) (fun _ _ _ _ _ => pv 3)) rfl) <|
      pss_cons (ps_if (pt_cmpR op_gt (pe_callB call_lenD (by rfl) len PySem.boot_len (pa_cons (pe_fld (pv 0) rfl) pa_nil)) (ClX.pe_cval (pe_glob (v := .ref CP) (by rfl) G.mgP rfl)) (nomark _)) (pss_one (ps_raise rfl (takes_of rfl rfl rfl rfl) (by exact (pmk_oex cm.ox iM tM GM (hr.mono (by decide)) bM .nil pass0 (by rfl) cm.mgC (pa_cons pe_str pa_nil))))) pss_nil) <|
      pss_cons (ps_if (pt_cmpR op_gt (pe_callB call_len_seq (by rfl) len PySem.boot_len (pa_cons (pe_fld (pv 2) rfl) pa_nil)) (ClX.pe_cval (pe_glob (v := .ref CP) (by rfl) G.mgP rfl)) (nomark _)) (pss_one (ps_raise rfl (takes_of rfl rfl rfl rfl) (by exact (pmk_oex cm.ox iM tM GM (hr.mono (by decide)) bM .nil pass0 (by rfl) cm.mgC (pa_cons pe_str pa_nil))))) pss_nil) <|
      pss_cons (ps_fld (pv 0) (pe_callTy call_tuple_of (by rfl) tpl (by decide +kernel) (pa_cons (pe_fld (pv 2) rfl) pa_nil)) rfl) <|
      pss_cons (ps_fld (pv 0) (pe_ix ix_list (pe_callTy (call_list_dK rfl) (by rfl) lst (by decide +kernel) (pa_cons (pe_fld (pv 0) rfl) pa_nil)) (pe_un un_neg pe_int) (fun _ _ => rfl)) rfl) <|
      pss_cons (ps_fld (pv 0) (pe_fld (pv 2) rfl) rfl) <|
      pss_one (ps_fld (pv 0) (pe_fld (pv 2) rfl) rfl), ?_⟩
    have na : ∀ {f : Str}, f ∈ (["_rows", "_openers", "lines", "main", "_meanings", "_spots"] : List Str) → NoAttr K CP f := fun h => G.na _ h
    have nr : ∀ {f : Str}, f ∈ (["lines", "meanings", "found", "blocks"] : List Str) → NoAttr K CR f := fun h => R.na _ h
    have nl : ∀ {f : Str}, f ∈ lineNames → NoAttr K C f := fun h => LT.na _ h
    have rlen : (ls.map rowOf).length ≤ 19001 := by
      rw [List.length_map]
      have := joinL_many (c := 10) (ps := ls)
      rw [← hj] at this
      have e : (cleanZ x).cps.toList.length = x.length := by
        rw [← clean_len x]
        simp [Str.length]
      omega
    refine ⟨_, rfl, .str x, .ty "str", .type "str", .type "str", true, rfl, .ty _, dp_ty (d := .str x) (.str x), kit_ty (a := "str") (b := "str") (r := true) (by decide +kernel), _, rfl, iteF ?_⟩
    refine ⟨_, rfl, x, ls, rfl, by omega, hj, hne, hno, fun H1 aR rv s1 nR eR ra => ?_⟩
    have hp1 := s1 _ _ hp
    refine ⟨_, rfl, p, CP, dx, _, rfl, hp1, G.cl, na (by decide +kernel), (by show 0 < 1000; decide), ?_⟩
    have hp2 := upd_same (H := H1) (a := p) (o := .ins CP dx (putF "_rows" (.ref aR) []))
    have k2 : ∀ b o, b ≠ p → H b = some o → (upd H1 p (.ins CP dx (putF "_rows" (.ref aR) []))) b = some o := fun b o hb e => by
      rw [upd_ne hb]
      exact s1 _ _ e
    have d2 : ∀ b o, datO o = true → H1 b = some o → (upd H1 p (.ins CP dx (putF "_rows" (.ref aR) []))) b = some o := fun b o hd e => by
      rw [upd_ne (ne_kind e hp1 fun z => by rw [z] at hd; cases hd)]
      exact e
    have ra2 := ra.dat d2
    have eR2 := d2 _ _ rfl eR
    generalize upd H1 p (.ins CP dx (putF "_rows" (.ref aR) [])) = H2 at hp2 k2 ra2 eR2 ⊢
    refine ⟨_, rfl, p, CP, dx, _, _, rfl, hp2, G.cl, na (by decide +kernel), rfl, aR, rv, ls.map rowOf, rfl, eR2, ra2, fun z => hne (List.map_eq_nil_iff.mp z), by omega, hok, fun S eS gS lS H3 A s3 hA nb => ?_, fun n e => q4 n e H2 k2⟩
    have hp3 := s3 _ _ hp2
    have k3 : ∀ b o, b ≠ p → H b = some o → H3 b = some o := fun b o hb e => s3 _ _ (k2 b o hb e)
    have ra3 := ra2.same s3
    have eR3 := s3 _ _ eR2
    have pO : p ∉ A.own := fun z => by
      have := nb p z
      rw [hp2] at this
      cases this
    obtain ⟨d1, d3⟩ := all_def eS hok
    have hdef := d3 fun z => hne (List.map_eq_nil_iff.mp z)
    have ll := hA.lines.length
    have zl : (zsOf S.lines).length = S.lines.length := List.length_map ..
    have gl := gS.ll
    have opn : (opsOf S).length ≤ 30000 := by
      have := (opL_len (zsOf S.lines) 0 []).2
      unfold opsOf
      simp only [List.length_nil] at this
      omega
    refine ⟨_, rfl, A.r, CR, A.dx, _, _, rfl, hA.r, R.cl, nr (by decide +kernel), lines_get A, A.aL, rfl, ⟨_, SqL.of hA.L⟩, fun D nD => dc_list (K := K) (a := A.aL) (xs := A.xs.map V.ref) (fun i Gp => Gp D = some (.dK (opV A.xs (opL ((zsOf S.lines).take i) 0 []))) ∧ Same H3 Gp) ⟨upd_same, same_upd nD⟩ (fun i Gp hi ⟨_, sm⟩ => SqL.of (sm _ _ hA.L)) ?_ ?_⟩
    · rintro i v Gp hv ⟨hD, sm⟩
      rw [List.getElem?_map] at hv
      cases hxi : A.xs[i]? with
      | none =>
        rw [hxi] at hv
        cases hv
      | some xi =>
        rw [hxi] at hv
        cases hv
        have il := (List.getElem?_eq_some_iff.mp hxi).1
        rw [ll] at il
        obtain ⟨l, hl⟩ : ∃ l, S.lines[i]? = some l := ⟨_, List.getElem?_eq_getElem il⟩
        obtain ⟨dxi, tv, ex, _⟩ := hA.lines.get hxi hl
        have hz : (zsOf S.lines)[i]? = some l.z := by
          unfold zsOf
          rw [List.getElem?_map, hl]
          rfl
        have tk : (zsOf S.lines).take (i + 1) = (zsOf S.lines).take i ++ [l.z] := by
          rw [List.take_add_one, hz]
          rfl
        have lt : ((zsOf S.lines).take i).length = i := by
          rw [List.length_take]
          omega
        have eo : opL ((zsOf S.lines).take (i + 1)) 0 [] = if l.z.deed = "def" then putN (opL ((zsOf S.lines).take i) 0 []) (l.z.name.getD "") i else opL ((zsOf S.lines).take i) 0 [] := by
          rw [tk, opL_snoc, lt, Nat.zero_add]
        refine ⟨rfl, _, rfl, xi, C, dxi, _, _, rfl, sm _ _ ex, LT.cl, nl (by decide +kernel), rfl, rfl, _, rfl, ?_⟩
        show (if decide (V.str l.z.deed = V.str "def") = true then _ else _)
        rw [eo]
        by_cases hd : l.z.deed = "def"
        · rw [decide_eq_true (by rw [hd]), if_pos hd]
          cases hnm : l.z.name with
          | none => exact absurd hnm (d1 _ (List.mem_of_getElem? hz) hd)
          | some n =>
            have ef : (l.f tv).lookup ("name" : Str) = some (.str n) := by
              show some (oV l.z.name) = _
              rw [hnm]
              rfl
            refine iteT ⟨_, rfl, xi, C, dxi, _, _, rfl, sm _ _ ex, LT.cl, nl (by decide +kernel), ef, _, rfl, _, .inr n, rfl, hD, ?_, ?_, same_fresh nD sm⟩
            · have := (opL_len ((zsOf S.lines).take i) 0 []).2
              rw [lt] at this
              show (List.map _ _).length < _
              rw [List.length_map]
              simp only [List.length_nil] at this
              exact Nat.lt_of_le_of_lt (show _ ≤ 30000 by omega) (by decide)
            · have pp := put_op A.xs (opL ((zsOf S.lines).take i) 0 []) n i
              rw [hxi] at pp
              rw [upd_same]
              exact congrArg (fun z => some (HO.dK z)) pp
        · rw [decide_eq_false (fun e => hd (V.str.inj e)), if_neg hd]
          exact iteF ⟨hD, sm⟩
    · rintro Gp ⟨hD, sm⟩
      rw [List.length_map, ll, ← zl, List.take_length] at hD
      have hD : Gp D = some (.dK (opV A.xs (opsOf S))) := hD
      have hpD : p ≠ D := ne_of_none hp3 nD
      have hA4 := hA.same sm
      have hp4 := sm _ _ hp3
      refine ⟨_, rfl, p, CP, dx, _, rfl, hp4, G.cl, na (by decide +kernel), (by show 1 < 1000; decide), ?_⟩
      have fp : ∀ (a : V) (fs : List (Str × V)), fldN (("_rows", a) :: fs) = some ("_rows" : Str) := fun _ _ => rfl
      -- a store to the program itself
      have st : ∀ (X : Hp) (B : List Addr), (∀ b o, b ≠ p → H b = some o → X b = some o) → ∀ fs fs', X p = some (.ins CP dx fs) → fldN fs = some ("_rows" : Str) → RdAt K C CB CR X A S → RowsAt X rv (ls.map rowOf) → (∀ b o, b ≠ p → H b = some o → (upd X p (.ins CP dx fs')) b = some o) ∧ RdAt K C CB CR (upd X p (.ins CP dx fs')) A S ∧ RowsAt (upd X p (.ins CP dx fs')) rv (ls.map rowOf) ∧ (∀ b o, datO o = true → X b = some o → (upd X p (.ins CP dx fs')) b = some o) ∧ ∀ b kvs, X b = some (.dK kvs) → (upd X p (.ins CP dx fs')) b = some (.dK kvs) := fun X B kX fs fs' hX hf hA raX => by
        have dX : ∀ b o, datO o = true → X b = some o → (upd X p (.ins CP dx fs')) b = some o := fun b o hd e => by
          rw [upd_ne (ne_kind e hX fun z => by rw [z] at hd; cases hd)]
          exact e
        exact ⟨fun b o hb e => by
          rw [upd_ne hb]
          exact kX b o hb e, hA.other hX hf (by decide +kernel) (by decide +kernel) (by decide +kernel), raX.dat dX, dX, fun b kvs e => by
          rw [upd_ne (ne_kind e hX fun z => nomatch z)]
          exact e⟩
      have k4 : ∀ b o, b ≠ p → H b = some o → Gp b = some o := fun b o hb e => sm _ _ (k3 b o hb e)
      obtain ⟨k5, hA5, ra5, d5, dk5⟩ := st Gp [] k4 _ (putF "_openers" (.ref D) (putF "_rows" (.ref aR) [])) hp4 (fp _ _) hA4 (ra3.same sm)
      have hp5 := upd_same (H := Gp) (a := p) (o := .ins CP dx (putF "_openers" (.ref D) (putF "_rows" (.ref aR) [])))
      have hD5 := dk5 _ _ hD
      have eR5 := d5 _ _ rfl (sm _ _ eR3)
      generalize upd Gp p (.ins CP dx (putF "_openers" (.ref D) (putF "_rows" (.ref aR) []))) = H5 at k5 hA5 ra5 hp5 hD5 eR5 ⊢
      have bad : ∀ (what : Str), ManyE TM H5 what E → ∀ a, H5 a = none → ∃ (a' : Addr) (v' : V) (d' : PyData) (Hw : Hp), [V.ref a, V.str what] = [.ref a', v'] ∧ OexC K TM ∧ PySem.W.findIn K (.ref TM) "what" = some none ∧ (upd H5 a (exo a TM none)) a' = some (exo a' TM none) ∧ Same Hw (upd H5 a (exo a TM none)) ∧ Dp K Hw v' d' ∧ nd d' ≤ 1000000 ∧
          ∀ (H2 : Hp) (dx : Addr) (w : V), Made K (upd H5 a (exo a TM none)) a' TM dx [("what", w)] H2 [w] [d'] → V.non = .non ∧ ∃ (dy : Addr) (fs : List (Str × V)), H2 a = some (exo a TM (some dy)) ∧ H2 dy = some (exd dy fs) ∧ H5 dy = none ∧ E (.ref TM) (some dy) (upd (del H2 a) dy (.xd fs)) := by
        intro what e a na
        refine ⟨a, .str what, .str what, H5, rfl, cm.ox, nM, upd_same, same_upd na, .str _, by simp [nd], fun H2 dx w M => ?_⟩
        obtain ⟨s2, nx, hw⟩ := made_same (fs' := [("what", w)]) na M
        cases hw with
        | cons hw _ =>
          cases hw
          exact ⟨rfl, dx, _, M.ea, M.ed, nx, e _ dx s2 upd_same⟩
      obtain ⟨u4, v4⟩ := G.four
      obtain ⟨u12, v12⟩ := G.twelve
      refine ⟨_, rfl, p, CP, dx, _, _, rfl, hp5, G.cl, na (by decide +kernel), rfl, D, _, rfl, hD5, CP, mc, .int 4, u4, rfl, G.r, v4, _, _, rfl, rfl, _, rfl, ?_⟩
      have eo : (opV A.xs (opsOf S)).length = (opsOf S).length := List.length_map ..
      rw [eo]
      by_cases h4 : 4 < (opsOf S).length
      · rw [decide_eq_true (show (4 : Int) < ((opsOf S).length : Nat) by omega)]
        exact iteT ⟨(by show 1 ≤ 1000; decide), fun a na => bad _ (q2 S eS h4 H5 k5) a na⟩
      rw [decide_eq_false (show ¬ (4 : Int) < ((opsOf S).length : Nat) by omega)]
      refine iteF ⟨_, rfl, A.r, CR, A.dx, _, _, rfl, hA5.r, R.cl, nr (by decide +kernel), found_get A, A.aF, _, rfl, .inl (SqL.of hA5.F), CP, mc, .int 12, u12, rfl, G.r, v12, _, _, rfl, rfl, _, rfl, ?_⟩
      have ef : (A.fs.map V.ref).length = S.found.length := by rw [List.length_map, hA.found.length]
      rw [ef]
      by_cases h12 : 12 < S.found.length
      · rw [decide_eq_true (show (12 : Int) < ((S.found.length : Nat) : Int) by omega)]
        exact iteT ⟨(by show 1 ≤ 1000; decide), fun a na => bad _ (q3 S eS (by omega) h12 H5 k5) a na⟩
      rw [decide_eq_false (show ¬ (12 : Int) < ((S.found.length : Nat) : Int) by omega)]
      refine iteF ⟨_, rfl, A.r, CR, A.dx, _, _, rfl, hA5.r, R.cl, nr (by decide +kernel), lines_get A, A.aL, _, rfl, .inl ⟨SqL.of hA5.L, fun aT nT => ⟨_, rfl, p, CP, dx, _, rfl, by rw [upd_ne (ne_of_none hp5 nT)]; exact hp5, G.cl, na (by decide +kernel), (by show 2 < 1000; decide), ?_⟩⟩⟩
      have s6 : Same H5 (upd H5 aT (.tup (A.xs.map V.ref))) := same_upd nT
      have t6 := upd_same (H := H5) (a := aT) (o := .tup (A.xs.map V.ref))
      have hp6 := s6 _ _ hp5
      have hA6 := hA5.same s6
      have ra6 := ra5.same s6
      have hD6 := s6 _ _ hD5
      have eR6 := s6 _ _ eR5
      have k6 : ∀ b o, b ≠ p → H b = some o → (upd H5 aT (.tup (A.xs.map V.ref))) b = some o := fun b o hb e => s6 _ _ (k5 b o hb e)
      generalize upd H5 aT (.tup (A.xs.map V.ref)) = H6 at s6 t6 hp6 hA6 ra6 hD6 eR6 k6 ⊢
      obtain ⟨k7, hA7, ra7, d7, dk7⟩ := st H6 [] k6 _ (putF "lines" (.ref aT) (putF "_openers" (.ref D) (putF "_rows" (.ref aR) []))) hp6 (fp _ _) hA6 ra6
      have hp7 := upd_same (H := H6) (a := p) (o := .ins CP dx (putF "lines" (.ref aT) (putF "_openers" (.ref D) (putF "_rows" (.ref aR) []))))
      have hD7 := dk7 _ _ hD6
      have eR7 := d7 _ _ rfl eR6
      have t7 := d7 _ _ rfl t6
      generalize upd H6 p (.ins CP dx (putF "lines" (.ref aT) (putF "_openers" (.ref D) (putF "_rows" (.ref aR) [])))) = H7 at k7 hA7 ra7 hp7 hD7 eR7 t7 ⊢
      have opos : 1 ≤ (opsOf S).length := opL_pos hdef
      obtain ⟨main, im, hmain⟩ : ∃ main im, (opsOf S).getLast? = some (main, im) := by
        cases e : (opsOf S).getLast? with
        | none =>
          rw [List.getLast?_eq_none_iff] at e
          rw [e] at opos
          simp at opos
        | some q => exact ⟨q.1, q.2, rfl⟩
      have hlast : ((opV A.xs (opsOf S)).map fun kv => kV kv.1).getLast? = some (.str main) := by
        unfold opV
        rw [List.map_map, List.getLast?_map, hmain]
        rfl
      refine ⟨_, rfl, p, CP, dx, _, _, rfl, hp7, G.cl, na (by decide +kernel), rfl, D, _, rfl, hD7, fun aK nK => ⟨_, rfl, aK, _, -1, .str main, rfl, rfl, SqL.of upd_same, atI_end hlast, _, rfl, p, CP, dx, _, rfl, by rw [upd_ne (ne_of_none hp7 nK)]; exact hp7, G.cl, na (by decide +kernel), (by show 3 < 1000; decide), ?_⟩⟩
      have s8 : Same H7 (upd H7 aK (.lst ((opV A.xs (opsOf S)).map fun kv => kV kv.1))) := same_upd nK
      have hp8 := s8 _ _ hp7
      have hA8 := hA7.same s8
      have ra8 := ra7.same s8
      have hD8 := s8 _ _ hD7
      have eR8 := s8 _ _ eR7
      have t8 := s8 _ _ t7
      have k8 : ∀ b o, b ≠ p → H b = some o → (upd H7 aK (.lst ((opV A.xs (opsOf S)).map fun kv => kV kv.1))) b = some o := fun b o hb e => s8 _ _ (k7 b o hb e)
      generalize upd H7 aK (.lst ((opV A.xs (opsOf S)).map fun kv => kV kv.1)) = H8 at s8 hp8 hA8 ra8 hD8 eR8 t8 k8 ⊢
      obtain ⟨k9, hA9, ra9, d9, dk9⟩ := st H8 [] k8 _ (putF "main" (.str main) (putF "lines" (.ref aT) (putF "_openers" (.ref D) (putF "_rows" (.ref aR) [])))) hp8 (fp _ _) hA8 ra8
      have hp9 := upd_same (H := H8) (a := p) (o := .ins CP dx (putF "main" (.str main) (putF "lines" (.ref aT) (putF "_openers" (.ref D) (putF "_rows" (.ref aR) [])))))
      have hD9 := dk9 _ _ hD8
      have eR9 := d9 _ _ rfl eR8
      have t9 := d9 _ _ rfl t8
      generalize upd H8 p (.ins CP dx (putF "main" (.str main) (putF "lines" (.ref aT) (putF "_openers" (.ref D) (putF "_rows" (.ref aR) []))))) = H9 at k9 hA9 ra9 hp9 hD9 eR9 t9 ⊢
      refine ⟨_, rfl, A.r, CR, A.dx, _, _, rfl, hA9.r, R.cl, nr (by decide +kernel), mean_get A, _, rfl, p, CP, dx, _, rfl, hp9, G.cl, na (by decide +kernel), (by show 4 < 1000; decide), ?_⟩
      obtain ⟨kA, hAA, raA, dA, dkA⟩ := st H9 [] k9 _ (putF "_meanings" (.ref A.aM) (putF "main" (.str main) (putF "lines" (.ref aT) (putF "_openers" (.ref D) (putF "_rows" (.ref aR) []))))) hp9 (fp _ _) hA9 ra9
      have hpA := upd_same (H := H9) (a := p) (o := .ins CP dx (putF "_meanings" (.ref A.aM) (putF "main" (.str main) (putF "lines" (.ref aT) (putF "_openers" (.ref D) (putF "_rows" (.ref aR) []))))))
      have hDA := dkA _ _ hD9
      have eRA := dA _ _ rfl eR9
      have tA := dA _ _ rfl t9
      generalize upd H9 p (.ins CP dx (putF "_meanings" (.ref A.aM) (putF "main" (.str main) (putF "lines" (.ref aT) (putF "_openers" (.ref D) (putF "_rows" (.ref aR) [])))))) = HA at kA hAA raA hpA hDA eRA tA ⊢
      refine ⟨_, rfl, A.r, CR, A.dx, _, _, rfl, hAA.r, R.cl, nr (by decide +kernel), found_get A, _, rfl, p, CP, dx, _, rfl, hpA, G.cl, na (by decide +kernel), (by show 5 < 1000; decide), ?_⟩
      obtain ⟨kB, hAB, raB, dB, dkB⟩ := st HA [] kA _ (progF aR D aT A.aM A.aF main) hpA (fp _ _) hAA raA
      exact q1 S eS (by omega) (by omega) _ kB ⟨dx, aR, D, aT, rv, A, main, im, upd_same, dB _ _ rfl eRA, raB, dkB _ _ hDA, hmain, dB _ _ rfl tA, hAB⟩
end
end TX
namespace TX
open PySem PySem.Spec PyProof.Rows L2 KTD
/-! ### the code of a test is small, its steps are whole -/
theorem replT_len {ps zs : List Str} (hz : zs.length ≤ 1) : ∀ (k : Nat) (b : Bool) (ts : List Str), (replT ps zs k b ts).length ≤ ts.length
  | _, _, [] => by simp [replT]
  | k + 1, b, u :: ts => by
    rw [replT]
    exact Nat.le_trans (replT_len hz k b ts) (Nat.le_succ _)
  | 0, true, u :: ts => by
    rw [replT]
    exact Nat.succ_le_succ (replT_len hz 0 false ts)
  | 0, false, u :: ts => by
    rw [replT]
    split
    · have := replT_len (ps := ps) hz (ps.length - 1) true ts
      rw [List.length_append, List.length_cons]
      omega
    · exact Nat.succ_le_succ (replT_len hz 0 false ts)
theorem shapeT_len (ts : List Str) (v : Str) : (shapeT ts v).length ≤ ts.length := by
  unfold shapeT
  exact Nat.le_trans (replT_len (Nat.le_refl _) ..) (Nat.le_trans (replT_len (Nat.le_refl _) ..) (Nat.le_trans (replT_len (Nat.le_refl _) ..) (replT_len (Nat.le_refl _) ..)))
def TTOk (t : ATb) : Prop := ∀ p ∈ t, StepOk p.2
def CellsOk (c : List Cell) : Prop := ∀ p, some p ∈ c → StepOk p
theorem atom_ok {t : ATb} (ht : TTOk t) {ws : List Str} {p : TStep} (h : atomOf t ws = some p) : StepOk p := by
  have at_ : ∀ {z : Str}, atomAt t z = some p → StepOk p := fun h => by
    obtain ⟨q, hq, e⟩ := atom_in h
    rw [← e]
    exact ht q hq
  unfold atomOf at h
  split at h
  · split at h
    · split at h
      · cases h
        exact ⟨fun e => absurd (show ("len" : Str) = "key in" from e) (by decide +kernel), fun _ => ⟨_, _, _, rfl⟩⟩
      · exact at_ h
    · exact at_ h
  · exact at_ h
theorem step_word {w : Str} {m : More} (h : w = "not" ∨ w = "and" ∨ w = "or") : StepOk (w, m) := by
  refine ⟨fun e => ?_, fun e => ?_⟩
  · have e : w = "key in" := e
    subst e
    exact absurd h (by decide +kernel)
  · have e : w = "len" := e
    subst e
    exact absurd h (by decide +kernel)
theorem cells_end {p : Wt} {c : List Cell} (h : CellsOk c) (w : WdOk p c.length) : CellsOk (endCell p c) := by
  unfold endCell
  split
  · intro q hq
    rcases List.mem_append.mp hq with e | e
    · exact h q e
    · cases List.mem_singleton.mp e
      exact step_word (.inl rfl)
  · rename_i hn
    split
    · intro q hq
      rcases List.mem_or_eq_of_mem_set hq with e | e
      · exact h q e
      · cases e
        rcases w with rfl | rfl | ⟨i, _, rfl | rfl⟩
        · rename_i e
          cases e
        · exact absurd rfl hn
        · exact step_word (.inr (.inl rfl))
        · exact step_word (.inr (.inr rfl))
    · exact h
theorem cells_settle (r : Nat) : ∀ {z : List Wt} {c : List Cell}, CellsOk c → WOk z c.length → CellsOk (settleZ r z c).2
  | [], c, h, _ => h
  | p :: z, c, h, w => by
    unfold settleZ
    split
    · exact cells_settle r (cells_end h (w p List.mem_cons_self)) fun q hq => (w q (List.mem_cons_of_mem _ hq)).mono (endCell_len p c).1
    · exact h
theorem cells_op {w : Str} {z : List Wt} {c : List Cell} (h : CellsOk c) (k : WOk z c.length) : CellsOk (opZ w z c).2.2 := by
  have h1 := cells_settle (if w = "and" then 2 else 1) h k
  unfold opZ
  dsimp only
  generalize settleZ (if w = "and" then 2 else 1) z c = s at h1
  split
  · exact h1
  · split
    · split
      · exact h1
      · exact h1
    · intro q hq
      rcases List.mem_append.mp hq with e | e
      · exact h1 q e
      · cases List.mem_singleton.mp e
theorem cells_step {t : ATb} (ht : TTOk t) {S S2 : CS} {n m : Nat} {w : Str} (h : CellsOk S.c) (k : COk S n m) (e : cstep t S w = some S2) : CellsOk S2.c := by
  unfold cstep at e
  split at e
  · split at e
    · cases e
    · cases e
      exact h
  · split at e
    · split at e
      · cases e
      · rename_i c1 hc
        have l1 : CellsOk c1 ∧ S.c.length ≤ c1.length := by
          split at hc
          · cases hc
            exact ⟨h, Nat.le_refl _⟩
          · obtain ⟨p, hp, e2⟩ := Option.map_eq_some_iff.mp hc
            subst e2
            refine ⟨fun q hq => ?_, by simp⟩
            rcases List.mem_append.mp hq with y | y
            · exact h q y
            · cases List.mem_singleton.mp y
              exact atom_ok ht hp
        split at e
        · cases e
          exact cells_op l1.1 (k.w.mono l1.2)
        · cases e
    · split at e
      · cases e
      · cases e
        exact h
theorem comp_ok {t : ATb} (ht : TTOk t) : ∀ {ws : List Str} {S S2 : CS} {n m : Nat}, CellsOk S.c → COk S n m → compZ t S ws = some S2 → CellsOk S2.c ∧ S2.c.length ≤ 3 * (n + ws.length)
  | [], S, S2, n, m, h, k, e => by
    cases e
    have := k.l
    exact ⟨h, by rw [List.length_nil]; omega⟩
  | w :: ws, S, S2, n, m, h, k, e => by
    have e : (match cstep t S w with | none => none | some S2 => compZ t S2 ws) = some S2 := e
    cases es : cstep t S w with
    | none =>
      rw [es] at e
      cases e
    | some S1 =>
      rw [es] at e
      obtain ⟨h1, h2⟩ := comp_ok ht (cells_step ht h k es) (cstep_ok k es) e
      exact ⟨h1, by rw [List.length_cons]; omega⟩
theorem testZ_ok {t : ATb} (ht : TTOk t) {ws : List Str} {c : Code} (h : testZ t ws = some c) : (∀ p ∈ c, StepOk p) ∧ c.length ≤ 3 * ws.length + 1 := by
  unfold testZ at h
  split at h
  · cases h
  · split at h
    · rename_i p hp
      cases h
      exact ⟨fun q hq => by
        rw [List.mem_singleton.mp hq]
        exact atom_ok ht hp, by rw [List.length_singleton]; omega⟩
    · obtain ⟨S, hS, e⟩ := Option.map_eq_some_iff.mp h
      subst e
      obtain ⟨h1, h2⟩ := comp_ok ht (fun _ h => by cases h) COk.init hS
      refine ⟨fun p hp => ?_, ?_⟩
      · obtain ⟨q, hq, e⟩ := List.mem_filterMap.mp hp
        cases e
        exact h1 p hq
      · have := List.length_filterMap_le (id : Cell → Option TStep) S.c
        omega
theorem ifOk_of {T : Tok3} (ht : TTOk T.tt) {ts : List Str} (h : RowTok ts) (l : ts.length ≤ 150) : IfOk T.tbs ts := by
  intro _ va hv c hc
  have hr : ∀ t ∈ ts.drop 1, TokOk t := fun t y => (h.2 t (List.mem_of_mem_drop y)).2.2
  have hc : rtZ T.tt (ts.drop 1) va = some c := hc
  rw [test_is hr hv] at hc
  unfold testT at hc
  split at hc
  · cases hc
  · obtain ⟨h1, h2⟩ := testZ_ok ht hc
    have := shapeT_len (ts.drop 1) va
    rw [List.length_drop] at this
    exact ⟨h1, by omega⟩
end TX
namespace TX
open PySem PySem.Spec PyProof.Rows L2 KTD
/-! ### the tables of the program -/
def eF : List (Str × Str) := [("V", "plain"), ("W", "wrap"), ("M", "many"), ("S", "some")]
def rowT (l : List Str) (a b : Str) : List Str × (Str × Str) := (l, (a, b))
def loopsT : TTab := (eF.map fun e => rowT ["in", e.1, ":"] e.2 "each") ++ (eF.map fun e => rowT ["in", e.1, "[", ":", "1", "]", ":"] e.2 "head") ++ (eF.map fun e => rowT ["in", e.1, "[", "1", ":", "]", ":"] e.2 "tail")
def argsT : TTab := ((eF.take 3).map fun e => rowT ["(", e.1, ")"] e.2 "it") ++ (eF.map fun e => rowT ["(", e.1, "[", "0", "]", ")"] e.2 "first") ++ (eF.map fun e => rowT ["(", e.1, "[", "-", "1", "]", ")"] e.2 "last") ++ (eF.map fun e => rowT ["(", "*", e.1, ")"] e.2 "only")
def giftsT : TTab := (eF.map fun e => rowT ["+=", e.1] e.2 "each") ++ (eF.map fun e => rowT [".", "join", "(", e.1, ")"] e.2 "join")
def atomT : ATb := [("text V", ⟨"kind", .word "text"⟩), ("list V", ⟨"kind", .word "list"⟩), ("nothing V", ⟨"kind", .word "nothing"⟩), ("V", ⟨"full", .non⟩), ("key = V", ⟨"key is", .non⟩), ("key in V", ⟨"key in", .word "plain"⟩), ("key in W", ⟨"key in", .word "wrap"⟩), ("key in M", ⟨"key in", .word "many"⟩), ("key in S", ⟨"key in", .word "some"⟩)]
def T3 : Tok3 := ⟨loopsT, argsT, giftsT, atomT⟩
theorem T3_ok : T3.ok := ⟨by decide +kernel, by decide +kernel, by decide +kernel⟩
theorem atomT_ok : AOk atomT := by
  intro p hp
  simp only [atomT, List.mem_cons, List.not_mem_nil, or_false] at hp
  rcases hp with rfl | rfl | rfl | rfl | rfl | rfl | rfl | rfl | rfl
  all_goals first | exact .inl rfl | exact .inr ⟨_, rfl⟩
theorem T3_tt : TTOk T3.tt := by
  have no : ∀ {w : Str} {m : More}, w ≠ "key in" → w ≠ "len" → StepOk (w, m) := fun h1 h2 => ⟨fun e => absurd e h1, fun e => absurd e h2⟩
  have ki : ∀ {s : Str}, StepOk (("key in" : Str), More.word s) := fun {s} => ⟨fun _ => ⟨s, rfl⟩, fun e => absurd (show ("key in" : Str) = "len" from e) (by decide +kernel)⟩
  intro p hp
  have hp : p ∈ atomT := hp
  simp only [atomT, List.mem_cons, List.not_mem_nil, or_false] at hp
  rcases hp with rfl | rfl | rfl | rfl | rfl | rfl | rfl | rfl | rfl
  · exact no (by decide +kernel) (by decide +kernel)
  · exact no (by decide +kernel) (by decide +kernel)
  · exact no (by decide +kernel) (by decide +kernel)
  · exact no (by decide +kernel) (by decide +kernel)
  · exact no (by decide +kernel) (by decide +kernel)
  · exact ki
  · exact ki
  · exact ki
  · exact ki
/-- the line that is told, and whether there is not too much -/
def verdict (e : Except Nat RS) : Option Nat × Bool := match e with
  | .error n => (some n, true)
  | .ok S => (none, decide ((opsOf S).length ≤ 4) && decide (S.found.length ≤ 12))
def rw1 (n : Nat) (l : List Str) : Nat × List Str := (n, l)
def bs0 (g : List Str) : List (Nat × List Str) := [rw1 0 ["def", "f", "(", "v", ")", ":"], rw1 2 ["if", "text", "v", ":"], rw1 4 ["return"], rw1 2 ["else", ":"], rw1 4 ["for", "x", "in", "v", ":"], rw1 6 g]
example : verdict (allT T3 (bs0 ["out", "(", "x", ")"])) = (none, true) := by decide +kernel
example : verdict (allT T3 (bs0 ["if", "len", "x", "=", "1", "or", "key", "in", "[", "x", "]", "and", "not", "len", "some", "(", "x", ")", ">", "0", ":"] ++ [rw1 8 ["return"]])) = (none, true) := by decide +kernel
example : verdict (allT T3 (bs0 ["if", "len", "x", ":"] ++ [rw1 8 ["return"]])) = (some 5, true) := by decide +kernel
end TX
namespace TX
open PySem PySem.Spec PyProof.Rows L2 KTD
/-! ### what of a reading the next line asks: its blocks, the last deed, the meanings, how much there is -/
structure AB where
  dd : Option Str
  var : Option Str
  own : Option Str
  lo : Bool
deriving DecidableEq
structure AS where
  bl : List AB
  last : Option Str
  mean : Mean
  nf : Nat
  nd : Nat
deriving DecidableEq
def deedZ (zs : List LnZ) : Option Nat → Option Str
  | none => none
  | some i => zs[i]?.map (·.deed)
def absB (zs : List LnZ) (k : Bk) : AB := ⟨deedZ zs k.line, k.var, k.own, k.lo⟩
def nDef (zs : List LnZ) : Nat := zs.countP fun z => decide (z.deed = ("def" : Str))
def absF (zs : List LnZ) (bs : List Bk) (M : Mean) (nf : Nat) : AS := ⟨bs.map (absB zs), zs.getLast?.map (·.deed), M, nf, nDef zs⟩
def absS (S : RS) : AS := absF (zsOf S.lines) S.blocks S.mean S.found.length
def AS.whole (A : AS) : Bool := match A.last with
  | some d => !decide (d ∈ openW)
  | none => false
def AS.may (A : AS) (n : Nat) : Bool := decide (n = 2 * A.bl.length - 2) || (decide (n < 2 * A.bl.length - 2) && (decide (n % 2 = 0) && A.whole))
def AS.ends (A : AS) (d : Nat) : Bool := decide (d < A.bl.length - 1) && (match A.bl[d + 1]? with
  | some b => (match b.dd with
    | some x => decide (x = "if")
    | none => false)
  | none => false)
def bkA (z : LnZ) (k : AB) : AB := if z.deed = "def" then ⟨some z.deed, z.var, z.name, false⟩ else if z.deed = "for" then ⟨some z.deed, z.var, k.own, true⟩ else ⟨some z.deed, k.var, k.own, k.lo⟩
def AS.put (A : AS) (d : Nat) (z : LnZ) (k : AB) : AS :=
  ⟨(if d < A.bl.length - 1 then A.bl.take (d + 1) else A.bl) ++ (if z.deed ∈ openW then [bkA z k] else []), some z.deed, if z.deed ∈ openW then beginM z (putM z A.mean) else putM z A.mean, A.nf + (askedF z k.own).length, A.nd + (if z.deed = "def" then 1 else 0)⟩
def lineA (T : Tok3) (k : AB) (d : Nat) (ts : List Str) (M : Mean) : Option LnZ := if d = 0 then readDefZ ts M else readInnerT T ts (k.var.getD "") (k.own.getD "") k.lo M
def acceptA (T : Tok3) (A : AS) (sp : Nat) (ts : List Str) : Option AS :=
  if ts = [] ∨ A.may sp = false then none else match A.bl[sp / 2]? with
  | none => none
  | some k => match lineA T k (sp / 2) ts A.mean with
    | none => none
    | some z => if z.deed = "else" ∧ A.ends (sp / 2) = false then none else some (A.put (sp / 2) z k)
theorem last_z (ls : List LnS) : (zsOf ls).getLast? = ls.getLast?.map (·.z) := by
  unfold zsOf
  rw [List.getLast?_map]
theorem absS_may (S : RS) (n : Nat) : (absS S).may n = mayStand S n := by
  have w : (absS S).whole = isWhole S := by
    unfold AS.whole isWhole absS absF
    dsimp only
    rw [last_z, Option.map_map]
    cases S.lines.getLast? <;> rfl
  unfold AS.may mayStand
  rw [w]
  have l : (absS S).bl.length = S.blocks.length := List.length_map ..
  rw [l]
theorem absS_ends (S : RS) (d : Nat) : (absS S).ends d = endsChoice S d := by
  have l : (absS S).bl.length = S.blocks.length := List.length_map ..
  unfold AS.ends endsChoice
  rw [l]
  congr 1
  have e : (absS S).bl[d + 1]? = S.blocks[d + 1]?.map (absB (zsOf S.lines)) := List.getElem?_map ..
  rw [e]
  cases S.blocks[d + 1]? with
  | none => rfl
  | some b =>
    obtain ⟨ln, va, ow, lo⟩ := b
    cases ln with
    | none => rfl
    | some i =>
      have ei : (zsOf S.lines)[i]? = S.lines[i]?.map (·.z) := List.getElem?_map ..
      show (match (deedZ (zsOf S.lines) (some i)) with | some x => decide (x = ("if" : Str)) | none => false) = (match S.lines[i]? with | some l => decide (l.z.deed = ("if" : Str)) | none => false)
      unfold deedZ
      dsimp only
      rw [ei]
      cases S.lines[i]? <;> rfl
theorem deed_app {zs : List LnZ} {z : LnZ} {o : Option Nat} (h : ∀ i, o = some i → i < zs.length) : deedZ (zs ++ [z]) o = deedZ zs o := by
  cases o with
  | none => rfl
  | some i =>
    have := h i rfl
    unfold deedZ
    dsimp only
    rw [List.getElem?_append_left this]
theorem put_abs {S : RS} {n d : Nat} {z : LnZ} {k : Bk} (g : Good S n) (hd : d + 1 ≤ S.blocks.length) : absS (putS (shutS S d z) z k) = (absS S).put d z (absB (zsOf S.lines) k) := by
  obtain ⟨s1, s2, s3, s4, s5⟩ := g.shut (z := z) (d := d) hd
  have ez := shutS_z S d z
  have lz : (zsOf S.lines).length = S.lines.length := List.length_map ..
  have bi : ∀ k ∈ S.blocks, ∀ i, k.line = some i → i < (zsOf S.lines).length := fun k hk i e => by
    rw [lz]
    exact g.bkin k hk i e
  have e1 : absS (putS (shutS S d z) z k) = absF (zsOf S.lines ++ [z]) ((S.blocks.take (d + 1)) ++ (if z.deed ∈ openW then [bkOf S.lines.length z k] else [])) (if z.deed ∈ openW then beginM z (putM z S.mean) else putM z S.mean) (S.found.length + (askedF z k.own).length) := by
    unfold absS
    rw [putS_z, ez]
    unfold putS
    split
    · show absF _ ((shutS S d z).blocks ++ [bkOf (shutS S d z).lines.length z k]) (beginM z (putM z (shutS S d z).mean)) ((shutS S d z).found ++ _).length = _
      rw [s2, s3, s4, s5, List.length_append, List.length_map]
    · show absF _ (shutS S d z).blocks (putM z (shutS S d z).mean) ((shutS S d z).found ++ _).length = _
      rw [s3, s4, s5, List.length_append, List.length_map, List.append_nil]
  rw [e1]
  have ta : (if d < S.blocks.length - 1 then ((absS S).bl).take (d + 1) else (absS S).bl) = (S.blocks.take (d + 1)).map (absB (zsOf S.lines)) := by
    split
    · rw [List.map_take]
      rfl
    · rw [List.take_of_length_le (by omega)]
      rfl
  have l : (absS S).bl.length = S.blocks.length := List.length_map ..
  unfold AS.put absF
  rw [l, ta]
  have old : (S.blocks.take (d + 1)).map (absB (zsOf S.lines ++ [z])) = (S.blocks.take (d + 1)).map (absB (zsOf S.lines)) := by
    refine List.map_congr_left fun b hb => ?_
    unfold absB
    rw [deed_app (bi b (List.mem_of_mem_take hb))]
  have new : absB (zsOf S.lines ++ [z]) (bkOf S.lines.length z k) = bkA z (absB (zsOf S.lines) k) := by
    have dz : deedZ (zsOf S.lines ++ [z]) (some S.lines.length) = some z.deed := by
      unfold deedZ
      dsimp only
      rw [← lz, List.getElem?_append_right (Nat.le_refl _), Nat.sub_self]
      rfl
    unfold absB bkOf bkA
    split
    · dsimp only
      rw [dz]
    · split
      · dsimp only
        rw [dz]
      · dsimp only
        rw [dz]
  have nd : nDef (zsOf S.lines ++ [z]) = nDef (zsOf S.lines) + (if z.deed = "def" then 1 else 0) := by
    unfold nDef
    rw [List.countP_append, List.countP_cons, List.countP_nil, Nat.zero_add]
    congr 1
    by_cases h : z.deed = "def" <;> simp [h]
  rw [List.map_append, old, nd]
  have la : (zsOf S.lines ++ [z]).getLast? = some z := by simp
  rw [la]
  congr 1
  congr 1
  split
  · show [absB _ _] = _
    rw [new]
  · rfl
theorem acc_abs {T : Tok3} {S : RS} {n sp : Nat} {ts : List Str} (g : Good S n) : (acceptT T S sp ts).map absS = acceptA T (absS S) sp ts := by
  unfold acceptT acceptA
  rw [absS_may]
  by_cases c : ts = [] ∨ mayStand S sp = false
  · rw [if_pos c, if_pos c]
    rfl
  · rw [if_neg c, if_neg c]
    have e : (absS S).bl[sp / 2]? = S.blocks[sp / 2]?.map (absB (zsOf S.lines)) := List.getElem?_map ..
    rw [e]
    cases hk : S.blocks[sp / 2]? with
    | none => rfl
    | some k =>
      have hd := (List.getElem?_eq_some_iff.mp hk).1
      have el : lineA T (absB (zsOf S.lines) k) (sp / 2) ts (absS S).mean = lineOfT T k (sp / 2) ts S.mean := rfl
      show (match lineOfT T k (sp / 2) ts S.mean with | none => _ | some z => _ : Option RS).map absS = (match lineA T (absB (zsOf S.lines) k) (sp / 2) ts (absS S).mean with | none => _ | some z => _)
      rw [el]
      cases lineOfT T k (sp / 2) ts S.mean with
      | none => rfl
      | some z =>
        dsimp only
        rw [absS_ends]
        by_cases c2 : z.deed = "else" ∧ endsChoice S (sp / 2) = false
        · rw [if_pos c2, if_pos c2]
          rfl
        · rw [if_neg c2, if_neg c2]
          show some (absS _) = _
          rw [put_abs g hd]
end TX
namespace TX
open PySem PySem.Builtin PySem.Builtin.Str PySem.StrLaws
/-! ### lines told by pieces: written signs and words -/
def knownC (c : Nat) : Bool := wordC c || (decide (c ∈ sgs) || c == 32)
theorem pcs_all : ∀ (n : Nat) (l : List Nat), l.length ≤ n → (∀ c ∈ l, knownC c = true) → Pcs l (toks l)
  | _, [], _, _ => by
    rw [toks_nil]
    exact .nil
  | 0, c :: r, h, _ => by simp at h
  | n + 1, c :: r, h, g => by
    have len : r.length ≤ n := by simpa using h
    have gr : ∀ d ∈ r, knownC d = true := fun d hd => g d (List.mem_cons_of_mem _ hd)
    by_cases h32 : c = 32
    · subst h32
      rw [toks_sp]
      exact .sp (pcs_all n r len gr)
    · by_cases hs : c ∈ sgs
      · by_cases hd : c ∈ dblS ∧ r.head? = some 61
        · obtain ⟨q, rfl, _⟩ := pairs_true (S := dblS) hd.2
          rw [toks_dbl hd.1]
          exact .dbl hd.1 (pcs_all n q (by simp at len; omega) fun d h => gr d (List.mem_cons_of_mem _ h))
        · rw [toks_sign hs hd]
          exact .sign hs hd (pcs_all n r len gr)
      · have hw : wordC c = true := by
          have := g c List.mem_cons_self
          unfold knownC at this
          rw [Bool.or_eq_true, Bool.or_eq_true] at this
          rcases this with e | e | e
          · exact e
          · exact absurd (of_decide_eq_true e) hs
          · exact absurd (beq_iff_eq.mp e) h32
        have e : c :: r = (c :: r).takeWhile wordC ++ (c :: r).dropWhile wordC := (List.takeWhile_append_dropWhile ..).symm
        have t1 : (c :: r).takeWhile wordC = c :: r.takeWhile wordC := by rw [List.takeWhile_cons, if_pos hw]
        have d1 : (c :: r).dropWhile wordC = r.dropWhile wordC := by rw [List.dropWhile_cons, if_pos hw]
        have wa : ∀ d ∈ (c :: r).takeWhile wordC, wordC d = true := fun d hd => by
          have := List.all_takeWhile (p := wordC) (l := c :: r)
          exact List.all_eq_true.mp this d hd
        have wn : (c :: r).takeWhile wordC ≠ [] := by
          rw [t1]
          exact List.cons_ne_nil _ _
        have sub : ∀ d ∈ r.dropWhile wordC, d ∈ r := fun d hd => (List.dropWhile_suffix wordC).subset hd
        have ct : Cut ((c :: r).dropWhile wordC) := by
          rw [d1]
          cases hq : r.dropWhile wordC with
          | nil => exact .inl rfl
          | cons d q =>
            refine .inr ⟨d, q, rfl, ?_⟩
            have hn : ¬ wordC d = true := by
              have := List.head?_dropWhile_not wordC r
              rw [hq] at this
              simpa using this
            have hk := gr d (sub d (by rw [hq]; exact List.mem_cons_self))
            unfold knownC at hk
            rw [Bool.or_eq_true, Bool.or_eq_true] at hk
            rcases hk with e | e | e
            · exact absurd e hn
            · exact .inr (of_decide_eq_true e)
            · exact .inl (beq_iff_eq.mp e)
        rw [e, toks_word wn wa ct]
        refine .word wn wa ct ?_
        rw [d1]
        refine pcs_all n _ ?_ fun d hd => gr d (sub d hd)
        have := (List.dropWhile_suffix wordC (l := r)).length_le
        omega
def lastOk (l : List Nat) : Bool := match l.getLast? with
  | none => true
  | some c => !wordC c
theorem pcs_append {l r : List Nat} {ts us : List (List Nat)} (h : Pcs l ts) (g : Pcs r us) (hl : lastOk l = true) (hr : r.head? ≠ some 61) : Pcs (l ++ r) (ts ++ us) := by
  induction h with
  | nil => exact g
  | @sp q ts _ ih =>
    refine .sp (ih ?_)
    cases q with
    | nil => rfl
    | cons a q =>
      unfold lastOk at hl ⊢
      rw [List.getLast?_cons_cons] at hl
      exact hl
  | @word w q ts hw ha hc hp ih =>
    have qn : q ≠ [] := fun z => by
      subst z
      rw [List.append_nil] at hl
      unfold lastOk at hl
      cases e : w.getLast? with
      | none => exact hw (List.getLast?_eq_none_iff.mp e)
      | some c =>
        rw [e] at hl
        have := ha c (List.mem_of_getLast? e)
        dsimp only at hl
        rw [this] at hl
        cases hl
    rw [List.append_assoc]
    refine .word hw ha ?_ (ih ?_)
    · rcases hc with rfl | ⟨c, q', rfl, k⟩
      · exact absurd rfl qn
      · exact .inr ⟨c, q' ++ r, rfl, k⟩
    · unfold lastOk at hl ⊢
      rw [List.getLast?_append] at hl
      cases e : q.getLast? with
      | none => exact absurd (List.getLast?_eq_none_iff.mp e) qn
      | some c =>
        rw [e] at hl
        exact hl
  | @sign c q ts h1 h2 hp ih =>
    refine .sign h1 (fun z => ?_) (ih ?_)
    · cases q with
      | nil => exact hr z.2
      | cons a q => exact h2 z
    · cases q with
      | nil => rfl
      | cons a q =>
        unfold lastOk at hl ⊢
        rw [List.getLast?_cons_cons] at hl
        exact hl
  | @dbl c q ts h1 hp ih =>
    refine .dbl h1 (ih ?_)
    cases q with
    | nil => rfl
    | cons a q =>
      unfold lastOk at hl ⊢
      rw [List.getLast?_cons_cons, List.getLast?_cons_cons] at hl
      exact hl
/-- written signs, or a word -/
inductive Pc
  | c (s : Str)
  | w (s : Str)
def Pc.text : Pc → Str
  | .c s => s
  | .w s => s
def Pc.toks : Pc → List (List Nat)
  | .c s => TX.toks s.cps.toList
  | .w s => [s.cps.toList]
def joinP : List Pc → Str
  | [] => ""
  | p :: ps => ps.foldl (fun a p => a ++ p.text) p.text
def headOk (l : List Nat) : Bool := match l.head? with
  | none => false
  | some c => decide (c ∈ sgs) || c == 32
/-- what may stand side by side; nothing is asked of the words -/
def okP : List Pc → Bool
  | [] => true
  | [.w _] => true
  | .w _ :: .c s :: ps => headOk s.cps.toList && okP (.c s :: ps)
  | .w _ :: .w _ :: _ => false
  | [.c s] => s.cps.toList.all knownC && !s.cps.toList.isEmpty
  | .c s :: .w v :: ps => s.cps.toList.all knownC && (!s.cps.toList.isEmpty && (lastOk s.cps.toList && okP (.w v :: ps)))
  | .c _ :: .c _ :: _ => false
/-- a word of small letters -/
def IsW (s : Str) : Prop := s.cps.toList ≠ [] ∧ ∀ c ∈ s.cps.toList, 97 ≤ c ∧ c ≤ 122
def wordsP (ps : List Pc) : Prop := ∀ s, Pc.w s ∈ ps → IsW s
theorem letter_word {c : Nat} (h : 97 ≤ c ∧ c ≤ 122) : wordC c = true := by
  have : ∀ d : Fin 123, 97 ≤ d.1 → wordC d.1 = true := by decide +kernel
  exact this ⟨c, by omega⟩ h.1
theorem fold_text : ∀ (ps : List Pc) (a : Str), (ps.foldl (fun a p => a ++ p.text) a).cps.toList = a.cps.toList ++ ps.flatMap fun p => p.text.cps.toList
  | [], a => by simp
  | p :: ps, a => by
    rw [List.foldl_cons, fold_text ps, Str.cps_append, Array.toList_append, List.flatMap_cons, List.append_assoc]
theorem joinP_text : ∀ (ps : List Pc), (joinP ps).cps.toList = ps.flatMap fun p => p.text.cps.toList
  | [] => rfl
  | p :: ps => by
    show (ps.foldl _ p.text).cps.toList = _
    rw [fold_text, List.flatMap_cons]
theorem okP_pcs : ∀ {ps : List Pc}, okP ps = true → wordsP ps → Pcs (ps.flatMap fun p => p.text.cps.toList) (ps.flatMap Pc.toks)
  | [], _, _ => .nil
  | [.w s], _, h => by
    have hs := h s List.mem_cons_self
    have := Pcs.word (w := s.cps.toList) (r := []) hs.1 (fun c hc => letter_word (hs.2 c hc)) (.inl rfl) .nil
    simpa [Pc.text, Pc.toks] using this
  | .w s :: .c v :: ps, ok, h => by
    rw [okP, Bool.and_eq_true] at ok
    have hs := h s List.mem_cons_self
    have ih := okP_pcs ok.2 fun x hx => h x (List.mem_cons_of_mem _ hx)
    rw [List.flatMap_cons, List.flatMap_cons (f := Pc.toks)]
    refine Pcs.word hs.1 (fun c hc => letter_word (hs.2 c hc)) ?_ ih
    have hh := ok.1
    unfold headOk at hh
    rw [List.flatMap_cons]
    show Cut (v.cps.toList ++ _)
    cases e : v.cps.toList with
    | nil =>
      rw [e] at hh
      cases hh
    | cons c q =>
      rw [e] at hh
      simp only [List.head?_cons, Bool.or_eq_true] at hh
      refine .inr ⟨c, _, rfl, ?_⟩
      rcases hh with y | y
      · exact .inr (of_decide_eq_true y)
      · exact .inl (beq_iff_eq.mp y)
  | .w _ :: .w _ :: _, ok, _ => by
    rw [okP] at ok
    cases ok
  | [.c s], ok, _ => by
    rw [okP, Bool.and_eq_true] at ok
    have := pcs_all _ s.cps.toList (Nat.le_refl _) (List.all_eq_true.mp ok.1)
    simpa [Pc.text, Pc.toks] using this
  | .c s :: .w v :: ps, ok, h => by
    rw [okP, Bool.and_eq_true, Bool.and_eq_true, Bool.and_eq_true] at ok
    obtain ⟨k1, k2, k3, k4⟩ := ok
    have ih := okP_pcs k4 fun x hx => h x (List.mem_cons_of_mem _ hx)
    rw [List.flatMap_cons, List.flatMap_cons (f := Pc.toks)]
    refine pcs_append (pcs_all _ s.cps.toList (Nat.le_refl _) (List.all_eq_true.mp k1)) ih k3 fun z => ?_
    have hv := h v (List.mem_cons_of_mem _ List.mem_cons_self)
    rw [List.flatMap_cons] at z
    cases e : v.cps.toList with
    | nil => exact hv.1 e
    | cons c q =>
      have z : (v.cps.toList ++ _).head? = some 61 := z
      rw [e] at z
      have : c = 61 := by simpa using z
      have := (hv.2 c (by rw [e]; exact List.mem_cons_self)).1
      omega
  | .c _ :: .c _ :: _, ok, _ => by
    rw [okP] at ok
    cases ok
/-- blanks ahead -/
def leadP (ps : List Pc) : Nat := match ps with
  | .c s :: _ => (s.cps.toList.takeWhile fun c => c == 32).length
  | _ => 0
def leadOkP (ps : List Pc) : Bool := match ps with
  | .c s :: ps => (match s.cps.toList.dropWhile fun c => c == 32 with
    | [] => !ps.isEmpty
    | c :: _ => wordC c)
  | _ => true
theorem lead_sps : ∀ (l r : List Nat), (∀ c ∈ l, c = 32) → lead (l ++ r) = l.length + lead r
  | [], r, _ => by simp
  | c :: l, r, h => by
    have e := h c List.mem_cons_self
    subst e
    rw [List.cons_append, lead_sp, lead_sps l r fun d hd => h d (List.mem_cons_of_mem _ hd), List.length_cons]
    omega
theorem take32 (l : List Nat) : ∀ c ∈ l.takeWhile (fun c => c == 32), c = 32 := fun c hc => by
  have := List.all_takeWhile (p := fun c => c == 32) (l := l)
  have := List.all_eq_true.mp this c hc
  exact beq_iff_eq.mp this
theorem lead_is {ps : List Pc} (ok : okP ps = true) (lo : leadOkP ps = true) (h : wordsP ps) : lead (ps.flatMap fun p => p.text.cps.toList) = leadP ps := by
  have wl : ∀ {s : Str} {r : List Nat}, IsW s → lead (s.cps.toList ++ r) = 0 := fun {s r} hs => by
    cases e : s.cps.toList with
    | nil => exact absurd e hs.1
    | cons c q => exact lead_word (letter_word (hs.2 c (by rw [e]; exact List.mem_cons_self)))
  cases ps with
  | nil => exact lead_nil
  | cons p ps =>
    cases p with
    | w s =>
      rw [List.flatMap_cons]
      exact wl (h s List.mem_cons_self)
    | c s =>
      rw [List.flatMap_cons]
      show lead (s.cps.toList ++ _) = (s.cps.toList.takeWhile fun c => c == 32).length
      have e : s.cps.toList = s.cps.toList.takeWhile (fun c => c == 32) ++ s.cps.toList.dropWhile (fun c => c == 32) := (List.takeWhile_append_dropWhile ..).symm
      have lo : (match s.cps.toList.dropWhile fun c => c == 32 with
        | [] => !ps.isEmpty
        | c :: _ => wordC c) = true := lo
      generalize hd : s.cps.toList.dropWhile (fun c => c == 32) = d at lo e
      generalize ht : s.cps.toList.takeWhile (fun c => c == 32) = t at e
      have t32 : ∀ c ∈ t, c = 32 := by
        rw [← ht]
        exact take32 _
      rw [e, List.append_assoc, lead_sps t _ t32]
      cases d with
      | cons c q =>
        rw [List.cons_append, lead_word lo]
        rfl
      | nil =>
        cases ps with
        | nil => cases lo
        | cons p2 ps =>
          cases p2 with
          | c v =>
            rw [okP] at ok
            cases ok
          | w v =>
            rw [List.nil_append, List.flatMap_cons]
            have := wl (s := v) (r := ps.flatMap fun p => p.text.cps.toList) (h v (List.mem_cons_of_mem _ List.mem_cons_self))
            show t.length + lead (v.cps.toList ++ _) = _
            rw [this]
            rfl
end TX
namespace TX
open PySem PySem.Spec PyProof.Rows L2 KTD
/-! ### texts of given lines -/
structure TokG (t : Str) : Prop where
  ok : PyData.strOk t = true
  v : t ≠ "V"
  tk : TokOk t
  len : t.length ≤ 20
instance (t : Str) : Decidable (TokOk t) := inferInstanceAs (Decidable (t ≠ "" ∧ ∀ c ∈ cs t, Unicode.isSpace c = false))
def tokGB (t : Str) : Bool := PyData.strOk t && (decide (t ≠ "V") && (decide (TokOk t) && decide (t.length ≤ 20)))
theorem tokGB_is {t : Str} (h : tokGB t = true) : TokG t := by
  unfold tokGB at h
  rw [Bool.and_eq_true, Bool.and_eq_true, Bool.and_eq_true] at h
  exact ⟨h.1, of_decide_eq_true h.2.1, of_decide_eq_true h.2.2.1, of_decide_eq_true h.2.2.2⟩
theorem few_of : ∀ (ts : List Str), (∀ t ∈ ts, t.length ≤ 20) → (ts.map (·.length)).sum ≤ 20 * ts.length
  | [], _ => by simp
  | t :: ts, h => by
    have := few_of ts fun u hu => h u (List.mem_cons_of_mem _ hu)
    have := h t List.mem_cons_self
    simp only [List.map_cons, List.sum_cons, List.length_cons]
    omega
def ChG (c : Nat) : Prop := 32 ≤ c ∧ c < 127 ∧ ¬ (65 ≤ c ∧ c ≤ 90)
theorem chG_facts {c : Nat} (h : ChG c) : c < 128 ∧ Unicode.isPrintable c = true ∧ Unicode.isUpper c = false ∧ Unicode.isTitle c = false := by
  have key : ∀ d : Fin 127, 32 ≤ d.1 → ¬ (65 ≤ d.1 ∧ d.1 ≤ 90) → (Unicode.isPrintable d.1 && (!Unicode.isUpper d.1 && !Unicode.isTitle d.1)) = true := by decide +kernel
  have := key ⟨c, h.2.1⟩ h.1 h.2.2
  simp only [Bool.and_eq_true, Bool.not_eq_true'] at this
  exact ⟨by have := h.2.1; omega, this.1, this.2.1, this.2.2⟩
theorem low_is {c : Nat} (h : 97 ≤ c ∧ c ≤ 122) : Unicode.isLower c = true := by
  have key : ∀ d : Fin 123, 97 ≤ d.1 → Unicode.isLower d.1 = true := by decide +kernel
  exact key ⟨c, by omega⟩ h.1
theorem joinL_mem {z : List Nat} : ∀ {ps : List (List Nat)} {c : Nat}, c ∈ joinL z ps → c ∈ z ∨ ∃ p ∈ ps, c ∈ p
  | [], c, h => nomatch h
  | [a], c, h => .inr ⟨a, List.mem_cons_self, h⟩
  | a :: b :: r, c, h => by
    have h : c ∈ a ++ z ++ joinL z (b :: r) := h
    rcases List.mem_append.mp h with h | h
    · rcases List.mem_append.mp h with h | h
      · exact .inr ⟨a, List.mem_cons_self, h⟩
      · exact .inl h
    · rcases joinL_mem h with h | ⟨p, hp, hc⟩
      · exact .inl h
      · exact .inr ⟨p, List.mem_cons_of_mem _ hp, hc⟩
theorem mem_joinL {z : List Nat} : ∀ {ps : List (List Nat)} {p : List Nat} {c : Nat}, p ∈ ps → c ∈ p → c ∈ joinL z ps
  | [a], p, c, h, hc => by
    rw [List.mem_singleton.mp h] at hc
    exact hc
  | a :: b :: r, p, c, h, hc => by
    show c ∈ a ++ z ++ joinL z (b :: r)
    rcases List.mem_cons.mp h with e | e
    · rw [e] at hc
      exact List.mem_append_left _ (List.mem_append_left _ hc)
    · exact List.mem_append_right _ (mem_joinL e hc)
theorem joinL_len : ∀ {ps : List (List Nat)} {k : Nat}, (∀ p ∈ ps, p.length ≤ k) → (joinL [10] ps).length ≤ (k + 1) * ps.length
  | [], _, _ => Nat.zero_le _
  | [a], k, h => by
    have := h a List.mem_cons_self
    show a.length ≤ _
    simp
    omega
  | a :: b :: r, k, h => by
    have ih := joinL_len (ps := b :: r) (k := k) fun p hp => h p (List.mem_cons_of_mem _ hp)
    have := h a List.mem_cons_self
    show (a ++ [10] ++ joinL [10] (b :: r)).length ≤ _
    rw [List.length_append, List.length_append]
    rw [List.length_cons (a := a), Nat.mul_succ]
    simp only [List.length_cons, List.length_nil] at ih ⊢
    omega
structure TextOk (x : Str) (ls : List (List Nat)) (rows : List (Nat × List Str)) : Prop where
  len : x.length ≤ 19000
  cut : (cleanZ x).cps.toList = joinL [10] ls
  ne : ls ≠ []
  no : ∀ l ∈ ls, 10 ∉ l
  rw : ls.map rowOf = rows
  ok : RowsOk T3.tbs rows
def chGB (c : Nat) : Bool := decide (32 ≤ c) && (decide (c < 127) && !(decide (65 ≤ c) && decide (c ≤ 90)))
def gl (s : Str) : Bool := (cs s).all chGB && (decide (s.length ≤ 480) && ((rowOf (cs s)).2.all tokGB && decide ((rowOf (cs s)).2.length ≤ 30)))
def lowS (s : Str) : Bool := (cs s).any fun c => decide (97 ≤ c) && decide (c ≤ 122)
def rowL (s : Str) : Nat × List Str := rowOf (cs s)
theorem chGB_is {c : Nat} (h : chGB c = true) : ChG c := by
  unfold chGB at h
  simp only [Bool.and_eq_true, decide_eq_true_eq, Bool.not_eq_true', Bool.and_eq_false_iff, decide_eq_false_iff_not] at h
  exact ⟨h.1, h.2.1, fun y => by
    rcases h.2.2 with z | z
    · exact z y.1
    · exact z y.2⟩
theorem gl_row {s : Str} (h : gl s = true) : RowTok (rowL s).2 ∧ (rowL s).2.length ≤ 30 := by
  unfold gl at h
  simp only [Bool.and_eq_true, decide_eq_true_eq] at h
  obtain ⟨_, _, h3, h4⟩ := h
  have tg : ∀ t ∈ (rowL s).2, TokG t := fun t ht => tokGB_is (List.all_eq_true.mp h3 t ht)
  have f := few_of _ fun t ht => (tg t ht).len
  refine ⟨⟨?_, fun t ht => ⟨(tg t ht).ok, (tg t ht).v, (tg t ht).tk⟩⟩, h4⟩
  have h4 : (rowL s).2.length ≤ 30 := h4
  unfold Few
  omega
theorem rows_ok {lines : List Str} (h : lines.all gl = true) : RowsOk T3.tbs (lines.map rowL) := fun r hr => by
  obtain ⟨s, hs, rfl⟩ := List.mem_map.mp hr
  obtain ⟨a, b⟩ := gl_row (List.all_eq_true.mp h s hs)
  exact ⟨a, ifOk_of T3_tt a (by omega)⟩
theorem text_of {lines : List Str} (h : lines.all gl = true) (hne : lines ≠ []) (len : lines.length ≤ 35) (low : lines.any lowS = true ∨ lines = ([""] : List Str)) : TextOk (Txt.join "\n" lines) (lines.map cs) (lines.map rowL) := by
  have nl : ("\n" : Str).cps.toList = [10] := rfl
  have cut : (Txt.join "\n" lines).cps.toList = joinL [10] (lines.map cs) := by
    rw [txt_join, join_list, nl]
    rfl
  have lns : ∀ p ∈ lines.map cs, (∀ c ∈ p, ChG c) ∧ p.length ≤ 480 := fun p hp => by
    obtain ⟨l, hl, rfl⟩ := List.mem_map.mp hp
    have := List.all_eq_true.mp h l hl
    unfold gl at this
    simp only [Bool.and_eq_true, decide_eq_true_eq] at this
    refine ⟨fun c hc => chGB_is (List.all_eq_true.mp this.1 c hc), ?_⟩
    have e : (cs l).length = l.length := by simp [cs, Str.length]
    omega
  have chars : ∀ c ∈ (Txt.join "\n" lines).cps.toList, c = 10 ∨ ChG c := fun c hc => by
    rw [cut] at hc
    rcases joinL_mem hc with e | ⟨p, hp, hc⟩
    · exact .inl (List.mem_singleton.mp e)
    · exact .inr ((lns p hp).1 c hc)
  have clean : cleanZ (Txt.join "\n" lines) = Txt.join "\n" lines := by
    rcases low with low | rfl
    · refine clean_plain ?_
      unfold plainT
      rw [Bool.and_eq_true, Bool.and_eq_true]
      generalize hx : Txt.join "\n" lines = x at chars cut
      refine ⟨?_, ?_, ?_⟩
      · show x.cps.all (· < 128) = true
        rw [Array.all_eq_true_iff_forall_mem]
        intro c hc
        rcases chars c (Array.mem_toList_iff.mpr hc) with e | e
        · rw [e]
          decide
        · exact decide_eq_true (chG_facts e).1
      · show (x.cps.any Unicode.isLower && !x.cps.any fun c => Unicode.isUpper c || Unicode.isTitle c) = true
        rw [Bool.and_eq_true]
        constructor
        · rw [Array.any_eq_true']
          obtain ⟨l, hl, lo⟩ := List.any_eq_true.mp low
          obtain ⟨c, hc, hk⟩ := List.any_eq_true.mp lo
          simp only [Bool.and_eq_true, decide_eq_true_eq] at hk
          refine ⟨c, Array.mem_toList_iff.mp ?_, low_is hk⟩
          rw [cut]
          exact mem_joinL (List.mem_map.mpr ⟨l, hl, rfl⟩) hc
        · rw [Bool.not_eq_true']
          rw [Array.any_eq_false']
          intro c hc
          rcases chars c (Array.mem_toList_iff.mpr hc) with e | e
          · rw [e]
            decide +kernel
          · rw [(chG_facts e).2.2.1, (chG_facts e).2.2.2]
            exact Bool.false_ne_true
      · show (Txt.replace x "\n" " ").cps.all Unicode.isPrintable = true
        rw [Array.all_eq_true_iff_forall_mem]
        intro c hc
        have hc := Array.mem_toList_iff.mpr hc
        rw [replace_list (by decide +kernel), nl, show (" " : Str).cps.toList = [32] from rfl, rp_one] at hc
        obtain ⟨d, hd, hc⟩ := List.mem_flatMap.mp hc
        by_cases e : d = 10
        · rw [if_pos e] at hc
          rw [List.mem_singleton.mp hc]
          decide +kernel
        · rw [if_neg e] at hc
          rw [List.mem_singleton.mp hc]
          rcases chars d hd with y | y
          · exact absurd y e
          · exact (chG_facts y).2.1
    · decide +kernel
  refine ⟨?_, by rw [clean]; exact cut, fun z => ?_, fun l hl z => ?_, ?_, rows_ok h⟩
  · have := joinL_len fun p hp => (lns p hp).2
    rw [← cut, List.length_map] at this
    have e : (Txt.join "\n" lines).cps.toList.length = (Txt.join "\n" lines).length := by simp [Str.length]
    rw [e] at this
    have : (480 + 1) * lines.length ≤ 481 * 35 := Nat.mul_le_mul_left _ len
    omega
  · exact hne (List.map_eq_nil_iff.mp z)
  · have := (lns l hl).1 10 z
    unfold ChG at this
    omega
  · rw [List.map_map]
    rfl
end TX
namespace TX
open PySem PySem.Spec PyProof.Rows L2 KTD
/-! ### rows by what the next line asks -/
def AS.init : AS := absS RS.init
def rowsA (T : Tok3) : AS → Nat → List (Nat × List Str) → Except Nat AS
  | A, _, [] => .ok A
  | A, n, (sp, ts) :: r => match acceptA T A sp ts with
    | none => .error n
    | some A' => rowsA T A' (n + 1) r
def endA (n : Nat) (e : Except Nat AS) : Option Nat × Bool := match e with
  | .error n => (some n, true)
  | .ok A => if A.whole = true then (none, decide (A.nd ≤ 4) && decide (A.nf ≤ 12)) else (some n, true)
def verdictA (T : Tok3) (rows : List (Nat × List Str)) : Option Nat × Bool := endA rows.length (rowsA T AS.init 0 rows)
def absE : Except Nat RS → Except Nat AS
  | .error n => .error n
  | .ok S => .ok (absS S)
theorem rows_abs {T : Tok3} (hT : T.ok) : ∀ {rows : List (Nat × List Str)} {S : RS} {n m : Nat}, Good S m → RowsOk T.tbs rows → absE (rowsT T S n rows) = rowsA T (absS S) n rows
  | [], _, _, _, _, _ => rfl
  | (sp, ts) :: r, S, n, m, g, h => by
    obtain ⟨h1, h2⟩ := h _ List.mem_cons_self
    show absE (match acceptT T S sp ts with | none => .error n | some S' => rowsT T S' (n + 1) r) = (match acceptA T (absS S) sp ts with | none => .error n | some A' => rowsA T A' (n + 1) r)
    rw [← acc_abs g]
    cases e : acceptT T S sp ts with
    | none => rfl
    | some S2 =>
      have e2 : acceptS T.tbs S sp ts = some S2 := (accept_is hT g h1).trans e
      exact rows_abs hT (accept_good g e2 h1 h2).1 fun x hx => h x (List.mem_cons_of_mem _ hx)
theorem opL_def : ∀ (zs : List LnZ) (i : Nat) (L : Ops), (opL zs i L).length ≤ L.length + nDef zs
  | [], _, L => Nat.le_refl _
  | z :: zs, i, L => by
    have ih := opL_def zs (i + 1) (if z.deed = "def" then putN L (z.name.getD "") i else L)
    have pl := putN_len L (z.name.getD "") i
    show (opL zs (i + 1) _).length ≤ _
    have nd : nDef (z :: zs) = nDef zs + if z.deed = "def" then 1 else 0 := by
      unfold nDef
      rw [List.countP_cons]
      by_cases h : z.deed = "def" <;> simp [h]
    rw [nd]
    by_cases h : z.deed = "def"
    · rw [if_pos h] at ih ⊢
      rw [if_pos h]
      omega
    · rw [if_neg h] at ih ⊢
      rw [if_neg h]
      omega
theorem verdict_abs {T : Tok3} (hT : T.ok) {rows : List (Nat × List Str)} (h : RowsOk T.tbs rows) {r : Option Nat} (e : verdictA T rows = (r, true)) : verdict (allT T rows) = (r, true) := by
  have ra := rows_abs hT (rows := rows) (n := 0) Good.init h
  unfold verdictA at e
  have i0 : AS.init = absS RS.init := rfl
  rw [i0, ← ra] at e
  unfold allT
  cases hr : rowsT T RS.init 0 rows with
  | error n =>
    rw [hr] at e
    exact e
  | ok S =>
    rw [hr] at e
    have e : (if (absS S).whole = true then (none, decide ((absS S).nd ≤ 4) && decide ((absS S).nf ≤ 12)) else (some rows.length, true)) = (r, true) := e
    have w : (absS S).whole = isWhole S := by
      unfold AS.whole isWhole absS absF
      dsimp only
      rw [last_z, Option.map_map]
      cases S.lines.getLast? <;> rfl
    rw [w] at e
    dsimp only
    by_cases hw : isWhole S = true
    · rw [if_pos hw] at e ⊢
      have e1 := congrArg Prod.fst e
      have e2 := congrArg Prod.snd e
      dsimp only at e1 e2
      rw [Bool.and_eq_true, decide_eq_true_eq, decide_eq_true_eq] at e2
      have o : (opsOf (closeS S 0 false)).length ≤ 4 := by
        have : zsOf (closeS S 0 false).lines = zsOf S.lines := closeL_z S 0 false
        unfold opsOf
        rw [this]
        have := opL_def (zsOf S.lines) 0 []
        have e3 : nDef (zsOf S.lines) ≤ 4 := e2.1
        rw [List.length_nil] at this
        omega
      have f : (closeS S 0 false).found.length ≤ 12 := e2.2
      show (none, decide ((opsOf (closeS S 0 false)).length ≤ 4) && decide ((closeS S 0 false).found.length ≤ 12)) = _
      rw [decide_eq_true o, decide_eq_true f, ← e1]
      rfl
    · rw [if_neg hw] at e ⊢
      exact e
theorem rowsA_app {T : Tok3} : ∀ {r1 r2 : List (Nat × List Str)} {A : AS} {n : Nat}, rowsA T A n (r1 ++ r2) = match rowsA T A n r1 with
    | .error k => .error k
    | .ok A' => rowsA T A' (n + r1.length) r2
  | [], r2, A, n => rfl
  | (sp, ts) :: r1, r2, A, n => by
    show (match acceptA T A sp ts with | none => Except.error n | some A' => rowsA T A' (n + 1) (r1 ++ r2)) = (match (match acceptA T A sp ts with | none => Except.error n | some A' => rowsA T A' (n + 1) r1) with | Except.error k => Except.error k | .ok A' => rowsA T A' (n + (r1.length + 1)) r2)
    cases acceptA T A sp ts with
    | none => rfl
    | some A' =>
      dsimp only
      rw [rowsA_app (r1 := r1), show n + 1 + r1.length = n + (r1.length + 1) by omega]
end TX
namespace TX
open PySem PySem.Spec PyProof.Rows L2 KTD
/-! ### takers met before change nothing: two states that go alike -/
def TKs : List Str := ["out", "log"]
def MEq (M N : Mean) : Prop := ∀ x, x ∉ TKs → meanAt M x = meanAt N x
def MOk (M : Mean) : Prop := ∀ z ∈ TKs, meanAt M z = none ∨ meanAt M z = some ("taker" : Str)
structure Sim (k : Nat) (A B : AS) : Prop where
  bl : A.bl = B.bl
  mn : MEq A.mean B.mean
  okA : MOk A.mean
  okB : MOk B.mean
  nf : A.nf ≤ B.nf + k
  nd : A.nd = B.nd
/-- a line that makes names makes no takers of them -/
def RC (ts : List Str) : Prop := ts.head? = some ("def" : Str) ∨ ts.head? = some ("for" : Str) → ∀ x ∈ ts, x ∉ TKs
theorem MEq.put {M N : Mean} (h : MEq M N) (n m : Str) : MEq (putMean M n m) (putMean N n m) := fun x hx => by
  rw [meanAt_put, meanAt_put, h x hx]
theorem MOk.put {M : Mean} (h : MOk M) {n m : Str} (k : n ∉ TKs ∨ m = "taker") : MOk (putMean M n m) := fun z hz => by
  rw [meanAt_put]
  by_cases e : n = z
  · rw [if_pos e]
    rcases k with k | k
    · exact absurd (e ▸ hz) k
    · exact .inr (by rw [k])
  · rw [if_neg e]
    exact h z hz
theorem MEq.can {M N : Mean} (h : MEq M N) {x : Str} (hx : x ∉ TKs) (m : Str) : canBe M x m = canBe N x m := by
  unfold canBe
  rw [h x hx]
theorem MOk.can {M : Mean} (h : MOk M) {z : Str} (hz : z ∈ TKs) : canBe M z "taker" = true ∧ meanAt M z ≠ some ("function" : Str) := by
  have nm : isNameZ z = true := by
    have : ∀ z ∈ TKs, isNameZ z = true := by decide +kernel
    exact this z hz
  unfold canBe
  rcases h z hz with e | e
  · rw [e, nm]
    exact ⟨rfl, fun z => nomatch z⟩
  · rw [e]
    exact ⟨rfl, fun z => absurd (Option.some.inj z) (show ¬ ("taker" : Str) = "function" by decide +kernel)⟩
theorem line_sim {T : Tok3} {M N : Mean} (h : MEq M N) (oM : MOk M) (oN : MOk N) {k : AB} {d : Nat} {ts : List Str} (rc : RC ts) : lineA T k d ts M = lineA T k d ts N := by
  unfold lineA
  by_cases h0 : d = 0
  · rw [if_pos h0, if_pos h0]
    unfold readDefZ
    congr 1
    unfold readDef
    split
    · rename_i a n b v c e
      by_cases ha : a = "def"
      · have r := rc (.inl (by rw [ha]; rfl))
        rw [h n (r n (by simp)), h.can (r v (by simp))]
      · rw [if_neg fun z => ha z.1, if_neg fun z => ha z.1]
    · rfl
  · rw [if_neg h0, if_neg h0]
    unfold readInnerT
    cases ts with
    | nil => rfl
    | cons w r =>
      dsimp only
      by_cases h1 : w = "for"
      · rw [if_pos h1, if_pos h1]
        have rr := rc (.inr (by rw [h1]; rfl))
        have e : readForT T.tl (w :: r) (k.var.getD "") M = readForT T.tl (w :: r) (k.var.getD "") N := by
          unfold readForT
          split
          · rename_i q x h3 h4
            rw [h.can (rr x (List.mem_of_getElem? h4))]
          · rfl
        rw [e]
      · rw [if_neg h1, if_neg h1]
        have e : readNamedT T (w :: r) (k.var.getD "") (k.own.getD "") k.lo M = readNamedT T (w :: r) (k.var.getD "") (k.own.getD "") k.lo N := by
          unfold readNamedT
          dsimp only
          by_cases hw : w ∈ TKs
          · obtain ⟨a1, a2⟩ := oM.can hw
            obtain ⟨b1, b2⟩ := oN.can hw
            exact (if_neg a2).trans ((if_pos a1).trans ((if_neg b2).trans (if_pos b1)).symm)
          · rw [h w hw, h.can hw]
        rw [e]
theorem line_names {T : Tok3} {M : Mean} {k : AB} {d : Nat} {ts : List Str} {z : LnZ} (e : lineA T k d ts M = some z) (rc : RC ts) : (∀ v, z.var = some v → v ∉ TKs) ∧ (z.deed = "def" → ∀ n, z.name = some n → n ∉ TKs) := by
  unfold lineA at e
  split at e
  · unfold readDefZ at e
    obtain ⟨⟨n, v⟩, hq, e⟩ := Option.map_eq_some_iff.mp e
    subst e
    unfold readDef at hq
    split at hq
    · split at hq
      · rename_i hc
        cases hq
        have r := rc (.inl (by rw [hc.1]; rfl))
        exact ⟨fun y hy => by cases hy; exact r _ (by simp), fun _ y hy => by cases hy; exact r _ (by simp)⟩
      · cases hq
    · cases hq
  · unfold readInnerT at e
    split at e
    · cases e
    · rename_i w r
      split at e
      · rename_i hw
        have rr := rc (.inr (by rw [hw]; rfl))
        split at e
        · obtain ⟨⟨x, f, a⟩, hq, e⟩ := Option.map_eq_some_iff.mp e
          subst e
          refine ⟨fun y hy => ?_, fun y => absurd y (show ¬ ("for" : Str) = "def" by decide +kernel)⟩
          cases hy
          unfold readForT at hq
          split at hq
          · rename_i q y h1 h2
            split at hq
            · cases hq
              exact rr _ (List.mem_of_getElem? h2)
            · cases hq
          · cases hq
        · cases e
      · split at e
        · obtain ⟨c, hc, e⟩ := Option.map_eq_some_iff.mp e
          subst e
          exact ⟨(fun _ y => nomatch y), fun y => absurd y (show ¬ ("if" : Str) = "def" by decide +kernel)⟩
        · split at e
          · obtain ⟨x, hc, e⟩ := Option.map_eq_some_iff.mp e
            subst e
            exact ⟨(fun _ y => nomatch y), fun _ _ y => nomatch y⟩
          · obtain ⟨q, hc, e⟩ := Option.map_eq_some_iff.mp e
            subst e
            refine ⟨(fun _ y => nomatch y), fun y => ?_⟩
            have y : q.1 = "def" := y
            unfold readNamedT at hc
            dsimp only at hc
            split at hc
            · obtain ⟨p, _, e⟩ := Option.map_eq_some_iff.mp hc
              rw [← e] at y
              exact absurd y (show ¬ ("call" : Str) = "def" by decide +kernel)
            · split at hc
              · obtain ⟨p, _, e⟩ := Option.map_eq_some_iff.mp hc
                rw [← e] at y
                exact absurd y (show ¬ ("give" : Str) = "def" by decide +kernel)
              · cases hc
theorem Sim.put {j : Nat} {A B : AS} (s : Sim j A B) {d : Nat} {z : LnZ} {k : AB} (hv : ∀ v, z.var = some v → v ∉ TKs) (hn : z.deed = "def" → ∀ n, z.name = some n → n ∉ TKs) : Sim j (A.put d z k) (B.put d z k) := by
  have mp : MEq (putM z A.mean) (putM z B.mean) ∧ MOk (putM z A.mean) ∧ MOk (putM z B.mean) := by
    unfold putM
    split
    · split
      · exact ⟨s.mn.put _ _, s.okA.put (.inr rfl), s.okB.put (.inr rfl)⟩
      · exact ⟨s.mn, s.okA, s.okB⟩
    · exact ⟨s.mn, s.okA, s.okB⟩
  have mv : MEq (varM z (putM z A.mean)) (varM z (putM z B.mean)) ∧ MOk (varM z (putM z A.mean)) ∧ MOk (varM z (putM z B.mean)) := by
    unfold varM
    split
    · rename_i v e
      exact ⟨mp.1.put _ _, mp.2.1.put (.inl (hv v e)), mp.2.2.put (.inl (hv v e))⟩
    · exact mp
  have mb : MEq (beginM z (putM z A.mean)) (beginM z (putM z B.mean)) ∧ MOk (beginM z (putM z A.mean)) ∧ MOk (beginM z (putM z B.mean)) := by
    unfold beginM
    split
    · rename_i hd
      unfold nameM
      split
      · rename_i n e
        exact ⟨mv.1.put _ _, mv.2.1.put (.inl (hn hd n e)), mv.2.2.put (.inl (hn hd n e))⟩
      · exact mv
    · exact mv
  have ms : MEq (A.put d z k).mean (B.put d z k).mean ∧ MOk (A.put d z k).mean ∧ MOk (B.put d z k).mean := by
    unfold AS.put
    dsimp only
    split
    · exact mb
    · exact mp
  refine ⟨?_, ms.1, ms.2.1, ms.2.2, ?_, ?_⟩
  · unfold AS.put
    dsimp only
    rw [s.bl]
  · show A.nf + _ ≤ B.nf + _ + j
    have := s.nf
    omega
  · show A.nd + _ = B.nd + _
    rw [s.nd]
theorem sim_step {T : Tok3} {j : Nat} {A B : AS} (s : Sim j A B) {sp : Nat} {ts : List Str} (rc : RC ts) (hl : A.last = B.last ∨ sp = 2 * B.bl.length - 2) :
    (acceptA T A sp ts = none ∧ acceptA T B sp ts = none) ∨ ∃ A' B', acceptA T A sp ts = some A' ∧ acceptA T B sp ts = some B' ∧ Sim j A' B' ∧ A'.last = B'.last := by
  have em : A.may sp = B.may sp := by
    unfold AS.may
    rw [s.bl]
    rcases hl with e | e
    · unfold AS.whole
      rw [e]
    · rw [decide_eq_true e, Bool.true_or, Bool.true_or]
  have ee : A.ends (sp / 2) = B.ends (sp / 2) := by
    unfold AS.ends
    rw [s.bl]
  unfold acceptA
  rw [em, ee, s.bl]
  by_cases c : ts = [] ∨ B.may sp = false
  · rw [if_pos c, if_pos c]
    exact .inl ⟨rfl, rfl⟩
  · rw [if_neg c, if_neg c]
    cases B.bl[sp / 2]? with
    | none => exact .inl ⟨rfl, rfl⟩
    | some k =>
      dsimp only
      rw [line_sim s.mn s.okA s.okB rc]
      cases e : lineA T k (sp / 2) ts B.mean with
      | none => exact .inl ⟨rfl, rfl⟩
      | some z =>
        dsimp only
        by_cases c2 : z.deed = "else" ∧ B.ends (sp / 2) = false
        · rw [if_pos c2, if_pos c2]
          exact .inl ⟨rfl, rfl⟩
        · rw [if_neg c2, if_neg c2]
          obtain ⟨n1, n2⟩ := line_names e rc
          exact .inr ⟨_, _, rfl, rfl, s.put n1 n2, rfl⟩
/-- all rows -/
theorem sim_rows {T : Tok3} : ∀ {rows : List (Nat × List Str)} {j n : Nat} {A B : AS}, Sim j A B → A.last = B.last → (∀ r ∈ rows, RC r.2) → (∃ k, rowsA T A n rows = .error k ∧ rowsA T B n rows = .error k) ∨ ∃ A' B', rowsA T A n rows = .ok A' ∧ rowsA T B n rows = .ok B' ∧ Sim j A' B' ∧ A'.last = B'.last
  | [], _, _, A, B, s, l, _ => .inr ⟨A, B, rfl, rfl, s, l⟩
  | (sp, ts) :: r, j, n, A, B, s, l, h => by
    rcases sim_step (T := T) s (sp := sp) (h _ List.mem_cons_self) (.inl l) with ⟨e1, e2⟩ | ⟨A', B', e1, e2, s', l'⟩
    · refine .inl ⟨n, ?_, ?_⟩
      · show (match acceptA T A sp ts with | none => (Except.error n : Except Nat AS) | some A' => rowsA T A' (n + 1) r) = _
        rw [e1]
      · show (match acceptA T B sp ts with | none => (Except.error n : Except Nat AS) | some A' => rowsA T A' (n + 1) r) = _
        rw [e2]
    · have k1 : rowsA T A n ((sp, ts) :: r) = rowsA T A' (n + 1) r := by
        show (match acceptA T A sp ts with | none => (Except.error n : Except Nat AS) | some A' => rowsA T A' (n + 1) r) = _
        rw [e1]
      have k2 : rowsA T B n ((sp, ts) :: r) = rowsA T B' (n + 1) r := by
        show (match acceptA T B sp ts with | none => (Except.error n : Except Nat AS) | some A' => rowsA T A' (n + 1) r) = _
        rw [e2]
      rw [k1, k2]
      exact sim_rows s' l' fun x hx => h x (List.mem_cons_of_mem _ hx)
end TX
namespace TX
open PySem PySem.Spec PyProof.Rows L2 KTD
/-! ### lines that open blocks: the states -/
def vs4 : List Str := ["v", "x", "y", "u"]
def fresh4 : List Str := ["x", "y", "v", "u"]
def cuts3 : List Str := ["", "[:1]", "[1:]"]
def d123 : List Nat := [1, 2, 3]
def indS (d : Nat) : Str := ⟨Array.replicate (2 * d) 32⟩
def givA (va : Str) (w : Bool) : Str := if w = true then "[" ++ va ++ "]" else va
def forL (d : Nat) (va fr cu : Str) (w : Bool) : Str := indS d ++ "for " ++ fr ++ " in " ++ givA va w ++ cu ++ ":"
def ifL (d : Nat) (va : Str) : Str := indS d ++ "if list " ++ va ++ ":"
def reL (d : Nat) : Str := indS d ++ "  return"
def elL (d : Nat) : Str := indS d ++ "else:"
def pre3 : List Str := ["def early(u):", "  log(u)", "def own(v):"]
def bools : List Bool := [true, false]
def lineB (l : Str) (sp : Nat) : Bool := gl l && (lowS l && (decide ((rowL l).1 = sp) && (decide ((rowL l).2 ≠ []) && decide (l.length - (Txt.lstrip l).length = sp))))
theorem for_lines : (d123.all fun d => vs4.all fun va => fresh4.all fun fr => cuts3.all fun cu => bools.all fun w => lineB (forL d va fr cu w) (2 * d) && (decide ((rowL (forL d va fr cu w)).2.head? = some ("for" : Str)) && decide ((rowL (forL d va fr cu w)).2[1]? = some fr))) = true := by decide +kernel
theorem if_lines : (d123.all fun d => vs4.all fun va => (lineB (ifL d va) (2 * d) && decide ((rowL (ifL d va)).2.head? = some ("if" : Str))) && ((lineB (reL d) (2 * (d + 1)) && decide ((rowL (reL d)).2 = (["return"] : List Str))) && (lineB (elL d) (2 * d) && decide ((rowL (elL d)).2 = (["else", ":"] : List Str))))) = true := by decide +kernel
/-- what a line becomes: no name, and the variable -/
def zOk (z : Option LnZ) (deed : Str) (var : Option Str) : Bool := match z with
  | some z => decide (z.deed = deed) && (decide (z.var = var) && (decide (z.name = none) && decide ((askedF z (some ("own" : Str))).length ≤ 1)))
  | none => false
theorem for_reads : (d123.all fun d => vs4.all fun va => fresh4.all fun fr => cuts3.all fun cu => bools.all fun w => bools.all fun lo => zOk (readInnerT T3 (rowL (forL d va fr cu w)).2 va "own" lo []) "for" (some fr)) = true := by decide +kernel
theorem if_reads : (d123.all fun d => vs4.all fun va => bools.all fun lo => zOk (readInnerT T3 (rowL (ifL d va)).2 va "own" lo []) "if" none) = true := by decide +kernel
theorem bare_reads : (bools.all fun lo => vs4.all fun va => zOk (readInnerT T3 ["return"] va "own" lo []) "return" none && zOk (readInnerT T3 ["else", ":"] va "own" lo []) "else" none) = true := by decide +kernel
structure IvA (A : AS) (d : Nat) (va : Str) (lo : Bool) (m : Nat) : Prop where
  d1 : 1 ≤ d
  len : A.bl.length = d + 1
  top : ∃ k, A.bl[d]? = some k ∧ k.var = some va ∧ k.own = some ("own" : Str) ∧ k.lo = lo
  va : va ∈ vs4
  own : meanAt A.mean "own" = some ("function" : Str)
  early : meanAt A.mean "early" = some ("function" : Str)
  vars : ∀ x ∈ vs4, meanAt A.mean x = none ∨ meanAt A.mean x = some ("variable" : Str)
  tk : MOk A.mean
  nf : A.nf ≤ m
  nd : A.nd = 2
theorem IvA.may {A : AS} {d m : Nat} {va : Str} {lo : Bool} (h : IvA A d va lo m) : A.may (2 * d) = true := by
  unfold AS.may
  rw [h.len, decide_eq_true (by omega), Bool.true_or]
/-- a line at the deepest place -/
theorem IvA.acc {A : AS} {d m : Nat} {va : Str} {lo : Bool} (h : IvA A d va lo m) {ts : List Str} (hne : ts ≠ []) : ∃ k, A.bl[d]? = some k ∧ k.var = some va ∧ k.own = some ("own" : Str) ∧ k.lo = lo ∧
    acceptA T3 A (2 * d) ts = match readInnerT T3 ts va "own" lo A.mean with
      | none => none
      | some z => if z.deed = "else" ∧ A.ends d = false then none else some (A.put d z k) := by
  obtain ⟨k, hk, kv, ko, kl⟩ := h.top
  have d2 : 2 * d / 2 = d := by omega
  refine ⟨k, hk, kv, ko, kl, ?_⟩
  unfold acceptA
  rw [if_neg (fun y => y.elim hne (fun y => by rw [h.may] at y; cases y)), d2, hk]
  dsimp only
  have e : lineA T3 k d ts A.mean = readInnerT T3 ts va "own" lo A.mean := by
    unfold lineA
    rw [if_neg (by have := h.d1; omega), kv, ko, kl]
    rfl
  rw [e]
  try (cases readInnerT T3 ts va "own" lo A.mean <;> rfl)
theorem vs4_name : ∀ x ∈ vs4, isNameZ x = true ∧ x ∉ TKs ∧ x ≠ "own" ∧ x ≠ "early" := by decide +kernel
theorem IvA.can {A : AS} {d m : Nat} {va : Str} {lo : Bool} (h : IvA A d va lo m) {x : Str} (hx : x ∈ vs4) : canBe A.mean x "variable" = canBe [] x "variable" := by
  have n1 := (vs4_name x hx).1
  unfold canBe
  rcases h.vars x hx with e | e
  · rw [e]
    rfl
  · rw [e, n1]
    rfl
/-- the head alone says how much of the meanings a line asks -/
theorem inner_for {ts : List Str} {va own fr : Str} {lo : Bool} {M N : Mean} (h : ts.head? = some ("for" : Str)) (h1 : ts[1]? = some fr) (e : canBe M fr "variable" = canBe N fr "variable") : readInnerT T3 ts va own lo M = readInnerT T3 ts va own lo N := by
  cases ts with
  | nil => rfl
  | cons w r =>
    have hw : w = "for" := Option.some.inj h
    unfold readInnerT
    dsimp only
    rw [if_pos hw, if_pos hw]
    have e2 : readForT T3.tl (w :: r) va M = readForT T3.tl (w :: r) va N := by
      unfold readForT
      rw [h1]
      cases ttAt T3.tl (shapeT ((w :: r).drop 2) va) with
      | none => rfl
      | some q =>
        dsimp only
        rw [e]
    rw [e2]
theorem inner_no {ts : List Str} {va own : Str} {lo : Bool} {M N : Mean} (h : ts.head? = some ("if" : Str) ∨ ∃ w ∈ bareW, ts.head? = some w) : readInnerT T3 ts va own lo M = readInnerT T3 ts va own lo N := by
  cases ts with
  | nil => rfl
  | cons w r =>
    have nf : ∀ w ∈ bareW, w ≠ "for" ∧ w ≠ "if" := by decide +kernel
    unfold readInnerT
    dsimp only
    rcases h with h | ⟨u, hu, h⟩
    · have hw : w = "if" := Option.some.inj h
      have h2 : ¬ w = "for" := by
        rw [hw]
        decide +kernel
      rw [if_neg h2, if_neg h2, if_pos hw, if_pos hw]
    · have hw : w = u := Option.some.inj h
      subst hw
      obtain ⟨a, b⟩ := nf w hu
      rw [if_neg a, if_neg a, if_neg b, if_neg b, if_pos hu, if_pos hu]
theorem zOk_is {z : Option LnZ} {deed : Str} {var : Option Str} (h : zOk z deed var = true) : ∃ y, z = some y ∧ y.deed = deed ∧ y.var = var ∧ y.name = none ∧ (askedF y (some ("own" : Str))).length ≤ 1 := by
  unfold zOk at h
  cases z with
  | none => cases h
  | some y =>
    simp only [Bool.and_eq_true, decide_eq_true_eq] at h
    exact ⟨y, rfl, h.1, h.2.1, h.2.2.1, h.2.2.2⟩
theorem opens_ok : ("for" : Str) ∈ openW ∧ ("if" : Str) ∈ openW ∧ ("else" : Str) ∈ openW ∧ ("return" : Str) ∉ openW ∧ ¬ ("for" : Str) = "def" ∧ ¬ ("if" : Str) = "def" ∧ ¬ ("else" : Str) = "def" ∧ ¬ ("return" : Str) = "def" ∧ ¬ ("for" : Str) = "else" ∧ ¬ ("if" : Str) = "else" ∧ ¬ ("return" : Str) = "else" ∧ ¬ ("for" : Str) = "give" ∧ ¬ ("if" : Str) = "give" ∧ ¬ ("else" : Str) = "give" ∧ ¬ ("return" : Str) = "give" ∧ ¬ ("if" : Str) = "for" ∧ ¬ ("else" : Str) = "for" := by decide +kernel
theorem put_mean {A : AS} {d : Nat} {z : LnZ} {k : AB} (h1 : ¬ z.deed = "give") (h2 : ¬ z.deed = "def") : (A.put d z k).mean = if z.deed ∈ openW then varM z A.mean else A.mean := by
  unfold AS.put putM beginM
  dsimp only
  rw [if_neg h1, if_neg h2]
theorem mean_var {M : Mean} {fr x : Str} (hf : fr ∈ vs4) : (x ∈ vs4 → meanAt M x = none ∨ meanAt M x = some ("variable" : Str)) → x ∈ vs4 → meanAt (putMean M fr "variable") x = none ∨ meanAt (putMean M fr "variable") x = some ("variable" : Str) := fun h hx => by
  rw [meanAt_put]
  split
  · exact .inr rfl
  · exact h hx
/-- for -/
theorem IvA.forS {A : AS} {d m : Nat} {va : Str} {lo : Bool} (h : IvA A d va lo m) (h3 : d ∈ d123) {fr cu : Str} {w : Bool} (hf : fr ∈ fresh4) (hc : cu ∈ cuts3) : ∃ A', acceptA T3 A (rowL (forL d va fr cu w)).1 (rowL (forL d va fr cu w)).2 = some A' ∧ IvA A' (d + 1) fr true (m + 1) := by
  have hb : ∀ b : Bool, b ∈ bools := by decide
  have fv : fr ∈ vs4 := by
    have : ∀ x ∈ fresh4, x ∈ vs4 := by decide +kernel
    exact this fr hf
  have l0 := List.all_eq_true.mp (List.all_eq_true.mp (List.all_eq_true.mp (List.all_eq_true.mp (List.all_eq_true.mp for_lines d h3) va h.va) fr hf) cu hc) w (hb w)
  have z0 := List.all_eq_true.mp (List.all_eq_true.mp (List.all_eq_true.mp (List.all_eq_true.mp (List.all_eq_true.mp (List.all_eq_true.mp for_reads d h3) va h.va) fr hf) cu hc) w (hb w)) lo (hb lo)
  unfold lineB at l0
  simp only [Bool.and_eq_true, decide_eq_true_eq] at l0
  obtain ⟨⟨_, _, sp, ne, _⟩, hd, h1⟩ := l0
  generalize rowL (forL d va fr cu w) = r at sp ne hd h1 z0
  obtain ⟨k, hk, kv, ko, kl, e⟩ := h.acc ne
  obtain ⟨z, ez, zd, zv, zn, za⟩ := zOk_is z0
  obtain ⟨o1, o2, o3, o4, o5, o6, o7, o8, o9, o10, o11, o12, o13, o14, o15, o16, o17⟩ := opens_ok
  rw [inner_for hd h1 (h.can fv), ez] at e
  dsimp only at e
  rw [if_neg (fun y => o9 (zd ▸ y.1))] at e
  rw [sp]
  have em := put_mean (A := A) (d := d) (k := k) (z := z) (by rw [zd]; exact o12) (by rw [zd]; exact o5)
  have em2 : varM z A.mean = putMean A.mean fr "variable" := by
    unfold varM
    rw [zv]
  rw [if_pos (by rw [zd]; exact o1), em2] at em
  obtain ⟨n1, n2, n3, n4⟩ := vs4_name fr fv
  have bk : bkA z k = ⟨some ("for" : Str), some fr, some ("own" : Str), true⟩ := by
    unfold bkA
    rw [if_neg (by rw [zd]; exact o5), if_pos zd, zd, zv, ko]
  have bl : (A.put d z k).bl = A.bl ++ [⟨some ("for" : Str), some fr, some ("own" : Str), true⟩] := by
    unfold AS.put
    dsimp only
    rw [if_neg (by have := h.len; omega), if_pos (by rw [zd]; exact o1), bk]
  refine ⟨_, e, ⟨by omega, ?_, ⟨⟨some ("for" : Str), some fr, some ("own" : Str), true⟩, ?_, rfl, rfl, rfl⟩, fv, ?_, ?_, ?_, ?_, ?_, ?_⟩⟩
  · rw [bl, List.length_append, h.len]
    rfl
  · rw [bl, ← h.len]
    simp
  · rw [em, meanAt_put, if_neg n3]
    exact h.own
  · rw [em, meanAt_put, if_neg n4]
    exact h.early
  · rw [em]
    exact fun x hx => mean_var fv (h.vars x) hx
  · rw [em]
    exact h.tk.put (.inl n2)
  · show A.nf + (askedF z k.own).length ≤ m + 1
    rw [ko]
    have := h.nf
    omega
  · show A.nd + (if z.deed = "def" then 1 else 0) = 2
    rw [if_neg (by rw [zd]; exact o5), h.nd]
/-- if -/
theorem IvA.ifS {A : AS} {d m : Nat} {va : Str} {lo : Bool} (h : IvA A d va lo m) (h3 : d ∈ d123) : ∃ A', acceptA T3 A (rowL (ifL d va)).1 (rowL (ifL d va)).2 = some A' ∧ IvA A' (d + 1) va lo (m + 1) ∧ A'.bl.take (d + 1) = A.bl ∧ A'.mean = A.mean ∧ (∃ b, A'.bl[d + 1]? = some b ∧ b.dd = some ("if" : Str)) := by
  have hb : ∀ b : Bool, b ∈ bools := by decide
  have l0 := List.all_eq_true.mp (List.all_eq_true.mp if_lines d h3) va h.va
  have z0 := List.all_eq_true.mp (List.all_eq_true.mp (List.all_eq_true.mp if_reads d h3) va h.va) lo (hb lo)
  unfold lineB at l0
  simp only [Bool.and_eq_true, decide_eq_true_eq] at l0
  obtain ⟨⟨⟨_, _, sp, ne, _⟩, hd⟩, _⟩ := l0
  generalize rowL (ifL d va) = r at sp ne hd z0
  obtain ⟨k, hk, kv, ko, kl, e⟩ := h.acc ne
  obtain ⟨z, ez, zd, zv, zn, za⟩ := zOk_is z0
  obtain ⟨o1, o2, o3, o4, o5, o6, o7, o8, o9, o10, o11, o12, o13, o14, o15, o16, o17⟩ := opens_ok
  rw [inner_no (N := []) (.inl hd), ez] at e
  dsimp only at e
  rw [if_neg (fun y => o10 (zd ▸ y.1))] at e
  rw [sp]
  have em := put_mean (A := A) (d := d) (k := k) (z := z) (by rw [zd]; exact o13) (by rw [zd]; exact o6)
  have em2 : varM z A.mean = A.mean := by
    unfold varM
    rw [zv]
  rw [if_pos (by rw [zd]; exact o2), em2] at em
  have bk : bkA z k = ⟨some ("if" : Str), some va, some ("own" : Str), lo⟩ := by
    unfold bkA
    rw [if_neg (by rw [zd]; exact o6), if_neg (by rw [zd]; exact o16), zd, kv, ko, kl]
  have bl : (A.put d z k).bl = A.bl ++ [⟨some ("if" : Str), some va, some ("own" : Str), lo⟩] := by
    unfold AS.put
    dsimp only
    rw [if_neg (by have := h.len; omega), if_pos (by rw [zd]; exact o2), bk]
  have b1 : (A.put d z k).bl[d + 1]? = some ⟨some ("if" : Str), some va, some ("own" : Str), lo⟩ := by
    rw [bl, ← h.len]
    simp
  refine ⟨_, e, ⟨by omega, ?_, ⟨_, b1, rfl, rfl, rfl⟩, h.va, ?_, ?_, ?_, ?_, ?_, ?_⟩, ?_, em, _, b1, rfl⟩
  · rw [bl, List.length_append, h.len]
    rfl
  · rw [em]
    exact h.own
  · rw [em]
    exact h.early
  · rw [em]
    exact h.vars
  · rw [em]
    exact h.tk
  · show A.nf + (askedF z k.own).length ≤ m + 1
    rw [ko]
    have := h.nf
    omega
  · show A.nd + (if z.deed = "def" then 1 else 0) = 2
    rw [if_neg (by rw [zd]; exact o6), h.nd]
  · rw [bl, ← h.len, List.take_left' rfl]
theorem IvA.mono {A : AS} {d m n : Nat} {va : Str} {lo : Bool} (h : IvA A d va lo m) (hm : m ≤ n) : IvA A d va lo n := ⟨h.d1, h.len, h.top, h.va, h.own, h.early, h.vars, h.tk, Nat.le_trans h.nf hm, h.nd⟩
/-- if, return, else -/
theorem IvA.elS {A : AS} {d m : Nat} {va : Str} {lo : Bool} (h : IvA A d va lo m) (h3 : d ∈ d123) : ∃ A1 A2 A3, acceptA T3 A (rowL (ifL d va)).1 (rowL (ifL d va)).2 = some A1 ∧ acceptA T3 A1 (rowL (reL d)).1 (rowL (reL d)).2 = some A2 ∧ acceptA T3 A2 (rowL (elL d)).1 (rowL (elL d)).2 = some A3 ∧ IvA A3 (d + 1) va lo (m + 3) := by
  have hb : ∀ b : Bool, b ∈ bools := by decide
  obtain ⟨A1, a1, i1, t1, m1, b1, e1, f1⟩ := h.ifS h3
  have l0 := List.all_eq_true.mp (List.all_eq_true.mp if_lines d h3) va h.va
  have z0 := List.all_eq_true.mp (List.all_eq_true.mp bare_reads lo (hb lo)) va h.va
  unfold lineB at l0
  simp only [Bool.and_eq_true, decide_eq_true_eq] at l0 z0
  obtain ⟨_, ⟨⟨_, _, sr, nr, _⟩, hr⟩, ⟨_, _, se, ne, _⟩, he⟩ := l0
  obtain ⟨zr0, ze0⟩ := z0
  obtain ⟨zr, ezr, zrd, zrv, zrn, zra⟩ := zOk_is zr0
  obtain ⟨ze, eze, zed, zev, zen, zea⟩ := zOk_is ze0
  obtain ⟨o1, o2, o3, o4, o5, o6, o7, o8, o9, o10, o11, o12, o13, o14, o15, o16, o17⟩ := opens_ok
  have ib : ("return" : Str) ∈ bareW ∧ ("else" : Str) ∈ bareW := by decide +kernel
  rw [sr, hr, se, he]
  -- return
  obtain ⟨k1, hk1, kv1, ko1, kl1, e2⟩ := i1.acc (ts := ["return"]) (by simp)
  rw [inner_no (N := []) (.inr ⟨_, ib.1, rfl⟩), ezr] at e2
  dsimp only at e2
  rw [if_neg (fun y => o11 (zrd ▸ y.1))] at e2
  have bl2 : (A1.put (d + 1) zr k1).bl = A1.bl := by
    unfold AS.put
    dsimp only
    rw [if_neg (by have := i1.len; omega), if_neg (by rw [zrd]; exact o4), List.append_nil]
  have em2 := put_mean (A := A1) (d := d + 1) (k := k1) (z := zr) (by rw [zrd]; exact o15) (by rw [zrd]; exact o8)
  rw [if_neg (by rw [zrd]; exact o4)] at em2
  have nf2 : (A1.put (d + 1) zr k1).nf ≤ m + 2 := by
    show A1.nf + (askedF zr k1.own).length ≤ m + 2
    rw [ko1]
    have := i1.nf
    omega
  have nd2 : (A1.put (d + 1) zr k1).nd = 2 := by
    show A1.nd + (if zr.deed = "def" then 1 else 0) = 2
    rw [if_neg (by rw [zrd]; exact o8), i1.nd]
  have wh2 : (A1.put (d + 1) zr k1).whole = true := by
    unfold AS.whole AS.put
    dsimp only
    rw [zrd, decide_eq_false o4]
    rfl
  generalize A1.put (d + 1) zr k1 = A2 at e2 bl2 em2 nf2 nd2 wh2
  -- else
  have len2 : A2.bl.length = d + 2 := by rw [bl2, i1.len]
  obtain ⟨k, hk, kv, ko, kl⟩ := h.top
  have hk2 : A2.bl[d]? = some k := by
    rw [bl2, ← hk, ← t1, List.getElem?_take_of_lt (by omega)]
  have may : A2.may (2 * d) = true := by
    unfold AS.may
    rw [len2, wh2, decide_eq_true (show 2 * d < 2 * (d + 2) - 2 by omega), decide_eq_true (show 2 * d % 2 = 0 by omega)]
    simp
  have ends : A2.ends d = true := by
    unfold AS.ends
    rw [len2, bl2, e1, decide_eq_true (by omega)]
    dsimp only
    rw [f1]
    dsimp only
    rw [decide_eq_true rfl]
    rfl
  have d2 : 2 * d / 2 = d := by omega
  have e3 : acceptA T3 A2 (2 * d) ["else", ":"] = some (A2.put d ze k) := by
    unfold acceptA
    rw [if_neg (fun y => y.elim (fun y => by cases y) (fun y => by rw [may] at y; cases y)), d2, hk2]
    dsimp only
    have e : lineA T3 k d ["else", ":"] A2.mean = some ze := by
      unfold lineA
      rw [if_neg (by have := h.d1; omega), kv, ko, kl]
      exact (inner_no (N := []) (.inr ⟨_, ib.2, rfl⟩)).trans eze
    rw [e]
    dsimp only
    rw [if_neg (fun y => by rw [ends] at y; cases y.2)]
  have bk : bkA ze k = ⟨some ("else" : Str), some va, some ("own" : Str), lo⟩ := by
    unfold bkA
    rw [if_neg (by rw [zed]; exact o7), if_neg (by rw [zed]; exact o17), zed, kv, ko, kl]
  have bl3 : (A2.put d ze k).bl = A.bl ++ [⟨some ("else" : Str), some va, some ("own" : Str), lo⟩] := by
    unfold AS.put
    dsimp only
    rw [if_pos (by omega), if_pos (by rw [zed]; exact o3), bk, bl2, t1]
  have em3 := put_mean (A := A2) (d := d) (k := k) (z := ze) (by rw [zed]; exact o14) (by rw [zed]; exact o7)
  have ev : varM ze A2.mean = A2.mean := by
    unfold varM
    rw [zev]
  rw [if_pos (by rw [zed]; exact o3), ev, em2, m1] at em3
  refine ⟨A1, A2, A2.put d ze k, a1, e2, e3, by omega, ?_, ⟨⟨some ("else" : Str), some va, some ("own" : Str), lo⟩, ?_, rfl, rfl, rfl⟩, h.va, ?_, ?_, ?_, ?_, ?_, ?_⟩
  · rw [bl3, List.length_append, h.len]
    rfl
  · rw [bl3, ← h.len]
    simp
  · rw [em3]
    exact h.own
  · rw [em3]
    exact h.early
  · rw [em3]
    exact h.vars
  · rw [em3]
    exact h.tk
  · show A2.nf + (askedF ze k.own).length ≤ m + 3
    rw [ko]
    omega
  · show A2.nd + (if ze.deed = "def" then 1 else 0) = 2
    rw [if_neg (by rw [zed]; exact o7), nd2]
end TX
namespace TX
open PySem PySem.Spec PyProof.Rows L2 KTD
/-! ### a program that is opened, and one more line -/
def preB : Bool := match rowsA T3 AS.init 0 (pre3.map rowL) with
  | .ok A => decide (A.bl.length = 2) && ((match A.bl[1]? with
    | some k => decide (k.var = some ("v" : Str)) && (decide (k.own = some ("own" : Str)) && decide (k.lo = false))
    | none => false) && (decide (meanAt A.mean "own" = some ("function" : Str)) && (decide (meanAt A.mean "early" = some ("function" : Str)) && ((vs4.all fun x => decide (meanAt A.mean x = none) || decide (meanAt A.mean x = some ("variable" : Str))) && ((TKs.all fun z => decide (meanAt A.mean z = none) || decide (meanAt A.mean z = some ("taker" : Str))) && (decide (A.nf ≤ 1) && decide (A.nd = 2)))))))
  | .error _ => false
theorem preB_ok : preB = true := by decide +kernel
theorem pre_inv : ∃ A, rowsA T3 AS.init 0 (pre3.map rowL) = .ok A ∧ IvA A 1 "v" false 1 := by
  have h := preB_ok
  unfold preB at h
  cases e : rowsA T3 AS.init 0 (pre3.map rowL) with
  | error n =>
    rw [e] at h
    cases h
  | ok A =>
    rw [e] at h
    simp only [Bool.and_eq_true, decide_eq_true_eq] at h
    obtain ⟨h1, h2, h3, h4, h5, h6, h7, h8⟩ := h
    refine ⟨A, rfl, by decide, h1, ?_, by decide, h3, h4, fun x hx => ?_, fun x hx => ?_, h7, h8⟩
    · cases hk : A.bl[1]? with
      | none =>
        rw [hk] at h2
        cases h2
      | some k =>
        rw [hk] at h2
        simp only [Bool.and_eq_true, decide_eq_true_eq] at h2
        exact ⟨k, rfl, h2.1, h2.2.1, h2.2.2⟩
    · have := List.all_eq_true.mp h5 x hx
      rw [Bool.or_eq_true, decide_eq_true_eq, decide_eq_true_eq] at this
      exact this
    · have := List.all_eq_true.mp h6 x hx
      rw [Bool.or_eq_true, decide_eq_true_eq, decide_eq_true_eq] at this
      exact this
structure Opn (ls : List Str) (d : Nat) (va : Str) (lo : Bool) : Prop where
  st : ∃ A, rowsA T3 AS.init 0 (ls.map rowL) = .ok A ∧ IvA A d va lo (1 + 3 * (d - 1))
  gl : ∀ l ∈ ls, gl l = true
  low : ∃ a r, ls = a :: r ∧ lowS a = true
  last : ∃ l, ls.getLast? = some l ∧ l.length - (Txt.lstrip l).length = 2 * (d - 1) ∧ l.length ≤ 480 ∧ (Txt.lstrip l).length ≤ l.length
  len : ls.length ≤ 3 * d
theorem rowsA_snoc {T : Tok3} {r1 : List (Nat × List Str)} {x : Nat × List Str} {A A' : AS} {n : Nat} (e : rowsA T A n r1 = .ok A') : rowsA T A n (r1 ++ [x]) = match acceptA T A' x.1 x.2 with
    | none => .error (n + r1.length)
    | some A2 => .ok A2 := by
  rw [rowsA_app, e]
  rfl
theorem gl_len {l : Str} (h : gl l = true) : l.length ≤ 480 := by
  unfold gl at h
  simp only [Bool.and_eq_true, decide_eq_true_eq] at h
  exact h.2.1
theorem pre_lines : (pre3.all gl) = true ∧ (pre3.all lowS) = true ∧ (pre3.getLast? = some "def own(v):") ∧ ("def own(v):" : Str).length - (Txt.lstrip "def own(v):").length = 0 ∧ (Txt.lstrip "def own(v):").length ≤ ("def own(v):" : Str).length := by decide +kernel
theorem Opn.pre : Opn pre3 1 "v" false := by
  obtain ⟨h1, h2, h3, h4, h5⟩ := pre_lines
  obtain ⟨A, e, i⟩ := pre_inv
  exact ⟨⟨A, e, i⟩, fun l hl => List.all_eq_true.mp h1 l hl, ⟨_, _, rfl, by decide +kernel⟩, ⟨_, h3, h4, by decide +kernel, h5⟩, by decide⟩
theorem strip_le {l : Str} {n : Nat} (h : l.length - (Txt.lstrip l).length = n) (hp : 0 < n) : (Txt.lstrip l).length ≤ l.length := by omega
section
variable {ls : List Str} {d : Nat} {va : Str} {lo : Bool}
theorem Opn.forS (h : Opn ls d va lo) (h3 : d ∈ d123) {fr cu : Str} {w : Bool} (hf : fr ∈ fresh4) (hc : cu ∈ cuts3) : Opn (ls ++ [forL d va fr cu w]) (d + 1) fr true := by
  obtain ⟨A, e, i⟩ := h.st
  obtain ⟨A', e', i'⟩ := i.forS h3 (w := w) hf hc
  have hb : ∀ b : Bool, b ∈ bools := by decide
  have d1 := i.d1
  have l0 := List.all_eq_true.mp (List.all_eq_true.mp (List.all_eq_true.mp (List.all_eq_true.mp (List.all_eq_true.mp for_lines d h3) va i.va) fr hf) cu hc) w (hb w)
  unfold lineB at l0
  simp only [Bool.and_eq_true, decide_eq_true_eq] at l0
  obtain ⟨⟨g, _, _, _, st⟩, _⟩ := l0
  refine ⟨⟨A', ?_, i'.mono (by omega)⟩, fun l hl => ?_, ?_, ⟨_, List.getLast?_concat .., by rw [st]; rfl, gl_len g, strip_le st (by omega)⟩, ?_⟩
  · rw [List.map_append, List.map_singleton, rowsA_snoc e, e']
  · rcases List.mem_append.mp hl with y | y
    · exact h.gl l y
    · rw [List.mem_singleton.mp y]
      exact g
  · obtain ⟨a, r, rfl, x⟩ := h.low
    exact ⟨a, _, rfl, x⟩
  · have := h.len
    rw [List.length_append, List.length_singleton]
    omega
theorem Opn.ifS (h : Opn ls d va lo) (h3 : d ∈ d123) : Opn (ls ++ [ifL d va]) (d + 1) va lo := by
  obtain ⟨A, e, i⟩ := h.st
  obtain ⟨A', e', i', _⟩ := i.ifS h3
  have d1 := i.d1
  have l0 := List.all_eq_true.mp (List.all_eq_true.mp if_lines d h3) va i.va
  unfold lineB at l0
  simp only [Bool.and_eq_true, decide_eq_true_eq] at l0
  obtain ⟨⟨⟨g, _, _, _, st⟩, _⟩, _⟩ := l0
  refine ⟨⟨A', ?_, i'.mono (by omega)⟩, fun l hl => ?_, ?_, ⟨_, List.getLast?_concat .., by rw [st]; rfl, gl_len g, strip_le st (by omega)⟩, ?_⟩
  · rw [List.map_append, List.map_singleton, rowsA_snoc e, e']
  · rcases List.mem_append.mp hl with y | y
    · exact h.gl l y
    · rw [List.mem_singleton.mp y]
      exact g
  · obtain ⟨a, r, rfl, x⟩ := h.low
    exact ⟨a, _, rfl, x⟩
  · have := h.len
    rw [List.length_append, List.length_singleton]
    omega
theorem Opn.elS (h : Opn ls d va lo) (h3 : d ∈ d123) : Opn (ls ++ [ifL d va] ++ [reL d, elL d]) (d + 1) va lo := by
  obtain ⟨A, e, i⟩ := h.st
  obtain ⟨A1, A2, A3, e1, e2, e3, i'⟩ := i.elS h3
  have d1 := i.d1
  have l0 := List.all_eq_true.mp (List.all_eq_true.mp if_lines d h3) va i.va
  unfold lineB at l0
  simp only [Bool.and_eq_true, decide_eq_true_eq] at l0
  obtain ⟨⟨⟨g, _, _, _, _⟩, _⟩, ⟨⟨gr, _⟩, _⟩, ⟨ge, _, _, _, st⟩, _⟩ := l0
  have ea : ls ++ [ifL d va] ++ [reL d, elL d] = ls ++ [ifL d va] ++ [reL d] ++ [elL d] := by simp
  rw [ea]
  refine ⟨⟨A3, ?_, i'.mono (by omega)⟩, fun l hl => ?_, ?_, ⟨_, List.getLast?_concat .., by rw [st]; rfl, gl_len ge, strip_le st (by omega)⟩, ?_⟩
  · have s1 : rowsA T3 AS.init 0 ((ls ++ [ifL d va]).map rowL) = .ok A1 := by
      rw [List.map_append, List.map_singleton, rowsA_snoc e, e1]
    have s2 : rowsA T3 AS.init 0 ((ls ++ [ifL d va] ++ [reL d]).map rowL) = .ok A2 := by
      rw [List.map_append, List.map_singleton, rowsA_snoc s1, e2]
    rw [List.map_append, List.map_singleton, rowsA_snoc s2, e3]
  · simp only [List.mem_append, List.mem_singleton] at hl
    rcases hl with ((y | y) | y) | y
    · exact h.gl l y
    · rw [y]
      exact g
    · rw [y]
      exact gr
    · rw [y]
      exact ge
  · obtain ⟨a, r, rfl, x⟩ := h.low
    exact ⟨a, _, rfl, x⟩
  · have := h.len
    simp only [List.length_append, List.length_singleton]
    omega
end
end TX
namespace TX
open PySem PySem.Spec PyProof.Rows L2 KTD
/-! ### one more line -/
def M0 : Mean := [("own", "function"), ("early", "function")]
def tgts : List Str := ["own", "early", "out"]
def cgW : List Str := ["call", "give"]
def d1234 : List Nat := [1, 2, 3, 4]
abbrev Arg := Str × Str × Str
def ar (a b c : Str) : Arg := (a, b, c)
def givF (va f : Str) : Str := if f = "plain" then va else if f = "wrap" then "[" ++ va ++ "]" else f ++ "(" ++ va ++ ")"
def argsF (va f : Str) : List Arg := [ar (givF va f) "plain" f, ar (givF va f ++ "[0]") "first" f, ar (givF va f ++ "[-1]") "last" f] ++ [ar ("*" ++ givF va f) "spread" f, ar (givF va f ++ "[1]") "wrong" f, ar (givF va f ++ "[:1]") "wrong" f] ++ (if f = "plain" then [] else [ar ("[" ++ givF va f ++ "]" ++ "[0]") "wrong" f])
def endA3 (va : Str) : List Arg := [ar "" "wrong" "", ar ("**" ++ va) "wrong" "", ar (va ++ ", " ++ va) "wrong" ""]
def forms4 : List Str := ["plain", "wrap", "many", "some"]
def argsZ (va : Str) : List Arg := argsF va "plain" ++ argsF va "wrap" ++ argsF va "many" ++ argsF va "some" ++ endA3 va
def isLetZ (t how form : Str) (lo : Bool) : Bool := if how = "wrong" ∨ (how = "plain" ∧ form = "some") then false else decide (how ≠ "plain") || (decide (t ≠ "own") || (decide (form = "plain") && lo))
def callL (d : Nat) (t g : Str) : Str := indS d ++ t ++ "(" ++ g ++ ")"
def tlL (d : Nat) (t s : Str) : Str := indS d ++ t ++ s
def gs4 (va : Str) : List Str := [va, "[" ++ va ++ "]", "some(" ++ va ++ ")", "many(" ++ va ++ ")"]
def tailsO (t g : Str) : List Str := [" += " ++ g, " = " ++ t ++ " + " ++ g, ".join(" ++ g ++ ")"]
def lineT (l : Str) (d : Nat) (hd : Str) : Bool := gl l && (decide ((rowL l).1 = 2 * d) && decide ((rowL l).2.head? = some hd))
def dueF (t : Str) (a : Arg) : List Str := if t = "own" ∧ a.2.1 = "plain" then [] else [a.2.2]
def callB (d : Nat) (va t : Str) (lo : Bool) (a : Arg) : Bool := match readInnerT T3 (rowL (callL d t a.1)).2 va "own" lo M0 with
  | none => !isLetZ t a.2.1 a.2.2 lo
  | some z => isLetZ t a.2.1 a.2.2 lo && (decide (z.deed ∈ cgW) && decide (askedF z (some ("own" : Str)) = dueF t a))
theorem calls_ok : (d1234.all fun d => vs4.all fun va => tgts.all fun t => (argsZ va).all fun a => lineT (callL d t a.1) d t && bools.all fun lo => callB d va t lo a) = true := by decide +kernel
def tailB (d : Nat) (va : Str) (lo : Bool) (l : Str) (ok : Bool) : Bool := match readInnerT T3 (rowL l).2 va "own" lo M0 with
  | none => !ok
  | some z => ok && (decide (z.deed ∈ cgW) && decide ((askedF z (some ("own" : Str))).length ≤ 1))
theorem tails_ok : (d1234.all fun d => vs4.all fun va => (gs4 va).all fun g => ((tailsO "own" g).all fun s => lineT (tlL d "own" s) d "own" && bools.all fun lo => tailB d va lo (tlL d "own" s) false) && (((tailsO "out" g).all fun s => lineT (tlL d "out" s) d "out" && bools.all fun lo => tailB d va lo (tlL d "out" s) true) && (lineT (indS d ++ "out = log + " ++ g) d "out" && bools.all fun lo => tailB d va lo (indS d ++ "out = log + " ++ g) false))) = true := by decide +kernel
theorem args_form : (vs4.all fun va => (argsZ va).all fun a => decide (a.2.2 ∈ forms4) || decide (a.2.1 = "wrong")) = true := by decide +kernel
/-- a name's line asks of the meanings what its name means -/
theorem inner_named {ts : List Str} {va own w : Str} {lo : Bool} {M N : Mean} (h : ts.head? = some w) (hw : w ≠ "for" ∧ w ≠ "if" ∧ w ∉ bareW) (e : (w ∈ TKs ∧ MOk M ∧ MOk N) ∨ meanAt M w = meanAt N w) : readInnerT T3 ts va own lo M = readInnerT T3 ts va own lo N := by
  cases ts with
  | nil => rfl
  | cons u r =>
    have hu : u = w := Option.some.inj h
    subst hu
    obtain ⟨a, b, c⟩ := hw
    unfold readInnerT
    dsimp only
    rw [if_neg a, if_neg a, if_neg b, if_neg b, if_neg c, if_neg c]
    have e2 : readNamedT T3 (u :: r) va own lo M = readNamedT T3 (u :: r) va own lo N := by
      unfold readNamedT
      dsimp only
      rcases e with ⟨hu, oM, oN⟩ | e
      · obtain ⟨a1, a2⟩ := oM.can hu
        obtain ⟨b1, b2⟩ := oN.can hu
        exact (if_neg a2).trans ((if_pos a1).trans ((if_neg b2).trans (if_pos b1)).symm)
      · have ec : canBe M u "taker" = canBe N u "taker" := by
          unfold canBe
          rw [e]
        rw [e, ec]
    rw [e2]
theorem tgt_names : ∀ w ∈ tgts, (w ≠ "for" ∧ w ≠ "if" ∧ w ∉ bareW) ∧ (w = "own" ∨ w = "early" ∨ w ∈ TKs) := by decide +kernel
theorem m0_at : meanAt M0 "own" = some ("function" : Str) ∧ meanAt M0 "early" = some ("function" : Str) ∧ ∀ z ∈ TKs, meanAt M0 z = none ∨ meanAt M0 z = some ("taker" : Str) := by decide +kernel
theorem IvA.named {A : AS} {d m : Nat} {va : Str} {lo : Bool} (h : IvA A d va lo m) {ts : List Str} {w : Str} (hw : w ∈ tgts) (hd : ts.head? = some w) : readInnerT T3 ts va "own" lo A.mean = readInnerT T3 ts va "own" lo M0 := by
  obtain ⟨n1, n2⟩ := tgt_names w hw
  obtain ⟨m1, m2, m3⟩ := m0_at
  refine inner_named hd n1 ?_
  rcases n2 with rfl | rfl | n2
  · exact .inr (h.own.trans m1.symm)
  · exact .inr (h.early.trans m2.symm)
  · exact .inl ⟨n2, h.tk, m3⟩
/-- what stands in a reading was met before -/
theorem accept_fd {T : Tok3} {S S' : RS} {n sp : Nat} {ts : List Str} (g : Good S n) (e : acceptT T S sp ts = some S') : ∃ k z, S.blocks[sp / 2]? = some k ∧ lineOfT T k (sp / 2) ts S.mean = some z ∧ S'.found = S.found ++ (askedF z k.own).map (fun f => (S.lines.length, f)) ∧ S'.lines.length = S.lines.length + 1 := by
  unfold acceptT at e
  split at e
  · cases e
  · split at e
    · cases e
    · rename_i k hk
      split at e
      · cases e
      · rename_i z hz
        split at e
        · cases e
        · cases e
          have hd := (List.getElem?_eq_some_iff.mp hk).1
          obtain ⟨s1, s2, s3, s4, s5⟩ := g.shut (z := z) (d := sp / 2) hd
          have fd : (putS (shutS S (sp / 2) z) z k).found = (shutS S (sp / 2) z).found ++ (askedF z k.own).map (fun f => ((shutS S (sp / 2) z).lines.length, f)) := by
            unfold putS
            split <;> rfl
          have ll : (putS (shutS S (sp / 2) z) z k).lines.length = (shutS S (sp / 2) z).lines.length + 1 := by
            unfold putS
            split <;> (show (List.length (_ ++ _)) = _) <;> rw [List.length_append] <;> rfl
          exact ⟨k, z, hk, hz, by rw [fd, s4, s2], by rw [ll, s2]⟩
theorem rows_fd {T : Tok3} (hT : T.ok) : ∀ {rows : List (Nat × List Str)} {S S' : RS} {n m : Nat}, rowsT T S n rows = .ok S' → RowsOk T.tbs rows → Good S m → (∀ p ∈ S.found, p.1 < S.lines.length) → (∀ p ∈ S'.found, p.1 < S'.lines.length) ∧ S'.lines.length = S.lines.length + rows.length ∧ Good S' (m + rows.length)
  | [], S, S', n, m, h, _, g, hf => by
    cases h
    exact ⟨hf, rfl, g⟩
  | (a, b) :: r, S, S', n, m, h, ok, gS, hf => by
    have h : (match acceptT T S a b with | none => .error n | some S2 => rowsT T S2 (n + 1) r) = (.ok S' : Except Nat RS) := h
    obtain ⟨k1, k2⟩ := ok _ List.mem_cons_self
    cases e : acceptT T S a b with
    | none =>
      rw [e] at h
      cases h
    | some S2 =>
      rw [e] at h
      have e2 : acceptS T.tbs S a b = some S2 := (accept_is hT gS k1).trans e
      obtain ⟨k, z, _, _, f2, l2⟩ := accept_fd gS e
      obtain ⟨q1, q2, q3⟩ := rows_fd hT h (fun x hx => ok x (List.mem_cons_of_mem _ hx)) (accept_good gS e2 k1 k2).1 (fun p hp => by
        rw [f2] at hp
        rcases List.mem_append.mp hp with y | y
        · have := hf p y
          omega
        · obtain ⟨f, _, rfl⟩ := List.mem_map.mp y
          show S.lines.length < S2.lines.length
          omega)
      refine ⟨q1, ?_, ?_⟩
      · rw [q2, l2, List.length_cons]
        omega
      · rw [List.length_cons, show m + (r.length + 1) = m + 1 + r.length by omega]
        exact q3
theorem rowsT_snoc {T : Tok3} {x : Nat × List Str} : ∀ {r1 : List (Nat × List Str)} {S S' : RS} {n : Nat}, rowsT T S n r1 = .ok S' → rowsT T S n (r1 ++ [x]) = match acceptT T S' x.1 x.2 with
    | none => .error (n + r1.length)
    | some S2 => .ok S2
  | [], S, S', n, h => by
    cases h
    obtain ⟨sp, ts⟩ := x
    show (match acceptT T S sp ts with | none => _ | some S2 => rowsT T S2 (n + 1) []) = _
    cases acceptT T S sp ts <;> rfl
  | (a, b) :: r, S, S', n, h => by
    show (match acceptT T S a b with | none => _ | some S2 => rowsT T S2 (n + 1) (r ++ [x])) = _
    have h : (match acceptT T S a b with | none => .error n | some S2 => rowsT T S2 (n + 1) r) = (.ok S' : Except Nat RS) := h
    cases e : acceptT T S a b with
    | none =>
      rw [e] at h
      cases h
    | some S2 =>
      rw [e] at h
      dsimp only at h ⊢
      rw [rowsT_snoc h, show n + 1 + r.length = n + ((a, b) :: r).length by rw [List.length_cons]; omega]
theorem cg_not : ∀ w ∈ cgW, w ∉ openW ∧ w ≠ "else" ∧ w ≠ "def" := by decide +kernel
theorem Opn.more {ls : List Str} {d : Nat} {va : Str} {lo : Bool} (h : Opn ls d va lo) (h4 : d ≤ 4) {l w : Str} (hl : lineT l d w = true) (hw : w ∈ tgts) : TextOk (Txt.join "\n" (ls ++ [l])) ((ls ++ [l]).map cs) ((ls ++ [l]).map rowL) ∧
    (readInnerT T3 (rowL l).2 va "own" lo M0 = none → allT T3 ((ls ++ [l]).map rowL) = .error ls.length) ∧
    ∀ z, readInnerT T3 (rowL l).2 va "own" lo M0 = some z → z.deed ∈ cgW → (askedF z (some ("own" : Str))).length ≤ 1 → ∃ S, allT T3 ((ls ++ [l]).map rowL) = .ok S ∧ (opsOf S).length ≤ 4 ∧ S.found.length ≤ 12 ∧ S.found.filter (fun p => decide (p.1 = ls.length)) = (askedF z (some ("own" : Str))).map (fun f => (ls.length, f)) := by
  obtain ⟨A, e, i⟩ := h.st
  unfold lineT at hl
  simp only [Bool.and_eq_true, decide_eq_true_eq] at hl
  obtain ⟨g, sp, hd⟩ := hl
  have ne : (rowL l).2 ≠ [] := fun z => by rw [z] at hd; cases hd
  have ll := h.len
  have tx : TextOk (Txt.join "\n" (ls ++ [l])) ((ls ++ [l]).map cs) ((ls ++ [l]).map rowL) := by
    refine text_of (List.all_eq_true.mpr fun x hx => ?_) (by simp) (by rw [List.length_append, List.length_singleton]; omega) (.inl ?_)
    · rcases List.mem_append.mp hx with y | y
      · exact h.gl x y
      · rw [List.mem_singleton.mp y]
        exact g
    · obtain ⟨a, r, rfl, x⟩ := h.low
      rw [List.cons_append, List.any_cons, x]
      rfl
  obtain ⟨k, hk, kv, ko, kl, ea⟩ := i.acc ne
  rw [i.named hw hd, ← sp] at ea
  have er : (ls ++ [l]).map rowL = ls.map rowL ++ [rowL l] := by
    rw [List.map_append]
    rfl
  have ok1 : RowsOk T3.tbs (ls.map rowL) := fun x hx => tx.ok x (by rw [er]; exact List.mem_append_left _ hx)
  refine ⟨tx, fun hn => ?_, fun z hz hc ha => ?_⟩
  · rw [hn] at ea
    have vA : verdictA T3 ((ls ++ [l]).map rowL) = (some ls.length, true) := by
      unfold verdictA
      rw [er, rowsA_snoc e, ea, List.length_map]
      rw [Nat.zero_add]
      rfl
    have v2 := verdict_abs T3_ok tx.ok vA
    cases hall : allT T3 ((ls ++ [l]).map rowL) with
    | error n =>
      rw [hall] at v2
      have : some n = some ls.length := congrArg Prod.fst v2
      cases this
      rfl
    | ok S =>
      rw [hall] at v2
      have := congrArg Prod.fst v2
      cases this
  · rw [hz] at ea
    dsimp only at ea
    obtain ⟨c1, c2, c3⟩ := cg_not _ hc
    rw [if_neg (fun y => c2 y.1)] at ea
    have vA : verdictA T3 ((ls ++ [l]).map rowL) = (none, true) := by
      unfold verdictA
      rw [er, rowsA_snoc e, ea]
      show (if (A.put d z k).whole = true then _ else _) = _
      have wh : (A.put d z k).whole = true := by
        unfold AS.whole AS.put
        dsimp only
        rw [decide_eq_false c1]
        rfl
      have nf : (A.put d z k).nf ≤ 12 := by
        show A.nf + (askedF z k.own).length ≤ 12
        rw [ko]
        have := i.nf
        omega
      have nd : (A.put d z k).nd ≤ 4 := by
        show A.nd + (if z.deed = "def" then 1 else 0) ≤ 4
        rw [if_neg c3, i.nd]
        decide
      rw [wh, if_pos rfl, decide_eq_true nf, decide_eq_true nd]
      rfl
    have v2 := verdict_abs T3_ok tx.ok vA
    cases hall : allT T3 ((ls ++ [l]).map rowL) with
    | error n =>
      rw [hall] at v2
      have := congrArg Prod.fst v2
      cases this
    | ok S =>
      rw [hall] at v2
      have := congrArg Prod.snd v2
      unfold verdict at this
      dsimp only at this
      rw [Bool.and_eq_true, decide_eq_true_eq, decide_eq_true_eq] at this
      refine ⟨S, rfl, this.1, this.2, ?_⟩
      -- what was asked
      have ra := rows_abs T3_ok (rows := ls.map rowL) (n := 0) Good.init ok1
      have i0 : AS.init = absS RS.init := rfl
      rw [← i0, e] at ra
      unfold allT at hall
      cases hr : rowsT T3 RS.init 0 (ls.map rowL) with
      | error n =>
        rw [hr] at ra
        cases ra
      | ok S0 =>
        rw [hr] at ra
        have eA : absS S0 = A := Except.ok.inj ra
        obtain ⟨f0, l0, g0⟩ := rows_fd T3_ok hr ok1 Good.init (fun p hp => nomatch hp)
        rw [er, rowsT_snoc hr] at hall
        cases ha2 : acceptT T3 S0 (rowL l).1 (rowL l).2 with
        | none =>
          rw [ha2] at hall
          cases hall
        | some S2 =>
          rw [ha2] at hall
          dsimp only at hall
          obtain ⟨k2, z2, hk2, hz2, f2, _⟩ := accept_fd g0 ha2
          split at hall
          · cases hall
            have d2 : (rowL l).1 / 2 = d := by
              rw [sp]
              omega
            rw [d2] at hk2 hz2
            have hk3 : A.bl[d]? = some (absB (zsOf S0.lines) k2) := by
              rw [← eA]
              show (S0.blocks.map (absB (zsOf S0.lines)))[d]? = _
              rw [List.getElem?_map, hk2]
              rfl
            rw [hk] at hk3
            have ek : k = absB (zsOf S0.lines) k2 := Option.some.inj hk3
            have lz : lineA T3 k d (rowL l).2 A.mean = some z2 := by
              rw [ek, ← eA]
              exact hz2
            have lz2 : lineA T3 k d (rowL l).2 A.mean = some z := by
              unfold lineA
              rw [if_neg (by have := i.d1; omega), kv, ko, kl]
              exact (i.named hw hd).trans hz
            rw [lz] at lz2
            cases lz2
            have ko2 : k2.own = some ("own" : Str) := by
              rw [← ko, ek]
              rfl
            have ln : S0.lines.length = ls.length := by
              rw [l0, List.length_map]
              show 0 + _ = _
              omega
            show S2.found.filter _ = _
            rw [f2, List.filter_append, ko2, ln]
            have e1 : S0.found.filter (fun p => decide (p.1 = ls.length)) = [] := by
              refine List.filter_eq_nil_iff.mpr fun p hp => ?_
              have := f0 p hp
              rw [ln] at this
              rw [decide_eq_false (by omega)]
              exact Bool.false_ne_true
            have e2 : ((askedF z (some ("own" : Str))).map (fun f => (ls.length, f))).filter (fun p => decide (p.1 = ls.length)) = (askedF z (some ("own" : Str))).map (fun f => (ls.length, f)) := by
              refine List.filter_eq_self.mpr fun p hp => ?_
              obtain ⟨f, _, rfl⟩ := List.mem_map.mp hp
              exact decide_eq_true rfl
            rw [e1, e2]
            rfl
          · cases hall
end TX
namespace TX
open PySem PySem.Spec PyProof.Rows L2
/-! ### objects made in a try's body by an __init__ that may raise -/
section
variable {X : Cx} {CX : CXT} {C f : Addr} {k : Nat} {fd : FuncData} {ps : List Str} {sp : Sp} {E : L2.St → XK}
theorem run_makeS {pins : List (Addr × Obj)} {σ : L2.St} {H : Hp} {s : Shared} {Q : VK} {us : List Value} {vs : List V} (M : Mk X.K C f) (F : FnOk X.prog X.w X.K X.mg X.base CX k f fd ps sp) (hr : Room (k + 1) X.A) (hb : Binds X.K fd ps [])
    (hx : PassesAt CX X σ (E σ)) (I : Inv X pins σ H s) (r : Vals vs us)
    (h : ∀ x dx, H x = none → H dx = none → dx ≠ x → sp (.ref x :: (vs ++ [])) (upd (upd H dx (.own x)) x (.ins C dx [])) (fun v H2 => v = .non ∧ Q (.ref x) H2) (E σ)) :
    wpAny (model X.prog X.w) X.A (call (.ref C) us) (EP X pins σ Q) X.xe s := by
  have hq := h (s.heap.objs.size + 1) s.heap.objs.size (I.hok.fresh (Nat.le_succ _)) (I.hok.fresh (Nat.le_refl _)) (Nat.ne_of_lt (Nat.lt_succ_self _))
  have I2 := Inv.made (C := C) I
  have r2 : Vals (V.ref (s.heap.objs.size + 1) :: (vs ++ [])) (Value.ref (s.heap.objs.size + 1) :: (us ++ [])) := .cons rfl (r.append .nil)
  have hl : (Value.ref (s.heap.objs.size + 1) :: us ++ []).length = ps.length := by
    have e := r2.length
    rw [F.len _ _ _ _ hq] at e
    exact e.symm
  refine wpAny_call (make_map (f := f) I.kIn M.makes M.init (beq_iff_eq.mp M.fn) (codeAny_mono (F.run _ X.stack _ _ ⟨Value.ref (s.heap.objs.size + 1) :: us, []⟩ (Value.ref (s.heap.objs.size + 1) :: (us ++ [])) _ _ (E σ) (hr.make C us [])
    (I2.env0.make C us []) (by have z := hb _ (Value.ref (s.heap.objs.size + 1) :: us) I2.kIn hl; rw [List.cons_append] at z; exact z) r2 hq) fun r s' hq' => ?_))
  cases r with
  | error e => exact hx pins _ _ e s' I2 hq'
  | ok fl =>
    cases fl with
    | ret u =>
      obtain ⟨v, H', I3, rv, ev, q3⟩ := I2.after hq'
      subst ev
      exact ⟨rv, ⟨V.ref (s.heap.objs.size + 1), H', I3, rfl, q3⟩⟩
    | next => exact False.elim hq'
    | brk => exact False.elim hq'
    | cont => exact False.elim hq'
def tMakeS (C : Addr) (sp : Sp) (E : L2.St → XK) (t : TA) : TE := fun σ H Q => t σ H fun vs H1 => ∀ x dx, H1 x = none → H1 dx = none → dx ≠ x → sp (.ref x :: (vs ++ [])) (upd (upd H1 dx (.own x)) x (.ins C dx [])) (fun v H2 => v = .non ∧ Q (.ref x) H2) (E σ)
theorem pe_makeS {x : Str} {p pos : Pos} {e : Expr} {es : List Expr} {t : TA} (M : Mk X.K C f) (F : FnOk X.prog X.w X.K X.mg X.base CX k f fd ps sp) (hr : Room (k + 1) X.A) (hg : Gl X x) (hm : X.mg x = some (.ref C)) (hb : Binds X.K fd ps []) (hx : ∀ σ, PassesAt CX X σ (E σ))
    (ha : PA X (e :: es) t) (hdb : (x == ("__debug__" : Str)) = false := by decide) (he : starEach (e :: es) X.env = (false, eval e X.env) :: starEach es X.env := by rfl) (hpl : (backTo pos (starEach es X.env)).any (·.1) = false := by rfl) :
    PE X (.Call (.Name x p) (e :: es) [] pos) (tMakeS C sp E t) := by
  refine ⟨fun pins s σ H Q I h => ?_⟩
  refine wpAny_Call_Name_kw (ld_glob I hg hm ?_ hdb)
  refine PySem.W.callWith_K (h₀ := X.base) I.ok.mod.kin M.kp (thn (ha.run pos pins s σ H _ I h) fun us s1 ⟨vs, H1, I1, r, q⟩ => ⟨I1.kIn, ?_⟩) he hpl
  exact run_makeS M F hr hb (hx σ) I1 r q
end
end TX
namespace TX
open PySem PySem.Spec PyProof.Rows L2 KTD
/-! ### the line at which lines are wrong -/
theorem joinL_sum {z : List Nat} : ∀ {ps : List (List Nat)}, (ps.map (·.length)).sum ≤ (joinL z ps).length
  | [] => Nat.le_refl _
  | [a] => by
    show _ ≤ a.length
    simp
  | a :: b :: r => by
    have := joinL_sum (z := z) (ps := b :: r)
    show _ ≤ (a ++ z ++ joinL z (b :: r)).length
    rw [List.length_append, List.length_append, List.map_cons, List.sum_cons]
    omega
theorem text_sum {lines : List Str} {rows : List (Nat × List Str)} (tx : TextOk (Txt.join "\n" lines) (lines.map cs) rows) : (lines.map (·.length)).sum + lines.length * ("\n" : Str).length ≤ 16777216 := by
  have e1 := joinL_sum (z := [10]) (ps := lines.map cs)
  have e2 := joinL_many (c := 10) (ps := lines.map cs)
  rw [← tx.cut] at e1 e2
  have e3 : (cleanZ (Txt.join "\n" lines)).cps.toList.length = (Txt.join "\n" lines).length := by
    rw [← clean_len (Txt.join "\n" lines)]
    simp [Str.length]
  have e4 : ((lines.map cs).map (·.length)) = lines.map (·.length) := by
    rw [List.map_map]
    apply List.map_congr_left
    intro s _
    simp [cs, Str.length]
  have e5 : ("\n" : Str).length = 1 := rfl
  have := tx.len
  rw [e4] at e1
  rw [List.length_map] at e2
  rw [e5]
  omega
def wrongZ (e : Except Nat RS) : V := match e with
  | .error n => .int (n : Nat)
  | .ok _ => .non
def spWrong (K : PySem.W.Frag) : Sp := fun vs H Q _ => ∃ (l : Addr) (lines : List Str) (rows : List (Nat × List Str)), vs = [.ref l] ∧ SqL K H l (lines.map V.str) ∧ TextOk (Txt.join "\n" lines) (lines.map cs) rows ∧ (∀ S, allT T3 rows = .ok S → (opsOf S).length ≤ 4 ∧ S.found.length ≤ 12) ∧ ∀ H', Same H H' → Q (wrongZ (allT T3 rows)) H'
def tJoinN (K : PySem.W.Frag) : L2.TE := tM1 (fun x xs H Q => ∃ a p, ∃ ys : List Str, x = .str a ∧ xs = [.ref p] ∧ (SqL K H p (ys.map V.str) ∨ SqT K H p (ys.map V.str)) ∧ (ys.map (·.length)).sum + ys.length * a.length ≤ 16777216 ∧ Q (.str (Txt.join a ys)) H) (tC (.str "\n")) (tVar 0)
section
variable {P : Program} {w : World} {K : PySem.W.Frag} {mg : Str → Option Value} {base : Heap} {C CB CR CP TE BP TM : Addr} {mc : Value}
theorem scWrong : FnScope ["_law_lines", "_law_wrong_here", "e"] ["_law_lines"] (defScope s__law_wrong) := ⟨rfl, rfl, rfl, by decide +kernel, rfl, by decide +kernel, by decide +kernel⟩
theorem ok_wrong {f fP : Addr} {fd dP : FuncData} (F : Fun K "_law_wrong" "_law_wrong" s__law_wrong f fd) (G : PgC K mg CP mc) (MP : Mk K CP fP) (GP : FnOk P w K mg base (L2.CX P w) 9 fP dP ["self", "text"] (spProg K C CB CR CP BP TM T3.tbs)) (bP : Binds K dP ["self", "text"] [])
    (c : Cl K mg TE "BadProgram" BP) (nL : PySem.W.findIn K (.ref BP) "line" = some none) : FnOk P w K mg base CX0 11 f fd ["_law_lines"] (spWrong K) := by
  refine F.ok scWrong (fun vs H Q E h => ?_) (fun cdv A outer s H vs Q E h1 h => ?_)
  · obtain ⟨l, lines, rows, rfl, _⟩ := h
    rfl
  · have hr := h1
    obtain ⟨l, lines, rows, rfl, hl, tx, few, q⟩ := h
    refine ⟨_, pss_cons (ps_set (i := 1) scWrong.nd rfl (.inl rfl) pe_non) <|
      pss_cons (ps_try_as (i := 2) (tb := fun W => tDrop (tMakeS CP (spProg K C CB CR CP BP TM T3.tbs) (WE W) (tCons (tJoinN K) tNil))) (ts := fun a cls d => tAsg (tFe K a cls d "line" (tVar 2)) (gName 1)) (Wout := fun _ _ _ _ => False) rfl rfl scWrong.nd rfl rfl ⟨rfl, by decide, Or.inl c.mgC⟩ take0
        (fun W pn xe tk _ => pss_one (ps_expr (by exact (pe_makeS MP GP hr (by rfl) G.mgP bP (fun σ => passAt tk σ) (by exact (pa_cons (pe_join pe_str (pv 0)) pa_nil))))))
        (fun a oe cls d pn hz hf => pss_one (ps_set (i := 1) scWrong.nd rfl (.inl rfl) (pe_fe hz hf (pv 2))))) <|
      pss_one (ps_ret (pv 1)), ?_⟩
    have self : PySem.W.exmOne K (.ref BP) (.ref BP) = some true := by
      refine PySem.W.exm_ref c.ec.hs c.ec.hd c.ty ?_
      obtain ⟨cd, hc, hm⟩ := c.mro
      show PySem.W.mroIn K BP (.ref BP) = _
      rw [mro_is hc hm rfl]
      have f1 : (Value.ref BP == Value.ref BP) = true := beq_self_eq_true _
      simp only [List.contains_cons, f1, Bool.true_or]
    refine ⟨⟨_, rfl⟩, _, rfl, "\n", l, lines, rfl, rfl, .inl hl, text_sum tx, ?_⟩
    intro x dx nx ndx nex
    have s0 : Same H (upd (upd H dx (.own x)) x (.ins CP dx [])) := same_fresh nx (same_upd ndx)
    have e0 := upd_same (H := upd H dx (.own x)) (a := x) (o := .ins CP dx [])
    generalize upd (upd H dx (.own x)) x (.ins CP dx []) = H0 at s0 e0 ⊢
    have al : readAll T3.tbs ((lines.map cs).map rowOf) = allT T3 rows := by
      rw [tx.rw]
      exact all_is T3_ok tx.ok
    have back : ∀ {G : Hp}, (∀ b o, b ≠ x → H0 b = some o → G b = some o) → Same H G := fun k b o e => k b o (ne_of_none e nx) (s0 _ _ e)
    refine ⟨x, dx, Txt.join "\n" lines, lines.map cs, rfl, e0, tx.len, tx.cut, tx.ne, tx.no, by rw [tx.rw]; exact tx.ok, ?_, ?_, ?_, ?_⟩
    · intro S eS h4 h12 H2 k2 _
      rw [al] at eS
      have q := q H2 (back k2)
      rw [eS] at q
      exact ⟨rfl, _, rfl, q⟩
    · intro S eS h4
      rw [al] at eS
      have := (few S eS).1
      omega
    · intro S eS h4 h12
      rw [al] at eS
      have := (few S eS).2
      omega
    · intro n eS H2 k2 H3 dx3 s3 hx3
      rw [al] at eS
      have q := q H3 ((back k2).trans s3)
      rw [eS] at q
      refine ⟨true, self, fun _ a na => ?_, fun z => nomatch z⟩
      refine ⟨BP, rfl, c.xf, nL, _, rfl, rfl, rfl, dx3, _, _, rfl, hx3, rfl, ?_⟩
      exact ⟨_, rfl, q⟩
end
end TX
namespace TX
open PySem PySem.Spec PyProof.Rows L2
/-! ### a text so many times -/
theorem op_mulS {X : Cx} : OpR X (binaryOp .Mult) (fun x y H Q => ∃ (z : Str) (n : Nat), x = .str z ∧ y = .int (n : Nat) ∧ MulOk z (n : Nat) ∧ Q (.str (Txt.mul z (n : Nat))) H) := by
  intro pins s σ H x y v u Q I rx ry h
  obtain ⟨z, n, rfl, rfl, ok, q⟩ := h
  obtain ⟨t, rfl⟩ := rx
  obtain ⟨t', rfl⟩ := ry
  exact SB.mul ok fun t' k => ⟨.str _, H, I.tok _, ⟨_, rfl⟩, q⟩
theorem mulOk_two : ∀ d : Nat, d ≤ 10 → MulOk "  " (d : Nat) := by
  have key : ∀ d : Fin 11, MulOk "  " ((d.1 : Nat) : Int) := by
    intro d
    refine ⟨?_, fun _ _ => ?_, fun _ _ => ?_⟩
    · revert d
      decide +kernel
    · revert d
      decide +kernel
    · revert d
      decide +kernel
  exact fun d h => key ⟨d, by omega⟩
theorem mul_two : ∀ d : Nat, d ≤ 10 → Txt.mul "  " (d : Nat) = ⟨Array.replicate (2 * d) 32⟩ := by
  have key : ∀ d : Fin 11, Txt.mul "  " ((d.1 : Nat) : Int) = ⟨Array.replicate (2 * d.1) 32⟩ := by decide +kernel
  exact fun d h => key ⟨d, by omega⟩
end TX
namespace TX
open PySem PySem.Spec PyProof.Rows L2 KTD
/-! ### draws -/
theorem ps_altB {X : Cx} {ss : List Stmt} {t u : TS} (h1 : PSs X ss t) (h2 : PSs X ss u) : PSs X ss (fun D σ H => t D σ H ∨ u D σ H) :=
  ⟨fun pins s σ H D I h => h.elim (h1.run pins s σ H D I) (h2.run pins s σ H D I)⟩
structure Nd (mg : Str → Option Value) : Prop where
  len : mg "len" = none
  abs : mg "abs" = none
  int : mg "int" = none
  range : mg "range" = none
/-- a bag of draws: the digits, the number, how many were mixed (at most n) -/
def BagAt (H : Hp) (p : Addr) (n : Int) : Prop := ∃ x y z : Int, H p = some (.lst [.int x, .int y, .int z]) ∧ 0 ≤ y ∧ y ≤ 11529215047000000000 ∧ 0 ≤ z ∧ z ≤ n
theorem BagAt.le {H : Hp} {p : Addr} {n m : Int} (h : BagAt H p n) (e : n ≤ m) : BagAt H p m := let ⟨x, y, z, a, b, c, d, f⟩ := h; ⟨x, y, z, a, b, c, d, Int.le_trans f e⟩
theorem BagAt.up {H H' : Hp} {p : Addr} {n : Int} (h : BagAt H p n) (e : Same H H') : BagAt H' p n := let ⟨x, y, z, a, b⟩ := h; ⟨x, y, z, e _ _ a, b⟩
theorem BagAt.ne {H : Hp} {p : Addr} {n : Int} (h : BagAt H p n) : H p ≠ none := by
  obtain ⟨x, y, z, a, _⟩ := h
  rw [a]
  exact fun z => nomatch z
theorem BagAt.nex {H : Hp} {p q : Addr} {n : Int} (h : BagAt H p n) (e : H q = none) : p ≠ q := fun z => h.ne (z ▸ e)
def spBag (K : PySem.W.Frag) : Sp := fun vs H Q _ => ∃ (a : Addr) (ns : List Int) (at_ : Nat), vs = [.ref a, .int at_] ∧ SqL K H a (ns.map V.int) ∧ at_ ≤ 63 ∧
  ∀ (H' : Hp) (p : Addr), Same H H' → H p = none → BagAt H' p 0 → Q (.ref p) H'
def spTake : Sp := fun vs H Q _ => ∃ (p : Addr) (m n : Int), vs = [.ref p, .int m] ∧ BagAt H p n ∧ n ≤ 1000000000 ∧ 0 < m ∧ m ≤ 1000000 ∧
  ∀ (x y z d : Int), 0 ≤ y → y ≤ 11529215047000000000 → 0 ≤ z → z ≤ n + 1 → 0 ≤ d → d < m → Q (.int d) (upd H p (.lst [.int x, .int y, .int z]))
/-- an item of a list, or a sign of a text -/
def spOf : Sp := fun vs H Q _ => ∃ (p : Addr) (n : Int), BagAt H p n ∧ n ≤ 1000000000 ∧
  ((∃ (l : Addr) (xs : List V), vs = [.ref p, .ref l] ∧ H l = some (.lst xs) ∧ l ≠ p ∧ 0 < xs.length ∧ xs.length ≤ 1000000 ∧ ∀ (x y z : Int) (v : V), BagAt (upd H p (.lst [.int x, .int y, .int z])) p (n + 1) → v ∈ xs → Q v (upd H p (.lst [.int x, .int y, .int z]))) ∨
   (∃ w : Str, vs = [.ref p, .str w] ∧ 0 < w.length ∧ w.length ≤ 1000 ∧ ∀ (x y z : Int) (c : Nat), BagAt (upd H p (.lst [.int x, .int y, .int z])) p (n + 1) → c ∈ w.cps.toList → Q (.str ⟨#[c]⟩) (upd H p (.lst [.int x, .int y, .int z]))))
section
variable {P : Program} {w : World} {K : PySem.W.Frag} {mg : Str → Option Value} {base : Heap}
theorem scBag : FnScope ["_law_script", "_law_at", "_law_cell", "_law_digits"] ["_law_script", "_law_at"] (defScope sBag) := ⟨rfl, rfl, rfl, by decide +kernel, rfl, by decide +kernel, by decide +kernel⟩
theorem ok_bag {f : Addr} {fd : FuncData} {k : Nat} (F : Fun K "_law_bag" "_law_bag" sBag f fd) (T : Nd mg) : FnOk P w K mg base CX0 (k + 1) f fd ["_law_script", "_law_at"] (spBag K) := by
  refine F.ok scBag (fun vs H Q E h => ?_) (fun cdv A outer s H vs Q E hr h => ?_)
  · obtain ⟨a, ns, i, rfl, _⟩ := h
    rfl
  · obtain ⟨a, ns, i, rfl, hS, hi, q⟩ := h
    refine ⟨_, C8.pss_cut (ps_set (i := 2) scBag.nd rfl (.inl rfl) (pe_ifExp (pt_cmpR op_lt (pv 1) (pe_callB call_len_seq (by rfl) T.len PySem.boot_len (pa_cons (pv 0) pa_nil)) (nomark _)) (pe_ix ix_list (pv 0) (pv 1) (fun _ _ => rfl)) pe_int)) <|
      C8.pss_cut (ps_set (i := 3) scBag.nd rfl (.inl rfl) (pe_ifExp (pt_cmpR op_ge (pe_callB call_abs (by rfl) T.abs (by decide +kernel) (pa_cons (pv 2) pa_nil)) (pe_op op_pow pe_int pe_int) (nomark _)) (pe_callB call_abs (by rfl) T.abs (by decide +kernel) (pa_cons (pv 2) pa_nil)) pe_int)) <|
      pss_one (ps_ret (pe_lst (pa_cons (pv 3) (pa_cons (pe_op op_add (pe_op op_add (pe_op op_mul (pe_op op_mod (pe_callTy call_int1 (by rfl) T.int (by decide +kernel) (pa_cons (pv 2) pa_nil)) pe_int) pe_int) (pe_op op_mul pe_int (pv 1))) pe_int) (pa_cons pe_int pa_nil))))), ?_⟩
    refine ⟨fun σ G => G = H ∧ ∃ c : Int, σ = [some (.ref a), some (.int i), some (.int c), none], ?_, ?_⟩
    · refine ⟨_, rfl, _, rfl, a, _, rfl, .inl hS, _, _, rfl, rfl, _, rfl, ?_⟩
      refine ite2 (fun hlt => ?_) (fun hge => ?_)
      · have hlt' : i < ns.length := by
          have e := of_decide_eq_true hlt
          rw [List.length_map] at e
          omega
        exact ⟨_, rfl, _, rfl, a, _, _, .int ns[i], rfl, rfl, hS, atI_nat (by rw [List.getElem?_map, List.getElem?_eq_getElem hlt']; rfl), rfl, _, rfl⟩
      · exact ⟨rfl, _, rfl⟩
    · rintro σ G ⟨rfl, c, rfl⟩
      refine ⟨fun σ H => H = G ∧ ∃ u : Int, σ = [some (.ref a), some (.int i), some (.int c), some (.int u)], ?_, ?_⟩
      · refine ⟨_, rfl, _, rfl, _, _, rfl, rfl, ⟨by decide, by decide, by decide⟩, _, _, rfl, rfl, _, rfl, ?_⟩
        refine ite2 (fun _ => ?_) (fun _ => ?_)
        · exact ⟨_, rfl, _, rfl, rfl, _, rfl⟩
        · exact ⟨rfl, _, rfl⟩
      · rintro σ H ⟨rfl, u, rfl⟩
        refine ⟨_, rfl, _, rfl, .inl ⟨_, rfl, _, _, rfl, rfl, (by show (0 : Int) < 2305843009213693951; decide), _, _, rfl, rfl, .inr ⟨by decide, by decide⟩, _, rfl, _, _, rfl, rfl, .inl ⟨by decide, by decide⟩, _, _, rfl, rfl, _, _, rfl, rfl, (by show 3 ≤ sizeLine; decide), fun p np => ?_⟩⟩
        have h1 := Int.emod_nonneg c (show (2305843009213693951 : Int) ≠ 0 by decide)
        have h2 := Int.emod_lt_of_pos c (show (0 : Int) < 2305843009213693951 by decide)
        exact q _ p (same_upd np) np ⟨_, _, _, upd_same, by omega, by omega, by omega, by omega⟩
theorem scTake : FnScope ["_law_bag_here", "_law_many", "_law_digit", "_law_mixed"] ["_law_bag_here", "_law_many"] (defScope sTake) := ⟨rfl, rfl, rfl, by decide +kernel, rfl, by decide +kernel, by decide +kernel⟩
theorem ok_take {f : Addr} {fd : FuncData} {k : Nat} (F : Fun K "_law_take" "_law_take" sTake f fd) (T : Nd mg) : FnOk P w K mg base CX0 (k + 1) f fd ["_law_bag_here", "_law_many"] spTake := by
  refine F.ok scTake (fun vs H Q E h => ?_) (fun cdv A outer s H vs Q E hr h => ?_)
  · obtain ⟨p, m, n, rfl, _⟩ := h
    rfl
  · obtain ⟨p, m, n, rfl, ⟨x, y, z, hp, hy0, hy1, hz0, hz1⟩, hn, hm, hm2, q⟩ := h
    refine ⟨_, pss_cons (ps_if (pt_cmpR op_gt (pe_ix ix_list (pv 0) pe_int (fun _ _ => rfl)) pe_int (nomark _))
        (pss_cons (ps_set (i := 2) scTake.nd rfl (.inl rfl) (pe_op op_mod (pe_callTy call_int1 (by rfl) T.int (by decide +kernel) (pa_cons (pe_ix ix_list (pv 0) pe_int (fun _ _ => rfl)) pa_nil)) (pv 1))) <|
         pss_cons (ps_asg (pe_op op_fdiv (pe_ix ix_list (pv 0) pe_int (fun _ _ => rfl)) (pv 1)) (pg_sub (pv 0) pe_int set_list)) <|
         pss_one (ps_ret (pv 2))) pss_nil) <|
      pss_cons (ps_asg (pe_op op_add (pe_ix ix_list (pv 0) pe_int (fun _ _ => rfl)) pe_int) (pg_sub (pv 0) pe_int set_list)) <|
      pss_cons (ps_set (i := 3) scTake.nd rfl (.inl rfl) (pe_op op_mod (pe_callTy call_int1 (by rfl) T.int (by decide +kernel) (pa_cons (pe_op op_pow (pe_op op_add (pe_ix ix_list (pv 0) pe_int (fun _ _ => rfl)) (pe_op op_mul pe_int (pe_ix ix_list (pv 0) pe_int (fun _ _ => rfl)))) pe_int) pa_nil)) pe_int)) <|
      pss_cons (ps_set (i := 3) scTake.nd rfl (.inl rfl) (pe_op op_mod (pe_callTy call_int1 (by rfl) T.int (by decide +kernel) (pa_cons (pe_op op_pow (pe_op op_add (pv 3) (pe_op op_mul pe_int (pe_ix ix_list (pv 0) pe_int (fun _ _ => rfl)))) pe_int) pa_nil)) pe_int)) <|
      pss_one (ps_ret (pe_op op_mod (pe_callTy call_int1 (by rfl) T.int (by decide +kernel) (pa_cons (pe_op op_fdiv (pv 3) pe_int) pa_nil)) (pv 1))), ?_⟩
    have i0 : atI [V.int x, V.int y, V.int z] 0 = some (.int x) := atI_nat (j := 0) rfl
    have i1 : atI [V.int x, V.int y, V.int (z + 1)] 1 = some (.int y) := atI_nat (j := 1) rfl
    have i2 : atI [V.int x, V.int y, V.int z] 2 = some (.int z) := atI_nat (j := 2) rfl
    have j2 : atI [V.int x, V.int y, V.int (z + 1)] 2 = some (.int (z + 1)) := atI_nat (j := 2) rfl
    refine ⟨_, rfl, p, _, 0, _, rfl, rfl, SqL.of hp, i0, _, _, rfl, rfl, _, rfl, ?_⟩
    refine ite2 (fun hx => ?_) (fun hx => ?_)
    · refine ⟨_, rfl, p, _, 0, _, rfl, rfl, SqL.of hp, i0, .inl ⟨_, rfl, _, rfl, _, _, rfl, rfl, hm, ?_⟩⟩
      refine ⟨_, rfl, p, _, 0, _, rfl, rfl, SqL.of hp, i0, _, rfl, _, _, rfl, rfl, ⟨hm, by omega⟩, ?_⟩
      refine ⟨_, rfl, p, _, 0, 0, rfl, rfl, hp, rfl, ?_⟩
      refine ⟨_, rfl, ?_⟩
      exact q _ y z _ hy0 hy1 hz0 (by omega) (Int.emod_nonneg _ (by omega)) (Int.emod_lt_of_pos _ hm)
    · refine ⟨_, rfl, p, _, 2, _, rfl, rfl, SqL.of hp, i2, _, _, rfl, rfl, ?_⟩
      refine ⟨_, rfl, p, _, 2, 2, rfl, rfl, hp, rfl, ?_⟩
      have hq : upd H p (.lst [.int x, .int y, .int (z + 1)]) p = some (.lst [.int x, .int y, .int (z + 1)]) := upd_same
      refine ⟨_, rfl, p, _, 1, _, rfl, rfl, SqL.of hq, i1, _, rfl, p, _, 2, _, rfl, rfl, SqL.of hq, j2, _, _, rfl, rfl, .inl ⟨by decide, by decide⟩, _, _, rfl, rfl, _, _, rfl, rfl, ⟨by decide, by decide, by omega⟩, .inl ⟨_, rfl, _, _, rfl, rfl, (by show (0 : Int) < 2305843009213693921; decide), ?_⟩⟩
      generalize hM : (y + 1000003 * (z + 1)) ^ ((3 : Int).toNat) % 2305843009213693921 = M
      have m0 : 0 ≤ M := hM ▸ Int.emod_nonneg _ (by decide)
      have m1 : M < 2305843009213693921 := hM ▸ Int.emod_lt_of_pos _ (by decide)
      refine ⟨_, rfl, _, rfl, p, _, 2, _, rfl, rfl, SqL.of hq, j2, _, _, rfl, rfl, .inl ⟨by decide, by decide⟩, _, _, rfl, rfl, _, _, rfl, rfl, ⟨by decide, by decide, by omega⟩, .inl ⟨_, rfl, _, _, rfl, rfl, (by show (0 : Int) < 2305843009213693951; decide), ?_⟩⟩
      refine ⟨_, rfl, _, _, rfl, rfl, ⟨by decide, by decide⟩, .inl ⟨_, rfl, _, rfl, _, _, rfl, rfl, hm, ?_⟩⟩
      exact q _ y (z + 1) _ hy0 hy1 (by omega) (by omega) (Int.emod_nonneg _ (by omega)) (Int.emod_lt_of_pos _ hm)
variable {fT : Addr} {dT : FuncData}
theorem scOf : FnScope ["_law_bag_here", "_law_some"] ["_law_bag_here", "_law_some"] (defScope s__law_of) := ⟨rfl, rfl, rfl, by decide +kernel, rfl, by decide +kernel, by decide +kernel⟩
theorem ok_of {f : Addr} {fd : FuncData} (F : Fun K "_law_of" "_law_of" s__law_of f fd) (B : Nd mg) (GT : FnOk P w K mg base CX0 1 fT dT ["_law_bag_here", "_law_many"] spTake) (gT : mg "_law_take" = some (.ref fT)) (kT : PySem.W.keepIn K (.ref fT) = true) (bT : Binds K dT ["_law_bag_here", "_law_many"] []) :
    FnOk P w K mg base CX0 2 f fd ["_law_bag_here", "_law_some"] spOf := by
  refine F.ok scOf (fun vs H Q E h => ?_) (fun cdv A outer s H vs Q E hr h => ?_)
  · obtain ⟨p, n, _, _, ⟨l, xs, rfl, _⟩ | ⟨z, rfl, _⟩⟩ := h
    · rfl
    · rfl
  · obtain ⟨p, n, bag, hn, h⟩ := h
    refine ⟨_, ps_altB (pss_one (ps_ret (pe_ix ix_list (pv 1) (pe_call GT hr (by rfl) gT kT bT .nil pass0 (pa_cons (pv 0) (pa_cons (pe_callB call_len_seq (by rfl) B.len PySem.boot_len (pa_cons (pv 1) pa_nil)) pa_nil))) (fun _ _ => rfl))))
      (pss_one (ps_ret (pe_ix ix_str (pv 1) (pe_call GT hr (by rfl) gT kT bT .nil pass0 (pa_cons (pv 0) (pa_cons (pe_callB call_len_str (by rfl) B.len PySem.boot_len (pa_cons (pv 1) pa_nil)) pa_nil))) (fun _ _ => rfl)))), ?_⟩
    rcases h with ⟨l, xs, rfl, hl, lp, x0, x1, q⟩ | ⟨wd, rfl, x0, x1, q⟩
    · refine .inl ⟨_, rfl, _, rfl, _, rfl, l, xs, rfl, .inl (SqL.of hl), p, xs.length, n, rfl, bag, hn, by omega, by omega, fun x y z d h1 h2 h3 h4 h5 h6 => ?_⟩
      obtain ⟨j, rfl⟩ : ∃ j : Nat, d = j := ⟨d.toNat, by omega⟩
      have hj : j < xs.length := by omega
      exact ⟨l, xs, j, xs[j], rfl, rfl, SqL.of (by rw [upd_ne lp]; exact hl), atI_nat (List.getElem?_eq_getElem hj), q x y z _ ⟨x, y, z, upd_same, h1, h2, h3, h4⟩ (List.getElem_mem hj)⟩
    · refine .inr ⟨_, rfl, _, rfl, _, rfl, wd, rfl, Nat.le_trans x1 (by decide), p, wd.length, n, rfl, bag, hn, by omega, by omega, fun x y z d h1 h2 h3 h4 h5 h6 => ?_⟩
      obtain ⟨j, rfl⟩ : ∃ j : Nat, d = j := ⟨d.toNat, by omega⟩
      have hl : wd.cps.toList.length = wd.length := by simp [Str.length]
      have hj : j < wd.cps.toList.length := by omega
      exact ⟨wd, _, _, rfl, rfl, Nat.le_trans x1 (by decide), atI_nat (List.getElem?_eq_getElem hj), q x y z _ ⟨x, y, z, upd_same, h1, h2, h3, h4⟩ (List.getElem_mem hj)⟩
end
end TX
namespace TX
open PySem PySem.Spec PyProof.Rows L2 KTD
/-! ### blocks are opened -/
structure Sl (H0 H : Hp) (p L : Addr) (n : Int) (ls : List Str) : Prop where
  keep : ∀ b o, b ≠ p → H0 b = some o → H b = some o
  nL : H0 L = none
  pL : p ≠ L
  hL : H L = some (.lst (ls.map V.str))
  bag : BagAt H p n
section
variable {H0 H H' : Hp} {p L : Addr} {n m : Int} {ls : List Str}
theorem Sl.same (h : Sl H0 H p L n ls) (s : Same H H') : Sl H0 H' p L n ls := ⟨fun b o hb e => s _ _ (h.keep b o hb e), h.nL, h.pL, s _ _ h.hL, h.bag.up s⟩
theorem Sl.take (h : Sl H0 H p L n ls) {x y z : Int} (b : BagAt (upd H p (.lst [.int x, .int y, .int z])) p m) : Sl H0 (upd H p (.lst [.int x, .int y, .int z])) p L m ls :=
  ⟨fun b o hb e => (upd_ne hb).trans (h.keep b o hb e), h.nL, h.pL, (upd_ne h.pL.symm).trans h.hL, b⟩
theorem Sl.line (h : Sl H0 H p L n ls) (l : Str) : Sl H0 (upd H L (.lst (ls.map V.str ++ [.str l]))) p L n (ls ++ [l]) := by
  refine ⟨fun b o hb e => ?_, h.nL, h.pL, by rw [upd_same, List.map_append]; rfl, ?_⟩
  · rw [upd_ne fun z => by rw [z, h.nL] at e; cases e]
    exact h.keep b o hb e
  · obtain ⟨x, y, z, e, r⟩ := h.bag
    exact ⟨x, y, z, (upd_ne h.pL).trans e, r⟩
theorem Sl.le (h : Sl H0 H p L n ls) (hm : n ≤ m) : Sl H0 H p L m ls := ⟨h.keep, h.nL, h.pL, h.hL, h.bag.le hm⟩
theorem Sl.join (h : Sl H0 H p L n ls) {R : Addr} (nR : H R = none) (qs : List Str) : Sl H0 (upd H R (.lst (ls.map V.str ++ qs.map V.str))) p R n (ls ++ qs) := by
  have s := same_upd (o := .lst (ls.map V.str ++ qs.map V.str)) nR
  have pR : p ≠ R := h.bag.nex nR
  refine ⟨fun b o hb e => s _ _ (h.keep b o hb e), ?_, pR, by rw [upd_same, List.map_append], h.bag.up s⟩
  cases e : H0 R with
  | none => rfl
  | some o =>
    rw [h.keep R o pR.symm e] at nR
    cases nR
end
theorem len_app {a b : Str} {m n : Nat} (h1 : a.length ≤ m) (h2 : b.length ≤ n) : (a ++ b).length ≤ m + n := by
  rw [Str.length_append]
  omega
theorem ind_len (d : Nat) : (indS d).length = 2 * d := by
  unfold indS
  simp [Str.length]
theorem small_len : (∀ x ∈ vs4, x.length ≤ 1) ∧ (∀ x ∈ fresh4, x.length ≤ 1) ∧ (∀ x ∈ cuts3, x.length ≤ 4) ∧ (∀ x ∈ fresh4, x ∈ vs4) := by decide +kernel
def spOpened : Sp := fun vs H Q _ => ∃ (p : Addr) (n : Int), vs = [.ref p] ∧ BagAt H p n ∧ n ≤ 900000000 ∧
  ∀ (H' : Hp) (t L : Addr) (ls : List Str) (d : Nat) (va : Str) (lo : Bool), Sl H H' p L (n + 100) ls → Opn ls d va lo → d ≤ 4 → H' t = some (.tup [.ref L, .str va, .bl lo]) → Q (.ref t) H'
abbrev NO : List Str := ["_law_bag_here", "_law_lines", "_law_variable", "_law_is_loop", "_law_deep", "_law_pick", "_law_fresh", "_law_cut", "_law_given"]
section
variable {P : Program} {w : World} {K : PySem.W.Frag} {mg : Str → Option Value} {base : Heap}
theorem scOpened : FnScope NO ["_law_bag_here"] (defScope s__law_opened) := ⟨rfl, rfl, rfl, by decide +kernel, rfl, by decide +kernel, by decide +kernel⟩
theorem ok_opened {f fT fO : Addr} {fd dT dO : FuncData} (F : Fun K "_law_opened" "_law_opened" s__law_opened f fd) (rng : mg "range" = none) (GT : FnOk P w K mg base CX0 1 fT dT ["_law_bag_here", "_law_many"] spTake) (gT : mg "_law_take" = some (.ref fT)) (kT : PySem.W.keepIn K (.ref fT) = true) (bT : Binds K dT ["_law_bag_here", "_law_many"] [])
    (GO : FnOk P w K mg base CX0 2 fO dO ["_law_bag_here", "_law_some"] spOf) (gO : mg "_law_of" = some (.ref fO)) (kO : PySem.W.keepIn K (.ref fO) = true) (bO : Binds K dO ["_law_bag_here", "_law_some"] []) : FnOk P w K mg base CX0 3 f fd ["_law_bag_here"] spOpened := by
  refine F.ok scOpened (fun vs H Q E h => ?_) (fun cdv A outer s H vs Q E hr h => ?_)
  · obtain ⟨p, n, rfl, _⟩ := h
    rfl
  · obtain ⟨p, n, rfl, bag, hn, q⟩ := h
    have r1 : Room 1 _ := hr.mono (by decide)
    have r2 : Room 2 _ := hr
    refine ⟨_, pss_cons (ps_par3 (i := 1) (j := 2) (l := 3) rfl scOpened.nd rfl rfl rfl (by decide) (by decide) (by decide) rfl rfl rfl (pa_cons (pe_lst (pa_cons pe_str (pa_cons pe_str (pa_cons pe_str pa_nil)))) (pa_cons pe_str (pa_cons pe_bl pa_nil))) rfl) <|
      pss_cons (ps_for PassesOwn.never rfl (pi_range2 (by rfl) rng (pa_cons pe_int (pa_cons (pe_op op_add pe_int (pe_call GT r1 (by rfl) gT kT bT .nil pass0 (pa_cons (pv 0) (pa_cons (pe_int) pa_nil)))) pa_nil))) (pg_name (i := 4) scOpened.nd rfl (.inl rfl)) (
        C8.pss_cut (ps_set (i := 5) scOpened.nd rfl (.inl rfl) (pe_call GT r1 (by rfl) gT kT bT .nil pass0 (pa_cons (pv 0) (pa_cons (pe_int) pa_nil)))) <|
        pss_one (ps_if (pt_cmpR op_lt (pv 5) pe_int (nomark _)) (
          C8.pss_cut (ps_set (i := 6) scOpened.nd rfl (.inl rfl) (pe_call GO r2 (by rfl) gO kO bO .nil pass0 (pa_cons (pv 0) (pa_cons (pe_lst (pa_cons (pe_str) (pa_cons (pe_str) (pa_cons (pe_str) (pa_cons (pe_str) pa_nil))))) pa_nil)))) <|
          C8.pss_cut (ps_set (i := 7) scOpened.nd rfl (.inl rfl) (pe_call GO r2 (by rfl) gO kO bO .nil pass0 (pa_cons (pv 0) (pa_cons (pe_lst (pa_cons (pe_str) (pa_cons (pe_str) (pa_cons (pe_str) pa_nil)))) pa_nil)))) <|
          C8.pss_cut (ps_set (i := 8) scOpened.nd rfl (.inl rfl) (pe_call GO r2 (by rfl) gO kO bO .nil pass0 (pa_cons (pv 0) (pa_cons (pe_lst (pa_cons (pv 2) (pa_cons (pe_op op_add_str (pe_op op_add_str (pe_str) (pv 2)) (pe_str)) pa_nil))) pa_nil)))) <|
          pss_cons (ps_expr (pe_bm PySem.F.plainAttrs_list PySem.F.slot_list_append PySem.F.type_list_append mt_append (pv 1) (pa_cons (pe_op op_add_str (pe_op op_add_str (pe_op op_add_str (pe_op op_add_str (pe_op op_add_str (pe_op op_add_str (pe_op op_mulS pe_str (pv 4)) (pe_str)) (pv 6)) (pe_str)) (pv 8)) (pv 7)) (pe_str)) pa_nil))) <|
          pss_one (ps_par (i := 2) (j := 3) rfl scOpened.nd rfl rfl (by decide) rfl rfl (pa_cons (pv 6) (pa_cons pe_bl pa_nil)) rfl)) (
          pss_cons (ps_expr (pe_bm PySem.F.plainAttrs_list PySem.F.slot_list_append PySem.F.type_list_append mt_append (pv 1) (pa_cons (pe_op op_add_str (pe_op op_add_str (pe_op op_add_str (pe_op op_mulS pe_str (pv 4)) (pe_str)) (pv 2)) (pe_str)) pa_nil))) <|
          pss_one (ps_if (pt_cmpR op_eq (pv 5) pe_int (nomark _)) (pss_one (ps_set (i := 1) scOpened.nd rfl (.inl rfl) (pe_op op_cat (pv 1) (pe_lst (pa_cons (pe_op op_add_str (pe_op op_mulS pe_str (pv 4)) (pe_str)) (pa_cons (pe_op op_add_str (pe_op op_mulS pe_str (pv 4)) (pe_str)) pa_nil)))))) pss_nil))))) <|
      pss_one (ps_ret (pe_tup (pa_cons (pv 1) (pa_cons (pv 2) (pa_cons (pv 3) pa_nil))))), ?_⟩
    have big : ∀ {k : Nat}, k ≤ 1000 → k < sizeLine := fun h => Nat.lt_of_le_of_lt h (by decide)
    have wide : ∀ {k : Nat}, k ≤ 1000 → k ≤ sizeLine := fun h => Nat.le_trans h (by decide)
    obtain ⟨sv, sf, sc, fv⟩ := small_len
    have d3 : ∀ i, i < 3 → i + 1 ∈ d123 := by decide
    refine ⟨(by show 3 ≤ sizeLine; decide), fun L nL => ?_⟩
    have s0 := same_upd (o := .lst (pre3.map V.str)) nL
    have sl0 : Sl H (upd H L (.lst (pre3.map V.str))) p L n pre3 := ⟨fun b o _ e => s0 _ _ e, nL, bag.nex nL, upd_same, bag.up s0⟩
    dsimp only [tNil] at nL ⊢
    rw [show ([V.str "def early(u):", V.str "  log(u)", V.str "def own(v):"] : List V) = pre3.map V.str from rfl]
    generalize upd H L (.lst (pre3.map V.str)) = G0 at sl0 ⊢
    refine ⟨_, _, _, rfl, _, rfl, p, 4, n, rfl, sl0.bag, by omega, by decide, by decide, fun x y z d h1 h2 h3 h4 h5 h6 => ?_⟩
    have sl1 := sl0.take (m := n + 1) ⟨x, y, z, upd_same, h1, h2, h3, h4⟩
    generalize upd G0 p (.lst [.int x, .int y, .int z]) = G1 at sl1 ⊢
    obtain ⟨dn, rfl⟩ : ∃ dn : Nat, d = dn := ⟨d.toNat, by omega⟩
    refine ⟨_, _, rfl, rfl, 1, 1 + (dn : Int), rfl, ⟨by decide, by decide, by omega, by omega⟩, ?_⟩
    have en : (1 + (dn : Int) - 1).toNat = dn := by omega
    rw [en]
    refine for_range (lo := 1) (n := dn) (fun i σ G => ∃ (L : Addr) (ls : List Str) (va : Str) (lo : Bool) (y4 y5 y6 y7 y8 : Option V), σ = [some (.ref p), some (.ref L), some (.str va), some (.bl lo), y4, y5, y6, y7, y8] ∧ Sl H G p L (n + 1 + 5 * i) ls ∧ Opn ls (i + 1) va lo) ⟨L, pre3, "v", false, none, none, none, none, none, rfl, by simpa using sl1, Opn.pre⟩ ?_ ?_
    · rintro i σ G hi ⟨L, ls, va, lo, y4, y5, y6, y7, y8, rfl, sl, op⟩
      have i3 : i < 3 := by omega
      have e1 : (1 : Int) + (i : Int) = ((i + 1 : Nat) : Int) := by omega
      rw [e1]
      have iv := op.st
      obtain ⟨A0, _, inv⟩ := iv
      have va4 := inv.va
      have val := sv va va4
      have ln := op.len
      -- the pick
      refine ⟨fun σ G => ∃ pk : Nat, σ = [some (.ref p), some (.ref L), some (.str va), some (.bl lo), some (.int ((i + 1 : Nat) : Int)), some (.int (pk : Nat)), y6, y7, y8] ∧ Sl H G p L (n + 1 + 5 * i + 1) ls, ?_, ?_⟩
      · refine ⟨_, rfl, p, 4, _, rfl, sl.bag, by omega, by decide, by decide, fun x y z d h1 h2 h3 h4 h5 h6 => ?_⟩
        obtain ⟨pk, rfl⟩ : ∃ pk : Nat, d = pk := ⟨d.toNat, by omega⟩
        exact ⟨pk, rfl, sl.take ⟨x, y, z, upd_same, h1, h2, h3, h4⟩⟩
      rintro σ G ⟨pk, rfl, sl⟩
      have mu : Txt.mul "  " ((i + 1 : Nat) : Int) = indS (i + 1) := mul_two _ (by omega)
      have mo := mulOk_two (i + 1) (by omega)
      have il : (indS (i + 1)).length ≤ 6 := by
        rw [ind_len]
        omega
      refine ⟨_, rfl, _, _, rfl, rfl, _, rfl, ?_⟩
      by_cases p2 : pk < 2
      · rw [decide_eq_true (show ((pk : Nat) : Int) < 2 by omega)]
        refine iteT ?_
        refine ⟨fun σ G => ∃ fr : Str, σ = [some (.ref p), some (.ref L), some (.str va), some (.bl lo), some (.int ((i + 1 : Nat) : Int)), some (.int (pk : Nat)), some (.str fr), y7, y8] ∧ Sl H G p L (n + 1 + 5 * i + 2) ls ∧ fr ∈ fresh4, ?_, ?_⟩
        · refine ⟨_, rfl, (by show 4 ≤ sizeLine; decide), fun l1 n1 => ?_⟩
          have sl1 := sl.same (same_upd (o := .lst (fresh4.map V.str)) n1)
          have el : (upd G l1 (.lst (fresh4.map V.str))) l1 = some (.lst (fresh4.map V.str)) := upd_same
          have lp : l1 ≠ p := (sl.bag.nex n1).symm
          dsimp only [tNil] at n1 ⊢
          rw [show ([V.str "x", V.str "y", V.str "v", V.str "u"] : List V) = fresh4.map V.str from rfl]
          generalize upd G l1 (.lst (fresh4.map V.str)) = G1 at sl1 el ⊢
          refine ⟨p, _, sl1.bag, by omega, .inl ⟨l1, _, rfl, el, lp, (by show 0 < 4; decide), (by show 4 ≤ 1000000; decide), fun x y z v b hv => ?_⟩⟩
          obtain ⟨fr, hf, rfl⟩ := List.mem_map.mp hv
          exact ⟨fr, rfl, sl1.take (b.le (by omega)), hf⟩
        rintro σ G ⟨fr, rfl, sl, hf⟩
        refine ⟨fun σ G => ∃ cu : Str, σ = [some (.ref p), some (.ref L), some (.str va), some (.bl lo), some (.int ((i + 1 : Nat) : Int)), some (.int (pk : Nat)), some (.str fr), some (.str cu), y8] ∧ Sl H G p L (n + 1 + 5 * i + 3) ls ∧ cu ∈ cuts3, ?_, ?_⟩
        · refine ⟨_, rfl, (by show 3 ≤ sizeLine; decide), fun l1 n1 => ?_⟩
          have sl1 := sl.same (same_upd (o := .lst (cuts3.map V.str)) n1)
          have el : (upd G l1 (.lst (cuts3.map V.str))) l1 = some (.lst (cuts3.map V.str)) := upd_same
          have lp : l1 ≠ p := (sl.bag.nex n1).symm
          dsimp only [tNil] at n1 ⊢
          rw [show ([V.str "", V.str "[:1]", V.str "[1:]"] : List V) = cuts3.map V.str from rfl]
          generalize upd G l1 (.lst (cuts3.map V.str)) = G1 at sl1 el ⊢
          refine ⟨p, _, sl1.bag, by omega, .inl ⟨l1, _, rfl, el, lp, (by show 0 < 3; decide), (by show 3 ≤ 1000000; decide), fun x y z v b hv => ?_⟩⟩
          obtain ⟨cu, hc, rfl⟩ := List.mem_map.mp hv
          exact ⟨cu, rfl, sl1.take (b.le (by omega)), hc⟩
        rintro σ G ⟨cu, rfl, sl, hc⟩
        refine ⟨fun σ G => ∃ w : Bool, σ = [some (.ref p), some (.ref L), some (.str va), some (.bl lo), some (.int ((i + 1 : Nat) : Int)), some (.int (pk : Nat)), some (.str fr), some (.str cu), some (.str (givA va w))] ∧ Sl H G p L (n + 1 + 5 * i + 4) ls, ?_, ?_⟩
        · have g1 : ("[" ++ va : Str).length ≤ 2 := len_app (show ("[" : Str).length ≤ 1 from Nat.le_refl _) val
          refine ⟨_, rfl, _, rfl, _, rfl, _, _, rfl, rfl, wide (show ("[" : Str).length + va.length ≤ 1000 by rw [show ("[" : Str).length = 1 from rfl]; omega), _, _, rfl, rfl, wide (show ("[" ++ va : Str).length + ("]" : Str).length ≤ 1000 by rw [show ("]" : Str).length = 1 from rfl]; omega), (by show 2 ≤ sizeLine; decide), fun l1 n1 => ?_⟩
          have sl1 := sl.same (same_upd (o := .lst [.str va, .str ("[" ++ va ++ "]")]) n1)
          have el : (upd G l1 (.lst [.str va, .str ("[" ++ va ++ "]")])) l1 = some (.lst [.str va, .str ("[" ++ va ++ "]")]) := upd_same
          have lp : l1 ≠ p := (sl.bag.nex n1).symm
          dsimp only [tNil] at n1 ⊢
          generalize upd G l1 (.lst [.str va, .str ("[" ++ va ++ "]")]) = G1 at sl1 el ⊢
          refine ⟨p, _, sl1.bag, by omega, .inl ⟨l1, _, rfl, el, lp, (by show 0 < 2; decide), (by show 2 ≤ 1000000; decide), fun x y z v b hv => ?_⟩⟩
          simp only [List.mem_cons, List.not_mem_nil, or_false] at hv
          rcases hv with rfl | rfl
          · exact ⟨false, rfl, sl1.take (b.le (by omega))⟩
          · exact ⟨true, rfl, sl1.take (b.le (by omega))⟩
        rintro σ G ⟨w, rfl, sl⟩
        have gl3 : (givA va w).length ≤ 3 := by
          unfold givA
          split
          · exact len_app (len_app (show ("[" : Str).length ≤ 1 from Nat.le_refl _) val) (show ("]" : Str).length ≤ 1 from Nat.le_refl _)
          · omega
        have frl := sf fr hf
        have cul := sc cu hc
        have k1 : ("for " : Str).length = 4 := rfl
        have k2 : (" in " : Str).length = 4 := rfl
        have k3 : (":" : Str).length = 1 := rfl
        have q1 := len_app il (Nat.le_of_eq k1)
        have q2 := len_app q1 frl
        have q3 := len_app q2 (Nat.le_of_eq k2)
        have q4 := len_app q3 gl3
        have q5 := len_app q4 cul
        refine ⟨_, rfl, .inl ⟨rfl, _, SqL.of sl.hL⟩, _, rfl, "  ", i + 1, rfl, rfl, mo, ?_⟩
        rw [mu]
        refine ⟨_, _, rfl, rfl, wide (by omega), _, rfl, _, _, rfl, rfl, wide (by omega), _, _, rfl, rfl, wide (by omega), _, rfl, _, _, rfl, rfl, wide (by omega), _, rfl, _, _, rfl, rfl, wide (by omega), _, _, rfl, rfl, wide (by omega), L, _, _, rfl, rfl, sl.hL, big (by rw [List.length_map]; omega), ?_⟩
        have sl2 := sl.line (forL (i + 1) va fr cu w)
        refine ⟨_, rfl, _, _, rfl, L, _, fr, true, _, _, _, _, _, rfl, sl2.le (by push_cast; omega), ?_⟩
        exact op.forS (d3 i i3) hf hc
      · rw [decide_eq_false (show ¬ ((pk : Nat) : Int) < 2 by omega)]
        refine iteF ?_
        have k1 : ("if list " : Str).length = 8 := rfl
        have k3 : (":" : Str).length = 1 := rfl
        have q1 := len_app il (Nat.le_of_eq k1)
        have q2 := len_app q1 val
        refine ⟨_, rfl, .inl ⟨rfl, _, SqL.of sl.hL⟩, _, rfl, "  ", i + 1, rfl, rfl, mo, ?_⟩
        rw [mu]
        refine ⟨_, _, rfl, rfl, wide (by omega), _, rfl, _, _, rfl, rfl, wide (by omega), _, _, rfl, rfl, wide (by omega), L, _, _, rfl, rfl, sl.hL, big (by rw [List.length_map]; omega), ?_⟩
        have sl2 := sl.line (ifL (i + 1) va)
        have op2 := op.ifS (d3 i i3)
        refine ⟨_, rfl, rfl, _, rfl, ?_⟩
        by_cases p3 : pk = 3
        · rw [decide_eq_true (show V.int ((pk : Nat) : Int) = V.int 3 by rw [p3]; rfl)]
          have k4 : ("  return" : Str).length = 8 := rfl
          have k5 : ("else:" : Str).length = 5 := rfl
          refine iteT ⟨_, rfl, _, rfl, "  ", i + 1, rfl, rfl, mo, ?_⟩
          rw [mu]
          refine ⟨_, _, rfl, rfl, wide (by omega), _, rfl, "  ", i + 1, rfl, rfl, mo, ?_⟩
          rw [mu]
          refine ⟨_, _, rfl, rfl, wide (by omega), (by show 2 ≤ sizeLine; decide), fun l1 n1 => ?_⟩
          have sl3 := sl2.same (same_upd (o := .lst ([reL (i + 1), elL (i + 1)].map V.str)) n1)
          have el : (upd (upd G L (.lst (ls.map V.str ++ [.str (ifL (i + 1) va)]))) l1 (.lst ([reL (i + 1), elL (i + 1)].map V.str))) l1 = some (.lst ([reL (i + 1), elL (i + 1)].map V.str)) := upd_same
          dsimp only [tNil] at n1 ⊢
          have hL3 := sl3.hL
          refine ⟨L, l1, _, _, rfl, rfl, hL3, el, wide (by rw [List.length_map, List.length_map, List.length_append]; simp; omega), fun R nR => ?_⟩
          have sl4 := sl3.join nR [reL (i + 1), elL (i + 1)]
          exact ⟨R, _, va, lo, _, _, _, _, _, rfl, sl4.le (by push_cast; omega), op.elS (d3 i i3)⟩
        · rw [decide_eq_false (fun z => p3 (by injection z with z; omega))]
          exact iteF ⟨L, _, va, lo, _, _, _, _, _, rfl, sl2.le (by push_cast; omega), op2⟩
    · rintro σ G ⟨L, ls, va, lo, y4, y5, y6, y7, y8, rfl, sl, op⟩
      refine ⟨_, rfl, _, rfl, _, rfl, (by show 3 ≤ sizeLine; decide), fun t nt => ?_⟩
      exact q _ t L ls (dn + 1) va lo ((sl.le (by omega)).same (same_upd nt)) op (by omega) upd_same
end
end TX
namespace TX
open PySem PySem.Spec PyProof.Rows L2 KTD
/-! ### a list times a number -/
def rMulN : R2 := fun x y H Q => ∃ a xs k, x = .ref a ∧ y = .int k ∧ H a = some (.lst xs) ∧ 0 ≤ k ∧ k ≤ 100 ∧ xs.length ≤ 1000 ∧ ∀ p, H p = none → Q (.ref p) (upd H p (.lst (List.replicate k.toNat xs).flatten))
theorem vals_flat {xs : List V} {us : List Value} (r : Vals xs us) : ∀ n : Nat, Vals (List.replicate n xs).flatten (List.replicate n us).flatten
  | 0 => .nil
  | n + 1 => by
    rw [List.replicate_succ, List.replicate_succ, List.flatten_cons, List.flatten_cons]
    exact r.append (vals_flat r n)
theorem flat_len {α : Type} (xs : List α) : ∀ n : Nat, (List.replicate n xs).flatten.length = n * xs.length
  | 0 => by simp
  | n + 1 => by
    rw [List.replicate_succ, List.flatten_cons, List.length_append, flat_len xs n, Nat.succ_mul]
    omega
theorem op_mulN {X : Cx} : OpR X (binaryOp .Mult) rMulN := by
  intro pins s σ H x y v u Q I rx ry h
  obtain ⟨a, xs, k, rfl, rfl, hs, k0, k1, xl, q⟩ := h
  obtain rfl : v = Value.ref a := rx
  obtain ⟨t, rfl⟩ := (show ∃ t, u = Value.int k t from ry)
  obtain ⟨z, its, n, rv, hl, e⟩ := I.lstM hs
  have il : its.length ≤ 1000 := by
    rw [← rv.length]
    exact xl
  have hm : its.toArray.size * k.toNat ≤ 100000 := by
    rw [List.size_toArray]
    exact Nat.mul_le_mul il (show k.toNat ≤ 100 by omega)
  have hsl := sizeLine_eq
  refine wpAny_binaryOp_repeat_ref (T := "list") (U := "int") (by decide) ⟨_, e, rfl⟩ (fun s' => typeIs_int s' k t) noFill_list_mul F.fills_int_mul F.slot_int_rmul repeat_list F.slot_int_index.lookup
    (call_meets F.slot_int_rmul (typeIs_int s k t) F.entry_int_rmul (F.args_int_rmul_2 _ _) (int___rmul___int_list k t a its.toArray n)
      ⟨e, rfl, ⟨_, e, rfl⟩, call_meets F.slot_list_mul ⟨_, e, rfl⟩ F.entry_list_mul (F.args_list_mul_2 _ _)
        (AutoListH.list___mul___list_int_3 a its.toArray n k t (by simp [Builtin.List.listFitsIndex]; omega) (by omega) (by simp only [Builtin.List.listTooLong, decide_eq_true_eq]; omega))
        ⟨e, ?_⟩⟩)
  rw [listMul_foldl_if]
  refine ⟨.ref s.heap.objs.size, upd H s.heap.objs.size (.lst (List.replicate k.toNat xs).flatten), I.laid (t' := s.toks) (fun b o e => Heap.get?_push_of_some _ e) (Nat.le_refl _) ⟨?_, _, 0, ?_, Heap.get?_push_size _ rfl⟩, rfl, q _ (I.hok.fresh (Nat.le_refl _))⟩
  · rw [flat_len, hsl]
    have : k.toNat * xs.length ≤ 100 * 1000 := Nat.mul_le_mul (by omega) xl
    omega
  · exact vals_flat rv k.toNat
end TX
namespace TX
open PySem PySem.Spec PyProof.Rows L2 KTD
/-! ### the arguments -/
def tr3 (a : Arg) : HO := .tup [.str a.1, .str a.2.1, .str a.2.2]
def TrAt (H : Hp) (v : V) (a : Arg) : Prop := ∃ t, v = .ref t ∧ H t = some (tr3 a)
theorem TrAt.same {H H' : Hp} (s : Same H H') {v : V} {a : Arg} (h : TrAt H v a) : TrAt H' v a := by
  obtain ⟨t, e, h⟩ := h
  exact ⟨t, e, s _ _ h⟩
theorem All2.app {α β : Type} {R : α → β → Prop} {as cs : List α} {bs ds : List β} (h : All2 R as bs) (k : All2 R cs ds) : All2 R (as ++ cs) (bs ++ ds) := by
  induction h with
  | nil => exact k
  | cons r _ ih => exact .cons r ih
theorem new3 {G : Hp} {t1 t2 t3 l : Addr} {a b c : Arg} (n1 : G t1 = none) (n2 : (upd G t1 (tr3 a)) t2 = none) (n3 : (upd (upd G t1 (tr3 a)) t2 (tr3 b)) t3 = none) (nl : (upd (upd (upd G t1 (tr3 a)) t2 (tr3 b)) t3 (tr3 c)) l = none) :
    Same G (upd (upd (upd (upd G t1 (tr3 a)) t2 (tr3 b)) t3 (tr3 c)) l (.lst [.ref t1, .ref t2, .ref t3])) ∧ (upd (upd (upd (upd G t1 (tr3 a)) t2 (tr3 b)) t3 (tr3 c)) l (.lst [.ref t1, .ref t2, .ref t3])) l = some (.lst [.ref t1, .ref t2, .ref t3]) ∧ All2 (TrAt (upd (upd (upd (upd G t1 (tr3 a)) t2 (tr3 b)) t3 (tr3 c)) l (.lst [.ref t1, .ref t2, .ref t3]))) [.ref t1, .ref t2, .ref t3] [a, b, c] := by
  have s1 := same_upd (o := tr3 a) n1
  have s2 := same_upd (o := tr3 b) n2
  have s3 := same_upd (o := tr3 c) n3
  have s4 := same_upd (o := .lst [.ref t1, .ref t2, .ref t3]) nl
  exact ⟨s1.trans (s2.trans (s3.trans s4)), upd_same, .cons ⟨t1, rfl, s4 _ _ (s3 _ _ (s2 _ _ upd_same))⟩ (.cons ⟨t2, rfl, s4 _ _ (s3 _ _ upd_same)⟩ (.cons ⟨t3, rfl, s4 _ _ upd_same⟩ .nil))⟩
def spArgs : Sp := fun vs H Q _ => ∃ (va : Str), vs = [.str va] ∧ va.length ≤ 1 ∧ ∀ (H' : Hp) (R : Addr) (us : List V), Same H H' → H' R = some (.lst us) → All2 (TrAt H') us (argsZ va) → Q (.ref R) H'
def spIsLet : Sp := fun vs H Q _ => ∃ (t how form : Str) (lo : Bool), vs = [.str t, .str how, .str form, .bl lo] ∧ Q (.bl (isLetZ t how form lo)) H
theorem forms_len : ∀ f ∈ forms4, f.length ≤ 5 := by decide +kernel
theorem form_ne : ∀ f ∈ forms4, f = "plain" ∨ f = "wrap" ∨ f = "many" ∨ f = "some" := by decide +kernel
abbrev NA : List Str := ["_law_variable", "_law_found", "_law_form", "_law_given"]
section
variable {P : Program} {w : World} {K : PySem.W.Frag} {mg : Str → Option Value} {base : Heap}
theorem scIsLet : FnScope ["_law_target", "_law_how", "_law_form", "_law_is_loop"] ["_law_target", "_law_how", "_law_form", "_law_is_loop"] (defScope s__law_is_let) := ⟨rfl, rfl, rfl, by decide +kernel, rfl, by decide +kernel, by decide +kernel⟩
theorem ok_isLet {f : Addr} {fd : FuncData} (F : Fun K "_law_is_let" "_law_is_let" s__law_is_let f fd) : FnOk P w K mg base CX0 1 f fd ["_law_target", "_law_how", "_law_form", "_law_is_loop"] spIsLet := by
  refine F.ok scIsLet (fun vs H Q E h => ?_) (fun cdv A outer s H vs Q E hr h => ?_)
  · obtain ⟨t, how, form, lo, rfl, _⟩ := h
    rfl
  · obtain ⟨t, how, form, lo, rfl, q⟩ := h
    refine ⟨_, C8.pss_cut (ps_if (PW.pt (pw_or (pt_cmpR op_eq (pv 1) pe_str (nomark _)) (pw_or1 (PW.pt (pw_and (pt_cmpR op_eq (pv 1) pe_str (nomark _)) (pw_and1 (pt_cmpR op_eq (pv 2) pe_str (nomark _)))))))) (pss_one (ps_ret pe_bl)) pss_nil) <|
      pss_one (ps_ret (pe_or (pe_cmpR op_ne (pv 1) pe_str (nomark _)) (pe_or (pe_cmpR op_ne (pv 0) pe_str (nomark _)) (pe_one (pe_and (pe_cmpR op_eq (pv 2) pe_str (nomark _)) (pe_one (pv 3))))))), ?_⟩
    have dec : ∀ {a b : Str}, decide (V.str a = V.str b) = decide (a = b) := fun {a b} => decide_eq_decide.mpr ⟨fun e => V.str.inj e, fun e => by rw [e]⟩
    refine ⟨fun σ G => σ = [some (.str t), some (.str how), some (.str form), some (.bl lo)] ∧ G = H ∧ ¬ (how = "wrong" ∨ (how = "plain" ∧ form = "some")), ?_, ?_⟩
    · have bad : (how = "wrong" ∨ (how = "plain" ∧ form = "some")) → Q (.bl false) H := fun hb => by
        unfold isLetZ at q
        rw [if_pos hb] at q
        exact q
      refine ⟨_, rfl, rfl, _, rfl, ?_⟩
      rw [dec]
      by_cases hw : how = "wrong"
      · rw [decide_eq_true hw]
        exact iteT (iteT (bad (.inl hw)))
      · rw [decide_eq_false hw]
        refine iteF ⟨_, rfl, rfl, _, rfl, ?_⟩
        rw [dec]
        by_cases hp : how = "plain"
        · rw [decide_eq_true hp]
          refine iteT ⟨_, rfl, rfl, _, rfl, ?_⟩
          rw [dec]
          by_cases hs : form = "some"
          · rw [decide_eq_true hs]
            exact iteT (bad (.inr ⟨hp, hs⟩))
          · rw [decide_eq_false hs]
            exact iteF ⟨rfl, rfl, fun z => z.elim hw fun z => hs z.2⟩
        · rw [decide_eq_false hp]
          exact iteF (iteF ⟨rfl, rfl, fun z => z.elim hw fun z => hp z.1⟩)
    · rintro σ G ⟨rfl, rfl, hn⟩
      unfold isLetZ at q
      rw [if_neg hn] at q
      refine ⟨_, rfl, rfl, _, rfl, ?_⟩
      rw [dec]
      by_cases hp : how = "plain"
      · rw [decide_eq_true hp]
        rw [decide_eq_false (fun z => z hp), Bool.false_or] at q
        refine iteF ⟨_, rfl, rfl, _, rfl, ?_⟩
        rw [dec]
        by_cases ho : t = "own"
        · rw [decide_eq_true ho]
          rw [decide_eq_false (fun z => z ho), Bool.false_or] at q
          refine iteF ⟨_, rfl, rfl, _, rfl, ?_⟩
          rw [dec]
          by_cases hf : form = "plain"
          · rw [decide_eq_true hf] at q ⊢
            rw [Bool.true_and] at q
            exact iteT ⟨_, rfl, q⟩
          · rw [decide_eq_false hf] at q ⊢
            rw [Bool.false_and] at q
            exact iteF q
        · rw [decide_eq_false ho]
          rw [decide_eq_true ho, Bool.true_or] at q
          exact iteT q
      · rw [decide_eq_false hp]
        rw [decide_eq_true hp, Bool.true_or] at q
        exact iteT q
theorem scArgs : FnScope NA ["_law_variable"] (defScope s__law_arguments) := ⟨rfl, rfl, rfl, by decide +kernel, rfl, by decide +kernel, by decide +kernel⟩
theorem ok_args {f : Addr} {fd : FuncData} (F : Fun K "_law_arguments" "_law_arguments" s__law_arguments f fd) (int : mg "int" = none) : FnOk P w K mg base CX0 1 f fd ["_law_variable"] spArgs := by
  refine F.ok scArgs (fun vs H Q E h => ?_) (fun cdv A outer s H vs Q E hr h => ?_)
  · obtain ⟨va, rfl, _⟩ := h
    rfl
  · obtain ⟨va, rfl, vl, q⟩ := h
    have hu := hr.units
    have hu1 : (A.deeper (envOfC "_law_arguments" (defScope s__law_arguments) s.heap.objs.size f cdv)).units + 1 < PySem.cLine := by omega
    refine ⟨_, pss_cons (ps_set (i := 1) scArgs.nd rfl (.inl rfl) (pe_lst pa_nil)) <|
      C8.pss_cut (ps_for PassesOwn.never rfl (pi_tup (pe_tup (pa_cons pe_str (pa_cons pe_str (pa_cons pe_str (pa_cons pe_str pa_nil)))))) (pg_name (i := 2) scArgs.nd rfl (.inl rfl)) (
        C8.pss_cut (ps_set (i := 3) scArgs.nd rfl (.inl rfl) (pe_dget2 hu1 (pe_disp (pps_cons pe_str (pv 0) (pps_cons pe_str (pe_op op_add_str (pe_op op_add_str (pe_str) (pv 0)) (pe_str)) pps_nil)) rfl rfl (by simp) (by decide)) (pv 2) (pe_op op_add_str (pe_op op_add_str (pe_op op_add_str (pv 2) (pe_str)) (pv 0)) (pe_str)) ⟨rfl, rfl, rfl, rfl⟩)) <|
        C8.pss_cut (ps_set (i := 1) scArgs.nd rfl (.inl rfl) (pe_op op_cat (pv 1) (pe_lst (pa_cons (pe_tup (pa_cons (pv 3) (pa_cons (pe_str) (pa_cons (pv 2) pa_nil)))) (pa_cons (pe_tup (pa_cons (pe_op op_add_str (pv 3) (pe_str)) (pa_cons (pe_str) (pa_cons (pv 2) pa_nil)))) (pa_cons (pe_tup (pa_cons (pe_op op_add_str (pv 3) (pe_str)) (pa_cons (pe_str) (pa_cons (pv 2) pa_nil)))) pa_nil)))))) <|
        C8.pss_cut (ps_set (i := 1) scArgs.nd rfl (.inl rfl) (pe_op op_cat (pv 1) (pe_lst (pa_cons (pe_tup (pa_cons (pe_op op_add_str (pe_str) (pv 3)) (pa_cons (pe_str) (pa_cons (pv 2) pa_nil)))) (pa_cons (pe_tup (pa_cons (pe_op op_add_str (pv 3) (pe_str)) (pa_cons (pe_str) (pa_cons (pv 2) pa_nil)))) (pa_cons (pe_tup (pa_cons (pe_op op_add_str (pv 3) (pe_str)) (pa_cons (pe_str) (pa_cons (pv 2) pa_nil)))) pa_nil)))))) <|
        pss_one (ps_set (i := 1) scArgs.nd rfl (.inl rfl) (pe_op op_cat (pv 1) (pe_op op_mulN (pe_lst (pa_cons (pe_tup (pa_cons (pe_op op_add_str (pe_op op_add_str (pe_op op_add_str (pe_str) (pv 3)) (pe_str)) (pe_str)) (pa_cons (pe_str) (pa_cons (pv 2) pa_nil)))) pa_nil)) (pe_callTy call_int1 (by rfl) int (by decide +kernel) (pa_cons (pe_cmpR op_ne (pv 2) pe_str (nomark _)) pa_nil))))))) <|
      pss_one (ps_ret (pe_op op_cat (pv 1) (pe_lst (pa_cons (pe_tup (pa_cons (pe_str) (pa_cons (pe_str) (pa_cons (pe_str) pa_nil)))) (pa_cons (pe_tup (pa_cons (pe_op op_add_str (pe_str) (pv 0)) (pa_cons (pe_str) (pa_cons (pe_str) pa_nil)))) (pa_cons (pe_tup (pa_cons (pe_op op_add_str (pe_op op_add_str (pv 0) (pe_str)) (pv 0)) (pa_cons (pe_str) (pa_cons (pe_str) pa_nil)))) pa_nil)))))), ?_⟩
    have wide : ∀ {k : Nat}, k ≤ 1000 → k ≤ sizeLine := fun h => Nat.le_trans h (by decide)
    refine ⟨(by show 0 ≤ sizeLine; decide), fun F0 nF => ?_⟩
    have s0 := same_upd (o := .lst []) nF
    have e0 : (upd H F0 (.lst [])) F0 = some (.lst []) := upd_same
    dsimp only [tNil] at nF ⊢
    generalize upd H F0 (.lst []) = G0 at s0 e0 ⊢
    refine ⟨fun σ G => ∃ (F : Addr) (us : List V) (y2 y3 : Option V), σ = [some (.str va), some (.ref F), y2, y3] ∧ Same H G ∧ G F = some (.lst us) ∧ All2 (TrAt G) us (forms4.flatMap (argsF va)) ∧ us.length ≤ 28, ?_, ?_⟩
    · refine ⟨(by show 4 ≤ sizeLine; decide), fun T nT => ?_⟩
      have sT := same_upd (o := .tup (forms4.map V.str)) nT
      have eT : (upd G0 T (.tup (forms4.map V.str))) T = some (.tup (forms4.map V.str)) := upd_same
      have e0 := sT _ _ e0
      rw [show ([V.str "plain", V.str "wrap", V.str "many", V.str "some"] : List V) = forms4.map V.str from rfl]
      generalize upd G0 T (.tup (forms4.map V.str)) = G1 at sT eT e0 ⊢
      refine ⟨T, rfl, ⟨_, SqT.of eT⟩, ?_⟩
      refine for_tup (K := K) (a := T) (xs := forms4.map V.str) (fun i σ G => ∃ (F : Addr) (us : List V) (y2 y3 : Option V), σ = [some (.str va), some (.ref F), y2, y3] ∧ Same G1 G ∧ G F = some (.lst us) ∧ All2 (TrAt G) us ((forms4.take i).flatMap (argsF va)) ∧ us.length ≤ 7 * i) ⟨F0, [], none, none, rfl, Same.refl _, e0, .nil, Nat.le_refl _⟩ (fun i σ G hi ⟨_, _, _, _, _, sm, _⟩ => same_sqt sm (SqT.of eT)) ?_ ?_
      · rintro i v σ G hv ⟨F, us, y2, y3, rfl, sm, hF, hus, ul⟩
        have i4 : i < 4 := by
          have := (List.getElem?_eq_some_iff.mp hv).1
          rw [List.length_map] at this
          exact this
        rw [List.getElem?_map] at hv
        obtain ⟨fm, hfm, rfl⟩ := Option.map_eq_some_iff.mp hv
        have fin := List.mem_of_getElem? hfm
        have fl := forms_len fm fin
        have tk : (forms4.take (i + 1)).flatMap (argsF va) = (forms4.take i).flatMap (argsF va) ++ argsF va fm := by
          rw [List.take_add_one, hfm, List.flatMap_append]
          simp
        generalize (forms4.take i).flatMap (argsF va) = as at hus tk
        generalize hg : givF va fm = g at *
        have gl : g.length ≤ 8 := by
          rw [← hg]
          unfold givF
          split
          · omega
          · split
            · exact Nat.le_trans (len_app (len_app (show ("[" : Str).length ≤ 1 from Nat.le_refl _) vl) (show ("]" : Str).length ≤ 1 from Nat.le_refl _)) (by decide)
            · exact Nat.le_trans (len_app (len_app (len_app fl (show ("(" : Str).length ≤ 1 from Nat.le_refl _)) vl) (show (")" : Str).length ≤ 1 from Nat.le_refl _)) (by decide)
        -- what is given
        refine ⟨fun σ G' => σ = [some (.str va), some (.ref F), some (.str fm), some (.str g)] ∧ Same G G', ?_, ?_⟩
        · have k1 : ("[" : Str).length = 1 := rfl
          have k2 : ("]" : Str).length = 1 := rfl
          have k3 : ("(" : Str).length = 1 := rfl
          have k4 : (")" : Str).length = 1 := rfl
          have q1 := len_app (Nat.le_of_eq k1) vl
          have q2 := len_app fl (Nat.le_of_eq k3)
          have q3 := len_app q2 vl
          refine fun p np => ⟨_, rfl, _, rfl, _, _, rfl, rfl, wide (by omega), _, _, rfl, rfl, wide (by omega), upd_same, [(.inr "plain", .str va), (.inr "wrap", .str ("[" ++ va ++ "]"))], rfl, (by show 2 ≤ 15; decide), p, rfl, .inl ⟨_, .of upd_same⟩, _, rfl, _, rfl, _, _, rfl, rfl, wide (by omega), _, rfl, _, _, rfl, rfl, wide (by omega), _, _, rfl, rfl, wide (by omega), _, .inl ⟨_, .inr fm, .of upd_same, rfl, rfl⟩, ?_, ?_⟩
          · have ev : (valV (mergeK [] [((.inr "plain" : Key), V.str va), (.inr "wrap", .str ("[" ++ va ++ "]"))]) (.inr fm)).getD (.str (fm ++ "(" ++ va ++ ")")) = .str g := by
              rw [← hg]
              rcases form_ne fm fin with rfl | rfl | rfl | rfl
              · rfl
              · rfl
              · rfl
              · rfl
            exact congrArg (fun v => [some (V.str va), some (.ref F), some (.str fm), some v]) ev
          · have sA := same_upd (o := .dK []) np
            intro b o e
            have bp : b ≠ p := ne_of_none e np
            rw [upd_ne bp]
            exact sA _ _ e
        rintro σ G' ⟨rfl, s1⟩
        have hF1 := s1 _ _ hF
        have hus1 := hus.imp fun _ _ => TrAt.same s1
        have sm1 := sm.trans s1
        -- three
        refine ⟨fun σ G => ∃ (F : Addr) (us : List V), σ = [some (.str va), some (.ref F), some (.str fm), some (.str g)] ∧ Same G1 G ∧ G F = some (.lst us) ∧ All2 (TrAt G) us (as ++ [ar g "plain" fm, ar (g ++ "[0]") "first" fm, ar (g ++ "[-1]") "last" fm]) ∧ us.length ≤ 7 * i + 3, ?_, ?_⟩
        · have k3 : ("[0]" : Str).length = 3 := rfl
          have k4 : ("[-1]" : Str).length = 4 := rfl
          refine ⟨_, rfl, _, rfl, _, rfl, (by show 3 ≤ sizeLine; decide), fun t1 n1 => ⟨_, rfl, _, _, rfl, rfl, wide (by omega), _, rfl, (by show 3 ≤ sizeLine; decide), fun t2 n2 => ⟨_, rfl, _, _, rfl, rfl, wide (by omega), _, rfl, (by show 3 ≤ sizeLine; decide), fun t3 n3 => ⟨(by show 3 ≤ sizeLine; decide), fun l nl => ?_⟩⟩⟩⟩
          obtain ⟨s2, el, al⟩ := new3 (a := ar g "plain" fm) (b := ar (g ++ "[0]") "first" fm) (c := ar (g ++ "[-1]") "last" fm) n1 n2 n3 nl
          refine ⟨F, l, us, _, rfl, rfl, s2 _ _ hF1, el, wide (by simp; omega), fun R nR => ?_⟩
          have s3 := same_upd (o := .lst (us ++ [.ref t1, .ref t2, .ref t3])) nR
          exact ⟨R, _, rfl, sm1.trans (s2.trans s3), upd_same, (hus1.imp fun _ _ => TrAt.same (s2.trans s3)).app (al.imp fun _ _ => TrAt.same s3), by simp; omega⟩
        rintro σ G2 ⟨F, us, rfl, sm2, hF2, hus2, ul2⟩
        refine ⟨fun σ G => ∃ (F : Addr) (us : List V), σ = [some (.str va), some (.ref F), some (.str fm), some (.str g)] ∧ Same G1 G ∧ G F = some (.lst us) ∧ All2 (TrAt G) us (as ++ [ar g "plain" fm, ar (g ++ "[0]") "first" fm, ar (g ++ "[-1]") "last" fm] ++ [ar ("*" ++ g) "spread" fm, ar (g ++ "[1]") "wrong" fm, ar (g ++ "[:1]") "wrong" fm]) ∧ us.length ≤ 7 * i + 6, ?_, ?_⟩
        · have k1 : ("*" : Str).length = 1 := rfl
          have k3 : ("[1]" : Str).length = 3 := rfl
          have k4 : ("[:1]" : Str).length = 4 := rfl
          refine ⟨_, rfl, _, rfl, _, _, rfl, rfl, wide (by omega), _, rfl, (by show 3 ≤ sizeLine; decide), fun t1 n1 => ⟨_, rfl, _, _, rfl, rfl, wide (by omega), _, rfl, (by show 3 ≤ sizeLine; decide), fun t2 n2 => ⟨_, rfl, _, _, rfl, rfl, wide (by omega), _, rfl, (by show 3 ≤ sizeLine; decide), fun t3 n3 => ⟨(by show 3 ≤ sizeLine; decide), fun l nl => ?_⟩⟩⟩⟩
          obtain ⟨s2, el, al⟩ := new3 (a := ar ("*" ++ g) "spread" fm) (b := ar (g ++ "[1]") "wrong" fm) (c := ar (g ++ "[:1]") "wrong" fm) n1 n2 n3 nl
          refine ⟨F, l, us, _, rfl, rfl, s2 _ _ hF2, el, wide (by simp; omega), fun R nR => ?_⟩
          have s3 := same_upd (o := .lst (us ++ [.ref t1, .ref t2, .ref t3])) nR
          exact ⟨R, _, rfl, sm2.trans (s2.trans s3), upd_same, (hus2.imp fun _ _ => TrAt.same (s2.trans s3)).app (al.imp fun _ _ => TrAt.same s3), by simp; omega⟩
        rintro σ G3 ⟨F, us, rfl, sm3, hF3, hus3, ul3⟩
        -- one more, but for plain
        have k1 : ("[" : Str).length = 1 := rfl
        have k2 : ("]" : Str).length = 1 := rfl
        have k3 : ("[0]" : Str).length = 3 := rfl
        have q1 := len_app (Nat.le_of_eq k1) gl
        have q2 := len_app q1 (Nat.le_of_eq k2)
        refine ⟨_, rfl, _, rfl, _, _, rfl, rfl, wide (by omega), _, _, rfl, rfl, wide (by omega), _, _, rfl, rfl, wide (by omega), _, rfl, (by show 3 ≤ sizeLine; decide), fun t1 n1 => ⟨(by show 1 ≤ sizeLine; decide), fun l nl => ?_⟩⟩
        have sa := same_upd (o := tr3 (ar ("[" ++ g ++ "]" ++ "[0]") "wrong" fm)) n1
        have sb := same_upd (o := .lst [.ref t1]) nl
        have e1 : (upd (upd G3 t1 (tr3 (ar ("[" ++ g ++ "]" ++ "[0]") "wrong" fm))) l (.lst [.ref t1])) l = some (.lst [.ref t1]) := upd_same
        have a1 : TrAt (upd (upd G3 t1 (tr3 (ar ("[" ++ g ++ "]" ++ "[0]") "wrong" fm))) l (.lst [.ref t1])) (.ref t1) (ar ("[" ++ g ++ "]" ++ "[0]") "wrong" fm) := ⟨t1, rfl, sb _ _ upd_same⟩
        have s2 := sa.trans sb
        refine ⟨_, rfl, rfl, .inr ⟨_, rfl, l, [.ref t1], _, rfl, rfl, e1, ?_, ?_, (by show 1 ≤ 1000; decide), fun m nm => ?_⟩⟩
        · split <;> decide
        · split <;> decide
        have dec : decide (V.str fm = V.str "plain") = decide (fm = "plain") := decide_eq_decide.mpr ⟨fun e => V.str.inj e, fun e => by rw [e]⟩
        have fa : argsF va fm = [ar g "plain" fm, ar (g ++ "[0]") "first" fm, ar (g ++ "[-1]") "last" fm] ++ [ar ("*" ++ g) "spread" fm, ar (g ++ "[1]") "wrong" fm, ar (g ++ "[:1]") "wrong" fm] ++ (if fm = "plain" then [] else [ar ("[" ++ g ++ "]" ++ "[0]") "wrong" fm]) := by
          unfold argsF
          rw [hg]
        rw [dec]
        by_cases hp : fm = "plain"
        · rw [decide_eq_true hp]
          rw [if_pos hp, List.append_nil] at fa
          have s3 := same_upd (o := .lst (List.replicate (if (!true) = true then (1 : Int) else 0).toNat [V.ref t1]).flatten) nm
          refine ⟨F, m, us, [], rfl, rfl, s3 _ _ (s2 _ _ hF3), upd_same, wide (by simp; omega), fun R nR => ?_⟩
          have s4 := same_upd (o := .lst (us ++ [])) nR
          have sx := s2.trans (s3.trans s4)
          refine ⟨R, us ++ [], _, _, rfl, sm3.trans sx, upd_same, ?_, by simp; omega⟩
          rw [List.append_nil, tk, fa, ← List.append_assoc]
          exact hus3.imp fun _ _ => TrAt.same (by rw [List.append_nil] at sx; exact sx)
        · rw [decide_eq_false hp]
          rw [if_neg hp] at fa
          have s3 := same_upd (o := .lst (List.replicate (if (!false) = true then (1 : Int) else 0).toNat [V.ref t1]).flatten) nm
          refine ⟨F, m, us, [.ref t1], rfl, rfl, s3 _ _ (s2 _ _ hF3), upd_same, wide (by simp; omega), fun R nR => ?_⟩
          have s4 := same_upd (o := .lst (us ++ [V.ref t1])) nR
          refine ⟨R, us ++ [.ref t1], _, _, rfl, sm3.trans (s2.trans (s3.trans s4)), upd_same, ?_, by simp; omega⟩
          rw [tk, fa, ← List.append_assoc, ← List.append_assoc]
          exact (hus3.imp fun _ _ => TrAt.same (s2.trans (s3.trans s4))).app (.cons (a1.same (s3.trans s4)) .nil)
      · rintro σ G ⟨F, us, y2, y3, rfl, sm, hF, hus, ul⟩
        rw [List.length_map, show forms4.length = 4 from rfl, show forms4.take 4 = forms4 from rfl] at hus
        exact ⟨F, us, _, _, rfl, s0.trans (sT.trans sm), hF, hus, by rw [List.length_map, show forms4.length = 4 from rfl] at ul; exact ul⟩
    rintro σ G ⟨F, us, y2, y3, rfl, sm, hF, hus, ul⟩
    have k1 : ("**" : Str).length = 2 := rfl
    have k2 : (", " : Str).length = 2 := rfl
    have q1 := len_app vl (Nat.le_of_eq k2)
    refine ⟨_, rfl, (by show 3 ≤ sizeLine; decide), fun t1 n1 => ⟨_, rfl, _, _, rfl, rfl, wide (by omega), (by show 3 ≤ sizeLine; decide), fun t2 n2 => ⟨_, rfl, _, _, rfl, rfl, wide (by omega), _, rfl, _, _, rfl, rfl, wide (by omega), (by show 3 ≤ sizeLine; decide), fun t3 n3 => ⟨(by show 3 ≤ sizeLine; decide), fun l nl => ?_⟩⟩⟩⟩
    obtain ⟨s2, el, al⟩ := new3 (a := ar "" "wrong" "") (b := ar ("**" ++ va) "wrong" "") (c := ar (va ++ ", " ++ va) "wrong" "") n1 n2 n3 nl
    refine ⟨F, l, us, _, rfl, rfl, s2 _ _ hF, el, wide (by simp; omega), fun R nR => ?_⟩
    have s3 := same_upd (o := .lst (us ++ [.ref t1, .ref t2, .ref t3])) nR
    have ea : argsZ va = forms4.flatMap (argsF va) ++ endA3 va := by
      unfold argsZ forms4
      simp
    refine q _ R _ (sm.trans (s2.trans s3)) upd_same ?_
    rw [ea]
    exact (hus.imp fun _ _ => TrAt.same (s2.trans s3)).app (al.imp fun _ _ => TrAt.same s3)
end
end TX
namespace TX
open PySem PySem.Spec PyProof.Rows L2 KTD
/-! ### what is told of one more line -/
def fewZ (e : Except Nat RS) : Prop := ∀ S, e = .ok S → (opsOf S).length ≤ 4 ∧ S.found.length ≤ 12
theorem args_len : (vs4.all fun va => (argsZ va).all fun a => decide (a.1.length ≤ 20)) = true := by decide +kernel
theorem lead_ok : ∀ d ∈ d1234, Txt.mul " " ((2 * (d - 1) : Nat) : Int) ++ "  " = indS d := by decide +kernel
theorem lead_mul : ∀ d ∈ d1234, MulOk " " ((2 * (d - 1) : Nat) : Int) := by
  have key : ∀ d : Fin 5, MulOk " " ((2 * (d.1 - 1) : Nat) : Int) := by
    intro d
    refine ⟨?_, fun _ _ => ?_, fun _ _ => ?_⟩
    · revert d
      decide +kernel
    · revert d
      decide +kernel
    · revert d
      decide +kernel
  have le4 : ∀ d ∈ d1234, d ≤ 4 := by decide
  exact fun d h => key ⟨d, by have := le4 d h; omega⟩
section
variable {ls : List Str} {d : Nat} {va : Str} {lo : Bool}
theorem Opn.call (h : Opn ls d va lo) (h4 : d ∈ d1234) {t : Str} (ht : t ∈ tgts) {a : Arg} (ha : a ∈ argsZ va) :
    TextOk (Txt.join "\n" (ls ++ [callL d t a.1])) ((ls ++ [callL d t a.1]).map cs) ((ls ++ [callL d t a.1]).map rowL) ∧ fewZ (allT T3 ((ls ++ [callL d t a.1]).map rowL)) ∧
    wrongZ (allT T3 ((ls ++ [callL d t a.1]).map rowL)) = (if isLetZ t a.2.1 a.2.2 lo = true then .non else .int (ls.length : Nat)) ∧
    (isLetZ t a.2.1 a.2.2 lo = true → ∃ S, allT T3 ((ls ++ [callL d t a.1]).map rowL) = .ok S ∧ S.found.filter (fun p => decide (p.1 = ls.length)) = (dueF t a).map (fun f => (ls.length, f))) := by
  obtain ⟨A, _, inv⟩ := h.st
  have c := List.all_eq_true.mp (List.all_eq_true.mp (List.all_eq_true.mp (List.all_eq_true.mp calls_ok d h4) va inv.va) t ht) a ha
  rw [Bool.and_eq_true] at c
  have hb : ∀ b : Bool, b ∈ bools := by decide
  have cb := List.all_eq_true.mp c.2 lo (hb lo)
  have le4 : ∀ d ∈ d1234, d ≤ 4 := by decide
  obtain ⟨tx, hn, hs⟩ := h.more (le4 d h4) c.1 ht
  unfold callB at cb
  cases hz : readInnerT T3 (rowL (callL d t a.1)).2 va "own" lo M0 with
  | none =>
    rw [hz] at cb
    dsimp only at cb
    have e := hn hz
    have il : isLetZ t a.2.1 a.2.2 lo = false := by
      cases hx : isLetZ t a.2.1 a.2.2 lo with
      | false => rfl
      | true => rw [hx] at cb; cases cb
    refine ⟨tx, (fun S hS => by rw [e] at hS; cases hS), ?_, (fun hl => by rw [il] at hl; cases hl)⟩
    rw [e, il]
    rfl
  | some z =>
    rw [hz] at cb
    simp only [Bool.and_eq_true, decide_eq_true_eq] at cb
    obtain ⟨il, zd, za⟩ := cb
    have dl : (dueF t a).length ≤ 1 := by
      unfold dueF
      split <;> simp
    obtain ⟨S, eS, o4, f12, ff⟩ := hs z hz zd (by rw [za]; exact dl)
    refine ⟨tx, (fun S' hS => by rw [eS] at hS; cases hS; exact ⟨o4, f12⟩), ?_, fun _ => ⟨S, eS, by rw [ff, za]⟩⟩
    rw [eS, il]
    rfl
theorem Opn.tailG (h : Opn ls d va lo) (h4 : d ∈ d1234) {l w : Str} {ok : Bool} (hl : lineT l d w = true) (hw : w ∈ tgts) (hb : tailB d va lo l ok = true) :
    TextOk (Txt.join "\n" (ls ++ [l])) ((ls ++ [l]).map cs) ((ls ++ [l]).map rowL) ∧ fewZ (allT T3 ((ls ++ [l]).map rowL)) ∧ wrongZ (allT T3 ((ls ++ [l]).map rowL)) = (if ok = true then .non else .int (ls.length : Nat)) := by
  have le4 : ∀ d ∈ d1234, d ≤ 4 := by decide
  obtain ⟨tx, hn, hs⟩ := h.more (le4 d h4) hl hw
  unfold tailB at hb
  cases hz : readInnerT T3 (rowL l).2 va "own" lo M0 with
  | none =>
    rw [hz] at hb
    dsimp only at hb
    have e := hn hz
    cases ok with
    | true => cases hb
    | false =>
      refine ⟨tx, (fun S hS => by rw [e] at hS; cases hS), ?_⟩
      rw [e]
      rfl
  | some z =>
    rw [hz] at hb
    simp only [Bool.and_eq_true, decide_eq_true_eq] at hb
    obtain ⟨il, zd, za⟩ := hb
    obtain ⟨S, eS, o4, f12, ff⟩ := hs z hz zd za
    refine ⟨tx, (fun S' hS => by rw [eS] at hS; cases hS; exact ⟨o4, f12⟩), ?_⟩
    rw [eS, il]
    rfl
theorem Opn.tails (h : Opn ls d va lo) (h4 : d ∈ d1234) {g : Str} (hg : g ∈ gs4 va) :
    (∀ s ∈ tailsO "own" g, lineT (tlL d "own" s) d "own" = true ∧ tailB d va lo (tlL d "own" s) false = true) ∧ (∀ s ∈ tailsO "out" g, lineT (tlL d "out" s) d "out" = true ∧ tailB d va lo (tlL d "out" s) true = true) ∧ lineT (indS d ++ "out = log + " ++ g) d "out" = true ∧ tailB d va lo (indS d ++ "out = log + " ++ g) false = true := by
  obtain ⟨A, _, inv⟩ := h.st
  have hb : ∀ b : Bool, b ∈ bools := by decide
  have c := List.all_eq_true.mp (List.all_eq_true.mp (List.all_eq_true.mp tails_ok d h4) va inv.va) g hg
  rw [Bool.and_eq_true, Bool.and_eq_true, Bool.and_eq_true] at c
  obtain ⟨c1, c2, c3, c4⟩ := c
  refine ⟨fun s hs => ?_, fun s hs => ?_, c3, List.all_eq_true.mp c4 lo (hb lo)⟩
  · have := List.all_eq_true.mp c1 s hs
    rw [Bool.and_eq_true] at this
    exact ⟨this.1, List.all_eq_true.mp this.2 lo (hb lo)⟩
  · have := List.all_eq_true.mp c2 s hs
    rw [Bool.and_eq_true] at this
    exact ⟨this.1, List.all_eq_true.mp this.2 lo (hb lo)⟩
end
/-! ### spots of a program -/
def FdV (H : Hp) (v : V) (p : Nat × Str) : Prop := ∃ t, v = .ref t ∧ FdAt H t p
theorem FdV.same {H H' : Hp} (s : Same H H') {v : V} {p : Nat × Str} (h : FdV H v p) : FdV H' v p := by
  obtain ⟨t, e, h⟩ := h
  exact ⟨t, e, s _ _ h⟩
theorem All2.ref {H : Hp} : ∀ {fs : List Addr} {ps : List (Nat × Str)}, All2 (FdAt H) fs ps → All2 (FdV H) (fs.map V.ref) ps
  | _, _, .nil => .nil
  | _, _, .cons h t => .cons ⟨_, rfl, h⟩ t.ref
def spSpots (K : PySem.W.Frag) (C CB CR CP : Addr) : Sp := fun vs H Q _ => ∃ (p : Addr) (rows : List (Nat × List Str)) (S : RS), vs = [.ref p] ∧ PgAt K C CB CR CP H p rows S ∧ ∀ l (fs : List V), All2 (FdV H) fs S.found → H l = none → Q (.ref l) (upd H l (.lst fs))
section
variable {P : Program} {w : World} {K : PySem.W.Frag} {mg : Str → Option Value} {base : Heap} {C CB CR CP : Addr} {mc : Value}
theorem scSpots : FnScope ["self"] ["self"] (defScope mProgram_spots) := ⟨rfl, rfl, rfl, by decide +kernel, rfl, by decide +kernel, by decide +kernel⟩
theorem ok_spots {f : Addr} {fd : FuncData} (F : Fun K "spots" "Program.spots" mProgram_spots f fd) (G : PgC K mg CP mc) (lst : mg "list" = none) : FnOk P w K mg base CX0 1 f fd ["self"] (spSpots K C CB CR CP) := by
  refine F.ok scSpots (fun vs H Q E h => ?_) (fun cdv A outer s H vs Q E hr h => ?_)
  · obtain ⟨p, rows, S, rfl, _⟩ := h
    rfl
  · obtain ⟨p, rows, S, rfl, ⟨dx, aR, aO, aT, rv, A2, main, i, hp, _, _, _, _, _, hA⟩, q⟩ := h
    refine ⟨_, pss_one (ps_ret (pe_callTy call_list_of (by rfl) lst (by decide +kernel) (pa_cons (pe_fld (pv 0) rfl) pa_nil))), ?_⟩
    refine ⟨_, rfl, p, CP, dx, _, .ref A2.aF, rfl, hp, G.cl, G.na _ (by decide +kernel), by rfl, A2.aF, _, rfl, .inl (SqL.of hA.F), fun l nl => ?_⟩
    exact q l _ hA.found.ref nl
end
end TX
namespace TX
open PySem PySem.Spec PyProof.Rows L2 KTD
/-! ### the law -/
theorem for_tupE {K : PySem.W.Frag} {a : Addr} {xs : List V} {g : TG} {tb : TS} {N0 : L2.St → Hp → Prop} {rt : VK} {σ : L2.St} {H : Hp} (Pv : Nat → L2.St → Hp → Prop) (h0 : Pv 0 σ H) (hl : ∀ i σ H, i ≤ xs.length → Pv i σ H → SqT K H a xs)
    (hs : ∀ i x σ H, xs[i]? = some x → Pv i σ H → g x σ H fun σ2 H2 => tb { nx := Pv (i + 1), rt := rt, ct := Pv (i + 1), bk := N0 } σ2 H2) (hd : ∀ σ H, Pv xs.length σ H → N0 σ H) :
    ∃ W : Nat → Nat → L2.St → Hp → Prop, (∃ m, W 0 m σ H) ∧ ∀ i m σ H, W i m σ H →
      ((Itt K a).stop i H ∧ N0 σ H) ∨ ((Itt K a).go i H ∧ ∃ N : L2.St → Hp → Prop, (∀ σ' H', N σ' H' → ∃ m', m' < m ∧ W (i + 1) m' σ' H') ∧ ∀ x H', (Itt K a).yld i H x H' → g x σ H' fun σ2 H2 => tb { nx := N, rt := rt, ct := N, bk := N0 } σ2 H2) :=
  for_tup (D := { nx := N0, rt := rt }) Pv h0 hl hs hd
structure Ml (mg : Str → Option Value) : Prop where
  max : mg "max" = none
  min : mg "min" = none
def spLaw (K : PySem.W.Frag) : Sp := fun vs H Q _ => ∃ (a : Addr) (ns : List Int), vs = [.ref a] ∧ SqL K H a (ns.map V.int) ∧ ns.length ≤ 63 ∧ ∀ H', Q (.bl true) H'
abbrev NL : List Str := ["_law_script", "_law_at", "_law_bag_here", "_law_lines", "_law_variable", "_law_is_loop", "_law_lead", "_law_line", "_law_target", "_law_given", "_law_how", "_law_form", "_law_made", "_law_is_let_here", "_law_due", "_law_told", "_law_tails", "_law_one", "_law_tail"]
structure Lc (P : Program) (w : World) (K : PySem.W.Frag) (mg : Str → Option Value) (base : Heap) (C CB CR CP BP TM : Addr) (mc : Value) (a1 a2 a3 a4 a5 fP fS : Addr) (d1 d2 d3 d4 d5 dP dS : FuncData) : Prop where
  G1 : FnOk P w K mg base CX0 1 a1 d1 ["_law_script", "_law_at"] (spBag K)
  g1 : mg "_law_bag" = some (.ref a1)
  k1 : PySem.W.keepIn K (.ref a1) = true
  b1 : Binds K d1 ["_law_script", "_law_at"] []
  G2 : FnOk P w K mg base CX0 3 a2 d2 ["_law_bag_here"] spOpened
  g2 : mg "_law_opened" = some (.ref a2)
  k2 : PySem.W.keepIn K (.ref a2) = true
  b2 : Binds K d2 ["_law_bag_here"] []
  G3 : FnOk P w K mg base CX0 1 a3 d3 ["_law_variable"] spArgs
  g3 : mg "_law_arguments" = some (.ref a3)
  k3 : PySem.W.keepIn K (.ref a3) = true
  b3 : Binds K d3 ["_law_variable"] []
  G4 : FnOk P w K mg base CX0 1 a4 d4 ["_law_target", "_law_how", "_law_form", "_law_is_loop"] spIsLet
  g4 : mg "_law_is_let" = some (.ref a4)
  k4 : PySem.W.keepIn K (.ref a4) = true
  b4 : Binds K d4 ["_law_target", "_law_how", "_law_form", "_law_is_loop"] []
  G5 : FnOk P w K mg base CX0 11 a5 d5 ["_law_lines"] (spWrong K)
  g5 : mg "_law_wrong" = some (.ref a5)
  k5 : PySem.W.keepIn K (.ref a5) = true
  b5 : Binds K d5 ["_law_lines"] []
  PG : PgC K mg CP mc
  MP : Mk K CP fP
  GP : FnOk P w K mg base (L2.CX P w) 9 fP dP ["self", "text"] (spProg K C CB CR CP BP TM T3.tbs)
  bP : Binds K dP ["self", "text"] []
  mS : Meth K CP "spots" fS
  GS : FnOk P w K mg base CX0 1 fS dS ["self"] (spSpots K C CB CR CP)
  bS : Binds K dS ["self"] []
theorem noE {X : Cx} : ∀ σ, PassesAt (L2.CX X.prog X.w) X σ (fun _ _ _ => False) := fun _ _ _ _ _ _ _ ⟨_, _, _, _, _, _, _, _, _, _, _, _, z⟩ => z.elim
def pD (p : Nat × Str) : PyData := .tuple [.int (p.1 : Nat), .str p.2]
theorem dp_fd {K : PySem.W.Frag} {H : Hp} : ∀ {us : List V} {ps : List (Nat × Str)}, All2 (FdV H) us ps → DpAll K H us (ps.map pD)
  | _, _, .nil => .nil
  | _, _, .cons ⟨t, e, h⟩ r => by
    subst e
    exact .cons (.tup (SqT.of h) (.cons (.int _) (.cons (.str _) .nil))) (dp_fd r)
theorem FdV.upd {H : Hp} {l : Addr} {ys : List V} {o : HO} (hl : H l = some (.lst ys)) {v : V} {p : Nat × Str} (h : FdV H v p) : FdV (upd H l o) v p := by
  obtain ⟨t, e, h⟩ := h
  exact ⟨t, e, (upd_ne (ne_kindC h hl fun z => nomatch z)).trans h⟩
theorem own_tails (g : Str) : tailsO "own" g = [" += " ++ g, " = own + " ++ g, ".join(" ++ g ++ ")"] := by
  have e : (" = " ++ "own" ++ " + " : Str) = " = own + " := by decide +kernel
  unfold tailsO
  rw [e]
theorem out_tails (g : Str) : tailsO "out" g = [" += " ++ g, " = out + " ++ g, ".join(" ++ g ++ ")"] := by
  have e : (" = " ++ "out" ++ " + " : Str) = " = out + " := by decide +kernel
  unfold tailsO
  rw [e]
section
variable {P : Program} {w : World} {K : PySem.W.Frag} {mg : Str → Option Value} {base : Heap} {C CB CR CP BP TM : Addr} {mc : Value}
theorem scLaw : FnScope NL ["_law_script"] (defScope sLaw) := ⟨rfl, rfl, rfl, by decide +kernel, rfl, by decide +kernel, by decide +kernel⟩
theorem ok_law {f a1 a2 a3 a4 a5 fP fS : Addr} {fd d1 d2 d3 d4 d5 dP dS : FuncData} (F : Fun K "law" "law" sLaw f fd) (M : Ml mg) (B : Nd mg) (L : Lc P w K mg base C CB CR CP BP TM mc a1 a2 a3 a4 a5 fP fS d1 d2 d3 d4 d5 dP dS) : FnG P w K mg base CX0 12 f fd ["_law_script"] (spLaw K) := by
  refine fng_of F scLaw (fun vs H Q E h => ?_) (fun cdv A outer s H vs Q E hgd hr h => ?_)
  · obtain ⟨a, ns, rfl, _⟩ := h
    rfl
  · obtain ⟨a0, ns, rfl, hS0, hn, q⟩ := h
    have r1 : Room 1 _ := hr.mono (by decide)
    have r3 : Room 3 _ := hr.mono (by decide)
    have r10 : Room 10 _ := hr.mono (by decide)
    have r11 : Room 11 _ := hr.mono (by decide)
    have hu := hr.units
    refine ⟨_, pss_cons (ps_for PassesOwn.never rfl (pi_range1 (by rfl) B.range (pa_cons (pe_callB (call_max2 rfl) (by rfl) M.max (by decide +kernel) (pa_cons pe_int (pa_cons (pe_callB (call_min2 rfl) (by rfl) M.min (by decide +kernel) (pa_cons pe_int (pa_cons (pe_callB call_len_seq (by rfl) B.len PySem.boot_len (pa_cons (pv 0) pa_nil)) pa_nil))) pa_nil))) pa_nil)) (pg_name (i := 1) scLaw.nd rfl (.inl rfl)) (
        pss_cons (ps_set (i := 2) scLaw.nd rfl (.inl rfl) (pe_call L.G1 r1 (by rfl) L.g1 L.k1 L.b1 .nil pass0 (pa_cons (pv 0) (pa_cons (pv 1) pa_nil)))) <|
        C8.pss_cut (ps_asg (pe_call L.G2 r3 (by rfl) L.g2 L.k2 L.b2 .nil pass0 (pa_cons (pv 2) pa_nil)) (pg_tup rfl (pgs_cons (pg_name (i := 3) scLaw.nd rfl (.inr rfl)) (pgs_cons (pg_name (i := 4) scLaw.nd rfl (.inl rfl)) (pgs_cons (pg_name (i := 5) scLaw.nd rfl (.inl rfl)) pgs_nil))))) <|
        C8.pss_cut (ps_asg (pe_tup (pa_cons (pe_op op_add_str (pe_op op_mulS pe_str (pe_op op_sub (pe_callB call_len_str (by rfl) B.len PySem.boot_len (pa_cons (pe_ix ix_list (pv 3) (pe_un un_neg pe_int) (fun _ _ => rfl)) pa_nil)) (pe_callB call_len_str (by rfl) B.len PySem.boot_len (pa_cons (pe_m0 PySem.F.slot_str_lstrip PySem.F.type_str_lstrip mt_lstrip (pe_ix ix_list (pv 3) (pe_un un_neg pe_int) (fun _ _ => rfl))) pa_nil)))) (pe_str)) (pa_cons (pe_callB call_len_seq (by rfl) B.len PySem.boot_len (pa_cons (pv 3) pa_nil)) pa_nil))) (pg_tup rfl (pgs_cons (pg_name (i := 6) scLaw.nd rfl (.inr rfl)) (pgs_cons (pg_name (i := 7) scLaw.nd rfl (.inr rfl)) pgs_nil)))) <|
        C8.pss_cut (ps_for PassesOwn.never rfl (pi_tup (pe_tup (pa_cons (pe_str) (pa_cons (pe_str) (pa_cons (pe_str) pa_nil))))) (pg_name (i := 8) scLaw.nd rfl (.inl rfl)) (
          pss_one (ps_for PassesOwn.never rfl (pi_list (pe_call L.G3 r1 (by rfl) L.g3 L.k3 L.b3 .nil pass0 (pa_cons (pv 4) pa_nil))) (pg_tup rfl (pgs_cons (pg_name (i := 9) scLaw.nd rfl (.inl rfl)) (pgs_cons (pg_name (i := 10) scLaw.nd rfl (.inl rfl)) (pgs_cons (pg_name (i := 11) scLaw.nd rfl (.inl rfl)) pgs_nil)))) (
            C8.pss_cut (ps_set (i := 12) scLaw.nd rfl (.inl rfl) (pe_op op_cat (pv 3) (pe_lst (pa_cons (pe_op op_add_str (pe_op op_add_str (pe_op op_add_str (pe_op op_add_str (pv 6) (pv 8)) (pe_str)) (pv 9)) (pe_str)) pa_nil)))) <|
            C8.pss_cut (ps_set (i := 13) scLaw.nd rfl (.inl rfl) (pe_call L.G4 r1 (by rfl) L.g4 L.k4 L.b4 .nil pass0 (pa_cons (pv 8) (pa_cons (pv 10) (pa_cons (pv 11) (pa_cons (pv 5) pa_nil)))))) <|
            C8.pss_cut (ps_if (pt_cmpR op_ne (pe_call L.G5 r11 (by rfl) L.g5 L.k5 L.b5 .nil pass0 (pa_cons (pv 12) pa_nil)) (pe_ifExp (pt_val (pv 13)) pe_non (pv 7)) (nomark _)) (pss_one (ps_ret pe_bl)) pss_nil) <|
            pss_one (ps_if (pt_val (pv 13)) (
              C8.pss_cut (ps_set (i := 14) scLaw.nd rfl (.inl rfl) (pe_ifExp (PW.pt (pw_or (pt_cmpR op_ne (pv 8) pe_str (nomark _)) (pw_or1 (pt_cmpR op_ne (pv 10) pe_str (nomark _))))) (pe_lst (pa_cons (pe_tup (pa_cons (pv 7) (pa_cons (pv 11) pa_nil))) pa_nil)) (pe_lst pa_nil))) <|
              C8.pss_cut (ps_set (i := 15) scLaw.nd rfl (.inl rfl) (pe_meth0 (pe_makeS (E := fun _ _ _ _ => False) L.MP L.GP r10 (by rfl) L.PG.mgP L.bP noE (pa_cons (pe_join pe_str (pv 12)) pa_nil)) L.PG.cl L.mS L.GS r1 L.bS .nil pass0)) <|
              pss_one (ps_if (pt_cmpR (op_neD hu) (pe_lc (own := [("_law_one", 17)]) (g := gName 17) (tt := tTest (tOp rEq (tOp (rIxT K) (tVar 17) (tC (.int 0))) (tVar 7))) (te := tVar 17) rfl scLaw.nd (pi_list (pv 15)) (blkOk_by (own := [("_law_one", 17)]) (N := NL) (sc := defScope sLaw) (by decide +kernel)) (fun _ _ _ _ _ => pg_name (i := 17) scLaw.nd rfl (Or.inl rfl)) (fun _ _ _ _ _ => pts_one (pt_cmpR op_eq (pe_ix ix_tup (pv 17) pe_int (fun _ _ => rfl)) (pv 7) (nomark _))) (fun _ _ _ _ _ => pv 17)) (pv 14) (nomark _)) (pss_one (ps_ret pe_bl)) pss_nil)) pss_nil))))) <|
        pss_one (ps_for PassesOwn.never rfl (pi_tup (pe_tup (pa_cons (pv 4) (pa_cons (pe_op op_add_str (pe_op op_add_str (pe_str) (pv 4)) (pe_str)) (pa_cons (pe_op op_add_str (pe_op op_add_str (pe_str) (pv 4)) (pe_str)) (pa_cons (pe_op op_add_str (pe_op op_add_str (pe_str) (pv 4)) (pe_str)) pa_nil)))))) (pg_name (i := 9) scLaw.nd rfl (.inl rfl)) (
          C8.pss_cut (ps_set (i := 16) scLaw.nd rfl (.inl rfl) (pe_lst (pa_cons (pe_op op_add_str (pe_str) (pv 9)) (pa_cons (pe_op op_add_str (pe_str) (pv 9)) (pa_cons (pe_op op_add_str (pe_op op_add_str (pe_str) (pv 9)) (pe_str)) pa_nil))))) <|
          C8.pss_cut (ps_if (pt_cmpR (op_neD hu) (pe_lc (own := [("_law_tail", 18)]) (g := gName 18) (tt := tYes) rfl scLaw.nd (pi_list (pv 16)) (blkOk_by (own := [("_law_tail", 18)]) (N := NL) (sc := defScope sLaw) (by decide +kernel)) (fun _ _ _ _ _ => pg_name (i := 18) scLaw.nd rfl (Or.inl rfl)) (fun _ _ _ _ _ => pts_nil) (fun _ _ _ _ _ => pe_call L.G5 r11 (by rfl) L.g5 L.k5 L.b5 .nil pass0 (pa_cons (pe_op op_cat (pv 3) (pe_lst (pa_cons (pe_op op_add_str (pe_op op_add_str (pv 6) (pe_str)) (pv 18)) pa_nil))) pa_nil))) (pe_op op_mulN (pe_lst (pa_cons (pv 7) pa_nil)) pe_int) (nomark _)) (pss_one (ps_ret pe_bl)) pss_nil) <|
          C8.pss_cut (ps_asg (pe_op op_add_str (pe_str) (pv 9)) (pg_sub (pv 16) pe_int set_list)) <|
          C8.pss_cut (ps_if (pt_cmpR (op_neD hu) (pe_lc (own := [("_law_tail", 18)]) (g := gName 18) (tt := tYes) rfl scLaw.nd (pi_list (pv 16)) (blkOk_by (own := [("_law_tail", 18)]) (N := NL) (sc := defScope sLaw) (by decide +kernel)) (fun _ _ _ _ _ => pg_name (i := 18) scLaw.nd rfl (Or.inl rfl)) (fun _ _ _ _ _ => pts_nil) (fun _ _ _ _ _ => pe_call L.G5 r11 (by rfl) L.g5 L.k5 L.b5 .nil pass0 (pa_cons (pe_op op_cat (pv 3) (pe_lst (pa_cons (pe_op op_add_str (pe_op op_add_str (pv 6) (pe_str)) (pv 18)) pa_nil))) pa_nil))) (pe_op op_mulN (pe_lst (pa_cons pe_non pa_nil)) pe_int) (nomark _)) (pss_one (ps_ret pe_bl)) pss_nil) <|
          pss_one (ps_if (pt_cmpR op_ne (pe_call L.G5 r11 (by rfl) L.g5 L.k5 L.b5 .nil pass0 (pa_cons (pe_op op_cat (pv 3) (pe_lst (pa_cons (pe_op op_add_str (pe_op op_add_str (pv 6) (pe_str)) (pv 9)) pa_nil))) pa_nil)) (pv 7) (nomark _)) (pss_one (ps_ret pe_bl)) pss_nil))))) <|
      pss_one (ps_ret pe_bl), ?_⟩
    have wide : ∀ {k : Nat}, k ≤ 1000 → k ≤ sizeLine := fun h => Nat.le_trans h (by decide)
    have wide1 : ∀ {k : Nat}, k ≤ 1000 → k < sizeLine := fun h => Nat.lt_of_le_of_lt h (by decide)
    refine ⟨_, rfl, a0, _, rfl, .inl hS0, _, _, rfl, _, _, rfl, _, rfl, ?_, ?_, ?_⟩
    · split <;> (try split) <;> omega
    · split <;> (try split) <;> omega
    refine for_range (lo := 0) (fun i σ H1 => ∃ y1 y2 y3 y4 y5 y6 y7 y8 y9 y10 y11 y12 y13 y14 y15 y16, σ = [some (.ref a0), y1, y2, y3, y4, y5, y6, y7, y8, y9, y10, y11, y12, y13, y14, y15, y16, none, none] ∧ Same H H1) ⟨_, _, _, _, _, _, _, _, _, _, _, _, _, _, _, _, rfl, Same.refl _⟩ ?_ ?_
    · rintro i σ H1 hi ⟨y1, y2, y3, y4, y5, y6, y7, y8, y9, y10, y11, y12, y13, y14, y15, y16, rfl, sm⟩
      have hi3 : i ≤ 3 := by
        have : i < (4 : Int).toNat := Nat.lt_of_lt_of_le hi (Int.toNat_le_toNat (by split <;> (try split) <;> omega))
        omega
      have e0 : (0 : Int) + (i : Int) = (i : Int) := by omega
      rw [e0]
      refine ⟨_, rfl, _, rfl, a0, ns, i, rfl, sm.seq hS0, by omega, fun H2 p s2 np bag => ?_⟩
      have pH : H p = none := sm.free np
      -- what is opened
      refine ⟨fun σ G => ∃ (LL : Addr) (ls : List Str) (d : Nat) (va : Str) (lo : Bool), σ = [some (.ref a0), some (.int (i : Nat)), some (.ref p), some (.ref LL), some (.str va), some (.bl lo), y6, y7, y8, y9, y10, y11, y12, y13, y14, y15, y16, none, none] ∧ (∀ b o, H b = some o → G b = some o) ∧ G LL = some (.lst (ls.map V.str)) ∧ Opn ls d va lo ∧ d ∈ d1234, ?_, ?_⟩
      · refine ⟨_, rfl, p, 0, rfl, bag, by omega, fun H' t LL ls d va lo sl op d4 ht => ?_⟩
        have d1 : 1 ≤ d := by
          obtain ⟨A0, _, inv⟩ := op.st
          exact inv.d1
        have dm : ∀ d, 1 ≤ d → d ≤ 4 → d ∈ d1234 := by
          intro d h1 h2
          have : ∀ k, k < 5 → 1 ≤ k → k ∈ d1234 := by decide
          exact this d (by omega) h1
        exact ⟨t, _, rfl, SqT.of ht, rfl, _, _, rfl, _, _, rfl, _, _, rfl, rfl, LL, ls, d, va, lo, rfl, fun b o e => sl.keep b o (ne_of_none e pH) (s2 _ _ (sm b o e)), sl.hL, op, dm d d1 d4⟩
      rintro σ G1 ⟨LL, ls, d, va, lo, rfl, kk, hL, op, hd⟩
      have iv := op.st
      obtain ⟨A0, _, inv⟩ := iv
      have va4 := inv.va
      have val := small_len.1 va va4
      have lsl : ls.length ≤ 12 := by
        have := op.len
        have le4 : ∀ d ∈ d1234, d ≤ 4 := by decide
        have := le4 d hd
        omega
      have il0 : (indS d).length ≤ 8 := by
        rw [ind_len]
        have le4 : ∀ d ∈ d1234, d ≤ 4 := by decide
        have := le4 d hd
        omega
      -- how deep the next line is
      refine ⟨fun σ G => σ = [some (.ref a0), some (.int (i : Nat)), some (.ref p), some (.ref LL), some (.str va), some (.bl lo), some (.str (indS d)), some (.int (ls.length : Nat)), y8, y9, y10, y11, y12, y13, y14, y15, y16, none, none] ∧ Same G1 G, ?_, ?_⟩
      · obtain ⟨l, hl, st, ll, lle⟩ := op.last
        have hlast : (ls.map V.str).getLast? = some (.str l) := by
          rw [List.getLast?_map, hl]
          rfl
        have ev : ((l.length : Nat) : Int) - (((Txt.lstrip l).length : Nat) : Int) = ((2 * (d - 1) : Nat) : Int) := by omega
        have lm := lead_mul d hd
        have lk := lead_ok d hd
        refine ⟨_, rfl, _, rfl, LL, _, _, _, rfl, rfl, SqL.of hL, atI_end hlast, l, rfl, wide (by omega), _, rfl, _, rfl, LL, _, _, _, rfl, rfl, SqL.of hL, atI_end hlast, ⟨_, rfl⟩, l, rfl, rfl, wide (by omega), _, rfl, wide (by omega), _, _, rfl, rfl, " ", 2 * (d - 1), rfl, congrArg V.int ev, lm, _, _, rfl, rfl, wide (by
          have := congrArg Str.length lk
          rw [Str.length_append] at this
          omega), _, rfl, LL, _, rfl, .inl (SqL.of hL), (by show 2 ≤ sizeLine; decide), fun t nt => ?_⟩
        refine ⟨t, _, rfl, SqT.of upd_same, rfl, _, _, rfl, _, _, rfl, rfl, ?_, same_upd nt⟩
        rw [← lk, ← List.length_map (f := V.str) (as := ls)]
        rfl
      rintro σ G2 ⟨rfl, sG2⟩
      have hL2 := sG2 _ _ hL
      -- calls
      refine ⟨fun σ G => ∃ y8 y9 y10 y11 y12 y13 y14 y15, σ = [some (.ref a0), some (.int (i : Nat)), some (.ref p), some (.ref LL), some (.str va), some (.bl lo), some (.str (indS d)), some (.int (ls.length : Nat)), y8, y9, y10, y11, y12, y13, y14, y15, y16, none, none] ∧ Same G2 G, ?_, ?_⟩
      · refine ⟨(by show 3 ≤ sizeLine; decide), fun T nT => ?_⟩
        have sT := same_upd (o := .tup (tgts.map V.str)) nT
        have eT : (upd G2 T (.tup (tgts.map V.str))) T = some (.tup (tgts.map V.str)) := upd_same
        rw [show ([V.str "own", V.str "early", V.str "out"] : List V) = tgts.map V.str from rfl]
        generalize upd G2 T (.tup (tgts.map V.str)) = G4 at sT eT ⊢
        refine ⟨T, rfl, ⟨_, SqT.of eT⟩, ?_⟩
        refine for_tup (K := K) (a := T) (xs := tgts.map V.str) (fun j σ G => ∃ y8 y9 y10 y11 y12 y13 y14 y15, σ = [some (.ref a0), some (.int (i : Nat)), some (.ref p), some (.ref LL), some (.str va), some (.bl lo), some (.str (indS d)), some (.int (ls.length : Nat)), y8, y9, y10, y11, y12, y13, y14, y15, y16, none, none] ∧ Same G4 G) ⟨_, _, _, _, _, _, _, _, rfl, Same.refl _⟩ (fun j σ G hj ⟨_, _, _, _, _, _, _, _, _, sm⟩ => same_sqt sm (SqT.of eT)) ?_ ?_
        · rintro j v σ G hv ⟨y8, y9, y10, y11, y12, y13, y14, y15, rfl, sm4⟩
          obtain ⟨t, rfl, ht⟩ : ∃ t, v = V.str t ∧ t ∈ tgts := by
            obtain ⟨a, ha, e⟩ := List.mem_map.mp (List.mem_of_getElem? hv)
            exact ⟨a, e.symm, ha⟩
          have tl : t.length ≤ 5 := by
            have : ∀ x ∈ tgts, x.length ≤ 5 := by decide +kernel
            exact this t ht
          refine ⟨_, rfl, va, rfl, val, fun H' R us sH hR al => ?_⟩
          refine ⟨R, rfl, ⟨_, SqL.of hR⟩, ?_⟩
          refine for_list (K := K) (a := R) (xs := us) (fun m σ G => ∃ y9 y10 y11 y12 y13 y14 y15, σ = [some (.ref a0), some (.int (i : Nat)), some (.ref p), some (.ref LL), some (.str va), some (.bl lo), some (.str (indS d)), some (.int (ls.length : Nat)), some (.str t), y9, y10, y11, y12, y13, y14, y15, y16, none, none] ∧ Same H' G) ⟨_, _, _, _, _, _, _, rfl, Same.refl _⟩ (fun m σ G hm ⟨_, _, _, _, _, _, _, _, sm⟩ => SqL.of (sm _ _ hR)) ?_ ?_
          · rintro m v σ G hx ⟨y9, y10, y11, y12, y13, y14, y15, rfl, sm5⟩
            obtain ⟨a, ha⟩ : ∃ a, (argsZ va)[m]? = some a := by
              have := (List.getElem?_eq_some_iff.mp hx).1
              rw [al.length] at this
              exact ⟨_, List.getElem?_eq_getElem this⟩
            obtain ⟨tt, rfl, htt⟩ := al.get hx ha
            have am := List.mem_of_getElem? ha
            have al20 : a.1.length ≤ 20 := of_decide_eq_true (List.all_eq_true.mp (List.all_eq_true.mp args_len va va4) a am)
            have htt5 := sm5 _ _ htt
            have hLG := sm5 _ _ (sH _ _ (sm4 _ _ (sT _ _ hL2)))
            obtain ⟨tx, few, wz, sp⟩ := op.call hd ht am
            have fo : a.2.2 ∈ forms4 ∨ a.2.1 = "wrong" := by
              have := List.all_eq_true.mp (List.all_eq_true.mp args_form va va4) a am
              rw [Bool.or_eq_true, decide_eq_true_eq, decide_eq_true_eq] at this
              exact this
            have fok : isLetZ t a.2.1 a.2.2 lo = true → PyData.strOk a.2.2 = true := fun h => by
              rcases fo with y | y
              · have : ∀ f ∈ forms4, PyData.strOk f = true := by decide +kernel
                exact this _ y
              · unfold isLetZ at h
                rw [if_pos (.inl y)] at h
                cases h
            generalize hil : isLetZ t a.2.1 a.2.2 lo = il at wz sp fok
            refine ⟨tt, _, rfl, SqT.of htt5, rfl, _, _, rfl, _, _, rfl, _, _, rfl, rfl, ?_⟩
            refine ⟨fun σ G' => ∃ Md : Addr, σ = [some (.ref a0), some (.int (i : Nat)), some (.ref p), some (.ref LL), some (.str va), some (.bl lo), some (.str (indS d)), some (.int (ls.length : Nat)), some (.str t), some (.str a.1), some (.str a.2.1), some (.str a.2.2), some (.ref Md), y13, y14, y15, y16, none, none] ∧ Same G G' ∧ G' Md = some (.lst ((ls ++ [callL d t a.1]).map V.str)), ?_, ?_⟩
            · have k1 : ("(" : Str).length = 1 := rfl
              have k2 : (")" : Str).length = 1 := rfl
              have q1 := len_app il0 tl
              have q2 := len_app q1 (Nat.le_of_eq k1)
              have q3 := len_app q2 al20
              refine ⟨_, rfl, _, rfl, _, rfl, _, _, rfl, rfl, wide (by omega), _, _, rfl, rfl, wide (by omega), _, rfl, _, _, rfl, rfl, wide (by omega), _, _, rfl, rfl, wide (by omega), (by show 1 ≤ sizeLine; decide), fun l nl => ?_⟩
              have s6 := same_upd (o := .lst [.str (callL d t a.1)]) nl
              have el : (upd G l (.lst [.str (callL d t a.1)])) l = some (.lst [.str (callL d t a.1)]) := upd_same
              refine ⟨LL, l, _, _, rfl, rfl, s6 _ _ hLG, el, wide (by rw [List.length_map]; simp; omega), fun R2 nR2 => ?_⟩
              have s7 := same_upd (o := .lst (ls.map V.str ++ [.str (callL d t a.1)])) nR2
              exact ⟨R2, rfl, s6.trans s7, by rw [upd_same, List.map_append]; rfl⟩
            rintro σ G6 ⟨Md, rfl, s6, hMd⟩
            refine ⟨fun σ G' => σ = [some (.ref a0), some (.int (i : Nat)), some (.ref p), some (.ref LL), some (.str va), some (.bl lo), some (.str (indS d)), some (.int (ls.length : Nat)), some (.str t), some (.str a.1), some (.str a.2.1), some (.str a.2.2), some (.ref Md), some (.bl il), y14, y15, y16, none, none] ∧ G' = G6, ?_, ?_⟩
            · exact ⟨_, rfl, _, rfl, _, rfl, _, rfl, t, a.2.1, a.2.2, lo, rfl, by rw [hil]; rfl, rfl⟩
            rintro σ G' ⟨rfl, rfl⟩
            refine ⟨fun σ G => σ = [some (.ref a0), some (.int (i : Nat)), some (.ref p), some (.ref LL), some (.str va), some (.bl lo), some (.str (indS d)), some (.int (ls.length : Nat)), some (.str t), some (.str a.1), some (.str a.2.1), some (.str a.2.2), some (.ref Md), some (.bl il), y14, y15, y16, none, none] ∧ Same G' G, ?_, ?_⟩
            · refine ⟨_, rfl, Md, _, _, rfl, SqL.of hMd, tx, few, fun G7 s7 => ?_⟩
              rw [wz]
              cases il with
              | true => exact ⟨_, rfl, _, rfl, iteT ⟨rfl, _, rfl, iteF ⟨rfl, s7⟩⟩⟩
              | false =>
                refine ⟨_, rfl, _, rfl, iteF ⟨_, rfl, rfl, _, rfl, ?_⟩⟩
                rw [show (!decide ((if false = true then V.non else V.int ((ls.length : Nat) : Int)) = V.int ((ls.length : Nat) : Int))) = false by
                  rw [decide_eq_true (show (if false = true then V.non else V.int ((ls.length : Nat) : Int)) = V.int ((ls.length : Nat) : Int) from rfl)]
                  rfl]
                exact iteF ⟨rfl, s7⟩
            rintro σ G8 ⟨rfl, s8⟩
            have fin : ∀ (y14 y15 : Option V) (G9 : Hp), Same G8 G9 → ∃ y9 y10 y11 y12 y13 y14' y15', ([some (.ref a0), some (.int (i : Nat)), some (.ref p), some (.ref LL), some (.str va), some (.bl lo), some (.str (indS d)), some (.int (ls.length : Nat)), some (.str t), some (.str a.1), some (.str a.2.1), some (.str a.2.2), some (.ref Md), some (.bl il), y14, y15, y16, none, none] : L2.St) = [some (.ref a0), some (.int (i : Nat)), some (.ref p), some (.ref LL), some (.str va), some (.bl lo), some (.str (indS d)), some (.int (ls.length : Nat)), some (.str t), y9, y10, y11, y12, y13, y14', y15', y16, none, none] ∧ Same H' G9 := fun y14 y15 G9 s9 => ⟨_, _, _, _, _, _, _, rfl, sm5.trans (s6.trans (s8.trans s9))⟩
            refine ⟨_, rfl, _, rfl, ?_⟩
            cases il with
            | false => exact iteF (fin _ _ G8 (Same.refl _))
            | true =>
              obtain ⟨S, eS, ff⟩ := sp rfl
              have dec : ∀ {a b : Str}, decide (V.str a = V.str b) = decide (a = b) := fun {a b} => decide_eq_decide.mpr ⟨fun e => V.str.inj e, fun e => by rw [e]⟩
              refine iteT ?_
              refine ⟨fun σ G => ∃ (D : Addr) (ud : List V), σ = [some (.ref a0), some (.int (i : Nat)), some (.ref p), some (.ref LL), some (.str va), some (.bl lo), some (.str (indS d)), some (.int (ls.length : Nat)), some (.str t), some (.str a.1), some (.str a.2.1), some (.str a.2.2), some (.ref Md), some (.bl true), some (.ref D), y15, y16, none, none] ∧ Same G8 G ∧ G D = some (.lst ud) ∧ All2 (FdV G) ud ((dueF t a).map fun f => (ls.length, f)), ?_, ?_⟩
              · have one : ∀ {tt l : Addr} (nt : G8 tt = none) (nl : (upd G8 tt (.tup [.int (ls.length : Nat), .str a.2.2])) l = none), dueF t a = [a.2.2] → ∃ (D : Addr) (ud : List V), ([some (.ref a0), some (.int (i : Nat)), some (.ref p), some (.ref LL), some (.str va), some (.bl lo), some (.str (indS d)), some (.int (ls.length : Nat)), some (.str t), some (.str a.1), some (.str a.2.1), some (.str a.2.2), some (.ref Md), some (.bl true), some (.ref l), y15, y16, none, none] : L2.St) = [some (.ref a0), some (.int (i : Nat)), some (.ref p), some (.ref LL), some (.str va), some (.bl lo), some (.str (indS d)), some (.int (ls.length : Nat)), some (.str t), some (.str a.1), some (.str a.2.1), some (.str a.2.2), some (.ref Md), some (.bl true), some (.ref D), y15, y16, none, none] ∧ Same G8 (upd (upd G8 tt (.tup [.int (ls.length : Nat), .str a.2.2])) l (.lst [.ref tt])) ∧ (upd (upd G8 tt (.tup [.int (ls.length : Nat), .str a.2.2])) l (.lst [.ref tt])) D = some (.lst ud) ∧ All2 (FdV (upd (upd G8 tt (.tup [.int (ls.length : Nat), .str a.2.2])) l (.lst [.ref tt]))) ud ((dueF t a).map fun f => (ls.length, f)) := fun {tt l} nt nl hdu => by
                  have sa := same_upd (o := .tup [.int (ls.length : Nat), .str a.2.2]) nt
                  have sb := same_upd (o := .lst [.ref tt]) nl
                  rw [hdu]
                  exact ⟨l, _, rfl, sa.trans sb, upd_same, .cons ⟨tt, rfl, sb _ _ upd_same⟩ .nil⟩
                refine ⟨_, rfl, rfl, _, rfl, ?_⟩
                rw [dec]
                by_cases ho : t = "own"
                · rw [decide_eq_true ho]
                  refine iteF ⟨_, rfl, rfl, _, rfl, ?_⟩
                  rw [dec]
                  by_cases hp : a.2.1 = "plain"
                  · rw [decide_eq_true hp]
                    refine iteF ⟨(by show 0 ≤ sizeLine; decide), fun l nl => ?_⟩
                    have hdu : dueF t a = [] := by
                      unfold dueF
                      rw [if_pos ⟨ho, hp⟩]
                    rw [hdu]
                    exact ⟨l, [], rfl, same_upd nl, upd_same, .nil⟩
                  · rw [decide_eq_false hp]
                    have hdu : dueF t a = [a.2.2] := by
                      unfold dueF
                      rw [if_neg fun z => hp z.2]
                    exact iteT ⟨_, rfl, _, rfl, (by show 2 ≤ sizeLine; decide), fun tt nt => ⟨(by show 1 ≤ sizeLine; decide), fun l nl => one nt nl hdu⟩⟩
                · rw [decide_eq_false ho]
                  have hdu : dueF t a = [a.2.2] := by
                    unfold dueF
                    rw [if_neg fun z => ho z.1]
                  exact iteT (iteT ⟨_, rfl, _, rfl, (by show 2 ≤ sizeLine; decide), fun tt nt => ⟨(by show 1 ≤ sizeLine; decide), fun l nl => one nt nl hdu⟩⟩)
              rintro σ G9 ⟨D, ud, rfl, s9, hD, hud⟩
              have hMd9 := s9 _ _ (s8 _ _ hMd)
              refine ⟨fun σ G => ∃ (TD : Addr) (uf : List V), σ = [some (.ref a0), some (.int (i : Nat)), some (.ref p), some (.ref LL), some (.str va), some (.bl lo), some (.str (indS d)), some (.int (ls.length : Nat)), some (.str t), some (.str a.1), some (.str a.2.1), some (.str a.2.2), some (.ref Md), some (.bl true), some (.ref D), some (.ref TD), y16, none, none] ∧ Same G9 G ∧ G TD = some (.lst uf) ∧ All2 (FdV G) uf S.found, ?_, ?_⟩
              · refine ⟨⟨_, rfl⟩, _, rfl, "\n", Md, _, rfl, rfl, .inl (SqL.of hMd9), text_sum tx, ?_⟩
                intro x dx nx ndx nex
                have s0 : Same G9 (upd (upd G9 dx (.own x)) x (.ins CP dx [])) := same_fresh nx (same_upd ndx)
                have e0 := upd_same (H := upd G9 dx (.own x)) (a := x) (o := .ins CP dx [])
                generalize upd (upd G9 dx (.own x)) x (.ins CP dx []) = GA at s0 e0 ⊢
                have alS : readAll T3.tbs (((ls ++ [callL d t a.1]).map cs).map rowOf) = .ok S := by
                  rw [tx.rw]
                  exact (all_is T3_ok tx.ok).trans eS
                have back : ∀ {G4 : Hp}, (∀ b o, b ≠ x → GA b = some o → G4 b = some o) → Same G9 G4 := fun k b o e => k b o (ne_of_none e nx) (s0 _ _ e)
                have fewS := few S eS
                refine ⟨x, dx, _, _, rfl, e0, tx.len, tx.cut, tx.ne, tx.no, by rw [tx.rw]; exact tx.ok, ?_, ?_, ?_, ?_⟩
                · intro S' eS' h4 h12 GB k4 pg
                  rw [alS] at eS'
                  cases eS'
                  have pg0 := pg
                  obtain ⟨dx2, aR, aO, aT, rv, A2, main, i2, hp, _⟩ := pg0
                  refine ⟨rfl, x, dx2, _, rfl, hp, by rfl, x, _, S, rfl, pg, fun l fs hf nl => ?_⟩
                  have s5 := same_upd (o := .lst fs) nl
                  exact ⟨l, fs, rfl, (back k4).trans s5, upd_same, hf.imp fun _ _ => FdV.same s5⟩
                · intro S' eS' h4
                  rw [alS] at eS'
                  cases eS'
                  omega
                · intro S' eS' h4 h12
                  rw [alS] at eS'
                  cases eS'
                  omega
                · intro n eS'
                  rw [alS] at eS'
                  cases eS'
              rintro σ GC ⟨TD, uf, rfl, sC, hTD, huf⟩
              have hDC := sC _ _ hD
              have hudC := hud.imp fun _ _ => FdV.same sC
              refine ⟨_, rfl, TD, rfl, ⟨_, SqL.of hTD⟩, fun D2 nD2 => lc_list (K := K) (a := TD) (xs := uf) (fun m G => ∃ acc : List V, G D2 = some (.lst acc) ∧ All2 (FdV G) acc ((S.found.take m).filter fun p => decide (p.1 = ls.length)) ∧ Same GC G ∧ acc.length ≤ m) ⟨[], upd_same, .nil, same_upd nD2, Nat.le_refl _⟩ (fun m G hm ⟨_, _, _, s, _⟩ => SqL.of (s _ _ hTD)) ?_ ?_⟩
              · rintro m v G hx2 ⟨acc, hD2, ha2, sx, acl⟩
                have fl12 := (few S eS).2
                obtain ⟨pf, hpf⟩ : ∃ pf, S.found[m]? = some pf := by
                  have := (List.getElem?_eq_some_iff.mp hx2).1
                  rw [huf.length] at this
                  exact ⟨_, List.getElem?_eq_getElem this⟩
                have ml := (List.getElem?_eq_some_iff.mp hpf).1
                obtain ⟨tt2, rfl, htt2⟩ := huf.get hx2 hpf
                have tk : (S.found.take (m + 1)).filter (fun p => decide (p.1 = ls.length)) = (S.found.take m).filter (fun p => decide (p.1 = ls.length)) ++ (if pf.1 = ls.length then [pf] else []) := by
                  rw [List.take_add_one, hpf, List.filter_append]
                  congr 1
                  by_cases hq : pf.1 = ls.length
                  · rw [if_pos hq]
                    simp [hq]
                  · rw [if_neg hq]
                    simp [hq]
                refine ⟨rfl, _, rfl, tt2, _, 0, _, rfl, rfl, SqT.of (sx _ _ htt2), atI_nat (j := 0) rfl, _, rfl, rfl, _, rfl, ?_⟩
                have di : decide (V.int ((pf.1 : Nat) : Int) = V.int ((ls.length : Nat) : Int)) = decide (pf.1 = ls.length) := decide_eq_decide.mpr ⟨fun e => by injection e with e; omega, fun e => by rw [e]⟩
                rw [di]
                by_cases hq : pf.1 = ls.length
                · rw [decide_eq_true hq]
                  rw [if_pos hq] at tk
                  refine iteT ⟨_, rfl, acc, hD2, wide1 (by omega), acc ++ [.ref tt2], upd_same, ?_, same_fresh nD2 sx, by simp; omega⟩
                  rw [tk]
                  exact (ha2.imp fun _ _ => FdV.upd hD2).app (.cons (FdV.upd hD2 ⟨tt2, rfl, sx _ _ htt2⟩) .nil)
                · rw [decide_eq_false hq]
                  rw [if_neg hq, List.append_nil] at tk
                  exact iteF ⟨acc, hD2, by rw [tk]; exact ha2, sx, by omega⟩
              · rintro G ⟨acc, hD2, ha2, sx, _⟩
                rw [huf.length, List.take_length, ff] at ha2
                have sh : SeqAt.shaped (.list (((dueF t a).map fun f => (ls.length, f)).map pD)) = true := by
                  have fk := fok rfl
                  unfold dueF
                  split
                  · rfl
                  · unfold SeqAt.shaped pD
                    simp [PyData.canLay0, PyData.canLayAll0, PyData.depth, PyData.depthAll, fk]
                refine ⟨_, rfl, _, _, .lst (SqL.of hD2) (dp_fd ha2), .lst (SqL.of (sx _ _ hDC)) (dp_fd (hudC.imp fun _ _ => FdV.same sx)), sh, sh, _, rfl, ?_⟩
                rw [SeqAt.eqv_refl _ (SeqAt.canLay_of_shaped sh)]
                exact iteF (fin _ _ G (s9.trans (sC.trans sx)))
          · rintro σ G ⟨y9, y10, y11, y12, y13, y14, y15, rfl, sm5⟩
            exact ⟨_, _, _, _, _, _, _, _, rfl, sm4.trans (sH.trans sm5)⟩
        · rintro σ G ⟨y8, y9, y10, y11, y12, y13, y14, y15, rfl, sm4⟩
          exact ⟨_, _, _, _, _, _, _, _, rfl, sT.trans sm4⟩
      rintro σ G3 ⟨y8, y9, y10, y11, y12, y13, y14, y15, rfl, sG3⟩
      have hL3 := sG3 _ _ hL2
      have k1 : ("[" : Str).length = 1 := rfl
      have k2 : ("]" : Str).length = 1 := rfl
      have k3 : ("some(" : Str).length = 5 := rfl
      have k4 : ("many(" : Str).length = 5 := rfl
      have k5 : (")" : Str).length = 1 := rfl
      have q1 := len_app (Nat.le_of_eq k1) val
      have q3 := len_app (Nat.le_of_eq k3) val
      have q4 := len_app (Nat.le_of_eq k4) val
      refine ⟨_, rfl, _, rfl, _, _, rfl, rfl, wide (by omega), _, _, rfl, rfl, wide (by omega), _, rfl, _, _, rfl, rfl, wide (by omega), _, _, rfl, rfl, wide (by omega), _, rfl, _, _, rfl, rfl, wide (by omega), _, _, rfl, rfl, wide (by omega), (by show 4 ≤ sizeLine; decide), fun T nT => ?_⟩
      have sT := same_upd (o := .tup ((gs4 va).map V.str)) nT
      have eT : (upd G3 T (.tup ((gs4 va).map V.str))) T = some (.tup ((gs4 va).map V.str)) := upd_same
      rw [show ([V.str va, V.str ("[" ++ va ++ "]"), V.str ("some(" ++ va ++ ")"), V.str ("many(" ++ va ++ ")")] : List V) = (gs4 va).map V.str from rfl]
      generalize upd G3 T (.tup ((gs4 va).map V.str)) = G4 at sT eT ⊢
      have hL4 := sT _ _ hL3
      refine ⟨T, rfl, ⟨_, SqT.of eT⟩, ?_⟩
      refine for_tup (K := K) (a := T) (xs := (gs4 va).map V.str) (fun j σ G => ∃ y9 y16, σ = [some (.ref a0), some (.int (i : Nat)), some (.ref p), some (.ref LL), some (.str va), some (.bl lo), some (.str (indS d)), some (.int (ls.length : Nat)), y8, y9, y10, y11, y12, y13, y14, y15, y16, none, none] ∧ Same G4 G) ⟨_, _, rfl, Same.refl _⟩ (fun j σ G hj ⟨_, _, _, sm⟩ => same_sqt sm (SqT.of eT)) ?_ ?_
      · rintro j v σ G hv ⟨y9, y16, rfl, sm4⟩
        obtain ⟨g, rfl, hg⟩ : ∃ g, v = V.str g ∧ g ∈ gs4 va := by
          obtain ⟨a, ha, e⟩ := List.mem_map.mp (List.mem_of_getElem? hv)
          exact ⟨a, e.symm, ha⟩
        have gl : g.length ≤ 7 := by
          unfold gs4 at hg
          simp only [List.mem_cons, List.not_mem_nil, or_false] at hg
          rcases hg with rfl | rfl | rfl | rfl
          · omega
          · exact Nat.le_trans (len_app q1 (Nat.le_of_eq k2)) (by decide)
          · exact len_app q3 (Nat.le_of_eq k5)
          · exact len_app q4 (Nat.le_of_eq k5)
        obtain ⟨t1, t2, t3, t4⟩ := op.tails hd hg
        have hLG := sm4 _ _ hL4
        -- the tails
        refine ⟨fun σ G' => ∃ W : Addr, σ = [some (.ref a0), some (.int (i : Nat)), some (.ref p), some (.ref LL), some (.str va), some (.bl lo), some (.str (indS d)), some (.int (ls.length : Nat)), y8, some (.str g), y10, y11, y12, y13, y14, y15, some (.ref W), none, none] ∧ Same G G' ∧ G W = none ∧ G' W = some (.lst ((tailsO "own" g).map V.str)), ?_, ?_⟩
        · have k6 : (" += " : Str).length = 4 := rfl
          have k7 : (" = own + " : Str).length = 9 := rfl
          have k8 : (".join(" : Str).length = 6 := rfl
          have p3 := len_app (Nat.le_of_eq k8) gl
          refine ⟨_, rfl, _, _, rfl, rfl, wide (by omega), _, rfl, _, _, rfl, rfl, wide (by omega), _, rfl, _, _, rfl, rfl, wide (by omega), _, _, rfl, rfl, wide (by omega), (by show 3 ≤ sizeLine; decide), fun W nW => ?_⟩
          refine ⟨W, rfl, same_upd nW, nW, ?_⟩
          rw [upd_same, own_tails]
          rfl
        rintro σ G5 ⟨W, rfl, s5, nW, hW⟩
        -- own
        refine ⟨fun σ G' => σ = [some (.ref a0), some (.int (i : Nat)), some (.ref p), some (.ref LL), some (.str va), some (.bl lo), some (.str (indS d)), some (.int (ls.length : Nat)), y8, some (.str g), y10, y11, y12, y13, y14, y15, some (.ref W), none, none] ∧ Same G5 G', ?_, ?_⟩
        · refine ⟨_, rfl, W, rfl, ⟨_, SqL.of hW⟩, fun D2 nD2 => lc_list (K := K) (a := W) (xs := (tailsO "own" g).map V.str) (fun m G => G D2 = some (.lst (List.replicate m (V.int ((ls.length : Nat) : Int)))) ∧ Same G5 G) ⟨upd_same, same_upd nD2⟩ (fun m G hm ⟨_, s⟩ => SqL.of (s _ _ hW)) ?_ ?_⟩
          · rintro m v GX hx ⟨hD2, sx⟩
            rw [List.getElem?_map] at hx
            obtain ⟨tl, htl, rfl⟩ := Option.map_eq_some_iff.mp hx
            have tm := List.mem_of_getElem? htl
            have m3 : m < 3 := (List.getElem?_eq_some_iff.mp htl).1
            have tll : tl.length ≤ 20 := by
              have ti : tl ∈ [" += " ++ g, (" = own + " : Str) ++ g, ".join(" ++ g ++ ")"] := by
                rw [← own_tails]
                exact tm
              simp only [List.mem_cons, List.not_mem_nil, or_false] at ti
              rcases ti with rfl | rfl | rfl
              · exact Nat.le_trans (len_app (show (" += " : Str).length ≤ 4 from Nat.le_refl _) gl) (by decide)
              · exact Nat.le_trans (len_app (show (" = own + " : Str).length ≤ 9 from Nat.le_refl _) gl) (by decide)
              · exact Nat.le_trans (len_app (len_app (show (".join(" : Str).length ≤ 6 from Nat.le_refl _) gl) (show (")" : Str).length ≤ 1 from Nat.le_refl _)) (by decide)
            obtain ⟨tx, few, wz⟩ := op.tailG hd (t1 tl tm).1 (by decide +kernel) (t1 tl tm).2
            have k9 : ("own" : Str).length = 3 := rfl
            have p1 := len_app il0 (Nat.le_of_eq k9)
            refine ⟨rfl, _, rfl, _, rfl, _, _, rfl, rfl, wide (by omega), _, rfl, _, _, rfl, rfl, wide (by omega), (by show 1 ≤ sizeLine; decide), fun l nl => ?_⟩
            have sa := same_upd (o := .lst [.str (tlL d "own" tl)]) nl
            have el : (upd GX l (.lst [.str (tlL d "own" tl)])) l = some (.lst [.str (tlL d "own" tl)]) := upd_same
            have hLX := sa _ _ (sx _ _ (s5 _ _ hLG))
            refine ⟨LL, l, _, _, rfl, rfl, hLX, el, wide (by rw [List.length_map]; simp; omega), fun R2 nR2 => ?_⟩
            have sb := same_upd (o := .lst (ls.map V.str ++ [.str (tlL d "own" tl)])) nR2
            refine ⟨R2, ls ++ [tlL d "own" tl], _, rfl, SqL.of (by rw [upd_same, List.map_append]; rfl), tx, few, fun GZ sz => ?_⟩
            rw [wz]
            have sy := sa.trans (sb.trans sz)
            refine ⟨_, sy _ _ hD2, wide1 (by rw [List.length_replicate]; omega), ?_, same_fresh nD2 (sx.trans sy)⟩
            rw [upd_same, List.replicate_succ']
            rfl
          · rintro GX ⟨hD2, sx⟩
            refine ⟨_, rfl, (by show 1 ≤ sizeLine; decide), fun l nl => ?_⟩
            have sa := same_upd (o := .lst [V.int ((ls.length : Nat) : Int)]) nl
            have el : (upd GX l (.lst [V.int ((ls.length : Nat) : Int)])) l = some (.lst [V.int ((ls.length : Nat) : Int)]) := upd_same
            refine ⟨l, _, 3, rfl, rfl, el, by decide, by decide, (by show 1 ≤ 1000; decide), fun m nm => ?_⟩
            have sb := same_upd (o := .lst (List.replicate (3 : Int).toNat [V.int ((ls.length : Nat) : Int)]).flatten) nm
            have sh : SeqAt.shaped (.list [.int ((ls.length : Nat) : Int), .int ((ls.length : Nat) : Int), .int ((ls.length : Nat) : Int)]) = true := by
              unfold SeqAt.shaped
              simp [PyData.canLay0, PyData.canLayAll0, PyData.depth, PyData.depthAll]
            refine ⟨.list [.int ((ls.length : Nat) : Int), .int ((ls.length : Nat) : Int), .int ((ls.length : Nat) : Int)], .list [.int ((ls.length : Nat) : Int), .int ((ls.length : Nat) : Int), .int ((ls.length : Nat) : Int)], .lst (SqL.of (sb _ _ (sa _ _ hD2))) (.cons (.int _) (.cons (.int _) (.cons (.int _) .nil))), .lst (SqL.of (xs := [V.int ((ls.length : Nat) : Int), V.int ((ls.length : Nat) : Int), V.int ((ls.length : Nat) : Int)]) upd_same) (.cons (.int _) (.cons (.int _) (.cons (.int _) .nil))), sh, sh, _, rfl, ?_⟩
            rw [SeqAt.eqv_refl _ (SeqAt.canLay_of_shaped sh)]
            exact iteF ⟨rfl, sx.trans (sa.trans sb)⟩
        rintro σ G6 ⟨rfl, s6⟩
        have hW6 := s6 _ _ hW
        rw [own_tails] at hW6
        -- out's tails
        refine ⟨fun σ G' => σ = [some (.ref a0), some (.int (i : Nat)), some (.ref p), some (.ref LL), some (.str va), some (.bl lo), some (.str (indS d)), some (.int (ls.length : Nat)), y8, some (.str g), y10, y11, y12, y13, y14, y15, some (.ref W), none, none] ∧ Same G G' ∧ G' W = some (.lst ((tailsO "out" g).map V.str)), ?_, ?_⟩
        · have k7 : (" = out + " : Str).length = 9 := rfl
          refine ⟨_, rfl, _, _, rfl, rfl, wide (by omega), _, rfl, W, _, 1, 1, rfl, rfl, hW6, rfl, ?_⟩
          refine ⟨rfl, fun b o e => ?_, ?_⟩
          · rw [upd_ne (ne_of_none e nW)]
            exact s6 _ _ (s5 _ _ e)
          · rw [upd_same, out_tails]
            rfl
        rintro σ G7 ⟨rfl, s7, hW7⟩
        refine ⟨fun σ G' => σ = [some (.ref a0), some (.int (i : Nat)), some (.ref p), some (.ref LL), some (.str va), some (.bl lo), some (.str (indS d)), some (.int (ls.length : Nat)), y8, some (.str g), y10, y11, y12, y13, y14, y15, some (.ref W), none, none] ∧ Same G7 G', ?_, ?_⟩
        · refine ⟨_, rfl, W, rfl, ⟨_, SqL.of hW7⟩, fun D2 nD2 => lc_list (K := K) (a := W) (xs := (tailsO "out" g).map V.str) (fun m G => G D2 = some (.lst (List.replicate m V.non)) ∧ Same G7 G) ⟨upd_same, same_upd nD2⟩ (fun m G hm ⟨_, s⟩ => SqL.of (s _ _ hW7)) ?_ ?_⟩
          · rintro m v GX hx ⟨hD2, sx⟩
            rw [List.getElem?_map] at hx
            obtain ⟨tl, htl, rfl⟩ := Option.map_eq_some_iff.mp hx
            have tm := List.mem_of_getElem? htl
            have m3 : m < 3 := (List.getElem?_eq_some_iff.mp htl).1
            have tll : tl.length ≤ 20 := by
              have ti : tl ∈ [" += " ++ g, (" = out + " : Str) ++ g, ".join(" ++ g ++ ")"] := by
                rw [← out_tails]
                exact tm
              simp only [List.mem_cons, List.not_mem_nil, or_false] at ti
              rcases ti with rfl | rfl | rfl
              · exact Nat.le_trans (len_app (show (" += " : Str).length ≤ 4 from Nat.le_refl _) gl) (by decide)
              · exact Nat.le_trans (len_app (show (" = out + " : Str).length ≤ 9 from Nat.le_refl _) gl) (by decide)
              · exact Nat.le_trans (len_app (len_app (show (".join(" : Str).length ≤ 6 from Nat.le_refl _) gl) (show (")" : Str).length ≤ 1 from Nat.le_refl _)) (by decide)
            obtain ⟨tx, few, wz⟩ := op.tailG hd (t2 tl tm).1 (by decide +kernel) (t2 tl tm).2
            have k9 : ("out" : Str).length = 3 := rfl
            have p1 := len_app il0 (Nat.le_of_eq k9)
            refine ⟨rfl, _, rfl, _, rfl, _, _, rfl, rfl, wide (by omega), _, rfl, _, _, rfl, rfl, wide (by omega), (by show 1 ≤ sizeLine; decide), fun l nl => ?_⟩
            have sa := same_upd (o := .lst [.str (tlL d "out" tl)]) nl
            have el : (upd GX l (.lst [.str (tlL d "out" tl)])) l = some (.lst [.str (tlL d "out" tl)]) := upd_same
            have hLX := sa _ _ (sx _ _ (s7 _ _ hLG))
            refine ⟨LL, l, _, _, rfl, rfl, hLX, el, wide (by rw [List.length_map]; simp; omega), fun R2 nR2 => ?_⟩
            have sb := same_upd (o := .lst (ls.map V.str ++ [.str (tlL d "out" tl)])) nR2
            refine ⟨R2, ls ++ [tlL d "out" tl], _, rfl, SqL.of (by rw [upd_same, List.map_append]; rfl), tx, few, fun GZ sz => ?_⟩
            rw [wz]
            have sy := sa.trans (sb.trans sz)
            refine ⟨_, sy _ _ hD2, wide1 (by rw [List.length_replicate]; omega), ?_, same_fresh nD2 (sx.trans sy)⟩
            rw [upd_same, List.replicate_succ']
            rfl
          · rintro GX ⟨hD2, sx⟩
            refine ⟨(by show 1 ≤ sizeLine; decide), fun l nl => ?_⟩
            have sa := same_upd (o := .lst [V.non]) nl
            have el : (upd GX l (.lst [V.non])) l = some (.lst [V.non]) := upd_same
            refine ⟨l, _, 3, rfl, rfl, el, by decide, by decide, (by show 1 ≤ 1000; decide), fun m nm => ?_⟩
            have sb := same_upd (o := .lst (List.replicate (3 : Int).toNat [V.non]).flatten) nm
            have sh : SeqAt.shaped (.list [.none, .none, .none]) = true := by
              unfold SeqAt.shaped
              simp [PyData.canLay0, PyData.canLayAll0, PyData.depth, PyData.depthAll]
            refine ⟨.list [.none, .none, .none], .list [.none, .none, .none], .lst (SqL.of (sb _ _ (sa _ _ hD2))) (.cons .non (.cons .non (.cons .non .nil))), .lst (SqL.of (xs := [V.non, V.non, V.non]) upd_same) (.cons .non (.cons .non (.cons .non .nil))), sh, sh, _, rfl, ?_⟩
            rw [SeqAt.eqv_refl _ (SeqAt.canLay_of_shaped sh)]
            exact iteF ⟨rfl, sx.trans (sa.trans sb)⟩
        rintro σ G8 ⟨rfl, s8⟩
        have hLG8 := s8 _ _ (s7 _ _ hLG)
        -- a sum of another's
        have k9 : ("out = log + " : Str).length = 12 := rfl
        have p1 := len_app il0 (Nat.le_of_eq k9)
        obtain ⟨tx, few, wz⟩ := op.tailG hd t3 (by decide +kernel) t4
        refine ⟨_, rfl, _, rfl, _, _, rfl, rfl, wide (by omega), _, rfl, _, _, rfl, rfl, wide (by omega), (by show 1 ≤ sizeLine; decide), fun l nl => ?_⟩
        have sa := same_upd (o := .lst [.str (indS d ++ "out = log + " ++ g)]) nl
        have el : (upd G8 l (.lst [.str (indS d ++ "out = log + " ++ g)])) l = some (.lst [.str (indS d ++ "out = log + " ++ g)]) := upd_same
        refine ⟨LL, l, _, _, rfl, rfl, sa _ _ hLG8, el, wide (by rw [List.length_map]; simp; omega), fun R2 nR2 => ?_⟩
        have sb := same_upd (o := .lst (ls.map V.str ++ [.str (indS d ++ "out = log + " ++ g)])) nR2
        refine ⟨R2, ls ++ [indS d ++ "out = log + " ++ g], _, rfl, SqL.of (by rw [upd_same, List.map_append]; rfl), tx, few, fun GZ sz => ?_⟩
        rw [wz]
        refine ⟨_, rfl, rfl, _, rfl, ?_⟩
        rw [show (!decide ((if false = true then V.non else V.int ((ls.length : Nat) : Int)) = V.int ((ls.length : Nat) : Int))) = false by
          rw [decide_eq_true (show (if false = true then V.non else V.int ((ls.length : Nat) : Int)) = V.int ((ls.length : Nat) : Int) from rfl)]
          rfl]
        exact iteF ⟨_, _, rfl, sm4.trans (s7.trans (s8.trans (sa.trans (sb.trans sz))))⟩
      · rintro σ G ⟨y9, y16, rfl, sm4⟩
        exact ⟨_, _, _, _, _, _, _, _, _, _, _, _, _, _, _, _, rfl, fun b o e => sm4 _ _ (sT _ _ (sG3 _ _ (sG2 _ _ (kk b o e))))⟩
    · rintro σ G ⟨y1, y2, y3, y4, y5, y6, y7, y8, y9, y10, y11, y12, y13, y14, y15, y16, rfl, sm⟩
      exact q G
end
end TX
namespace TX
open PySem PySem.Spec PyProof.Rows L2 KTD
abbrev PL : List Str := ["self", "deed", "name", "variable", "form", "ask", "test"]
theorem vals_none : ∀ (n : Nat) {ds : List Value}, Vals (List.replicate n V.non) ds → ds = List.replicate n Value.none
  | 0, _, h => by
    cases h
    rfl
  | n + 1, _, h => by
    cases h with
    | cons r t => rw [show _ = Value.none from r, vals_none n t]; rfl
theorem all_mk {P : Program} {w : World} {K : PySem.W.Frag} {h : Heap} {mg : Str → Option Value} {fa TE f0 f1 f2 f3 f4 f5 f6 f7 f8 f9 f10 f11 f12 f13 f14 f15 f16 f17 f18 f19 f20 f21 f22 f23 f24 f25 f26 f27 f28 f29 f30 f31 f32 f33 C hC0 CB hCB0 CR hCR0 hCR1 hCR2 hCR3 hCR4 hCR5 hCR6 hCR7 CP hCP0 hCP1 BP fBp TM fTm : Addr} (X : K.In h) (G : h.Ns mainGlobals mg) (hfa : mg "law" = some (.ref fa))
    {od0 an0 : Option Addr} {sl0 : Array (Option Value)} {oc0 kV0 dc0 pm0 cd0 ct0 : Value}
    {od1 an1 : Option Addr} {sl1 : Array (Option Value)} {oc1 kV1 dc1 pm1 cd1 ct1 : Value}
    {od2 an2 : Option Addr} {sl2 : Array (Option Value)} {oc2 kV2 dc2 pm2 cd2 ct2 : Value}
    {od3 an3 : Option Addr} {sl3 : Array (Option Value)} {oc3 kV3 dc3 pm3 cd3 ct3 : Value}
    {od4 an4 : Option Addr} {sl4 : Array (Option Value)} {oc4 kV4 dc4 pm4 cd4 ct4 : Value}
    {od5 an5 : Option Addr} {sl5 : Array (Option Value)} {oc5 kV5 dc5 pm5 cd5 ct5 : Value}
    {od6 an6 : Option Addr} {sl6 : Array (Option Value)} {oc6 kV6 dc6 pm6 cd6 ct6 : Value}
    {od7 an7 : Option Addr} {sl7 : Array (Option Value)} {oc7 kV7 dc7 pm7 cd7 ct7 : Value}
    {od8 an8 : Option Addr} {sl8 : Array (Option Value)} {oc8 kV8 dc8 pm8 cd8 ct8 : Value}
    {od9 an9 : Option Addr} {sl9 : Array (Option Value)} {oc9 kV9 dc9 pm9 cd9 ct9 : Value}
    {od10 an10 : Option Addr} {sl10 : Array (Option Value)} {oc10 kV10 dc10 pm10 cd10 ct10 : Value}
    {od11 an11 : Option Addr} {sl11 : Array (Option Value)} {oc11 kV11 dc11 pm11 cd11 ct11 : Value}
    {od12 an12 : Option Addr} {sl12 : Array (Option Value)} {oc12 kV12 dc12 pm12 cd12 ct12 : Value}
    {od13 an13 : Option Addr} {sl13 : Array (Option Value)} {oc13 kV13 dc13 pm13 cd13 ct13 : Value}
    {od14 an14 : Option Addr} {sl14 : Array (Option Value)} {oc14 kV14 dc14 pm14 cd14 ct14 : Value}
    {od15 an15 : Option Addr} {sl15 : Array (Option Value)} {oc15 kV15 dc15 pm15 cd15 ct15 : Value}
    {od16 an16 : Option Addr} {sl16 : Array (Option Value)} {oc16 kV16 dc16 pm16 cd16 ct16 : Value}
    {od17 an17 : Option Addr} {sl17 : Array (Option Value)} {oc17 kV17 dc17 pm17 cd17 ct17 : Value}
    {od18 an18 : Option Addr} {sl18 : Array (Option Value)} {oc18 kV18 dc18 pm18 cd18 ct18 : Value}
    {od19 an19 : Option Addr} {sl19 : Array (Option Value)} {oc19 kV19 dc19 pm19 cd19 ct19 : Value}
    {od20 an20 : Option Addr} {sl20 : Array (Option Value)} {oc20 kV20 dc20 pm20 cd20 ct20 : Value}
    {od21 an21 : Option Addr} {sl21 : Array (Option Value)} {oc21 kV21 dc21 pm21 cd21 ct21 : Value}
    {od22 an22 : Option Addr} {sl22 : Array (Option Value)} {oc22 kV22 dc22 pm22 cd22 ct22 : Value}
    {od23 an23 : Option Addr} {sl23 : Array (Option Value)} {oc23 kV23 dc23 pm23 cd23 ct23 : Value}
    {od24 an24 : Option Addr} {sl24 : Array (Option Value)} {oc24 kV24 dc24 pm24 cd24 ct24 : Value}
    {od25 an25 : Option Addr} {sl25 : Array (Option Value)} {oc25 kV25 dc25 pm25 cd25 ct25 : Value}
    {od26 an26 : Option Addr} {sl26 : Array (Option Value)} {oc26 kV26 dc26 pm26 cd26 ct26 : Value}
    {od27 an27 : Option Addr} {sl27 : Array (Option Value)} {oc27 kV27 dc27 pm27 cd27 ct27 : Value}
    {od28 an28 : Option Addr} {sl28 : Array (Option Value)} {oc28 kV28 dc28 pm28 cd28 ct28 : Value}
    {od29 an29 : Option Addr} {sl29 : Array (Option Value)} {oc29 kV29 dc29 pm29 cd29 ct29 : Value}
    {od30 an30 : Option Addr} {sl30 : Array (Option Value)} {oc30 kV30 dc30 pm30 cd30 ct30 : Value}
    {od31 an31 : Option Addr} {sl31 : Array (Option Value)} {oc31 kV31 dc31 pm31 cd31 ct31 : Value}
    {od32 an32 : Option Addr} {sl32 : Array (Option Value)} {oc32 kV32 dc32 pm32 cd32 ct32 : Value}
    {od33 an33 : Option Addr} {sl33 : Array (Option Value)} {oc33 kV33 dc33 pm33 cd33 ct33 : Value}
    {odC0 anC0 : Option Addr} {slC0 : Array (Option Value)} {ocC0 kVC0 dcC0 pmC0 cdC0 ctC0 : Value}
    {odCB0 anCB0 : Option Addr} {slCB0 : Array (Option Value)} {ocCB0 kVCB0 dcCB0 pmCB0 cdCB0 ctCB0 : Value}
    {odCR0 anCR0 : Option Addr} {slCR0 : Array (Option Value)} {ocCR0 kVCR0 dcCR0 pmCR0 cdCR0 ctCR0 : Value}
    {odCR1 anCR1 : Option Addr} {slCR1 : Array (Option Value)} {ocCR1 kVCR1 dcCR1 pmCR1 cdCR1 ctCR1 : Value}
    {odCR2 anCR2 : Option Addr} {slCR2 : Array (Option Value)} {ocCR2 kVCR2 dcCR2 pmCR2 cdCR2 ctCR2 : Value}
    {odCR3 anCR3 : Option Addr} {slCR3 : Array (Option Value)} {ocCR3 kVCR3 dcCR3 pmCR3 cdCR3 ctCR3 : Value}
    {odCR4 anCR4 : Option Addr} {slCR4 : Array (Option Value)} {ocCR4 kVCR4 dcCR4 pmCR4 cdCR4 ctCR4 : Value}
    {odCR5 anCR5 : Option Addr} {slCR5 : Array (Option Value)} {ocCR5 kVCR5 dcCR5 pmCR5 cdCR5 ctCR5 : Value}
    {odCR6 anCR6 : Option Addr} {slCR6 : Array (Option Value)} {ocCR6 kVCR6 dcCR6 pmCR6 cdCR6 ctCR6 : Value}
    {odCR7 anCR7 : Option Addr} {slCR7 : Array (Option Value)} {ocCR7 kVCR7 dcCR7 pmCR7 cdCR7 ctCR7 : Value}
    {odCP0 anCP0 : Option Addr} {slCP0 : Array (Option Value)} {ocCP0 kVCP0 dcCP0 pmCP0 cdCP0 ctCP0 : Value}
    {odCP1 anCP1 : Option Addr} {slCP1 : Array (Option Value)} {ocCP1 kVCP1 dcCP1 pmCP1 cdCP1 ctCP1 : Value}
    {nmT qT : Str} {NT' : Addr} {bsT mrT : List Value} {hdT : Bool} {snT : List Str} {subT : List Value} {abT : Bool} {colT : Option Bool} {ddT : Option Addr} {m0T m1T m2T m3T m5T : Option Value}
    {nmBP qBP : Str} {NBP : Addr} {bsBP : List Value} {snBP : List Str} {subBP : List Value} {abBP : Bool} {colBP : Option Bool} {ddBP : Option Addr} {m0BP m1BP m2BP m3BP m5BP : Option Value}
    {odBp anBp : Option Addr} {slBp : Array (Option Value)} {ocBp kVBp dcBp pmBp cdBp ctBp : Value}
    {nmTM qTM : Str} {NTM : Addr} {bsTM : List Value} {snTM : List Str} {subTM : List Value} {abTM : Bool} {colTM : Option Bool} {ddTM : Option Addr} {m0TM m1TM m2TM m3TM m5TM : Option Value}
    {odTm anTm : Option Addr} {slTm : Array (Option Value)} {ocTm kVTm dcTm pmTm cdTm ctTm : Value}
    {tN tFu tVa tTa tO0 tO1 tO2 tO3 t4 t12 : Tok} {aK aFo aLo aAr aGi aO aAt aNu aRa aSg TD : Addr} {odO odD odS : Option Addr} {nO nD nS : Nat} {slO slD slS : Array (Option Value)} {tKn tS0 tS1 tS2 tS3 tS4 tS5 : Tok}
    (a0 : PySem.W.nsIn K mainGlobals "all_parts" = some (some (.ref f0)))
    (l0 : K.lookup f0 = some ⟨oc0, od0, .func (PySem.W.fnOf "all_parts" "all_parts" (defArgs sParts) (defBody sParts) (defScope sParts) .none kV0 dc0 pm0 an0 cd0 ct0), sl0⟩)
    (c0 : PySem.W.codeIn K cd0 "all_parts" = true)
    (k0 : PySem.W.keepIn K (.ref f0) = true)
    (a1 : PySem.W.nsIn K mainGlobals "copy_of" = some (some (.ref f1)))
    (l1 : K.lookup f1 = some ⟨oc1, od1, .func (PySem.W.fnOf "copy_of" "copy_of" (defArgs sCopy) (defBody sCopy) (defScope sCopy) .none kV1 dc1 pm1 an1 cd1 ct1), sl1⟩)
    (c1 : PySem.W.codeIn K cd1 "copy_of" = true)
    (k1 : PySem.W.keepIn K (.ref f1) = true)
    (a2 : PySem.W.nsIn K mainGlobals "cleaned" = some (some (.ref f2)))
    (l2 : K.lookup f2 = some ⟨oc2, od2, .func (PySem.W.fnOf "cleaned" "cleaned" (defArgs s_cleaned) (defBody s_cleaned) (defScope s_cleaned) .none kV2 dc2 pm2 an2 cd2 ct2), sl2⟩)
    (c2 : PySem.W.codeIn K cd2 "cleaned" = true)
    (k2 : PySem.W.keepIn K (.ref f2) = true)
    (a3 : PySem.W.nsIn K mainGlobals "spread" = some (some (.ref f3)))
    (l3 : K.lookup f3 = some ⟨oc3, od3, .func (PySem.W.fnOf "spread" "spread" (defArgs s_spread) (defBody s_spread) (defScope s_spread) .none kV3 dc3 pm3 an3 cd3 ct3), sl3⟩)
    (c3 : PySem.W.codeIn K cd3 "spread" = true)
    (k3 : PySem.W.keepIn K (.ref f3) = true)
    (a4 : PySem.W.nsIn K mainGlobals "rows_of" = some (some (.ref f4)))
    (l4 : K.lookup f4 = some ⟨oc4, od4, .func (PySem.W.fnOf "rows_of" "rows_of" (defArgs s_rows_of) (defBody s_rows_of) (defScope s_rows_of) .none kV4 dc4 pm4 an4 cd4 ct4), sl4⟩)
    (c4 : PySem.W.codeIn K cd4 "rows_of" = true)
    (k4 : PySem.W.keepIn K (.ref f4) = true)
    (a5 : PySem.W.nsIn K mainGlobals "is_name" = some (some (.ref f5)))
    (l5 : K.lookup f5 = some ⟨oc5, od5, .func (PySem.W.fnOf "is_name" "is_name" (defArgs s_is_name) (defBody s_is_name) (defScope s_is_name) .none kV5 dc5 pm5 an5 cd5 ct5), sl5⟩)
    (c5 : PySem.W.codeIn K cd5 "is_name" = true)
    (k5 : PySem.W.keepIn K (.ref f5) = true)
    (a6 : PySem.W.nsIn K mainGlobals "shape_of" = some (some (.ref f6)))
    (l6 : K.lookup f6 = some ⟨oc6, od6, .func (PySem.W.fnOf "shape_of" "shape_of" (defArgs s_shape_of) (defBody s_shape_of) (defScope s_shape_of) .none kV6 dc6 pm6 an6 cd6 ct6), sl6⟩)
    (c6 : PySem.W.codeIn K cd6 "shape_of" = true)
    (k6 : PySem.W.keepIn K (.ref f6) = true)
    (a7 : PySem.W.nsIn K mainGlobals "atom_of" = some (some (.ref f7)))
    (l7 : K.lookup f7 = some ⟨oc7, od7, .func (PySem.W.fnOf "atom_of" "atom_of" (defArgs s_atom_of) (defBody s_atom_of) (defScope s_atom_of) .none kV7 dc7 pm7 an7 cd7 ct7), sl7⟩)
    (c7 : PySem.W.codeIn K cd7 "atom_of" = true)
    (k7 : PySem.W.keepIn K (.ref f7) = true)
    (a8 : PySem.W.nsIn K mainGlobals "asked_form" = some (some (.ref f8)))
    (l8 : K.lookup f8 = some ⟨oc8, od8, .func (PySem.W.fnOf "asked_form" "asked_form" (defArgs s_asked_form) (defBody s_asked_form) (defScope s_asked_form) .none kV8 dc8 pm8 an8 cd8 ct8), sl8⟩)
    (c8 : PySem.W.codeIn K cd8 "asked_form" = true)
    (k8 : PySem.W.keepIn K (.ref f8) = true)
    (a9 : PySem.W.nsIn K mainGlobals "settle" = some (some (.ref f9)))
    (l9 : K.lookup f9 = some ⟨oc9, od9, .func (PySem.W.fnOf "settle" "settle" (defArgs s_settle) (defBody s_settle) (defScope s_settle) .none kV9 dc9 pm9 an9 cd9 ct9), sl9⟩)
    (c9 : PySem.W.codeIn K cd9 "settle" = true)
    (k9 : PySem.W.keepIn K (.ref f9) = true)
    (a10 : PySem.W.nsIn K mainGlobals "put_atom" = some (some (.ref f10)))
    (l10 : K.lookup f10 = some ⟨oc10, od10, .func (PySem.W.fnOf "put_atom" "put_atom" (defArgs s_put_atom) (defBody s_put_atom) (defScope s_put_atom) .none kV10 dc10 pm10 an10 cd10 ct10), sl10⟩)
    (c10 : PySem.W.codeIn K cd10 "put_atom" = true)
    (k10 : PySem.W.keepIn K (.ref f10) = true)
    (a11 : PySem.W.nsIn K mainGlobals "put_operator" = some (some (.ref f11)))
    (l11 : K.lookup f11 = some ⟨oc11, od11, .func (PySem.W.fnOf "put_operator" "put_operator" (defArgs s_put_operator) (defBody s_put_operator) (defScope s_put_operator) .none kV11 dc11 pm11 an11 cd11 ct11), sl11⟩)
    (c11 : PySem.W.codeIn K cd11 "put_operator" = true)
    (k11 : PySem.W.keepIn K (.ref f11) = true)
    (a12 : PySem.W.nsIn K mainGlobals "read_compound" = some (some (.ref f12)))
    (l12 : K.lookup f12 = some ⟨oc12, od12, .func (PySem.W.fnOf "read_compound" "read_compound" (defArgs s_read_compound) (defBody s_read_compound) (defScope s_read_compound) .none kV12 dc12 pm12 an12 cd12 ct12), sl12⟩)
    (c12 : PySem.W.codeIn K cd12 "read_compound" = true)
    (k12 : PySem.W.keepIn K (.ref f12) = true)
    (a13 : PySem.W.nsIn K mainGlobals "read_test" = some (some (.ref f13)))
    (l13 : K.lookup f13 = some ⟨oc13, od13, .func (PySem.W.fnOf "read_test" "read_test" (defArgs s_read_test) (defBody s_read_test) (defScope s_read_test) .none kV13 dc13 pm13 an13 cd13 ct13), sl13⟩)
    (c13 : PySem.W.codeIn K cd13 "read_test" = true)
    (k13 : PySem.W.keepIn K (.ref f13) = true)
    (a14 : PySem.W.nsIn K mainGlobals "can_be" = some (some (.ref f14)))
    (l14 : K.lookup f14 = some ⟨oc14, od14, .func (PySem.W.fnOf "can_be" "can_be" (defArgs s_can_be) (defBody s_can_be) (defScope s_can_be) .none kV14 dc14 pm14 an14 cd14 ct14), sl14⟩)
    (c14 : PySem.W.codeIn K cd14 "can_be" = true)
    (k14 : PySem.W.keepIn K (.ref f14) = true)
    (a15 : PySem.W.nsIn K mainGlobals "read_def" = some (some (.ref f15)))
    (l15 : K.lookup f15 = some ⟨oc15, od15, .func (PySem.W.fnOf "read_def" "read_def" (defArgs s_read_def) (defBody s_read_def) (defScope s_read_def) .none kV15 dc15 pm15 an15 cd15 ct15), sl15⟩)
    (c15 : PySem.W.codeIn K cd15 "read_def" = true)
    (k15 : PySem.W.keepIn K (.ref f15) = true)
    (a16 : PySem.W.nsIn K mainGlobals "read_for" = some (some (.ref f16)))
    (l16 : K.lookup f16 = some ⟨oc16, od16, .func (PySem.W.fnOf "read_for" "read_for" (defArgs s_read_for) (defBody s_read_for) (defScope s_read_for) .none kV16 dc16 pm16 an16 cd16 ct16), sl16⟩)
    (c16 : PySem.W.codeIn K cd16 "read_for" = true)
    (k16 : PySem.W.keepIn K (.ref f16) = true)
    (a17 : PySem.W.nsIn K mainGlobals "read_if" = some (some (.ref f17)))
    (l17 : K.lookup f17 = some ⟨oc17, od17, .func (PySem.W.fnOf "read_if" "read_if" (defArgs s_read_if) (defBody s_read_if) (defScope s_read_if) .none kV17 dc17 pm17 an17 cd17 ct17), sl17⟩)
    (c17 : PySem.W.codeIn K cd17 "read_if" = true)
    (k17 : PySem.W.keepIn K (.ref f17) = true)
    (a18 : PySem.W.nsIn K mainGlobals "read_call" = some (some (.ref f18)))
    (l18 : K.lookup f18 = some ⟨oc18, od18, .func (PySem.W.fnOf "read_call" "read_call" (defArgs s_read_call) (defBody s_read_call) (defScope s_read_call) .none kV18 dc18 pm18 an18 cd18 ct18), sl18⟩)
    (c18 : PySem.W.codeIn K cd18 "read_call" = true)
    (k18 : PySem.W.keepIn K (.ref f18) = true)
    (a19 : PySem.W.nsIn K mainGlobals "read_gift" = some (some (.ref f19)))
    (l19 : K.lookup f19 = some ⟨oc19, od19, .func (PySem.W.fnOf "read_gift" "read_gift" (defArgs s_read_gift) (defBody s_read_gift) (defScope s_read_gift) .none kV19 dc19 pm19 an19 cd19 ct19), sl19⟩)
    (c19 : PySem.W.codeIn K cd19 "read_gift" = true)
    (k19 : PySem.W.keepIn K (.ref f19) = true)
    (a20 : PySem.W.nsIn K mainGlobals "read_named" = some (some (.ref f20)))
    (l20 : K.lookup f20 = some ⟨oc20, od20, .func (PySem.W.fnOf "read_named" "read_named" (defArgs s_read_named) (defBody s_read_named) (defScope s_read_named) .none kV20 dc20 pm20 an20 cd20 ct20), sl20⟩)
    (c20 : PySem.W.codeIn K cd20 "read_named" = true)
    (k20 : PySem.W.keepIn K (.ref f20) = true)
    (a21 : PySem.W.nsIn K mainGlobals "read_bare" = some (some (.ref f21)))
    (l21 : K.lookup f21 = some ⟨oc21, od21, .func (PySem.W.fnOf "read_bare" "read_bare" (defArgs s_read_bare) (defBody s_read_bare) (defScope s_read_bare) .none kV21 dc21 pm21 an21 cd21 ct21), sl21⟩)
    (c21 : PySem.W.codeIn K cd21 "read_bare" = true)
    (k21 : PySem.W.keepIn K (.ref f21) = true)
    (a22 : PySem.W.nsIn K mainGlobals "read_inner" = some (some (.ref f22)))
    (l22 : K.lookup f22 = some ⟨oc22, od22, .func (PySem.W.fnOf "read_inner" "read_inner" (defArgs s_read_inner) (defBody s_read_inner) (defScope s_read_inner) .none kV22 dc22 pm22 an22 cd22 ct22), sl22⟩)
    (c22 : PySem.W.codeIn K cd22 "read_inner" = true)
    (k22 : PySem.W.keepIn K (.ref f22) = true)
    (a23 : PySem.W.nsIn K mainGlobals "asked_forms" = some (some (.ref f23)))
    (l23 : K.lookup f23 = some ⟨oc23, od23, .func (PySem.W.fnOf "asked_forms" "asked_forms" (defArgs s_asked_forms) (defBody s_asked_forms) (defScope s_asked_forms) .none kV23 dc23 pm23 an23 cd23 ct23), sl23⟩)
    (c23 : PySem.W.codeIn K cd23 "asked_forms" = true)
    (k23 : PySem.W.keepIn K (.ref f23) = true)
    (a24 : PySem.W.nsIn K mainGlobals "block_of" = some (some (.ref f24)))
    (l24 : K.lookup f24 = some ⟨oc24, od24, .func (PySem.W.fnOf "block_of" "block_of" (defArgs s_block_of) (defBody s_block_of) (defScope s_block_of) .none kV24 dc24 pm24 an24 cd24 ct24), sl24⟩)
    (c24 : PySem.W.codeIn K cd24 "block_of" = true)
    (k24 : PySem.W.keepIn K (.ref f24) = true)
    (a25 : PySem.W.nsIn K mainGlobals "read_rows" = some (some (.ref f25)))
    (l25 : K.lookup f25 = some ⟨oc25, od25, .func (PySem.W.fnOf "read_rows" "read_rows" (defArgs s_read_rows) (defBody s_read_rows) (defScope s_read_rows) .none kV25 dc25 pm25 an25 cd25 ct25), sl25⟩)
    (c25 : PySem.W.codeIn K cd25 "read_rows" = true)
    (k25 : PySem.W.keepIn K (.ref f25) = true)
    (a26 : PySem.W.nsIn K mainGlobals "_law_bag" = some (some (.ref f26)))
    (l26 : K.lookup f26 = some ⟨oc26, od26, .func (PySem.W.fnOf "_law_bag" "_law_bag" (defArgs sBag) (defBody sBag) (defScope sBag) .none kV26 dc26 pm26 an26 cd26 ct26), sl26⟩)
    (c26 : PySem.W.codeIn K cd26 "_law_bag" = true)
    (k26 : PySem.W.keepIn K (.ref f26) = true)
    (a27 : PySem.W.nsIn K mainGlobals "_law_take" = some (some (.ref f27)))
    (l27 : K.lookup f27 = some ⟨oc27, od27, .func (PySem.W.fnOf "_law_take" "_law_take" (defArgs sTake) (defBody sTake) (defScope sTake) .none kV27 dc27 pm27 an27 cd27 ct27), sl27⟩)
    (c27 : PySem.W.codeIn K cd27 "_law_take" = true)
    (k27 : PySem.W.keepIn K (.ref f27) = true)
    (a28 : PySem.W.nsIn K mainGlobals "_law_of" = some (some (.ref f28)))
    (l28 : K.lookup f28 = some ⟨oc28, od28, .func (PySem.W.fnOf "_law_of" "_law_of" (defArgs s__law_of) (defBody s__law_of) (defScope s__law_of) .none kV28 dc28 pm28 an28 cd28 ct28), sl28⟩)
    (c28 : PySem.W.codeIn K cd28 "_law_of" = true)
    (k28 : PySem.W.keepIn K (.ref f28) = true)
    (a29 : PySem.W.nsIn K mainGlobals "_law_wrong" = some (some (.ref f29)))
    (l29 : K.lookup f29 = some ⟨oc29, od29, .func (PySem.W.fnOf "_law_wrong" "_law_wrong" (defArgs s__law_wrong) (defBody s__law_wrong) (defScope s__law_wrong) .none kV29 dc29 pm29 an29 cd29 ct29), sl29⟩)
    (c29 : PySem.W.codeIn K cd29 "_law_wrong" = true)
    (k29 : PySem.W.keepIn K (.ref f29) = true)
    (a30 : PySem.W.nsIn K mainGlobals "_law_opened" = some (some (.ref f30)))
    (l30 : K.lookup f30 = some ⟨oc30, od30, .func (PySem.W.fnOf "_law_opened" "_law_opened" (defArgs s__law_opened) (defBody s__law_opened) (defScope s__law_opened) .none kV30 dc30 pm30 an30 cd30 ct30), sl30⟩)
    (c30 : PySem.W.codeIn K cd30 "_law_opened" = true)
    (k30 : PySem.W.keepIn K (.ref f30) = true)
    (a31 : PySem.W.nsIn K mainGlobals "_law_arguments" = some (some (.ref f31)))
    (l31 : K.lookup f31 = some ⟨oc31, od31, .func (PySem.W.fnOf "_law_arguments" "_law_arguments" (defArgs s__law_arguments) (defBody s__law_arguments) (defScope s__law_arguments) .none kV31 dc31 pm31 an31 cd31 ct31), sl31⟩)
    (c31 : PySem.W.codeIn K cd31 "_law_arguments" = true)
    (k31 : PySem.W.keepIn K (.ref f31) = true)
    (a32 : PySem.W.nsIn K mainGlobals "_law_is_let" = some (some (.ref f32)))
    (l32 : K.lookup f32 = some ⟨oc32, od32, .func (PySem.W.fnOf "_law_is_let" "_law_is_let" (defArgs s__law_is_let) (defBody s__law_is_let) (defScope s__law_is_let) .none kV32 dc32 pm32 an32 cd32 ct32), sl32⟩)
    (c32 : PySem.W.codeIn K cd32 "_law_is_let" = true)
    (k32 : PySem.W.keepIn K (.ref f32) = true)
    (a33 : PySem.W.nsIn K mainGlobals "law" = some (some (.ref f33)))
    (l33 : K.lookup f33 = some ⟨oc33, od33, .func (PySem.W.fnOf "law" "law" (defArgs sLaw) (defBody sLaw) (defScope sLaw) .none kV33 dc33 pm33 an33 cd33 ct33), sl33⟩)
    (c33 : PySem.W.codeIn K cd33 "law" = true)
    (k33 : PySem.W.keepIn K (.ref f33) = true)
    (a_C : PySem.W.nsIn K mainGlobals "Line" = some (some (.ref C)))
    (pg_C : PySem.W.plainGet K C Str.empty = true)
    (hd_C : PySem.W.hasDictIn K C = true)
    (po_C : PySem.W.plainOver K C = true)
    (sa_C : PySem.W.findIn K (.ref C) "__setattr__" = some (some (.builtin "object.__setattr__")))
    (mk_C : PySem.W.makesIn K C = true)
    (kc_C : PySem.W.keepIn K (.ref C) = true)
    (n_C_deed : PySem.W.findIn K (.ref C) "deed" = some none)
    (n_C_name : PySem.W.findIn K (.ref C) "name" = some none)
    (n_C_variable : PySem.W.findIn K (.ref C) "variable" = some none)
    (n_C_form : PySem.W.findIn K (.ref C) "form" = some none)
    (n_C_ask : PySem.W.findIn K (.ref C) "ask" = some none)
    (n_C_test : PySem.W.findIn K (.ref C) "test" = some none)
    (n_C_number : PySem.W.findIn K (.ref C) "number" = some none)
    (n_C_after : PySem.W.findIn K (.ref C) "after" = some none)
    (n_C_otherwise : PySem.W.findIn K (.ref C) "otherwise" = some none)
    (aC0 : PySem.W.findIn K (.ref C) "__init__" = some (some (.ref hC0)))
    (lC0 : K.lookup hC0 = some ⟨ocC0, odC0, .func (PySem.W.fnOf "__init__" "Line.__init__" (defArgs mLine_init) (defBody mLine_init) (defScope mLine_init) (.ref TD) kVC0 dcC0 pmC0 anC0 cdC0 ctC0), slC0⟩)
    (cC0 : PySem.W.codeIn K cdC0 "Line.__init__" = true)
    (kC0 : PySem.W.keepIn K (.ref hC0) = true)
    (iC0 : PySem.W.isFn K (.ref hC0) = true)
    (a_CB : PySem.W.nsIn K mainGlobals "Block" = some (some (.ref CB)))
    (pg_CB : PySem.W.plainGet K CB Str.empty = true)
    (hd_CB : PySem.W.hasDictIn K CB = true)
    (po_CB : PySem.W.plainOver K CB = true)
    (sa_CB : PySem.W.findIn K (.ref CB) "__setattr__" = some (some (.builtin "object.__setattr__")))
    (mk_CB : PySem.W.makesIn K CB = true)
    (kc_CB : PySem.W.keepIn K (.ref CB) = true)
    (n_CB_line : PySem.W.findIn K (.ref CB) "line" = some none)
    (n_CB_variable : PySem.W.findIn K (.ref CB) "variable" = some none)
    (n_CB_own : PySem.W.findIn K (.ref CB) "own" = some none)
    (n_CB_looped : PySem.W.findIn K (.ref CB) "looped" = some none)
    (aCB0 : PySem.W.findIn K (.ref CB) "__init__" = some (some (.ref hCB0)))
    (lCB0 : K.lookup hCB0 = some ⟨ocCB0, odCB0, .func (PySem.W.fnOf "__init__" "Block.__init__" (defArgs mBlock_init) (defBody mBlock_init) (defScope mBlock_init) .none kVCB0 dcCB0 pmCB0 anCB0 cdCB0 ctCB0), slCB0⟩)
    (cCB0 : PySem.W.codeIn K cdCB0 "Block.__init__" = true)
    (kCB0 : PySem.W.keepIn K (.ref hCB0) = true)
    (iCB0 : PySem.W.isFn K (.ref hCB0) = true)
    (a_CR : PySem.W.nsIn K mainGlobals "Reading" = some (some (.ref CR)))
    (pg_CR : PySem.W.plainGet K CR Str.empty = true)
    (hd_CR : PySem.W.hasDictIn K CR = true)
    (po_CR : PySem.W.plainOver K CR = true)
    (sa_CR : PySem.W.findIn K (.ref CR) "__setattr__" = some (some (.builtin "object.__setattr__")))
    (mk_CR : PySem.W.makesIn K CR = true)
    (kc_CR : PySem.W.keepIn K (.ref CR) = true)
    (n_CR_lines : PySem.W.findIn K (.ref CR) "lines" = some none)
    (n_CR_meanings : PySem.W.findIn K (.ref CR) "meanings" = some none)
    (n_CR_found : PySem.W.findIn K (.ref CR) "found" = some none)
    (n_CR_blocks : PySem.W.findIn K (.ref CR) "blocks" = some none)
    (aCR0 : PySem.W.findIn K (.ref CR) "__init__" = some (some (.ref hCR0)))
    (lCR0 : K.lookup hCR0 = some ⟨ocCR0, odCR0, .func (PySem.W.fnOf "__init__" "Reading.__init__" (defArgs mReading_init) (defBody mReading_init) (defScope mReading_init) .none kVCR0 dcCR0 pmCR0 anCR0 cdCR0 ctCR0), slCR0⟩)
    (cCR0 : PySem.W.codeIn K cdCR0 "Reading.__init__" = true)
    (kCR0 : PySem.W.keepIn K (.ref hCR0) = true)
    (iCR0 : PySem.W.isFn K (.ref hCR0) = true)
    (aCR1 : PySem.W.findIn K (.ref CR) "is_whole" = some (some (.ref hCR1)))
    (lCR1 : K.lookup hCR1 = some ⟨ocCR1, odCR1, .func (PySem.W.fnOf "is_whole" "Reading.is_whole" (defArgs mReading_is_whole) (defBody mReading_is_whole) (defScope mReading_is_whole) .none kVCR1 dcCR1 pmCR1 anCR1 cdCR1 ctCR1), slCR1⟩)
    (cCR1 : PySem.W.codeIn K cdCR1 "Reading.is_whole" = true)
    (kCR1 : PySem.W.keepIn K (.ref hCR1) = true)
    (iCR1 : PySem.W.isFn K (.ref hCR1) = true)
    (aCR2 : PySem.W.findIn K (.ref CR) "may_stand" = some (some (.ref hCR2)))
    (lCR2 : K.lookup hCR2 = some ⟨ocCR2, odCR2, .func (PySem.W.fnOf "may_stand" "Reading.may_stand" (defArgs mReading_may_stand) (defBody mReading_may_stand) (defScope mReading_may_stand) .none kVCR2 dcCR2 pmCR2 anCR2 cdCR2 ctCR2), slCR2⟩)
    (cCR2 : PySem.W.codeIn K cdCR2 "Reading.may_stand" = true)
    (kCR2 : PySem.W.keepIn K (.ref hCR2) = true)
    (iCR2 : PySem.W.isFn K (.ref hCR2) = true)
    (aCR3 : PySem.W.findIn K (.ref CR) "accepts" = some (some (.ref hCR3)))
    (lCR3 : K.lookup hCR3 = some ⟨ocCR3, odCR3, .func (PySem.W.fnOf "accepts" "Reading.accepts" (defArgs mReading_accepts) (defBody mReading_accepts) (defScope mReading_accepts) .none kVCR3 dcCR3 pmCR3 anCR3 cdCR3 ctCR3), slCR3⟩)
    (cCR3 : PySem.W.codeIn K cdCR3 "Reading.accepts" = true)
    (kCR3 : PySem.W.keepIn K (.ref hCR3) = true)
    (iCR3 : PySem.W.isFn K (.ref hCR3) = true)
    (aCR4 : PySem.W.findIn K (.ref CR) "ends_choice" = some (some (.ref hCR4)))
    (lCR4 : K.lookup hCR4 = some ⟨ocCR4, odCR4, .func (PySem.W.fnOf "ends_choice" "Reading.ends_choice" (defArgs mReading_ends_choice) (defBody mReading_ends_choice) (defScope mReading_ends_choice) .none kVCR4 dcCR4 pmCR4 anCR4 cdCR4 ctCR4), slCR4⟩)
    (cCR4 : PySem.W.codeIn K cdCR4 "Reading.ends_choice" = true)
    (kCR4 : PySem.W.keepIn K (.ref hCR4) = true)
    (iCR4 : PySem.W.isFn K (.ref hCR4) = true)
    (aCR5 : PySem.W.findIn K (.ref CR) "close" = some (some (.ref hCR5)))
    (lCR5 : K.lookup hCR5 = some ⟨ocCR5, odCR5, .func (PySem.W.fnOf "close" "Reading.close" (defArgs mReading_close) (defBody mReading_close) (defScope mReading_close) .none kVCR5 dcCR5 pmCR5 anCR5 cdCR5 ctCR5), slCR5⟩)
    (cCR5 : PySem.W.codeIn K cdCR5 "Reading.close" = true)
    (kCR5 : PySem.W.keepIn K (.ref hCR5) = true)
    (iCR5 : PySem.W.isFn K (.ref hCR5) = true)
    (aCR6 : PySem.W.findIn K (.ref CR) "put" = some (some (.ref hCR6)))
    (lCR6 : K.lookup hCR6 = some ⟨ocCR6, odCR6, .func (PySem.W.fnOf "put" "Reading.put" (defArgs mReading_put) (defBody mReading_put) (defScope mReading_put) .none kVCR6 dcCR6 pmCR6 anCR6 cdCR6 ctCR6), slCR6⟩)
    (cCR6 : PySem.W.codeIn K cdCR6 "Reading.put" = true)
    (kCR6 : PySem.W.keepIn K (.ref hCR6) = true)
    (iCR6 : PySem.W.isFn K (.ref hCR6) = true)
    (aCR7 : PySem.W.findIn K (.ref CR) "begin" = some (some (.ref hCR7)))
    (lCR7 : K.lookup hCR7 = some ⟨ocCR7, odCR7, .func (PySem.W.fnOf "begin" "Reading.begin" (defArgs mReading_begin) (defBody mReading_begin) (defScope mReading_begin) .none kVCR7 dcCR7 pmCR7 anCR7 cdCR7 ctCR7), slCR7⟩)
    (cCR7 : PySem.W.codeIn K cdCR7 "Reading.begin" = true)
    (kCR7 : PySem.W.keepIn K (.ref hCR7) = true)
    (iCR7 : PySem.W.isFn K (.ref hCR7) = true)
    (a_CP : PySem.W.nsIn K mainGlobals "Program" = some (some (.ref CP)))
    (pg_CP : PySem.W.plainGet K CP Str.empty = true)
    (hd_CP : PySem.W.hasDictIn K CP = true)
    (po_CP : PySem.W.plainOver K CP = true)
    (sa_CP : PySem.W.findIn K (.ref CP) "__setattr__" = some (some (.builtin "object.__setattr__")))
    (mk_CP : PySem.W.makesIn K CP = true)
    (kc_CP : PySem.W.keepIn K (.ref CP) = true)
    (n_CP__rows : PySem.W.findIn K (.ref CP) "_rows" = some none)
    (n_CP__openers : PySem.W.findIn K (.ref CP) "_openers" = some none)
    (n_CP_lines : PySem.W.findIn K (.ref CP) "lines" = some none)
    (n_CP_main : PySem.W.findIn K (.ref CP) "main" = some none)
    (n_CP__meanings : PySem.W.findIn K (.ref CP) "_meanings" = some none)
    (n_CP__spots : PySem.W.findIn K (.ref CP) "_spots" = some none)
    (aCP0 : PySem.W.findIn K (.ref CP) "__init__" = some (some (.ref hCP0)))
    (lCP0 : K.lookup hCP0 = some ⟨ocCP0, odCP0, .func (PySem.W.fnOf "__init__" "Program.__init__" (defArgs mProgram_init) (defBody mProgram_init) (defScope mProgram_init) .none kVCP0 dcCP0 pmCP0 anCP0 cdCP0 ctCP0), slCP0⟩)
    (cCP0 : PySem.W.codeIn K cdCP0 "Program.__init__" = true)
    (kCP0 : PySem.W.keepIn K (.ref hCP0) = true)
    (iCP0 : PySem.W.isFn K (.ref hCP0) = true)
    (aCP1 : PySem.W.findIn K (.ref CP) "spots" = some (some (.ref hCP1)))
    (lCP1 : K.lookup hCP1 = some ⟨ocCP1, odCP1, .func (PySem.W.fnOf "spots" "Program.spots" (defArgs mProgram_spots) (defBody mProgram_spots) (defScope mProgram_spots) .none kVCP1 dcCP1 pmCP1 anCP1 cdCP1 ctCP1), slCP1⟩)
    (cCP1 : PySem.W.codeIn K cdCP1 "Program.spots" = true)
    (kCP1 : PySem.W.keepIn K (.ref hCP1) = true)
    (iCP1 : PySem.W.isFn K (.ref hCP1) = true)
    (aTE : PySem.W.nsIn K mainGlobals "TextorlistError" = some (some (.ref TE)))
    (lTE : K.lookup TE = some (excClassObj nmT qT TE NT' bsT mrT hdT snT subT abT colT ddT m0T m1T m2T m3T m5T "ValueError.__new__"))
    (hn : PySem.W.specialIn K (.builtin "object.__class__") "__get__" = some (some (.builtin "getset_descriptor.__get__")))
    (ht : PySem.W.takesIn K (.builtin "object.__class__") = some true)
    (aCBP : PySem.W.nsIn K mainGlobals "BadProgram" = some (some (.ref BP)))
    (xBP : K.lookup BP = some (excClassObj nmBP qBP BP NBP bsBP [.ref TE, .type "ValueError", .type "Exception", .type "BaseException", .type "object"] true snBP subBP abBP colBP ddBP m0BP m1BP m2BP m3BP m5BP "ValueError.__new__"))
    (saBP : PySem.W.findIn K (.ref BP) "__setattr__" = some (some (.builtin "object.__setattr__")))
    (gaBP : PySem.W.findIn K (.ref BP) "__getattribute__" = some (some (.builtin "BaseException.__getattribute__")))
    (ggBP : PySem.W.findIn K (.ref BP) "__getattr__" = some none)
    (haBP : PySem.W.findIn K (.ref BP) "__class__" = some (some (.builtin "object.__class__")))
    (kcBP : PySem.W.keepIn K (.ref BP) = true)
    (aBp : PySem.W.findIn K (.ref BP) "__init__" = some (some (.ref fBp)))
    (lBp : K.lookup fBp = some ⟨ocBp, odBp, .func (PySem.W.fnOf "__init__" "BadProgram.__init__" (defArgs mBadProgram_init) (defBody mBadProgram_init) (defScope mBadProgram_init) .none kVBp dcBp pmBp anBp cdBp ctBp), slBp⟩)
    (cBp : PySem.W.codeIn K cdBp "BadProgram.__init__" = true)
    (kBp : PySem.W.keepIn K (.ref fBp) = true)
    (nBp : PySem.W.findIn K (.ref BP) "line" = some none)
    (tBp : PySem.W.typeIn K (.ref fBp) = some (.type "function"))
    (aCTM : PySem.W.nsIn K mainGlobals "TooMany" = some (some (.ref TM)))
    (xTM : K.lookup TM = some (excClassObj nmTM qTM TM NTM bsTM [.ref TE, .type "ValueError", .type "Exception", .type "BaseException", .type "object"] true snTM subTM abTM colTM ddTM m0TM m1TM m2TM m3TM m5TM "ValueError.__new__"))
    (saTM : PySem.W.findIn K (.ref TM) "__setattr__" = some (some (.builtin "object.__setattr__")))
    (gaTM : PySem.W.findIn K (.ref TM) "__getattribute__" = some (some (.builtin "BaseException.__getattribute__")))
    (ggTM : PySem.W.findIn K (.ref TM) "__getattr__" = some none)
    (haTM : PySem.W.findIn K (.ref TM) "__class__" = some (some (.builtin "object.__class__")))
    (kcTM : PySem.W.keepIn K (.ref TM) = true)
    (aTm : PySem.W.findIn K (.ref TM) "__init__" = some (some (.ref fTm)))
    (lTm : K.lookup fTm = some ⟨ocTm, odTm, .func (PySem.W.fnOf "__init__" "TooMany.__init__" (defArgs mTooMany_init) (defBody mTooMany_init) (defScope mTooMany_init) .none kVTm dcTm pmTm anTm cdTm ctTm), slTm⟩)
    (cTm : PySem.W.codeIn K cdTm "TooMany.__init__" = true)
    (kTm : PySem.W.keepIn K (.ref fTm) = true)
    (nTm : PySem.W.findIn K (.ref TM) "what" = some none)
    (tTm : PySem.W.typeIn K (.ref fTm) = some (.type "function"))
    (zlen : PySem.W.nsIn K mainGlobals "len" = some none)
    (zisinstance : PySem.W.nsIn K mainGlobals "isinstance" = some none)
    (zstr : PySem.W.nsIn K mainGlobals "str" = some none)
    (ztuple : PySem.W.nsIn K mainGlobals "tuple" = some none)
    (zlist : PySem.W.nsIn K mainGlobals "list" = some none)
    (zenumerate : PySem.W.nsIn K mainGlobals "enumerate" = some none)
    (zabs : PySem.W.nsIn K mainGlobals "abs" = some none)
    (zint : PySem.W.nsIn K mainGlobals "int" = some none)
    (zrange : PySem.W.nsIn K mainGlobals "range" = some none)
    (zmax : PySem.W.nsIn K mainGlobals "max" = some none)
    (zmin : PySem.W.nsIn K mainGlobals "min" = some none)
    (cN : PySem.W.nsIn K mainGlobals "NAME_LETTERS" = some (some (.int 8 tN)))
    (ctFu : PySem.W.nsIn K mainGlobals "FUNCTION" = some (some (.str "function" tFu)))
    (ctVa : PySem.W.nsIn K mainGlobals "VARIABLE" = some (some (.str "variable" tVa)))
    (ctTa : PySem.W.nsIn K mainGlobals "TAKER" = some (some (.str "taker" tTa)))
    (caK : PySem.W.nsIn K mainGlobals "KEPT_WORDS" = some (some (.ref aK)))
    (caFo : PySem.W.nsIn K mainGlobals "FORMS" = some (some (.ref aFo)))
    (caLo : PySem.W.nsIn K mainGlobals "LOOPS" = some (some (.ref aLo)))
    (caAr : PySem.W.nsIn K mainGlobals "ARGUMENTS" = some (some (.ref aAr)))
    (caGi : PySem.W.nsIn K mainGlobals "GIFTS" = some (some (.ref aGi)))
    (caO : PySem.W.nsIn K mainGlobals "OPENERS" = some (some (.ref aO)))
    (caAt : PySem.W.nsIn K mainGlobals "ATOMS" = some (some (.ref aAt)))
    (caNu : PySem.W.nsIn K mainGlobals "NUMBERS" = some (some (.ref aNu)))
    (caRa : PySem.W.nsIn K mainGlobals "RANKS" = some (some (.ref aRa)))
    (caSg : PySem.W.nsIn K mainGlobals "SIGNS" = some (some (.ref aSg)))
    (lO : K.lookup aO = some ⟨.type "tuple", odO, .seq #[.str "def" tO0, .str "for" tO1, .str "if" tO2, .str "else" tO3] nO, slO⟩)
    (cKn : PySem.W.nsIn K mainGlobals "KNOWN" = some (some (.str "abcdefghijklmnopqrstuvwxyz0123456789()[]:.*+-=<>! \n" tKn)))
    (lS : K.lookup aSg = some ⟨.type "tuple", odS, .seq #[.str "=" tS0, .str "!=" tS1, .str "<" tS2, .str "<=" tS3, .str ">" tS4, .str ">=" tS5] nS, slS⟩)
    (lD : K.lookup TD = some ⟨.type "tuple", odD, .seq #[.none, .none, .none, .none, .none] nD, slD⟩)
    (tK : KTab K aK kept)
    (tFo : KTab K aFo formsD)
    (tLo : KTab K aLo (tblD (ttbl loopsT)))
    (tAr : KTab K aAr (tblD (ttbl argsT)))
    (tGi : KTab K aGi (tblD (ttbl giftsT)))
    (tAt : KTab K aAt (atomsD atomT))
    (tNu : KTab K aNu numsD)
    (tRa : KTab K aRa ranksD)
    (rdP : PySem.W.readsIn K CP (.type "type") = true)
    (gaP : PySem.W.specialIn K (.ref CP) "__getattribute__" = some (some (.builtin "type.__getattribute__")))
    (v4 : PySem.W.findCls K (.ref CP) (.type "type") "FUNCTIONS" = some (.val (.int 4 t4)))
    (v12 : PySem.W.findCls K (.ref CP) (.type "type") "SPOTS" = some (.val (.int 12 t12))) :
    ∃ fd : FuncData, (∀ (s : Shared) (v : Value), BindsTo s fd ⟨[v], []⟩ [("_law_script", v)]) ∧ ∀ base : Heap, K.In base → base.Ns mainGlobals mg → FnG P w K mg base CX0 12 fa fd ["_law_script"] (spLaw K) := by
  have e := hfa.symm.trans (PySem.W.mg_of X G a33)
  cases e
  have F0 := fun_mk (st := sParts) l0 c0 k0
  have F1 := fun_mk (st := sCopy) l1 c1 k1
  have F2 := fun_mk (st := s_cleaned) l2 c2 k2
  have F3 := fun_mk (st := s_spread) l3 c3 k3
  have F4 := fun_mk (st := s_rows_of) l4 c4 k4
  have F5 := fun_mk (st := s_is_name) l5 c5 k5
  have F6 := fun_mk (st := s_shape_of) l6 c6 k6
  have F7 := fun_mk (st := s_atom_of) l7 c7 k7
  have F8 := fun_mk (st := s_asked_form) l8 c8 k8
  have F9 := fun_mk (st := s_settle) l9 c9 k9
  have F10 := fun_mk (st := s_put_atom) l10 c10 k10
  have F11 := fun_mk (st := s_put_operator) l11 c11 k11
  have F12 := fun_mk (st := s_read_compound) l12 c12 k12
  have F13 := fun_mk (st := s_read_test) l13 c13 k13
  have F14 := fun_mk (st := s_can_be) l14 c14 k14
  have F15 := fun_mk (st := s_read_def) l15 c15 k15
  have F16 := fun_mk (st := s_read_for) l16 c16 k16
  have F17 := fun_mk (st := s_read_if) l17 c17 k17
  have F18 := fun_mk (st := s_read_call) l18 c18 k18
  have F19 := fun_mk (st := s_read_gift) l19 c19 k19
  have F20 := fun_mk (st := s_read_named) l20 c20 k20
  have F21 := fun_mk (st := s_read_bare) l21 c21 k21
  have F22 := fun_mk (st := s_read_inner) l22 c22 k22
  have F23 := fun_mk (st := s_asked_forms) l23 c23 k23
  have F24 := fun_mk (st := s_block_of) l24 c24 k24
  have F25 := fun_mk (st := s_read_rows) l25 c25 k25
  have F26 := fun_mk (st := sBag) l26 c26 k26
  have F27 := fun_mk (st := sTake) l27 c27 k27
  have F28 := fun_mk (st := s__law_of) l28 c28 k28
  have F29 := fun_mk (st := s__law_wrong) l29 c29 k29
  have F30 := fun_mk (st := s__law_opened) l30 c30 k30
  have F31 := fun_mk (st := s__law_arguments) l31 c31 k31
  have F32 := fun_mk (st := s__law_is_let) l32 c32 k32
  have F33 := fun_mk (st := sLaw) l33 c33 k33
  have b0 := F0.binds (ps := ["thing"]) fun _ _ _ _ _ _ us hl => match us, hl with | [_], _ => rfl
  have g0 := PySem.W.mg_of X G a0
  have b1 := F1.binds (ps := ["thing"]) fun _ _ _ _ _ _ us hl => match us, hl with | [_], _ => rfl
  have g1 := PySem.W.mg_of X G a1
  have b2 := F2.binds (ps := ["text"]) fun _ _ _ _ _ _ us hl => match us, hl with | [_], _ => rfl
  have g2 := PySem.W.mg_of X G a2
  have b3 := F3.binds (ps := ["text"]) fun _ _ _ _ _ _ us hl => match us, hl with | [_], _ => rfl
  have g3 := PySem.W.mg_of X G a3
  have b4 := F4.binds (ps := ["text"]) fun _ _ _ _ _ _ us hl => match us, hl with | [_], _ => rfl
  have g4 := PySem.W.mg_of X G a4
  have b5 := F5.binds (ps := ["token"]) fun _ _ _ _ _ _ us hl => match us, hl with | [_], _ => rfl
  have g5 := PySem.W.mg_of X G a5
  have b6 := F6.binds (ps := ["tokens", "variable"]) fun _ _ _ _ _ _ us hl => match us, hl with | [_, _], _ => rfl
  have g6 := PySem.W.mg_of X G a6
  have b7 := F7.binds (ps := ["words"]) fun _ _ _ _ _ _ us hl => match us, hl with | [_], _ => rfl
  have g7 := PySem.W.mg_of X G a7
  have b8 := F8.binds (ps := ["step"]) fun _ _ _ _ _ _ us hl => match us, hl with | [_], _ => rfl
  have g8 := PySem.W.mg_of X G a8
  have b9 := F9.binds (ps := ["code", "waiting", "rank"]) fun _ _ _ _ _ _ us hl => match us, hl with | [_, _, _], _ => rfl
  have g9 := PySem.W.mg_of X G a9
  have b10 := F10.binds (ps := ["code", "words"]) fun _ _ _ _ _ _ us hl => match us, hl with | [_, _], _ => rfl
  have g10 := PySem.W.mg_of X G a10
  have b11 := F11.binds (ps := ["code", "waiting", "word"]) fun _ _ _ _ _ _ us hl => match us, hl with | [_, _, _], _ => rfl
  have g11 := PySem.W.mg_of X G a11
  have b12 := F12.binds (ps := ["words"]) fun _ _ _ _ _ _ us hl => match us, hl with | [_], _ => rfl
  have g12 := PySem.W.mg_of X G a12
  have b13 := F13.binds (ps := ["words"]) fun _ _ _ _ _ _ us hl => match us, hl with | [_], _ => rfl
  have g13 := PySem.W.mg_of X G a13
  have b14 := F14.binds (ps := ["meanings", "name", "meaning"]) fun _ _ _ _ _ _ us hl => match us, hl with | [_, _, _], _ => rfl
  have g14 := PySem.W.mg_of X G a14
  have b15 := F15.binds (ps := ["tokens", "meanings"]) fun _ _ _ _ _ _ us hl => match us, hl with | [_, _], _ => rfl
  have g15 := PySem.W.mg_of X G a15
  have b16 := F16.binds (ps := ["tokens", "block", "meanings"]) fun _ _ _ _ _ _ us hl => match us, hl with | [_, _, _], _ => rfl
  have g16 := PySem.W.mg_of X G a16
  have b17 := F17.binds (ps := ["tokens", "block"]) fun _ _ _ _ _ _ us hl => match us, hl with | [_, _], _ => rfl
  have g17 := PySem.W.mg_of X G a17
  have b18 := F18.binds (ps := ["name", "shape", "block"]) fun _ _ _ _ _ _ us hl => match us, hl with | [_, _, _], _ => rfl
  have g18 := PySem.W.mg_of X G a18
  have b19 := F19.binds (ps := ["name", "shape"]) fun _ _ _ _ _ _ us hl => match us, hl with | [_, _], _ => rfl
  have g19 := PySem.W.mg_of X G a19
  have b20 := F20.binds (ps := ["tokens", "block", "meanings"]) fun _ _ _ _ _ _ us hl => match us, hl with | [_, _, _], _ => rfl
  have g20 := PySem.W.mg_of X G a20
  have b21 := F21.binds (ps := ["tokens", "block"]) fun _ _ _ _ _ _ us hl => match us, hl with | [_, _], _ => rfl
  have g21 := PySem.W.mg_of X G a21
  have b22 := F22.binds (ps := ["tokens", "block", "meanings"]) fun _ _ _ _ _ _ us hl => match us, hl with | [_, _, _], _ => rfl
  have g22 := PySem.W.mg_of X G a22
  have b23 := F23.binds (ps := ["line", "own"]) fun _ _ _ _ _ _ us hl => match us, hl with | [_, _], _ => rfl
  have g23 := PySem.W.mg_of X G a23
  have b24 := F24.binds (ps := ["line", "around"]) fun _ _ _ _ _ _ us hl => match us, hl with | [_, _], _ => rfl
  have g24 := PySem.W.mg_of X G a24
  have b25 := F25.binds (ps := ["rows"]) fun _ _ _ _ _ _ us hl => match us, hl with | [_], _ => rfl
  have g25 := PySem.W.mg_of X G a25
  have b26 := F26.binds (ps := ["_law_script", "_law_at"]) fun _ _ _ _ _ _ us hl => match us, hl with | [_, _], _ => rfl
  have g26 := PySem.W.mg_of X G a26
  have b27 := F27.binds (ps := ["_law_bag_here", "_law_many"]) fun _ _ _ _ _ _ us hl => match us, hl with | [_, _], _ => rfl
  have g27 := PySem.W.mg_of X G a27
  have b28 := F28.binds (ps := ["_law_bag_here", "_law_some"]) fun _ _ _ _ _ _ us hl => match us, hl with | [_, _], _ => rfl
  have g28 := PySem.W.mg_of X G a28
  have b29 := F29.binds (ps := ["_law_lines"]) fun _ _ _ _ _ _ us hl => match us, hl with | [_], _ => rfl
  have g29 := PySem.W.mg_of X G a29
  have b30 := F30.binds (ps := ["_law_bag_here"]) fun _ _ _ _ _ _ us hl => match us, hl with | [_], _ => rfl
  have g30 := PySem.W.mg_of X G a30
  have b31 := F31.binds (ps := ["_law_variable"]) fun _ _ _ _ _ _ us hl => match us, hl with | [_], _ => rfl
  have g31 := PySem.W.mg_of X G a31
  have b32 := F32.binds (ps := ["_law_target", "_law_how", "_law_form", "_law_is_loop"]) fun _ _ _ _ _ _ us hl => match us, hl with | [_, _, _, _], _ => rfl
  have g32 := PySem.W.mg_of X G a32
  have cl_C : Cls K C := ⟨pg_C, hd_C, po_C, sa_C⟩
  have na_C : ∀ f ∈ (["deed", "name", "variable", "form", "ask", "test", "number", "after", "otherwise"] : List Str), NoAttr K C f := fun f hf => by
    simp only [List.mem_cons, List.not_mem_nil, or_false] at hf
    rcases hf with rfl | rfl | rfl | rfl | rfl | rfl | rfl | rfl | rfl
    · exact n_C_deed
    · exact n_C_name
    · exact n_C_variable
    · exact n_C_form
    · exact n_C_ask
    · exact n_C_test
    · exact n_C_number
    · exact n_C_after
    · exact n_C_otherwise
  have mkC : Mk K C hC0 := ⟨mk_C, aC0, iC0, kc_C⟩
  have cl_CB : Cls K CB := ⟨pg_CB, hd_CB, po_CB, sa_CB⟩
  have na_CB : ∀ f ∈ (["line", "variable", "own", "looped"] : List Str), NoAttr K CB f := fun f hf => by
    simp only [List.mem_cons, List.not_mem_nil, or_false] at hf
    rcases hf with rfl | rfl | rfl | rfl
    · exact n_CB_line
    · exact n_CB_variable
    · exact n_CB_own
    · exact n_CB_looped
  have ECB0 := fun_mk (st := mBlock_init) lCB0 cCB0 kCB0
  have bCB0 := ECB0.binds (ps := ["self", "line", "variable", "own", "looped"]) fun _ _ _ _ _ _ us hl => match us, hl with | [_, _, _, _, _], _ => rfl
  have mCB0 : Meth K CB "__init__" hCB0 := ⟨aCB0, iCB0, kCB0⟩
  have mkCB : Mk K CB hCB0 := ⟨mk_CB, aCB0, iCB0, kc_CB⟩
  have cl_CR : Cls K CR := ⟨pg_CR, hd_CR, po_CR, sa_CR⟩
  have na_CR : ∀ f ∈ (["lines", "meanings", "found", "blocks"] : List Str), NoAttr K CR f := fun f hf => by
    simp only [List.mem_cons, List.not_mem_nil, or_false] at hf
    rcases hf with rfl | rfl | rfl | rfl
    · exact n_CR_lines
    · exact n_CR_meanings
    · exact n_CR_found
    · exact n_CR_blocks
  have ECR0 := fun_mk (st := mReading_init) lCR0 cCR0 kCR0
  have bCR0 := ECR0.binds (ps := ["self"]) fun _ _ _ _ _ _ us hl => match us, hl with | [_], _ => rfl
  have mCR0 : Meth K CR "__init__" hCR0 := ⟨aCR0, iCR0, kCR0⟩
  have ECR1 := fun_mk (st := mReading_is_whole) lCR1 cCR1 kCR1
  have bCR1 := ECR1.binds (ps := ["self"]) fun _ _ _ _ _ _ us hl => match us, hl with | [_], _ => rfl
  have mCR1 : Meth K CR "is_whole" hCR1 := ⟨aCR1, iCR1, kCR1⟩
  have ECR2 := fun_mk (st := mReading_may_stand) lCR2 cCR2 kCR2
  have bCR2 := ECR2.binds (ps := ["self", "spaces"]) fun _ _ _ _ _ _ us hl => match us, hl with | [_, _], _ => rfl
  have mCR2 : Meth K CR "may_stand" hCR2 := ⟨aCR2, iCR2, kCR2⟩
  have ECR3 := fun_mk (st := mReading_accepts) lCR3 cCR3 kCR3
  have bCR3 := ECR3.binds (ps := ["self", "spaces", "tokens"]) fun _ _ _ _ _ _ us hl => match us, hl with | [_, _, _], _ => rfl
  have mCR3 : Meth K CR "accepts" hCR3 := ⟨aCR3, iCR3, kCR3⟩
  have ECR4 := fun_mk (st := mReading_ends_choice) lCR4 cCR4 kCR4
  have bCR4 := ECR4.binds (ps := ["self", "depth"]) fun _ _ _ _ _ _ us hl => match us, hl with | [_, _], _ => rfl
  have mCR4 : Meth K CR "ends_choice" hCR4 := ⟨aCR4, iCR4, kCR4⟩
  have ECR5 := fun_mk (st := mReading_close) lCR5 cCR5 kCR5
  have bCR5 := ECR5.binds (ps := ["self", "depth", "chosen"]) fun _ _ _ _ _ _ us hl => match us, hl with | [_, _, _], _ => rfl
  have mCR5 : Meth K CR "close" hCR5 := ⟨aCR5, iCR5, kCR5⟩
  have ECR6 := fun_mk (st := mReading_put) lCR6 cCR6 kCR6
  have bCR6 := ECR6.binds (ps := ["self", "line", "around"]) fun _ _ _ _ _ _ us hl => match us, hl with | [_, _, _], _ => rfl
  have mCR6 : Meth K CR "put" hCR6 := ⟨aCR6, iCR6, kCR6⟩
  have ECR7 := fun_mk (st := mReading_begin) lCR7 cCR7 kCR7
  have bCR7 := ECR7.binds (ps := ["self", "line", "around"]) fun _ _ _ _ _ _ us hl => match us, hl with | [_, _, _], _ => rfl
  have mCR7 : Meth K CR "begin" hCR7 := ⟨aCR7, iCR7, kCR7⟩
  have mkCR : Mk K CR hCR0 := ⟨mk_CR, aCR0, iCR0, kc_CR⟩
  have cl_CP : Cls K CP := ⟨pg_CP, hd_CP, po_CP, sa_CP⟩
  have na_CP : ∀ f ∈ (["_rows", "_openers", "lines", "main", "_meanings", "_spots"] : List Str), NoAttr K CP f := fun f hf => by
    simp only [List.mem_cons, List.not_mem_nil, or_false] at hf
    rcases hf with rfl | rfl | rfl | rfl | rfl | rfl
    · exact n_CP__rows
    · exact n_CP__openers
    · exact n_CP_lines
    · exact n_CP_main
    · exact n_CP__meanings
    · exact n_CP__spots
  have ECP0 := fun_mk (st := mProgram_init) lCP0 cCP0 kCP0
  have bCP0 := ECP0.binds (ps := ["self", "text"]) fun _ _ _ _ _ _ us hl => match us, hl with | [_, _], _ => rfl
  have mCP0 : Meth K CP "__init__" hCP0 := ⟨aCP0, iCP0, kCP0⟩
  have ECP1 := fun_mk (st := mProgram_spots) lCP1 cCP1 kCP1
  have bCP1 := ECP1.binds (ps := ["self"]) fun _ _ _ _ _ _ us hl => match us, hl with | [_], _ => rfl
  have mCP1 : Meth K CP "spots" hCP1 := ⟨aCP1, iCP1, kCP1⟩
  have mkCP : Mk K CP hCP0 := ⟨mk_CP, aCP0, iCP0, kc_CP⟩
  have cBP := cl_of (TE := TE) (PySem.W.mg_of X G aCBP) xBP saBP gaBP ggBP haBP hn ht kcBP
  have EBp := fun_mk (st := mBadProgram_init) lBp cBp kBp
  have bBp := EBp.binds (ps := ["self", "line"]) fun _ _ _ _ _ _ us hl => match us, hl with | [_, _], _ => rfl
  have cTM := cl_of (TE := TE) (PySem.W.mg_of X G aCTM) xTM saTM gaTM ggTM haTM hn ht kcTM
  have ETm := fun_mk (st := mTooMany_init) lTm cTm kTm
  have bTm := ETm.binds (ps := ["self", "what"]) fun _ _ _ _ _ _ us hl => match us, hl with | [_, _], _ => rfl
  have hTp : ∀ x : Str, PySem.W.nsIn K mainGlobals x = some none → mg x = none := fun x z => PySem.W.mg_none_of X G z
  refine ⟨PySem.W.fnOf "law" "law" (defArgs sLaw) (defBody sLaw) (defScope sLaw) .none kV33 dc33 pm33 an33 cd33 ct33, fun s v => .of_eq rfl, fun base _ _ => ?_⟩
  have NM : Nm mg := ⟨hTp _ zisinstance, hTp _ zlist, hTp _ ztuple⟩
  have gV := PySem.W.mg_of X G ctVa
  have gF := PySem.W.mg_of X G ctFu
  have gT := PySem.W.mg_of X G ctTa
  have TO : ∀ H, SqT K H aO (openW.map V.str) := fun H => .inr ⟨_, _, _, lO, rfl, rfl, (by show 4 ≤ sizeLine; decide), (.cons ⟨_, rfl⟩ (.cons ⟨_, rfl⟩ (.cons ⟨_, rfl⟩ (.cons ⟨_, rfl⟩ .nil))))⟩
  have GP : FnOk P w K mg base CX0 1 f0 _ ["thing"] (spParts K) := ok_parts F0 NM
  have GC : FnOk P w K mg base CX0 2 f1 _ ["thing"] (spCopy K) := ok_copy (k := 0) F1 NM F0 b0 g0
  have TS : ∀ H, SqT K H aSg (signsS.map V.str) := fun H => .inr ⟨_, _, _, lS, rfl, rfl, (by show 6 ≤ sizeLine; decide), (.cons ⟨_, rfl⟩ (.cons ⟨_, rfl⟩ (.cons ⟨_, rfl⟩ (.cons ⟨_, rfl⟩ (.cons ⟨_, rfl⟩ (.cons ⟨_, rfl⟩ .nil))))))⟩
  have GCl := ok_cleaned (P := P) (w := w) (base := base) (mg := mg) (PySem.W.mg_of X G cKn) F2
  have GSp := ok_spread (P := P) (w := w) (base := base) (mg := mg) F3
  have GRo := ok_rowsOf (P := P) (w := w) (base := base) F4 (hTp _ zlen) GCl g2 k2 b2 GSp g3 k3 b3
  have GIn := ok_isName (P := P) (w := w) (base := base) F5 (hTp _ zlen) (PySem.W.mg_of X G cN) (PySem.W.mg_of X G caK) tK
  have GSh := ok_shape (P := P) (w := w) (base := base) (mg := mg) F6
  have GAt := ok_atom (P := P) (w := w) (base := base) F7 (hTp _ zlen) tAt (PySem.W.mg_of X G caAt) atomT_ok tFo (PySem.W.mg_of X G caFo) tNu (PySem.W.mg_of X G caNu) TS (PySem.W.mg_of X G caSg)
  have GAf := ok_askedF (P := P) (w := w) (base := base) (mg := mg) F8
  have GSt := ok_settle (P := P) (w := w) (base := base) F9 (hTp _ zlen) tRa (PySem.W.mg_of X G caRa)
  have GPa := ok_putAtom (P := P) (w := w) (base := base) F10 GAt g7 k7 b7
  have GPo := ok_putOp (P := P) (w := w) (base := base) F11 (hTp _ zlen) GSt g9 k9 b9 tRa (PySem.W.mg_of X G caRa)
  have GCm := ok_comp (P := P) (w := w) (base := base) F12 GPa g10 k10 b10 GPo g11 k11 b11
  have GTe := ok_test (P := P) (w := w) (base := base) F13 GAt g7 k7 b7 GCm g12 k12 b12
  have GCb := ok_canBe (P := P) (w := w) (base := base) F14 GIn g5 k5 b5
  have LT : LnC K C := ⟨cl_C, na_C⟩
  have ED : FunD K "__init__" "Line.__init__" (defArgs mLine_init) (defBody mLine_init) (defScope mLine_init) [.non, .non, .non, .non, .non] [] hC0 _ := ⟨⟨ocC0, odC0, .ref TD, kVC0, dcC0, pmC0, anC0, cdC0, ctC0, slC0, rfl, lC0, cC0, .inr ⟨by simp, TD, _, [.none, .none, .none, .none, .none], nD, rfl, lD, rfl, .cons rfl (.cons rfl (.cons rfl (.cons rfl (.cons rfl .nil))))⟩, .inl rfl⟩, kC0⟩
  have GL := ok_line (P := P) (w := w) (base := base) (mg := mg) ED LT
  have bb5 : Binds K (PySem.W.fnOf "__init__" "Line.__init__" (defArgs mLine_init) (defBody mLine_init) (defScope mLine_init) (.ref TD) kVC0 dcC0 pmC0 anC0 cdC0 ctC0) PL [.none, .none, .none, .none, .none] := by
    obtain ⟨ds, vd, bd⟩ := FunD.binds1 (ps := PL) ED 2 0 (by simp) rfl (fun T kV doc pm an cdv ct us its hu hi => match us, its, hu, hi with | [_, _], [_, _, _, _, _], _, _ => ⟨_, rfl, rfl⟩)
    have e : ds = [.none, .none, .none, .none, .none] := by
      simp only [List.drop] at vd
      exact vals_none 5 vd
    rw [e] at bd
    exact bd
  have bb3 : Binds K (PySem.W.fnOf "__init__" "Line.__init__" (defArgs mLine_init) (defBody mLine_init) (defScope mLine_init) (.ref TD) kVC0 dcC0 pmC0 anC0 cdC0 ctC0) PL [.none, .none, .none] := by
    obtain ⟨ds, vd, bd⟩ := FunD.binds1 (ps := PL) ED 4 2 (by simp) rfl (fun T kV doc pm an cdv ct us its hu hi => match us, its, hu, hi with | [_, _, _, _], [_, _, _, _, _], _, _ => ⟨_, rfl, rfl⟩)
    have e : ds = [.none, .none, .none] := by
      simp only [List.drop] at vd
      exact vals_none 3 vd
    rw [e] at bd
    exact bd
  have bb1 : Binds K (PySem.W.fnOf "__init__" "Line.__init__" (defArgs mLine_init) (defBody mLine_init) (defScope mLine_init) (.ref TD) kVC0 dcC0 pmC0 anC0 cdC0 ctC0) PL [.none] := by
    obtain ⟨ds, vd, bd⟩ := FunD.binds1 (ps := PL) ED 6 4 (by simp) rfl (fun T kV doc pm an cdv ct us its hu hi => match us, its, hu, hi with | [_, _, _, _, _, _], [_, _, _, _, _], _, _ => ⟨_, rfl, rfl⟩)
    have e : ds = [.none] := by
      simp only [List.drop] at vd
      exact vals_none 1 vd
    rw [e] at bd
    exact bd
  have bb0 : Binds K (PySem.W.fnOf "__init__" "Line.__init__" (defArgs mLine_init) (defBody mLine_init) (defScope mLine_init) (.ref TD) kVC0 dcC0 pmC0 anC0 cdC0 ctC0) PL [] := by
    obtain ⟨ds, vd, bd⟩ := FunD.binds1 (ps := PL) ED 7 5 (by simp) rfl (fun T kV doc pm an cdv ct us its hu hi => match us, its, hu, hi with | [_, _, _, _, _, _, _], [_, _, _, _, _], _, _ => ⟨_, rfl, rfl⟩)
    have e : ds = [] := by
      simp only [List.drop] at vd
      exact vals_none 0 vd
    rw [e] at bd
    exact bd
  have LM : LnM K mg C hC0 _ := ⟨LT, mkC, PySem.W.mg_of X G a_C, bb5, bb3, bb1, bb0⟩
  have BT : BkC K CB := ⟨cl_CB, na_CB⟩
  have GB := ok_block (P := P) (w := w) (base := base) (mg := mg) ECB0 BT
  have BM : BkM K mg CB hCB0 _ := ⟨BT, mkCB, PySem.W.mg_of X G a_CB, bCB0⟩
  have RC : RdC K CR := ⟨cl_CR, na_CR⟩
  have GDf := ok_readDef (P := P) (w := w) (base := base) F15 (hTp _ zlen) GIn g5 k5 b5 GCb g14 k14 b14 gV LM GL
  have GFo := ok_readFor (P := P) (w := w) (base := base) F16 tLo (PySem.W.mg_of X G caLo) BT GSh g6 k6 b6 GCb g14 k14 b14 gV LM GL
  have GCa := ok_readCall (P := P) (w := w) (base := base) F18 tAr (PySem.W.mg_of X G caAr) BT LM GL
  have GGi := ok_readGift (P := P) (w := w) (base := base) F19 (hTp _ zlen) tAr (PySem.W.mg_of X G caAr) tGi (PySem.W.mg_of X G caGi) tFo (PySem.W.mg_of X G caFo) LM GL
  have GNa := ok_readNamed (P := P) (w := w) (base := base) F20 BT GSh g6 k6 b6 GCb g14 k14 b14 GCa g18 k18 b18 GGi g19 k19 b19 gF gT
  have GBa := ok_readBare (P := P) (w := w) (base := base) F21 (hTp _ zlen) BT LM GL
  have GIf := ok_readIf (P := P) (w := w) (base := base) (T := T3.tbs) (fun _ _ => rfl) F17 BT GSh g6 k6 b6 GTe g13 k13 b13 LM GL
  have GRi := ok_readInner (P := P) (w := w) (base := base) (T := T3.tbs) F22 (hTp _ zlen) GFo g16 k16 b16 GBa g21 k21 b21 GIf g17 k17 b17 GNa g20 k20 b20
  have GAs := ok_asked (P := P) (w := w) (base := base) F23 LT GAf g8 k8 b8
  have GBo := ok_blockOf (P := P) (w := w) (base := base) F24 LT BM GB
  have Q0 := ok_rdInit (P := P) (w := w) (base := base) (C := C) ECR0 RC BM GB
  have Q1 := ok_whole (P := P) (w := w) (base := base) (CB := CB) ECR1 RC LT (PySem.W.mg_of X G caO) TO
  have Q2 := ok_may (P := P) (w := w) (base := base) ECR2 (hTp _ zlen) RC mCR1 Q1 bCR1
  have Q4 := ok_ends (P := P) (w := w) (base := base) ECR4 (hTp _ zlen) RC LT BT
  have Q5 := ok_close (P := P) (w := w) (base := base) ECR5 (hTp _ zlen) RC LT BT
  have Q7 := ok_begin (P := P) (w := w) (base := base) ECR7 RC LT GBo g24 k24 b24 gV gF
  have Q6 := ok_put (P := P) (w := w) (base := base) ECR6 (hTp _ zlen) RC LT BT (PySem.W.mg_of X G caO) TO gT GAs g23 k23 b23 mCR7 Q7 bCR7
  have Q3 := ok_accepts (P := P) (w := w) (base := base) ECR3 (hTp _ zlen) RC LT mCR2 Q2 bCR2 GDf g15 k15 b15 GRi g22 k22 b22 mCR4 Q4 bCR4 mCR5 Q5 bCR5 mCR6 Q6 bCR6
  have GiB := ok_inBp (P := P) (w := w) (base := base) (D := BP) EBp GC g1 k1 b1
  have GiT := ok_inTm (P := P) (w := w) (base := base) (D := TM) ETm GC g1 k1 b1
  have GRr := ok_readRows (P := P) (w := w) (base := base) F25 (hTp _ zlen) (hTp _ zenumerate) RC (PySem.W.mg_of X G a_CR) mkCR Q0 bCR0 mCR3 Q3 bCR3 mCR1 Q1 bCR1 mCR5 Q5 bCR5 cBP aBp tBp nBp GiB bBp
  have PG : PgC K mg CP (.type "type") := ⟨cl_CP, na_CP, PySem.W.mg_of X G a_CP, ⟨rdP, gaP⟩, ⟨_, v4, ⟨_, rfl⟩⟩, ⟨_, v12, ⟨_, rfl⟩⟩⟩
  have GPr := ok_prog (P := P) (w := w) (base := base) ECP0 (hTp _ zlen) (hTp _ zisinstance) (hTp _ zstr) (hTp _ ztuple) (hTp _ zlist) PG RC LT GRo g4 k4 b4 GRr g25 k25 b25 cBP cTM aTm tTm nTm GiT bTm
  have ND : Nd mg := ⟨hTp _ zlen, hTp _ zabs, hTp _ zint, hTp _ zrange⟩
  have GBg : FnOk P w K mg base CX0 1 f26 _ ["_law_script", "_law_at"] (spBag K) := ok_bag (k := 0) F26 ND
  have GTk : FnOk P w K mg base CX0 1 f27 _ ["_law_bag_here", "_law_many"] spTake := ok_take (k := 0) F27 ND
  have GOf := ok_of (P := P) (w := w) (base := base) F28 ND GTk g27 k27 b27
  have GWr := ok_wrong (P := P) (w := w) (base := base) F29 PG mkCP GPr bCP0 cBP nBp
  have GOp := ok_opened (P := P) (w := w) (base := base) F30 (hTp _ zrange) GTk g27 k27 b27 GOf g28 k28 b28
  have GAg := ok_args (P := P) (w := w) (base := base) F31 (hTp _ zint)
  have GIl := ok_isLet (P := P) (w := w) (base := base) (mg := mg) F32
  have GSs := ok_spots (P := P) (w := w) (base := base) (C := C) (CB := CB) (CR := CR) ECP1 PG (hTp _ zlist)
  exact ok_law F33 ⟨hTp _ zmax, hTp _ zmin⟩ ND ⟨GBg, g26, k26, b26, GOp, g30, k30, b30, GAg, g31, k31, b31, GIl, g32, k32, b32, GWr, g29, k29, b29, PG, mkCP, GPr, bCP0, mCP1, GSs, bCP1⟩
end TX
open PySem PySem.W PyProof.Rows
set_option maxRecDepth 100000 in
set_option maxHeartbeats 0 in
theorem PySem.Challenge.cw_textorlist_k31_functions_call_themselves_holds : PySem.Challenge.rw_textorlist_k31_functions_call_themselves.Holds := by
  w_on; o_law; k_head; (case hw => w_witness2)
  k_fill
  refine TX.walkG (l := PySem.Challenge.rw_textorlist_k31_functions_call_themselves) (n := 63) (k := 12) (x := "_law_script") (sp := fun w => TX.spLaw _) rfl (by decide) rfl ⟨rfl, by decide, by decide⟩ (fun w h Y => PySem.W.kIn_of Y) ?F (fun _ _ a ns hl _ hS => ⟨a, ns, rfl, hS, hl, fun _ => rfl⟩)
  case F =>
    intro w mg fa h KX G hmg
    refine' TX.all_mk KX G hmg ?a0 ?l0 ?c0 ?k0 ?a1 ?l1 ?c1 ?k1 ?a2 ?l2 ?c2 ?k2 ?a3 ?l3 ?c3 ?k3 ?a4 ?l4 ?c4 ?k4 ?a5 ?l5 ?c5 ?k5 ?a6 ?l6 ?c6 ?k6 ?a7 ?l7 ?c7 ?k7 ?a8 ?l8 ?c8 ?k8 ?a9 ?l9 ?c9 ?k9 ?a10 ?l10 ?c10 ?k10 ?a11 ?l11 ?c11 ?k11 ?a12 ?l12 ?c12 ?k12 ?a13 ?l13 ?c13 ?k13 ?a14 ?l14 ?c14 ?k14 ?a15 ?l15 ?c15 ?k15 ?a16 ?l16 ?c16 ?k16 ?a17 ?l17 ?c17 ?k17 ?a18 ?l18 ?c18 ?k18 ?a19 ?l19 ?c19 ?k19 ?a20 ?l20 ?c20 ?k20 ?a21 ?l21 ?c21 ?k21 ?a22 ?l22 ?c22 ?k22 ?a23 ?l23 ?c23 ?k23 ?a24 ?l24 ?c24 ?k24 ?a25 ?l25 ?c25 ?k25 ?a26 ?l26 ?c26 ?k26 ?a27 ?l27 ?c27 ?k27 ?a28 ?l28 ?c28 ?k28 ?a29 ?l29 ?c29 ?k29 ?a30 ?l30 ?c30 ?k30 ?a31 ?l31 ?c31 ?k31 ?a32 ?l32 ?c32 ?k32 ?a33 ?l33 ?c33 ?k33 ?a_C ?pg_C ?hd_C ?po_C ?sa_C ?mk_C ?kc_C ?n_C_deed ?n_C_name ?n_C_variable ?n_C_form ?n_C_ask ?n_C_test ?n_C_number ?n_C_after ?n_C_otherwise ?aC0 ?lC0 ?cC0 ?kC0 ?iC0 ?a_CB ?pg_CB ?hd_CB ?po_CB ?sa_CB ?mk_CB ?kc_CB ?n_CB_line ?n_CB_variable ?n_CB_own ?n_CB_looped ?aCB0 ?lCB0 ?cCB0 ?kCB0 ?iCB0 ?a_CR ?pg_CR ?hd_CR ?po_CR ?sa_CR ?mk_CR ?kc_CR ?n_CR_lines ?n_CR_meanings ?n_CR_found ?n_CR_blocks ?aCR0 ?lCR0 ?cCR0 ?kCR0 ?iCR0 ?aCR1 ?lCR1 ?cCR1 ?kCR1 ?iCR1 ?aCR2 ?lCR2 ?cCR2 ?kCR2 ?iCR2 ?aCR3 ?lCR3 ?cCR3 ?kCR3 ?iCR3 ?aCR4 ?lCR4 ?cCR4 ?kCR4 ?iCR4 ?aCR5 ?lCR5 ?cCR5 ?kCR5 ?iCR5 ?aCR6 ?lCR6 ?cCR6 ?kCR6 ?iCR6 ?aCR7 ?lCR7 ?cCR7 ?kCR7 ?iCR7 ?a_CP ?pg_CP ?hd_CP ?po_CP ?sa_CP ?mk_CP ?kc_CP ?n_CP__rows ?n_CP__openers ?n_CP_lines ?n_CP_main ?n_CP__meanings ?n_CP__spots ?aCP0 ?lCP0 ?cCP0 ?kCP0 ?iCP0 ?aCP1 ?lCP1 ?cCP1 ?kCP1 ?iCP1 ?aTE ?lTE ?hn ?ht ?aCBP ?xBP ?saBP ?gaBP ?ggBP ?haBP ?kcBP ?aBp ?lBp ?cBp ?kBp ?nBp ?tBp ?aCTM ?xTM ?saTM ?gaTM ?ggTM ?haTM ?kcTM ?aTm ?lTm ?cTm ?kTm ?nTm ?tTm ?zlen ?zisinstance ?zstr ?ztuple ?zlist ?zenumerate ?zabs ?zint ?zrange ?zmax ?zmin ?cN ?ctFu ?ctVa ?ctTa ?caK ?caFo ?caLo ?caAr ?caGi ?caO ?caAt ?caNu ?caRa ?caSg ?lO ?cKn ?lS ?lD ?tK ?tFo ?tLo ?tAr ?tGi ?tAt ?tNu ?tRa ?rdP ?gaP ?v4 ?v12
    (case a0 => k_is)
    (case l0 => k_is)
    (case c0 => k_is)
    (case k0 => k_is)
    (case a1 => k_is)
    (case l1 => k_is)
    (case c1 => k_is)
    (case k1 => k_is)
    (case a2 => k_is)
    (case l2 => k_is)
    (case c2 => k_is)
    (case k2 => k_is)
    (case a3 => k_is)
    (case l3 => k_is)
    (case c3 => k_is)
    (case k3 => k_is)
    (case a4 => k_is)
    (case l4 => k_is)
    (case c4 => k_is)
    (case k4 => k_is)
    (case a5 => k_is)
    (case l5 => k_is)
    (case c5 => k_is)
    (case k5 => k_is)
    (case a6 => k_is)
    (case l6 => k_is)
    (case c6 => k_is)
    (case k6 => k_is)
    (case a7 => k_is)
    (case l7 => k_is)
    (case c7 => k_is)
    (case k7 => k_is)
    (case a8 => k_is)
    (case l8 => k_is)
    (case c8 => k_is)
    (case k8 => k_is)
    (case a9 => k_is)
    (case l9 => k_is)
    (case c9 => k_is)
    (case k9 => k_is)
    (case a10 => k_is)
    (case l10 => k_is)
    (case c10 => k_is)
    (case k10 => k_is)
    (case a11 => k_is)
    (case l11 => k_is)
    (case c11 => k_is)
    (case k11 => k_is)
    (case a12 => k_is)
    (case l12 => k_is)
    (case c12 => k_is)
    (case k12 => k_is)
    (case a13 => k_is)
    (case l13 => k_is)
    (case c13 => k_is)
    (case k13 => k_is)
    (case a14 => k_is)
    (case l14 => k_is)
    (case c14 => k_is)
    (case k14 => k_is)
    (case a15 => k_is)
    (case l15 => k_is)
    (case c15 => k_is)
    (case k15 => k_is)
    (case a16 => k_is)
    (case l16 => k_is)
    (case c16 => k_is)
    (case k16 => k_is)
    (case a17 => k_is)
    (case l17 => k_is)
    (case c17 => k_is)
    (case k17 => k_is)
    (case a18 => k_is)
    (case l18 => k_is)
    (case c18 => k_is)
    (case k18 => k_is)
    (case a19 => k_is)
    (case l19 => k_is)
    (case c19 => k_is)
    (case k19 => k_is)
    (case a20 => k_is)
    (case l20 => k_is)
    (case c20 => k_is)
    (case k20 => k_is)
    (case a21 => k_is)
    (case l21 => k_is)
    (case c21 => k_is)
    (case k21 => k_is)
    (case a22 => k_is)
    (case l22 => k_is)
    (case c22 => k_is)
    (case k22 => k_is)
    (case a23 => k_is)
    (case l23 => k_is)
    (case c23 => k_is)
    (case k23 => k_is)
    (case a24 => k_is)
    (case l24 => k_is)
    (case c24 => k_is)
    (case k24 => k_is)
    (case a25 => k_is)
    (case l25 => k_is)
    (case c25 => k_is)
    (case k25 => k_is)
    (case a26 => k_is)
    (case l26 => k_is)
    (case c26 => k_is)
    (case k26 => k_is)
    (case a27 => k_is)
    (case l27 => k_is)
    (case c27 => k_is)
    (case k27 => k_is)
    (case a28 => k_is)
    (case l28 => k_is)
    (case c28 => k_is)
    (case k28 => k_is)
    (case a29 => k_is)
    (case l29 => k_is)
    (case c29 => k_is)
    (case k29 => k_is)
    (case a30 => k_is)
    (case l30 => k_is)
    (case c30 => k_is)
    (case k30 => k_is)
    (case a31 => k_is)
    (case l31 => k_is)
    (case c31 => k_is)
    (case k31 => k_is)
    (case a32 => k_is)
    (case l32 => k_is)
    (case c32 => k_is)
    (case k32 => k_is)
    (case a33 => k_is)
    (case l33 => k_is)
    (case c33 => k_is)
    (case k33 => k_is)
    (case a_C => k_is)
    (case pg_C => k_is)
    (case hd_C => k_is)
    (case po_C => k_is)
    (case sa_C => k_is)
    (case mk_C => k_is)
    (case kc_C => k_is)
    (case n_C_deed => k_is)
    (case n_C_name => k_is)
    (case n_C_variable => k_is)
    (case n_C_form => k_is)
    (case n_C_ask => k_is)
    (case n_C_test => k_is)
    (case n_C_number => k_is)
    (case n_C_after => k_is)
    (case n_C_otherwise => k_is)
    (case aC0 => k_is)
    (case lC0 => k_is)
    (case cC0 => k_is)
    (case kC0 => k_is)
    (case iC0 => k_is)
    (case a_CB => k_is)
    (case pg_CB => k_is)
    (case hd_CB => k_is)
    (case po_CB => k_is)
    (case sa_CB => k_is)
    (case mk_CB => k_is)
    (case kc_CB => k_is)
    (case n_CB_line => k_is)
    (case n_CB_variable => k_is)
    (case n_CB_own => k_is)
    (case n_CB_looped => k_is)
    (case aCB0 => k_is)
    (case lCB0 => k_is)
    (case cCB0 => k_is)
    (case kCB0 => k_is)
    (case iCB0 => k_is)
    (case a_CR => k_is)
    (case pg_CR => k_is)
    (case hd_CR => k_is)
    (case po_CR => k_is)
    (case sa_CR => k_is)
    (case mk_CR => k_is)
    (case kc_CR => k_is)
    (case n_CR_lines => k_is)
    (case n_CR_meanings => k_is)
    (case n_CR_found => k_is)
    (case n_CR_blocks => k_is)
    (case aCR0 => k_is)
    (case lCR0 => k_is)
    (case cCR0 => k_is)
    (case kCR0 => k_is)
    (case iCR0 => k_is)
    (case aCR1 => k_is)
    (case lCR1 => k_is)
    (case cCR1 => k_is)
    (case kCR1 => k_is)
    (case iCR1 => k_is)
    (case aCR2 => k_is)
    (case lCR2 => k_is)
    (case cCR2 => k_is)
    (case kCR2 => k_is)
    (case iCR2 => k_is)
    (case aCR3 => k_is)
    (case lCR3 => k_is)
    (case cCR3 => k_is)
    (case kCR3 => k_is)
    (case iCR3 => k_is)
    (case aCR4 => k_is)
    (case lCR4 => k_is)
    (case cCR4 => k_is)
    (case kCR4 => k_is)
    (case iCR4 => k_is)
    (case aCR5 => k_is)
    (case lCR5 => k_is)
    (case cCR5 => k_is)
    (case kCR5 => k_is)
    (case iCR5 => k_is)
    (case aCR6 => k_is)
    (case lCR6 => k_is)
    (case cCR6 => k_is)
    (case kCR6 => k_is)
    (case iCR6 => k_is)
    (case aCR7 => k_is)
    (case lCR7 => k_is)
    (case cCR7 => k_is)
    (case kCR7 => k_is)
    (case iCR7 => k_is)
    (case a_CP => k_is)
    (case pg_CP => k_is)
    (case hd_CP => k_is)
    (case po_CP => k_is)
    (case sa_CP => k_is)
    (case mk_CP => k_is)
    (case kc_CP => k_is)
    (case n_CP__rows => k_is)
    (case n_CP__openers => k_is)
    (case n_CP_lines => k_is)
    (case n_CP_main => k_is)
    (case n_CP__meanings => k_is)
    (case n_CP__spots => k_is)
    (case aCP0 => k_is)
    (case lCP0 => k_is)
    (case cCP0 => k_is)
    (case kCP0 => k_is)
    (case iCP0 => k_is)
    (case aCP1 => k_is)
    (case lCP1 => k_is)
    (case cCP1 => k_is)
    (case kCP1 => k_is)
    (case iCP1 => k_is)
    (case aTE => k_is)
    (case lTE => k_is)
    (case hn => k_is)
    (case ht => k_is)
    (case aCBP => k_is)
    (case xBP => k_is)
    (case saBP => k_is)
    (case gaBP => k_is)
    (case ggBP => k_is)
    (case haBP => k_is)
    (case kcBP => k_is)
    (case aBp => k_is)
    (case lBp => k_is)
    (case cBp => k_is)
    (case kBp => k_is)
    (case nBp => k_is)
    (case tBp => k_is)
    (case aCTM => k_is)
    (case xTM => k_is)
    (case saTM => k_is)
    (case gaTM => k_is)
    (case ggTM => k_is)
    (case haTM => k_is)
    (case kcTM => k_is)
    (case aTm => k_is)
    (case lTm => k_is)
    (case cTm => k_is)
    (case kTm => k_is)
    (case nTm => k_is)
    (case tTm => k_is)
    (case zlen => k_is)
    (case zisinstance => k_is)
    (case zstr => k_is)
    (case ztuple => k_is)
    (case zlist => k_is)
    (case zenumerate => k_is)
    (case zabs => k_is)
    (case zint => k_is)
    (case zrange => k_is)
    (case zmax => k_is)
    (case zmin => k_is)
    (case cN => k_is)
    (case ctFu => k_is)
    (case ctVa => k_is)
    (case ctTa => k_is)
    (case caK => k_is)
    (case caFo => k_is)
    (case caLo => k_is)
    (case caAr => k_is)
    (case caGi => k_is)
    (case caO => k_is)
    (case caAt => k_is)
    (case caNu => k_is)
    (case caRa => k_is)
    (case caSg => k_is)
    (case lO => k_is)
    (case cKn => k_is)
    (case lS => k_is)
    (case lD => k_is)
    (case tK => unfold TX.KTab; first | kernel_rfl | k_is | decide +kernel)
    (case tFo => unfold TX.KTab; first | kernel_rfl | k_is | decide +kernel)
    (case tLo => unfold TX.KTab; first | kernel_rfl | k_is | decide +kernel)
    (case tAr => unfold TX.KTab; first | kernel_rfl | k_is | decide +kernel)
    (case tGi => unfold TX.KTab; first | kernel_rfl | k_is | decide +kernel)
    (case tAt => unfold TX.KTab; first | kernel_rfl | k_is | decide +kernel)
    (case tNu => unfold TX.KTab; first | kernel_rfl | k_is | decide +kernel)
    (case tRa => unfold TX.KTab; first | kernel_rfl | k_is | decide +kernel)
    (case rdP => first | k_is | rfl | decide +kernel)
    (case gaP => first | k_is | rfl | decide +kernel)
    (case v4 => first | k_is | rfl | decide +kernel)
    (case v12 => first | k_is | rfl | decide +kernel)
