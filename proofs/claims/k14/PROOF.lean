import PyProof.Rows.All
import PyProof.ListStr
import HandS.Flow
import HandS.StrMore
import HandS.Iter
import HandS.Walk
import Wide.All
import OpenK.AllK
import Wide.FinOn
import HandS.ForMost
import HandS.Style
import HandS.IsInst
import HandS.ExcInit
import HandS.ExcIs
import HandS.ExcField
import HandS.ForExc
import HandS.TupAny
import PyProof.InstNe
import PyProof.MeetsIn
import PyProof.Rows.Range3
import HandS.OwnEq
import HandS.Small
import KE.KOpsOwn
import HandS.Codes
import PyProof.LongRange
import PyProof.ListMulRight
import HandS.TupLe
import HandS.ClsMeth
import HandS.Codes
import HandS.Comp
import HandS.Deep
import HandS.ExcField
import HandS.ExcInit
import HandS.ExcIs
import HandS.FStr
import HandS.Flow
import HandS.ForExc
import HandS.ForMost
import HandS.HotCalls
import HandS.IsInst
import HandS.Iter
import HandS.More
import HandS.OwnEq
import HandS.Small
import HandS.Star
import HandS.StrMore
import HandS.Style
import HandS.TupLe
import HandS.Walk
import HandS.WordsExc
import KE.KOpsOwn
import OpenK.AllK
import OpenK.KMeth
import OpenK.KOps
import PyProof.InstNe
import PyProof.ListMulRight
import PyProof.ListStr
import PyProof.LongRange
import PyProof.MeetsIn
import PyProof.Rows.All
import PyProof.Rows.Range3
import Wide.All
import Wide.FinOn
import PySem.Challenge.RW_textorlist_k14_whole_entries_by_a_model
set_option Elab.async false
set_option linter.all false
set_option maxRecDepth 100000
set_option maxHeartbeats 8000000
set_option exponentiation.threshold 300
namespace TX
open PySem PySem.Spec PyProof.Rows L2

/-! ### either of two rules -/
section
variable {X : Cx}
theorem pe_alt {e : Expr} {t u : TE} (h1 : PE X e t) (h2 : PE X e u) : PE X e (fun σ H Q => t σ H Q ∨ u σ H Q) :=
  ⟨fun pins s σ H Q I h => h.elim (h1.run pins s σ H Q I) (h2.run pins s σ H Q I)⟩
theorem ps_alt {e : Stmt} {t u : TS} (h1 : PS X e t) (h2 : PS X e u) : PS X e (fun D σ H => t D σ H ∨ u D σ H) :=
  ⟨fun pins s σ H D I h => h.elim (h1.run pins s σ H D I) (h2.run pins s σ H D I)⟩
theorem pi_alt {tg e : Expr} {t u : TI} (h1 : PI X tg e t) (h2 : PI X tg e u) : PI X tg e (fun σ H R => t σ H R ∨ u σ H R) :=
  ⟨fun pins s σ H R I h => h.elim (h1.run pins s σ H R I) (h2.run pins s σ H R I)⟩
end

/-! ### data stays where the heap grows -/
theorem same_sqt {K : PySem.W.Frag} {H H' : Hp} {a : Addr} {xs : List V} (e : Same H H') (h : SqT K H a xs) : SqT K H' a xs := by
  rcases h with (h | ⟨o, h⟩) | h
  · exact .inl (.inl (e _ _ h))
  · exact .inl (.inr ⟨o, e _ _ h⟩)
  · exact .inr h
mutual
theorem dp_same {K : PySem.W.Frag} {H H' : Hp} (e : Same H H') : ∀ (d : PyData) (v : V), Dp K H v d → Dp K H' v d
  | .none, _, h => by cases h; exact .non
  | .bool b, _, h => by cases h; exact .bl b
  | .int i, _, h => by cases h; exact .int i
  | .str x, _, h => by cases h; exact .str x
  | .list xs, _, h => by
    cases h with
    | lst h1 h2 => exact .lst (e.seq h1) (dpAll_same e xs _ h2)
  | .tuple xs, _, h => by
    cases h with
    | tup h1 h2 => exact .tup (same_sqt e h1) (dpAll_same e xs _ h2)
  | .dict _, _, h => nomatch h
theorem dpAll_same {K : PySem.W.Frag} {H H' : Hp} (e : Same H H') : ∀ (ds : List PyData) (vs : List V), DpAll K H vs ds → DpAll K H' vs ds
  | [], _, h => by cases h; exact .nil
  | d :: ds, _, h => by
    cases h with
    | cons h1 h2 => exact .cons (dp_same e d _ h1) (dpAll_same e ds _ h2)
end
theorem DpAll.length {K : PySem.W.Frag} {H : Hp} : ∀ {ds : List PyData} {vs : List V}, DpAll K H vs ds → vs.length = ds.length
  | [], _, h => by cases h; rfl
  | _ :: _, _, h => by
    cases h with
    | cons _ h2 => exact congrArg (· + 1) (DpAll.length h2)
theorem DpAll.append {K : PySem.W.Frag} {H : Hp} : ∀ {ds es : List PyData} {vs ws : List V}, DpAll K H vs ds → DpAll K H ws es → DpAll K H (vs ++ ws) (ds ++ es)
  | [], _, _, _, h, g => by cases h; exact g
  | _ :: _, _, _, _, h, g => by
    cases h with
    | cons h1 h2 => exact .cons h1 (DpAll.append h2 g)
theorem DpAll.split {K : PySem.W.Frag} {H : Hp} : ∀ {ds es : List PyData} {vs : List V}, DpAll K H vs (ds ++ es) → ∃ a b, vs = a ++ b ∧ DpAll K H a ds ∧ DpAll K H b es
  | [], _, vs, h => ⟨[], vs, rfl, .nil, h⟩
  | d :: ds, es, _, h => by
    cases h with
    | cons h1 h2 =>
      obtain ⟨a, b, rfl, ha, hb⟩ := DpAll.split (ds := ds) (es := es) h2
      exact ⟨_ :: a, b, rfl, .cons h1 ha, hb⟩
theorem same_upd {H : Hp} {p : Addr} {o : HO} (h : H p = none) : Same H (upd H p o) := fun b x e => by
  rw [upd_ne (ne_of_none e h)]
  exact e
/-- a fresh place may be written again and again -/
theorem same_fresh {H0 H : Hp} {p : Addr} {o : HO} (h : H0 p = none) (e : Same H0 H) : Same H0 (upd H p o) := fun b x q => by
  rw [upd_ne (ne_of_none q h)]
  exact e b x q

/-! ### the number of parts -/
mutual
def nd : PyData → Nat
  | .list xs => ndAll xs + 1
  | .tuple xs => ndAll xs + 1
  | _ => 1
def ndAll : List PyData → Nat
  | [] => 0
  | d :: ds => nd d + ndAll ds
end
theorem ndAll_append : ∀ (a b : List PyData), ndAll (a ++ b) = ndAll a + ndAll b
  | [], b => by simp [ndAll]
  | d :: a, b => by
    rw [List.cons_append, ndAll, ndAll, ndAll_append a b]
    omega
theorem nd_pos : ∀ d : PyData, 1 ≤ nd d
  | .none => by simp [nd]
  | .bool _ => by simp [nd]
  | .int _ => by simp [nd]
  | .str _ => by simp [nd]
  | .list _ => by simp [nd]
  | .tuple _ => by simp [nd]
  | .dict _ => by simp [nd]
theorem ndAll_len : ∀ ds : List PyData, ds.length ≤ ndAll ds
  | [] => by simp
  | d :: ds => by
    have := ndAll_len ds
    have := nd_pos d
    rw [ndAll, List.length_cons]
    omega

/-! ### what a value's type is, for isinstance -/
/-- the type of a value that represents data -/
def tyD : PyData → String
  | .none => "NoneType"
  | .bool _ => "bool"
  | .int _ => "int"
  | .str _ => "str"
  | .list _ => "list"
  | .tuple _ => "tuple"
  | .dict _ => "dict"
theorem dp_ty {K : PySem.W.Frag} {H : Hp} {v : V} {d : PyData} (h : Dp K H v d) : TyX K H v (.type (tyD d)) := by
  cases h with
  | non => exact .base .non
  | bl b => exact .base (.bl b)
  | int i => exact .base (.int i)
  | str x => exact .base (.str x)
  | lst h1 _ =>
    rcases h1 with (h | ⟨o, h⟩) | ⟨o, its, n, hk, hc, _⟩
    · exact .base (.lst h)
    · exact .base (.frz h)
    · exact .kList hk hc
  | tup h1 _ =>
    rcases h1 with (h | ⟨o, h⟩) | ⟨o, its, n, hk, hc, _⟩
    · exact .base (.tup h)
    · exact .fTuple h
    · exact .kTuple hk hc

/-! ### repr of data -/
section
variable {X : Cx}
def rRepr (K : PySem.W.Frag) : List V → Hp → VK → Prop := fun xs H Q => ∃ v d, xs = [v] ∧ Dp K H v d ∧ d.showable = true ∧ d.hasDict = false ∧ d.depth ≤ 60 ∧ d.shown.length ≤ sizeLine ∧ Q (.str d.shown) H
theorem call_repr (hg : X.A.guards = some []) (hu : X.A.units + 64 < cLine) : CallR X (.builtin "repr") (rRepr X.K) := by
  intro pins s σ H xs us Q I r h
  obtain ⟨v, d, rfl, hd, hs, hn, hz, hl, q⟩ := h
  obtain ⟨u, rfl, rv⟩ := r.one
  have fin : ∀ tk t, EP X pins σ Q (.str d.shown t) { s with toks := tk } := fun tk t => ⟨.str _, H, I.tok tk, ⟨t, rfl⟩, q⟩
  obtain ⟨as, rd⟩ := Dp.reads I d v u hd rv
  cases hd with
  | non =>
    cases rv
    simp only [PyData.shown] at fin
    exact PySem.P.repr_of_none (fin _ _)
  | bl b =>
    cases rv
    simp only [PyData.shown] at fin
    exact PySem.P.repr_of_bool (fin _ _)
  | int i =>
    obtain ⟨t, rfl⟩ := rv
    simp only [PyData.shown] at fin
    exact PySem.P.repr_of_int (by simpa [PyData.showable] using hs) (fin _ _)
  | str x =>
    obtain ⟨t, rfl⟩ := rv
    simp only [PyData.shown] at fin hl
    exact PySem.P.repr_of_str (fin _ _) hl
  | lst h1 h2 =>
    cases rv
    exact repr_of_reads' rd hs (PyData.noDict_hsm hn) hg (by omega) (fun _ _ e => e) (fun h' t tk hk => ⟨.str _, H, I.kept hk, ⟨t, rfl⟩, q⟩) hl
  | tup h1 h2 =>
    cases rv
    exact repr_of_reads' rd hs (PyData.noDict_hsm hn) hg (by omega) (fun _ _ e => e) (fun h' t tk hk => ⟨.str _, H, I.kept hk, ⟨t, rfl⟩, q⟩) hl
end
end TX
namespace TX
open PySem PySem.Spec PyProof.Rows L2
/-! ### a def that is called where nothing is being shown (no repr under way) -/
structure FnG (P : Program) (w : World) (K : PySem.W.Frag) (mg : Str → Option Value) (base : Heap) (C : CXT) (k : Nat) (f : Addr) (fd : FuncData) (ps : List Str) (sp : Sp) : Prop where
  len : ∀ vs H Q E, sp vs H Q E → vs.length = ps.length
  go : ∀ (A : Around), A.guards = some [] → ∀ (outer : List Env) (s : Shared) (H : Hp) (args : Args) (us : List Value) (vs : List V) (Q : VK) (E : XK), Room k A → Env0 P w K mg base A outer s H →
    BindsTo s fd args (ps.zip us) → Vals vs us → sp vs H Q E → codeAny (model P w) A (.call (.ref f) args) (CR C outer P w H s Q E) s
section
variable {P : Program} {w : World} {K : PySem.W.Frag} {mg : Str → Option Value} {base : Heap} {C : CXT} {k : Nat} {f : Addr} {fd : FuncData} {N ps : List Str} {sp : Sp}
theorem fng_of {x qual : Str} {st : Stmt} (F : Fun K x qual st f fd) (S : FnScope N ps (defScope st)) (len : ∀ vs H Q E, sp vs H Q E → vs.length = ps.length)
    (hb : ∀ (cdv : Value) (A : Around) (outer : List Env) (s : Shared) (H : Hp) (vs : List V) (Q : VK) (E : XK), A.guards = some [] → Room k (A.deeper (envOfC qual (defScope st) s.heap.objs.size f cdv)) → sp vs H Q E →
      ∃ t, PSs (cxOf CX0 P w K mg base N qual (defScope st) f cdv A outer s H E).nox (defBody st) t ∧ t { nx := fun _ H' => Q .non H', rt := Q } (start N vs) H) : FnG P w K mg base CX0 (k + 1) f fd ps sp := by
  obtain ⟨oc, od, kV, doc, pm, an, cdv, ct, osl, rfl, lk, hcd⟩ := F.ex
  refine ⟨len, fun A hg outer s H args us vs Q E hr e0 hbd r hsp => ?_⟩
  have up : ∀ b o, base.get? b = some o → s.heap.get? b = some o := fun b o e => (e0.bs b o e).1
  have KX : K.In s.heap := e0.mod.kin.keeps up
  have par : ∀ y ∈ ps.zip us, (defScope st).names.lookup y.1 = some .local ∨ ((defScope st).names.lookup y.1 = some .cell ∧ ((cellsFrom (s.heap.objs.size + 1) (defScope st).names []).lookup y.1).isSome = true) := by
    rintro ⟨n, v⟩ hy
    exact (S.par n (List.of_mem_zip hy).1).imp id fun q => ⟨q, PySem.W.cellsFrom_some _ _ _ (.inl q)⟩
  refine codeAny_call_function hr.depth (KX _ _ lk) rfl S.co S.gen rfl (PySem.W.codeRec_of KX hcd) (hbd _ _ _ _ (wpAny_newFunctionEnv_cells S.kind par fun env he s1 x => ?_))
  cases he
  obtain ⟨t, ht, hq⟩ := hb cdv A outer s H vs Q E hg (hr.deeper _) hsp
  refine ⟨(e0.mod.nolimit.keeps up).keeps x.toInCall.keep, codeAny_func (wpAny_mono (ht.nox.run [] s1 (start N vs) H _ (inv_start S hr.hd e0 (len _ _ _ _ hsp) r x) hq) (fun fl s' hs => ?_) fun e s' hs => hs)⟩
  cases fl with
  | next => exact let ⟨σ', H', J, q⟩ := hs; ⟨.non, H', J.os, J.bare, J.base, J.hok, rfl, q⟩
  | ret u => exact let ⟨v, σ', H', J, rv, q⟩ := hs; ⟨v, H', J.os, J.bare, J.base, J.hok, rv, q⟩
  | brk => exact let ⟨_, _, _, q⟩ := hs; False.elim q
  | cont => exact let ⟨_, _, _, q⟩ := hs; False.elim q
theorem deeper_guards {A : Around} {env : Env} : (A.deeper env).guards = A.guards := rfl
end
section
variable {X : Cx} {C : CXT} {k : Nat} {f : Addr} {fd : FuncData} {ps : List Str} {sp : Sp} {dvs : List V} {ds : List Value} {E : XK} {x : Str} {p pos : Pos} {e : Expr} {es : List Expr} {t : TA}
theorem pe_callG (F : FnG X.prog X.w X.K X.mg X.base C k f fd ps sp) (hgd : X.A.guards = some []) (hr : Room k X.A) (hg : Gl X x) (hm : X.mg x = some (.ref f)) (hk : PySem.W.keepIn X.K (.ref f) = true) (hb : Binds X.K fd ps ds) (hd : Vals dvs ds)
    (hx : Passes C X E) (ha : PA X (e :: es) t) (hdb : (x == ("__debug__" : Str)) = false := by decide) (he : starEach (e :: es) X.env = (false, eval e X.env) :: starEach es X.env := by rfl)
    (hpl : (backTo pos (starEach es X.env)).any (·.1) = false := by rfl) : PE X (.Call (.Name x p) (e :: es) [] pos) (tCall sp dvs E t) := by
  refine ⟨fun pins s σ H Q I h => wpAny_Call_Name_kw (ld_glob I hg hm (PySem.W.callWith_K (h₀ := X.base) I.ok.mod.kin hk (thn (ha.run pos pins s σ H _ I h) fun us s1 h1 => ?_) he hpl) hdb)⟩
  obtain ⟨vs, H1, I1, r, q⟩ := h1
  have r2 := r.append hd
  have hl : (us ++ ds).length = ps.length := r2.length.symm.trans (F.len _ _ _ _ q)
  refine ⟨I1.kIn, wpAny_call (codeAny_mono (F.go X.A hgd X.stack s1 H1 ⟨us, []⟩ _ _ _ _ hr I1.env0 (hb s1 us I1.kIn hl) r2 q) fun r s' hq => ?_)⟩
  cases r with
  | error er => exact hx pins σ H1 s1 er s' I1 hq
  | ok fl => cases fl with
    | ret u => exact I1.after hq
    | next => exact hq.elim
    | brk => exact hq.elim
    | cont => exact hq.elim
end
/-- the law's def, called by the claim -/
theorem lawG {P : Program} {w : World} {K : PySem.W.Frag} {mg mb : Str → Option Value} {k : Nat} {fa a : Addr} {fd : FuncData} {x : Str} {sp : Sp} {s₁ : Shared} {vs : List Value} {ns : List Int}
    (KX : K.In s₁.heap) (hns : s₁.heap.Ns mainGlobals mg) (hb : s₁.heap.Ns builtinsNs mb) (hbb : ∀ x : Str, x ≠ "__name__" → mb x = bootBuiltins x) (hlim : s₁.heap.NoLimit) (hg : s₁.gens = #[])
    (ha : s₁.heap.get? a = some { cls := .type "list", data := .seq vs.toArray }) (hi : IntsAre vs ns) (hl : ns.length ≤ sizeLine) (hr : Room k callerA)
    (F : ∀ base : Heap, K.In base → base.Ns mainGlobals mg → FnG P w K mg base CX0 k fa fd [x] sp) (hbind : ∀ (s : Shared) (u : Value), BindsTo s fd ⟨[u], []⟩ [(x, u)])
    (hsp : ∀ H : Hp, Only H → SqL K H a (ns.map V.int) → sp [.ref a] H (fun v _ => v = .bl true) fun _ _ _ => False) :
    codeAny (model P w) callerA (.call (.ref fa) ⟨[.ref a], []⟩) (fun r s' => r = .ok (.ret (.bool true)) ∧ OldK s₁.heap s'.heap ∧ s'.os = s₁.os ∧ AllBare s'.gens) s₁ := by
  have rv := vals_ints hi
  have lenV := hi.length
  have main : ∀ H : Hp, Only H → SqL K H a (ns.map V.int) → HOk P w H s₁.heap → (∀ b, H b ≠ none → b = a) → (H a ≠ none → K.lookup a = none) →
      codeAny (model P w) callerA (.call (.ref fa) ⟨[.ref a], []⟩) (fun r s' => r = .ok (.ret (.bool true)) ∧ OldK s₁.heap s'.heap ∧ s'.os = s₁.os ∧ AllBare s'.gens) s₁ := by
    intro H hO hS hok hA hK
    have atA : ∀ {b : Addr} {u : HO}, H b = some u → b = a := fun q => hA _ (by rw [q]; exact fun z => nomatch z)
    have noD : ∀ {b : Addr} {o : Obj} {es : Array DictEntry} {ep : Nat}, s₁.heap.get? b = some o → o.data = .dict es ep → H b = none := by
      intro b o es ep e d
      cases q : H b with
      | none => rfl
      | some u =>
        cases atA q
        rw [ha] at e
        cases e
        exact absurd d (fun z => nomatch z)
    have nsK : ∀ {b : Addr} {m : Str → Option Value}, s₁.heap.Ns b m → (hidT s₁.heap H).Ns b m := fun ⟨o, es, ep, e, d, r⟩ => ⟨o, es, ep, hidT_get e (noD e d), d, r⟩
    have hKb : K.In (hidT s₁.heap H) := by
      intro b o e
      refine hidT_get (KX b o e) ?_
      cases q : H b with
      | none => rfl
      | some u =>
        cases atA q
        rw [hK (by rw [q]; exact fun z => nomatch z)] at e
        cases e
    have hM : Mod K mg (hidT s₁.heap H) := ⟨hKb, nsK hns, ⟨mb, nsK hb, hbb⟩, let ⟨mc, h1, h2⟩ := hlim; ⟨mc, nsK h1, h2⟩⟩
    have e0 : Env0 P w K mg (hidT s₁.heap H) callerA [] s₁ H := ⟨rfl, hM, fun b o e => of_hidT e, Nat.le_of_eq (hidT_size _ _), trivial, fun b hb => (nomatch hb), hok, .of_eq hg⟩
    refine codeAny_mono ((F _ hKb (nsK hns)).go callerA rfl [] s₁ H ⟨[.ref a], []⟩ [.ref a] [.ref a] _ _ hr e0 (hbind s₁ (.ref a)) (.cons rfl .nil) (hsp H hO hS)) fun r s' h => ?_
    cases r with
    | error e => exact (show False from h).elim
    | ok fl => cases fl with
      | next => exact h.elim
      | brk => exact h.elim
      | cont => exact h.elim
      | ret u =>
        obtain ⟨v, H', os, bare, un, hok', r', q⟩ := h
        cases (show v = .bl true from q)
        cases (show u = Value.bool true from r')
        refine ⟨rfl, OldK.of_keep fun b o e => ?_, os, bare⟩
        cases q : H b with
        | none => exact un.keep b o e q (fun z => nomatch z) (fun z => nomatch z)
        | some u =>
          rcases hO b with z | ⟨ob, xs, z⟩
          · rw [q] at z
            cases z
          · obtain ⟨e1, _⟩ := hok b _ z
            obtain ⟨e2, _⟩ := hok' b _ (un.frzs b ob _ z)
            rw [e] at e1
            cases e1
            exact e2
  cases hk : K.lookup a with
  | some o =>
    have e := KX a o hk
    rw [ha] at e
    cases e
    exact main (fun _ => none) (fun _ => .inl rfl) (.inr ⟨_, vs.toArray, _, hk, rfl, rfl, rfl, by rw [List.size_toArray, lenV]; exact hl, by simpa using rv⟩) (fun b u z => nomatch z) (fun b z => absurd rfl z) fun z => absurd rfl z
  | none =>
    refine main (fun b => if b = a then some (.frz { cls := .type "list", data := .seq vs.toArray } (.lst (ns.map V.int))) else none) (fun b => ?_) (.inl (.inr ⟨{ cls := .type "list", data := .seq vs.toArray }, if_pos rfl⟩)) (fun b u z => ?_) (fun b z => ?_) fun _ => hk
    · by_cases hb : b = a
      · exact .inr ⟨_, _, if_pos hb⟩
      · exact .inl (if_neg hb)
    · by_cases hb : b = a
      · cases hb
        cases (if_pos rfl).symm.trans z
        exact ⟨ha, by rw [List.length_map]; exact hl, vs, _, rv, ha⟩
      · cases (if_neg hb).symm.trans z
    · exact Classical.byContradiction fun hb => z (if_neg hb)
theorem walkG {l : PySem.W.OpenLaw} {n k : Nat} {q : Program} {loose : List Str} {XP : (Str → Option Value) → Heap → Prop} {YP : World → Heap → Prop} {d : DefRec} {K : Params → PySem.W.Frag} {sp : World → Sp} {x : Str}
    (hn : l.most = some n) (hn2 : n ≤ sizeLine) (hdf : d.params.defaults = []) (hr : Room k callerA) (hY : ∀ (w : World) (h : Heap), YP w h → (K w.params).In h)
    (F : ∀ (w : World) (mg : Str → Option Value) (fa : Addr) (h : Heap), (K w.params).In h → h.Ns mainGlobals mg → mg d.name = some (.ref fa) →
      ∃ fd : FuncData, (∀ (s : Shared) (u : Value), BindsTo s fd ⟨[u], []⟩ [(x, u)]) ∧ ∀ base : Heap, (K w.params).In base → base.Ns mainGlobals mg → FnG l.prog w (K w.params) mg base CX0 k fa fd [x] (sp w))
    (hsp : ∀ (w : World) (H : Hp) (a : Addr) (ns : List Int), ns.length ≤ n → Only H → SqL (K w.params) H a (ns.map V.int) → sp w [.ref a] H (fun v _ => v = .bl true) fun _ _ _ => False) :
    PySem.W.WalkO q loose XP YP l.row.toRowW d [] (fun f vs => PySem.call f vs) := by
  refine Att.attach_call hn hdf fun w s₀ s₁ mg mb fa o pm cd doc a vs ns G Y ho hd hcd hmg hobj hints hlen hg => ?_
  obtain ⟨fd, hb, hF⟩ := F w mg fa _ (hY w _ Y) G.T.g hmg
  exact lawG (hY w _ Y) G.T.g G.T.b G.T.builtins G.T.nolimit hg hobj hints (Nat.le_trans hlen hn2) hr hF hb fun H hO hS => hsp w H a ns hlen hO hS
end TX
namespace TX
open PySem PySem.Spec PyProof.Rows L2
section
variable {prog : Program} {w : World} {A : Around} {E : Value → Shared → Prop} {s : Shared}
theorem slAdj_back (n : Nat) : Builtin.Slice.sliceAdjust none none (-1) (n : Int) = ((n : Int) - 1, -1) := rfl
theorem slPl_back (n : Nat) : Builtin.Slice.slicePlaces ((n : Int) - 1) (-1) (-1) = n := by
  unfold Builtin.Slice.slicePlaces
  rw [if_neg (by decide)]
  split
  · have e : -(-1 : Int) = 1 := by decide
    rw [e, Int.ediv_one]
    omega
  · omega
theorem slApp_back {sl : Addr} {n : Nat} {u : Tok} {Q : Int × Int × Nat → Shared → Prop} (hs : s.heap.IsSliceOf sl .none .none (.int (-1) u)) (h : Q ((n : Int) - 1, -1, n) s) :
    wpAny (model prog w) A (Builtin.Slice.sliceApplied (.ref sl) (pure (n : Int))) Q E s := by
  obtain ⟨os, g1, g2, g3⟩ := hs
  unfold Builtin.Slice.sliceApplied Builtin.Slice.sliceFields
  refine wpAny_bind (wpAny_bind (wpAny_field g1 g3 (x := .none) rfl (wpAny_bind (wpAny_field g1 g3 (x := .none) rfl (wpAny_bind (wpAny_field g1 g3 (x := .int (-1) u) rfl (wpAny_pure ?_)))))))
  refine wpAny_bind (slicePart_int ?_)
  show wpAny _ _ (if ((-1 : Int) == 0) = true then _ else _) _ _ s
  rw [if_neg (by decide)]
  refine wpAny_bind (slicePart_none (wpAny_bind (slicePart_none (wpAny_bind (wpAny_pure ?_)))))
  show wpAny _ _ (match Builtin.Slice.sliceAdjust none none (-1) (n : Int) with | (lo, hi) => pure (lo, (-1 : Int), Builtin.Slice.slicePlaces lo hi (-1))) _ _ s
  rw [slAdj_back]
  show wpAny _ _ (pure ((n : Int) - 1, (-1 : Int), Builtin.Slice.slicePlaces ((n : Int) - 1) (-1) (-1))) _ _ s
  rw [slPl_back]
  exact wpAny_pure h
theorem fm_congr {f g : Nat → Option Value} : ∀ l : List Nat, (∀ k ∈ l, f k = g k) → l.filterMap f = l.filterMap g
  | [], _ => rfl
  | k :: l, h => by
    rw [List.filterMap_cons, List.filterMap_cons, h k List.mem_cons_self, fm_congr l fun j hj => h j (List.mem_cons_of_mem _ hj)]
theorem pick_back (l : List Value) : ((List.range l.length).filterMap fun (k : Nat) => l.toArray[(((l.length : Nat) : Int) - 1 + (k : Int) * (-1)).toNat]?) = l.reverse := by
  have e : ∀ k ∈ List.range l.length, (fun (k : Nat) => l.toArray[(((l.length : Nat) : Int) - 1 + (k : Int) * (-1)).toNat]?) k = (some ∘ fun k => (l.reverse[k]?).getD .none) k := by
    intro k hk
    have hk' := List.mem_range.mp hk
    have e1 : (((l.length : Nat) : Int) - 1 + (k : Int) * (-1)).toNat = l.length - 1 - k := by omega
    show l.toArray[(((l.length : Nat) : Int) - 1 + (k : Int) * (-1)).toNat]? = some ((l.reverse[k]?).getD .none)
    rw [e1, List.getElem?_toArray, List.getElem?_reverse (by omega), List.getElem?_eq_getElem (by omega)]
    rfl
  rw [fm_congr _ e, List.filterMap_eq_map]
  apply List.ext_getElem?
  intro i
  rw [List.getElem?_map]
  by_cases h : i < l.length
  · rw [List.getElem?_range h, List.getElem?_eq_getElem (by simpa using h)]
    simp [List.getElem?_eq_getElem, h]
  · rw [List.getElem?_eq_none (by simpa using h), List.getElem?_eq_none (by simpa using h)]
    rfl
/-- t[::-1] of a tuple -/
theorem getItem_tuple_back {t sl : Addr} {items : List Value} {u : Tok} {Q : Value → Shared → Prop} (ht : IsTup s.heap t items.toArray) (hs : s.heap.IsSliceOf sl .none .none (.int (-1) u))
    (h : Q (.ref s.heap.objs.size) { s with heap := s.heap.push { cls := .type "tuple", data := .seq items.reverse.toArray } }) (hsz : items.length ≤ sizeLine) : wpAny (model prog w) A (getItem (.ref t) (.ref sl)) Q E s := by
  have hTs : s.TypeIs (.ref sl) "slice" := let ⟨os, g1, g2, _⟩ := hs; ⟨os, g1, g2⟩
  have hfit : sizeOk (.seq items.reverse.toArray) := by
    show items.reverse.toArray.size ≤ sizeLine
    rw [List.size_toArray, List.length_reverse]
    exact hsz
  unfold getItem
  try with_reducible refine wpAny_holding ?_
  first | refine wpAny_bind (wpAny_pure ?_) | skip
  refine wpAny_bind (wpAny_sequenceKey ht.typeIs (by decide) ?_)
  refine wpAny_bind (wpAny_callSpecial?_slot (name := Str.ofString "__getitem__") ht.typeIs PyProof.Rows.slot_tuple_getitem (wpAny_call_entry PyProof.Rows.slot_tuple_getitem ht.typeIs entry_tuple_getitem ?_ (args_tuple_getitem _ _)))
  show wpAny _ _ (Builtin.Tuple.tupleItemsOf (.ref t) >>= _) _ _ s
  refine wpAny_bind (tupleItemsOf_ ht (wpAny_bind (wpAny_typeOf hTs ?_)))
  rw [if_pos (by decide)]
  refine wpAny_bind (slApp_back hs ?_)
  have no : ¬ ((((items.toArray.size : Nat) : Int) - 1 == 0 && (-1 : Int) == 1 && items.toArray.size == items.toArray.size) = true) := by
    intro q
    rw [Bool.and_eq_true, Bool.and_eq_true] at q
    exact absurd (eq_of_beq q.1.2) (by decide)
  show wpAny _ _ (if (((items.toArray.size : Nat) : Int) - 1 == 0 && (-1 : Int) == 1 && items.toArray.size == items.toArray.size) = true then _ else _) _ _ s
  rw [if_neg no]
  have e : ((List.range items.toArray.size).filterMap fun (k : Nat) => items.toArray[(((items.toArray.size : Nat) : Int) - 1 + (k : Int) * (-1)).toNat]?) = items.reverse := by
    rw [List.size_toArray]
    exact pick_back items
  rw [e]
  first
    | exact wpAny_bind (m := Builtin.Tuple.tupleExact _) (wpAny_newObj_type (wpAny_pure ⟨_, rfl, wpAny_pure h⟩) hfit)
    | exact wpAny_bind (m := Builtin.Tuple.tupleExact _) (wpAny_newObj_type (wpAny_bind (wpAny_pure (wpAny_pure ⟨_, rfl, wpAny_pure h⟩))) hfit)
    | exact wpAny_bind (wpAny_bind (m := Builtin.Tuple.tupleExact _) (wpAny_newObj_type (wpAny_pure (wpAny_pure ⟨_, rfl, wpAny_pure h⟩)) hfit))
    | exact wpAny_bind (wpAny_bind (m := Builtin.Tuple.tupleExact _) (wpAny_newObj_type (wpAny_pure ⟨_, rfl, wpAny_pure h⟩) hfit))
end
section
variable {X : Cx}
def tRevT (K : PySem.W.Frag) (te : TE) : TE := fun σ H Q => te σ H fun x H1 => ∃ a xs, x = .ref a ∧ SqT K H1 a xs ∧ ∀ p, H1 p = none → Q (.ref p) (upd H1 p (.tup xs.reverse))
theorem pe_revT {e : Expr} {te : TE} {k : Nat} {p1 p2 p3 pos : Pos} (he : PE X e te) : PE X (.Subscript e (.Slice none none (some (.UnaryOp .USub (.Constant (.int 1) k p1) p2)) p3) pos) (tRevT X.K te) := by
  refine ⟨fun pins s σ H Q I h => Subscript_ (thn (he.run pins s σ H _ I h) fun v s1 ⟨x, H1, I1, r1, a, xs, ex, hx, q⟩ => ?_)⟩
  subst ex
  cases r1
  have hst : PO X (some (.UnaryOp .USub (.Constant (.int 1) k p1) p2)) (tPart (tUn (rU fun i => .int (-i)) (tC (.int 1)))) := po_some (pe_un un_neg pe_int)
  refine wpAny_Slice (thn (po_none.run pins s1 σ H1 (fun o H2 => o = none ∧ H2 = H1) I1 ⟨rfl, rfl⟩) fun vl s2 ⟨l, H2, I2, pl, el, e2⟩ => ?_)
  subst el e2
  refine thn (po_none.run pins s2 σ H2 (fun o H3 => o = none ∧ H3 = H2) I2 ⟨rfl, rfl⟩) fun vu s3 ⟨u, H3, I3, pu, eu, e3⟩ => ?_
  subst eu e3
  refine thn (hst.run pins s3 σ H3 (fun o H4 => o = some (-1) ∧ H4 = H3) I3 ⟨1, rfl, -1, rfl, rfl, rfl⟩) fun vs s4 ⟨o, H4, I4, ps, eo, e4⟩ => ?_
  subst eo e4
  have I5 : Inv X pins σ H4 { s4 with heap := s4.heap.push { cls := .type "slice", data := .fields #[vl, vu, vs] } } := I4.kept (t' := s4.toks) fun b ob q => Heap.get?_push_of_some _ q
  obtain ⟨its, r, ht, hz⟩ := I5.tuple hx
  have hlen := r.length
  cases pl
  cases pu
  obtain ⟨tk, rfl⟩ : ∃ tk, vs = .int (-1) tk := by
    cases ps
    exact ⟨_, rfl⟩
  show wpAny (model X.prog X.w) X.A (subscriptTail e (.Slice none none (some (.UnaryOp .USub (.Constant (.int 1) k p1) p2)) p3) (.ref a) (.ref s4.heap.objs.size)) (EP X pins σ Q) X.xe { s4 with heap := s4.heap.push { cls := .type "slice", data := .fields #[.none, .none, .int (-1) tk] } }
  refine tail_any (ops := [.ref a, .ref s4.heap.objs.size]) ht.typeIs PyProof.Rows.slot_tuple_getitem.lookup ?_ (by with_unfolding_all rfl)
  refine getItem_tuple_back ht (Heap.IsSliceOf.new _ _ _ _) ?_ (by omega)
  refine ⟨.ref _, _, I5.laid (t' := s4.toks) (o := .tup xs.reverse) (fun b ob q => Heap.get?_push_of_some _ q) (Nat.le_refl _) ?_, rfl, q _ (I5.hok.fresh (Nat.le_refl _))⟩
  exact ⟨by rw [List.length_reverse]; exact hz, _, r.reverse, ⟨_, Heap.get?_push_size _ rfl, rfl, _, rfl⟩⟩
end
theorem ext_tup (l : Addr) (items : Array Value) (n : Nat) (b : Addr) (items2 : Array Value) (n2 : Nat) (dd : Option Addr) (sl : Array (Option Value)) (hs0 : ¬(!items.isEmpty && Builtin.List.listTooLong (items.size + items2.size)) = true)
    (hs1 : items.size ≤ sizeLine) (hs2 : items.size + items2.size ≤ sizeLine + 1) :
    Meets (Builtin.«list.extend» ⟨[.ref l, .ref b], []⟩) (fun _ R s => s.heap.get? l = some { cls := .type "list", dict := none, data := .seq items n, slots := #[] } ∧ s.heap.get? b = some { cls := .type "tuple", dict := dd, data := .seq items2 n2, slots := sl } ∧
      R (.ok (.ret Value.none)) { s with heap := s.heap.update l (Obj.mapSeq fun x => x ++ items2), toks := s.toks }) :=
  .of_wp fun prog w A R s h => by
    obtain ⟨hp, g, d, tk, os⟩ := s
    obtain ⟨hl, hb, h⟩ := h
    have f1 := AutoSeq1.idx_int
    have f2 := AutoSeq1.sub_tuple_tuple
    have f3 := AutoSeq1.sub_list_list
    have f4 := AutoSeq1.sub_tuple_list
    have f5 := AutoSeq1.sub_list_tuple
    have hz' : (items ++ items2).size ≤ sizeLine + 1 := by
      rw [Array.size_append]
      exact hs2
    wp_walk using (wpAny_updateSeq hl rfl (hz := hs1) (_hz' := hz')), AutoSeq1.wpAny_loadPart' hl, AutoSeq1.wpAny_loadPart' hb
    exact ⟨_, rfl, h⟩
section
variable {X : Cx}
def rExtT (K : PySem.W.Frag) : V → List V → Hp → VK → Prop := fun x vs H Q => ∃ l b xs zs, x = .ref l ∧ vs = [.ref b] ∧ H l = some (.lst xs) ∧ SqT K H b zs ∧ xs.length + zs.length ≤ sizeLine ∧ Q .non (upd H l (.lst (xs ++ zs)))
theorem mt_extT : MtM X "list.extend" (rExtT X.K) := by
  intro pins s σ H x vs v us Q I rx rv h
  obtain ⟨l, b, xs, zs, rfl, rfl, hH, hB, hz, q⟩ := h
  cases rx
  obtain ⟨u, rfl, ru⟩ := rv.one
  cases ru
  obtain ⟨z, its, n, r, hl, e⟩ := I.lstM hH
  obtain ⟨its2, r2, ⟨⟨cls, dd, data, sl⟩, e2, hc, n2, hd⟩, hz2⟩ := I.tuple hB
  simp only at hc hd
  subst hc hd
  have hl2 := r2.length
  have hsz : its.toArray.size + its2.toArray.size ≤ sizeLine := by
    rw [List.size_toArray, List.size_toArray]
    omega
  have hlong : ¬ (!its.toArray.isEmpty && Builtin.List.listTooLong (its.toArray.size + its2.toArray.size)) = true := by
    rw [notLongL hsz, Bool.and_false]
    exact Bool.false_ne_true
  refine call_meets F.slot_list_extend ⟨_, e, rfl⟩ F.entry_list_extend (F.args_list_extend_2 _ _) (ext_tup l its.toArray n b its2.toArray n2 dd sl hlong (by rw [List.size_toArray]; omega) (by omega)) ⟨e, e2, ?_⟩
  refine ⟨.non, _, I.lset (its' := its ++ its2) hH e (by simp) (r.append r2) ?_, rfl, q⟩
  rw [List.length_append]
  omega
end
end TX
namespace TX
open PySem PySem.Spec PySem.Calls PyProof.Rows L2
open PySem.W (Frag InstAt findIn subIn hasDictIn specialIn takesIn mroIn clsIn Looks looks_findIn looks_find looks_subIn KitX)
section
variable {prog : Program} {w : World} {A : Around} {E : Value → Shared → Prop} {s : Shared} {K : Frag} {x D : Addr} {ox : Obj} {od : Option Obj}
theorem clsSome {D : Addr} (h : hasDictIn K D = true) : (clsIn K D).isSome = true := by
  unfold hasDictIn at h
  cases e : clsIn K D with
  | none => rw [e] at h; cases h
  | some c => rfl
theorem findData {C : Addr} {name : Str} {a g : Value} (hc : (clsIn K C).isSome = true) (ha : findIn K (.ref C) name = some (some a)) (hg : specialIn K a "__get__" = some (some g)) (ht : takesIn K a = some true) :
    PySem.W.findObj K C od name = some (.bind g a) := by
  obtain ⟨cd, hc⟩ := Option.isSome_iff_exists.mp hc
  simp [PySem.W.findObj, hc, ha, hg, ht]
/-- e.__class__ of an exception of an own class, with or without a dict of its own -/
theorem classOf {Q : Option Value → Shared → Prop} (T : ExcC K D) (X : K.In s.heap) (I : InstAt s.heap x ox D od) (h : Q (some (.ref D)) { s with toks := s.toks + 1 }) : wpAny (model prog w) A (getAttr? (.ref x) "__class__") Q E s := by
  have hf : PySem.W.findObj K D od "__class__" = some (.bind (.builtin "getset_descriptor.__get__") (.builtin "object.__class__")) := findData (clsSome T.hd) T.ha T.hn T.ht
  obtain ⟨hp, g, d, t, os⟩ := s
  have L0 := I.type (M := model prog w)
  have L1 := looks_findIn (M := model prog w) X T.hg
  have L2 := looks_findIn (M := model prog w) X T.hk
  have L3 := looks_find (M := model prog w) X I hf
  have sub : Looks (model prog w) hp (isInstance (.ref x) (.type "BaseException")) true := L0.andThen (looks_subIn X T.hs)
  have n0 : (false && onTheHeap (Value.builtin "BaseException.__getattribute__")) = false := rfl
  have n2 : (Value.builtin "BaseException.__getattribute__" == Value.builtin "object.__getattribute__") = false := by decide +kernel
  have n1 : (onTheHeap (Value.ref D) && Value.builtin "BaseException.__getattribute__" == Value.builtin "object.__getattribute__") = false := by
    rw [n2]
    rfl
  unfold getAttr? getAttrBy? getAttrBy
  refine wpAny_bind (wpAny_mkText (wpAny_bind (wpAny_attempt (wpAny_holding (wpAny_bind (L0.at (wpAny_bind (L1.at ?_))))))))
  show wpAny _ _ (if (onTheHeap (Value.ref D) && Value.builtin "BaseException.__getattribute__" == Value.builtin "object.__getattribute__") = true then _ else _) _ _ _
  rw [n1, if_neg Bool.false_ne_true]
  unfold getAttrByItsOwn hookBefore
  refine wpAny_bind ?_
  rw [if_pos (show onTheHeap (Value.ref D) = true from rfl)]
  refine L2.at (wpAny_bind (wpAny_attempt (wpAny_holding ?_)))
  unfold callGetattribute
  rw [n0, if_neg Bool.false_ne_true]
  unfold boundAndCalled
  rw [PySem.F.excAttr_ValueError.ga.bind (.ref x)]
  refine wpAny_bind (wpAny_pure ?_)
  show wpAny _ _ (call (.builtin "BaseException.__getattribute__") [.ref x, .str "__class__" t]) _ _ _
  refine wpAny_call (codeAny_call_builtin PySem.F.excAttr_ValueError.ga.plain PySem.F.entry_bexc_ga ?_)
  refine @PySem.W.check_slot (model prog w) _ _ ⟨hp, g, d, t + 1, os⟩ "BaseException.__getattribute__" "BaseException" "__getattribute__" (.ref x) [.str "__class__" t] [] _ (by decide +kernel) (by decide +kernel) sub (PySem.F.args_bexc_ga (.ref x) (.str "__class__" t)) ?_
  unfold Builtin.«object.__getattribute__»
  refine wpAny_bind (wpAny_of_eq (a := ((Value.ref x : Value), [Value.str "__class__" t])) (by first | rfl | (simp only [slotArgs]; rfl)) ?_)
  refine wpAny_bind (wpAny_pure (wpAny_bind (L0.at (wpAny_bind (L3.at ?_)))))
  show wpAny _ _ (holding [Value.builtin "object.__class__"] (call (.builtin "getset_descriptor.__get__") [.builtin "object.__class__", .ref x, .ref D]) >>= ret) _ _ _
  refine wpAny_bind (wpAny_holding (wpAny_call (PySem.W.class_get (s := ⟨hp, g, d, t + 1, os⟩) (ox := ox) (od := od) X I T.hm (wpAny_pure ?_))))
  show wpAny _ _ (handedOut (.ref D)) _ _ _
  rw [PySem.W.handedOut_of (v := .ref D) rfl]
  first
    | exact wpAny_pure (wpAny_pure h)
    | exact wpAny_pure h
    | exact wpAny_pure (wpAny_bind (wpAny_pure (wpAny_pure h)))
theorem kitE (T : ExcC K D) : KitX K (.ref x) (.ref D) (fun h => InstAt h x ox D od) where
  ty := fun _ _ _ I => I.type
  it := fun _ _ X _ => by
    obtain ⟨cd, hc⟩ := Option.isSome_iff_exists.mp (clsSome T.hd)
    unfold clsIn at hc
    split at hc
    · rename_i c' d' cd' sl' ho
      intro A' Q' E' s' k q
      unfold isType loadHead
      exact wpAny_bind (wpAny_loadPart (k _ _ (X _ _ ho)) (wpAny_pure q))
    · cases hc
  ne := fun h tp dd its n sl X htp => by
    obtain ⟨cd, hc⟩ := Option.isSome_iff_exists.mp (clsSome T.hd)
    refine Bool.eq_false_iff.mpr fun q => ?_
    have e : D = tp := Value.ref.inj (beq_iff_eq.mp q)
    subst e
    unfold clsIn at hc
    split at hc
    · rename_i c' d' cd' sl' ho
      have z := (X _ _ ho).symm.trans htp
      cases z
    · cases hc
  ca := fun X I k => classOf T X I k
end
/-- the exception that the suite holds, as the state has it -/
theorem atE {X : Cx} {pins : List (Addr × Obj)} {σ : L2.St} {H : Hp} {s : Shared} {a D : Addr} {oe : Obj} {d : Option Addr} {pn : List (Addr × Obj)} (I : Inv (X.suite a ((a, oe) :: pn)) pins σ H s) (hz : Zc (.ref D) d oe) (hf : ∃ vs, oe.data = .fields vs)
    (hd : ∀ dd, d = some dd → ∃ fs, H dd = some (.xd fs)) : ∃ od, InstAt s.heap a oe D od := by
  obtain ⟨hget, _⟩ := I.pin (a, oe) (List.mem_append.mpr (.inl List.mem_cons_self))
  obtain ⟨vs, hv⟩ := hf
  obtain ⟨oc, odd, oda, osl⟩ := oe
  obtain ⟨h1, h2⟩ := hz
  dsimp only at h1 h2 hv
  subst h1 h2 hv
  cases odd with
  | none => exact ⟨none, hget, rfl, rfl, trivial⟩
  | some dd =>
    obtain ⟨fs, hx⟩ := hd dd rfl
    have ob : ObjOk X.prog X.w H s.heap dd (.xd fs) := I.hok dd _ hx
    obtain ⟨mA, ⟨o, es, ep, ho, _⟩, _⟩ := ob
    exact ⟨some o, hget, rfl, rfl, ho⟩
/-- isinstance(e, c) -/
def rIsE2 (K : Frag) (D a : Addr) (d : Option Addr) : List V → Hp → VK → Prop := fun xs H Q => ∃ (c : V) (cv : Value) (b : Bool), xs = [.ref a, c] ∧ ClsV c cv ∧ PySem.W.kitOne K (.ref D) cv = some b ∧ (∀ dd, d = some dd → ∃ fs, H dd = some (.xd fs)) ∧ Q (.bl b) H
theorem call_isE2 {X : Cx} {a D : Addr} {oe : Obj} {d : Option Addr} {pn : List (Addr × Obj)} (C : ExcC X.K D) (hz : Zc (.ref D) d oe) (hf : ∃ vs, oe.data = .fields vs) : CallR (X.suite a ((a, oe) :: pn)) (.builtin "isinstance") (rIsE2 X.K D a d) := by
  intro pins s σ H xs us Q I r h
  obtain ⟨c, cv, b, rfl, hcv, e, hd, q⟩ := h
  obtain ⟨u1, u2, rfl, r1, r2⟩ := vals2 r
  cases (show u1 = Value.ref a from r1)
  cases hcv.eq r2
  obtain ⟨od, J⟩ := atE I hz hf hd
  exact PySem.W.kia_one (kitE C) I.kIn J e (fun z => nomatch z) fun tk => ⟨.bl b, H, I.tok tk, rfl, q⟩
/-- isinstance(e, (c1, c2, ..)) -/
def rIsET (K : Frag) (D a : Addr) (d : Option Addr) : List V → Hp → VK → Prop := fun xs H Q => ∃ (tp : Addr) (cs : List V) (us : List Value) (b : Bool), xs = [.ref a, .ref tp] ∧ H tp = some (.tup cs) ∧ Paired ClsV cs us ∧ PySem.W.kitAny K (.ref D) us = some b ∧
  (∀ dd, d = some dd → ∃ fs, H dd = some (.xd fs)) ∧ Q (.bl b) H
theorem call_isET {X : Cx} {a D : Addr} {oe : Obj} {d : Option Addr} {pn : List (Addr × Obj)} (C : ExcC X.K D) (hz : Zc (.ref D) d oe) (hf : ∃ vs, oe.data = .fields vs) : CallR (X.suite a ((a, oe) :: pn)) (.builtin "isinstance") (rIsET X.K D a d) := by
  intro pins s σ H xs us Q I r h
  obtain ⟨tp, cs, ws, b, rfl, hT, k, e, hd, q⟩ := h
  obtain ⟨u1, u2, rfl, r1, r2⟩ := vals2 r
  cases (show u1 = Value.ref a from r1)
  cases (show u2 = Value.ref tp from r2)
  obtain ⟨_, its, rv, o, h1, h2, n, h3⟩ := (show ObjOk X.prog X.w H s.heap tp (.tup cs) from I.hok tp _ hT)
  cases ClsV.all k rv
  obtain ⟨oc, odd, dt, sl⟩ := o
  simp only at h2 h3
  subst h2 h3
  obtain ⟨od, J⟩ := atE I hz hf hd
  exact PySem.W.kia_tup (kitE C) I.kIn J h1 e (fun z => nomatch z) fun tk => ⟨.bl b, H, I.tok tk, rfl, q⟩
/-! ### X(), an own exception class whose __init__ stores nothing -/
def tMkN (C : Addr) (sp : Sp) : L2.St → Hp → XK → Prop := fun _ H Q => ∀ a, H a = none → sp [.ref a] (upd H a (exo a C none)) (fun v H2 => v = .non ∧ H2 a = some (exo a C none) ∧ Q (.ref C) none (del H2 a)) (fun _ _ _ => False)
theorem pmk_oexN {X : Cx} {CX : CXT} {x : Str} {C fI : Addr} {k : Nat} {fd : FuncData} {ps : List Str} {sp : Sp} {p pos : Pos} (T : OexC X.K C) (iC : findIn X.K (.ref C) "__init__" = some (some (.ref fI))) (tI : PySem.W.typeIn X.K (.ref fI) = some (.type "function"))
    (F1 : FnOk X.prog X.w X.K X.mg X.base CX k fI fd ps sp) (hr : Room (k + 1) X.A) (hb : Binds X.K fd ps []) (hx : Passes CX X (fun _ _ _ => False)) (hg : Gl X x) (hm : X.mg x = some (.ref C)) (hdb : (x == ("__debug__" : Str)) = false := by decide) :
    PMk X (.Call (.Name x p) [] [] pos) (tMkN C sp) := by
  intro pins s σ H Q I h
  obtain ⟨nm, q, N, bs, bm, sn, sub, ab, col, dd, k0, k1, k2, k3, k5, hC, hbm⟩ := T.cls
  refine wpAny_Call_Name_kw (ld_glob I hg hm (PySem.W.callWith_K0 I.kIn T.kC ?_) hdb)
  obtain ⟨hp, g, dr, tk, os⟩ := s
  have hsz : hp.objs.size ≤ hp.objs.size + 1 := Nat.le_succ _
  have hn : H (hp.objs.size + 1) = none := I.hok.fresh hsz
  have hq := h (hp.objs.size + 1) hn
  have kk : ∀ b o, hp.get? b = some o → ((hp.push (PySem.W.kdv_tup [])).push (PySem.HandSPX.excO C hp.objs.size)).get? b = some o := fun b o e => Heap.get?_push_of_some _ (Heap.get?_push_of_some _ e)
  have hget : ((hp.push (PySem.W.kdv_tup [])).push (PySem.HandSPX.excO C hp.objs.size)).get? (hp.objs.size + 1) = some (PySem.HandSPX.excO C hp.objs.size) := by heap_get
  have I2 : Inv X pins σ (upd H (hp.objs.size + 1) (exo (hp.objs.size + 1) C none)) ⟨(hp.push (PySem.W.kdv_tup [])).push (PySem.HandSPX.excO C hp.objs.size), g, dr, tk, os⟩ :=
    I.laid (t' := tk) (a := hp.objs.size + 1) (o := exo (hp.objs.size + 1) C none) (h' := (hp.push (PySem.W.kdv_tup [])).push (PySem.HandSPX.excO C hp.objs.size)) kk hsz (exo_ok hget)
  have r2 : Vals [V.ref (hp.objs.size + 1)] [Value.ref (hp.objs.size + 1)] := .cons rfl .nil
  have hl : ([Value.ref (hp.objs.size + 1)] ++ ([] : List Value)).length = ps.length := (F1.len _ _ _ _ hq).symm ▸ rfl
  refine wpAny_call (PySem.HandSPX.call_own F.excBase_ValueError (fun Y => PySem.HandSPX.refsVE_contains Y bm hbm) (I.kIn _ _ hC) (looks_findIn I.kIn iC) (fun self => PySem.W.bind_fn I.kIn self tI) (by show 0 ≤ sizeLine; exact Nat.zero_le _)
    (codeAny_mono (F1.run _ X.stack _ _ ⟨[Value.ref (hp.objs.size + 1)], []⟩ [Value.ref (hp.objs.size + 1)] _ _ (fun _ _ _ => False) (hr.make C [] []) (I2.env0.make C [] []) (hb _ [Value.ref (hp.objs.size + 1)] I2.kIn hl) r2 hq) fun r s' hq' => ?_))
  cases r with
  | error er => exact hx pins σ _ _ er s' I2 hq'
  | ok fl => cases fl with
    | next => exact False.elim hq'
    | brk => exact False.elim hq'
    | cont => exact False.elim hq'
    | ret u =>
      obtain ⟨v, H2, os2, bare2, un2, hok2, rv, ev, ea, q2⟩ := hq'
      subst ev
      refine ⟨rv, ?_⟩
      obtain ⟨h2, g2, d2, t2, os'⟩ := s'
      generalize hA : hp.objs.size + 1 = a at *
      obtain ⟨t0, hoe⟩ := exo_at hok2 ea
      obtain ⟨G, g1', g2'⟩ := restrict h2 fun b => decide (b ≠ a)
      have gk : ∀ b, b ≠ a → G.get? b = h2.get? b := fun b hb => g1' b (decide_eq_true hb)
      have ge : G.get? a = none := g2' a (by simp)
      have nha : ∀ {b : Addr} {o : Obj}, hp.get? b = some o → b ≠ a := fun {b o} z => Nat.ne_of_lt (Nat.lt_of_lt_of_le (Heap.lt_size z) hsz)
      have up : ∀ {b : Addr}, b ≠ a → H b = none → upd H a (exo a C none) b = none := fun {b} hb n => by
        rw [upd_ne hb]
        exact n
      have U : Un (frs X.stack) [] H (del H2 a) hp G := {
        keep := fun b o z n hf hx => (gk b (nha z)).trans (un2.keep b o (kk b o z) (up (nha z) n) hf hx)
        slot := fun b o z n hf hx => by
          rw [gk b (nha z)]
          exact un2.slot b o (kk b o z) (up (nha z) n) hf hx
        free := fun b o z n hx => by
          rw [del_ne (nha z)]
          exact un2.free b o (kk b o z) (up (nha z) n) hx
        there := fun b o z hx => by
          rw [gk b (nha z)]
          exact un2.there b o (kk b o z) hx
        tups := fun b xs z => by
          rw [del_ne (ne_of_none z hn)]
          exact un2.tups b xs (by rw [upd_ne (ne_of_none z hn)]; exact z)
        frzs := fun b o v z => by
          rw [del_ne (ne_of_none z hn)]
          exact un2.frzs b o v (by rw [upd_ne (ne_of_none z hn)]; exact z)
        tbls := fun b ps z => by
          rw [del_ne (ne_of_none z hn)]
          exact un2.tbls b ps (by rw [upd_ne (ne_of_none z hn)]; exact z) }
      have hok3 : HOk X.prog X.w (del H2 a) G := fun b o z => by
        have hba : b ≠ a := fun e => by
          rw [e, del_same] at z
          cases z
        rw [del_ne hba] at z
        have noa : ∀ {c : Addr}, H2 c = some (.own b) → c ≠ a := fun {c} hc => at_ne ea hc exo_own
        refine (hok2 b o z).stay (fun c v hc y => ?_) (fun c hc => by rw [del_ne (noa hc)]; exact hc) (fun c xs hc => by rw [del_ne (at_ne ea hc exo_tup)]; exact hc)
        have hca : c ≠ a := hc.elim (fun e => e ▸ hba) noa
        exact (gk c hca).trans y
      have J : Inv X pins σ (del H2 a) ⟨G, g2, d2, t2, os'⟩ := I.call' (ch := []) os2 U hok3 bare2 (fun b z => absurd z (by simp))
      refine ⟨a, _, _, ⟨G, g2, d2, t2, os'⟩, _, .ref C, none, rfl, J, fun b o z => ?_, ge, hoe, ⟨rfl, rfl⟩, rfl, rfl, del_same, rfl, bare2, raises_own T.exC T.tyC, q2⟩
      by_cases hba : b = a
      · rw [hba] at z
        have z' : G.get? a = some o := z
        rw [ge] at z'
        cases z'
      · exact (gk b hba).symm.trans z
end TX
namespace TX
open PySem PySem.Spec PyProof.Rows L2
def top (i : Nat) : Stmt := PySem.Challenge.pw_textorlist_k14_whole_entries_by_a_model.main.body.getD i (.Pass ⟨0, 0, 0, 0⟩)
abbrev sParts : Stmt := top 1
abbrev sCopy : Stmt := top 2
abbrev s_outline_of : Stmt := top 3
abbrev s_shown : Stmt := top 4
abbrev cTextorlistError : Stmt := top 6
abbrev cBadValue : Stmt := top 7
abbrev mBadValue_init : Stmt := inClass (top 7) 0
abbrev mBadValue_str : Stmt := inClass (top 7) 1
abbrev cNoEntry : Stmt := top 8
abbrev mNoEntry_init : Stmt := inClass (top 8) 0
abbrev mNoEntry_str : Stmt := inClass (top 8) 1
abbrev cNotText : Stmt := top 9
abbrev mNotText_init : Stmt := inClass (top 9) 0
abbrev mNotText_str : Stmt := inClass (top 9) 1
abbrev s_is_whole_number : Stmt := top 12
abbrev s_is_text : Stmt := top 13
abbrev s_place_of_last : Stmt := top 14
abbrev s_first_fault : Stmt := top 15
abbrev s_check_value : Stmt := top 16
abbrev s_is_value : Stmt := top 17
abbrev s_entries_of : Stmt := top 19
abbrev s_check_index : Stmt := top 20
abbrev cEntries : Stmt := top 21
abbrev mEntries_init : Stmt := inClass (top 21) 0
abbrev mEntries_of : Stmt := inClass (top 21) 1
abbrev mEntries_add : Stmt := inClass (top 21) 2
abbrev mEntries_radd : Stmt := inClass (top 21) 3
abbrev mEntries_iadd : Stmt := inClass (top 21) 4
abbrev mEntries_mul : Stmt := inClass (top 21) 5
abbrev mEntries_rmul : Stmt := inClass (top 21) 6
abbrev mEntries_len : Stmt := inClass (top 21) 7
abbrev mEntries_bool : Stmt := inClass (top 21) 8
abbrev mEntries_contains : Stmt := inClass (top 21) 9
abbrev mEntries_getitem : Stmt := inClass (top 21) 10
abbrev mEntries_setitem : Stmt := inClass (top 21) 11
abbrev mEntries_set_entry : Stmt := inClass (top 21) 12
abbrev mEntries_iter : Stmt := inClass (top 21) 13
abbrev mEntries_eq : Stmt := inClass (top 21) 14
abbrev mEntries_repr : Stmt := inClass (top 21) 15
abbrev mEntries_listed : Stmt := inClass (top 21) 16
abbrev mEntries_packed : Stmt := inClass (top 21) 17
abbrev mEntries_joined : Stmt := inClass (top 21) 18
abbrev mEntries_flat : Stmt := inClass (top 21) 19
abbrev sBag : Stmt := top 23
abbrev sTake : Stmt := top 24
abbrev sText : Stmt := top 25
abbrev sSize : Stmt := top 26
abbrev sValue : Stmt := top 27
abbrev s__law_entries : Stmt := top 28
abbrev s__law_copy : Stmt := top 29
abbrev sSpoil : Stmt := top 30
abbrev s__law_is_refused : Stmt := top 31
abbrev s__law_is_right : Stmt := top 32
abbrev s__law_step : Stmt := top 33
abbrev sLaw : Stmt := top 34
end TX
namespace TX
open PySem PySem.Spec PyProof.Rows L2
/-! ### the walk over data: a step takes the first of the parts that wait -/
inductive Stp (K : PySem.W.Frag) (H : Hp) : List V × List PyData → V → List V × List PyData → Prop
  | leaf {v : V} {d : PyData} {r : List V} {rd : List PyData} : Dp K H v d → (tyD d == "list" || tyD d == "tuple") = false → Stp K H (v :: r, d :: rd) v (r, rd)
  | lst {a : Addr} {xs r : List V} {es rd : List PyData} : SqL K H a xs → DpAll K H xs es → Stp K H (.ref a :: r, .list es :: rd) (.ref a) (xs ++ r, es ++ rd)
  | tup {a : Addr} {xs r : List V} {es rd : List PyData} : SqT K H a xs → DpAll K H xs es → Stp K H (.ref a :: r, .tuple es :: rd) (.ref a) (xs ++ r, es ++ rd)
/-- the parts so far, the last one first -/
inductive Path (K : PySem.W.Frag) (H : Hp) (S0 : List V × List PyData) : List V → List V × List PyData → Prop
  | nil : Path K H S0 [] S0
  | cons {rs : List V} {S S' : List V × List PyData} {p : V} : Path K H S0 rs S → Stp K H S p S' → Path K H S0 (p :: rs) S'
theorem isLT (d : PyData) (K : PySem.W.Frag) : PySem.W.kitAny K (.type (tyD d)) [.type "list", .type "tuple"] = some (tyD d == "list" || tyD d == "tuple") := by
  cases d with
  | none => exact kitAny_cons (b := false) (kit_ty (a := "NoneType") (b := "list") (by decide +kernel)) (fun _ => kitAny_cons (b := false) (kit_ty (a := "NoneType") (b := "tuple") (by decide +kernel)) (fun _ => kitAny_nil) (fun z => nomatch z)) (fun z => nomatch z)
  | bool _ => exact kitAny_cons (b := false) (kit_ty (a := "bool") (b := "list") (by decide +kernel)) (fun _ => kitAny_cons (b := false) (kit_ty (a := "bool") (b := "tuple") (by decide +kernel)) (fun _ => kitAny_nil) (fun z => nomatch z)) (fun z => nomatch z)
  | int _ => exact kitAny_cons (b := false) (kit_ty (a := "int") (b := "list") (by decide +kernel)) (fun _ => kitAny_cons (b := false) (kit_ty (a := "int") (b := "tuple") (by decide +kernel)) (fun _ => kitAny_nil) (fun z => nomatch z)) (fun z => nomatch z)
  | str _ => exact kitAny_cons (b := false) (kit_ty (a := "str") (b := "list") (by decide +kernel)) (fun _ => kitAny_cons (b := false) (kit_ty (a := "str") (b := "tuple") (by decide +kernel)) (fun _ => kitAny_nil) (fun z => nomatch z)) (fun z => nomatch z)
  | dict _ => exact kitAny_cons (b := false) (kit_ty (a := "dict") (b := "list") (by decide +kernel)) (fun _ => kitAny_cons (b := false) (kit_ty (a := "dict") (b := "tuple") (by decide +kernel)) (fun _ => kitAny_nil) (fun z => nomatch z)) (fun z => nomatch z)
  | list _ => exact kitAny_cons (b := true) (kit_ty (a := "list") (b := "list") (by decide +kernel)) (fun z => nomatch z) (fun _ => rfl)
  | tuple _ => exact kitAny_cons (b := false) (kit_ty (a := "tuple") (b := "list") (by decide +kernel)) (fun _ => kitAny_cons (b := true) (kit_ty (a := "tuple") (b := "tuple") (by decide +kernel)) (fun z => nomatch z) (fun _ => rfl)) (fun z => nomatch z)
/-- what the walk asks of the names of the top -/
structure Nm (mg : Str → Option Value) : Prop where
  isi : mg "isinstance" = none
  lst : mg "list" = none
  tpl : mg "tuple" = none
def spParts (K : PySem.W.Frag) : Sp := fun vs H Q _ => ∃ (v : V) (d : PyData) (Hv : Hp), vs = [v] ∧ Same Hv H ∧ Dp K Hv v d ∧ nd d ≤ 1000000 ∧
  ∀ (H' : Hp) (p : Addr) (rs : List V), Same H H' → H p = none → H' p = some (.lst rs.reverse) → Path K Hv ([v], [d]) rs ([], []) → rs.length = nd d → Q (.ref p) H'
section
variable {P : Program} {w : World} {K : PySem.W.Frag} {mg : Str → Option Value} {base : Heap}
theorem scParts : FnScope ["thing", "waiting", "parts", "part"] ["thing"] (defScope sParts) := ⟨rfl, rfl, rfl, by decide +kernel, rfl, by decide +kernel, by decide +kernel⟩
theorem ok_parts {f : Addr} {fd : FuncData} {k : Nat} (F : Fun K "all_parts" "all_parts" sParts f fd) (T : Nm mg) : FnOk P w K mg base CX0 (k + 1) f fd ["thing"] (spParts K) := by
  refine F.ok scParts (fun vs H Q E h => ?_) (fun cdv A outer s H vs Q E hr h => ?_)
  · obtain ⟨v, d, Hv, rfl, _⟩ := h
    rfl
  · obtain ⟨v, d, Hv, rfl, sv, hd, hn, q⟩ := h
    refine ⟨_, pss_cons (ps_set (i := 1) scParts.nd rfl (.inl rfl) (pe_lst (pa_cons (pv 0) pa_nil)))
      (pss_cons (ps_set (i := 2) scParts.nd rfl (.inl rfl) (pe_lst pa_nil))
      (pss_cons (ps_while PassesOwn.never (pt_truth (pv 1) (by intro _; rfl))
        (pss_cons (ps_set (i := 3) scParts.nd rfl (.inl rfl) (pe_bm0 PySem.F.plainAttrs_list PySem.F.slot_list_pop PySem.F.type_list_pop mt_pop (pv 1)))
        (pss_cons (ps_expr (pe_bm PySem.F.plainAttrs_list PySem.F.slot_list_append PySem.F.type_list_append mt_append (pv 2) (pa_cons (pv 3) pa_nil)))
        (pss_one (ps_if (pt_val (pe_callB call_isiT (by rfl) T.isi (by decide +kernel) (pa_cons (pv 3) (pa_cons (pe_tup (pa_cons (pe_bltn (v := .ty "list") (by rfl) T.lst (by decide +kernel) rfl) (pa_cons (pe_bltn (v := .ty "tuple") (by rfl) T.tpl (by decide +kernel) rfl) pa_nil))) pa_nil))))
          (pss_one (ps_alt (ps_expr (pe_bm PySem.F.plainAttrs_list PySem.F.slot_list_extend PySem.F.type_list_extend mt_extend (pv 1) (pa_cons (pe_revL (pv 3)) pa_nil)))
            (ps_expr (pe_bm PySem.F.plainAttrs_list PySem.F.slot_list_extend PySem.F.type_list_extend mt_extT (pv 1) (pa_cons (pe_revT (pv 3)) pa_nil)))))
          pss_nil)))))
      (pss_one (ps_ret (pv 2))))), ?_⟩
    refine ⟨_, rfl, (by show 1 ≤ sizeLine; decide), fun wa nwa => ⟨by decide, fun pa npa => ?_⟩⟩
    have nwa' : pa ≠ wa := fun e => by
      rw [e, upd_same] at npa
      cases npa
    have npa0 : H pa = none := by
      rw [upd_ne nwa'] at npa
      exact npa
    -- the invariant
    refine ⟨fun m σ H1 => ∃ (rs : List V) (S : List V × List PyData) (y : Option V), σ = [some v, some (.ref wa), some (.ref pa), y] ∧ Same H H1 ∧ H1 wa = some (.lst S.1.reverse) ∧ H1 pa = some (.lst rs.reverse) ∧
      DpAll K Hv S.1 S.2 ∧ Path K Hv ([v], [d]) rs S ∧ rs.length + ndAll S.2 = nd d ∧ m = ndAll S.2, ⟨_, [], ([v], [d]), none, rfl, (same_upd nwa).trans (same_upd npa), ?_, upd_same, .cons hd .nil, .nil, ?_, rfl⟩, ?_⟩
    · rw [upd_ne nwa'.symm, upd_same]
      rfl
    · simp [ndAll]
    rintro m σ H1 ⟨rs, ⟨vs, ds⟩, y, rfl, sm, hw, hp, hS, hP, hc, rfl⟩
    refine ⟨_, rfl, _, .inl ⟨_, SqL.of hw, rfl⟩, ?_⟩
    cases hS with
    | nil =>
      -- nothing waits any more
      refine iteF ?_
      refine ⟨_, rfl, q H1 pa rs sm npa0 hp hP ?_⟩
      simpa [ndAll] using hc
    | @cons v1 r1 d1 rd1 h1 h2 =>
      have hne : (!((v1 :: r1, d1 :: rd1) : List V × List PyData).1.reverse.isEmpty) = true := by simp
      rw [hne]
      refine iteT ?_
      have hlen : rs.length + (nd d1 + ndAll rd1) = nd d := by simpa [ndAll] using hc
      have hrl : rs.length ≤ 1000000 := by omega
      have hvl : r1.length ≤ ndAll rd1 := by
        have e := DpAll.length h2
        have e2 := ndAll_len rd1
        omega
      refine ⟨fun σ' H2 => ∃ (S' : List V × List PyData), σ' = [some v, some (.ref wa), some (.ref pa), some v1] ∧ Same H H2 ∧ H2 wa = some (.lst S'.1.reverse) ∧ H2 pa = some (.lst (v1 :: rs).reverse) ∧ DpAll K Hv S'.1 S'.2 ∧ Stp K Hv (v1 :: r1, d1 :: rd1) v1 S' ∧ ndAll S'.2 + 1 = nd d1 + ndAll rd1, ?_, ?_⟩
      · rintro σ' H2 ⟨S', rfl, g1, g2, g3, g4, g5, g6⟩
        exact ⟨_, by simp only [ndAll]; omega, v1 :: rs, S', _, rfl, g1, g2, g3, g4, .cons hP g5, by rw [List.length_cons]; omega, rfl⟩
      -- part = waiting.pop()
      have ep : ((v1 :: r1, d1 :: rd1) : List V × List PyData).1.reverse = r1.reverse ++ [v1] := by simp
      rw [ep] at hw
      refine ⟨_, rfl, .inl ⟨rfl, _, SqL.of hw⟩, wa, _, v1, rfl, rfl, hw, by simp, ?_⟩
      rw [List.dropLast_concat]
      have sm1 : Same H (upd H1 wa (.lst r1.reverse)) := same_fresh nwa sm
      have hp1 : (upd H1 wa (.lst r1.reverse)) pa = some (.lst rs.reverse) := by
        rw [upd_ne nwa']
        exact hp
      -- parts.append(part)
      refine ⟨_, rfl, .inl ⟨rfl, _, SqL.of hp1⟩, _, rfl, pa, _, _, rfl, rfl, hp1, Nat.lt_of_le_of_lt (by simpa using hrl) (by decide), ?_⟩
      have sm2 := same_fresh (o := .lst (rs.reverse ++ [v1])) npa0 sm1
      have hw2 : (upd (upd H1 wa (.lst r1.reverse)) pa (.lst (rs.reverse ++ [v1]))) wa = some (.lst r1.reverse) := by
        rw [upd_ne nwa'.symm, upd_same]
      have hp2 : (upd (upd H1 wa (.lst r1.reverse)) pa (.lst (rs.reverse ++ [v1]))) pa = some (.lst (rs.reverse ++ [v1])) := upd_same
      -- if isinstance(part, (list, tuple))
      refine ⟨_, rfl, by decide, fun tp ntp => ?_⟩
      have t1 : wa ≠ tp := ne_of_none hw2 ntp
      have t2 : pa ≠ tp := ne_of_none hp2 ntp
      have sm3 : Same H (upd (upd (upd H1 wa (.lst r1.reverse)) pa (.lst (rs.reverse ++ [v1]))) tp (.tup [.ty "list", .ty "tuple"])) := sm2.trans (same_upd ntp)
      have hw3 : (upd (upd (upd H1 wa (.lst r1.reverse)) pa (.lst (rs.reverse ++ [v1]))) tp (.tup [.ty "list", .ty "tuple"])) wa = some (.lst r1.reverse) := by
        rw [upd_ne t1]
        exact hw2
      have hp3 : (upd (upd (upd H1 wa (.lst r1.reverse)) pa (.lst (rs.reverse ++ [v1]))) tp (.tup [.ty "list", .ty "tuple"])) pa = some (.lst (rs.reverse ++ [v1])) := by
        rw [upd_ne t2]
        exact hp2
      refine ⟨v1, tp, _, .type (tyD d1), [.type "list", .type "tuple"], _, rfl, upd_same, .cons (.ty _) (.cons (.ty _) .nil), dp_ty (dp_same (sv.trans sm3) _ _ h1), isLT d1 K, _, rfl, ?_⟩
      have er : (v1 :: rs).reverse = rs.reverse ++ [v1] := by simp
      generalize hG : upd (upd (upd H1 wa (.lst r1.reverse)) pa (.lst (rs.reverse ++ [v1]))) tp (.tup [.ty "list", .ty "tuple"]) = G at sm3 hw3 hp3
      -- what the reversed part puts behind
      have go : ∀ (rp : Addr) (o : HO) (xs : List V) (es : List PyData), G rp = none → DpAll K Hv xs es → nd d1 = ndAll es + 1 → Stp K Hv (v1 :: r1, d1 :: rd1) v1 (xs ++ r1, es ++ rd1) →
          ∃ S' : List V × List PyData, Same H (upd (upd G rp o) wa (.lst (r1.reverse ++ xs.reverse))) ∧ (upd (upd G rp o) wa (.lst (r1.reverse ++ xs.reverse))) wa = some (.lst S'.1.reverse) ∧
            (upd (upd G rp o) wa (.lst (r1.reverse ++ xs.reverse))) pa = some (.lst (v1 :: rs).reverse) ∧ DpAll K Hv S'.1 S'.2 ∧ Stp K Hv (v1 :: r1, d1 :: rd1) v1 S' ∧ ndAll S'.2 + 1 = nd d1 + ndAll rd1 := by
        intro rp o xs es nrp hxs hnd hst
        refine ⟨(xs ++ r1, es ++ rd1), same_fresh nwa (sm3.trans (same_upd nrp)), ?_, ?_, DpAll.append hxs h2, hst, ?_⟩
        · rw [upd_same]
          simp
        · rw [upd_ne nwa', upd_ne (ne_of_none hp3 nrp), er]
          exact hp3
        · show ndAll (es ++ rd1) + 1 = _
          rw [ndAll_append]
          omega
      have fit : ∀ (xs : List V) (es : List PyData), DpAll K Hv xs es → nd d1 = ndAll es + 1 → r1.reverse.length + xs.reverse.length ≤ sizeLine := by
        intro xs es hxs hnd
        have e1 := DpAll.length hxs
        have e2 := ndAll_len es
        rw [List.length_reverse, List.length_reverse]
        exact Nat.le_trans (show r1.length + xs.length ≤ 1000000 by omega) (by decide)
      have wne : ∀ {rp : Addr}, G rp = none → wa ≠ rp := fun h => ne_of_none hw3 h
      have leafy : (tyD d1 == "list" || tyD d1 == "tuple") = false → nd d1 = 1 → if (tyD d1 == "list" || tyD d1 == "tuple") = true then False else ∃ S' : List V × List PyData, Same H G ∧ G wa = some (.lst S'.1.reverse) ∧ G pa = some (.lst (v1 :: rs).reverse) ∧ DpAll K Hv S'.1 S'.2 ∧ Stp K Hv (v1 :: r1, d1 :: rd1) v1 S' ∧ ndAll S'.2 + 1 = nd d1 + ndAll rd1 := by
        intro e1 e2
        rw [e1]
        refine iteF ⟨(r1, rd1), sm3, hw3, by rw [er]; exact hp3, h2, .leaf h1 e1, ?_⟩
        show ndAll rd1 + 1 = _
        omega
      cases h1 with
      | non => exact let ⟨S', g⟩ := leafy rfl rfl; ⟨S', rfl, g⟩
      | bl b => exact let ⟨S', g⟩ := leafy rfl rfl; ⟨S', rfl, g⟩
      | int i => exact let ⟨S', g⟩ := leafy rfl rfl; ⟨S', rfl, g⟩
      | str x => exact let ⟨S', g⟩ := leafy rfl rfl; ⟨S', rfl, g⟩
      | @lst a xs es g1 g2 =>
        refine iteT (.inl ?_)
        refine ⟨_, rfl, .inl ⟨rfl, _, SqL.of hw3⟩, _, rfl, a, xs, rfl, (sv.trans sm3).seq g1, fun rp nrp => ?_⟩
        obtain ⟨S', g⟩ := go rp (.lst xs.reverse) xs es nrp g2 rfl (.lst g1 g2)
        exact ⟨wa, rp, _, _, rfl, rfl, by rw [upd_ne (wne nrp)]; exact hw3, upd_same, fit xs es g2 rfl, S', rfl, g⟩
      | @tup a xs es g1 g2 =>
        refine iteT (.inr ?_)
        refine ⟨_, rfl, .inl ⟨rfl, _, SqL.of hw3⟩, _, rfl, a, xs, rfl, same_sqt (sv.trans sm3) g1, fun rp nrp => ?_⟩
        obtain ⟨S', g⟩ := go rp (.tup xs.reverse) xs es nrp g2 rfl (.tup g1 g2)
        exact ⟨wa, rp, _, _, rfl, rfl, by rw [upd_ne (wne nrp)]; exact hw3, .inl (.inl upd_same), fit xs es g2 rfl, S', rfl, g⟩
end
end TX
namespace TX
open PySem PySem.Spec PyProof.Rows L2
/-- what is new behind H, but the place x -/
def newB (H : Hp) (x : Addr) (H' : Hp) : Hp := fun b => if b = x then none else match H b with
  | none => H' b
  | some _ => none
def newp (H H' : Hp) : Hp := fun b => match H b with
  | none => H' b
  | some _ => none
theorem newp_at {H H' : Hp} {b : Addr} (h : H b = none) : newp H H' b = H' b := by
  unfold newp
  rw [h]
theorem newp_old {H H' : Hp} {b : Addr} {o : HO} (h : H b = some o) : newp H H' b = none := by
  unfold newp
  rw [h]
theorem newp_less {H H1 H2 : Hp} (h : Same H H1) : Same (newp H1 H2) (newp H H2) := fun b o e => by
  cases h1 : H1 b with
  | some u =>
    rw [newp_old h1] at e
    cases e
  | none =>
    rw [newp_at h1] at e
    rw [newp_at (h.free h1)]
    exact e
theorem newB_newp {H H' : Hp} {x : Addr} : Same (newB H x H') (newp H H') := fun b o e => by
  unfold newB at e
  by_cases hb : b = x
  · rw [if_pos hb] at e
    cases e
  · rw [if_neg hb] at e
    exact e
theorem newp_same {H H' : Hp} : Same (newp H H') H' := fun b o e => by
  cases h : H b with
  | none =>
    rw [newp_at h] at e
    exact e
  | some u =>
    rw [newp_old h] at e
    cases e
theorem newB_at {H H' : Hp} {x b : Addr} (h : H b = none) (hx : b ≠ x) : newB H x H' b = H' b := by
  unfold newB
  rw [if_neg hx, h]
theorem newB_mono {H H1 H2 : Hp} {x : Addr} (h : ∀ b o, b ≠ x → H1 b = some o → H2 b = some o) : Same (newB H x H1) (newB H x H2) := fun b o e => by
  by_cases hb : b = x
  · unfold newB at e
    rw [if_pos hb] at e
    cases e
  · cases hh : H b with
    | none =>
      rw [newB_at hh hb] at e ⊢
      exact h b o hb e
    | some u =>
      unfold newB at e
      rw [if_neg hb, hh] at e
      cases e
/-- a leaf is data in any heap -/
theorem dp_leaf {K : PySem.W.Frag} {H H' : Hp} {v : V} {d : PyData} (h : Dp K H v d) (e : (tyD d == "list" || tyD d == "tuple") = false) : Dp K H' v d := by
  cases h with
  | non => exact .non
  | bl b => exact .bl b
  | int i => exact .int i
  | str x => exact .str x
  | lst _ _ => simp [tyD] at e
  | tup _ _ => simp [tyD] at e
def spCopy (K : PySem.W.Frag) : Sp := fun vs H Q _ => ∃ (v : V) (d : PyData) (Hv : Hp), vs = [v] ∧ Same Hv H ∧ Dp K Hv v d ∧ nd d ≤ 1000000 ∧
  ∀ (H' : Hp) (v' : V), Same H H' → Dp K (newp H H') v' d → Q v' H'
theorem kit1 (d : PyData) (K : PySem.W.Frag) : PySem.W.kitOne K (.type (tyD d)) (.type "tuple") = some (tyD d == "tuple") := by
  cases d with
  | none => exact (kit_ty (a := "NoneType") (b := "tuple") (r := false) (by decide +kernel)).trans (by simp [tyD])
  | bool _ => exact (kit_ty (a := "bool") (b := "tuple") (r := false) (by decide +kernel)).trans (by simp [tyD])
  | int _ => exact (kit_ty (a := "int") (b := "tuple") (r := false) (by decide +kernel)).trans (by simp [tyD])
  | str _ => exact (kit_ty (a := "str") (b := "tuple") (r := false) (by decide +kernel)).trans (by simp [tyD])
  | list _ => exact (kit_ty (a := "list") (b := "tuple") (r := false) (by decide +kernel)).trans (by simp [tyD])
  | tuple _ => exact (kit_ty (a := "tuple") (b := "tuple") (r := true) (by decide +kernel)).trans (by simp [tyD])
  | dict _ => exact (kit_ty (a := "dict") (b := "tuple") (r := false) (by decide +kernel)).trans (by simp [tyD])
theorem rev_drop {c : List V} {j : Nat} {y : V} (h : c[j]? = some y) : (c.drop j).reverse = (c.drop (j + 1)).reverse ++ [y] := by
  obtain ⟨hj, e⟩ := List.getElem?_eq_some_iff.mp h
  rw [List.drop_eq_getElem_cons hj, e]
  simp
theorem path_count {K : PySem.W.Frag} {Hv : Hp} {S0 : List V × List PyData} : ∀ {rs : List V} {S : List V × List PyData}, Path K Hv S0 rs S → rs.length + ndAll S.2 = ndAll S0.2
  | _, _, .nil => by simp
  | _, _, .cons hP hs => by
    have ih := path_count hP
    cases hs with
    | @leaf v0 d0 r0 rd0 h e =>
      have one : nd d0 = 1 := by
        cases h with
        | non => rfl
        | bl b => rfl
        | int i => rfl
        | str x => rfl
        | lst _ _ => simp [tyD] at e
        | tup _ _ => simp [tyD] at e
      simp only [ndAll, one] at ih
      rw [List.length_cons]
      dsimp only
      omega
    | lst h g =>
      simp only [ndAll, nd] at ih
      rw [List.length_cons, ndAll_append]
      omega
    | tup h g =>
      simp only [ndAll, nd] at ih
      rw [List.length_cons, ndAll_append]
      omega
section
variable {P : Program} {w : World} {K : PySem.W.Frag} {mg : Str → Option Value} {base : Heap}
theorem scCopy : FnScope ["thing", "done", "part", "made", "_"] ["thing"] (defScope sCopy) := ⟨rfl, rfl, rfl, by decide +kernel, rfl, by decide +kernel, by decide +kernel⟩
theorem ok_copy {f fP : Addr} {fd fdP : FuncData} {k : Nat} (F : Fun K "copy_of" "copy_of" sCopy f fd) (T : Nm mg) (FP : Fun K "all_parts" "all_parts" sParts fP fdP) (bP : Binds K fdP ["thing"] []) (gP : mg "all_parts" = some (.ref fP)) :
    FnOk P w K mg base CX0 (k + 2) f fd ["thing"] (spCopy K) := by
  have GP : FnOk P w K mg base CX0 (k + 1) fP fdP ["thing"] (spParts K) := ok_parts FP T
  refine F.ok scCopy (fun vs H Q E h => ?_) (fun cdv A outer s H vs Q E hr h => ?_)
  · obtain ⟨v, d, Hv, rfl, _⟩ := h
    rfl
  · obtain ⟨v, d, Hv, rfl, sv, hd, hn, q⟩ := h
    refine ⟨_, pss_cons (ps_if (pt_not (pt_val (pe_callB call_isiT (by rfl) T.isi (by decide +kernel) (pa_cons (pv 0) (pa_cons (pe_tup (pa_cons (pe_bltn (v := .ty "list") (by rfl) T.lst (by decide +kernel) rfl) (pa_cons (pe_bltn (v := .ty "tuple") (by rfl) T.tpl (by decide +kernel) rfl) pa_nil))) pa_nil))))) (pss_one (ps_ret (pv 0))) pss_nil) <| pss_cons (ps_set (i := 1) scCopy.nd rfl (.inr rfl) (pe_lst pa_nil))
      (pss_cons (ps_for PassesOwn.never rfl (pi_list (pe_revL (pe_call GP hr (by rfl) gP FP.kp bP .nil pass0 (pa_cons (pv 0) pa_nil)))) (pg_name (i := 2) scCopy.nd rfl (.inl rfl))
        (pss_cons (ps_set (i := 3) scCopy.nd rfl (.inl rfl) (pv 2))
        (pss_cons (ps_if (pt_val (pe_callB call_isiT (by rfl) T.isi (by decide +kernel) (pa_cons (pv 2) (pa_cons (pe_tup (pa_cons (pe_bltn (v := .ty "list") (by rfl) T.lst (by decide +kernel) rfl) (pa_cons (pe_bltn (v := .ty "tuple") (by rfl) T.tpl (by decide +kernel) rfl) pa_nil))) pa_nil))))
          (pss_one (ps_alt
            (ps_setLc (i := 3) (own := [("_", 4)]) (g := gName 4) (tt := tYes) (te := tBM0 K "list" rPop (tVar 1)) rfl scCopy.nd rfl rfl (sw_true rfl rfl rfl (by decide +kernel)) (pi_list (pv 2)) (blkOk_by (N := ["thing", "done", "part", "made", "_"]) (sc := defScope sCopy) (by decide +kernel))
              (fun _ _ _ _ _ => pg_name (i := 4) scCopy.nd rfl (Or.inl rfl)) (fun _ _ _ _ _ => pts_nil) (fun _ _ _ _ _ => pe_bm0 PySem.F.plainAttrs_list PySem.F.slot_list_pop PySem.F.type_list_pop mt_pop (pv 1)))
            (ps_setLc (i := 3) (own := [("_", 4)]) (g := gName 4) (tt := tYes) (te := tBM0 K "list" rPop (tVar 1)) rfl scCopy.nd rfl rfl (sw_true rfl rfl rfl (by decide +kernel)) (pi_tup (pv 2)) (blkOk_by (N := ["thing", "done", "part", "made", "_"]) (sc := defScope sCopy) (by decide +kernel))
              (fun _ _ _ _ _ => pg_name (i := 4) scCopy.nd rfl (Or.inl rfl)) (fun _ _ _ _ _ => pts_nil) (fun _ _ _ _ _ => pe_bm0 PySem.F.plainAttrs_list PySem.F.slot_list_pop PySem.F.type_list_pop mt_pop (pv 1)))))
          pss_nil)
        (pss_cons (ps_if (pt_val (pe_callB call_isi (by rfl) T.isi (by decide +kernel) (pa_cons (pv 2) (pa_cons (pe_bltn (v := .ty "tuple") (by rfl) T.tpl (by decide +kernel) rfl) pa_nil))))
          (pss_one (ps_set (i := 3) scCopy.nd rfl (.inl rfl) (pe_callTy call_tuple_of (by rfl) T.tpl (by decide +kernel) (pa_cons (pv 3) pa_nil))))
          pss_nil)
        (pss_one (ps_expr (pe_bm PySem.F.plainAttrs_list PySem.F.slot_list_append PySem.F.type_list_append mt_append (pv 1) (pa_cons (pv 3) pa_nil))))))))
      (pss_one (ps_ret (pe_ix ix_list (pv 1) pe_int (fun _ _ => rfl))))), ?_⟩
    refine ⟨_, rfl, by decide, fun tp0 ntp0 => ?_⟩
    refine ⟨v, tp0, _, .type (tyD d), [.type "list", .type "tuple"], _, rfl, upd_same, .cons (.ty _) (.cons (.ty _) .nil), dp_ty (dp_same (sv.trans (same_upd ntp0)) _ _ hd), isLT d K, _, rfl, ?_⟩
    have q2 : ∀ (H' : Hp) (v' : V), Same (upd H tp0 (.tup [.ty "list", .ty "tuple"])) H' → Dp K (newp (upd H tp0 (.tup [.ty "list", .ty "tuple"])) H') v' d → Q v' H' := fun H' v' e1 e2 => q H' v' ((same_upd ntp0).trans e1) (dp_same (newp_less (same_upd ntp0)) _ _ e2)
    have sv2 : Same Hv (upd H tp0 (.tup [.ty "list", .ty "tuple"])) := sv.trans (same_upd ntp0)
    cases hlt : (tyD d == "list" || tyD d == "tuple") with
    | false =>
      exact iteT ⟨_, rfl, q2 _ _ (fun _ _ e => e) (dp_leaf hd hlt)⟩
    | true =>
    refine iteF ?_
    generalize upd H tp0 (.tup [.ty "list", .ty "tuple"]) = H at sv2 q2
    clear q sv ntp0 tp0
    have sv := sv2
    have q := q2
    refine ⟨by decide, fun da nda => ?_⟩
    -- all_parts(thing)[::-1]
    refine ⟨_, rfl, v, d, Hv, rfl, sv.trans (same_upd nda), hd, hn, fun H1 p rs sm1 np hp hP hlen => ?_⟩
    have hda1 : H1 da = some (.lst []) := sm1 _ _ upd_same
    refine ⟨p, _, rfl, SqL.of hp, fun r nr => ?_⟩
    rw [List.reverse_reverse]
    have rda : da ≠ r := ne_of_none hda1 nr
    have s0 : Same H (upd H1 r (.lst rs)) := ((same_upd nda).trans sm1).trans (same_upd nr)
    have hr0 : H r = none := ((same_upd nda).trans sm1).free nr
    have nda0 : H da = none := nda
    refine ⟨r, rfl, ⟨_, SqL.of upd_same⟩, for_list (K := K) (a := r) (xs := rs) (fun i σ H2 => ∃ (S : List V × List PyData) (cs : List V) (y2 y3 : Option V), σ = [some v, some (.ref da), y2, y3, none] ∧ Same H H2 ∧ H2 r = some (.lst rs) ∧
      Path K Hv ([v], [d]) (rs.drop i) S ∧ H2 da = some (.lst cs.reverse) ∧ DpAll K (newB H da H2) cs S.2) ?_ ?_ ?_ ?_⟩
    · exact ⟨([], []), [], none, none, rfl, s0, upd_same, hP, by rw [upd_ne rda]; exact hda1, .nil⟩
    · rintro i σ H2 hi ⟨S, cs, y2, y3, rfl, _, g, _⟩
      exact SqL.of g
    · rintro i x σ H2 hx ⟨S, cs, y2, y3, rfl, sm, hrs, hPi, hda, hcs⟩
      have edrop : rs.drop i = x :: rs.drop (i + 1) := by
        obtain ⟨hj, e⟩ := List.getElem?_eq_some_iff.mp hx
        rw [List.drop_eq_getElem_cons hj, e]
      rw [edrop] at hPi
      cases hPi with
      | @cons _ S1 _ _ hP1 hst =>
      have cnt := path_count (.cons hP1 hst)
      have cnt0 : ndAll ([d] : List PyData) = nd d := by simp [ndAll]
      have lcs : cs.length ≤ 1000000 := by
        have e1 := DpAll.length hcs
        have e2 := ndAll_len S.2
        have e3 : ndAll (([v], [d]) : List V × List PyData).2 = nd d := cnt0
        omega
      -- the part's data
      obtain ⟨dx, hdx⟩ : ∃ dx, Dp K Hv x dx ∧ ((∃ r1 rd1, S1 = (x :: r1, dx :: rd1) ∧ S = (r1, rd1) ∧ (tyD dx == "list" || tyD dx == "tuple") = false) ∨
          (∃ a xs es r1 rd1, x = .ref a ∧ dx = .list es ∧ SqL K Hv a xs ∧ DpAll K Hv xs es ∧ S1 = (x :: r1, .list es :: rd1) ∧ S = (xs ++ r1, es ++ rd1)) ∨
          (∃ a xs es r1 rd1, x = .ref a ∧ dx = .tuple es ∧ SqT K Hv a xs ∧ DpAll K Hv xs es ∧ S1 = (x :: r1, .tuple es :: rd1) ∧ S = (xs ++ r1, es ++ rd1))) := by
        cases hst with
        | leaf h e => exact ⟨_, h, .inl ⟨_, _, rfl, rfl, e⟩⟩
        | lst h g => exact ⟨_, .lst h g, .inr (.inl ⟨_, _, _, _, _, rfl, rfl, h, g, rfl, rfl⟩)⟩
        | tup h g => exact ⟨_, .tup h g, .inr (.inr ⟨_, _, _, _, _, rfl, rfl, h, g, rfl, rfl⟩)⟩
      obtain ⟨hx1, hcase⟩ := hdx
      -- made = part; isinstance(part, (list, tuple))
      refine ⟨_, rfl, _, rfl, by decide, fun tp ntp => ?_⟩
      have sm3 : Same H (upd H2 tp (.tup [.ty "list", .ty "tuple"])) := sm.trans (same_upd ntp)
      have hda3 : (upd H2 tp (.tup [.ty "list", .ty "tuple"])) da = some (.lst cs.reverse) := same_upd ntp _ _ hda
      have hrs3 : (upd H2 tp (.tup [.ty "list", .ty "tuple"])) r = some (.lst rs) := same_upd ntp _ _ hrs
      have hcs3 : DpAll K (newB H da (upd H2 tp (.tup [.ty "list", .ty "tuple"]))) cs S.2 := dpAll_same (newB_mono fun b o _ e => same_upd ntp b o e) _ _ hcs
      refine ⟨x, tp, _, .type (tyD dx), [.type "list", .type "tuple"], _, rfl, upd_same, .cons (.ty _) (.cons (.ty _) .nil), dp_ty (dp_same (sv.trans sm3) _ _ hx1), isLT dx K, _, rfl, ?_⟩
      generalize upd H2 tp (.tup [.ty "list", .ty "tuple"]) = G at sm3 hda3 hrs3 hcs3
      rcases hcase with ⟨r1, rd1, rfl, rfl, e⟩ | ⟨a, xs, es, r1, rd1, rfl, rfl, g1, g2, rfl, rfl⟩ | ⟨a, xs, es, r1, rd1, rfl, rfl, g1, g2, rfl, rfl⟩
      · rw [e]
        refine iteF ?_
        have e2 : (tyD dx == "tuple") = false := (Bool.or_eq_false_iff.mp e).2
        refine ⟨_, rfl, x, .ty "tuple", .type (tyD dx), .type "tuple", _, rfl, .ty _, dp_ty (dp_leaf hx1 e), kit1 dx K, _, rfl, ?_⟩
        rw [e2]
        refine iteF ?_
        refine ⟨_, rfl, .inl ⟨rfl, _, SqL.of hda3⟩, _, rfl, da, _, _, rfl, rfl, hda3, Nat.lt_of_le_of_lt (by simpa using lcs) (by decide), ?_⟩
        refine ⟨_, x :: cs, _, _, rfl, same_fresh nda0 sm3, by rw [upd_ne rda.symm]; exact hrs3, hP1, ?_, ?_⟩
        · rw [upd_same]
          simp
        · exact .cons (dp_leaf hx1 e) (dpAll_same (newB_mono fun b o hb e => by rw [upd_ne hb]; exact e) _ _ hcs3)
      · obtain ⟨c1, c2, rfl, hc1, hc2⟩ := DpAll.split hcs3
        have hxl : xs.length = c1.length := (DpAll.length g2).trans (DpAll.length hc1).symm
        refine iteT (.inl ?_)
        refine ⟨_, rfl, a, rfl, ⟨_, (sv.trans sm3).seq g1⟩, fun D nD => lc_list (K := K) (a := a) (xs := xs) (fun j H4 => H4 da = some (.lst (c2.reverse ++ (c1.drop j).reverse)) ∧ H4 D = some (.lst (c1.take j)) ∧ ∀ b o, b ≠ da → b ≠ D → G b = some o → H4 b = some o) ?_ ?_ ?_ ?_⟩
        · have ne : da ≠ D := ne_of_none hda3 nD
          refine ⟨?_, upd_same, fun b o _ hb e => by rw [upd_ne hb]; exact e⟩
          rw [upd_ne ne, hda3]
          simp
        · rintro j H4 hj ⟨_, _, kp⟩
          have nDH : H D = none := sm3.free nD
          exact Same.seq (fun b o e => kp b o (ne_of_none e nda0) (ne_of_none e nDH) (sm3 b o e)) (sv.seq g1)
        · rintro j y H4 hy ⟨k1, k2, kp⟩
          have ne : da ≠ D := ne_of_none hda3 nD
          have hjl : j < c1.length := by
            have := (List.getElem?_eq_some_iff.mp hy).1
            omega
          have hcj : c1[j]? = some c1[j] := List.getElem?_eq_getElem hjl
          rw [rev_drop hcj, ← List.append_assoc] at k1
          refine ⟨rfl, .ref da, rfl, .inl ⟨rfl, _, SqL.of k1⟩, da, _, c1[j], rfl, rfl, k1, by simp, ?_⟩
          rw [List.dropLast_concat]
          refine ⟨c1.take j, by rw [upd_ne ne.symm]; exact k2, ?_, ?_, ?_, fun b o h1 h2 e => ?_⟩
          · refine Nat.lt_of_le_of_lt (show (c1.take j).length ≤ 1000000 from ?_) (by decide)
            rw [List.length_append] at lcs
            have := List.length_take_le j c1
            omega
          · rw [upd_ne ne, upd_same]
          · rw [upd_same, List.take_add_one, hcj]
            rfl
          · rw [upd_ne h2, upd_ne h1]
            exact kp b o h1 h2 e
        · rintro H4 ⟨k1, k2, kp⟩
          have ne : da ≠ D := ne_of_none hda3 nD
          have nDH : H D = none := sm3.free nD
          have sm4 : Same H H4 := fun b o e => kp b o (ne_of_none e nda0) (ne_of_none e nDH) (sm3 b o e)
          have rD : r ≠ D := ne_of_none hrs3 nD
          have hr4 : H4 r = some (.lst rs) := kp r _ rda.symm rD hrs3
          rw [hxl] at k1 k2
          rw [List.drop_length, List.reverse_nil, List.append_nil] at k1
          rw [List.take_length] at k2
          have mono4 : Same (newB H da G) (newB H da H4) := fun b o e => by
            by_cases hb : b = da
            · unfold newB at e
              rw [if_pos hb] at e
              cases e
            · cases hh : H b with
              | some u =>
                unfold newB at e
                rw [if_neg hb, hh] at e
                cases e
              | none =>
                rw [newB_at hh hb] at e ⊢
                exact kp b o hb (ne_of_none e nD) e
          have hd4 : DpAll K (newB H da H4) c1 es := dpAll_same mono4 _ _ hc1
          have hd5 : DpAll K (newB H da H4) c2 rd1 := dpAll_same mono4 _ _ hc2
          have hD4 : (newB H da H4) D = some (.lst c1) := by
            rw [newB_at nDH ne.symm]
            exact k2
          have hc1l : c1.length ≤ 1000000 ∧ c2.length ≤ 1000000 := by
            rw [List.length_append] at lcs
            omega
          refine ⟨_, rfl, .ref a, .ty "tuple", .type "list", .type "tuple", _, rfl, .ty _, dp_ty (d := .list es) (.lst (Same.seq sm4 (sv.seq g1)) (dpAll_same (sv.trans sm4) _ _ g2)), kit1 (.list es) K, _, rfl, ?_⟩
          refine iteF ?_
          refine ⟨_, rfl, .inl ⟨rfl, _, SqL.of k1⟩, _, rfl, da, _, _, rfl, rfl, k1, Nat.lt_of_le_of_lt (by simpa using hc1l.2) (by decide), ?_⟩
          refine ⟨_, .ref D :: c2, _, _, rfl, same_fresh nda0 sm4, by rw [upd_ne rda.symm]; exact hr4, hP1, ?_, ?_⟩
          · rw [upd_same]
            simp
          · have up : Same (newB H da H4) (newB H da (upd H4 da (.lst (c2.reverse ++ [.ref D])))) := newB_mono fun b o hb e => by
              rw [upd_ne hb]
              exact e
            exact .cons (.lst (SqL.of (up _ _ hD4)) (dpAll_same up _ _ hd4)) (dpAll_same up _ _ hd5)
      · obtain ⟨c1, c2, rfl, hc1, hc2⟩ := DpAll.split hcs3
        have hxl : xs.length = c1.length := (DpAll.length g2).trans (DpAll.length hc1).symm
        refine iteT (.inr ?_)
        refine ⟨_, rfl, a, rfl, ⟨_, same_sqt (sv.trans sm3) g1⟩, fun D nD => lc_tup (K := K) (a := a) (xs := xs) (fun j H4 => H4 da = some (.lst (c2.reverse ++ (c1.drop j).reverse)) ∧ H4 D = some (.lst (c1.take j)) ∧ ∀ b o, b ≠ da → b ≠ D → G b = some o → H4 b = some o) ?_ ?_ ?_ ?_⟩
        · have ne : da ≠ D := ne_of_none hda3 nD
          refine ⟨?_, upd_same, fun b o _ hb e => by rw [upd_ne hb]; exact e⟩
          rw [upd_ne ne, hda3]
          simp
        · rintro j H4 hj ⟨_, _, kp⟩
          have nDH : H D = none := sm3.free nD
          exact same_sqt (fun b o e => kp b o (ne_of_none e nda0) (ne_of_none e nDH) (sm3 b o e)) (same_sqt sv g1)
        · rintro j y H4 hy ⟨k1, k2, kp⟩
          have ne : da ≠ D := ne_of_none hda3 nD
          have hjl : j < c1.length := by
            have := (List.getElem?_eq_some_iff.mp hy).1
            omega
          have hcj : c1[j]? = some c1[j] := List.getElem?_eq_getElem hjl
          rw [rev_drop hcj, ← List.append_assoc] at k1
          refine ⟨rfl, .ref da, rfl, .inl ⟨rfl, _, SqL.of k1⟩, da, _, c1[j], rfl, rfl, k1, by simp, ?_⟩
          rw [List.dropLast_concat]
          refine ⟨c1.take j, by rw [upd_ne ne.symm]; exact k2, ?_, ?_, ?_, fun b o h1 h2 e => ?_⟩
          · refine Nat.lt_of_le_of_lt (show (c1.take j).length ≤ 1000000 from ?_) (by decide)
            rw [List.length_append] at lcs
            have := List.length_take_le j c1
            omega
          · rw [upd_ne ne, upd_same]
          · rw [upd_same, List.take_add_one, hcj]
            rfl
          · rw [upd_ne h2, upd_ne h1]
            exact kp b o h1 h2 e
        · rintro H4 ⟨k1, k2, kp⟩
          have ne : da ≠ D := ne_of_none hda3 nD
          have nDH : H D = none := sm3.free nD
          have sm4 : Same H H4 := fun b o e => kp b o (ne_of_none e nda0) (ne_of_none e nDH) (sm3 b o e)
          have rD : r ≠ D := ne_of_none hrs3 nD
          have hr4 : H4 r = some (.lst rs) := kp r _ rda.symm rD hrs3
          rw [hxl] at k1 k2
          rw [List.drop_length, List.reverse_nil, List.append_nil] at k1
          rw [List.take_length] at k2
          have mono4 : Same (newB H da G) (newB H da H4) := fun b o e => by
            by_cases hb : b = da
            · unfold newB at e
              rw [if_pos hb] at e
              cases e
            · cases hh : H b with
              | some u =>
                unfold newB at e
                rw [if_neg hb, hh] at e
                cases e
              | none =>
                rw [newB_at hh hb] at e ⊢
                exact kp b o hb (ne_of_none e nD) e
          have hd4 : DpAll K (newB H da H4) c1 es := dpAll_same mono4 _ _ hc1
          have hd5 : DpAll K (newB H da H4) c2 rd1 := dpAll_same mono4 _ _ hc2
          have hD4 : (newB H da H4) D = some (.lst c1) := by
            rw [newB_at nDH ne.symm]
            exact k2
          have hc1l : c1.length ≤ 1000000 ∧ c2.length ≤ 1000000 := by
            rw [List.length_append] at lcs
            omega
          refine ⟨_, rfl, .ref a, .ty "tuple", .type "tuple", .type "tuple", _, rfl, .ty _, dp_ty (d := .tuple es) (.tup (same_sqt sm4 (same_sqt sv g1)) (dpAll_same (sv.trans sm4) _ _ g2)), kit1 (.tuple es) K, _, rfl, ?_⟩
          refine iteT ?_
          -- made = tuple(made)
          refine ⟨_, rfl, D, c1, rfl, .inl ⟨SqL.of k2, fun tq ntq => ?_⟩⟩
          have nq : H tq = none := sm4.free ntq
          have dq : da ≠ tq := ne_of_none k1 ntq
          have rq : r ≠ tq := ne_of_none hr4 ntq
          have k5 : (upd H4 tq (.tup c1)) da = some (.lst c2.reverse) := by
            rw [upd_ne dq]
            exact k1
          refine ⟨_, rfl, .inl ⟨rfl, _, SqL.of k5⟩, _, rfl, da, _, _, rfl, rfl, k5, Nat.lt_of_le_of_lt (by simpa using hc1l.2) (by decide), ?_⟩
          refine ⟨_, .ref tq :: c2, _, _, rfl, same_fresh nda0 (sm4.trans (same_upd ntq)), by rw [upd_ne rda.symm, upd_ne rq]; exact hr4, hP1, ?_, ?_⟩
          · rw [upd_same]
            simp
          · have up : Same (newB H da H4) (newB H da (upd (upd H4 tq (.tup c1)) da (.lst (c2.reverse ++ [.ref tq])))) := newB_mono fun b o hb e => by
              rw [upd_ne hb, upd_ne (ne_of_none e ntq)]
              exact e
            have at_ : (newB H da (upd (upd H4 tq (.tup c1)) da (.lst (c2.reverse ++ [.ref tq])))) tq = some (.tup c1) := by
              rw [newB_at nq dq.symm, upd_ne dq.symm, upd_same]
            exact .cons (.tup (SqT.of at_) (dpAll_same up _ _ hd4)) (dpAll_same up _ _ hd5)
    · rintro σ H2 ⟨S, cs, y2, y3, rfl, sm, hrs, hPi, hda, hcs⟩
      rw [List.drop_length] at hPi
      cases hPi
      cases hcs with
      | @cons c1 _ _ _ h1 h2 =>
        cases h2
        refine ⟨_, rfl, da, [c1], 0, c1, rfl, rfl, SqL.of hda, atI_nat (j := 0) rfl, ?_⟩
        exact q H2 c1 sm (dp_same newB_newp _ _ h1)
end
end TX
namespace TX
open PySem PySem.Spec PyProof.Rows L2
structure Nb (mg : Str → Option Value) : Prop where
  len : mg "len" = none
  abs : mg "abs" = none
  enum : mg "enumerate" = none
  int : mg "int" = none
/-- a bag of draws: two ints -/
def BagAt (H : Hp) (p : Addr) : Prop := ∃ x y : Int, H p = some (.lst [.int x, .int y])
def spBag (K : PySem.W.Frag) : Sp := fun vs H Q _ => ∃ (a : Addr) (ns : List Int) (at_ : Nat), vs = [.ref a, .int at_] ∧ SqL K H a (ns.map V.int) ∧ ns.length ≤ 63 ∧
  ∀ (H' : Hp) (p : Addr), Same H H' → H p = none → BagAt H' p → Q (.ref p) H'
def spTake : Sp := fun vs H Q _ => ∃ (p : Addr) (m : Int), vs = [.ref p, .int m] ∧ BagAt H p ∧ 0 < m ∧ m ≤ 1000000 ∧
  ∀ (x y d : Int), 0 ≤ d → d < m → Q (.int d) (upd H p (.lst [.int x, .int y]))
section
variable {P : Program} {w : World} {K : PySem.W.Frag} {mg : Str → Option Value} {base : Heap}
theorem scBag : FnScope ["_law_script", "_law_at", "_law_cell", "_law_mixed", "_law_place", "_law_each"] ["_law_script", "_law_at"] (defScope sBag) := ⟨rfl, rfl, rfl, by decide +kernel, rfl, by decide +kernel, by decide +kernel⟩
theorem ok_bag {f : Addr} {fd : FuncData} {k : Nat} (F : Fun K "_law_bag" "_law_bag" sBag f fd) (T : Nb mg) : FnOk P w K mg base CX0 (k + 1) f fd ["_law_script", "_law_at"] (spBag K) := by
  refine F.ok scBag (fun vs H Q E h => ?_) (fun cdv A outer s H vs Q E hr h => ?_)
  · obtain ⟨a, ns, i, rfl, _⟩ := h
    rfl
  · obtain ⟨a, ns, i, rfl, hS, hn, q⟩ := h
    refine ⟨_, pss_cons (ps_par (i := 2) (j := 3) rfl scBag.nd rfl rfl (by decide) rfl rfl
        (pa_cons (pe_ifExp (pt_cmpR op_lt (pv 1) (pe_callB call_len_seq (by rfl) T.len PySem.boot_len (pa_cons (pv 0) pa_nil)) (nomark _)) (pe_callB call_abs (by rfl) T.abs (by decide +kernel) (pa_cons (pe_ix ix_list (pv 0) (pv 1) (fun _ _ => rfl)) pa_nil)) pe_int)
          (pa_cons (pe_op op_add (pe_op op_mul pe_int (pv 1)) pe_int) pa_nil)) (by rfl))
      (pss_cons (ps_for PassesOwn.never rfl (pi_enum (by rfl) T.enum (pa_cons (pe_slice sl_list (pv 0) po_none (po_some pe_int)) pa_nil))
          (pg_tup rfl (pgs_cons (pg_name (i := 4) scBag.nd rfl (.inl rfl)) (pgs_cons (pg_name (i := 5) scBag.nd rfl (.inl rfl)) pgs_nil)))
        (pss_one (ps_set (i := 3) scBag.nd rfl (.inl rfl) (pe_op op_mod (pe_callTy call_int1 (by rfl) T.int (by decide +kernel)
          (pa_cons (pe_op op_add (pe_op op_add (pe_op op_mul (pv 3) pe_int) (pe_op op_mod (pe_callTy call_int1 (by rfl) T.int (by decide +kernel) (pa_cons (pv 5) pa_nil)) pe_int)) (pe_op op_mul pe_int (pv 4))) pa_nil)) pe_int))))
      (pss_one (ps_ret (pe_lst (pa_cons (pe_ifExp (pt_cmpR op_ge (pv 2) (pe_op op_pow pe_int pe_int) (nomark _)) (pv 2) pe_int) (pa_cons (pv 3) pa_nil)))))), ?_⟩
    refine ⟨_, rfl, _, rfl, a, _, rfl, .inl hS, _, _, rfl, rfl, _, rfl, ?_⟩
    have cut63 : ∀ x ∈ cutV (ns.map V.int) none (some 63), ∃ z, x = V.int z := by
      intro x hx
      unfold cutV at hx
      obtain ⟨z, _, e⟩ := List.mem_map.mp (List.mem_of_mem_drop (List.mem_of_mem_take hx))
      exact ⟨z, e.symm⟩
    generalize hC : cutV (ns.map V.int) none (some 63) = C at *
    refine ite2 (fun hlt => ?_) (fun hge => ?_)
    · have hlt' : i < ns.length := by
        have e := of_decide_eq_true hlt
        rw [List.length_map] at e
        omega
      refine ⟨_, rfl, _, rfl, a, _, _, .int ns[i], rfl, rfl, hS, atI_nat (by rw [List.getElem?_map, List.getElem?_eq_getElem hlt']; rfl), _, rfl, ?_⟩
      refine ⟨_, rfl, _, _, rfl, rfl, .inl ⟨by decide, by decide⟩, _, _, rfl, rfl, _, _, rfl, ?_⟩
      refine ⟨_, rfl, 63, rfl, a, _, rfl, hS, fun c nc => ?_⟩
      have nc0 : H c = none := nc
      refine ⟨c, C, rfl, SqL.of (by rw [upd_same, hC]), fun j m σ H3 => ∃ (y3 : Int) (y4 y5 : Option V), σ = [some (.ref a), some (.int i), some (.int (if ns[i] < 0 then -ns[i] else ns[i])), some (.int y3), y4, y5] ∧ j + m = C.length ∧ Same H H3 ∧ H3 c = some (.lst C),
        ⟨C.length, _, none, none, rfl, by omega, same_upd nc, by rw [upd_same, hC]⟩, fun j m σ H3 hW => ?_⟩
      obtain ⟨y3, y4, y5, rfl, ejm, sm, hc⟩ := hW
      by_cases hj : j < C.length
      · refine .inr ⟨⟨_, _, SqL.of hc, List.getElem?_eq_getElem hj⟩, fun σ' H' => ∃ (y3 : Int) (y4 y5 : Option V), σ' = [some (.ref a), some (.int i), some (.int (if ns[i] < 0 then -ns[i] else ns[i])), some (.int y3), y4, y5] ∧ Same H H' ∧ H' c = some (.lst C), fun σ' H' hN => ?_, fun x H' hy => ?_⟩
        · obtain ⟨z3, z4, z5, e, sm', hc'⟩ := hN
          exact ⟨m - 1, by omega, z3, z4, z5, e, by omega, sm', hc'⟩
        · obtain ⟨tp, x1, rfl, nT, rfl, f1⟩ := hy
          have g1 := f1 _ (SqL.of hc)
          obtain ⟨z, rfl⟩ := cut63 x1 (List.mem_of_getElem? g1)
          have hcT : (upd H3 tp (.tup [.int (j : Nat), .int z])) c = some (.lst C) := same_upd nT _ _ hc
          refine ⟨tp, _, rfl, SqT.of upd_same, rfl, _, _, rfl, _, _, rfl, rfl, ?_⟩
          refine ⟨_, rfl, _, _, rfl, rfl, .inr ⟨by decide, by decide⟩, _, rfl, .inl ⟨_, rfl, _, _, rfl, rfl, (by show (0 : Int) < 2147483629; decide), _, _, rfl, rfl, _, rfl, _, _, rfl, rfl, .inl ⟨by decide, by decide⟩, _, _, rfl, rfl, ?_⟩⟩
          refine .inl ⟨_, rfl, _, _, rfl, rfl, (by show (0 : Int) < 2147483647; decide), ?_⟩
          exact ⟨_, _, _, rfl, sm.trans (same_upd nT), hcT⟩
      · refine .inl ⟨⟨_, SqL.of hc, by omega⟩, ?_⟩
        refine ⟨_, rfl, _, _, rfl, rfl, ⟨by decide, by decide, by decide⟩, _, _, rfl, rfl, _, rfl, ?_⟩
        refine ite2 (fun _ => ?_) (fun _ => ?_)
        all_goals
          first
            | refine ⟨_, rfl, _, rfl, (by show 2 ≤ sizeLine; decide), fun p np => ?_⟩
            | refine ⟨_, rfl, (by show 2 ≤ sizeLine; decide), fun p np => ?_⟩
          exact q _ p (sm.trans (same_upd np)) (sm.free np) ⟨_, _, upd_same⟩
    · refine ⟨_, rfl, _, _, rfl, rfl, .inl ⟨by decide, by decide⟩, _, _, rfl, rfl, _, _, rfl, ?_⟩
      refine ⟨_, rfl, 63, rfl, a, _, rfl, hS, fun c nc => ?_⟩
      have nc0 : H c = none := nc
      refine ⟨c, C, rfl, SqL.of (by rw [upd_same, hC]), fun j m σ H3 => ∃ (y3 : Int) (y4 y5 : Option V), σ = [some (.ref a), some (.int i), some (.int 0), some (.int y3), y4, y5] ∧ j + m = C.length ∧ Same H H3 ∧ H3 c = some (.lst C),
        ⟨C.length, _, none, none, rfl, by omega, same_upd nc, by rw [upd_same, hC]⟩, fun j m σ H3 hW => ?_⟩
      obtain ⟨y3, y4, y5, rfl, ejm, sm, hc⟩ := hW
      by_cases hj : j < C.length
      · refine .inr ⟨⟨_, _, SqL.of hc, List.getElem?_eq_getElem hj⟩, fun σ' H' => ∃ (y3 : Int) (y4 y5 : Option V), σ' = [some (.ref a), some (.int i), some (.int 0), some (.int y3), y4, y5] ∧ Same H H' ∧ H' c = some (.lst C), fun σ' H' hN => ?_, fun x H' hy => ?_⟩
        · obtain ⟨z3, z4, z5, e, sm', hc'⟩ := hN
          exact ⟨m - 1, by omega, z3, z4, z5, e, by omega, sm', hc'⟩
        · obtain ⟨tp, x1, rfl, nT, rfl, f1⟩ := hy
          have g1 := f1 _ (SqL.of hc)
          obtain ⟨z, rfl⟩ := cut63 x1 (List.mem_of_getElem? g1)
          have hcT : (upd H3 tp (.tup [.int (j : Nat), .int z])) c = some (.lst C) := same_upd nT _ _ hc
          refine ⟨tp, _, rfl, SqT.of upd_same, rfl, _, _, rfl, _, _, rfl, rfl, ?_⟩
          refine ⟨_, rfl, _, _, rfl, rfl, .inr ⟨by decide, by decide⟩, _, rfl, .inl ⟨_, rfl, _, _, rfl, rfl, (by show (0 : Int) < 2147483629; decide), _, _, rfl, rfl, _, rfl, _, _, rfl, rfl, .inl ⟨by decide, by decide⟩, _, _, rfl, rfl, ?_⟩⟩
          refine .inl ⟨_, rfl, _, _, rfl, rfl, (by show (0 : Int) < 2147483647; decide), ?_⟩
          exact ⟨_, _, _, rfl, sm.trans (same_upd nT), hcT⟩
      · refine .inl ⟨⟨_, SqL.of hc, by omega⟩, ?_⟩
        refine ⟨_, rfl, _, _, rfl, rfl, ⟨by decide, by decide, by decide⟩, _, _, rfl, rfl, _, rfl, ?_⟩
        refine ite2 (fun _ => ?_) (fun _ => ?_)
        all_goals
          first
            | refine ⟨_, rfl, _, rfl, (by show 2 ≤ sizeLine; decide), fun p np => ?_⟩
            | refine ⟨_, rfl, (by show 2 ≤ sizeLine; decide), fun p np => ?_⟩
          exact q _ p (sm.trans (same_upd np)) (sm.free np) ⟨_, _, upd_same⟩
theorem scTake : FnScope ["_law_bag_here", "_law_many", "_law_digit"] ["_law_bag_here", "_law_many"] (defScope sTake) := ⟨rfl, rfl, rfl, by decide +kernel, rfl, by decide +kernel, by decide +kernel⟩
theorem ok_take {f : Addr} {fd : FuncData} {k : Nat} (F : Fun K "_law_take" "_law_take" sTake f fd) (T : Nb mg) : FnOk P w K mg base CX0 (k + 1) f fd ["_law_bag_here", "_law_many"] spTake := by
  refine F.ok scTake (fun vs H Q E h => ?_) (fun cdv A outer s H vs Q E hr h => ?_)
  · obtain ⟨p, m, rfl, _⟩ := h
    rfl
  · obtain ⟨p, m, rfl, ⟨x, y, hp⟩, hm, hm2, q⟩ := h
    refine ⟨_, pss_cons (ps_if (pt_cmpR op_gt (pe_ix ix_list (pv 0) pe_int (fun _ _ => rfl)) pe_int (nomark _))
        (pss_cons (ps_set (i := 2) scTake.nd rfl (.inl rfl) (pe_op op_mod (pe_callTy call_int1 (by rfl) T.int (by decide +kernel) (pa_cons (pe_ix ix_list (pv 0) pe_int (fun _ _ => rfl)) pa_nil)) (pv 1)))
        (pss_cons (ps_asg (pe_op op_fdiv (pe_ix ix_list (pv 0) pe_int (fun _ _ => rfl)) (pv 1)) (pg_sub (pv 0) pe_int set_list))
        (pss_one (ps_ret (pv 2))))) pss_nil)
      (pss_cons (ps_asg (pe_op op_mod (pe_callTy call_int1 (by rfl) T.int (by decide +kernel) (pa_cons (pe_op op_add (pe_op op_mul (pe_ix ix_list (pv 0) pe_int (fun _ _ => rfl)) pe_int) pe_int) pa_nil)) pe_int) (pg_sub (pv 0) pe_int set_list))
      (pss_one (ps_ret (pe_op op_mod (pe_op op_fdiv (pe_op op_mod (pe_callTy call_int1 (by rfl) T.int (by decide +kernel) (pa_cons (pe_op op_mul (pe_op op_fdiv (pe_ix ix_list (pv 0) pe_int (fun _ _ => rfl)) pe_int) pe_int) pa_nil)) pe_int) pe_int) (pv 1))))), ?_⟩
    have i0 : atI [V.int x, V.int y] 0 = some (.int x) := atI_nat (j := 0) rfl
    have i1 : atI [V.int x, V.int y] 1 = some (.int y) := atI_nat (j := 1) rfl
    refine ⟨_, rfl, p, _, 0, _, rfl, rfl, SqL.of hp, i0, _, _, rfl, rfl, _, rfl, ?_⟩
    refine ite2 (fun hx => ?_) (fun hx => ?_)
    · refine ⟨_, rfl, p, _, 0, _, rfl, rfl, SqL.of hp, i0, .inl ⟨_, rfl, _, rfl, _, _, rfl, rfl, hm, ?_⟩⟩
      refine ⟨_, rfl, p, _, 0, _, rfl, rfl, SqL.of hp, i0, _, rfl, _, _, rfl, rfl, ⟨hm, by omega⟩, ?_⟩
      refine ⟨_, rfl, p, _, 0, 0, rfl, rfl, hp, rfl, ?_⟩
      refine ⟨_, rfl, ?_⟩
      exact q _ _ _ (Int.emod_nonneg _ (by omega)) (Int.emod_lt_of_pos _ hm)
    · refine ⟨_, rfl, p, _, 1, _, rfl, rfl, SqL.of hp, i1, _, _, rfl, rfl, .inr ⟨by decide, by decide⟩, _, _, rfl, rfl, .inl ⟨_, rfl, _, _, rfl, rfl, (by show (0 : Int) < 2147483629; decide), ?_⟩⟩
      refine ⟨_, rfl, p, _, 1, 1, rfl, rfl, hp, rfl, ?_⟩
      refine ⟨_, rfl, p, _, 1, _, rfl, rfl, SqL.of upd_same, atI_nat (j := 1) rfl, _, _, rfl, rfl, ⟨by decide, by decide⟩, _, _, rfl, rfl, .inr ⟨by decide, by decide⟩, .inl ⟨_, rfl, _, _, rfl, rfl, (by show (0 : Int) < 2147483587; decide), ?_⟩⟩
      refine ⟨_, _, rfl, rfl, ⟨by decide, by decide⟩, _, rfl, _, _, rfl, rfl, hm, ?_⟩
      exact q _ _ _ (Int.emod_nonneg _ (by omega)) (Int.emod_lt_of_pos _ hm)
end
end TX
namespace TX
open PySem PySem.Spec PyProof.Rows L2
/-! ### values as data -/
def Lt (z : Str) : Prop := ∀ c ∈ z.cps.toList, 97 ≤ c ∧ c ≤ 122
mutual
def valD : PyData → Prop
  | .none => True
  | .str x => Lt x
  | .list xs => valAll xs
  | _ => False
def valAll : List PyData → Prop
  | [] => True
  | d :: ds => valD d ∧ valAll ds
end
mutual
def sz : PyData → Nat
  | .str x => x.length + 1
  | .list xs => szAll xs + 1
  | _ => 1
def szAll : List PyData → Nat
  | [] => 0
  | d :: ds => sz d + szAll ds
end
theorem szAll_append : ∀ (a b : List PyData), szAll (a ++ b) = szAll a + szAll b
  | [], b => by simp [szAll]
  | d :: a, b => by
    rw [List.cons_append, szAll, szAll, szAll_append a b]
    omega
theorem valAll_append : ∀ (a b : List PyData), valAll (a ++ b) ↔ valAll a ∧ valAll b
  | [], b => by simp [valAll]
  | d :: a, b => by
    rw [List.cons_append, valAll, valAll, valAll_append a b]
    exact ⟨fun ⟨x, y, z⟩ => ⟨⟨x, y⟩, z⟩, fun ⟨⟨x, y⟩, z⟩ => ⟨x, y, z⟩⟩
theorem depthAll_append : ∀ (a b : List PyData), PyData.depthAll (a ++ b) = max (PyData.depthAll a) (PyData.depthAll b)
  | [], b => by simp [PyData.depthAll]
  | d :: a, b => by
    rw [List.cons_append, PyData.depthAll, PyData.depthAll, depthAll_append a b]
    omega
theorem DpAll.get {K : PySem.W.Frag} {H : Hp} : ∀ {ds : List PyData} {vs : List V} {i : Nat} {v : V}, DpAll K H vs ds → vs[i]? = some v → ∃ d, ds[i]? = some d ∧ Dp K H v d
  | [], _, i, v, h, e => by
    cases h
    simp at e
  | d :: ds, _, 0, v, h, e => by
    cases h with
    | cons h1 h2 =>
      simp at e
      subst e
      exact ⟨d, rfl, h1⟩
  | d :: ds, _, i + 1, v, h, e => by
    cases h with
    | cons h1 h2 =>
      obtain ⟨d', e1, e2⟩ := DpAll.get (ds := ds) (i := i) h2 (by simpa using e)
      exact ⟨d', by simpa using e1, e2⟩
theorem val_get : ∀ {ds : List PyData} {i : Nat} {d : PyData}, valAll ds → ds[i]? = some d → valD d
  | [], i, d, h, e => by simp at e
  | x :: ds, 0, d, h, e => by
    simp at e
    subst e
    exact h.1
  | x :: ds, i + 1, d, h, e => val_get h.2 (by simpa using e)
theorem depth_get : ∀ {ds : List PyData} {i : Nat} {d : PyData}, ds[i]? = some d → d.depth ≤ PyData.depthAll ds
  | [], i, d, e => by simp at e
  | x :: ds, 0, d, e => by
    simp at e
    subst e
    simp only [PyData.depthAll]
    omega
  | x :: ds, i + 1, d, e => by
    have := depth_get (ds := ds) (i := i) (d := d) (by simpa using e)
    simp only [PyData.depthAll]
    omega
theorem sz_get : ∀ {ds : List PyData} {i : Nat} {d : PyData}, ds[i]? = some d → sz d ≤ szAll ds
  | [], i, d, e => by simp at e
  | x :: ds, 0, d, e => by
    simp at e
    subst e
    simp only [szAll]
    omega
  | x :: ds, i + 1, d, e => by
    have := sz_get (ds := ds) (i := i) (d := d) (by simpa using e)
    simp only [szAll]
    omega
theorem szAll_sum : ∀ ds : List PyData, ((ds.map fun d => ((sz d : Nat) : Int)).sum : Int) = ((szAll ds : Nat) : Int)
  | [] => rfl
  | d :: ds => by
    rw [List.map_cons, List.sum_cons, szAll_sum ds, szAll]
    omega
theorem szAll_len : ∀ ds : List PyData, ds.length ≤ szAll ds
  | [] => by simp
  | d :: ds => by
    have := szAll_len ds
    have h1 : 1 ≤ sz d := by cases d <;> simp [sz]
    rw [szAll, List.length_cons]
    omega
/-! ### isinstance against one built-in type -/
theorem kitL (d : PyData) (K : PySem.W.Frag) : PySem.W.kitOne K (.type (tyD d)) (.type "list") = some (tyD d == "list") := by
  cases d with
  | none => exact (kit_ty (a := "NoneType") (b := "list") (r := false) (by decide +kernel)).trans (by simp [tyD])
  | bool _ => exact (kit_ty (a := "bool") (b := "list") (r := false) (by decide +kernel)).trans (by simp [tyD])
  | int _ => exact (kit_ty (a := "int") (b := "list") (r := false) (by decide +kernel)).trans (by simp [tyD])
  | str _ => exact (kit_ty (a := "str") (b := "list") (r := false) (by decide +kernel)).trans (by simp [tyD])
  | list _ => exact (kit_ty (a := "list") (b := "list") (r := true) (by decide +kernel)).trans (by simp [tyD])
  | tuple _ => exact (kit_ty (a := "tuple") (b := "list") (r := false) (by decide +kernel)).trans (by simp [tyD])
  | dict _ => exact (kit_ty (a := "dict") (b := "list") (r := false) (by decide +kernel)).trans (by simp [tyD])
theorem kitS (d : PyData) (K : PySem.W.Frag) : PySem.W.kitOne K (.type (tyD d)) (.type "str") = some (tyD d == "str") := by
  cases d with
  | none => exact (kit_ty (a := "NoneType") (b := "str") (r := false) (by decide +kernel)).trans (by simp [tyD])
  | bool _ => exact (kit_ty (a := "bool") (b := "str") (r := false) (by decide +kernel)).trans (by simp [tyD])
  | int _ => exact (kit_ty (a := "int") (b := "str") (r := false) (by decide +kernel)).trans (by simp [tyD])
  | str _ => exact (kit_ty (a := "str") (b := "str") (r := true) (by decide +kernel)).trans (by simp [tyD])
  | list _ => exact (kit_ty (a := "list") (b := "str") (r := false) (by decide +kernel)).trans (by simp [tyD])
  | tuple _ => exact (kit_ty (a := "tuple") (b := "str") (r := false) (by decide +kernel)).trans (by simp [tyD])
  | dict _ => exact (kit_ty (a := "dict") (b := "str") (r := false) (by decide +kernel)).trans (by simp [tyD])
structure Nv (mg : Str → Option Value) : Prop where
  range : mg "range" = none
  sum : mg "sum" = none
  min : mg "min" = none
/-! ### _law_text -/
def spText : Sp := fun vs H Q _ => ∃ (p : Addr) (m : Int), vs = [.ref p, .int m] ∧ BagAt H p ∧ 0 ≤ m ∧ m ≤ 1000 ∧
  ∀ (H' : Hp) (z : Str), (∀ b o, b ≠ p → H b = some o → H' b = some o) → BagAt H' p → Lt z → (z.length : Int) ≤ m → Q (.str z) H'
theorem lt_append {a b : Str} (h : Lt a) (g : Lt b) : Lt (a ++ b) := by
  intro c hc
  have e : (a ++ b).cps.toList = a.cps.toList ++ b.cps.toList := by
    show (a.cps ++ b.cps).toList = _
    simp
  rw [e] at hc
  rcases List.mem_append.mp hc with x | x
  · exact h c x
  · exact g c x
section
variable {P : Program} {w : World} {K : PySem.W.Frag} {mg : Str → Option Value} {base : Heap}
theorem scText : FnScope ["_law_bag_here", "_law_most", "_law_word", "_law_signs", "_law_turn"] ["_law_bag_here", "_law_most"] (defScope sText) := ⟨rfl, rfl, rfl, by decide +kernel, rfl, by decide +kernel, by decide +kernel⟩
theorem ok_text {f fT : Addr} {fd fdT : FuncData} (F : Fun K "_law_text" "_law_text" sText f fd) (B : Nb mg) (N : Nv mg) (FT : Fun K "_law_take" "_law_take" sTake fT fdT) (bT : Binds K fdT ["_law_bag_here", "_law_many"] []) (gT : mg "_law_take" = some (.ref fT)) :
    FnOk P w K mg base CX0 2 f fd ["_law_bag_here", "_law_most"] spText := by
  have GT : FnOk P w K mg base CX0 1 fT fdT ["_law_bag_here", "_law_many"] spTake := ok_take FT B
  refine F.ok scText (fun vs H Q E h => ?_) (fun cdv A outer s H vs Q E hr h => ?_)
  · obtain ⟨p, m, rfl, _⟩ := h
    rfl
  · obtain ⟨p, m, rfl, bag, hm0, hm1, q⟩ := h
    refine ⟨_, pss_cons (ps_par (i := 2) (j := 3) rfl scText.nd rfl rfl (by decide) rfl rfl (pa_cons pe_str (pa_cons (pe_ix ix_list (pe_lst (pa_cons pe_str (pa_cons pe_str (pa_cons pe_str pa_nil)))) (pe_call GT hr (by rfl) gT FT.kp bT .nil pass0 (pa_cons (pv 0) (pa_cons pe_int pa_nil))) (fun _ _ => rfl)) pa_nil)) (by rfl))
      (pss_cons (ps_for PassesOwn.never rfl (pi_range1 (by rfl) N.range (pa_cons (pe_call GT hr (by rfl) gT FT.kp bT .nil pass0 (pa_cons (pv 0) (pa_cons (pe_op op_add (pv 1) pe_int) pa_nil))) pa_nil)) (pg_name (i := 4) scText.nd rfl (.inl rfl))
        (pss_one (ps_set (i := 2) scText.nd rfl (.inl rfl) (pe_op op_add_str (pv 2) (pe_ix ix_str (pv 3) (pe_call GT hr (by rfl) gT FT.kp bT .nil pass0 (pa_cons (pv 0) (pa_cons (pe_callB call_len_str (by rfl) B.len PySem.boot_len (pa_cons (pv 3) pa_nil)) pa_nil))) (fun _ _ => rfl))))))
      (pss_one (ps_ret (pv 2)))), ?_⟩
    refine ⟨(by show 3 ≤ sizeLine; decide), fun l nl => ?_⟩
    have bag1 : BagAt (upd H l (.lst [.str "abcdefghijklmnopqrstuvwxyz", .str "ab", .str "za"])) p := let ⟨x, y, e⟩ := bag; ⟨x, y, same_upd nl _ _ e⟩
    have lp : l ≠ p := fun e => by
      obtain ⟨x, y, e2⟩ := bag
      rw [e, e2] at nl
      cases nl
    refine ⟨_, rfl, p, 3, rfl, bag1, by decide, by decide, fun x1 y1 k hk0 hk1 => ?_⟩
    have hl : (upd (upd H l (.lst [.str "abcdefghijklmnopqrstuvwxyz", .str "ab", .str "za"])) p (.lst [.int x1, .int y1])) l = some (.lst [.str "abcdefghijklmnopqrstuvwxyz", .str "ab", .str "za"]) := by
      rw [upd_ne lp, upd_same]
    have kp : ∀ b o, b ≠ p → H b = some o → (upd (upd H l (.lst [.str "abcdefghijklmnopqrstuvwxyz", .str "ab", .str "za"])) p (.lst [.int x1, .int y1])) b = some o := fun b o hb e => by
      rw [upd_ne hb]
      exact same_upd nl _ _ e
    have bag2 : BagAt (upd (upd H l (.lst [.str "abcdefghijklmnopqrstuvwxyz", .str "ab", .str "za"])) p (.lst [.int x1, .int y1])) p := ⟨_, _, upd_same⟩
    generalize upd (upd H l (.lst [.str "abcdefghijklmnopqrstuvwxyz", .str "ab", .str "za"])) p (.lst [.int x1, .int y1]) = G at hl kp bag2
    obtain ⟨sg, hsg, hat⟩ : ∃ sg : Str, (0 < sg.length ∧ sg.length ≤ 26 ∧ Lt sg) ∧ atI ([.str "abcdefghijklmnopqrstuvwxyz", .str "ab", .str "za"] : List V) k = some (.str sg) := by
      obtain rfl | rfl | rfl : k = 0 ∨ k = 1 ∨ k = 2 := by omega
      · exact ⟨"abcdefghijklmnopqrstuvwxyz", ⟨by decide +kernel, by decide +kernel, by unfold Lt; decide +kernel⟩, atI_nat (j := 0) rfl⟩
      · exact ⟨"ab", ⟨by decide +kernel, by decide +kernel, by unfold Lt; decide +kernel⟩, atI_nat (j := 1) rfl⟩
      · exact ⟨"za", ⟨by decide +kernel, by decide +kernel, by unfold Lt; decide +kernel⟩, atI_nat (j := 2) rfl⟩
    refine ⟨l, _, k, _, rfl, rfl, SqL.of hl, hat, _, _, rfl, ?_⟩
    refine ⟨_, rfl, _, rfl, _, _, rfl, rfl, p, m + 1, rfl, bag2, by omega, by omega, fun x2 y2 t ht0 ht1 => ?_⟩
    refine ⟨t, rfl, by omega, by omega, for_range (lo := 0) (n := t.toNat) (fun i σ H2 => ∃ (z : Str) (y4 : Option V), σ = [some (.ref p), some (.int m), some (.str z), some (.str sg), y4] ∧ (∀ b o, b ≠ p → H b = some o → H2 b = some o) ∧ BagAt H2 p ∧ Lt z ∧ z.length = i) ?_ ?_ ?_⟩
    · refine ⟨"", none, rfl, fun b o hb e => by rw [upd_ne hb]; exact kp b o hb e, ⟨_, _, upd_same⟩, by unfold Lt; decide +kernel, by decide +kernel⟩
    · rintro i σ H2 hi ⟨z, y4, rfl, k2, b2, lz, ez⟩
      have hsl : sg.length ≤ sizeLine := Nat.le_trans hsg.2.1 (by decide)
      refine ⟨_, rfl, _, rfl, _, rfl, _, rfl, sg, rfl, hsl, p, (sg.length : Int), rfl, b2, by omega, by omega, fun x3 y3 c hc0 hc1 => ?_⟩
      obtain ⟨j, rfl⟩ : ∃ j : Nat, c = j := ⟨c.toNat, by omega⟩
      have hjl : j < sg.cps.toList.length := by
        have e : sg.cps.toList.length = sg.length := by simp [Str.length]
        omega
      have hcj : sg.cps.toList[j]? = some sg.cps.toList[j] := List.getElem?_eq_getElem hjl
      have lone : Lt ⟨#[sg.cps.toList[j]]⟩ := by
        intro c hc
        have e : c = sg.cps.toList[j] := by simpa using hc
        rw [e]
        exact hsg.2.2 _ (List.getElem_mem hjl)
      have one : (⟨#[sg.cps.toList[j]]⟩ : Str).length = 1 := rfl
      refine ⟨sg, _, _, rfl, rfl, hsl, atI_nat hcj, _, _, rfl, rfl, ?_, ?_⟩
      · rw [one, ez]
        exact Nat.le_trans (show i + 1 ≤ 2000 by omega) (by decide)
      · refine ⟨_, _, rfl, fun b o hb e => by rw [upd_ne hb]; exact k2 b o hb e, ⟨_, _, upd_same⟩, lt_append lz lone, ?_⟩
        rw [strLen_append, one, ez]
    · rintro σ H2 ⟨z, y4, rfl, k2, b2, lz, ez⟩
      exact ⟨_, rfl, q H2 z k2 b2 lz (by omega)⟩
/-! ### _law_size: one level more for each depth -/
def spSize (K : PySem.W.Frag) (N : Nat) : Sp := fun vs H Q _ => ∃ (v : V) (d : PyData) (Hv : Hp), vs = [v] ∧ Same Hv H ∧ Dp K Hv v d ∧ valD d ∧ d.depth ≤ N ∧ sz d ≤ 1000000 ∧ ∀ H', Same H H' → Q (.int (sz d : Nat)) H'
theorem scSize : FnScope ["_law_value_here", "_law_one"] ["_law_value_here"] (defScope sSize) := ⟨rfl, rfl, rfl, by decide +kernel, rfl, by decide +kernel, by decide +kernel⟩
/-- what is no list: one, or one more than the letters -/
theorem val_leaf {K : PySem.W.Frag} {H : Hp} {v : V} {d : PyData} (h : Dp K H v d) (hv : valD d) (e : (tyD d == "list") = false) : (v = .non ∧ d = .none) ∨ ∃ x, v = .str x ∧ d = .str x := by
  cases h with
  | non => exact .inl ⟨rfl, rfl⟩
  | str x => exact .inr ⟨x, rfl, rfl⟩
  | bl _ => exact hv.elim
  | int _ => exact hv.elim
  | lst _ _ => simp [tyD] at e
  | tup _ _ => exact hv.elim
theorem ok_size {f : Addr} {fd : FuncData} (F : Fun K "_law_size" "_law_size" sSize f fd) (T : Nm mg) (B : Nb mg) (Y : Nv mg) (b : Binds K fd ["_law_value_here"] []) (g : mg "_law_size" = some (.ref f)) : ∀ N : Nat, FnOk P w K mg base CX0 (N + 1) f fd ["_law_value_here"] (spSize K N)
  | 0 => by
    refine F.ok scSize (fun vs H Q E h => ?_) (fun cdv A outer s H vs Q E hr h => ?_)
    · obtain ⟨v, d, Hv, rfl, _⟩ := h
      rfl
    · obtain ⟨v, d, Hv, rfl, sv, hd, hv, hz, hn, q⟩ := h
      refine ⟨_, pss_cons (ps_if (pt_val (pe_callB call_isi (by rfl) T.isi (by decide +kernel) (pa_cons (pv 0) (pa_cons (pe_bltn (v := .ty "list") (by rfl) T.lst (by decide +kernel) rfl) pa_nil)))) pss_never pss_nil)
        (pss_one (ps_ret (pe_ifExp (pt_cmp (pc_isN (pv 0))) pe_int (pe_op op_add pe_int (pe_callB call_len_str (by rfl) B.len PySem.boot_len (pa_cons (pv 0) pa_nil)))))), ?_⟩
      refine ⟨_, rfl, v, .ty "list", .type (tyD d), .type "list", _, rfl, .ty _, dp_ty (dp_same sv _ _ hd), kitL d K, _, rfl, ?_⟩
      have e : (tyD d == "list") = false := by
        cases hd with
        | lst _ _ => simp [PyData.depth] at hz
        | _ => simp [tyD]
      rw [e]
      refine iteF ?_
      rcases val_leaf hd hv e with ⟨rfl, rfl⟩ | ⟨x, rfl, rfl⟩
      · exact ⟨_, rfl, _, rfl, iteT (q H (Same.refl _))⟩
      · refine ⟨_, rfl, _, rfl, iteF ⟨_, rfl, x, rfl, Nat.le_trans (show x.length ≤ 1000000 by simp only [sz] at hn; omega) (by decide), _, _, rfl, rfl, ?_⟩⟩
        have e2 : (1 : Int) + ((x.length : Nat) : Int) = ((sz (.str x) : Nat) : Int) := by simp only [sz]; omega
        show Q (.int (1 + ((x.length : Nat) : Int))) H
        rw [e2]
        exact q H (Same.refl _)
  | N + 1 => by
    have G := ok_size F T B Y b g N
    refine F.ok scSize (fun vs H Q E h => ?_) (fun cdv A outer s H vs Q E hr h => ?_)
    · obtain ⟨v, d, Hv, rfl, _⟩ := h
      rfl
    · obtain ⟨v, d, Hv, rfl, sv, hd, hv, hz, hn, q⟩ := h
      refine ⟨_, pss_cons (ps_if (pt_val (pe_callB call_isi (by rfl) T.isi (by decide +kernel) (pa_cons (pv 0) (pa_cons (pe_bltn (v := .ty "list") (by rfl) T.lst (by decide +kernel) rfl) pa_nil))))
          (pss_one (ps_ret (pe_op op_add pe_int (pe_callB (cr_sum rfl) (by rfl) Y.sum (by decide +kernel) (pa_cons (pe_lc (own := [("_law_one", 1)]) (g := gName 1) (tt := tYes) (te := tCall (spSize K N) [] E0 (tCons (tVar 1) tNil)) rfl scSize.nd (pi_list (pv 0))
            (blkOk_by (own := [("_law_one", 1)]) (N := ["_law_value_here", "_law_one"]) (sc := defScope sSize) (by decide +kernel)) (fun _ _ _ _ _ => pg_name (i := 1) scSize.nd rfl (Or.inl rfl)) (fun _ _ _ _ _ => pts_nil)
            (fun _ _ _ _ _ => pe_call G hr (by rfl) g F.kp b .nil pass0 (pa_cons (pv 1) pa_nil))) pa_nil))))) pss_nil)
        (pss_one (ps_ret (pe_ifExp (pt_cmp (pc_isN (pv 0))) pe_int (pe_op op_add pe_int (pe_callB call_len_str (by rfl) B.len PySem.boot_len (pa_cons (pv 0) pa_nil)))))), ?_⟩
      refine ⟨_, rfl, v, .ty "list", .type (tyD d), .type "list", _, rfl, .ty _, dp_ty (dp_same sv _ _ hd), kitL d K, _, rfl, ?_⟩
      by_cases e : (tyD d == "list") = true
      · rw [e]
        refine iteT ?_
        cases hd with
        | @lst a xs es h1 h2 =>
          have hl : xs.length = es.length := DpAll.length h2
          have hvs : valAll es := hv
          have hz2 : PyData.depthAll es ≤ N := by
            simp only [PyData.depth] at hz
            omega
          have hn2 : szAll es + 1 ≤ 1000000 := by simpa only [sz] using hn
          refine ⟨_, rfl, a, rfl, ⟨_, sv.seq h1⟩, fun D nD => lc_list (K := K) (a := a) (xs := xs) (fun i H' => H' D = some (.lst ((es.take i).map fun e => V.int ((sz e : Nat) : Int))) ∧ Same H H') ⟨upd_same, same_upd nD⟩ (fun i H' hi ⟨_, sm⟩ => sm.seq (sv.seq h1)) ?_ ?_⟩
          · rintro i x H' hx ⟨k1, k2⟩
            obtain ⟨ei, hei, dei⟩ := DpAll.get h2 hx
            refine ⟨rfl, x, rfl, x, ei, Hv, rfl, sv.trans k2, dei, val_get hvs hei, Nat.le_trans (depth_get hei) hz2, Nat.le_trans (sz_get hei) (by omega), fun H'' s2 => ?_⟩
            have il := (List.getElem?_eq_some_iff.mp hei).1
            have el := szAll_len es
            refine ⟨_, s2 _ _ k1, Nat.lt_of_le_of_lt (show ((es.take i).map fun e => V.int ((sz e : Nat) : Int)).length ≤ 1000000 by rw [List.length_map, List.length_take]; omega) (by decide), ?_, same_fresh nD (k2.trans s2)⟩
            rw [upd_same, List.take_add_one, hei, List.map_append]
            rfl
          · rintro H' ⟨k1, k2⟩
            rw [hl, List.take_length] at k1
            have k1' : H' D = some (.lst ((es.map fun e => ((sz e : Nat) : Int)).map V.int)) := by
              rw [k1, List.map_map]
              rfl
            refine ⟨D, _, rfl, SqL.of k1', _, _, rfl, rfl, ?_⟩
            have e2 : (1 : Int) + (es.map fun e => ((sz e : Nat) : Int)).sum = ((sz (.list es) : Nat) : Int) := by
              rw [szAll_sum, sz]
              omega
            show Q (.int (1 + (es.map fun e => ((sz e : Nat) : Int)).sum)) H'
            rw [e2]
            exact q H' k2
        | _ => simp [tyD] at e
      · have e' : (tyD d == "list") = false := by simpa using e
        rw [e']
        refine iteF ?_
        rcases val_leaf hd hv e' with ⟨rfl, rfl⟩ | ⟨x, rfl, rfl⟩
        · exact ⟨_, rfl, _, rfl, iteT (q H (Same.refl _))⟩
        · refine ⟨_, rfl, _, rfl, iteF ⟨_, rfl, x, rfl, Nat.le_trans (show x.length ≤ 1000000 by simp only [sz] at hn; omega) (by decide), _, _, rfl, rfl, ?_⟩⟩
          have e2 : (1 : Int) + ((x.length : Nat) : Int) = ((sz (.str x) : Nat) : Int) := by simp only [sz]; omega
          show Q (.int (1 + ((x.length : Nat) : Int))) H
          rw [e2]
          exact q H (Same.refl _)
end
end TX
namespace TX
open PySem PySem.Spec PyProof.Rows L2
theorem eqT {n m : Int} {A B : Prop} (h : n = m) (a : A) : if decide (V.int n = V.int m) = true then A else B := by
  rw [h, decide_eq_true rfl]
  exact iteT a
theorem eqF {n m : Int} {A B : Prop} (h : n ≠ m) (b : B) : if decide (V.int n = V.int m) = true then A else B := by
  rw [decide_eq_false fun e => h (V.int.inj e)]
  exact iteF b
theorem ltT {n m : Int} {A B : Prop} (h : n < m) (a : A) : if decide (n < m) = true then A else B := by
  rw [decide_eq_true h]
  exact iteT a
theorem ltF {n m : Int} {A B : Prop} (h : ¬ n < m) (b : B) : if decide (n < m) = true then A else B := by
  rw [decide_eq_false h]
  exact iteF b
/-! ### _law_value -/
def spValue (K : PySem.W.Frag) (N : Nat) : Sp := fun vs H Q _ => ∃ (p : Addr) (deep room : Nat), vs = [.ref p, .int deep, .int room] ∧ BagAt H p ∧ deep ≤ N ∧ 1 ≤ room ∧ room ≤ 1000 ∧
  ∀ (H' : Hp) (v : V) (d : PyData), (∀ b o, b ≠ p → H b = some o → H' b = some o) → BagAt H' p → Dp K (newp H H') v d → valD d → d.depth ≤ deep → sz d ≤ room → Q v H'
theorem szAll_snoc (ds : List PyData) (d : PyData) : szAll (ds ++ [d]) = szAll ds + sz d := by
  rw [szAll_append]
  simp [szAll]
section
variable {P : Program} {w : World} {K : PySem.W.Frag} {mg : Str → Option Value} {base : Heap}
theorem scValue : FnScope ["_law_bag_here", "_law_deep", "_law_room", "_law_pick", "_law_made", "_law_left", "_law_turn"] ["_law_bag_here", "_law_deep", "_law_room"] (defScope sValue) := ⟨rfl, rfl, rfl, by decide +kernel, rfl, by decide +kernel, by decide +kernel⟩
/-- what value calls -/
structure Vc (P : Program) (w : World) (K : PySem.W.Frag) (mg : Str → Option Value) (base : Heap) (fT fX fS : Addr) (dT dX dS : FuncData) : Prop where
  GT : FnOk P w K mg base CX0 1 fT dT ["_law_bag_here", "_law_many"] spTake
  bT : Binds K dT ["_law_bag_here", "_law_many"] []
  gT : mg "_law_take" = some (.ref fT)
  kT : PySem.W.keepIn K (.ref fT) = true
  GX : FnOk P w K mg base CX0 2 fX dX ["_law_bag_here", "_law_most"] spText
  bX : Binds K dX ["_law_bag_here", "_law_most"] []
  gX : mg "_law_text" = some (.ref fX)
  kX : PySem.W.keepIn K (.ref fX) = true
  GS : ∀ N : Nat, FnOk P w K mg base CX0 (N + 1) fS dS ["_law_value_here"] (spSize K N)
  bS : Binds K dS ["_law_value_here"] []
  gS : mg "_law_size" = some (.ref fS)
  kS : PySem.W.keepIn K (.ref fS) = true
theorem pe_ex {X : Cx} {i : Type} {e : Expr} {t : i → TE} (h : ∀ j, PE X e (t j)) : PE X e (fun σ H Q => ∃ j, t j σ H Q) := ⟨fun pins s σ H Q I ⟨j, q⟩ => (h j).run pins s σ H Q I q⟩
theorem ok_value {f fT fX fS : Addr} {fd dT dX dS : FuncData} (F : Fun K "_law_value" "_law_value" sValue f fd) (b : Binds K fd ["_law_bag_here", "_law_deep", "_law_room"] []) (g : mg "_law_value" = some (.ref f)) (Y : Nv mg) (C : Vc P w K mg base fT fX fS dT dX dS) (N : Nat)
    (G : ∀ j : { M : Nat // M + 1 = N }, FnOk P w K mg base CX0 (j.1 + 3) f fd ["_law_bag_here", "_law_deep", "_law_room"] (spValue K j.1)) : FnOk P w K mg base CX0 (N + 3) f fd ["_law_bag_here", "_law_deep", "_law_room"] (spValue K N) := by
  refine F.ok scValue (fun vs H Q E h => ?_) (fun cdv A outer s H vs Q E hr h => ?_)
  · obtain ⟨p, deep, room, rfl, _⟩ := h
    rfl
  · obtain ⟨p, deep, room, rfl, bag, hdN, hr1, hr2, q⟩ := h
    have hrT : Room 1 _ := hr.mono (by omega)
    have hrX : Room 2 _ := hr.mono (by omega)
    have hrS : Room (N + 1) _ := hr.mono (by omega)
    have hrR : ∀ j : { M : Nat // M + 1 = N }, Room (j.1 + 3) _ := fun j => hr.mono (by have := j.2; omega)
    refine ⟨_, pss_cons (ps_set (i := 3) scValue.nd rfl (.inl rfl) (pe_call C.GT hrT (by rfl) C.gT C.kT C.bT .nil pass0 (pa_cons (pv 0) (pa_cons pe_int pa_nil))))
      (pss_cons (ps_if (PW.pt (pw_or (pt_cmpR op_eq (pv 3) pe_int (nomark _)) (pw_or1 (pt_cmpR op_eq (pv 2) pe_int (nomark _)))))
        (pss_one (ps_ret (pe_ix ix_list (pe_lst (pa_cons pe_non (pa_cons pe_str (pa_cons (pe_lst pa_nil) pa_nil)))) (pe_call C.GT hrT (by rfl) C.gT C.kT C.bT .nil pass0 (pa_cons (pv 0) (pa_cons (pe_ifExp (pt_cmpR op_gt (pv 1) pe_int (nomark _)) pe_int pe_int) pa_nil))) (fun _ _ => rfl)))) pss_nil)
      (pss_cons (ps_if (PW.pt (pw_or (pt_cmpR op_eq (pv 3) pe_int (nomark _)) (pw_or1 (pt_cmpR op_eq (pv 1) pe_int (nomark _)))))
        (pss_one (ps_ret (pe_call C.GX hrX (by rfl) C.gX C.kX C.bX .nil pass0 (pa_cons (pv 0) (pa_cons (pe_callB (call_min2 rfl) (by rfl) Y.min (by decide +kernel) (pa_cons pe_int (pa_cons (pe_op op_sub (pv 2) pe_int) pa_nil))) pa_nil))))) pss_nil)
      (pss_cons (ps_par (i := 4) (j := 5) rfl scValue.nd rfl rfl (by decide) rfl rfl (pa_cons (pe_lst pa_nil) (pa_cons (pe_op op_sub (pv 2) pe_int) pa_nil)) (by rfl))
      (pss_cons (ps_for PassesOwn.never rfl (pi_range1 (by rfl) Y.range (pa_cons (pe_call C.GT hrT (by rfl) C.gT C.kT C.bT .nil pass0 (pa_cons (pv 0) (pa_cons pe_int pa_nil))) pa_nil)) (pg_name (i := 6) scValue.nd rfl (.inl rfl))
        (pss_one (ps_if (pt_cmpR op_gt (pv 5) pe_int (nomark _))
          (pss_cons (ps_expr (pe_bm PySem.F.plainAttrs_list PySem.F.slot_list_append PySem.F.type_list_append mt_append (pv 4) (pa_cons (pe_ex fun j => pe_call (G j) (hrR j) (by rfl) g F.kp b .nil pass0 (pa_cons (pv 0) (pa_cons (pe_op op_sub (pv 1) pe_int) (pa_cons (pv 5) pa_nil)))) pa_nil)))
          (pss_one (ps_set (i := 5) scValue.nd rfl (.inl rfl) (pe_op op_sub (pv 5) (pe_call (C.GS N) hrS (by rfl) C.gS C.kS C.bS .nil pass0 (pa_cons (pe_ix ix_list (pv 4) (pe_un un_neg pe_int) (fun _ _ => rfl)) pa_nil)))))) pss_nil)))
      (pss_one (ps_ret (pv 4))))))), ?_⟩
    refine ⟨_, rfl, p, 5, rfl, bag, by decide, by decide, fun x1 y1 k hk0 hk1 => ?_⟩
    have kp : ∀ b o, b ≠ p → H b = some o → upd H p (.lst [.int x1, .int y1]) b = some o := fun b o hb e => by
      rw [upd_ne hb]
      exact e
    have bag1 : BagAt (upd H p (.lst [.int x1, .int y1])) p := ⟨_, _, upd_same⟩
    have keepAll : ∀ b, H b ≠ none → upd H p (.lst [.int x1, .int y1]) b ≠ none := fun b hb => by
      by_cases e : b = p
      · rw [e, upd_same]
        exact fun z => nomatch z
      · rw [upd_ne e]
        exact hb
    have pH : H p ≠ none := by
      obtain ⟨x, y, e⟩ := bag
      rw [e]
      exact fun z => nomatch z
    generalize upd H p (.lst [.int x1, .int y1]) = G1 at kp bag1 keepAll
    have newOf : ∀ {b : Addr}, G1 b = none → H b = none := fun {b} e => Classical.byContradiction fun hb => keepAll b hb e
    -- the first return: one of three small things
    have small : (tRet (tOp (rIxL K) (tLst (tCons (tC .non) (tCons (tC (.str "")) (tCons (tLst tNil) tNil)))) (tCall spTake [] E0 (tCons (tVar 0) (tCons (tIf (tTest (tOp (rI0 fun i j => .bl (decide (j < i))) (tVar 1) (tC (.int 0)))) (tC (.int 3)) (tC (.int 2))) tNil))))) { nx := fun _ H' => Q .non H', rt := Q } [some (.ref p), some (.int deep), some (.int room), some (.int k), none, none, none] G1 := by
      refine ⟨Nat.zero_le _, fun l0 n0 => ⟨(by show 3 ≤ sizeLine; decide), fun l n => ?_⟩⟩
      have b2 : BagAt (upd (upd G1 l0 (.lst [])) l (.lst [.non, .str "", .ref l0])) p := let ⟨x, y, e⟩ := bag1; ⟨x, y, same_upd n _ _ (same_upd n0 _ _ e)⟩
      have p0 : p ≠ l0 := fun e => by
        obtain ⟨x, y, e2⟩ := bag1
        rw [← e, e2] at n0
        cases n0
      have p1 : p ≠ l := fun e => by
        obtain ⟨x, y, e2⟩ := bag1
        have e3 := same_upd n0 (o := .lst []) _ _ e2
        rw [e, n] at e3
        cases e3
      have l01 : l0 ≠ l := fun e => by
        rw [← e, upd_same] at n
        cases n
      refine ⟨_, rfl, _, rfl, _, _, rfl, rfl, _, rfl, ?_⟩
      by_cases hd0 : (0 : Int) < (deep : Int)
      · refine ltT hd0 ?_
        refine ⟨p, 3, rfl, b2, by decide, by decide, fun x2 y2 c hc0 hc1 => ?_⟩
        have hl : (upd (upd (upd G1 l0 (.lst [])) l (.lst [.non, .str "", .ref l0])) p (.lst [.int x2, .int y2])) l = some (.lst [.non, .str "", .ref l0]) := by
          rw [upd_ne p1.symm, upd_same]
        have hl0 : (upd (upd (upd G1 l0 (.lst [])) l (.lst [.non, .str "", .ref l0])) p (.lst [.int x2, .int y2])) l0 = some (.lst []) := by
          rw [upd_ne p0.symm, upd_ne l01, upd_same]
        have k2 : ∀ b o, b ≠ p → H b = some o → (upd (upd (upd G1 l0 (.lst [])) l (.lst [.non, .str "", .ref l0])) p (.lst [.int x2, .int y2])) b = some o := fun b o hb e => by
          rw [upd_ne hb]
          exact same_upd n _ _ (same_upd n0 _ _ (kp b o hb e))
        have b3 : BagAt (upd (upd (upd G1 l0 (.lst [])) l (.lst [.non, .str "", .ref l0])) p (.lst [.int x2, .int y2])) p := ⟨_, _, upd_same⟩
        obtain rfl | rfl | rfl : c = 0 ∨ c = 1 ∨ c = 2 := by omega
        · exact ⟨l, _, 0, _, rfl, rfl, SqL.of hl, atI_nat (j := 0) rfl, q _ _ .none k2 b3 .non trivial (by simp [PyData.depth]) (by simpa [sz] using hr1)⟩
        · exact ⟨l, _, 1, _, rfl, rfl, SqL.of hl, atI_nat (j := 1) rfl, q _ _ (.str "") k2 b3 (.str _) (by show Lt ""; unfold Lt; decide +kernel) (by simp [PyData.depth]) (by simp only [sz]; exact hr1)⟩
        · refine ⟨l, _, 2, _, rfl, rfl, SqL.of hl, atI_nat (j := 2) rfl, q _ _ (.list []) k2 b3 (.lst (SqL.of ?_) .nil) trivial (by simp [PyData.depth, PyData.depthAll]; omega) (by simp [sz, szAll]; exact hr1)⟩
          rw [newp_at (newOf n0)]
          exact hl0
      · refine ltF hd0 ?_
        refine ⟨p, 2, rfl, b2, by decide, by decide, fun x2 y2 c hc0 hc1 => ?_⟩
        have hl : (upd (upd (upd G1 l0 (.lst [])) l (.lst [.non, .str "", .ref l0])) p (.lst [.int x2, .int y2])) l = some (.lst [.non, .str "", .ref l0]) := by
          rw [upd_ne p1.symm, upd_same]
        have hl0 : (upd (upd (upd G1 l0 (.lst [])) l (.lst [.non, .str "", .ref l0])) p (.lst [.int x2, .int y2])) l0 = some (.lst []) := by
          rw [upd_ne p0.symm, upd_ne l01, upd_same]
        have k2 : ∀ b o, b ≠ p → H b = some o → (upd (upd (upd G1 l0 (.lst [])) l (.lst [.non, .str "", .ref l0])) p (.lst [.int x2, .int y2])) b = some o := fun b o hb e => by
          rw [upd_ne hb]
          exact same_upd n _ _ (same_upd n0 _ _ (kp b o hb e))
        have b3 : BagAt (upd (upd (upd G1 l0 (.lst [])) l (.lst [.non, .str "", .ref l0])) p (.lst [.int x2, .int y2])) p := ⟨_, _, upd_same⟩
        obtain rfl | rfl : c = 0 ∨ c = 1 := by omega
        · exact ⟨l, _, 0, _, rfl, rfl, SqL.of hl, atI_nat (j := 0) rfl, q _ _ .none k2 b3 .non trivial (by simp [PyData.depth]) (by simpa [sz] using hr1)⟩
        · exact ⟨l, _, 1, _, rfl, rfl, SqL.of hl, atI_nat (j := 1) rfl, q _ _ (.str "") k2 b3 (.str _) (by show Lt ""; unfold Lt; decide +kernel) (by simp [PyData.depth]) (by simp only [sz]; exact hr1)⟩
    refine ⟨_, rfl, rfl, _, rfl, ?_⟩
    by_cases e0 : k = 0
    · exact eqT e0 (iteT small)
    refine eqF e0 ⟨_, rfl, rfl, _, rfl, ?_⟩
    by_cases er : (room : Int) = 1
    · exact eqT er small
    refine eqF er ?_
    -- a text
    have text : (tRet (tCall spText [] E0 (tCons (tVar 0) (tCons (tCB (fun xs H Q => ∃ i j, xs = [.int i, .int j] ∧ Q (.int (if j < i then j else i)) H) (tCons (tC (.int 4)) (tCons (tOp (rI0 fun i j => .int (i - j)) (tVar 2) (tC (.int 1))) tNil))) tNil)))) { nx := fun _ H' => Q .non H', rt := Q } [some (.ref p), some (.int deep), some (.int room), some (.int k), none, none, none] G1 := by
      refine ⟨_, rfl, _, rfl, _, _, rfl, rfl, _, _, rfl, p, _, rfl, bag1, ?_, ?_, fun H' z k2 b2 lz hz => ?_⟩
      · split <;> omega
      · split <;> omega
      · refine q H' (.str z) (.str z) (fun b o hb e => k2 b o hb (kp b o hb e)) b2 (.str z) lz (by simp [PyData.depth]) ?_
        simp only [sz]
        split at hz <;> omega
    refine ⟨_, rfl, rfl, _, rfl, ?_⟩
    by_cases e1 : k = 1
    · exact eqT e1 (iteT text)
    refine eqF e1 ⟨_, rfl, rfl, _, rfl, ?_⟩
    by_cases ed : (deep : Int) = 0
    · exact eqT ed text
    refine eqF ed ?_
    clear small text
    obtain ⟨M, rfl⟩ : ∃ M, deep = M + 1 := ⟨deep - 1, by omega⟩
    -- made, left = [], room - 1
    refine ⟨Nat.zero_le _, fun m nm => ⟨_, rfl, _, _, rfl, rfl, _, _, rfl, ?_⟩⟩
    have nmH : H m = none := newOf nm
    have mp : m ≠ p := fun e => by
      rw [e] at nmH
      exact pH nmH
    have b2 : BagAt (upd G1 m (.lst [])) p := let ⟨x, y, e⟩ := bag1; ⟨x, y, same_upd nm _ _ e⟩
    refine ⟨_, rfl, p, 5, rfl, b2, by decide, by decide, fun x2 y2 c hc0 hc1 => ?_⟩
    refine ⟨c, rfl, by omega, by omega, for_range (lo := 0) (n := c.toNat) (fun i σ H2 => ∃ (left : Nat) (ws : List V) (ds : List PyData) (y6 : Option V), σ = [some (.ref p), some (.int ((M + 1 : Nat) : Int)), some (.int room), some (.int k), some (.ref m), some (.int left), y6] ∧
      (∀ b o, b ≠ p → H b = some o → H2 b = some o) ∧ BagAt H2 p ∧ H2 m = some (.lst ws) ∧ DpAll K (newB H m H2) ws ds ∧ valAll ds ∧ PyData.depthAll ds ≤ M ∧ szAll ds + left + 1 = room) ?_ ?_ ?_⟩
    · refine ⟨room - 1, [], [], none, ?_, fun b o hb e => ?_, ⟨_, _, upd_same⟩, ?_, .nil, trivial, by simp [PyData.depthAll], by simp [szAll]; omega⟩
      · have e : ((room : Int) - 1) = ((room - 1 : Nat) : Int) := by omega
        show _ = _
        rw [← e]
        rfl
      · rw [upd_ne hb]
        exact same_upd nm _ _ (kp b o hb e)
      · rw [upd_ne mp, upd_same]
    · rintro i σ H2 hi ⟨left, ws, ds, y6, rfl, k2, b2, hm2, hws, hvs, hdp, hsz⟩
      refine ⟨_, rfl, _, _, rfl, rfl, _, rfl, ?_⟩
      by_cases hl : (0 : Int) < (left : Int)
      · refine ltT hl ?_
        have em : ((M + 1 : Nat) : Int) - 1 = ((M : Nat) : Int) := by omega
        refine ⟨_, rfl, .inl ⟨rfl, _, SqL.of hm2⟩, ⟨N - 1, by omega⟩, _, rfl, _, rfl, _, _, rfl, rfl, _, rfl, p, M, left, ?_, b2, (by show M ≤ N - 1; omega), by omega, by omega, fun H3 v d k3 b3 hv vd dd ds3 => ?_⟩
        · show [V.ref p, V.int (((M + 1 : Nat) : Int) - 1), V.int left] ++ [] = _
          rw [em]
          rfl
        have hm3 : H3 m = some (.lst ws) := k3 m _ mp hm2
        have wl : ws.length ≤ 1000 := by
          have e1 := DpAll.length hws
          have e2 := szAll_len ds
          omega
        refine ⟨m, ws, v, rfl, rfl, hm3, Nat.lt_of_le_of_lt wl (by decide), ?_⟩
        have all2 : ∀ b, H b ≠ none → H2 b ≠ none := fun b hb => by
          cases e : H b with
          | none => exact absurd e hb
          | some o =>
            by_cases eb : b = p
            · rw [eb]
              obtain ⟨x, y, e2⟩ := b2
              rw [e2]
              exact fun z => nomatch z
            · rw [k2 b o eb e]
              exact fun z => nomatch z
        have old : Same (newB H m H2) (newB H m (upd H3 m (.lst (ws ++ [v])))) := fun b o e => by
          by_cases bm : b = m
          · unfold newB at e
            rw [if_pos bm] at e
            cases e
          · cases hh : H b with
            | some u =>
              unfold newB at e
              rw [if_neg bm, hh] at e
              cases e
            | none =>
              have bp : b ≠ p := fun z => by
                rw [z] at hh
                exact pH hh
              rw [newB_at hh bm] at e ⊢
              rw [upd_ne bm]
              exact k3 b o bp e
        have new : Same (newp H2 H3) (newB H m (upd H3 m (.lst (ws ++ [v])))) := fun b o e => by
          cases h2 : H2 b with
          | some u =>
            rw [newp_old h2] at e
            cases e
          | none =>
            rw [newp_at h2] at e
            have hh : H b = none := Classical.byContradiction fun z => all2 b z h2
            have bm : b ≠ m := fun z => by
              rw [z, hm2] at h2
              cases h2
            rw [newB_at hh bm, upd_ne bm]
            exact e
        have b4 : BagAt (upd H3 m (.lst (ws ++ [v]))) p := let ⟨x, y, e⟩ := b3; ⟨x, y, by rw [upd_ne mp.symm]; exact e⟩
        have k4 : ∀ b o, b ≠ p → H b = some o → (upd H3 m (.lst (ws ++ [v]))) b = some o := fun b o hb e => by
          rw [upd_ne (ne_of_none e nmH)]
          exact k3 b o hb (k2 b o hb e)
        have hm4 : (upd H3 m (.lst (ws ++ [v]))) m = some (.lst (ws ++ [v])) := upd_same
        have vnew : Dp K (newB H m (upd H3 m (.lst (ws ++ [v])))) v d := dp_same new _ _ hv
        have all4 : DpAll K (newB H m (upd H3 m (.lst (ws ++ [v])))) (ws ++ [v]) (ds ++ [d]) := DpAll.append (dpAll_same old _ _ hws) (.cons vnew .nil)
        generalize upd H3 m (.lst (ws ++ [v])) = G4 at b4 k4 hm4 vnew all4
        have sub : Same (newB H m G4) G4 := fun b o e => newp_same _ _ (newB_newp _ _ e)
        -- left = left - size(made[-1])
        refine ⟨_, rfl, _, rfl, 1, rfl, m, _, -1, v, rfl, rfl, SqL.of hm4, atI_last _ _, v, d, newB H m G4, rfl, sub, vnew, vd, by omega, by omega, fun H5 s5 => ?_⟩
        refine ⟨_, _, rfl, rfl, left - sz d, ws ++ [v], ds ++ [d], some (.int (0 + (i : Int))), ?_, fun b o hb e => s5 _ _ (k4 b o hb e), ?_, s5 _ _ hm4, dpAll_same (newB_mono fun b o _ e => s5 _ _ e) _ _ all4, (valAll_append _ _).mpr ⟨hvs, vd, trivial⟩, ?_, ?_⟩
        · have e : ((left : Int) - (sz d : Int)) = ((left - sz d : Nat) : Int) := by omega
          show _ = _
          rw [← e]
          rfl
        · obtain ⟨x, y, e⟩ := b4
          exact ⟨x, y, s5 _ _ e⟩
        · rw [depthAll_append]
          simp only [PyData.depthAll]
          omega
        · rw [szAll_snoc]
          omega
      · refine ltF hl ?_
        exact ⟨left, ws, ds, _, rfl, k2, b2, hm2, hws, hvs, hdp, hsz⟩
    · rintro σ H2 ⟨left, ws, ds, y6, rfl, k2, b2, hm2, hws, hvs, hdp, hsz⟩
      refine ⟨_, rfl, q H2 (.ref m) (.list ds) k2 b2 (.lst (SqL.of ?_) (dpAll_same newB_newp _ _ hws)) hvs ?_ ?_⟩
      · rw [newp_at nmH]
        exact hm2
      · simp only [PyData.depth]
        omega
      · simp only [sz]
        omega
end
end TX
namespace TX
open PySem PySem.Spec PyProof.Rows L2
/-! ### a text, repeated -/
theorem mem_reps {P : Nat → Prop} {x : Array Nat} (hx : ∀ c ∈ x.toList, P c) : ∀ (k : Nat) (acc : Array Nat), (∀ c ∈ acc.toList, P c) → ∀ c ∈ ((List.replicate k x).foldl (· ++ ·) acc).toList, P c
  | 0, acc, h => by simpa using h
  | k + 1, acc, h => by
    rw [List.replicate_succ, List.foldl_cons]
    refine mem_reps hx k _ fun c hc => ?_
    rw [Array.toList_append] at hc
    exact (List.mem_append.mp hc).elim (h c) (hx c)
theorem size_rep : ∀ (x : Array Nat) (k : Nat) (acc : Array Nat), ((List.replicate k x).foldl (· ++ ·) acc).size = acc.size + k * x.size
  | x, 0, acc => by simp
  | x, k + 1, acc => by
    rw [List.replicate_succ, List.foldl_cons, size_rep x k, Array.size_append, Nat.succ_mul]
    omega
theorem mul_lt {x : Str} {n : Nat} (h : Lt x) : Lt (Txt.mul x (n : Int)) ∧ (Txt.mul x (n : Int)).length ≤ n * x.length + x.length := by
  unfold Txt.mul
  split
  · refine ⟨by unfold Lt; decide +kernel, ?_⟩
    have e : Str.empty.length = 0 := rfl
    omega
  · split
    · exact ⟨h, by omega⟩
    · refine ⟨mem_reps (P := fun c => 97 ≤ c ∧ c ≤ 122) h _ _ (by simp), ?_⟩
      have e := size_rep x.cps (n : Int).toNat #[]
      have e2 : (n : Int).toNat = n := by omega
      rw [e2] at e
      show ((List.replicate (n : Int).toNat x.cps).foldl (· ++ ·) #[]).size ≤ _
      rw [e2, e]
      have e3 : x.length = x.cps.size := rfl
      rw [e3]
      simp
section
variable {X : Cx}
def rMulS : R2 := fun x y H Q => ∃ (a : Str) (n : Nat), x = .str a ∧ y = .int n ∧ n ≤ 1000 ∧ a.length ≤ 1000 ∧ Q (.str (Txt.mul a (n : Int))) H
theorem op_mulS : OpR X (binaryOp .Mult) rMulS := by
  intro pins s σ H x y v u Q I rx ry h
  obtain ⟨a, n, rfl, rfl, hn, ha, q⟩ := h
  obtain ⟨t, rfl⟩ := rx
  obtain ⟨t', rfl⟩ := ry
  refine SB.mul ⟨?_, fun h1 _ => ?_, fun h1 _ => ?_⟩ fun t' k => ⟨.str _, H, I.tok k, ⟨t', rfl⟩, q⟩
  · rw [decide_eq_false (show ¬ ((n : Int) < -(2 ^ 63 : Int)) by omega), decide_eq_false (show ¬ ((n : Int) ≥ 2 ^ 63) by omega)]
    rfl
  · have h2 : (2 ^ 63 - 1 : Int) / 1000 ≤ (2 ^ 63 - 1) / (n : Int) := by
      refine Int.le_ediv_of_mul_le (by omega) ?_
      have e : (2 ^ 63 - 1 : Int) / 1000 = 9223372036854775 := by decide
      rw [e]
      have e2 : (9223372036854775 : Int) * (n : Int) ≤ 9223372036854775 * 1000 := Int.mul_le_mul_of_nonneg_left (by omega) (by omega)
      omega
    have e : (2 ^ 63 - 1 : Int) / 1000 = 9223372036854775 := by decide
    omega
  · have e : a.length * (n : Int).toNat ≤ 1000 * 1000 := Nat.mul_le_mul ha (by omega)
    show decide (a.length * (n : Int).toNat > sizeLine) = false
    exact decide_eq_false (by have : (1000 * 1000 : Nat) ≤ sizeLine := by decide
                              omega)
end
theorem lt_cut {z : Str} {lo hi : Option Int} (h : Lt z) : Lt (cutS z lo hi) := fun c hc => h c (List.mem_of_mem_drop (List.mem_of_mem_take (by simpa [cutS] using hc)))
theorem len_cut {z : Str} {t : Nat} : (cutS z none (some (t : Int))).length ≤ t := by
  unfold cutS
  show (List.toArray _).size ≤ t
  rw [List.size_toArray, List.length_take, HT.sIx_nat, HT.sIx_none]
  omega
theorem qfit {z : Str} (h : (z.length : Int) ≤ 5) : (("q" : Str)).length + z.length ≤ sizeLine := by
  have e : (("q" : Str)).length = 1 := by decide +kernel
  exact Nat.le_trans (show (("q" : Str)).length + z.length ≤ 6 by omega) (by decide)
/-! ### lists of data, cut and repeated -/
theorem DpAll.take {K : PySem.W.Frag} {H : Hp} : ∀ {ds : List PyData} {vs : List V} (n : Nat), DpAll K H vs ds → DpAll K H (vs.take n) (ds.take n)
  | [], _, n, h => by
    cases h
    simp
    exact .nil
  | d :: ds, _, 0, h => by
    simp
    exact .nil
  | d :: ds, _, n + 1, h => by
    cases h with
    | cons h1 h2 => exact .cons h1 (DpAll.take (ds := ds) n h2)
theorem DpAll.rep {K : PySem.W.Frag} {H : Hp} {ds : List PyData} {vs : List V} (h : DpAll K H vs ds) : ∀ n : Nat, DpAll K H (List.replicate n vs).flatten (List.replicate n ds).flatten
  | 0 => .nil
  | n + 1 => by
    rw [List.replicate_succ, List.replicate_succ, List.flatten_cons, List.flatten_cons]
    exact DpAll.append h (DpAll.rep h n)
theorem val_take : ∀ {ds : List PyData} (n : Nat), valAll ds → valAll (ds.take n)
  | [], n, h => by simpa using h
  | d :: ds, 0, h => trivial
  | d :: ds, n + 1, h => ⟨h.1, val_take n h.2⟩
theorem depth_take : ∀ {ds : List PyData} (n : Nat), PyData.depthAll (ds.take n) ≤ PyData.depthAll ds
  | [], n => by simp
  | d :: ds, 0 => by simp [PyData.depthAll]
  | d :: ds, n + 1 => by
    have := depth_take (ds := ds) n
    simp only [List.take_succ_cons, PyData.depthAll]
    omega
theorem val_rep {ds : List PyData} (h : valAll ds) : ∀ n : Nat, valAll (List.replicate n ds).flatten
  | 0 => trivial
  | n + 1 => by
    rw [List.replicate_succ, List.flatten_cons]
    exact (valAll_append _ _).mpr ⟨h, val_rep h n⟩
theorem depth_rep {ds : List PyData} : ∀ n : Nat, PyData.depthAll (List.replicate n ds).flatten ≤ PyData.depthAll ds
  | 0 => by simp [PyData.depthAll]
  | n + 1 => by
    have := depth_rep (ds := ds) n
    rw [List.replicate_succ, List.flatten_cons, depthAll_append]
    omega
/-- each of the data is at most that great -/
def EachLe (c : Nat) (ds : List PyData) : Prop := ∀ d ∈ ds, sz d ≤ c
theorem each_nil {c : Nat} : EachLe c [] := fun d hd => nomatch hd
theorem each_sum {c : Nat} : ∀ {ds : List PyData}, EachLe c ds → szAll ds ≤ c * ds.length
  | [], _ => by simp [szAll]
  | d :: ds, h => by
    have h1 := h d List.mem_cons_self
    have h2 := each_sum (ds := ds) fun e he => h e (List.mem_cons_of_mem _ he)
    rw [szAll, List.length_cons, Nat.mul_succ]
    omega
/-! ### what is new stays new -/
theorem newp_mono {H H2 H3 : Hp} {p : Addr} (pH : H p ≠ none) (k : ∀ b o, b ≠ p → H2 b = some o → H3 b = some o) : Same (newp H H2) (newp H H3) := fun b o e => by
  cases h : H b with
  | some u =>
    rw [newp_old h] at e
    cases e
  | none =>
    rw [newp_at h] at e ⊢
    exact k b o (fun z => pH (z ▸ h)) e
theorem newp_sub {H H2 H3 : Hp} (k : ∀ b, H b ≠ none → H2 b ≠ none) : Same (newp H2 H3) (newp H H3) := fun b o e => by
  cases h2 : H2 b with
  | some u =>
    rw [newp_old h2] at e
    cases e
  | none =>
    rw [newp_at h2] at e
    have h : H b = none := Classical.byContradiction fun z => k b z h2
    rw [newp_at h]
    exact e
/-- the entries of H are still there -/
theorem there {H H2 : Hp} {p : Addr} (k : ∀ b o, b ≠ p → H b = some o → H2 b = some o) (b2 : BagAt H2 p) : ∀ b, H b ≠ none → H2 b ≠ none := fun b hb => by
  cases e : H b with
  | none => exact absurd e hb
  | some o =>
    by_cases eb : b = p
    · rw [eb]
      obtain ⟨x, y, e2⟩ := b2
      rw [e2]
      exact fun z => nomatch z
    · rw [k b o eb e]
      exact fun z => nomatch z
theorem bag_in {H : Hp} {p : Addr} (b : BagAt H p) : H p ≠ none := by
  obtain ⟨x, y, e⟩ := b
  rw [e]
  exact fun z => nomatch z
theorem bag_same {H H' : Hp} {p : Addr} (b : BagAt H p) (s : Same H H') : BagAt H' p := let ⟨x, y, e⟩ := b; ⟨x, y, s _ _ e⟩
/-- a list of data at m, the bag at p: one more made behind -/
theorem grow {K : PySem.W.Frag} {H H2 H3 : Hp} {p m : Addr} {ws : List V} {ds : List PyData} {v : V} {d : PyData} (pH : H p ≠ none) (nmH : H m = none) (k2 : ∀ b o, b ≠ p → H b = some o → H2 b = some o) (b2 : BagAt H2 p) (hm2 : H2 m = some (.lst ws))
    (hws : DpAll K (newB H m H2) ws ds) (k3 : ∀ b o, b ≠ p → H2 b = some o → H3 b = some o) (b3 : BagAt H3 p) (hv : Dp K (newp H2 H3) v d) :
    (∀ b o, b ≠ p → H b = some o → (upd H3 m (.lst (ws ++ [v]))) b = some o) ∧ BagAt (upd H3 m (.lst (ws ++ [v]))) p ∧ H3 m = some (.lst ws) ∧ DpAll K (newB H m (upd H3 m (.lst (ws ++ [v])))) (ws ++ [v]) (ds ++ [d]) := by
  have mp : m ≠ p := fun e => pH (e ▸ nmH)
  have all2 := there k2 b2
  have old : Same (newB H m H2) (newB H m (upd H3 m (.lst (ws ++ [v])))) := fun b o e => by
    by_cases bm : b = m
    · unfold newB at e
      rw [if_pos bm] at e
      cases e
    · cases hh : H b with
      | some u =>
        unfold newB at e
        rw [if_neg bm, hh] at e
        cases e
      | none =>
        have bp : b ≠ p := fun z => pH (z ▸ hh)
        rw [newB_at hh bm] at e ⊢
        rw [upd_ne bm]
        exact k3 b o bp e
  have new : Same (newp H2 H3) (newB H m (upd H3 m (.lst (ws ++ [v])))) := fun b o e => by
    cases h2 : H2 b with
    | some u =>
      rw [newp_old h2] at e
      cases e
    | none =>
      rw [newp_at h2] at e
      have hh : H b = none := Classical.byContradiction fun z => all2 b z h2
      have bm : b ≠ m := fun z => by
        rw [z, hm2] at h2
        cases h2
      rw [newB_at hh bm, upd_ne bm]
      exact e
  refine ⟨fun b o hb e => ?_, ?_, k3 m _ mp hm2, DpAll.append (dpAll_same old _ _ hws) (.cons (dp_same new _ _ hv) .nil)⟩
  · rw [upd_ne (ne_of_none e nmH)]
    exact k3 b o hb (k2 b o hb e)
  · obtain ⟨x, y, e⟩ := b3
    exact ⟨x, y, by rw [upd_ne mp.symm]; exact e⟩
section
variable {P : Program} {w : World} {K : PySem.W.Frag} {mg : Str → Option Value} {base : Heap}
theorem ok_values {f fT fX fS : Addr} {fd dT dX dS : FuncData} (F : Fun K "_law_value" "_law_value" sValue f fd) (b : Binds K fd ["_law_bag_here", "_law_deep", "_law_room"] []) (g : mg "_law_value" = some (.ref f)) (Y : Nv mg) (C : Vc P w K mg base fT fX fS dT dX dS) :
    ∀ N : Nat, FnOk P w K mg base CX0 (N + 3) f fd ["_law_bag_here", "_law_deep", "_law_room"] (spValue K N)
  | 0 => ok_value F b g Y C 0 fun j => absurd j.2 (by omega)
  | N + 1 => ok_value F b g Y C (N + 1) fun ⟨M, e⟩ => by
    have e2 : M = N := by omega
    subst e2
    exact ok_values F b g Y C M
end
end TX
namespace TX
open PySem PySem.Spec PyProof.Rows L2
/-! ### data whose lists stand each at a place of its own: S, all of them -/
mutual
inductive Tr (H : Hp) : V → PyData → List Addr → Prop
  | non : Tr H .non .none []
  | bl (b : Bool) : Tr H (.bl b) (.bool b) []
  | int (i : Int) : Tr H (.int i) (.int i) []
  | str (x : Str) : Tr H (.str x) (.str x) []
  | lst {a : Addr} {xs : List V} {es : List PyData} {S : List Addr} : H a = some (.lst xs) → TrAll H xs es S → a ∉ S → Tr H (.ref a) (.list es) (a :: S)
  | tup {a : Addr} {xs : List V} {es : List PyData} {S : List Addr} : H a = some (.tup xs) → TrAll H xs es S → a ∉ S → Tr H (.ref a) (.tuple es) (a :: S)
inductive TrAll (H : Hp) : List V → List PyData → List Addr → Prop
  | nil : TrAll H [] [] []
  | cons {v : V} {d : PyData} {S : List Addr} {vs : List V} {ds : List PyData} {T : List Addr} : Tr H v d S → TrAll H vs ds T → (∀ b ∈ S, b ∉ T) → TrAll H (v :: vs) (d :: ds) (S ++ T)
end
theorem TrAll.length {H : Hp} : ∀ {ds : List PyData} {vs : List V} {S : List Addr}, TrAll H vs ds S → vs.length = ds.length
  | [], _, _, h => by cases h; rfl
  | _ :: _, _, _, h => by
    cases h with
    | cons _ h2 _ => exact congrArg (· + 1) (TrAll.length h2)
mutual
theorem Tr.frame {H H' : Hp} : ∀ {d : PyData} {v : V} {S : List Addr}, Tr H v d S → (∀ b ∈ S, ∀ o, H b = some o → H' b = some o) → Tr H' v d S
  | .none, _, _, h, _ => by cases h; exact .non
  | .bool b, _, _, h, _ => by cases h; exact .bl b
  | .int i, _, _, h, _ => by cases h; exact .int i
  | .str x, _, _, h, _ => by cases h; exact .str x
  | .list es, _, _, h, k => by
    cases h with
    | lst h1 h2 h3 => exact .lst (k _ List.mem_cons_self _ h1) (TrAll.frame h2 fun b hb => k b (List.mem_cons_of_mem _ hb)) h3
  | .tuple es, _, _, h, k => by
    cases h with
    | tup h1 h2 h3 => exact .tup (k _ List.mem_cons_self _ h1) (TrAll.frame h2 fun b hb => k b (List.mem_cons_of_mem _ hb)) h3
  | .dict _, _, _, h, _ => nomatch h
theorem TrAll.frame {H H' : Hp} : ∀ {ds : List PyData} {vs : List V} {S : List Addr}, TrAll H vs ds S → (∀ b ∈ S, ∀ o, H b = some o → H' b = some o) → TrAll H' vs ds S
  | [], _, _, h, _ => by cases h; exact .nil
  | d :: ds, _, _, h, k => by
    cases h with
    | cons h1 h2 h3 => exact .cons (Tr.frame h1 fun b hb => k b (List.mem_append_left _ hb)) (TrAll.frame h2 fun b hb => k b (List.mem_append_right _ hb)) h3
end
mutual
theorem Tr.dp {K : PySem.W.Frag} {H : Hp} : ∀ {d : PyData} {v : V} {S : List Addr}, Tr H v d S → Dp K H v d
  | .none, _, _, h => by cases h; exact .non
  | .bool b, _, _, h => by cases h; exact .bl b
  | .int i, _, _, h => by cases h; exact .int i
  | .str x, _, _, h => by cases h; exact .str x
  | .list es, _, _, h => by
    cases h with
    | lst h1 h2 h3 => exact .lst (SqL.of h1) (TrAll.dp h2)
  | .tuple es, _, _, h => by
    cases h with
    | tup h1 h2 h3 => exact .tup (SqT.of h1) (TrAll.dp h2)
  | .dict _, _, _, h => nomatch h
theorem TrAll.dp {K : PySem.W.Frag} {H : Hp} : ∀ {ds : List PyData} {vs : List V} {S : List Addr}, TrAll H vs ds S → DpAll K H vs ds
  | [], _, _, h => by cases h; exact .nil
  | d :: ds, _, _, h => by
    cases h with
    | cons h1 h2 h3 => exact .cons (Tr.dp h1) (TrAll.dp h2)
end
mutual
theorem Tr.there {H : Hp} : ∀ {d : PyData} {v : V} {S : List Addr}, Tr H v d S → ∀ b ∈ S, H b ≠ none
  | .none, _, _, h => by cases h; exact fun b hb => nomatch hb
  | .bool b, _, _, h => by cases h; exact fun b hb => nomatch hb
  | .int i, _, _, h => by cases h; exact fun b hb => nomatch hb
  | .str x, _, _, h => by cases h; exact fun b hb => nomatch hb
  | .list es, _, _, h => by
    cases h with
    | lst h1 h2 h3 =>
      intro b hb
      rcases List.mem_cons.mp hb with e | e
      · rw [e, h1]
        exact fun z => nomatch z
      · exact TrAll.there h2 b e
  | .tuple es, _, _, h => by
    cases h with
    | tup h1 h2 h3 =>
      intro b hb
      rcases List.mem_cons.mp hb with e | e
      · rw [e, h1]
        exact fun z => nomatch z
      · exact TrAll.there h2 b e
  | .dict _, _, _, h => nomatch h
theorem TrAll.there {H : Hp} : ∀ {ds : List PyData} {vs : List V} {S : List Addr}, TrAll H vs ds S → ∀ b ∈ S, H b ≠ none
  | [], _, _, h => by cases h; exact fun b hb => nomatch hb
  | d :: ds, _, _, h => by
    cases h with
    | cons h1 h2 h3 =>
      intro b hb
      rcases List.mem_append.mp hb with e | e
      · exact Tr.there h1 b e
      · exact TrAll.there h2 b e
end
theorem TrAll.split {H : Hp} : ∀ {ds es : List PyData} {vs : List V} {S : List Addr}, TrAll H vs (ds ++ es) S → ∃ a b A B, vs = a ++ b ∧ S = A ++ B ∧ TrAll H a ds A ∧ TrAll H b es B ∧ ∀ x ∈ A, x ∉ B
  | [], _, vs, S, h => ⟨[], vs, [], S, rfl, rfl, .nil, h, fun _ z => nomatch z⟩
  | d :: ds, es, _, _, h => by
    cases h with
    | @cons v _ S1 _ _ T h1 h2 h3 =>
      obtain ⟨a, b, A, B, rfl, rfl, ha, hb, hd⟩ := TrAll.split (ds := ds) (es := es) h2
      refine ⟨v :: a, b, S1 ++ A, B, rfl, (List.append_assoc ..).symm, .cons h1 ha (fun x hx hA => h3 x hx (List.mem_append_left _ hA)), hb, fun x hx hB => ?_⟩
      rcases List.mem_append.mp hx with e | e
      · exact h3 x e (List.mem_append_right _ hB)
      · exact hd x e hB
theorem tr_leaf {K : PySem.W.Frag} {H H' : Hp} {v : V} {d : PyData} (h : Dp K H v d) (e : (tyD d == "list" || tyD d == "tuple") = false) : Tr H' v d [] := by
  cases h with
  | non => exact .non
  | bl b => exact .bl b
  | int i => exact .int i
  | str x => exact .str x
  | lst _ _ => simp [tyD] at e
  | tup _ _ => simp [tyD] at e
def spCopyT (K : PySem.W.Frag) : Sp := fun vs H Q _ => ∃ (v : V) (d : PyData) (Hv : Hp), vs = [v] ∧ Same Hv H ∧ Dp K Hv v d ∧ nd d ≤ 1000000 ∧
  ∀ (H' : Hp) (v' : V) (S : List Addr), Same H H' → Tr H' v' d S → (∀ b ∈ S, H b = none) → Q v' H'
section
variable {P : Program} {w : World} {K : PySem.W.Frag} {mg : Str → Option Value} {base : Heap}
theorem ok_copyT {f fP : Addr} {fd fdP : FuncData} {k : Nat} (F : Fun K "copy_of" "copy_of" sCopy f fd) (T : Nm mg) (FP : Fun K "all_parts" "all_parts" sParts fP fdP) (bP : Binds K fdP ["thing"] []) (gP : mg "all_parts" = some (.ref fP)) :
    FnOk P w K mg base CX0 (k + 2) f fd ["thing"] (spCopyT K) := by
  have GP : FnOk P w K mg base CX0 (k + 1) fP fdP ["thing"] (spParts K) := ok_parts FP T
  refine F.ok scCopy (fun vs H Q E h => ?_) (fun cdv A outer s H vs Q E hr h => ?_)
  · obtain ⟨v, d, Hv, rfl, _⟩ := h
    rfl
  · obtain ⟨v, d, Hv, rfl, sv, hd, hn, q⟩ := h
    refine ⟨_, pss_cons (ps_if (pt_not (pt_val (pe_callB call_isiT (by rfl) T.isi (by decide +kernel) (pa_cons (pv 0) (pa_cons (pe_tup (pa_cons (pe_bltn (v := .ty "list") (by rfl) T.lst (by decide +kernel) rfl) (pa_cons (pe_bltn (v := .ty "tuple") (by rfl) T.tpl (by decide +kernel) rfl) pa_nil))) pa_nil))))) (pss_one (ps_ret (pv 0))) pss_nil) <| pss_cons (ps_set (i := 1) scCopy.nd rfl (.inr rfl) (pe_lst pa_nil))
      (pss_cons (ps_for PassesOwn.never rfl (pi_list (pe_revL (pe_call GP hr (by rfl) gP FP.kp bP .nil pass0 (pa_cons (pv 0) pa_nil)))) (pg_name (i := 2) scCopy.nd rfl (.inl rfl))
        (pss_cons (ps_set (i := 3) scCopy.nd rfl (.inl rfl) (pv 2))
        (pss_cons (ps_if (pt_val (pe_callB call_isiT (by rfl) T.isi (by decide +kernel) (pa_cons (pv 2) (pa_cons (pe_tup (pa_cons (pe_bltn (v := .ty "list") (by rfl) T.lst (by decide +kernel) rfl) (pa_cons (pe_bltn (v := .ty "tuple") (by rfl) T.tpl (by decide +kernel) rfl) pa_nil))) pa_nil))))
          (pss_one (ps_alt
            (ps_setLc (i := 3) (own := [("_", 4)]) (g := gName 4) (tt := tYes) (te := tBM0 K "list" rPop (tVar 1)) rfl scCopy.nd rfl rfl (sw_true rfl rfl rfl (by decide +kernel)) (pi_list (pv 2)) (blkOk_by (N := ["thing", "done", "part", "made", "_"]) (sc := defScope sCopy) (by decide +kernel))
              (fun _ _ _ _ _ => pg_name (i := 4) scCopy.nd rfl (Or.inl rfl)) (fun _ _ _ _ _ => pts_nil) (fun _ _ _ _ _ => pe_bm0 PySem.F.plainAttrs_list PySem.F.slot_list_pop PySem.F.type_list_pop mt_pop (pv 1)))
            (ps_setLc (i := 3) (own := [("_", 4)]) (g := gName 4) (tt := tYes) (te := tBM0 K "list" rPop (tVar 1)) rfl scCopy.nd rfl rfl (sw_true rfl rfl rfl (by decide +kernel)) (pi_tup (pv 2)) (blkOk_by (N := ["thing", "done", "part", "made", "_"]) (sc := defScope sCopy) (by decide +kernel))
              (fun _ _ _ _ _ => pg_name (i := 4) scCopy.nd rfl (Or.inl rfl)) (fun _ _ _ _ _ => pts_nil) (fun _ _ _ _ _ => pe_bm0 PySem.F.plainAttrs_list PySem.F.slot_list_pop PySem.F.type_list_pop mt_pop (pv 1)))))
          pss_nil)
        (pss_cons (ps_if (pt_val (pe_callB call_isi (by rfl) T.isi (by decide +kernel) (pa_cons (pv 2) (pa_cons (pe_bltn (v := .ty "tuple") (by rfl) T.tpl (by decide +kernel) rfl) pa_nil))))
          (pss_one (ps_set (i := 3) scCopy.nd rfl (.inl rfl) (pe_callTy call_tuple_of (by rfl) T.tpl (by decide +kernel) (pa_cons (pv 3) pa_nil))))
          pss_nil)
        (pss_one (ps_expr (pe_bm PySem.F.plainAttrs_list PySem.F.slot_list_append PySem.F.type_list_append mt_append (pv 1) (pa_cons (pv 3) pa_nil))))))))
      (pss_one (ps_ret (pe_ix ix_list (pv 1) pe_int (fun _ _ => rfl))))), ?_⟩
    refine ⟨_, rfl, by decide, fun tp0 ntp0 => ?_⟩
    refine ⟨v, tp0, _, .type (tyD d), [.type "list", .type "tuple"], _, rfl, upd_same, .cons (.ty _) (.cons (.ty _) .nil), dp_ty (dp_same (sv.trans (same_upd ntp0)) _ _ hd), isLT d K, _, rfl, ?_⟩
    have q2 : ∀ (H' : Hp) (v' : V) (S : List Addr), Same (upd H tp0 (.tup [.ty "list", .ty "tuple"])) H' → Tr H' v' d S → (∀ b ∈ S, (upd H tp0 (.tup [.ty "list", .ty "tuple"])) b = none) → Q v' H' := fun H' v' S e1 e2 e3 => q H' v' S ((same_upd ntp0).trans e1) e2 (fun b hb => (same_upd ntp0).free (e3 b hb))
    have sv2 : Same Hv (upd H tp0 (.tup [.ty "list", .ty "tuple"])) := sv.trans (same_upd ntp0)
    cases hlt : (tyD d == "list" || tyD d == "tuple") with
    | false =>
      exact iteT ⟨_, rfl, q2 _ _ [] (fun _ _ e => e) (tr_leaf hd hlt) (fun _ z => nomatch z)⟩
    | true =>
    refine iteF ?_
    generalize upd H tp0 (.tup [.ty "list", .ty "tuple"]) = H at sv2 q2
    clear q sv ntp0 tp0
    have sv := sv2
    have q := q2
    refine ⟨by decide, fun da nda => ?_⟩
    -- all_parts(thing)[::-1]
    refine ⟨_, rfl, v, d, Hv, rfl, sv.trans (same_upd nda), hd, hn, fun H1 p rs sm1 np hp hP hlen => ?_⟩
    have hda1 : H1 da = some (.lst []) := sm1 _ _ upd_same
    refine ⟨p, _, rfl, SqL.of hp, fun r nr => ?_⟩
    rw [List.reverse_reverse]
    have rda : da ≠ r := ne_of_none hda1 nr
    have s0 : Same H (upd H1 r (.lst rs)) := ((same_upd nda).trans sm1).trans (same_upd nr)
    have hr0 : H r = none := ((same_upd nda).trans sm1).free nr
    have nda0 : H da = none := nda
    refine ⟨r, rfl, ⟨_, SqL.of upd_same⟩, for_list (K := K) (a := r) (xs := rs) (fun i σ H2 => ∃ (S : List V × List PyData) (cs : List V) (y2 y3 : Option V), σ = [some v, some (.ref da), y2, y3, none] ∧ Same H H2 ∧ H2 r = some (.lst rs) ∧
      Path K Hv ([v], [d]) (rs.drop i) S ∧ H2 da = some (.lst cs.reverse) ∧ ∃ A, TrAll H2 cs S.2 A ∧ ∀ b ∈ A, H b = none ∧ b ≠ da) ?_ ?_ ?_ ?_⟩
    · exact ⟨([], []), [], none, none, rfl, s0, upd_same, hP, by rw [upd_ne rda]; exact hda1, [], .nil, fun b hb => nomatch hb⟩
    · rintro i σ H2 hi ⟨S, cs, y2, y3, rfl, _, g, _⟩
      exact SqL.of g
    · rintro i x σ H2 hx ⟨S, cs, y2, y3, rfl, sm, hrs, hPi, hda, Ar, hcs, hAr⟩
      have edrop : rs.drop i = x :: rs.drop (i + 1) := by
        obtain ⟨hj, e⟩ := List.getElem?_eq_some_iff.mp hx
        rw [List.drop_eq_getElem_cons hj, e]
      rw [edrop] at hPi
      cases hPi with
      | @cons _ S1 _ _ hP1 hst =>
      have cnt := path_count (.cons hP1 hst)
      have cnt0 : ndAll ([d] : List PyData) = nd d := by simp [ndAll]
      have lcs : cs.length ≤ 1000000 := by
        have e1 := TrAll.length hcs
        have e2 := ndAll_len S.2
        have e3 : ndAll (([v], [d]) : List V × List PyData).2 = nd d := cnt0
        omega
      -- the part's data
      obtain ⟨dx, hdx⟩ : ∃ dx, Dp K Hv x dx ∧ ((∃ r1 rd1, S1 = (x :: r1, dx :: rd1) ∧ S = (r1, rd1) ∧ (tyD dx == "list" || tyD dx == "tuple") = false) ∨
          (∃ a xs es r1 rd1, x = .ref a ∧ dx = .list es ∧ SqL K Hv a xs ∧ DpAll K Hv xs es ∧ S1 = (x :: r1, .list es :: rd1) ∧ S = (xs ++ r1, es ++ rd1)) ∨
          (∃ a xs es r1 rd1, x = .ref a ∧ dx = .tuple es ∧ SqT K Hv a xs ∧ DpAll K Hv xs es ∧ S1 = (x :: r1, .tuple es :: rd1) ∧ S = (xs ++ r1, es ++ rd1))) := by
        cases hst with
        | leaf h e => exact ⟨_, h, .inl ⟨_, _, rfl, rfl, e⟩⟩
        | lst h g => exact ⟨_, .lst h g, .inr (.inl ⟨_, _, _, _, _, rfl, rfl, h, g, rfl, rfl⟩)⟩
        | tup h g => exact ⟨_, .tup h g, .inr (.inr ⟨_, _, _, _, _, rfl, rfl, h, g, rfl, rfl⟩)⟩
      obtain ⟨hx1, hcase⟩ := hdx
      -- made = part; isinstance(part, (list, tuple))
      refine ⟨_, rfl, _, rfl, by decide, fun tp ntp => ?_⟩
      have sm3 : Same H (upd H2 tp (.tup [.ty "list", .ty "tuple"])) := sm.trans (same_upd ntp)
      have hda3 : (upd H2 tp (.tup [.ty "list", .ty "tuple"])) da = some (.lst cs.reverse) := same_upd ntp _ _ hda
      have hrs3 : (upd H2 tp (.tup [.ty "list", .ty "tuple"])) r = some (.lst rs) := same_upd ntp _ _ hrs
      have hcs3 : TrAll (upd H2 tp (.tup [.ty "list", .ty "tuple"])) cs S.2 Ar := TrAll.frame hcs fun b _ o e => same_upd ntp b o e
      refine ⟨x, tp, _, .type (tyD dx), [.type "list", .type "tuple"], _, rfl, upd_same, .cons (.ty _) (.cons (.ty _) .nil), dp_ty (dp_same (sv.trans sm3) _ _ hx1), isLT dx K, _, rfl, ?_⟩
      generalize upd H2 tp (.tup [.ty "list", .ty "tuple"]) = G at sm3 hda3 hrs3 hcs3
      rcases hcase with ⟨r1, rd1, rfl, rfl, e⟩ | ⟨a, xs, es, r1, rd1, rfl, rfl, g1, g2, rfl, rfl⟩ | ⟨a, xs, es, r1, rd1, rfl, rfl, g1, g2, rfl, rfl⟩
      · rw [e]
        refine iteF ?_
        have e2 : (tyD dx == "tuple") = false := (Bool.or_eq_false_iff.mp e).2
        refine ⟨_, rfl, x, .ty "tuple", .type (tyD dx), .type "tuple", _, rfl, .ty _, dp_ty (dp_leaf hx1 e), kit1 dx K, _, rfl, ?_⟩
        rw [e2]
        refine iteF ?_
        refine ⟨_, rfl, .inl ⟨rfl, _, SqL.of hda3⟩, _, rfl, da, _, _, rfl, rfl, hda3, Nat.lt_of_le_of_lt (by simpa using lcs) (by decide), ?_⟩
        refine ⟨_, x :: cs, _, _, rfl, same_fresh nda0 sm3, by rw [upd_ne rda.symm]; exact hrs3, hP1, ?_, ?_⟩
        · rw [upd_same]
          simp
        · exact ⟨[] ++ Ar, .cons (tr_leaf hx1 e) (TrAll.frame hcs3 fun b hb o e => by rw [upd_ne (hAr b hb).2]; exact e) (fun b hb => nomatch hb), hAr⟩
      · obtain ⟨c1, c2, A1, A2, rfl, rfl, hc1, hc2, dis⟩ := TrAll.split hcs3
        have hxl : xs.length = c1.length := (DpAll.length g2).trans (TrAll.length hc1).symm
        refine iteT (.inl ?_)
        refine ⟨_, rfl, a, rfl, ⟨_, (sv.trans sm3).seq g1⟩, fun D nD => lc_list (K := K) (a := a) (xs := xs) (fun j H4 => H4 da = some (.lst (c2.reverse ++ (c1.drop j).reverse)) ∧ H4 D = some (.lst (c1.take j)) ∧ ∀ b o, b ≠ da → b ≠ D → G b = some o → H4 b = some o) ?_ ?_ ?_ ?_⟩
        · have ne : da ≠ D := ne_of_none hda3 nD
          refine ⟨?_, upd_same, fun b o _ hb e => by rw [upd_ne hb]; exact e⟩
          rw [upd_ne ne, hda3]
          simp
        · rintro j H4 hj ⟨_, _, kp⟩
          have nDH : H D = none := sm3.free nD
          exact Same.seq (fun b o e => kp b o (ne_of_none e nda0) (ne_of_none e nDH) (sm3 b o e)) (sv.seq g1)
        · rintro j y H4 hy ⟨k1, k2, kp⟩
          have ne : da ≠ D := ne_of_none hda3 nD
          have hjl : j < c1.length := by
            have := (List.getElem?_eq_some_iff.mp hy).1
            omega
          have hcj : c1[j]? = some c1[j] := List.getElem?_eq_getElem hjl
          rw [rev_drop hcj, ← List.append_assoc] at k1
          refine ⟨rfl, .ref da, rfl, .inl ⟨rfl, _, SqL.of k1⟩, da, _, c1[j], rfl, rfl, k1, by simp, ?_⟩
          rw [List.dropLast_concat]
          refine ⟨c1.take j, by rw [upd_ne ne.symm]; exact k2, ?_, ?_, ?_, fun b o h1 h2 e => ?_⟩
          · refine Nat.lt_of_le_of_lt (show (c1.take j).length ≤ 1000000 from ?_) (by decide)
            rw [List.length_append] at lcs
            have := List.length_take_le j c1
            omega
          · rw [upd_ne ne, upd_same]
          · rw [upd_same, List.take_add_one, hcj]
            rfl
          · rw [upd_ne h2, upd_ne h1]
            exact kp b o h1 h2 e
        · rintro H4 ⟨k1, k2, kp⟩
          have ne : da ≠ D := ne_of_none hda3 nD
          have nDH : H D = none := sm3.free nD
          have sm4 : Same H H4 := fun b o e => kp b o (ne_of_none e nda0) (ne_of_none e nDH) (sm3 b o e)
          have rD : r ≠ D := ne_of_none hrs3 nD
          have hr4 : H4 r = some (.lst rs) := kp r _ rda.symm rD hrs3
          rw [hxl] at k1 k2
          rw [List.drop_length, List.reverse_nil, List.append_nil] at k1
          rw [List.take_length] at k2
          have at4 : ∀ b ∈ A1 ++ A2, ∀ o, G b = some o → H4 b = some o := fun b hb o e => kp b o (hAr b hb).2 (ne_of_none e nD) e
          have hd4 : TrAll H4 c1 es A1 := TrAll.frame hc1 fun b hb o e => at4 b (List.mem_append_left _ hb) o e
          have hd5 : TrAll H4 c2 rd1 A2 := TrAll.frame hc2 fun b hb o e => at4 b (List.mem_append_right _ hb) o e
          have nD1 : D ∉ A1 := fun hb => TrAll.there hc1 D hb nD
          have nD2 : D ∉ A2 := fun hb => TrAll.there hc2 D hb nD
          have hc1l : c1.length ≤ 1000000 ∧ c2.length ≤ 1000000 := by
            rw [List.length_append] at lcs
            omega
          refine ⟨_, rfl, .ref a, .ty "tuple", .type "list", .type "tuple", _, rfl, .ty _, dp_ty (d := .list es) (.lst (Same.seq sm4 (sv.seq g1)) (dpAll_same (sv.trans sm4) _ _ g2)), kit1 (.list es) K, _, rfl, ?_⟩
          refine iteF ?_
          refine ⟨_, rfl, .inl ⟨rfl, _, SqL.of k1⟩, _, rfl, da, _, _, rfl, rfl, k1, Nat.lt_of_le_of_lt (by simpa using hc1l.2) (by decide), ?_⟩
          refine ⟨_, .ref D :: c2, _, _, rfl, same_fresh nda0 sm4, by rw [upd_ne rda.symm]; exact hr4, hP1, ?_, ?_⟩
          · rw [upd_same]
            simp
          · refine ⟨(D :: A1) ++ A2, .cons (.lst (by rw [upd_ne ne.symm]; exact k2) (TrAll.frame hd4 fun b hb o e => by rw [upd_ne (hAr b (List.mem_append_left _ hb)).2]; exact e) nD1) (TrAll.frame hd5 fun b hb o e => by rw [upd_ne (hAr b (List.mem_append_right _ hb)).2]; exact e) fun b hb h2 => ?_, fun b hb => ?_⟩
            · rcases List.mem_cons.mp hb with z | z
              · exact nD2 (z ▸ h2)
              · exact dis b z h2
            · rcases List.mem_append.mp hb with z | z
              · rcases List.mem_cons.mp z with y | y
                · exact y ▸ ⟨nDH, ne.symm⟩
                · exact hAr b (List.mem_append_left _ y)
              · exact hAr b (List.mem_append_right _ z)
      · obtain ⟨c1, c2, A1, A2, rfl, rfl, hc1, hc2, dis⟩ := TrAll.split hcs3
        have hxl : xs.length = c1.length := (DpAll.length g2).trans (TrAll.length hc1).symm
        refine iteT (.inr ?_)
        refine ⟨_, rfl, a, rfl, ⟨_, same_sqt (sv.trans sm3) g1⟩, fun D nD => lc_tup (K := K) (a := a) (xs := xs) (fun j H4 => H4 da = some (.lst (c2.reverse ++ (c1.drop j).reverse)) ∧ H4 D = some (.lst (c1.take j)) ∧ ∀ b o, b ≠ da → b ≠ D → G b = some o → H4 b = some o) ?_ ?_ ?_ ?_⟩
        · have ne : da ≠ D := ne_of_none hda3 nD
          refine ⟨?_, upd_same, fun b o _ hb e => by rw [upd_ne hb]; exact e⟩
          rw [upd_ne ne, hda3]
          simp
        · rintro j H4 hj ⟨_, _, kp⟩
          have nDH : H D = none := sm3.free nD
          exact same_sqt (fun b o e => kp b o (ne_of_none e nda0) (ne_of_none e nDH) (sm3 b o e)) (same_sqt sv g1)
        · rintro j y H4 hy ⟨k1, k2, kp⟩
          have ne : da ≠ D := ne_of_none hda3 nD
          have hjl : j < c1.length := by
            have := (List.getElem?_eq_some_iff.mp hy).1
            omega
          have hcj : c1[j]? = some c1[j] := List.getElem?_eq_getElem hjl
          rw [rev_drop hcj, ← List.append_assoc] at k1
          refine ⟨rfl, .ref da, rfl, .inl ⟨rfl, _, SqL.of k1⟩, da, _, c1[j], rfl, rfl, k1, by simp, ?_⟩
          rw [List.dropLast_concat]
          refine ⟨c1.take j, by rw [upd_ne ne.symm]; exact k2, ?_, ?_, ?_, fun b o h1 h2 e => ?_⟩
          · refine Nat.lt_of_le_of_lt (show (c1.take j).length ≤ 1000000 from ?_) (by decide)
            rw [List.length_append] at lcs
            have := List.length_take_le j c1
            omega
          · rw [upd_ne ne, upd_same]
          · rw [upd_same, List.take_add_one, hcj]
            rfl
          · rw [upd_ne h2, upd_ne h1]
            exact kp b o h1 h2 e
        · rintro H4 ⟨k1, k2, kp⟩
          have ne : da ≠ D := ne_of_none hda3 nD
          have nDH : H D = none := sm3.free nD
          have sm4 : Same H H4 := fun b o e => kp b o (ne_of_none e nda0) (ne_of_none e nDH) (sm3 b o e)
          have rD : r ≠ D := ne_of_none hrs3 nD
          have hr4 : H4 r = some (.lst rs) := kp r _ rda.symm rD hrs3
          rw [hxl] at k1 k2
          rw [List.drop_length, List.reverse_nil, List.append_nil] at k1
          rw [List.take_length] at k2
          have at4 : ∀ b ∈ A1 ++ A2, ∀ o, G b = some o → H4 b = some o := fun b hb o e => kp b o (hAr b hb).2 (ne_of_none e nD) e
          have hd4 : TrAll H4 c1 es A1 := TrAll.frame hc1 fun b hb o e => at4 b (List.mem_append_left _ hb) o e
          have hd5 : TrAll H4 c2 rd1 A2 := TrAll.frame hc2 fun b hb o e => at4 b (List.mem_append_right _ hb) o e
          have nD1 : D ∉ A1 := fun hb => TrAll.there hc1 D hb nD
          have nD2 : D ∉ A2 := fun hb => TrAll.there hc2 D hb nD
          have hc1l : c1.length ≤ 1000000 ∧ c2.length ≤ 1000000 := by
            rw [List.length_append] at lcs
            omega
          refine ⟨_, rfl, .ref a, .ty "tuple", .type "tuple", .type "tuple", _, rfl, .ty _, dp_ty (d := .tuple es) (.tup (same_sqt sm4 (same_sqt sv g1)) (dpAll_same (sv.trans sm4) _ _ g2)), kit1 (.tuple es) K, _, rfl, ?_⟩
          refine iteT ?_
          -- made = tuple(made)
          refine ⟨_, rfl, D, c1, rfl, .inl ⟨SqL.of k2, fun tq ntq => ?_⟩⟩
          have nq : H tq = none := sm4.free ntq
          have dq : da ≠ tq := ne_of_none k1 ntq
          have rq : r ≠ tq := ne_of_none hr4 ntq
          have k5 : (upd H4 tq (.tup c1)) da = some (.lst c2.reverse) := by
            rw [upd_ne dq]
            exact k1
          refine ⟨_, rfl, .inl ⟨rfl, _, SqL.of k5⟩, _, rfl, da, _, _, rfl, rfl, k5, Nat.lt_of_le_of_lt (by simpa using hc1l.2) (by decide), ?_⟩
          refine ⟨_, .ref tq :: c2, _, _, rfl, same_fresh nda0 (sm4.trans (same_upd ntq)), by rw [upd_ne rda.symm, upd_ne rq]; exact hr4, hP1, ?_, ?_⟩
          · rw [upd_same]
            simp
          · have nq1 : tq ∉ A1 := fun hb => TrAll.there hd4 tq hb ntq
            have nq2 : tq ∉ A2 := fun hb => TrAll.there hd5 tq hb ntq
            have up : ∀ b ∈ A1 ++ A2, ∀ o, H4 b = some o → (upd (upd H4 tq (.tup c1)) da (.lst (c2.reverse ++ [.ref tq]))) b = some o := fun b hb o e => by
              rw [upd_ne (hAr b hb).2, upd_ne (ne_of_none e ntq)]
              exact e
            refine ⟨(tq :: A1) ++ A2, .cons (.tup (by rw [upd_ne dq.symm, upd_same]) (TrAll.frame hd4 fun b hb o e => up b (List.mem_append_left _ hb) o e) nq1) (TrAll.frame hd5 fun b hb o e => up b (List.mem_append_right _ hb) o e) fun b hb h2 => ?_, fun b hb => ?_⟩
            · rcases List.mem_cons.mp hb with z | z
              · exact nq2 (z ▸ h2)
              · exact dis b z h2
            · rcases List.mem_append.mp hb with z | z
              · rcases List.mem_cons.mp z with y | y
                · exact y ▸ ⟨nq, dq.symm⟩
                · exact hAr b (List.mem_append_left _ y)
              · exact hAr b (List.mem_append_right _ z)
    · rintro σ H2 ⟨S, cs, y2, y3, rfl, sm, hrs, hPi, hda, Ar, hcs, hAr⟩
      rw [List.drop_length] at hPi
      cases hPi
      cases hcs with
      | @cons c1 d1 A0 vs0 ds0 T0 h1 h2 hdis =>
        cases h2
        refine ⟨_, rfl, da, [c1], 0, c1, rfl, rfl, SqL.of hda, atI_nat (j := 0) rfl, ?_⟩
        exact q H2 c1 A0 sm h1 fun b hb => (hAr b (List.mem_append_left _ hb)).1
end
end TX
namespace TX
open PySem PySem.Spec PyProof.Rows L2
structure Nk (mg : Str → Option Value) : Prop where
  str : mg "str" = none
/-! ### texts -/
def alphaS : Str := "abcdefghijklmnopqrstuvwxyz"
def ltC (c : Nat) : Bool := decide (97 ≤ c ∧ c ≤ 122)
def ltB (x : Str) : Bool := x.cps.toList.all ltC
def isT : PyData → Bool
  | .str x => ltB x
  | _ => false
theorem alpha_has (c : Nat) : alphaS.cps.contains c = ltC c := by
  have e : alphaS.cps.toList = (List.range 26).map (· + 97) := by decide +kernel
  have e2 : alphaS.cps.contains c = alphaS.cps.toList.contains c := by simp
  rw [e2, e]
  unfold ltC
  by_cases h : 97 ≤ c ∧ c ≤ 122
  · rw [decide_eq_true h, List.contains_iff_mem, List.mem_map]
    exact ⟨c - 97, List.mem_range.mpr (by omega), by omega⟩
  · rw [decide_eq_false h]
    refine Bool.eq_false_iff.mpr fun z => h ?_
    obtain ⟨y, hy, rfl⟩ := List.mem_map.mp (List.contains_iff_mem.mp z)
    have := List.mem_range.mp hy
    omega
theorem tw_all {p : Nat → Bool} : ∀ l : List Nat, l.all p = true → l.takeWhile p = l
  | [], _ => rfl
  | c :: r, h => by
    rw [List.all_cons, Bool.and_eq_true] at h
    rw [List.takeWhile_cons, if_pos h.1, tw_all r h.2]
theorem tw_lt {p : Nat → Bool} : ∀ l : List Nat, l.all p = false → (l.takeWhile p).length < l.length ∧ (l.drop (l.takeWhile p).length).all p = false
  | [], h => by simp at h
  | c :: r, h => by
    by_cases hc : p c = true
    · have hr : r.all p = false := by simpa [hc] using h
      obtain ⟨h1, h2⟩ := tw_lt r hr
      rw [List.takeWhile_cons, if_pos hc]
      exact ⟨by simpa using h1, by simpa using h2⟩
    · rw [List.takeWhile_cons, if_neg hc]
      exact ⟨by simp, h⟩
theorem strip_len (x : Str) : ((Txt.stripChars x alphaS).length == 0) = ltB x := by
  have fn : alphaS.cps.contains = ltC := funext alpha_has
  unfold Txt.stripChars Txt.stripBy
  rw [fn]
  have xl : x.length = x.cps.toList.length := by simp [Str.length]
  by_cases h : ltB x = true
  · rw [h]
    have h1 : x.cps.toList.takeWhile ltC = x.cps.toList := tw_all _ h
    have lo : stripLo ltC true x = x.length := by
      unfold stripLo
      rw [if_pos rfl, h1, xl]
    have hi : stripHi ltC true x x.length = x.length := by
      unfold stripHi
      rw [if_pos rfl, xl, List.drop_length]
      simp
    by_cases h0 : stripSame ltC true true x = true
    · rw [if_pos h0]
      unfold stripSame at h0
      rw [lo] at h0
      rw [Bool.and_eq_true] at h0
      exact h0.1
    · rw [if_neg h0]
      unfold stripped
      rw [lo, hi, size_strSub _ _ _ (Nat.le_refl _)]
      simp
  · have h' : ltB x = false := by simpa using h
    rw [h']
    obtain ⟨l1, l2⟩ := tw_lt x.cps.toList h'
    have lo : stripLo ltC true x < x.length := by
      unfold stripLo
      rw [if_pos rfl, xl]
      exact l1
    have el : stripLo ltC true x = (x.cps.toList.takeWhile ltC).length := by
      unfold stripLo
      rw [if_pos rfl]
    have hi : stripLo ltC true x < stripHi ltC true x (stripLo ltC true x) ∧ stripHi ltC true x (stripLo ltC true x) ≤ x.length := by
      unfold stripHi
      rw [if_pos rfl]
      have r1 : (x.cps.toList.drop (stripLo ltC true x)).reverse.all ltC = false := by
        rw [List.all_reverse, el]
        exact l2
      have r2 := (tw_lt _ r1).1
      rw [List.length_reverse, List.length_drop, ← xl] at r2
      omega
    by_cases h0 : stripSame ltC true true x = true
    · rw [if_pos h0]
      refine beq_eq_false_iff_ne.mpr ?_
      omega
    · rw [if_neg h0]
      unfold stripped
      rw [size_strSub _ _ _ hi.2]
      refine beq_eq_false_iff_ne.mpr ?_
      omega
theorem fits_any (x : Str) : (Txt.stripChars x alphaS).length ≤ x.length := by
  unfold Txt.stripChars Txt.stripBy
  by_cases h : stripSame alphaS.cps.contains true true x = true
  · rw [if_pos h]
    exact Nat.le_refl _
  · rw [if_neg h]
    exact le_strSub _ _ _
def spIsText (K : PySem.W.Frag) : Sp := fun vs H Q _ => ∃ (v : V) (d : PyData) (Hv : Hp), vs = [v] ∧ Same Hv H ∧ Dp K Hv v d ∧ sz d ≤ 100000 ∧ Q (.bl (isT d)) H
section
variable {P : Program} {w : World} {K : PySem.W.Frag} {mg : Str → Option Value} {base : Heap}
theorem scIsText : FnScope ["thing"] ["thing"] (defScope s_is_text) := ⟨rfl, rfl, rfl, by decide +kernel, rfl, by decide +kernel, by decide +kernel⟩
theorem ok_isText {f : Addr} {fd : FuncData} {tA : Tok} (F : Fun K "is_text" "is_text" s_is_text f fd) (T : Nm mg) (k : Nk mg) (gA : mg "ALPHABET" = some (.str alphaS tA)) : FnOk P w K mg base CX0 1 f fd ["thing"] (spIsText K) := by
  refine F.ok scIsText (fun vs H Q E h => ?_) (fun cdv A outer s H vs Q E hr h => ?_)
  · obtain ⟨v, d, Hv, rfl, _⟩ := h
    rfl
  · obtain ⟨v, d, Hv, rfl, sv, hd, hz, q⟩ := h
    refine ⟨_, pss_one (ps_ret (pe_and (pe_callB call_isi (by rfl) T.isi (by decide +kernel) (pa_cons (pv 0) (pa_cons (pe_bltn (v := .ty "str") (by rfl) k.str (by decide +kernel) rfl) pa_nil)))
      (pe_one (pe_notT (pe_bm PySem.F.plainAttrs_str PySem.F.slot_str_strip PySem.F.type_str_strip mt_stripChars (pv 0) (pa_cons (pe_glob (v := .str alphaS) (by rfl) gA ⟨_, rfl⟩) pa_nil)))))), ?_⟩
    have ty := dp_ty (dp_same sv _ _ hd)
    have is : ∀ b, (tyD d == "str") = b → PySem.W.kitOne K (.type (tyD d)) (.type "str") = some b := fun b e => e ▸ kitS d K
    refine ⟨_, rfl, v, .ty "str", _, .type "str", (tyD d == "str"), rfl, .ty _, ty, is _ rfl, _, rfl, ?_⟩
    have no : (tyD d == "str") = false → isT d = false := by
      intro e
      cases d with
      | str x => simp [tyD] at e
      | _ => rfl
    by_cases e : (tyD d == "str") = true
    · rw [e]
      refine iteT ?_
      cases hd with
      | str x =>
        have hx : x.length ≤ 100000 := by
          simp only [sz] at hz
          omega
        have hs := strip_len x
        refine ⟨_, rfl, rfl, x, alphaS, rfl, rfl, Nat.le_trans hx (by decide), ltB x |>.not, ⟨?_, ?_⟩, ?_⟩
        · exact Nat.le_trans (fits_any x) (Nat.le_trans hx (by decide))
        · rw [← hs]
          cases e2 : (Txt.stripChars x alphaS).length == 0 with
          | true =>
            have := eq_of_beq e2
            rw [this]
            rfl
          | false =>
            have h0 := beq_eq_false_iff_ne.mp e2
            exact (bne_iff_ne.mpr (by omega)).symm
        · show Q (.bl (!(!ltB x))) H
          rw [Bool.not_not]
          exact q
      | _ => simp [tyD] at e
    · have e' : (tyD d == "str") = false := by simpa using e
      rw [e']
      rw [no e'] at q
      exact iteF q
end
end TX
namespace TX
open PySem PySem.Spec PyProof.Rows L2
/-! ### steps: from where each part was reached -/
def natV (p : List Nat) : List V := p.map fun i => V.int ((i : Nat) : Int)
def StepsOk (H : Hp) (xs : List V) (pl : List (List Nat)) : Prop := xs.length = pl.length ∧
  ∀ (n : Nat) (p : List Nat), pl[n]? = some p → ∃ (t : Addr) (a i : Nat), xs[n]? = some (.ref t) ∧ H t = some (.tup [.int ((a : Nat) : Int), .int ((i : Nat) : Int)]) ∧ (n = 0 → p = []) ∧ (0 < n → a < n ∧ ∃ q, pl[a]? = some q ∧ p = q ++ [i])
theorem StepsOk.same {H H' : Hp} {xs : List V} {pl : List (List Nat)} (h : StepsOk H xs pl) (s : Same H H') : StepsOk H' xs pl :=
  ⟨h.1, fun n p e => let ⟨t, a, i, h1, h2, h3, h4⟩ := h.2 n p e; ⟨t, a, i, h1, s _ _ h2, h3, h4⟩⟩
def spLast (K : PySem.W.Frag) : Sp := fun vs H Q _ => ∃ (s : Addr) (xs : List V) (pl : List (List Nat)) (m : Nat) (p : List Nat), vs = [.ref s] ∧ SqL K H s xs ∧ StepsOk H xs pl ∧ pl.length = m + 1 ∧ m ≤ 100000 ∧ pl[m]? = some p ∧
  ∀ (H' : Hp) (t : Addr), Same H H' → H t = none → H' t = some (.tup (natV p)) → Q (.ref t) H'
section
variable {P : Program} {w : World} {K : PySem.W.Frag} {mg : Str → Option Value} {base : Heap}
theorem scLast : FnScope ["steps", "place", "number", "at"] ["steps"] (defScope s_place_of_last) := ⟨rfl, rfl, rfl, by decide +kernel, rfl, by decide +kernel, by decide +kernel⟩
theorem ok_last {f : Addr} {fd : FuncData} (F : Fun K "place_of_last" "place_of_last" s_place_of_last f fd) (T : Nm mg) (B : Nb mg) : FnOk P w K mg base CX0 1 f fd ["steps"] (spLast K) := by
  refine F.ok scLast (fun vs H Q E h => ?_) (fun cdv A outer s H vs Q E hr h => ?_)
  · obtain ⟨s, xs, pl, m, p, rfl, _⟩ := h
    rfl
  · obtain ⟨sa, xs, pl, m, p, rfl, hS, hT, hm, hb, hp, q⟩ := h
    refine ⟨_, pss_cons (ps_set (i := 1) scLast.nd rfl (.inl rfl) (pe_lst pa_nil)) <|
      pss_cons (ps_set (i := 2) scLast.nd rfl (.inl rfl) (pe_op op_sub (pe_callB call_len_seq (by rfl) B.len PySem.boot_len (pa_cons (pv 0) pa_nil)) pe_int)) <|
      pss_cons (ps_while PassesOwn.never (pt_cmpR op_gt (pv 2) pe_int (nomark _)) (
        pss_cons (ps_asg (pe_ix ix_list (pv 0) (pv 2) (fun _ _ => rfl)) (pg_tup rfl (pgs_cons (pg_name (i := 2) scLast.nd rfl (.inl rfl)) (pgs_cons (pg_name (i := 3) scLast.nd rfl (.inl rfl)) pgs_nil)))) <|
        pss_one (ps_expr (pe_bm PySem.F.plainAttrs_list PySem.F.slot_list_append PySem.F.type_list_append mt_append (pv 1) (pa_cons (pv 3) pa_nil))))) <|
      pss_one (ps_ret (pe_callTy call_tuple_of (by rfl) T.tpl (by decide +kernel) (pa_cons (pe_revL (pv 1)) pa_nil))), ?_⟩
    have xl : xs.length = m + 1 := hT.1.trans hm
    refine ⟨by decide, fun da nda => ⟨_, rfl, sa, xs, rfl, .inl ((same_upd nda).seq hS), _, _, rfl, rfl, ?_⟩⟩
    refine ⟨fun n σ H1 => ∃ (acc q' : List Nat) (y : Option V), σ = [some (.ref sa), some (.ref da), some (.int ((n : Nat) : Int)), y] ∧ Same H H1 ∧ H1 da = some (.lst (natV acc)) ∧ pl[n]? = some q' ∧ p = q' ++ acc.reverse ∧ acc.length + n ≤ m, ⟨m, [], p, none, ?_, same_upd nda, upd_same, hp, by simp, by simp⟩, ?_⟩
    · have e : ((xs.length : Nat) : Int) - 1 = ((m : Nat) : Int) := by omega
      show [some (V.ref sa), some (V.ref da), some (V.int (((xs.length : Nat) : Int) - 1)), none] = _
      rw [e]
    rintro n σ H1 ⟨acc, q', y, rfl, sm, hd, hq, ep, hl⟩
    obtain ⟨t, a, i, h1, h2, h3, h4⟩ := hT.2 n q' hq
    refine ⟨_, rfl, _, _, rfl, rfl, _, rfl, ?_⟩
    by_cases hn : n = 0
    · rw [decide_eq_false (by omega)]
      refine iteF ?_
      subst hn
      have e0 := h3 rfl
      subst e0
      refine ⟨_, rfl, da, _, rfl, SqL.of hd, fun r nr => ⟨r, _, rfl, .inl ⟨SqL.of upd_same, fun t2 nt2 => ?_⟩⟩⟩
      refine q _ t2 ((sm.trans (same_upd nr)).trans (same_upd nt2)) ((sm.trans (same_upd nr)).free nt2) ?_
      rw [upd_same, ep]
      unfold natV
      rw [List.map_append, List.map_reverse]
      rfl
    · rw [decide_eq_true (by omega)]
      refine iteT ?_
      obtain ⟨ha, q2, hq2, eq2⟩ := h4 (by omega)
      have s0 : Same H (upd H da (.lst [])) := same_upd nda
      refine ⟨fun σ' H2 => ∃ (acc q' : List Nat), σ' = [some (.ref sa), some (.ref da), some (.int ((a : Nat) : Int)), some (.int ((i : Nat) : Int))] ∧ Same H H2 ∧ H2 da = some (.lst (natV acc)) ∧ pl[a]? = some q' ∧ p = q' ++ acc.reverse ∧ acc.length + a ≤ m, ?_, ?_⟩
      · rintro σ' H2 ⟨acc', q3, rfl, g1, g2, g3, g4, g5⟩
        exact ⟨a, ha, acc', q3, _, rfl, g1, g2, g3, g4, g5⟩
      refine ⟨_, rfl, _, rfl, sa, xs, _, _, rfl, rfl, sm.seq hS, atI_nat h1, ?_⟩
      refine ⟨t, _, rfl, SqT.of (sm _ _ h2), rfl, _, _, rfl, _, _, rfl, rfl, ?_⟩
      refine ⟨_, rfl, .inl ⟨rfl, _, SqL.of hd⟩, _, rfl, da, _, _, rfl, rfl, hd, Nat.lt_of_le_of_lt (show (natV acc).length ≤ 100000 by unfold natV; rw [List.length_map]; omega) (by decide), ?_⟩
      refine ⟨acc ++ [i], q2, rfl, same_fresh nda sm, ?_, hq2, ?_, ?_⟩
      · rw [upd_same]
        unfold natV
        rw [List.map_append]
        rfl
      · rw [ep, eq2]
        simp
      · rw [List.length_append]
        show acc.length + 1 + a ≤ m
        omega
end
end TX
namespace TX
open PySem PySem.Spec PyProof.Rows L2
/-! ### the first fault of data, by the rules -/
mutual
def faultD : PyData → Option (List Nat)
  | .list es => faultAll 0 es
  | .none => none
  | .str x => if ltB x = true then none else some []
  | _ => some []
def faultAll (k : Nat) : List PyData → Option (List Nat)
  | [] => none
  | d :: ds => match faultD d with
    | some p => some (k :: p)
    | none => faultAll (k + 1) ds
end
def faultP : List (PyData × List Nat) → Option (List Nat)
  | [] => none
  | (d, p) :: r => match faultD d with
    | some q => some (p ++ q)
    | none => faultP r
def kids (k : Nat) : List PyData → List Nat → List (PyData × List Nat)
  | [], _ => []
  | d :: ds, p => (d, p ++ [k]) :: kids (k + 1) ds p
theorem faultP_kids (p : List Nat) (r : List (PyData × List Nat)) : ∀ (es : List PyData) (k : Nat), faultP (kids k es p ++ r) = match faultAll k es with
    | some q => some (p ++ q)
    | none => faultP r
  | [], k => by simp [kids, faultAll]
  | d :: ds, k => by
    have ih := faultP_kids p r ds (k + 1)
    simp only [kids, List.cons_append, faultP, faultAll]
    cases h : faultD d with
    | some q => simp
    | none => simpa using ih
/-- the parts that wait, with their places -/
def Lk (pl : List (List Nat)) (a i : Nat) (p : List Nat) : Prop := (pl = [] → p = []) ∧ (pl ≠ [] → ∃ q, pl[a]? = some q ∧ p = q ++ [i])
inductive PendOk (K : PySem.W.Frag) (Hv H : Hp) (pl : List (List Nat)) : List V → List (PyData × List Nat) → Prop
  | nil : PendOk K Hv H pl [] []
  | cons {t : Addr} {v : V} {d : PyData} {a i : Nat} {p : List Nat} {xs : List V} {ps : List (PyData × List Nat)} : H t = some (.tup [v, .int ((a : Nat) : Int), .int ((i : Nat) : Int)]) → Dp K Hv v d → Lk pl a i p → PendOk K Hv H pl xs ps → PendOk K Hv H pl (.ref t :: xs) ((d, p) :: ps)
theorem PendOk.len {K : PySem.W.Frag} {Hv H : Hp} {pl : List (List Nat)} : ∀ {xs : List V} {ps : List (PyData × List Nat)}, PendOk K Hv H pl xs ps → xs.length = ps.length
  | _, _, .nil => rfl
  | _, _, .cons _ _ _ h => congrArg (· + 1) h.len
theorem PendOk.same {K : PySem.W.Frag} {Hv H H' : Hp} {pl : List (List Nat)} : ∀ {xs : List V} {ps : List (PyData × List Nat)}, PendOk K Hv H pl xs ps → (∀ t o, H t = some (.tup o) → H' t = some (.tup o)) → PendOk K Hv H' pl xs ps
  | _, _, .nil, _ => .nil
  | _, _, .cons h1 h2 h3 h, s => .cons (s _ _ h1) h2 h3 (h.same s)
theorem PendOk.more {K : PySem.W.Frag} {Hv H : Hp} {pl : List (List Nat)} (hn : pl ≠ []) (p : List Nat) : ∀ {xs : List V} {ps : List (PyData × List Nat)}, PendOk K Hv H pl xs ps → PendOk K Hv H (pl ++ [p]) xs ps
  | _, _, .nil => .nil
  | _, _, .cons h1 h2 h3 h => .cons h1 h2 ⟨fun z => by simp at z, fun _ => by
      obtain ⟨q, e1, e2⟩ := h3.2 hn
      exact ⟨q, by rw [List.getElem?_append_left (List.getElem?_eq_some_iff.mp e1).1]; exact e1, e2⟩⟩ (h.more hn p)
theorem PendOk.append {K : PySem.W.Frag} {Hv H : Hp} {pl : List (List Nat)} : ∀ {xs ys : List V} {ps qs : List (PyData × List Nat)}, PendOk K Hv H pl xs ps → PendOk K Hv H pl ys qs → PendOk K Hv H pl (xs ++ ys) (ps ++ qs)
  | _, _, _, _, .nil, h => h
  | _, _, _, _, .cons h1 h2 h3 h, g => .cons h1 h2 h3 (h.append g)
def szP (ps : List (PyData × List Nat)) : Nat := szAll (ps.map (·.1))
theorem szP_kids (p : List Nat) : ∀ (es : List PyData) (k : Nat), szP (kids k es p) = szAll es
  | [], _ => rfl
  | d :: ds, k => by
    have := szP_kids p ds (k + 1)
    simp only [szP, kids, List.map_cons, szAll] at this ⊢
    omega
end TX
namespace TX
open PySem PySem.Spec PyProof.Rows L2
def spFault (K : PySem.W.Frag) : Sp := fun vs H Q _ => ∃ (v : V) (d : PyData) (Hv : Hp), vs = [v] ∧ Same Hv H ∧ Dp K Hv v d ∧ sz d ≤ 10000 ∧
  (faultD d = none → ∀ H', Same H H' → Q .non H') ∧ (∀ p, faultD d = some p → ∀ (H' : Hp) (t : Addr), Same H H' → H t = none → H' t = some (.tup (natV p)) → p.length ≤ 10000 → Q (.ref t) H')
mutual
theorem fault_len : ∀ (d : PyData) (p : List Nat), faultD d = some p → p.length ≤ sz d
  | .list es, p, h => by
    have := faultAll_len es 0 p (by simpa only [faultD] using h)
    simp only [sz]
    omega
  | .none, p, h => by simp [faultD] at h
  | .str x, p, h => by
    simp only [faultD] at h
    split at h
    · cases h
    · cases h
      simp
  | .bool _, p, h => by
    simp only [faultD] at h
    cases h
    simp
  | .int _, p, h => by
    simp only [faultD] at h
    cases h
    simp
  | .tuple _, p, h => by
    simp only [faultD] at h
    cases h
    simp
  | .dict _, p, h => by
    simp only [faultD] at h
    cases h
    simp
theorem faultAll_len : ∀ (es : List PyData) (k : Nat) (p : List Nat), faultAll k es = some p → p.length ≤ szAll es + 1
  | [], k, p, h => by simp [faultAll] at h
  | d :: ds, k, p, h => by
    simp only [faultAll] at h
    cases e : faultD d with
    | some q =>
      rw [e] at h
      have h1 := fault_len d q e
      cases h
      simp only [szAll, List.length_cons]
      omega
    | none =>
      rw [e] at h
      have := faultAll_len ds (k + 1) p h
      simp only [szAll]
      omega
end
theorem fault_leaf {d : PyData} (hl : (tyD d == "list") = false) (hn : d ≠ .none) : faultD d = if isT d = true then none else some [] := by
  cases d with
  | list es => simp [tyD] at hl
  | none => exact absurd rfl hn
  | str x => rfl
  | bool _ => rfl
  | int _ => rfl
  | tuple _ => rfl
  | dict _ => rfl
theorem StepsOk.snoc {H : Hp} {ys : List V} {pl : List (List Nat)} {tp : Addr} {a i : Nat} {p : List Nat} (h : StepsOk H ys pl) (ht : H tp = some (.tup [.int ((a : Nat) : Int), .int ((i : Nat) : Int)])) (l : Lk pl a i p) : StepsOk H (ys ++ [.ref tp]) (pl ++ [p]) := by
  refine ⟨by simp [h.1], fun n p' e => ?_⟩
  rcases Nat.lt_trichotomy n pl.length with c | c | c
  · rw [List.getElem?_append_left c] at e
    obtain ⟨t, a', i', h1, h2, h3, h4⟩ := h.2 n p' e
    refine ⟨t, a', i', by rw [List.getElem?_append_left (by rw [h.1]; exact c)]; exact h1, h2, h3, fun z => ?_⟩
    obtain ⟨g1, q, g2, g3⟩ := h4 z
    exact ⟨g1, q, by rw [List.getElem?_append_left (List.getElem?_eq_some_iff.mp g2).1]; exact g2, g3⟩
  · subst c
    have e1 : (pl ++ [p])[pl.length]? = some p := by simp
    rw [e1] at e
    cases e
    refine ⟨tp, a, i, by rw [← h.1]; simp, ht, fun z => l.1 (List.length_eq_zero_iff.mp z), fun z => ?_⟩
    obtain ⟨q, g1, g2⟩ := l.2 (fun y => by rw [y] at z; simp at z)
    have g3 := (List.getElem?_eq_some_iff.mp g1).1
    exact ⟨g3, q, by rw [List.getElem?_append_left g3]; exact g1, g2⟩
  · have := (List.getElem?_eq_some_iff.mp e).1
    simp at this
    omega
theorem iteNN {c A B : Prop} [Decidable c] (hc : ¬ c) (h : A) : if (!decide c) = true then A else B := by
  rw [decide_eq_false hc]
  exact iteT h
theorem szP_cons (d : PyData) (p : List Nat) (ps : List (PyData × List Nat)) : szP ((d, p) :: ps) = sz d + szP ps := rfl
theorem szP_append (a b : List (PyData × List Nat)) : szP (a ++ b) = szP a + szP b := by
  unfold szP
  rw [List.map_append, szAll_append]
theorem sz_pos (d : PyData) : 1 ≤ sz d := by
  cases d <;> simp [sz]
theorem szP_len (ps : List (PyData × List Nat)) : ps.length ≤ szP ps := by
  have := szAll_len (ps.map (·.1))
  unfold szP
  simpa using this
theorem kids_drop (p : List Nat) (k : Nat) : ∀ (es : List PyData) (d : PyData) (j : Nat), es[j]? = some d → kids (k + j) (es.drop j) p = (d, p ++ [k + j]) :: kids (k + j + 1) (es.drop (j + 1)) p := by
  intro es d j h
  obtain ⟨hj, e⟩ := List.getElem?_eq_some_iff.mp h
  rw [List.drop_eq_getElem_cons hj, e]
  rfl
section
variable {P : Program} {w : World} {K : PySem.W.Frag} {mg : Str → Option Value} {base : Heap}
theorem scFault : FnScope ["thing", "waiting", "steps", "part", "above", "at", "number", "k"] ["thing"] (defScope s_first_fault) := ⟨rfl, rfl, rfl, by decide +kernel, rfl, by decide +kernel, by decide +kernel⟩
theorem ok_fault {f fI fL : Addr} {fd dI dL : FuncData} (F : Fun K "first_fault" "first_fault" s_first_fault f fd) (T : Nm mg) (B : Nb mg) (Y : Nv mg)
    (GI : FnOk P w K mg base CX0 1 fI dI ["thing"] (spIsText K)) (gI : mg "is_text" = some (.ref fI)) (kI : PySem.W.keepIn K (.ref fI) = true) (bI : Binds K dI ["thing"] [])
    (GL : FnOk P w K mg base CX0 1 fL dL ["steps"] (spLast K)) (gL : mg "place_of_last" = some (.ref fL)) (kL : PySem.W.keepIn K (.ref fL) = true) (bL : Binds K dL ["steps"] []) : FnOk P w K mg base CX0 2 f fd ["thing"] (spFault K) := by
  refine F.ok scFault (fun vs H Q E h => ?_) (fun cdv A outer s H vs Q E hr h => ?_)
  · obtain ⟨v, d, Hv, rfl, _⟩ := h
    rfl
  · obtain ⟨v, d, Hv, rfl, sv, hd, hz, q1, q2⟩ := h
    refine ⟨_, pss_cons (ps_set (i := 1) scFault.nd rfl (.inl rfl) (pe_lst (pa_cons (pe_tup (pa_cons (pv 0) (pa_cons pe_int (pa_cons pe_int pa_nil)))) pa_nil))) <|
      pss_cons (ps_set (i := 2) scFault.nd rfl (.inl rfl) (pe_lst pa_nil)) <|
      pss_cons (ps_while PassesOwn.never (pt_truth (pv 1) (by intro _; rfl)) (
        pss_cons (ps_asg (pe_bm0 PySem.F.plainAttrs_list PySem.F.slot_list_pop PySem.F.type_list_pop mt_pop (pv 1)) (pg_tup rfl (pgs_cons (pg_name (i := 3) scFault.nd rfl (.inr rfl)) (pgs_cons (pg_name (i := 4) scFault.nd rfl (.inl rfl)) (pgs_cons (pg_name (i := 5) scFault.nd rfl (.inl rfl)) pgs_nil))))) <|
        pss_cons (ps_set (i := 6) scFault.nd rfl (.inr rfl) (pe_callB call_len_seq (by rfl) B.len PySem.boot_len (pa_cons (pv 2) pa_nil))) <|
        pss_cons (ps_expr (pe_bm PySem.F.plainAttrs_list PySem.F.slot_list_append PySem.F.type_list_append mt_append (pv 2) (pa_cons (pe_tup (pa_cons (pv 4) (pa_cons (pv 5) pa_nil))) pa_nil))) <|
        pss_one (ps_if (pt_val (pe_callB call_isi (by rfl) T.isi (by decide +kernel) (pa_cons (pv 3) (pa_cons (pe_bltn (v := .ty "list") (by rfl) T.lst (by decide +kernel) rfl) pa_nil))))
          (pss_one (ps_expr (pe_bm PySem.F.plainAttrs_list PySem.F.slot_list_extend PySem.F.type_list_extend mt_extend (pv 1) (pa_cons (pe_lc (own := [("k", 7)]) (g := gName 7) (tt := tYes)
            (te := tTup (tCons (tOp (rIxL K) (tVar 3) (tVar 7)) (tCons (tVar 6) (tCons (tVar 7) tNil)))) rfl scFault.nd
            (pi_range3 (by rfl) Y.range (pa_cons (pe_op op_sub (pe_callB call_len_seq (by rfl) B.len PySem.boot_len (pa_cons (pv 3) pa_nil)) pe_int) (pa_cons (pe_un un_neg pe_int) (pa_cons (pe_un un_neg pe_int) pa_nil))))
            (blkOk_by (own := [("k", 7)]) (N := ["thing", "waiting", "steps", "part", "above", "at", "number", "k"]) (sc := defScope s_first_fault) (by decide +kernel)) (fun _ _ _ _ _ => pg_name (i := 7) scFault.nd rfl (Or.inl rfl)) (fun _ _ _ _ _ => pts_nil)
            (fun _ _ _ _ _ => pe_tup (pa_cons (pe_ix ix_list (pv 3) (pv 7) (fun _ _ => rfl)) (pa_cons (pv 6) (pa_cons (pv 7) pa_nil))))) pa_nil))))
          (pss_one (ps_if (PW.pt (pw_and (pt_cmp (pc_notN (pv 3))) (pw_and1 (pt_not (pt_val (pe_call GI (hr.mono (by decide)) (by rfl) gI kI bI .nil pass0 (pa_cons (pv 3) pa_nil)))))))
            (pss_one (ps_ret (pe_call GL (hr.mono (by decide)) (by rfl) gL kL bL .nil pass0 (pa_cons (pv 2) pa_nil)))) pss_nil))))) <|
      pss_one (ps_ret pe_non), ?_⟩
    refine ⟨_, rfl, (by show 3 ≤ sizeLine; decide), fun t0 nt0 => ⟨(by show 1 ≤ sizeLine; decide), fun wa nwa => ⟨by decide, fun sa nsa => ?_⟩⟩⟩
    have sm0 : Same H (upd (upd (upd H t0 (.tup [v, .int 0, .int 0])) wa (.lst [.ref t0])) sa (.lst [])) := ((same_upd nt0).trans (same_upd nwa)).trans (same_upd nsa)
    have nwaH : H wa = none := (same_upd nt0).free nwa
    have nsaH : H sa = none := ((same_upd nt0).trans (same_upd nwa)).free nsa
    have wt : wa ≠ t0 := fun e => by
      rw [e, upd_same] at nwa
      cases nwa
    have st : sa ≠ t0 := fun e => by
      rw [e, upd_ne wt.symm, upd_same] at nsa
      cases nsa
    have sw : sa ≠ wa := fun e => by
      rw [e, upd_same] at nsa
      cases nsa
    refine ⟨fun m σ H1 => ∃ (xs : List V) (ps : List (PyData × List Nat)) (ys : List V) (pl : List (List Nat)) (z3 z4 z5 z6 : Option V), σ = [some v, some (.ref wa), some (.ref sa), z3, z4, z5, z6, none] ∧ Same H H1 ∧ H1 wa = some (.lst xs.reverse) ∧ H1 sa = some (.lst ys) ∧
      PendOk K Hv H1 pl xs ps ∧ StepsOk H1 ys pl ∧ (pl = [] → ps.length ≤ 1) ∧ faultP ps = faultD d ∧ pl.length + szP ps ≤ 10000 ∧ m = szP ps,
      ⟨_, [.ref t0], [(d, [])], [], [], none, none, none, none, rfl, sm0, ?_, upd_same, .cons (a := 0) (i := 0) ?_ hd ⟨fun _ => rfl, fun z => absurd rfl z⟩ .nil, ⟨rfl, fun n p e => by simp at e⟩, fun _ => Nat.le_refl 1, ?_, ?_, rfl⟩, ?_⟩
    · rw [upd_ne sw.symm, upd_same]
      rfl
    · rw [upd_ne st.symm, upd_ne wt.symm, upd_same]
      rfl
    · simp only [faultP]
      cases faultD d <;> rfl
    · simpa [szP, szAll] using hz
    rintro m σ H1 ⟨xs, ps, ys, pl, z3, z4, z5, z6, rfl, sm, hw, hs, hP, hS, h1l, hf, hb, rfl⟩
    refine ⟨_, rfl, _, .inl ⟨_, SqL.of hw, rfl⟩, ?_⟩
    cases hP with
    | nil => exact iteF (q1 (by rw [← hf]; rfl) H1 sm)
    | @cons t v1 d1 a i p1 xs' ps' ht hd1 hl hP' =>
      have hne : (!((V.ref t :: xs').reverse).isEmpty) = true := by simp
      rw [hne]
      refine iteT ?_
      rw [List.reverse_cons] at hw
      rw [szP_cons] at hb
      have pl1 := sz_pos d1
      refine ⟨fun σ' H2 => ∃ (xs2 : List V) (ps2 : List (PyData × List Nat)) (ys2 : List V) (pl2 : List (List Nat)) (z3 z4 z5 z6 : Option V), σ' = [some v, some (.ref wa), some (.ref sa), z3, z4, z5, z6, none] ∧ Same H H2 ∧ H2 wa = some (.lst xs2.reverse) ∧ H2 sa = some (.lst ys2) ∧
        PendOk K Hv H2 pl2 xs2 ps2 ∧ StepsOk H2 ys2 pl2 ∧ (pl2 = [] → ps2.length ≤ 1) ∧ faultP ps2 = faultD d ∧ pl2.length + szP ps2 ≤ 10000 ∧ szP ps2 < szP ((d1, p1) :: ps'), ?_, ?_⟩
      · rintro σ' H2 ⟨xs2, ps2, ys2, pl2, y3, y4, y5, y6, e, g1, g2, g3, g4, g5, g6, g7, g8, g9⟩
        exact ⟨_, g9, xs2, ps2, ys2, pl2, y3, y4, y5, y6, e, g1, g2, g3, g4, g5, g6, g7, g8, rfl⟩
      -- part, above, at = waiting.pop()
      have tw : t ≠ wa := fun e => by
        rw [e, hw] at ht
        cases ht
      refine ⟨_, rfl, .inl ⟨rfl, _, SqL.of hw⟩, wa, _, .ref t, rfl, rfl, hw, by simp, ?_⟩
      rw [List.dropLast_concat]
      refine ⟨t, _, rfl, SqT.of ((upd_ne tw).trans ht), rfl, _, _, rfl, _, _, rfl, _, _, rfl, rfl, ?_⟩
      have hs2 : (upd H1 wa (.lst xs'.reverse)) sa = some (.lst ys) := (upd_ne sw).trans hs
      refine ⟨_, rfl, sa, ys, rfl, .inl (SqL.of hs2), ?_⟩
      refine ⟨_, rfl, .inl ⟨rfl, _, SqL.of hs2⟩, _, rfl, _, rfl, (by show 2 ≤ sizeLine; decide), fun tp ntp => ⟨sa, _, _, rfl, rfl, same_upd ntp _ _ hs2, Nat.lt_of_le_of_lt (show ys.length ≤ 10000 by rw [hS.1]; omega) (by decide), ?_⟩⟩
      have tpw : wa ≠ tp := fun e => by
        rw [← e, upd_same] at ntp
        cases ntp
      have tps : sa ≠ tp := fun e => by
        rw [← e, hs2] at ntp
        cases ntp
      have tpH1 : H1 tp = none := by rw [upd_ne tpw.symm] at ntp; exact ntp
      have smG : Same H (upd (upd (upd H1 wa (.lst xs'.reverse)) tp (.tup [.int ((a : Nat) : Int), .int ((i : Nat) : Int)])) sa (.lst (ys ++ [.ref tp]))) := same_fresh nsaH (fun b o e => same_upd ntp _ _ (same_fresh nwaH sm b o e))
      have hwG : (upd (upd (upd H1 wa (.lst xs'.reverse)) tp (.tup [.int ((a : Nat) : Int), .int ((i : Nat) : Int)])) sa (.lst (ys ++ [.ref tp]))) wa = some (.lst xs'.reverse) := by
        rw [upd_ne sw.symm, upd_ne tpw, upd_same]
      have tpG : (upd (upd (upd H1 wa (.lst xs'.reverse)) tp (.tup [.int ((a : Nat) : Int), .int ((i : Nat) : Int)])) sa (.lst (ys ++ [.ref tp]))) tp = some (.tup [.int ((a : Nat) : Int), .int ((i : Nat) : Int)]) := by
        rw [upd_ne tps.symm, upd_same]
      have hsG : (upd (upd (upd H1 wa (.lst xs'.reverse)) tp (.tup [.int ((a : Nat) : Int), .int ((i : Nat) : Int)])) sa (.lst (ys ++ [.ref tp]))) sa = some (.lst (ys ++ [.ref tp])) := upd_same
      have keep : ∀ b o, H1 b = some (.tup o) → (upd (upd (upd H1 wa (.lst xs'.reverse)) tp (.tup [.int ((a : Nat) : Int), .int ((i : Nat) : Int)])) sa (.lst (ys ++ [.ref tp]))) b = some (.tup o) := by
        intro b o e
        have b1 : b ≠ wa := fun z => by rw [z, hw] at e; cases e
        have b2 : b ≠ sa := fun z => by rw [z, hs] at e; cases e
        have b3 : b ≠ tp := fun z => by rw [z, tpH1] at e; cases e
        rw [upd_ne b2, upd_ne b3, upd_ne b1]
        exact e
      generalize upd (upd (upd H1 wa (.lst xs'.reverse)) tp (.tup [.int ((a : Nat) : Int), .int ((i : Nat) : Int)])) sa (.lst (ys ++ [.ref tp])) = G at smG hwG tpG hsG keep
      have hSG : StepsOk G (ys ++ [.ref tp]) (pl ++ [p1]) := StepsOk.snoc ⟨hS.1, fun n p e => let ⟨t, a, i, g1, g2, g3, g4⟩ := hS.2 n p e; ⟨t, a, i, g1, keep _ _ g2, g3, g4⟩⟩ tpG hl
      have hPG : PendOk K Hv G (pl ++ [p1]) xs' ps' := by
        by_cases e : pl = []
        · have := h1l e
          have e2 : ps' = [] := List.length_eq_zero_iff.mp (by simpa using this)
          subst e2
          cases hP'
          exact .nil
        · exact (hP'.more e p1).same keep
      have svG : Same Hv G := sv.trans smG
      have nonil : pl ++ [p1] ≠ [] := by simp
      have next : ∀ z3 z4 z5 z6, faultD d1 = none → ∃ (xs2 : List V) (ps2 : List (PyData × List Nat)) (ys2 : List V) (pl2 : List (List Nat)) (y3 y4 y5 y6 : Option V), [some v, some (.ref wa), some (.ref sa), z3, z4, z5, z6, none] = [some v, some (.ref wa), some (.ref sa), y3, y4, y5, y6, none] ∧ Same H G ∧ G wa = some (.lst xs2.reverse) ∧ G sa = some (.lst ys2) ∧
          PendOk K Hv G pl2 xs2 ps2 ∧ StepsOk G ys2 pl2 ∧ (pl2 = [] → ps2.length ≤ 1) ∧ faultP ps2 = faultD d ∧ pl2.length + szP ps2 ≤ 10000 ∧ szP ps2 < szP ((d1, p1) :: ps') := by
        intro z3 z4 z5 z6 e
        refine ⟨xs', ps', _, _, _, _, _, _, rfl, smG, hwG, hsG, hPG, hSG, fun z => absurd z nonil, ?_, ?_, ?_⟩
        · rw [← hf]
          simp only [faultP, e]
        · rw [List.length_append]
          show pl.length + 1 + _ ≤ _
          omega
        · rw [szP_cons]
          omega
      refine ⟨_, rfl, v1, .ty "list", .type (tyD d1), .type "list", _, rfl, .ty _, dp_ty (dp_same svG _ _ hd1), kitL d1 K, _, rfl, ?_⟩
      by_cases el : (tyD d1 == "list") = true
      · rw [el]
        refine iteT ?_
        cases hd1 with
        | @lst b xs1 es hb1 hes =>
          have hbG : SqL K G b xs1 := svG.seq hb1
          have hlen : xs1.length = es.length := DpAll.length hes
          have esz := szAll_len es
          have hz1 : szAll es + 1 + (pl.length + szP ps') ≤ 10000 := by
            simp only [sz] at hb
            omega
          have wlen : xs'.length ≤ 10000 := by
            have e1 := hP'.len
            have e2 := szP_len ps'
            omega
          refine ⟨_, rfl, .inl ⟨rfl, _, SqL.of hwG⟩, _, rfl, b, xs1, rfl, .inl hbG, _, _, rfl, rfl, _, rfl, _, rfl, _, _, _, xs1.length, rfl, ?_, fun D nD => lc_it walk_rangeC (fun k H' => ∃ ws, H' D = some (.lst ws) ∧ ws.length = k ∧ Same G H' ∧ PendOk K Hv H' (pl ++ [p1]) ws.reverse (kids (xs1.length - k) (es.drop (xs1.length - k)) p1)) ?_ (fun _ _ _ _ => trivial) ?_ ?_⟩
          · have e : (((xs1.length : Nat) : Int) - 1 - -1).toNat = xs1.length := by omega
            have big : xs1.length ≤ 10000 := by omega
            have g := RgC.neg (i := ((xs1.length : Nat) : Int) - 1) (j := -1) (by omega) (by omega) (by decide) (by decide)
            rw [e] at g
            exact g
          · refine ⟨[], upd_same, rfl, same_upd nD, ?_⟩
            rw [Nat.sub_zero, hlen, List.drop_length]
            exact .nil
          · rintro k x H2 _ hk ⟨ws, h1, h2, h3, h4⟩ ⟨rfl, hx⟩
            have hx' : x = .int ((xs1.length - 1 - k : Nat) : Int) := by
              rw [hx]
              show V.int (((xs1.length : Nat) : Int) - 1 + ((k : Nat) : Int) * -1) = _
              have : ((xs1.length : Nat) : Int) - 1 + ((k : Nat) : Int) * -1 = ((xs1.length - 1 - k : Nat) : Int) := by omega
              rw [this]
            subst hx'
            obtain ⟨j, hj⟩ : ∃ j, j = xs1.length - 1 - k := ⟨_, rfl⟩
            rw [← hj]
            have hjx : xs1[j]? = some xs1[j] := List.getElem?_eq_getElem (by omega)
            obtain ⟨e, he, hde⟩ := DpAll.get hes hjx
            refine ⟨rfl, _, rfl, _, rfl, b, xs1, _, _, rfl, rfl, h3.seq hbG, atI_nat hjx, _, rfl, _, rfl, (by show 3 ≤ sizeLine; decide), fun T nT => ⟨ws, same_upd nT _ _ h1, Nat.lt_of_le_of_lt (show ws.length ≤ 10000 by omega) (by decide), ws ++ [.ref T], upd_same, by simp [h2], same_fresh nD (h3.trans (same_upd nT)), ?_⟩⟩
            have TD : T ≠ D := fun z => by rw [z, h1] at nT; cases nT
            have ek : xs1.length - (k + 1) = j := by omega
            have ek2 : xs1.length - k = j + 1 := by omega
            rw [ek2] at h4
            have kd := kids_drop p1 0 es e j he
            rw [Nat.zero_add] at kd
            rw [ek, kd, List.reverse_append]
            refine .cons (t := T) (a := ys.length) (i := j) ?_ hde ⟨fun z => absurd z nonil, fun _ => ⟨p1, by rw [hS.1]; simp, rfl⟩⟩ (h4.same fun c o ec => ?_)
            · rw [upd_ne TD, upd_same]
            · have c1 : c ≠ D := fun z => by rw [z, h1] at ec; cases ec
              have c2 : c ≠ T := fun z => by rw [z, nT] at ec; cases ec
              rw [upd_ne c1, upd_ne c2]
              exact ec
          · rintro H2 ⟨ws, h1, h2, h3, h4⟩
            rw [Nat.sub_self] at h4
            have wl : ws.length ≤ 10000 := by omega
            refine ⟨wa, D, _, ws, rfl, rfl, h3 _ _ hwG, h1, Nat.le_trans (show xs'.reverse.length + ws.length ≤ 20000 by rw [List.length_reverse]; omega) (by decide), ?_⟩
            have kp : ∀ c o, H2 c = some (.tup o) → (upd H2 wa (.lst (xs'.reverse ++ ws))) c = some (.tup o) := fun c o ec => by
              have c1 : c ≠ wa := fun z => by rw [z, h3 _ _ hwG] at ec; cases ec
              rw [upd_ne c1]
              exact ec
            refine ⟨ws.reverse ++ xs', kids 0 es p1 ++ ps', ys ++ [.ref tp], pl ++ [p1], _, _, _, _, rfl, same_fresh nwaH (smG.trans h3), ?_, ?_, ?_, ?_, fun z => absurd z nonil, ?_, ?_, ?_⟩
            · rw [upd_same]
              simp
            · rw [upd_ne sw]
              exact h3 _ _ hsG
            · exact (PendOk.append h4 (hPG.same fun c o ec => h3 _ _ ec)).same kp
            · exact ⟨hSG.1, fun n p e => let ⟨t, a, i, g1, g2, g3, g4⟩ := hSG.2 n p e; ⟨t, a, i, g1, kp _ _ (h3 _ _ g2), g3, g4⟩⟩
            · rw [faultP_kids, ← hf]
              simp only [faultP, faultD]
            · rw [szP_append, szP_kids, List.length_append]
              show pl.length + 1 + _ ≤ _
              omega
            · rw [szP_append, szP_kids, szP_cons]
              simp only [sz]
              omega
        | _ => simp [tyD] at el
      · have el' : (tyD d1 == "list") = false := by simpa using el
        rw [el']
        refine iteF ?_
        by_cases en : d1 = .none
        · subst en
          cases hd1
          refine ⟨_, rfl, _, rfl, ?_⟩
          exact iteF (iteF (next _ _ _ _ rfl))
        · have nv : v1 ≠ .non := by
            intro z
            subst z
            cases hd1
            exact en rfl
          have ef := fault_leaf el' en
          refine ⟨_, rfl, _, rfl, iteNN nv ?_⟩
          refine ⟨_, rfl, v1, d1, Hv, rfl, svG, hd1, by omega, _, rfl, ?_⟩
          by_cases ei : isT d1 = true
          · rw [ei] at ef ⊢
            exact iteF (next _ _ _ _ ef)
          · have ei' : isT d1 = false := by simpa using ei
            rw [ei'] at ef ⊢
            refine iteT ?_
            have ef2 : faultD d1 = some [] := ef
            have ed : faultD d = some p1 := by
              rw [← hf]
              simp [faultP, ef2]
            refine ⟨_, rfl, sa, _, pl ++ [p1], pl.length, p1, rfl, SqL.of hsG, hSG, by simp, by omega, by simp, fun H' t2 s2 nt2 ht2 => ?_⟩
            exact q2 p1 ed H' t2 (smG.trans s2) (smG.free nt2) ht2 (Nat.le_trans (fault_len _ _ ed) hz)
end
end TX
namespace TX
open PySem PySem.Spec PySem.Calls PyProof.Rows L2
open PySem.W (Frag InstAt findIn subIn Looks looks_findIn looks_subIn CmpBack BoolBack LenBack)
/-! ### the signs of own classes, at the library's level -/
section
variable {prog : Program} {w : World} {A : Around} {E : Value → Shared → Prop} {s : Shared} {K : Frag} {x C L f : Addr} {h₀ : Heap} {m : Str → Option Value} {ox : Obj} {od : Option Obj} {b : Value}
theorem isInst_K {C : Addr} {T : String} (X : K.In s.heap) (I : InstAt s.heap x ox C od) (ho : subIn K (.ref C) (.type T) = some true) : Looks (model prog w) s.heap (isInstance (.ref x) (.type T)) true := I.type.andThen (looks_subIn X ho)
/-- x != b of own objects, by the own == -/
theorem ne_K {Q : Value → Shared → Prop} (hu : A.units + 1 < cLine) (F : Fr h₀ L s.heap m) (X₀ : K.In h₀) (I : InstAt s.heap x ox C od) (hb : Looks (model prog w) s.heap (typeOf b) (.ref C)) (hn : findIn K (.ref C) "__ne__" = some (some (.builtin "object.__ne__")))
    (hs : findIn K (.ref C) "__eq__" = some (some (.ref f))) (hf : PySem.W.isFn K (.ref f) = true) (ho : subIn K (.ref C) (.type "object") = some true)
    (h : wpAny (model prog w) A.in1 (call (.ref f) [.ref x, b]) (fun v s' => ∃ c, v = .bool c ∧ Q (.bool (!c)) s') E s) : wpAny (model prog w) A (richCompare .NotEq (.ref x) b) Q E s := by
  have X := X₀.keeps F.keep
  have one : wpAny (model prog w) A (tryCompare (.ref x) "__ne__" b) (fun r s' => ∃ v, r = some v ∧ Q v s') E s := by
    have S := PySem.F.cmp_object.ne
    have hcall : wpAny (model prog w) A (call (.builtin "object.__ne__") [.ref x, b]) (fun v s' => v ≠ .notImplemented ∧ Q v s') E s := by
      refine wpAny_call (codeAny_call_builtin S.plain PySem.F.cmpEntry_ne ?_)
      refine PySem.W.check_slot PySem.F.cmpKind_ne PySem.F.cmpSplit_ne (isInst_K X I ho) (PySem.F.cmpArgs_ne _ _) ?_
      unfold Builtin.«object.__ne__»
      obtain ⟨hh, g, d, tt, os⟩ := s
      repeat (first
        | with_reducible refine wpAny_cRoomFor hu ?_
        | (refine wpAny_bind (m := callSpecialIfBound? (.ref x) (Str.ofString "__eq__") [b])
            (PySem.W.ifBound_K X I hs hf (wpAny_mono h (fun r s' hr => by
              obtain ⟨c, rfl, hq⟩ := hr
              repeat (first | exact ⟨(fun z => nomatch z), hq⟩ | exact wpAny_pure ⟨(fun z => nomatch z), hq⟩ | exact wpAny_truthy_bool ⟨(fun z => nomatch z), hq⟩ | (refine wpAny_bind (m := truthy (.bool _)) (wpAny_truthy_bool ?_)) | wp_step)) fun _ _ e => e)))
        | wp_step)
    unfold tryCompare
    refine wpAny_bind (m := callSpecialIfBound? (.ref x) (Str.ofString "__ne__") [b]) ?_
    simp only [callSpecialIfBound?, bindSpecialIfBound?]
    refine wpAny_holding (wpAny_bind (wpAny_bind (wpAny_bind (I.type.here ((looks_findIn X hn).here ?_)))))
    simp only [S.bind]
    refine wpAny_bind (wpAny_askSetting (wpAny_ite ?_))
    have fin : ∀ v s', (v ≠ .notImplemented ∧ Q v s') → wpAny (model prog w) A (match (some v : Option Value) with
        | some .notImplemented => pure none
        | none => pure none
        | some u => pure (some u)) (fun r s' => ∃ v, r = some v ∧ Q v s') E s' := by
      rintro v s' ⟨h1, h2⟩
      cases v <;> first | exact absurd rfl h1 | exact wpAny_pure ⟨_, rfl, h2⟩
    split
    · refine wpAny_bind (wpAny_pure (wpAny_pure ?_))
      refine wpAny_bind (m := call (.builtin "object.__ne__") ([.ref x] ++ [b])) (wpAny_mono hcall (fun v s' h' => ?_) fun _ _ h' => h')
      exact wpAny_pure (fin v s' h')
    · refine wpAny_tryCatch (wpAny_bind (wpAny_pure (wpAny_pure ?_)))
      refine wpAny_bind (m := call (.builtin "object.__ne__") ([.ref x] ++ [b])) (wpAny_mono hcall (fun v s' h' => ?_) fun _ _ h' => h')
      exact wpAny_pure (fin v s' h')
  unfold richCompare
  simp only [oneThing_ref]
  refine wpAny_holding (wpAny_bind (wpAny_cRoomFor (Nat.lt_of_succ_lt hu) ?_))
  rw [cmpInfo_NotEq]
  dsimp only
  refine wpAny_bind (I.type.here (wpAny_bind (hb.here ?_)))
  rw [show (Value.ref C != Value.ref C) = false from by simp]
  simp only [Bool.false_eq_true, if_false]
  refine wpAny_bind (wpAny_pure ?_)
  simp only [Bool.false_eq_true, if_false]
  refine wpAny_bind (wpAny_mono one (fun r s' z => ?_) fun _ _ e => e)
  obtain ⟨v, rfl, hq⟩ := z
  exact wpAny_pure hq
/-- bool(x) of an own object -/
theorem boolK {Q : Value → Shared → Prop} (F : Fr h₀ L s.heap m) (X₀ : K.In h₀) (I : InstAt s.heap x ox C od) (hs : findIn K (.ref C) "__bool__" = some (some (.ref f))) (hf : PySem.W.isFn K (.ref f) = true)
    (h : wpAny (model prog w) A.in1.in1 (call (.ref f) [.ref x]) (fun v s' => ∃ c, v = .bool c ∧ Q (.bool c) s') E s) : wpAny (model prog w) A (call (.type "bool") [.ref x]) Q E s := by
  refine callType_newIn (S := fun A R s => wpAny (model prog w) A.in1 (truthy (.ref x)) (fun b s' => R (.ok (.ret (.bool b))) s') (fun e s' => R (.error e) s') s) PySem.F.called_bool PySem.F.newNe_bool (PySem.F.typeCall_bool_1 _) (PySem.F.newCall_bool_1 _) (fun obj => PySem.F.args_object_init_2 obj _) PySem.F.entry_bool_new ?_ ?_
  · refine .of_wp fun A R s hs => ?_
    obtain ⟨hp, g, d, tk, os⟩ := s
    have f1 := PySem.F.conv_sub_bool
    repeat (any_goals (first | assumption | (with_reducible refine wpAny_bind (m := truthy (.ref x)) (wpAny_mono hs (fun b s' hb => ?_) fun _ _ e => e)) | wp_step))
    all_goals first | exact ⟨_, rfl, hs⟩ | exact hs | skip
    all_goals exact ⟨_, rfl, hb⟩
  · exact PySem.W.truthy_K F X₀ I hs hf (wpAny_mono h (fun v s' hv => by
      obtain ⟨c, rfl, q⟩ := hv
      exact ⟨rfl, q⟩) fun _ _ e => e)
end
/-! ### the signs of own classes -/
section
variable {X : Cx} {CX : CXT} {C f : Addr} {k : Nat} {fd : FuncData} {ps : List Str} {sp : Sp} {E : XK}
theorem ep_back {pins : List (Addr × Obj)} {σ : L2.St} {Q : VK} {v : Value} {s' : Shared} (h : EP X pins σ Q v s') : PySem.W.CmpBack (EP X pins σ Q) v s' := by
  obtain ⟨x, H', I, r, q⟩ := h
  cases v <;> first
    | exact ⟨x, H', I, r, q⟩
    | (cases x <;> first | (cases (show Value.notImplemented = _ from r)) | (obtain ⟨t, z⟩ := (show ∃ t, Value.notImplemented = _ from r); cases z))
/-- a def run below the running body -/
theorem run_below {pins : List (Addr × Obj)} {σ : L2.St} {H : Hp} {s : Shared} {Q : VK} {us : List Value} {vs : List V} {A : Around} (F : FnOk X.prog X.w X.K X.mg X.base CX k f fd ps sp) (sb : Sub X k A) (hb : Binds X.K fd ps []) (hx : Passes CX X E)
    (I : Inv X pins σ H s) (r : Vals vs us) (h : sp vs H Q E) : wpAny (model X.prog X.w) A (call (.ref f) us) (EP X pins σ Q) X.xe s := by
  have e0 : Env0 X.prog X.w X.K X.mg X.base A X.stack s H := by
    have e := I.env0
    exact ⟨by rw [sb.fr]; exact e.frames, e.mod, e.bs, e.bsz, e.funs, e.frf, e.hok, e.bare⟩
  have hl := F.len _ _ _ _ h
  refine wpAny_call (codeAny_mono (F.run A X.stack s H ⟨us, []⟩ us vs Q E sb.room e0 (by
    have := hb s us I.kIn (by rw [List.append_nil, ← r.length]; exact hl)
    simpa using this) r h) fun r s' hq => ?_)
  cases r with
  | error e => exact hx pins σ H s e s' I hq
  | ok fl =>
    cases fl with
    | ret w => exact I.after hq
    | next => exact False.elim hq
    | brk => exact False.elim hq
    | cont => exact False.elim hq
theorem inst_at {pins : List (Addr × Obj)} {σ : L2.St} {H : Hp} {s : Shared} {p dx : Addr} {fs : List (Str × V)} (I : Inv X pins σ H s) (h : H p = some (.ins C dx fs)) : ∃ ox od, InstAt s.heap p ox C od := by
  obtain ⟨mA, J, _⟩ := ins_get I.hok h
  obtain ⟨od, J, _⟩ := J.look
  exact ⟨_, _, J⟩
/-- x + None -/
def rOwn (C : Addr) (sp : Sp) (E : XK) : V → V → Hp → VK → Prop := fun x y H Q => ∃ p dx fs, x = .ref p ∧ H p = some (.ins C dx fs) ∧ sp [x, y] H Q E
theorem op_own_non {fo ro rc : Option Value} (hm : Meth X.K C "__add__" f) (hc : PySem.W.selfFirst X.K C = true) (hr' : findIn X.K (.ref C) "__radd__" = some rc) (hp : rc = none ∨ ∃ g : Addr, rc = some (.ref g))
    (h1 : findIn X.K (.type "NoneType") "__add__" = some fo) (h2 : findIn X.K (.type "NoneType") "__radd__" = some ro) (hsub : subIn X.K (.type "NoneType") (.ref C) = some false)
    (F : FnOk X.prog X.w X.K X.mg X.base CX k f fd ps sp) (hr : Room k X.A) (hb : Binds X.K fd ps []) (hx : Passes CX X E) : OpR X (binaryOp .Add) (fun x y H Q => y = .non ∧ rOwn C sp E x y H Q) := by
  intro pins s σ H x y v u Q I rx ry h
  obtain ⟨rfl, p, dx, fs, rfl, hp', q⟩ := h
  cases rx
  cases ry
  obtain ⟨ox, od, J⟩ := inst_at I hp'
  obtain ⟨m, hF⟩ := I.fr
  refine PySem.W.ksp_binT (T := "NoneType") hF I.ok.mod.kin J rfl hc hm.at_ hm.fn hr' hp h1 h2 hsub ?_
  exact wpAny_mono (run_below (vs := [.ref p, .non]) F ⟨hr, rfl⟩ hb hx I (.cons rfl (.cons rfl .nil)) q) (fun _ _ h => ep_back h) fun _ _ e => e
/-- x += y -/
theorem ip_own (hm : Meth X.K C "__iadd__" f) (hc : PySem.W.selfFirst X.K C = true) (F : FnOk X.prog X.w X.K X.mg X.base CX k f fd ps sp) (hr : Room k X.A) (hb : Binds X.K fd ps []) (hx : Passes CX X E) : PIp X .Add (rOwn C sp E) := by
  intro pins s σ H x y v u Q I rx ry h
  obtain ⟨p, dx, fs, rfl, hp', q⟩ := h
  cases rx
  obtain ⟨ox, od, J⟩ := inst_at I hp'
  obtain ⟨m, hF⟩ := I.fr
  refine PySem.W.ksp_inplace hF I.ok.mod.kin J hc hm.at_ hm.fn ?_
  exact wpAny_mono (run_below (vs := [.ref p, y]) F ⟨hr, rfl⟩ hb hx I (.cons rfl (.cons ry .nil)) q) (fun _ _ h => ep_back h) fun _ _ e => e
/-- x[i] = y -/
theorem set_own (hm : Meth X.K C "__setitem__" f) (hq : PySem.W.noSeq X.K C = true) (F : FnOk X.prog X.w X.K X.mg X.base CX k f fd ps sp) (hr : Room k X.A) (hb : Binds X.K fd ps []) (hx : Passes CX X E) :
    PSet X (fun o i y H Q => ∃ p dx fs, o = .ref p ∧ H p = some (.ins C dx fs) ∧ sp [o, i, y] H (fun _ H' => Q H') E) := by
  intro pins s σ H o i y ov iv u Q I ro ri ry h
  obtain ⟨p, dx, fs, rfl, hp', q⟩ := h
  cases ro
  obtain ⟨ox, od, J⟩ := inst_at I hp'
  obtain ⟨m, hF⟩ := I.fr
  refine PySem.W.ksp_setItem hF I.ok.mod.kin J hq hm.at_ hm.fn ?_
  refine wpAny_mono (run_below (vs := [.ref p, i, y]) F ⟨hr, rfl⟩ hb hx I (.cons rfl (.cons ri (.cons ry .nil))) q) (fun _ _ h => ?_) fun _ _ e => e
  obtain ⟨x, H', I', _, q'⟩ := h
  exact ⟨H', I', q'⟩
/-- len(x) -/
theorem call_lenO (hm : Meth X.K C "__len__" f) (F : FnOk X.prog X.w X.K X.mg X.base CX k f fd ps sp) (hr : Room (k + 1) X.A) (hb : Binds X.K fd ps []) (hx : Passes CX X E) :
    CallR X (.builtin "len") (fun xs H Q => ∃ p dx fs, xs = [.ref p] ∧ H p = some (.ins C dx fs) ∧ sp xs H (fun v H' => ∃ n : Nat, v = .int (n : Nat) ∧ n < 2 ^ 62 ∧ Q v H') E) := by
  intro pins s σ H xs us Q I r h
  obtain ⟨p, dx, fs, rfl, hp', q⟩ := h
  obtain rfl := Vals.ref1 r
  obtain ⟨ox, od, J⟩ := inst_at I hp'
  obtain ⟨m, hF⟩ := I.fr
  refine PySem.W.len_K hF I.ok.mod.kin J hm.at_ hm.fn ?_
  refine wpAny_mono (run_below F (Sub.in1 ⟨hr, rfl⟩) hb hx I r q) (fun v s' h => ?_) fun _ _ e => e
  obtain ⟨x, H', I', rv, n, rfl, hn, q'⟩ := h
  obtain ⟨t, rfl⟩ := rv
  exact ⟨⟨by omega, by omega⟩, .int n, H', I'.tok _, ⟨_, rfl⟩, q'⟩
/-- bool(x) -/
theorem call_boolO (hm : Meth X.K C "__bool__" f) (F : FnOk X.prog X.w X.K X.mg X.base CX k f fd ps sp) (hr : Room (k + 2) X.A) (hb : Binds X.K fd ps []) (hx : Passes CX X E) :
    CallR X (.type "bool") (fun xs H Q => ∃ p dx fs, xs = [.ref p] ∧ H p = some (.ins C dx fs) ∧ sp xs H (fun v H' => ∃ c, v = .bl c ∧ Q v H') E) := by
  intro pins s σ H xs us Q I r h
  obtain ⟨p, dx, fs, rfl, hp', q⟩ := h
  obtain rfl := Vals.ref1 r
  obtain ⟨ox, od, J⟩ := inst_at I hp'
  obtain ⟨m, hF⟩ := I.fr
  refine boolK hF I.ok.mod.kin J hm.at_ hm.fn ?_
  refine wpAny_mono (run_below F (Sub.in1 (Sub.in1 ⟨hr, rfl⟩)) hb hx I r q) (fun v s' h => ?_) fun _ _ e => e
  obtain ⟨x, H', I', rv, c, rfl, q'⟩ := h
  cases rv
  exact ⟨c, rfl, .bl c, H', I', rfl, q'⟩
/-- x != y, by the own == -/
theorem op_ne_own (hm : Meth X.K C "__eq__" f) (hn : findIn X.K (.ref C) "__ne__" = some (some (.builtin "object.__ne__"))) (ho : subIn X.K (.ref C) (.type "object") = some true) (F : FnOk X.prog X.w X.K X.mg X.base CX k f fd ps sp) (hr : Room (k + 1) X.A) (hb : Binds X.K fd ps []) (hx : Passes CX X E) :
    OpR X (compareOp .NotEq) (fun x y H Q => ∃ p q dx dy fs gs, x = .ref p ∧ y = .ref q ∧ H p = some (.ins C dx fs) ∧ H q = some (.ins C dy gs) ∧ sp [x, y] H (fun v H' => ∃ c, v = .bl c ∧ Q (.bl (!c)) H') E) := by
  intro pins s σ H x y v u Q I rx ry h
  obtain ⟨p, q, dx, dy, fs, gs, rfl, rfl, hp', hq', h⟩ := h
  cases rx
  cases ry
  obtain ⟨ox, od, J⟩ := inst_at I hp'
  obtain ⟨oy, ody, J2⟩ := inst_at I hq'
  obtain ⟨m, hF⟩ := I.fr
  show wpAny (model X.prog X.w) X.A (richCompare .NotEq _ _) _ _ _
  refine ne_K (by have := hr.un; omega) hF I.ok.mod.kin J J2.type hn hm.at_ hm.fn ho ?_
  refine wpAny_mono (run_below (vs := [.ref p, .ref q]) F (Sub.in1 ⟨hr, rfl⟩) hb hx I (.cons rfl (.cons rfl .nil)) h) (fun v s' h => ?_) fun _ _ e => e
  obtain ⟨x, H', I', rv, c, rfl, q'⟩ := h
  cases rv
  exact ⟨c, rfl, .bl _, H', I', rfl, q'⟩
end
end TX
namespace TX
open PySem PySem.Spec PyProof.Rows L2
structure Nq (mg : Str → Option Value) : Prop where
  bool : mg "bool" = none
theorem lt_ltB {x : Str} (h : Lt x) : ltB x = true := by
  unfold ltB
  rw [List.all_eq_true]
  exact fun c hc => decide_eq_true (h c hc)
mutual
theorem val_fault : ∀ d : PyData, valD d → faultD d = none
  | .none, _ => rfl
  | .str x, h => by simp only [faultD, lt_ltB h, if_true]
  | .list es, h => by
    simp only [faultD]
    exact val_faultAll es 0 h
  | .bool _, h => h.elim
  | .int _, h => h.elim
  | .tuple _, h => h.elim
  | .dict _, h => h.elim
theorem val_faultAll : ∀ (ds : List PyData) (k : Nat), valAll ds → faultAll k ds = none
  | [], _, _ => rfl
  | d :: ds, k, h => by
    simp only [faultAll, val_fault d h.1]
    exact val_faultAll ds (k + 1) h.2
end
def entD : PyData → List PyData
  | .none => []
  | .str x => [.str x]
  | .list es => es
  | _ => []
theorem ent_val {d : PyData} (h : valD d) : valAll (entD d) := by
  cases d with
  | none => exact trivial
  | str x => exact ⟨h, trivial⟩
  | list es => exact h
  | _ => exact h.elim
theorem ent_sz (d : PyData) : szAll (entD d) ≤ sz d := by
  cases d <;> simp [entD, szAll, sz]
def spOkV (K : PySem.W.Frag) (r : V) : Sp := fun vs H Q _ => ∃ (v : V) (d : PyData) (Hv : Hp), vs = [v] ∧ Same Hv H ∧ Dp K Hv v d ∧ valD d ∧ sz d ≤ 10000 ∧ ∀ H', Same H H' → Q r H'
def spEnt (K : PySem.W.Frag) : Sp := fun vs H Q _ => ∃ (v : V) (d : PyData) (Hv : Hp), vs = [v] ∧ Same Hv H ∧ Dp K Hv v d ∧ valD d ∧ ∀ (H' : Hp) (l : Addr) (ws : List V), Same H H' → H l = none → H' l = some (.lst ws) → DpAll K Hv ws (entD d) → Q (.ref l) H'
def spWhole (K : PySem.W.Frag) : Sp := fun vs H Q _ => ∃ (i : Int), vs = [.int i] ∧ Q (.bl true) H
def spIdx (K : PySem.W.Frag) : Sp := fun vs H Q _ => ∃ (r : Addr) (ws : List V) (i : Int), vs = [.ref r, .int i] ∧ SqL K H r ws ∧ ws.length ≤ 10000 ∧ -((ws.length : Nat) : Int) ≤ i ∧ i < ((ws.length : Nat) : Int) ∧ Q .non H
section
variable {P : Program} {w : World} {K : PySem.W.Frag} {mg : Str → Option Value} {base : Heap}
theorem scChk : FnScope ["thing", "place"] ["thing"] (defScope s_check_value) := ⟨rfl, rfl, rfl, by decide +kernel, rfl, by decide +kernel, by decide +kernel⟩
theorem ok_chk {f fF : Addr} {fd dF : FuncData} (F : Fun K "check_value" "check_value" s_check_value f fd) (GF : FnOk P w K mg base CX0 2 fF dF ["thing"] (spFault K)) (gF : mg "first_fault" = some (.ref fF)) (kF : PySem.W.keepIn K (.ref fF) = true) (bF : Binds K dF ["thing"] []) :
    FnOk P w K mg base CX0 3 f fd ["thing"] (spOkV K .non) := by
  refine F.ok scChk (fun vs H Q E h => ?_) (fun cdv A outer s H vs Q E hr h => ?_)
  · obtain ⟨v, d, Hv, rfl, _⟩ := h
    rfl
  · obtain ⟨v, d, Hv, rfl, sv, hd, vd, hz, q⟩ := h
    refine ⟨_, pss_cons (ps_set (i := 1) scChk.nd rfl (.inl rfl) (pe_call GF hr (by rfl) gF kF bF .nil pass0 (pa_cons (pv 0) pa_nil))) <|
      pss_one (ps_if (pt_cmp (pc_notN (pv 1))) (pss_one ps_never) pss_nil), ?_⟩
    refine ⟨_, rfl, v, d, Hv, rfl, sv, hd, hz, fun _ H' sm => ?_, fun p e => ?_⟩
    · exact ⟨_, rfl, _, rfl, iteF (q H' sm)⟩
    · rw [val_fault d vd] at e
      cases e
theorem scIsV : FnScope ["thing"] ["thing"] (defScope s_is_value) := ⟨rfl, rfl, rfl, by decide +kernel, rfl, by decide +kernel, by decide +kernel⟩
theorem ok_isV {f fF : Addr} {fd dF : FuncData} (F : Fun K "is_value" "is_value" s_is_value f fd) (GF : FnOk P w K mg base CX0 2 fF dF ["thing"] (spFault K)) (gF : mg "first_fault" = some (.ref fF)) (kF : PySem.W.keepIn K (.ref fF) = true) (bF : Binds K dF ["thing"] []) :
    FnOk P w K mg base CX0 3 f fd ["thing"] (spOkV K (.bl true)) := by
  refine F.ok scIsV (fun vs H Q E h => ?_) (fun cdv A outer s H vs Q E hr h => ?_)
  · obtain ⟨v, d, Hv, rfl, _⟩ := h
    rfl
  · obtain ⟨v, d, Hv, rfl, sv, hd, vd, hz, q⟩ := h
    refine ⟨_, pss_one (ps_ret (pe_cmp (pc_isN (pe_call GF hr (by rfl) gF kF bF .nil pass0 (pa_cons (pv 0) pa_nil))))), ?_⟩
    refine ⟨_, rfl, v, d, Hv, rfl, sv, hd, hz, fun _ H' sm => q H' sm, fun p e => ?_⟩
    rw [val_fault d vd] at e
    cases e
theorem scEnt : FnScope ["value"] ["value"] (defScope s_entries_of) := ⟨rfl, rfl, rfl, by decide +kernel, rfl, by decide +kernel, by decide +kernel⟩
theorem ok_ent {f : Addr} {fd : FuncData} (F : Fun K "entries_of" "entries_of" s_entries_of f fd) (T : Nm mg) (k : Nk mg) : FnOk P w K mg base CX0 1 f fd ["value"] (spEnt K) := by
  refine F.ok scEnt (fun vs H Q E h => ?_) (fun cdv A outer s H vs Q E hr h => ?_)
  · obtain ⟨v, d, Hv, rfl, _⟩ := h
    rfl
  · obtain ⟨v, d, Hv, rfl, sv, hd, vd, q⟩ := h
    refine ⟨_, pss_cons (ps_if (pt_cmp (pc_isN (pv 0))) (pss_one (ps_ret (pe_lst pa_nil))) pss_nil) <|
      pss_cons (ps_if (pt_val (pe_callB call_isi (by rfl) T.isi (by decide +kernel) (pa_cons (pv 0) (pa_cons (pe_bltn (v := .ty "str") (by rfl) k.str (by decide +kernel) rfl) pa_nil)))) (pss_one (ps_ret (pe_lst (pa_cons (pv 0) pa_nil)))) pss_nil) <|
      pss_one (ps_ret (pe_callTy call_list_of (by rfl) T.lst (by decide +kernel) (pa_cons (pv 0) pa_nil))), ?_⟩
    have ty := dp_ty (dp_same sv _ _ hd)
    cases hd with
    | non => exact ⟨_, rfl, _, rfl, iteT ⟨by decide, fun l nl => q _ l [] (same_upd nl) nl upd_same .nil⟩⟩
    | str x =>
      refine ⟨_, rfl, _, rfl, iteF ⟨_, rfl, .str x, .ty "str", _, .type "str", _, rfl, .ty _, ty, kitS (.str x) K, _, rfl, iteT ⟨_, rfl, by show 1 ≤ sizeLine; decide, fun l nl => q _ l [.str x] (same_upd nl) nl upd_same (.cons (.str x) .nil)⟩⟩⟩
    | @lst a xs es h1 h2 =>
      refine ⟨_, rfl, _, rfl, iteF ⟨_, rfl, .ref a, .ty "str", _, .type "str", _, rfl, .ty _, ty, kitS (.list es) K, _, rfl, iteF ⟨_, rfl, a, xs, rfl, .inl (sv.seq h1), fun l nl => q _ l xs (same_upd nl) nl upd_same h2⟩⟩⟩
    | _ => exact vd.elim
theorem scLEnt : FnScope ["_law_value_here"] ["_law_value_here"] (defScope s__law_entries) := ⟨rfl, rfl, rfl, by decide +kernel, rfl, by decide +kernel, by decide +kernel⟩
theorem ok_lent {f : Addr} {fd : FuncData} (F : Fun K "_law_entries" "_law_entries" s__law_entries f fd) (T : Nm mg) (k : Nk mg) : FnOk P w K mg base CX0 1 f fd ["_law_value_here"] (spEnt K) := by
  refine F.ok scLEnt (fun vs H Q E h => ?_) (fun cdv A outer s H vs Q E hr h => ?_)
  · obtain ⟨v, d, Hv, rfl, _⟩ := h
    rfl
  · obtain ⟨v, d, Hv, rfl, sv, hd, vd, q⟩ := h
    refine ⟨_, pss_cons (ps_if (pt_cmp (pc_isN (pv 0))) (pss_one (ps_ret (pe_lst pa_nil))) pss_nil) <|
      pss_one (ps_ret (pe_ifExp (pt_val (pe_callB call_isi (by rfl) T.isi (by decide +kernel) (pa_cons (pv 0) (pa_cons (pe_bltn (v := .ty "str") (by rfl) k.str (by decide +kernel) rfl) pa_nil)))) (pe_lst (pa_cons (pv 0) pa_nil))
        (pe_callTy call_list_of (by rfl) T.lst (by decide +kernel) (pa_cons (pv 0) pa_nil)))), ?_⟩
    have ty := dp_ty (dp_same sv _ _ hd)
    cases hd with
    | non => exact ⟨_, rfl, _, rfl, iteT ⟨by decide, fun l nl => q _ l [] (same_upd nl) nl upd_same .nil⟩⟩
    | str x =>
      refine ⟨_, rfl, _, rfl, iteF ⟨_, rfl, .str x, .ty "str", _, .type "str", _, rfl, .ty _, ty, kitS (.str x) K, _, rfl, iteT ⟨_, rfl, by show 1 ≤ sizeLine; decide, fun l nl => q _ l [.str x] (same_upd nl) nl upd_same (.cons (.str x) .nil)⟩⟩⟩
    | @lst a xs es h1 h2 =>
      refine ⟨_, rfl, _, rfl, iteF ⟨_, rfl, .ref a, .ty "str", _, .type "str", _, rfl, .ty _, ty, kitS (.list es) K, _, rfl, iteF ⟨_, rfl, a, xs, rfl, .inl (sv.seq h1), fun l nl => q _ l xs (same_upd nl) nl upd_same h2⟩⟩⟩
    | _ => exact vd.elim
theorem scWhole : FnScope ["thing"] ["thing"] (defScope s_is_whole_number) := ⟨rfl, rfl, rfl, by decide +kernel, rfl, by decide +kernel, by decide +kernel⟩
theorem ok_whole {f : Addr} {fd : FuncData} (F : Fun K "is_whole_number" "is_whole_number" s_is_whole_number f fd) (T : Nm mg) (k : Nq mg) (B : Nb mg) : FnOk P w K mg base CX0 1 f fd ["thing"] (spWhole K) := by
  refine F.ok scWhole (fun vs H Q E h => ?_) (fun cdv A outer s H vs Q E hr h => ?_)
  · obtain ⟨i, rfl, _⟩ := h
    rfl
  · obtain ⟨i, rfl, q⟩ := h
    refine ⟨_, pss_one (ps_ret (pe_and (pe_callB call_isi (by rfl) T.isi (by decide +kernel) (pa_cons (pv 0) (pa_cons (pe_bltn (v := .ty "int") (by rfl) B.int (by decide +kernel) rfl) pa_nil)))
      (pe_one (pe_not (pe_callB call_isi (by rfl) T.isi (by decide +kernel) (pa_cons (pv 0) (pa_cons (pe_bltn (v := .ty "bool") (by rfl) k.bool (by decide +kernel) rfl) pa_nil))))))), ?_⟩
    refine ⟨_, rfl, .int i, .ty "int", _, .type "int", _, rfl, .ty _, .base (.int i), kit_ty (a := "int") (b := "int") (r := true) (by decide +kernel), _, rfl, iteT ?_⟩
    refine ⟨_, rfl, .int i, .ty "bool", _, .type "bool", _, rfl, .ty _, .base (.int i), kit_ty (a := "int") (b := "bool") (r := false) (by decide +kernel), _, rfl, q⟩
theorem scIdx : FnScope ["rows", "at"] ["rows", "at"] (defScope s_check_index) := ⟨rfl, rfl, rfl, by decide +kernel, rfl, by decide +kernel, by decide +kernel⟩
theorem ok_idx {f fW : Addr} {fd dW : FuncData} (F : Fun K "check_index" "check_index" s_check_index f fd) (B : Nb mg) (GW : FnOk P w K mg base CX0 1 fW dW ["thing"] (spWhole K)) (gW : mg "is_whole_number" = some (.ref fW)) (kW : PySem.W.keepIn K (.ref fW) = true) (bW : Binds K dW ["thing"] []) :
    FnOk P w K mg base CX0 2 f fd ["rows", "at"] (spIdx K) := by
  refine F.ok scIdx (fun vs H Q E h => ?_) (fun cdv A outer s H vs Q E hr h => ?_)
  · obtain ⟨r, ws, i, rfl, _⟩ := h
    rfl
  · obtain ⟨r, ws, i, rfl, hS, hl, h1, h2, q⟩ := h
    refine ⟨_, pss_one (ps_if (PW.pt (pw_or (pt_not (pt_val (pe_call GW hr (by rfl) gW kW bW .nil pass0 (pa_cons (pv 1) pa_nil)))) (pw_or1 (pt_not (pt_chain op_le op_lt (pe_un un_neg (pe_callB call_len_seq (by rfl) B.len PySem.boot_len (pa_cons (pv 0) pa_nil))) (pv 1)
      (pe_callB call_len_seq (by rfl) B.len PySem.boot_len (pa_cons (pv 0) pa_nil))))))) (pss_one ps_never) pss_nil), ?_⟩
    refine ⟨_, rfl, i, rfl, _, rfl, iteF ⟨_, rfl, r, ws, rfl, .inl hS, _, rfl, _, rfl, _, _, rfl, rfl, _, rfl, ?_⟩⟩
    rw [decide_eq_true h1]
    refine iteT ⟨_, rfl, r, ws, rfl, .inl hS, _, _, rfl, rfl, _, rfl, ?_⟩
    rw [decide_eq_true h2]
    exact iteF q
end
end TX
namespace TX
open PySem PySem.Spec PyProof.Rows L2
/-! ### the outline of a value -/
mutual
def outD : PyData → List PyData
  | .list es => .int (es.length : Nat) :: outAll es
  | d => [d]
def outAll : List PyData → List PyData
  | [] => []
  | d :: ds => outD d ++ outAll ds
end
theorem outAll_append : ∀ (a b : List PyData), outAll (a ++ b) = outAll a ++ outAll b
  | [], b => rfl
  | d :: a, b => by rw [List.cons_append, outAll, outAll, outAll_append a b, List.append_assoc]
def OutR (K : PySem.W.Frag) (Hv : Hp) (x : V) (o : PyData) : Prop := (∃ e, Dp K Hv x e ∧ valD e ∧ (tyD e == "list") = false ∧ o = e) ∨ (∃ a xs es, x = .ref a ∧ SqL K Hv a xs ∧ DpAll K Hv xs es ∧ o = .int (es.length : Nat))
theorem path_out {K : PySem.W.Frag} {Hv : Hp} {S0 : List V × List PyData} (h0 : valAll S0.2) : ∀ {rs : List V} {S : List V × List PyData}, Path K Hv S0 rs S → valAll S.2 ∧ ∃ os : List PyData, outAll S0.2 = os ++ outAll S.2 ∧ os.length = rs.length ∧ ∀ (i : Nat) (x : V), rs.reverse[i]? = some x → ∃ o, os[i]? = some o ∧ OutR K Hv x o
  | _, _, .nil => ⟨h0, [], rfl, rfl, fun i x h => by simp at h⟩
  | _, _, .cons (rs := rs) (S := S1) (p := p) hp hst => by
    obtain ⟨v1, os, e1, l1, g1⟩ := path_out h0 hp
    have step : ∀ (o : PyData) (S' : List V × List PyData), outAll S1.2 = [o] ++ outAll S'.2 → OutR K Hv p o → ∃ os' : List PyData, outAll S0.2 = os' ++ outAll S'.2 ∧ os'.length = (p :: rs).length ∧ ∀ (i : Nat) (x : V), (p :: rs).reverse[i]? = some x → ∃ o, os'[i]? = some o ∧ OutR K Hv x o := by
      intro o S' he hr
      refine ⟨os ++ [o], by rw [e1, he, List.append_assoc], by simp [l1], fun i x hx => ?_⟩
      rw [List.reverse_cons] at hx
      by_cases hi : i < rs.reverse.length
      · rw [List.getElem?_append_left hi] at hx
        obtain ⟨o', h1, h2⟩ := g1 i x hx
        exact ⟨o', by rw [List.getElem?_append_left (by rw [List.length_reverse] at hi; omega)]; exact h1, h2⟩
      · rw [List.getElem?_append_right (by omega)] at hx
        rw [List.length_reverse] at hi hx
        have hi' : i - rs.length = 0 := by
          have := (List.getElem?_eq_some_iff.mp hx).1
          simp at this
          omega
        rw [hi'] at hx
        cases hx
        refine ⟨o, ?_, hr⟩
        rw [List.getElem?_append_right (by omega), l1, hi']
        rfl
    cases hst with
    | @leaf _ d r rd hd hl =>
      have vd := v1.1
      have hl' := Bool.or_eq_false_iff.mp hl
      refine ⟨v1.2, step d _ ?_ (.inl ⟨d, hd, vd, hl'.1, rfl⟩)⟩
      simp only [outAll]
      cases d with
      | list _ => simp [tyD] at hl
      | _ => rfl
    | @lst a xs r es rd h1 h2 =>
      refine ⟨(valAll_append _ _).mpr ⟨v1.1, v1.2⟩, step (.int (es.length : Nat)) _ ?_ (.inr ⟨a, xs, es, rfl, h1, h2, rfl⟩)⟩
      simp only [outAll, outD, outAll_append, List.cons_append, List.nil_append]
    | tup _ _ => exact v1.1.elim
theorem lt_strOk {x : Str} (h : Lt x) : PyData.strOk x = true := by
  unfold PyData.strOk
  rw [Array.all_eq_true_iff_forall_mem]
  exact fun c hc => decide_eq_true (Nat.lt_of_le_of_lt (h c (Array.mem_toList_iff.mpr hc)).2 (by decide))
mutual
theorem out_flat : ∀ d : PyData, valD d → PyData.canLayAll0 (outD d) = true ∧ PyData.depthAll (outD d) = 0
  | .none, _ => ⟨rfl, rfl⟩
  | .str x, h => ⟨by simp only [outD, PyData.canLayAll0, PyData.canLay0, lt_strOk h, Bool.and_self], rfl⟩
  | .list es, h => by
    obtain ⟨a, b⟩ := out_flatAll es h
    simp only [outD, PyData.canLayAll0, PyData.canLay0, a, PyData.depthAll, PyData.depth, b]
    exact ⟨rfl, rfl⟩
  | .bool _, h => h.elim
  | .int _, h => h.elim
  | .tuple _, h => h.elim
  | .dict _, h => h.elim
theorem out_flatAll : ∀ ds : List PyData, valAll ds → PyData.canLayAll0 (outAll ds) = true ∧ PyData.depthAll (outAll ds) = 0
  | [], _ => ⟨rfl, rfl⟩
  | d :: ds, h => by
    obtain ⟨a, b⟩ := out_flat d h.1
    obtain ⟨c, e⟩ := out_flatAll ds h.2
    have ap : ∀ (x y : List PyData), PyData.canLayAll0 x = true → PyData.canLayAll0 y = true → PyData.canLayAll0 (x ++ y) = true := by
      intro x
      induction x with
      | nil => exact fun y _ g => g
      | cons z x ih =>
        intro y h g
        simp only [List.cons_append, PyData.canLayAll0, Bool.and_eq_true] at h ⊢
        exact ⟨h.1, ih y h.2 g⟩
    refine ⟨ap _ _ a c, ?_⟩
    rw [outAll, depthAll_append, b, e]
    rfl
end
theorem out_shaped {d : PyData} (h : valD d) : SeqAt.shaped (.list (outD d)) = true := by
  obtain ⟨a, b⟩ := out_flat d h
  unfold SeqAt.shaped
  rw [Bool.and_eq_true]
  refine ⟨by simp only [PyData.canLay0, a], decide_eq_true ?_⟩
  simp only [PyData.depth, b]
  omega
def spOut (K : PySem.W.Frag) : Sp := fun vs H Q _ => ∃ (v : V) (d : PyData) (Hv : Hp), vs = [v] ∧ Same Hv H ∧ Dp K Hv v d ∧ valD d ∧ nd d ≤ 10000 ∧ ∀ (H' : Hp) (l : Addr), Same H H' → Dp K H' (.ref l) (.list (outD d)) → Q (.ref l) H'
section
variable {P : Program} {w : World} {K : PySem.W.Frag} {mg : Str → Option Value} {base : Heap}
theorem scOut : FnScope ["value", "part"] ["value"] (defScope s_outline_of) := ⟨rfl, rfl, rfl, by decide +kernel, rfl, by decide +kernel, by decide +kernel⟩
theorem ok_out {f fP : Addr} {fd fdP : FuncData} (F : Fun K "outline_of" "outline_of" s_outline_of f fd) (T : Nm mg) (B : Nb mg) (GP : FnOk P w K mg base CX0 1 fP fdP ["thing"] (spParts K)) (gP : mg "all_parts" = some (.ref fP)) (kP : PySem.W.keepIn K (.ref fP) = true) (bP : Binds K fdP ["thing"] []) :
    FnOk P w K mg base CX0 2 f fd ["value"] (spOut K) := by
  refine F.ok scOut (fun vs H Q E h => ?_) (fun cdv A outer s H vs Q E hr h => ?_)
  · obtain ⟨v, d, Hv, rfl, _⟩ := h
    rfl
  · obtain ⟨v, d, Hv, rfl, sv, hd, vd, hn, q⟩ := h
    refine ⟨_, pss_one (ps_ret (pe_lc (own := [("part", 1)]) (g := gName 1) (tt := tYes) (te := tIf (tB (tCB (rIsi K) (tCons (tVar 1) (tCons (tC (.ty "list")) tNil)))) (tCB (fun xs H Q => ∃ p ys, xs = [.ref p] ∧ (SqL K H p ys ∨ SqT K H p ys) ∧ Q (.int ys.length) H) (tCons (tVar 1) tNil)) (tVar 1)) rfl scOut.nd
      (pi_list (pe_call GP hr (by rfl) gP kP bP .nil pass0 (pa_cons (pv 0) pa_nil))) (blkOk_by (own := [("part", 1)]) (N := ["value", "part"]) (sc := defScope s_outline_of) (by decide +kernel)) (fun _ _ _ _ _ => pg_name (i := 1) scOut.nd rfl (Or.inl rfl)) (fun _ _ _ _ _ => pts_nil)
      (fun _ _ _ _ _ => pe_ifExp (pt_val (pe_callB call_isi (by rfl) T.isi (by decide +kernel) (pa_cons (pv 1) (pa_cons (pe_bltn (v := .ty "list") (by rfl) T.lst (by decide +kernel) rfl) pa_nil)))) (pe_callB call_len_seq (by rfl) B.len PySem.boot_len (pa_cons (pv 1) pa_nil)) (pv 1)))), ?_⟩
    refine ⟨_, rfl, v, d, Hv, rfl, sv, hd, by omega, fun H1 p rs s1 np hp hP hlen => ?_⟩
    obtain ⟨_, os, e1, l1, g1⟩ := path_out (S0 := ([v], [d])) ⟨vd, trivial⟩ hP
    have eo : outD d = os := by
      have : outAll [d] = os ++ outAll [] := e1
      simpa [outAll] using this
    refine ⟨p, rfl, ⟨_, SqL.of hp⟩, fun D nD => lc_list (K := K) (a := p) (xs := rs.reverse) (fun j H' => ∃ us, H' D = some (.lst us) ∧ us.length = j ∧ Same H1 H' ∧ ∀ G, DpAll K G us (os.take j)) ⟨[], upd_same, rfl, same_upd nD, fun G => .nil⟩ (fun j H' hj ⟨_, _, _, sm, _⟩ => SqL.of (sm _ _ hp)) ?_ ?_⟩
    · rintro j x H' hx ⟨us, h1, h2, sm, h3⟩
      have jl := (List.getElem?_eq_some_iff.mp hx).1
      rw [List.length_reverse] at jl
      obtain ⟨o, ho, hr'⟩ := g1 j x hx
      have tk : os.take (j + 1) = os.take j ++ [o] := by
        rw [List.take_add_one, ho]
        rfl
      have more : ∀ y, (∀ G, Dp K G y o) → ∃ acc, H' D = some (.lst acc) ∧ acc.length < sizeLine ∧ ∃ us, (upd H' D (.lst (acc ++ [y]))) D = some (.lst us) ∧ us.length = j + 1 ∧ Same H1 (upd H' D (.lst (acc ++ [y]))) ∧ ∀ G, DpAll K G us (os.take (j + 1)) := by
        intro y hy
        refine ⟨us, h1, Nat.lt_of_le_of_lt (show us.length ≤ 10000 by omega) (by decide), _, upd_same, by simp [h2], same_fresh nD sm, fun G => ?_⟩
        rw [tk]
        exact DpAll.append (h3 G) (.cons (hy G) .nil)
      rcases hr' with ⟨e, he, ve, hl, rfl⟩ | ⟨a, xs, es, rfl, hS, hD, rfl⟩
      · refine ⟨rfl, ?_⟩
        refine ⟨_, rfl, x, .ty "list", .type (tyD o), .type "list", _, rfl, .ty _, dp_ty (dp_same (sv.trans (s1.trans sm)) _ _ he), kitL o K, _, rfl, ?_⟩
        rw [hl]
        refine iteF ⟨_, rfl, more x fun G => ?_⟩
        rcases val_leaf he ve hl with ⟨rfl, rfl⟩ | ⟨z, rfl, rfl⟩
        · exact .non
        · exact .str z
      · refine ⟨rfl, ?_⟩
        have sq := (sv.trans (s1.trans sm)).seq hS
        have hds := dpAll_same (sv.trans (s1.trans sm)) _ _ hD
        refine ⟨_, rfl, .ref a, .ty "list", .type "list", .type "list", _, rfl, .ty _, dp_ty (d := .list es) (.lst sq hds), kitL (.list es) K, _, rfl, iteT ⟨_, rfl, a, xs, rfl, .inl sq, more _ fun G => ?_⟩⟩
        rw [DpAll.length hD]
        exact .int _
    · rintro H' ⟨us, h1, h2, sm, h3⟩
      have := h3 H'
      rw [List.take_of_length_le (by rw [l1, List.length_reverse]; exact Nat.le_refl _)] at this
      exact q H' D (s1.trans sm) (.lst (SqL.of h1) (by rw [eo]; exact this))
end
/-! ### Entries: what stands where -/
def rowsF (r : Addr) : List (Str × V) := putF "_rows" (.ref r) []
theorem rows_get (r : Addr) : (rowsF r).lookup ("_rows" : Str) = some (.ref r) := by
  unfold rowsF
  rw [lookup_putF, if_pos rfl]
theorem rows_no (r : Addr) {m : Str} (h : ¬ m = "_rows") : (rowsF r).lookup m = none := by
  unfold rowsF
  rw [lookup_putF, if_neg h]
  rfl
theorem rows_put (r q : Addr) : putF "_rows" (.ref q) (rowsF r) = rowsF q := by
  show (if ("_rows" : Str) = "_rows" then _ else _) = _
  rw [if_pos rfl]
  rfl
/-- what the text of the class has -/
structure En (K : PySem.W.Frag) (mg : Str → Option Value) (C : Addr) : Prop where
  cl : Cls K C
  nR : NoAttr K C "_rows"
  mgC : mg "Entries" = some (.ref C)
  kp : PySem.W.keepIn K (.ref C) = true
  ha : PySem.W.findIn K (.ref C) "__class__" = some (some (.builtin "object.__class__"))
  hn : PySem.W.specialIn K (.builtin "object.__class__") "__get__" = some (some (.builtin "getset_descriptor.__get__"))
  htk : PySem.W.takesIn K (.builtin "object.__class__") = some true
  hm : PySem.W.mroIn K C (.type "object") = some true
  me : PySem.W.kitOne K (.ref C) (.ref C) = some true
  kN : PySem.W.kitOne K (.type "NoneType") (.ref C) = some false
  kS : PySem.W.kitOne K (.type "str") (.ref C) = some false
  kL : PySem.W.kitOne K (.type "list") (.ref C) = some false
theorem En.own {K : PySem.W.Frag} {mg : Str → Option Value} {C : Addr} (T : En K mg C) {H : Hp} {p dx : Addr} {fs : List (Str × V)} (h : H p = some (.ins C dx fs)) : TyX K H (.ref p) (.ref C) := .base (.ins h T.cl T.ha T.hn T.htk T.hm)
theorem En.not {K : PySem.W.Frag} {mg : Str → Option Value} {C : Addr} (T : En K mg C) {d : PyData} (h : valD d) : PySem.W.kitOne K (.type (tyD d)) (.ref C) = some false := by
  cases d with
  | none => exact T.kN
  | str _ => exact T.kS
  | list _ => exact T.kL
  | _ => exact h.elim
def spInit (K : PySem.W.Frag) (C : Addr) : Sp := fun vs H Q _ => ∃ (p dx : Addr) (v : V) (d : PyData) (Hv : Hp), vs = [.ref p, v] ∧ H p = some (.ins C dx []) ∧ Same Hv H ∧ Dp K Hv v d ∧ valD d ∧ sz d ≤ 5000 ∧
  ∀ (H' : Hp) (r : Addr) (ws : List V) (S : List Addr), (∀ b o, b ≠ p → H b = some o → H' b = some o) → H' p = some (.ins C dx (rowsF r)) → H r = none → H' r = some (.lst ws) → TrAll H' ws (entD d) S → r ∉ S → (∀ b ∈ S, H b = none) → Q .non H'
/-- Entries(v) gives a new object -/
theorem mk_ent {K : PySem.W.Frag} {C : Addr} {H Hv : Hp} {Q : VK} {E : XK} {v : V} {d : PyData} (sv : Same Hv H) (hd : Dp K Hv v d) (vd : valD d) (hz : sz d ≤ 5000)
    (q : ∀ (H' : Hp) (x dx r : Addr) (ws : List V) (S : List Addr), Same H H' → H x = none → H' x = some (.ins C dx (rowsF r)) → H r = none → H' r = some (.lst ws) → TrAll H' ws (entD d) S → r ∉ S → x ∉ S → (∀ b ∈ S, H b = none) → Q (.ref x) H') :
    ∀ x dx, H x = none → H dx = none → dx ≠ x → spInit K C [.ref x, v] (upd (upd H dx (.own x)) x (.ins C dx [])) (fun v H2 => v = .non ∧ Q (.ref x) H2) E := by
  intro x dx nx ndx hne
  have s0 : Same H (upd (upd H dx (.own x)) x (.ins C dx [])) := same_fresh nx (same_upd ndx)
  refine ⟨x, dx, v, d, Hv, rfl, upd_same, sv.trans s0, hd, vd, hz, fun H' r ws S k h1 nr h2 tr nS fr => ⟨rfl, ?_⟩⟩
  have xS : x ∉ S := fun z => by
    have := fr x z
    rw [upd_same] at this
    cases this
  exact q H' x dx r ws S (fun b o e => k b o (ne_of_none e nx) (s0 b o e)) nx h1 (s0.free nr) h2 tr nS xS fun b hb => s0.free (fr b hb)
def spLen (C : Addr) : Sp := fun vs H Q _ => ∃ (p dx r : Addr) (ws : List V), vs = [.ref p] ∧ H p = some (.ins C dx (rowsF r)) ∧ H r = some (.lst ws) ∧ Q (.int (ws.length : Nat)) H
def spBool (C : Addr) : Sp := fun vs H Q _ => ∃ (p dx r : Addr) (ws : List V), vs = [.ref p] ∧ H p = some (.ins C dx (rowsF r)) ∧ H r = some (.lst ws) ∧ Q (.bl (!ws.isEmpty)) H
def spSetI (K : PySem.W.Frag) (C : Addr) : Sp := fun vs H Q _ => ∃ (p dx r : Addr) (ws : List V) (i : Int) (j : Nat) (v : V) (d : PyData) (Hv : Hp), vs = [.ref p, .int i, v] ∧ H p = some (.ins C dx (rowsF r)) ∧ H r = some (.lst ws) ∧ ws.length ≤ 10000 ∧ ixN ws.length i = some j ∧ Same Hv H ∧ Dp K Hv v d ∧ valD d ∧ sz d ≤ 5000 ∧
  ∀ (H' : Hp) (w : V) (S : List Addr), (∀ b o, b ≠ r → H b = some o → H' b = some o) → H' r = some (.lst (ws.set j w)) → Tr H' w d S → r ∉ S → (∀ b ∈ S, H b = none) → Q .non H'
def spListed (K : PySem.W.Frag) (C : Addr) : Sp := fun vs H Q _ => ∃ (p dx r : Addr) (ws : List V) (ds : List PyData) (Hv : Hp), vs = [.ref p] ∧ H p = some (.ins C dx (rowsF r)) ∧ H r = some (.lst ws) ∧ Same Hv H ∧ DpAll K Hv ws ds ∧ ndAll ds ≤ 10000 ∧
  ∀ (H' : Hp) (v' : V) (S : List Addr), Same H H' → Tr H' v' (.list ds) S → (∀ b ∈ S, H b = none) → Q v' H'
def spEqE (K : PySem.W.Frag) (C : Addr) : Sp := fun vs H Q _ => ∃ (p q dx dy r r2 : Addr) (ws us : List V) (ds : List PyData) (Hv : Hp), vs = [.ref p, .ref q] ∧ H p = some (.ins C dx (rowsF r)) ∧ H r = some (.lst ws) ∧ H q = some (.ins C dy (rowsF r2)) ∧ H r2 = some (.lst us) ∧ Same Hv H ∧ DpAll K Hv ws ds ∧ DpAll K Hv us ds ∧ valAll ds ∧ ndAll ds ≤ 5000 ∧
  ∀ H', Same H H' → Q (.bl true) H'
def spAddN (K : PySem.W.Frag) (C : Addr) : Sp := fun vs H Q _ => ∃ (p dx r : Addr) (ws : List V) (ds : List PyData) (Hv : Hp), vs = [.ref p, .non] ∧ H p = some (.ins C dx (rowsF r)) ∧ H r = some (.lst ws) ∧ Same Hv H ∧ DpAll K Hv ws ds ∧ valAll ds ∧ szAll ds ≤ 4000 ∧
  ∀ (H' : Hp) (x dx' r' : Addr) (us : List V) (S : List Addr), Same H H' → H x = none → H' x = some (.ins C dx' (rowsF r')) → H r' = none → H' r' = some (.lst us) → TrAll H' us ds S → r' ∉ S → x ∉ S → (∀ b ∈ S, H b = none) → Q (.ref x) H'
def spIadd (K : PySem.W.Frag) (C : Addr) : Sp := fun vs H Q _ => ∃ (p dx r : Addr) (ws : List V) (y : V) (es : List PyData) (Hv : Hp), vs = [.ref p, y] ∧ H p = some (.ins C dx (rowsF r)) ∧ H r = some (.lst ws) ∧ ws.length ≤ 5000 ∧ Same Hv H ∧ ndAll es ≤ 5000 ∧
  ((∃ (q dy r2 : Addr) (us : List V), y = .ref q ∧ H q = some (.ins C dy (rowsF r2)) ∧ H r2 = some (.lst us) ∧ DpAll K Hv us es) ∨ (∃ e, Dp K Hv y e ∧ valD e ∧ sz e ≤ 5000 ∧ es = entD e)) ∧
  ∀ (H' : Hp) (r' : Addr) (us : List V) (S : List Addr), (∀ b o, b ≠ p → H b = some o → H' b = some o) → H' p = some (.ins C dx (rowsF r')) → H r' = none → H' r' = some (.lst (ws ++ us)) → TrAll H' us es S → r' ∉ S → (∀ b ∈ S, H b = none) → Q (.ref p) H'
mutual
theorem nd_sz : ∀ d : PyData, valD d → nd d ≤ sz d
  | .none, _ => by simp [nd, sz]
  | .str x, _ => by simp [nd, sz]
  | .list es, h => by
    have := ndAll_sz es h
    simp only [nd, sz]
    omega
  | .bool _, h => h.elim
  | .int _, h => h.elim
  | .tuple _, h => h.elim
  | .dict _, h => h.elim
theorem ndAll_sz : ∀ ds : List PyData, valAll ds → ndAll ds ≤ szAll ds
  | [], _ => by simp [ndAll]
  | d :: ds, h => by
    have a := nd_sz d h.1
    have b := ndAll_sz ds h.2
    simp only [ndAll, szAll]
    omega
end
theorem tr_list {H : Hp} {v : V} {ds : List PyData} {S : List Addr} (h : Tr H v (.list ds) S) : ∃ a ws S', v = .ref a ∧ S = a :: S' ∧ H a = some (.lst ws) ∧ TrAll H ws ds S' ∧ a ∉ S' := by
  cases h with
  | lst h1 h2 h3 => exact ⟨_, _, _, rfl, rfl, h1, h2, h3⟩
section
variable {P : Program} {w : World} {K : PySem.W.Frag} {mg : Str → Option Value} {base : Heap} {C : Addr}
theorem scInit : FnScope ["self", "value"] ["self", "value"] (defScope mEntries_init) := ⟨rfl, rfl, rfl, by decide +kernel, rfl, by decide +kernel, by decide +kernel⟩
theorem ok_init {f fK fC fE : Addr} {fd dK dC dE : FuncData} (F : Fun K "__init__" "Entries.__init__" mEntries_init f fd) (T : En K mg C) (GK : FnOk P w K mg base CX0 3 fK dK ["thing"] (spOkV K .non)) (gK : mg "check_value" = some (.ref fK)) (kK : PySem.W.keepIn K (.ref fK) = true) (bK : Binds K dK ["thing"] [])
    (GC : FnOk P w K mg base CX0 2 fC dC ["thing"] (spCopyT K)) (gC : mg "copy_of" = some (.ref fC)) (kC : PySem.W.keepIn K (.ref fC) = true) (bC : Binds K dC ["thing"] []) (GE : FnOk P w K mg base CX0 1 fE dE ["value"] (spEnt K)) (gE : mg "entries_of" = some (.ref fE)) (kE : PySem.W.keepIn K (.ref fE) = true) (bE : Binds K dE ["value"] []) :
    FnOk P w K mg base CX0 4 f fd ["self", "value"] (spInit K C) := by
  refine F.ok scInit (fun vs H Q E h => ?_) (fun cdv A outer s H vs Q E hr h => ?_)
  · obtain ⟨p, dx, v, d, Hv, rfl, _⟩ := h
    rfl
  · obtain ⟨p, dx, v, d, Hv, rfl, hp, sv, hd, vd, hz, q⟩ := h
    refine ⟨_, pss_cons (ps_expr (pe_call GK hr (by rfl) gK kK bK .nil pass0 (pa_cons (pv 1) pa_nil))) <|
      pss_one (ps_fld (pv 0) (pe_call GC (hr.mono (by decide)) (by rfl) gC kC bC .nil pass0 (pa_cons (pe_call GE (hr.mono (by decide)) (by rfl) gE kE bE .nil pass0 (pa_cons (pv 1) pa_nil)) pa_nil)) rfl), ?_⟩
    have ns := ndAll_sz _ (ent_val vd)
    have es := ent_sz d
    refine ⟨_, rfl, v, d, Hv, rfl, sv, hd, vd, by omega, fun H1 s1 => ?_⟩
    refine ⟨_, rfl, v, d, Hv, rfl, sv.trans s1, hd, vd, fun H2 l ws s2 nl hl hw => ?_⟩
    have hw2 := dpAll_same ((sv.trans s1).trans s2) _ _ hw
    refine ⟨.ref l, .list (entD d), H2, rfl, Same.refl _, .lst (SqL.of hl) hw2, by simp only [nd]; omega, fun H3 v' S s3 tr fr => ?_⟩
    obtain ⟨a, us, S', rfl, rfl, h1, h2, h3⟩ := tr_list tr
    have s13 : Same H H3 := (s1.trans s2).trans s3
    have hp3 := s13 _ _ hp
    have fr0 : ∀ b ∈ a :: S', H b = none := fun b hb => (s1.trans s2).free (fr b hb)
    have pS : ∀ b ∈ a :: S', b ≠ p := fun b hb e => by
      have := fr0 b hb
      rw [e, hp] at this
      cases this
    refine ⟨_, rfl, p, C, dx, [], rfl, hp3, T.cl, T.nR, (by show 0 < 1000; decide), ?_⟩
    refine q _ a us S' (fun b o hb e => ?_) upd_same (fr0 a List.mem_cons_self) ?_ (TrAll.frame h2 fun b hb o e => ?_) h3 fun b hb => fr0 b (List.mem_cons_of_mem _ hb)
    · rw [upd_ne hb]
      exact s13 _ _ e
    · rw [upd_ne (pS a List.mem_cons_self)]
      exact h1
    · rw [upd_ne (pS b (List.mem_cons_of_mem _ hb))]
      exact e
theorem scLen : FnScope ["self"] ["self"] (defScope mEntries_len) := ⟨rfl, rfl, rfl, by decide +kernel, rfl, by decide +kernel, by decide +kernel⟩
theorem ok_len {f : Addr} {fd : FuncData} (F : Fun K "__len__" "Entries.__len__" mEntries_len f fd) (T : En K mg C) (B : Nb mg) : FnOk P w K mg base CX0 1 f fd ["self"] (spLen C) := by
  refine F.ok scLen (fun vs H Q E h => ?_) (fun cdv A outer s H vs Q E hr h => ?_)
  · obtain ⟨p, dx, r, ws, rfl, _⟩ := h
    rfl
  · obtain ⟨p, dx, r, ws, rfl, hp, hr', q⟩ := h
    refine ⟨_, pss_one (ps_ret (pe_callB call_len_seq (by rfl) B.len PySem.boot_len (pa_cons (pe_fld (pv 0) rfl) pa_nil))), ?_⟩
    exact ⟨_, rfl, p, C, dx, _, _, rfl, hp, T.cl, T.nR, rows_get r, r, ws, rfl, .inl (SqL.of hr'), q⟩
theorem scBool : FnScope ["self"] ["self"] (defScope mEntries_bool) := ⟨rfl, rfl, rfl, by decide +kernel, rfl, by decide +kernel, by decide +kernel⟩
theorem ok_bool {f : Addr} {fd : FuncData} (F : Fun K "__bool__" "Entries.__bool__" mEntries_bool f fd) (T : En K mg C) (B : Nq mg) : FnOk P w K mg base CX0 1 f fd ["self"] (spBool C) := by
  refine F.ok scBool (fun vs H Q E h => ?_) (fun cdv A outer s H vs Q E hr h => ?_)
  · obtain ⟨p, dx, r, ws, rfl, _⟩ := h
    rfl
  · obtain ⟨p, dx, r, ws, rfl, hp, hr', q⟩ := h
    refine ⟨_, pss_one (ps_ret (pe_callTy call_boolL (by rfl) B.bool (by decide +kernel) (pa_cons (pe_fld (pv 0) rfl) pa_nil))), ?_⟩
    exact ⟨_, rfl, p, C, dx, _, _, rfl, hp, T.cl, T.nR, rows_get r, r, ws, rfl, SqL.of hr', q⟩
theorem scListed : FnScope ["self"] ["self"] (defScope mEntries_listed) := ⟨rfl, rfl, rfl, by decide +kernel, rfl, by decide +kernel, by decide +kernel⟩
theorem ok_listed {f fC : Addr} {fd dC : FuncData} (F : Fun K "listed" "Entries.listed" mEntries_listed f fd) (T : En K mg C) (GC : FnOk P w K mg base CX0 2 fC dC ["thing"] (spCopyT K)) (gC : mg "copy_of" = some (.ref fC)) (kC : PySem.W.keepIn K (.ref fC) = true) (bC : Binds K dC ["thing"] []) :
    FnOk P w K mg base CX0 3 f fd ["self"] (spListed K C) := by
  refine F.ok scListed (fun vs H Q E h => ?_) (fun cdv A outer s H vs Q E hr h => ?_)
  · obtain ⟨p, dx, r, ws, ds, Hv, rfl, _⟩ := h
    rfl
  · obtain ⟨p, dx, r, ws, ds, Hv, rfl, hp, hr', sv, hw, hn, q⟩ := h
    refine ⟨_, pss_one (ps_ret (pe_call GC hr (by rfl) gC kC bC .nil pass0 (pa_cons (pe_fld (pv 0) rfl) pa_nil))), ?_⟩
    exact ⟨_, rfl, p, C, dx, _, _, rfl, hp, T.cl, T.nR, rows_get r, .ref r, .list ds, H, rfl, Same.refl _, .lst (SqL.of hr') (dpAll_same sv _ _ hw), by simp only [nd]; omega, q⟩
theorem scSetI : FnScope ["self", "at", "worth"] ["self", "at", "worth"] (defScope mEntries_setitem) := ⟨rfl, rfl, rfl, by decide +kernel, rfl, by decide +kernel, by decide +kernel⟩
theorem ok_setI {f fI fK fC : Addr} {fd dI dK dC : FuncData} (F : Fun K "__setitem__" "Entries.__setitem__" mEntries_setitem f fd) (T : En K mg C) (GI : FnOk P w K mg base CX0 2 fI dI ["rows", "at"] (spIdx K)) (gI : mg "check_index" = some (.ref fI)) (kI : PySem.W.keepIn K (.ref fI) = true) (bI : Binds K dI ["rows", "at"] [])
    (GK : FnOk P w K mg base CX0 3 fK dK ["thing"] (spOkV K .non)) (gK : mg "check_value" = some (.ref fK)) (kK : PySem.W.keepIn K (.ref fK) = true) (bK : Binds K dK ["thing"] [])
    (GC : FnOk P w K mg base CX0 2 fC dC ["thing"] (spCopyT K)) (gC : mg "copy_of" = some (.ref fC)) (kC : PySem.W.keepIn K (.ref fC) = true) (bC : Binds K dC ["thing"] []) : FnOk P w K mg base CX0 4 f fd ["self", "at", "worth"] (spSetI K C) := by
  refine F.ok scSetI (fun vs H Q E h => ?_) (fun cdv A outer s H vs Q E hr h => ?_)
  · obtain ⟨p, dx, r, ws, i, j, v, d, Hv, rfl, _⟩ := h
    rfl
  · obtain ⟨p, dx, r, ws, i, j, v, d, Hv, rfl, hp, hr', hl, hj, sv, hd, vd, hz, q⟩ := h
    refine ⟨_, pss_cons (ps_expr (pe_call GI (hr.mono (by decide)) (by rfl) gI kI bI .nil pass0 (pa_cons (pe_fld (pv 0) rfl) (pa_cons (pv 1) pa_nil)))) <|
      pss_cons (ps_expr (pe_call GK hr (by rfl) gK kK bK .nil pass0 (pa_cons (pv 2) pa_nil))) <|
      pss_one (ps_asg (pe_call GC (hr.mono (by decide)) (by rfl) gC kC bC .nil pass0 (pa_cons (pv 2) pa_nil)) (pg_sub (pe_fld (pv 0) rfl) (pv 1) set_list)), ?_⟩
    obtain ⟨_, jl, lo, hi⟩ := ixN_seq hj
    have ns := nd_sz d vd
    refine ⟨_, rfl, p, C, dx, _, _, rfl, hp, T.cl, T.nR, rows_get r, _, rfl, r, ws, i, rfl, SqL.of hr', hl, lo, hi, ?_⟩
    refine ⟨_, rfl, v, d, Hv, rfl, sv, hd, vd, by omega, fun H1 s1 => ?_⟩
    refine ⟨_, rfl, v, d, Hv, rfl, sv.trans s1, hd, by omega, fun H2 w S s2 tr fr => ?_⟩
    have s12 := s1.trans s2
    refine ⟨_, rfl, p, C, dx, _, _, rfl, s12 _ _ hp, T.cl, T.nR, rows_get r, _, rfl, r, ws, i, j, rfl, rfl, s12 _ _ hr', hj, ?_⟩
    have rS : r ∉ S := fun z => by
      have := fr r z
      rw [s1 _ _ hr'] at this
      cases this
    refine q _ w S (fun b o hb e => by rw [upd_ne hb]; exact s12 _ _ e) upd_same (Tr.frame tr fun b hb o e => ?_) rS fun b hb => s1.free (fr b hb)
    rw [upd_ne (fun z => rS (by rw [← z]; exact hb))]
    exact e
theorem scSetE : FnScope ["self", "at", "value"] ["self", "at", "value"] (defScope mEntries_set_entry) := ⟨rfl, rfl, rfl, by decide +kernel, rfl, by decide +kernel, by decide +kernel⟩
theorem ok_setE {f fI : Addr} {fd dI : FuncData} (F : Fun K "set_entry" "Entries.set_entry" mEntries_set_entry f fd) (hm : Meth K C "__setitem__" fI) (hq : PySem.W.noSeq K C = true) (GI : FnOk P w K mg base CX0 4 fI dI ["self", "at", "worth"] (spSetI K C)) (bI : Binds K dI ["self", "at", "worth"] []) :
    FnOk P w K mg base CX0 5 f fd ["self", "at", "value"] (spSetI K C) := by
  refine F.ok scSetE (fun vs H Q E h => ?_) (fun cdv A outer s H vs Q E hr h => ?_)
  · obtain ⟨p, dx, r, ws, i, j, v, d, Hv, rfl, _⟩ := h
    rfl
  · obtain ⟨p, dx, r, ws, i, j, v, d, Hv, rfl, h⟩ := h
    refine ⟨_, pss_one (ps_asg (pv 2) (pg_sub (pv 0) (pv 1) (set_own (E := E0) hm hq GI hr bI pass0))), ?_⟩
    exact ⟨_, rfl, _, rfl, _, rfl, p, dx, _, rfl, h.1, p, dx, r, ws, i, j, v, d, Hv, rfl, h⟩
theorem scEqE : FnScope ["self", "other"] ["self", "other"] (defScope mEntries_eq) := ⟨rfl, rfl, rfl, by decide +kernel, rfl, by decide +kernel, by decide +kernel⟩
theorem ok_eqE {f fO : Addr} {fd dO : FuncData} (F : Fun K "__eq__" "Entries.__eq__" mEntries_eq f fd) (T : En K mg C) (N : Nm mg) (GO : FnOk P w K mg base CX0 2 fO dO ["value"] (spOut K)) (gO : mg "outline_of" = some (.ref fO)) (kO : PySem.W.keepIn K (.ref fO) = true) (bO : Binds K dO ["value"] []) :
    FnOk P w K mg base CX0 3 f fd ["self", "other"] (spEqE K C) := by
  refine F.ok scEqE (fun vs H Q E h => ?_) (fun cdv A outer s H vs Q E hr h => ?_)
  · obtain ⟨p, q, dx, dy, r, r2, ws, us, ds, Hv, rfl, _⟩ := h
    rfl
  · obtain ⟨p, q, dx, dy, r, r2, ws, us, ds, Hv, rfl, hp, hr1, hq, hr2, sv, hw, hu, vd, hn, k⟩ := h
    refine ⟨_, pss_one (ps_ret (pe_and (pe_callB call_isi (by rfl) N.isi (by decide +kernel) (pa_cons (pv 1) (pa_cons (pe_glob (v := .ref C) (by rfl) T.mgC rfl) pa_nil)))
      (pe_one (pe_cmpR (op_eqD hr.units) (pe_call GO hr (by rfl) gO kO bO .nil pass0 (pa_cons (pe_fld (pv 0) rfl) pa_nil)) (pe_call GO hr (by rfl) gO kO bO .nil pass0 (pa_cons (pe_fld (pv 1) rfl) pa_nil)) (nomark _))))), ?_⟩
    have vd' : valD (.list ds) := vd
    refine ⟨_, rfl, .ref q, .ref C, _, .ref C, _, rfl, .own C, T.own hq, T.me, _, rfl, iteT ?_⟩
    refine ⟨_, rfl, p, C, dx, _, _, rfl, hp, T.cl, T.nR, rows_get r, .ref r, .list ds, H, rfl, Same.refl _, .lst (SqL.of hr1) (dpAll_same sv _ _ hw), vd', by simp only [nd]; omega, fun H1 l1 s1 d1 => ?_⟩
    refine ⟨_, rfl, q, C, dy, _, _, rfl, s1 _ _ hq, T.cl, T.nR, rows_get r2, .ref r2, .list ds, H1, rfl, Same.refl _, .lst (SqL.of (s1 _ _ hr2)) (dpAll_same (sv.trans s1) _ _ hu), vd', by simp only [nd]; omega, fun H2 l2 s2 d2 => ?_⟩
    refine ⟨_, _, dp_same s2 _ _ d1, d2, out_shaped vd', out_shaped vd', ?_⟩
    have cl : (PyData.list (outD (.list ds))).canLay0 = true := by
      simp only [PyData.canLay0, (out_flat _ vd').1]
    rw [SeqAt.eqv_refl _ cl]
    exact k H2 (s1.trans s2)
theorem scAdd : FnScope ["self", "other"] ["self", "other"] (defScope mEntries_add) := ⟨rfl, rfl, rfl, by decide +kernel, rfl, by decide +kernel, by decide +kernel⟩
theorem ok_addN {f fV fE fI : Addr} {fd dV dE dI : FuncData} (F : Fun K "__add__" "Entries.__add__" mEntries_add f fd) (T : En K mg C) (N : Nm mg) (M : Mk K C fI) (GI : FnOk P w K mg base CX0 4 fI dI ["self", "value"] (spInit K C)) (bI : Binds K dI ["self", "value"] [])
    (GV : FnOk P w K mg base CX0 3 fV dV ["thing"] (spOkV K (.bl true))) (gV : mg "is_value" = some (.ref fV)) (kV : PySem.W.keepIn K (.ref fV) = true) (bV : Binds K dV ["thing"] [])
    (GE : FnOk P w K mg base CX0 1 fE dE ["value"] (spEnt K)) (gE : mg "entries_of" = some (.ref fE)) (kE : PySem.W.keepIn K (.ref fE) = true) (bE : Binds K dE ["value"] []) : FnOk P w K mg base CX0 6 f fd ["self", "other"] (spAddN K C) := by
  refine F.ok scAdd (fun vs H Q E h => ?_) (fun cdv A outer s H vs Q E hr h => ?_)
  · obtain ⟨p, dx, r, ws, ds, Hv, rfl, _⟩ := h
    rfl
  · obtain ⟨p, dx, r, ws, ds, Hv, rfl, hp, hr', sv, hw, vd, hz, q⟩ := h
    refine ⟨_, pss_cons (ps_if (pt_val (pe_callB call_isi (by rfl) N.isi (by decide +kernel) (pa_cons (pv 1) (pa_cons (pe_glob (v := .ref C) (by rfl) T.mgC rfl) pa_nil)))) (pss_one ps_never) pss_nil) <|
      pss_cons (ps_if (pt_not (pt_val (pe_call GV (hr.mono (by decide)) (by rfl) gV kV bV .nil pass0 (pa_cons (pv 1) pa_nil)))) (pss_one ps_never) pss_nil) <|
      pss_one (ps_ret (pe_make M GI hr (by rfl) T.mgC bI .nil pass0 (pa_cons (pe_op op_cat (pe_fld (pv 0) rfl) (pe_call GE (hr.mono (by decide)) (by rfl) gE kE bE .nil pass0 (pa_cons (pv 1) pa_nil))) pa_nil))), ?_⟩
    have hwl := DpAll.length hw
    have dl := szAll_len ds
    refine ⟨_, rfl, .non, .ref C, .type "NoneType", .ref C, _, rfl, .own C, .base .non, T.kN, _, rfl, iteF ?_⟩
    refine ⟨_, rfl, .non, .none, H, rfl, Same.refl _, .non, trivial, by decide, fun H1 s1 => ⟨_, rfl, iteF ?_⟩⟩
    refine ⟨_, rfl, p, C, dx, _, _, rfl, s1 _ _ hp, T.cl, T.nR, rows_get r, _, rfl, .non, .none, H1, rfl, Same.refl _, .non, trivial, fun H2 l us s2 nl hl hu => ?_⟩
    cases hu
    refine ⟨r, l, ws, [], rfl, rfl, (s1.trans s2) _ _ hr', hl, Nat.le_trans (show ws.length + 0 ≤ 10000 by omega) (by decide), fun l2 nl2 => ?_⟩
    rw [List.append_nil]
    have s3 : Same H (upd H2 l2 (.lst ws)) := (s1.trans s2).trans (same_upd nl2)
    refine mk_ent (d := .list ds) (Same.refl _) (.lst (SqL.of upd_same) (dpAll_same (sv.trans s3) _ _ hw)) vd (by simp only [sz]; omega) fun H' x dx' r' us S sm nx hx nr hr2 tr nS xS fr => ?_
    exact q H' x dx' r' us S (s3.trans sm) (s3.free nx) hx (s3.free nr) hr2 tr nS xS fun b hb => s3.free (fr b hb)
theorem scIadd : FnScope ["self", "other", "more"] ["self", "other"] (defScope mEntries_iadd) := ⟨rfl, rfl, rfl, by decide +kernel, rfl, by decide +kernel, by decide +kernel⟩
theorem ok_iadd {f fV fE fC : Addr} {fd dV dE dC : FuncData} (F : Fun K "__iadd__" "Entries.__iadd__" mEntries_iadd f fd) (T : En K mg C) (N : Nm mg)
    (GV : FnOk P w K mg base CX0 3 fV dV ["thing"] (spOkV K (.bl true))) (gV : mg "is_value" = some (.ref fV)) (kV : PySem.W.keepIn K (.ref fV) = true) (bV : Binds K dV ["thing"] [])
    (GC : FnOk P w K mg base CX0 2 fC dC ["thing"] (spCopyT K)) (gC : mg "copy_of" = some (.ref fC)) (kC : PySem.W.keepIn K (.ref fC) = true) (bC : Binds K dC ["thing"] [])
    (GE : FnOk P w K mg base CX0 1 fE dE ["value"] (spEnt K)) (gE : mg "entries_of" = some (.ref fE)) (kE : PySem.W.keepIn K (.ref fE) = true) (bE : Binds K dE ["value"] []) : FnOk P w K mg base CX0 4 f fd ["self", "other"] (spIadd K C) := by
  refine F.ok scIadd (fun vs H Q E h => ?_) (fun cdv A outer s H vs Q E hr h => ?_)
  · obtain ⟨p, dx, r, ws, y, es, Hv, rfl, _⟩ := h
    rfl
  · obtain ⟨p, dx, r, ws, y, es, Hv, rfl, hp, hr', hl, sv, hn, hy, q⟩ := h
    refine ⟨_, pss_cons (ps_if (PW.pt (pw_and (pt_not (pt_val (pe_callB call_isi (by rfl) N.isi (by decide +kernel) (pa_cons (pv 1) (pa_cons (pe_glob (v := .ref C) (by rfl) T.mgC rfl) pa_nil))))) (pw_and1 (pt_not (pt_val (pe_call GV hr (by rfl) gV kV bV .nil pass0 (pa_cons (pv 1) pa_nil))))))) (pss_one ps_never) pss_nil) <|
      pss_cons (ps_set (i := 2) scIadd.nd rfl (.inl rfl) (pe_ifExp (pt_val (pe_callB call_isi (by rfl) N.isi (by decide +kernel) (pa_cons (pv 1) (pa_cons (pe_glob (v := .ref C) (by rfl) T.mgC rfl) pa_nil)))) (pe_fld (pv 1) rfl) (pe_call GE (hr.mono (by decide)) (by rfl) gE kE bE .nil pass0 (pa_cons (pv 1) pa_nil)))) <|
      pss_cons (ps_fld (pv 0) (pe_op op_cat (pe_fld (pv 0) rfl) (pe_call GC (hr.mono (by decide)) (by rfl) gC kC bC .nil pass0 (pa_cons (pv 2) pa_nil))) rfl) <|
      pss_one (ps_ret (pv 0)), ?_⟩
    rcases hy with ⟨q2, dy, r2, us, rfl, hq2, hr2, hu⟩ | ⟨e, he, ve, hze, rfl⟩
    · refine ⟨_, rfl, .ref q2, .ref C, _, .ref C, _, rfl, .own C, T.own hq2, T.me, _, rfl, iteF ?_⟩
      refine ⟨_, rfl, .ref q2, .ref C, _, .ref C, _, rfl, .own C, T.own hq2, T.me, _, rfl, iteT ⟨_, rfl, q2, C, dy, _, _, rfl, hq2, T.cl, T.nR, rows_get r2, ?_⟩⟩
      have s1 : Same H H := Same.refl _
      have hl1 := hr2
      have hu1 := dpAll_same sv _ _ hu
      have h1 := s1 _ _ hp
      have nl := ndAll_len es
      refine ⟨_, rfl, p, C, dx, _, _, rfl, s1 _ _ hp, T.cl, T.nR, rows_get r, _, rfl, .ref r2, .list es, H, rfl, Same.refl _, .lst (SqL.of hl1) hu1, by simp only [nd]; omega, fun H2 v' S s2 tr fr => ?_⟩
      obtain ⟨a, us', S', rfl, rfl, g1, g2, g3⟩ := tr_list tr
      have s12 := s1.trans s2
      have ul := TrAll.length g2
      refine ⟨r, a, ws, us', rfl, rfl, s12 _ _ hr', g1, Nat.le_trans (show ws.length + us'.length ≤ 20000 by omega) (by decide), fun r' nr => ?_⟩
      have s3 : Same H (upd H2 r' (.lst (ws ++ us'))) := s12.trans (same_upd nr)
      have nrH : H r' = none := s12.free nr
      have fr0 : ∀ b ∈ a :: S', H b = none := fun b hb => s1.free (fr b hb)
      have pS : ∀ b ∈ S', b ≠ p := fun b hb e => by
        have := fr0 b (List.mem_cons_of_mem _ hb)
        rw [e, hp] at this
        cases this
      have rp : r' ≠ p := fun e => by
        rw [e, hp] at nrH
        cases nrH
      have rS : r' ∉ S' := fun z => TrAll.there g2 r' z nr
      refine ⟨_, rfl, p, C, dx, _, rfl, s3 _ _ hp, T.cl, T.nR, (by show 1 < 1000; decide), _, rfl, ?_⟩
      rw [rows_put]
      refine q _ r' us' S' (fun b o hb e => by rw [upd_ne hb]; exact s3 _ _ e) upd_same nrH ?_ (TrAll.frame g2 fun b hb o e => ?_) rS fun b hb => fr0 b (List.mem_cons_of_mem _ hb)
      · rw [upd_ne rp, upd_same]
      · rw [upd_ne (pS b hb)]
        exact same_upd nr _ _ e
    · have ty := dp_ty (dp_same sv _ _ he)
      refine ⟨_, rfl, y, .ref C, _, .ref C, _, rfl, .own C, ty, T.not ve, _, rfl, iteT ⟨_, rfl, y, e, Hv, rfl, sv, he, ve, by omega, fun H0 s0 => ⟨_, rfl, iteF ?_⟩⟩⟩
      refine ⟨_, rfl, y, .ref C, _, .ref C, _, rfl, .own C, dp_ty (dp_same (sv.trans s0) _ _ he), T.not ve, _, rfl, iteF ⟨_, rfl, y, e, Hv, rfl, sv.trans s0, he, ve, fun H1 l us s01 _ hl1 hu0 => ?_⟩⟩
      have s1 := s0.trans s01
      have hu1 := dpAll_same (sv.trans s1) _ _ hu0
      have h1 := s1 _ _ hp
      have nl := ndAll_len (entD e)
      refine ⟨_, rfl, p, C, dx, _, _, rfl, s1 _ _ hp, T.cl, T.nR, rows_get r, _, rfl, .ref l, .list (entD e), H1, rfl, Same.refl _, .lst (SqL.of hl1) hu1, by simp only [nd]; omega, fun H2 v' S s2 tr fr => ?_⟩
      obtain ⟨a, us', S', rfl, rfl, g1, g2, g3⟩ := tr_list tr
      have s12 := s1.trans s2
      have ul := TrAll.length g2
      refine ⟨r, a, ws, us', rfl, rfl, s12 _ _ hr', g1, Nat.le_trans (show ws.length + us'.length ≤ 20000 by omega) (by decide), fun r' nr => ?_⟩
      have s3 : Same H (upd H2 r' (.lst (ws ++ us'))) := s12.trans (same_upd nr)
      have nrH : H r' = none := s12.free nr
      have fr0 : ∀ b ∈ a :: S', H b = none := fun b hb => s1.free (fr b hb)
      have pS : ∀ b ∈ S', b ≠ p := fun b hb e => by
        have := fr0 b (List.mem_cons_of_mem _ hb)
        rw [e, hp] at this
        cases this
      have rp : r' ≠ p := fun e => by
        rw [e, hp] at nrH
        cases nrH
      have rS : r' ∉ S' := fun z => TrAll.there g2 r' z nr
      refine ⟨_, rfl, p, C, dx, _, rfl, s3 _ _ hp, T.cl, T.nR, (by show 1 < 1000; decide), _, rfl, ?_⟩
      rw [rows_put]
      refine q _ r' us' S' (fun b o hb e => by rw [upd_ne hb]; exact s3 _ _ e) upd_same nrH ?_ (TrAll.frame g2 fun b hb o e => ?_) rS fun b hb => fr0 b (List.mem_cons_of_mem _ hb)
      · rw [upd_ne rp, upd_same]
      · rw [upd_ne (pS b hb)]
        exact same_upd nr _ _ e
end
end TX
namespace TX
open PySem PySem.Spec PyProof.Rows L2
/-! ### what repr shows tells the data: for none, truth values, 0 and 1, texts of letters, lists and tuples -/
def cs (x : Str) : List Nat := x.cps.toList
theorem cs_app (a b : Str) : cs (a ++ b) = cs a ++ cs b := by
  show (a.cps ++ b.cps).toList = _
  simp [cs]
theorem cs_inj {a b : Str} (h : cs a = cs b) : a = b := by
  cases a
  cases b
  simp only [cs] at h
  have := Array.toList_inj.mp h
  rw [this]
def alC (c : Nat) : Bool := decide (97 ≤ c ∧ c ≤ 122) || decide (65 ≤ c ∧ c ≤ 90)
theorem al_lt {c : Nat} (h : alC c = true) : c < 123 ∧ c ≠ 39 ∧ c ≠ 34 := by
  simp only [alC, Bool.or_eq_true, decide_eq_true_eq] at h
  omega
theorem al_char {c : Nat} (h : alC c = true) : Builtin.Str.reprChar 39 c = [c] := by
  have k : ∀ c : Fin 123, alC c.1 = true → Builtin.Str.reprChar 39 c.1 = [c.1] := by decide +kernel
  exact k ⟨c, (al_lt h).1⟩ h
def alS (x : Str) : Prop := ∀ c ∈ cs x, alC c = true
theorem fold_al : ∀ (l : List Nat) (acc : Array Nat), (∀ c ∈ l, alC c = true) → l.foldl (fun out c => out ++ (Builtin.Str.reprChar 39 c).toArray) acc = acc ++ l.toArray
  | [], acc, _ => by simp
  | c :: l, acc, h => by
    rw [List.foldl_cons, al_char (h c List.mem_cons_self), fold_al l _ fun d hd => h d (List.mem_cons_of_mem _ hd)]
    simp
theorem quote_al {x : Str} (h : alS x) : reprQuote x = 39 := by
  unfold reprQuote
  have e : x.cps.contains 39 = false := by
    refine Bool.eq_false_iff.mpr fun z => ?_
    have z2 : 39 ∈ x.cps.toList := by simpa using z
    exact (al_lt (h 39 z2)).2.1 rfl
  rw [e]
  rfl
theorem cs_repr {x : Str} (h : alS x) : cs (reprText x) = 39 :: (cs x ++ [39]) := by
  unfold reprText cs
  rw [quote_al h, ← Array.foldl_toList, fold_al x.cps.toList _ h]
  simp
def tailC : List Str → List Nat
  | [] => []
  | t :: ts => 44 :: 32 :: (cs t ++ tailC ts)
def sepC : List Str → List Nat
  | [] => []
  | t :: ts => cs t ++ tailC ts
theorem cs_comma : cs (", " : Str) = [44, 32] := by decide +kernel
theorem text_tail : ∀ (ts : List Str) (k : Nat) (acc : Str), cs (textFrom (k + 1) acc ts) = cs acc ++ tailC ts
  | [], k, acc => by simp [textFrom, tailC]
  | t :: ts, k, acc => by
    show cs (textFrom (k + 1 + 1) (acc ++ (if k + 1 > 0 then ", " else "" : String) ++ t) ts) = _
    rw [text_tail ts (k + 1), cs_app, cs_app, if_pos (Nat.succ_pos k)]
    show cs acc ++ cs (", " : Str) ++ cs t ++ tailC ts = _
    rw [cs_comma]
    simp [tailC]
theorem text_sep (ts : List Str) (acc : Str) : cs (textFrom 0 acc ts) = cs acc ++ sepC ts := by
  cases ts with
  | nil => simp [textFrom, sepC]
  | cons t ts =>
    show cs (textFrom 1 (acc ++ (if 0 > 0 then ", " else "" : String) ++ t) ts) = _
    rw [text_tail ts 0, cs_app, cs_app, if_neg (by decide)]
    show cs acc ++ cs ("" : Str) ++ cs t ++ tailC ts = _
    rw [show cs ("" : Str) = [] by decide +kernel]
    simp [sepC]
theorem cs_list (ts : List Str) : cs (listText ts) = 91 :: (sepC ts ++ [93]) := by
  unfold listText
  rw [cs_app, text_sep]
  rw [show cs (("[" : String) : Str) = [91] by decide +kernel, show cs (("]" : String) : Str) = [93] by decide +kernel]
  simp
theorem join_sep : ∀ ts : List Str, cs (Str.join ", " ts) = sepC ts
  | [] => by
    show cs Str.empty = []
    decide +kernel
  | [t] => by
    show cs t = _
    simp [sepC, tailC]
  | t :: u :: ts => by
    show cs (t ++ ", " ++ Str.join ", " (u :: ts)) = _
    rw [cs_app, cs_app, join_sep (u :: ts), cs_comma]
    simp [sepC, tailC]
theorem cs_tuple (ts : List Str) : cs (tupleText ts) = 40 :: (sepC ts ++ (if ts.length = 1 then [44, 41] else [41])) := by
  unfold tupleText
  rw [cs_app, cs_app, join_sep, show cs ("(" : Str) = [40] by decide +kernel]
  by_cases h : ts.length = 1
  · have e : (ts.length == 1) = true := by simpa using h
    rw [if_pos h, e, if_pos rfl, show cs ((",)" : String) : Str) = [44, 41] by decide +kernel]
    simp
  · have e : (ts.length == 1) = false := by simpa using h
    rw [if_neg h, e, if_neg Bool.false_ne_true, show cs ((")" : String) : Str) = [41] by decide +kernel]
    simp
mutual
def alD : PyData → Prop
  | .none => True
  | .bool _ => True
  | .int i => i = 0 ∨ i = 1
  | .str x => alS x
  | .list es => alAll es
  | .tuple es => alAll es
  | .dict _ => False
def alAll : List PyData → Prop
  | [] => True
  | d :: ds => alD d ∧ alAll ds
end
/-- what may stand behind data in what is shown -/
def dl (r : List Nat) : Prop := r = [] ∨ ∃ c t, r = c :: t ∧ (c = 44 ∨ c = 93 ∨ c = 41)
/-- how a row of data ends -/
def cl (r : List Nat) : Prop := (∃ t, r = 93 :: t) ∨ (∃ t, r = 41 :: t) ∨ ∃ t, r = 44 :: 41 :: t
theorem dl_cl {r : List Nat} (h : cl r) : dl r := by
  rcases h with ⟨t, rfl⟩ | ⟨t, rfl⟩ | ⟨t, rfl⟩
  · exact .inr ⟨_, _, rfl, .inr (.inl rfl)⟩
  · exact .inr ⟨_, _, rfl, .inr (.inr rfl)⟩
  · exact .inr ⟨_, _, rfl, .inl rfl⟩
theorem dl_tail {ts : List Str} {r : List Nat} (h : cl r) : dl (tailC ts ++ r) := by
  cases ts with
  | nil => exact dl_cl h
  | cons t ts => exact .inr ⟨_, _, rfl, .inl rfl⟩
def tagD : PyData → Nat
  | .none => 78
  | .bool b => if b then 84 else 70
  | .int i => if i = 0 then 48 else 49
  | .str _ => 39
  | .list _ => 91
  | .tuple _ => 40
  | .dict _ => 123
theorem shown_tag {d : PyData} (h : alD d) : ∃ t, cs d.shown = tagD d :: t := by
  cases d with
  | none => exact ⟨[111, 110, 101], by decide +kernel⟩
  | bool b =>
    cases b
    · exact ⟨[97, 108, 115, 101], by decide +kernel⟩
    · exact ⟨[114, 117, 101], by decide +kernel⟩
  | int i => rcases h with rfl | rfl <;> exact ⟨[], by decide +kernel⟩
  | str x => exact ⟨_, by simp only [PyData.shown]; exact cs_repr h⟩
  | list es => exact ⟨_, by simp only [PyData.shown]; exact cs_list _⟩
  | tuple es => exact ⟨_, by simp only [PyData.shown]; exact cs_tuple _⟩
  | dict _ => exact h.elim
theorem tag_no (d : PyData) : tagD d ≠ 93 ∧ tagD d ≠ 41 ∧ tagD d ≠ 44 := by
  cases d with
  | bool b => cases b <;> decide
  | int i =>
    simp only [tagD]
    split <;> decide
  | _ => simp [tagD]
theorem span_uniq {p : Nat → Bool} : ∀ {xs ys r1 r2 : List Nat}, (∀ c ∈ xs, p c = true) → (∀ c ∈ ys, p c = true) → (∀ c t, r1 = c :: t → p c = false) → (∀ c t, r2 = c :: t → p c = false) → xs ++ r1 = ys ++ r2 → xs = ys ∧ r1 = r2
  | [], [], _, _, _, _, _, _, h => ⟨rfl, h⟩
  | [], y :: ys, r1, r2, _, hy, h1, _, h => by
    have h' : r1 = y :: (ys ++ r2) := h
    have a := h1 _ _ h'
    rw [hy y List.mem_cons_self] at a
    cases a
  | x :: xs, [], r1, r2, hx, _, _, h2, h => by
    have h' : r2 = x :: (xs ++ r1) := h.symm
    have a := h2 _ _ h'
    rw [hx x List.mem_cons_self] at a
    cases a
  | x :: xs, y :: ys, r1, r2, hx, hy, h1, h2, h => by
    injection h with e1 e2
    obtain ⟨e3, e4⟩ := span_uniq (fun c hc => hx c (List.mem_cons_of_mem _ hc)) (fun c hc => hy c (List.mem_cons_of_mem _ hc)) h1 h2 e2
    exact ⟨by rw [e1, e3], e4⟩
theorem tail_nil {t : Str} {ts : List Str} {r r2 : List Nat} (h : cl r) (e : r = tailC (t :: ts) ++ r2) : False := by
  have e2 : tailC (t :: ts) ++ r2 = 44 :: 32 :: (cs t ++ tailC ts ++ r2) := rfl
  rw [e2] at e
  rcases h with ⟨u, rfl⟩ | ⟨u, rfl⟩ | ⟨u, rfl⟩
  · cases e
  · cases e
  · cases e
theorem sep_nil {d : PyData} {ds : List PyData} {r r2 : List Nat} (hd : alD d) (h : cl r) (e : r = sepC (PyData.shownAll (d :: ds)) ++ r2) : False := by
  obtain ⟨t, et⟩ := shown_tag hd
  have n := tag_no d
  have e2 : sepC (PyData.shownAll (d :: ds)) ++ r2 = tagD d :: (t ++ tailC (PyData.shownAll ds) ++ r2) := by
    simp only [PyData.shownAll, sepC, et, List.cons_append]
  rw [e2] at e
  rcases h with ⟨u, rfl⟩ | ⟨u, rfl⟩ | ⟨u, rfl⟩
  · injection e with e3
    exact n.1 e3.symm
  · injection e with e3
    exact n.2.1 e3.symm
  · injection e with e3
    exact n.2.2 e3.symm
theorem len_all : ∀ ds : List PyData, (PyData.shownAll ds).length = ds.length
  | [] => rfl
  | d :: ds => by simp only [PyData.shownAll, List.length_cons, len_all ds]
mutual
theorem shown_pre : ∀ (a b : PyData) (r1 r2 : List Nat), alD a → alD b → dl r1 → dl r2 → cs a.shown ++ r1 = cs b.shown ++ r2 → a = b ∧ r1 = r2
  | a, b, r1, r2, ha, hb, h1, h2, h => by
    obtain ⟨ta, ea⟩ := shown_tag ha
    obtain ⟨tb, eb⟩ := shown_tag hb
    have et : tagD a = tagD b := by
      rw [ea, eb] at h
      injection h
    match a, b with
    | .none, .none => exact ⟨rfl, List.append_cancel_left h⟩
    | .bool x, .bool y =>
      have e : x = y := by
        cases x <;> cases y <;> first | rfl | exact absurd et (by simp [tagD])
      subst e
      exact ⟨rfl, List.append_cancel_left h⟩
    | .int x, .int y =>
      have e : x = y := by
        rcases ha with rfl | rfl <;> rcases hb with rfl | rfl <;> first | rfl | exact absurd et (by simp [tagD])
      subst e
      exact ⟨rfl, List.append_cancel_left h⟩
    | .str x, .str y =>
      simp only [PyData.shown] at h
      rw [cs_repr ha, cs_repr hb] at h
      injection h with _ h
      replace h : (cs x ++ [39]) ++ r1 = (cs y ++ [39]) ++ r2 := h
      rw [List.append_assoc, List.append_assoc] at h
      have n39 : alC 39 = false := by decide
      obtain ⟨e1, e2⟩ := span_uniq (p := alC) ha hb (fun c t e => by injection e with e _; rw [← e]; exact n39) (fun c t e => by injection e with e _; rw [← e]; exact n39) h
      injection e2 with _ e2
      exact ⟨by rw [cs_inj e1], e2⟩
    | .list xs, .list ys =>
      simp only [PyData.shown] at h
      rw [cs_list, cs_list] at h
      injection h with _ h
      replace h : (sepC (PyData.shownAll xs) ++ [93]) ++ r1 = (sepC (PyData.shownAll ys) ++ [93]) ++ r2 := h
      rw [List.append_assoc, List.append_assoc] at h
      obtain ⟨e1, e2⟩ := sep_pre xs ys ([93] ++ r1) ([93] ++ r2) ha hb (.inl ⟨_, rfl⟩) (.inl ⟨_, rfl⟩) h
      injection e2 with _ e2
      exact ⟨by rw [e1], e2⟩
    | .tuple xs, .tuple ys =>
      simp only [PyData.shown] at h
      rw [cs_tuple, cs_tuple] at h
      injection h with _ h
      replace h : (sepC (PyData.shownAll xs) ++ (if (PyData.shownAll xs).length = 1 then [44, 41] else [41])) ++ r1 = (sepC (PyData.shownAll ys) ++ (if (PyData.shownAll ys).length = 1 then [44, 41] else [41])) ++ r2 := h
      rw [List.append_assoc, List.append_assoc] at h
      have cc : ∀ (ts : List Str) (r : List Nat), cl ((if ts.length = 1 then [44, 41] else [41]) ++ r) := fun ts r => by
        by_cases hl : ts.length = 1
        · rw [if_pos hl]
          exact .inr (.inr ⟨_, rfl⟩)
        · rw [if_neg hl]
          exact .inr (.inl ⟨_, rfl⟩)
      obtain ⟨e1, e2⟩ := sep_pre xs ys _ _ ha hb (cc _ r1) (cc _ r2) h
      subst e1
      exact ⟨rfl, List.append_cancel_left e2⟩
    | .none, .bool y => cases y <;> exact absurd et (by simp [tagD])
    | .none, .int y => exact absurd et (by simp only [tagD]; split <;> decide)
    | .none, .str _ => exact absurd et (by simp [tagD])
    | .none, .list _ => exact absurd et (by simp [tagD])
    | .none, .tuple _ => exact absurd et (by simp [tagD])
    | .bool x, .none => cases x <;> exact absurd et (by simp [tagD])
    | .bool x, .int y => cases x <;> exact absurd et (by simp only [tagD]; by_cases z : y = 0 <;> simp [z])
    | .bool x, .str _ => cases x <;> exact absurd et (by simp [tagD])
    | .bool x, .list _ => cases x <;> exact absurd et (by simp [tagD])
    | .bool x, .tuple _ => cases x <;> exact absurd et (by simp [tagD])
    | .int x, .none => exact absurd et (by simp only [tagD]; split <;> decide)
    | .int x, .bool y => cases y <;> exact absurd et (by simp only [tagD]; split <;> decide)
    | .int x, .str _ => exact absurd et (by simp only [tagD]; split <;> decide)
    | .int x, .list _ => exact absurd et (by simp only [tagD]; split <;> decide)
    | .int x, .tuple _ => exact absurd et (by simp only [tagD]; split <;> decide)
    | .str _, .none => exact absurd et (by simp [tagD])
    | .str _, .bool y => cases y <;> exact absurd et (by simp [tagD])
    | .str _, .int y => exact absurd et (by simp only [tagD]; split <;> decide)
    | .str _, .list _ => exact absurd et (by simp [tagD])
    | .str _, .tuple _ => exact absurd et (by simp [tagD])
    | .list _, .none => exact absurd et (by simp [tagD])
    | .list _, .bool y => cases y <;> exact absurd et (by simp [tagD])
    | .list _, .int y => exact absurd et (by simp only [tagD]; split <;> decide)
    | .list _, .str _ => exact absurd et (by simp [tagD])
    | .list _, .tuple _ => exact absurd et (by simp [tagD])
    | .tuple _, .none => exact absurd et (by simp [tagD])
    | .tuple _, .bool y => cases y <;> exact absurd et (by simp [tagD])
    | .tuple _, .int y => exact absurd et (by simp only [tagD]; split <;> decide)
    | .tuple _, .str _ => exact absurd et (by simp [tagD])
    | .tuple _, .list _ => exact absurd et (by simp [tagD])
    | .dict _, _ => exact ha.elim
    | _, .dict _ => exact hb.elim
theorem sep_pre : ∀ (as bs : List PyData) (r1 r2 : List Nat), alAll as → alAll bs → cl r1 → cl r2 → sepC (PyData.shownAll as) ++ r1 = sepC (PyData.shownAll bs) ++ r2 → as = bs ∧ r1 = r2
  | [], [], _, _, _, _, _, _, h => ⟨rfl, h⟩
  | [], b :: bs, r1, r2, _, hb, h1, _, h => (sep_nil hb.1 h1 h).elim
  | a :: as, [], r1, r2, ha, _, _, h2, h => (sep_nil ha.1 h2 h.symm).elim
  | a :: as, b :: bs, r1, r2, ha, hb, h1, h2, h => by
    simp only [PyData.shownAll, sepC] at h
    rw [List.append_assoc, List.append_assoc] at h
    obtain ⟨e1, e2⟩ := shown_pre a b _ _ ha.1 hb.1 (dl_tail h1) (dl_tail h2) h
    obtain ⟨e3, e4⟩ := tail_pre as bs r1 r2 ha.2 hb.2 h1 h2 e2
    exact ⟨by rw [e1, e3], e4⟩
theorem tail_pre : ∀ (as bs : List PyData) (r1 r2 : List Nat), alAll as → alAll bs → cl r1 → cl r2 → tailC (PyData.shownAll as) ++ r1 = tailC (PyData.shownAll bs) ++ r2 → as = bs ∧ r1 = r2
  | [], [], _, _, _, _, _, _, h => ⟨rfl, h⟩
  | [], b :: bs, r1, r2, _, hb, h1, _, h => (tail_nil h1 h).elim
  | a :: as, [], r1, r2, ha, _, _, h2, h => (tail_nil h2 h.symm).elim
  | a :: as, b :: bs, r1, r2, ha, hb, h1, h2, h => by
    simp only [PyData.shownAll, tailC] at h
    injection h with _ h
    injection h with _ h
    replace h : (cs a.shown ++ tailC (PyData.shownAll as)) ++ r1 = (cs b.shown ++ tailC (PyData.shownAll bs)) ++ r2 := h
    rw [List.append_assoc, List.append_assoc] at h
    obtain ⟨e1, e2⟩ := shown_pre a b _ _ ha.1 hb.1 (dl_tail h1) (dl_tail h2) h
    obtain ⟨e3, e4⟩ := tail_pre as bs r1 r2 ha.2 hb.2 h1 h2 e2
    exact ⟨by rw [e1, e3], e4⟩
end
theorem shown_inj {a b : PyData} (ha : alD a) (hb : alD b) (h : a.shown = b.shown) : a = b :=
  (shown_pre a b [] [] ha hb (.inl rfl) (.inl rfl) (by rw [h])).1
end TX
namespace TX
open PySem PySem.Spec PyProof.Rows L2
/-! ### the outline of a value tells the value -/
theorem out_leaf {d : PyData} (h : ∀ es, d ≠ .list es) : outD d = [d] := by
  cases d with
  | list es => exact absurd rfl (h es)
  | _ => rfl
mutual
theorem out_inj : ∀ (a b : PyData) (r1 r2 : List PyData), valD a → valD b → outD a ++ r1 = outD b ++ r2 → a = b ∧ r1 = r2
  | .list xs, .list ys, r1, r2, ha, hb, h => by
    simp only [outD] at h
    injection h with h1 h2
    injection h1 with h1
    have hl : xs.length = ys.length := by omega
    replace h2 : outAll xs ++ r1 = outAll ys ++ r2 := h2
    obtain ⟨e1, e2⟩ := outAll_inj xs ys r1 r2 hl ha hb h2
    exact ⟨by rw [e1], e2⟩
  | .none, .none, r1, r2, _, _, h => by
    injection h with _ h
    exact ⟨rfl, h⟩
  | .str x, .str y, r1, r2, _, _, h => by
    injection h with h1 h
    exact ⟨h1, h⟩
  | .none, .str y, r1, r2, _, _, h => by
    injection h with h1 h
    cases h1
  | .str x, .none, r1, r2, _, _, h => by
    injection h with h1 h
    cases h1
  | .none, .list ys, r1, r2, _, _, h => by
    injection h with h1 h
    cases h1
  | .str x, .list ys, r1, r2, _, _, h => by
    injection h with h1 h
    cases h1
  | .list xs, .none, r1, r2, _, _, h => by
    injection h with h1 h
    cases h1
  | .list xs, .str y, r1, r2, _, _, h => by
    injection h with h1 h
    cases h1
  | .bool _, _, _, _, ha, _, _ => ha.elim
  | .int _, _, _, _, ha, _, _ => ha.elim
  | .tuple _, _, _, _, ha, _, _ => ha.elim
  | .dict _, _, _, _, ha, _, _ => ha.elim
  | _, .bool _, _, _, _, hb, _ => hb.elim
  | _, .int _, _, _, _, hb, _ => hb.elim
  | _, .tuple _, _, _, _, hb, _ => hb.elim
  | _, .dict _, _, _, _, hb, _ => hb.elim
theorem outAll_inj : ∀ (as bs : List PyData) (r1 r2 : List PyData), as.length = bs.length → valAll as → valAll bs → outAll as ++ r1 = outAll bs ++ r2 → as = bs ∧ r1 = r2
  | [], [], _, _, _, _, _, h => ⟨rfl, h⟩
  | [], _ :: _, _, _, hl, _, _, _ => by cases hl
  | _ :: _, [], _, _, hl, _, _, _ => by cases hl
  | a :: as, b :: bs, r1, r2, hl, ha, hb, h => by
    simp only [outAll] at h
    rw [List.append_assoc, List.append_assoc] at h
    obtain ⟨e1, e2⟩ := out_inj a b _ _ ha.1 hb.1 h
    obtain ⟨e3, e4⟩ := outAll_inj as bs r1 r2 (by simpa using hl) ha.2 hb.2 e2
    exact ⟨by rw [e1, e3], e4⟩
end
def flD : PyData → Prop
  | .none => True
  | .str _ => True
  | .int _ => True
  | _ => False
mutual
theorem out_fl : ∀ (d : PyData), valD d → ∀ x ∈ outD d, flD x
  | .list es, h, x, hx => by
    simp only [outD] at hx
    rcases List.mem_cons.mp hx with e | e
    · rw [e]
      exact trivial
    · exact outAll_fl es h x e
  | .none, _, x, hx => by
    have e : x = .none := by simpa [outD] using hx
    rw [e]
    exact trivial
  | .str y, _, x, hx => by
    have e : x = .str y := by simpa [outD] using hx
    rw [e]
    exact trivial
  | .bool _, h, _, _ => h.elim
  | .int _, h, _, _ => h.elim
  | .tuple _, h, _, _ => h.elim
  | .dict _, h, _, _ => h.elim
theorem outAll_fl : ∀ (ds : List PyData), valAll ds → ∀ x ∈ outAll ds, flD x
  | [], _, x, hx => by simp [outAll] at hx
  | d :: ds, h, x, hx => by
    simp only [outAll] at hx
    rcases List.mem_append.mp hx with e | e
    · exact out_fl d h.1 x e
    · exact outAll_fl ds h.2 x e
end
theorem fl_eqv {x y : PyData} (hx : flD x) (hy : flD y) : PyData.eqv x y = true ↔ x = y := by
  cases x <;> cases y <;> simp [flD] at hx hy <;> simp [PyData.eqv]
theorem fl_eqvAll : ∀ (xs ys : List PyData), (∀ x ∈ xs, flD x) → (∀ y ∈ ys, flD y) → (PyData.eqvAll xs ys = true ↔ xs = ys)
  | [], [], _, _ => by simp [PyData.eqvAll]
  | [], _ :: _, _, _ => by simp [PyData.eqvAll]
  | _ :: _, [], _, _ => by simp [PyData.eqvAll]
  | x :: xs, y :: ys, hx, hy => by
    have ih := fl_eqvAll xs ys (fun z hz => hx z (List.mem_cons_of_mem _ hz)) (fun z hz => hy z (List.mem_cons_of_mem _ hz))
    have e := fl_eqv (hx x List.mem_cons_self) (hy y List.mem_cons_self)
    simp only [PyData.eqvAll, Bool.and_eq_true, e, ih, List.cons.injEq]
theorem out_eqv {a b : PyData} (ha : valD a) (hb : valD b) : PyData.eqv (.list (outD a)) (.list (outD b)) = true ↔ a = b := by
  have e := fl_eqvAll (outD a) (outD b) (out_fl a ha) (out_fl b hb)
  have e2 : PyData.eqv (.list (outD a)) (.list (outD b)) = PyData.eqvAll (outD a) (outD b) := by simp only [PyData.eqv]
  rw [e2, e]
  refine ⟨fun h => (out_inj a b [] [] ha hb (by rw [h])).1, fun h => by rw [h]⟩
theorem out_any {ds : List PyData} {d : PyData} (hs : valAll ds) (hd : valD d) : ((ds.map fun e => PyData.list (outD e)).any fun z => PyData.eqv z (.list (outD d))) = true ↔ d ∈ ds := by
  induction ds with
  | nil => simp
  | cons e ds ih =>
    simp only [List.map_cons, List.any_cons, Bool.or_eq_true, List.mem_cons, ih hs.2, out_eqv hs.1 hd]
    constructor
    · rintro (h | h)
      · exact .inl h.symm
      · exact .inr h
    · rintro (h | h)
      · exact .inl h.symm
      · exact .inr h
end TX
namespace TX
open PySem PySem.Spec PySem.Calls PyProof.Rows L2
open PySem.W (Frag InstAt findIn subIn Looks looks_findIn looks_subIn)
/-! ### two own objects, and an own object on the right -/
section
variable {prog : Program} {w : World} {A : Around} {E : Value → Shared → Prop} {s : Shared} {K : Frag} {x C L f g : Addr} {h₀ : Heap} {m : Str → Option Value} {ox : Obj} {od : Option Obj} {b : Value} {T : String}
theorem bin2_K {op : Operator} {Q : Value → Shared → Prop} (F : Fr h₀ L s.heap m) (X₀ : K.In h₀) (I : InstAt s.heap x ox C od) (hb : Looks (model prog w) s.heap (typeOf b) (.ref C)) (hc : PySem.W.selfFirst K C = true)
    (hs : findIn K (.ref C) (PySem.dunder op.info.2) = some (some (.ref f))) (hf : PySem.W.isFn K (.ref f) = true)
    (h : wpAny (model prog w) A (call (.ref f) [.ref x, b]) (PySem.W.CmpBack Q) E s) : wpAny (model prog w) A (binaryOp op (.ref x) b) Q E s := by
  have X := X₀.keeps F.keep
  obtain ⟨cd, rest, hcd, hm⟩ := PySem.W.ksp_first hc
  rcases hi : op.info with ⟨sym, nm'⟩
  rw [hi] at hs
  dsimp only at hs
  have one := PySem.W.ksp_try X I hs hf h
  obtain ⟨hh, g, d, tt, os⟩ := s
  have L1 : Looks (model prog w) hh (typeOf (.ref x)) (.ref C) := I.type
  have L2 : Looks (model prog w) hh (typeOf b) (.ref C) := hb
  have L3 : Looks (model prog w) hh (fillsNumberSlot (.ref C) nm') true := PySem.W.fills_K X hcd hm hs
  have heq : (Value.ref C == Value.ref C) = true := beq_self_eq_true _
  simp only [binaryOp, hi]
  refine wpAny_holding (wpAny_bind ?_)
  unfold binaryOp1
  refine wpAny_bind (L1.at (wpAny_bind (L2.at (wpAny_bind (L3.at ?_)))))
  simp only [heq, if_true]
  ksp_lk
  refine wpAny_mono one (fun r s' hr' => ?_) fun _ _ e => e
  obtain ⟨v, rfl, hq⟩ := hr'
  ksp_lk
  exact hq
/-- a op x, by the own reflected method; where the left one's type has a slot of its own, it declines -/
theorem refl_K {op : Operator} {a : Value} {fo ro : Option Value} {Q : Value → Shared → Prop} (F : Fr h₀ L s.heap m) (X₀ : K.In h₀) (I : InstAt s.heap x ox C od) (ha : Looks (model prog w) s.heap (typeOf a) (.type T)) (hc : PySem.W.selfFirst K C = true)
    (hs : findIn K (.ref C) (PySem.dunder op.info.2) = some (some (.ref g))) (hr : findIn K (.ref C) (dunderR op.info.2) = some (some (.ref f))) (hf : PySem.W.isFn K (.ref f) = true)
    (h1 : findIn K (.type T) (PySem.dunder op.info.2) = some fo) (h2 : findIn K (.type T) (dunderR op.info.2) = some ro) (hsub : subIn K (.ref C) (.type T) = some false)
    (hl : ((fo.isSome && !isSeqSlot fo) || (ro.isSome && !isSeqSlot ro)) = true → ∀ Q' : Option Value → Shared → Prop, Q' none s → wpAny (model prog w) A (tryMethod a (PySem.dunder op.info.2) (.ref x)) Q' E s)
    (h : wpAny (model prog w) A (call (.ref f) [.ref x, a]) (PySem.W.CmpBack Q) E s) : wpAny (model prog w) A (binaryOp op a (.ref x)) Q E s := by
  have X := X₀.keeps F.keep
  obtain ⟨cd, rest, hcd, hm⟩ := PySem.W.ksp_first hc
  rcases hi : op.info with ⟨sym, nm'⟩
  rw [hi] at hs hr h1 h2 hl
  dsimp only at hs hr h1 h2 hl
  have one := PySem.W.ksp_try X I hr hf h
  obtain ⟨hh, gg, d, tt, os⟩ := s
  have L1 : Looks (model prog w) hh (typeOf a) (.type T) := ha
  have L2 : Looks (model prog w) hh (typeOf (.ref x)) (.ref C) := I.type
  have L3 : Looks (model prog w) hh (fillsNumberSlot (.type T) nm') ((fo.isSome && !isSeqSlot fo) || (ro.isSome && !isSeqSlot ro)) := PySem.W.ksp_fillsT X h1 h2
  have L4 : Looks (model prog w) hh (fillsNumberSlot (.ref C) nm') true := PySem.W.fills_K X hcd hm hs
  have L5 : Looks (model prog w) hh (isSubtype (.ref C) (.type T)) false := looks_subIn X hsub
  have L7 : Looks (model prog w) hh (numberSlotInPython (.type T) nm') false := Looks.of_pure rfl
  generalize ((fo.isSome && !isSeqSlot fo) || (ro.isSome && !isSeqSlot ro)) = left at L3 hl
  have hne : (Value.type T == Value.ref C) = false := Bool.eq_false_iff.mpr fun q => by cases beq_iff_eq.mp q
  simp only [binaryOp, hi]
  refine wpAny_holding (wpAny_bind ?_)
  unfold binaryOp1
  refine wpAny_bind (L1.at (wpAny_bind (L2.at (wpAny_bind (L3.at ?_)))))
  simp only [hne, Bool.false_eq_true, if_false]
  cases left with
  | false =>
    ksp_lk
    refine wpAny_mono one (fun r s' hr' => ?_) fun _ _ e => e
    obtain ⟨v, rfl, hq⟩ := hr'
    ksp_lk
    exact hq
  | true =>
    ksp_lk
    refine hl rfl _ ?_
    ksp_lk
    refine wpAny_mono one (fun r s' hr' => ?_) fun _ _ e => e
    obtain ⟨v, rfl, hq⟩ := hr'
    ksp_lk
    exact hq
theorem int_mul_ref (a : Int) (t : Tok) (l dx C : Addr) :
    Meets (Builtin.«int.__mul__» ⟨[.int a t, .ref l], []⟩) (fun _ R s => s.heap.get? l = some (PySem.W.instObj C dx) ∧ R (.ok (.ret Value.notImplemented)) s) :=
  .of_wp fun prog w A R s h => by
    obtain ⟨hp, g, d, tk, os⟩ := s
    obtain ⟨hl, h⟩ := h
    wp_walk
    exact ⟨_, rfl, h⟩
theorem try_int_mul {a : Int} {t : Tok} {dx : Addr} (e : s.heap.get? x = some (PySem.W.instObj C dx)) : ∀ Q' : Option Value → Shared → Prop, Q' none s → wpAny (model prog w) A (tryMethod (.int a t) (PySem.dunder "mul") (.ref x)) Q' E s := fun Q' q =>
  wpAny_tryMethod_declines (typeIs_int s a t) F.slot_int_mul (call_meets F.slot_int_mul (typeIs_int s a t) F.entry_int_mul (F.args_int_mul_2 _ _) (int_mul_ref a t x dx C) ⟨e, rfl, q⟩)
/-- x == b, by the own == -/
theorem eq_K {Q : Value → Shared → Prop} (hu : A.units + 1 < cLine) (F : Fr h₀ L s.heap m) (X₀ : K.In h₀) (I : InstAt s.heap x ox C od) (hb : Looks (model prog w) s.heap (typeOf b) (.ref C))
    (hs : findIn K (.ref C) "__eq__" = some (some (.ref f))) (hf : PySem.W.isFn K (.ref f) = true)
    (h : wpAny (model prog w) A (call (.ref f) [.ref x, b]) (PySem.W.CmpBack Q) E s) : wpAny (model prog w) A (richCompare .Eq (.ref x) b) Q E s := by
  have X := X₀.keeps F.keep
  have one : wpAny (model prog w) A (tryCompare (.ref x) "__eq__" b) (fun r s' => ∃ v, r = some v ∧ Q v s') E s := by
    unfold tryCompare
    refine wpAny_bind (m := callSpecialIfBound? (.ref x) (Str.ofString "__eq__") [b]) (PySem.W.ifBound_K X I hs hf (wpAny_mono h (fun v s' hv => ?_) fun _ _ e => e))
    cases v <;> first | exact hv.elim | exact wpAny_pure ⟨_, rfl, hv⟩
  unfold richCompare
  simp only [oneThing_ref]
  refine wpAny_holding (wpAny_bind (wpAny_cRoomFor (Nat.lt_of_succ_lt hu) ?_))
  rw [cmpInfo_Eq]
  dsimp only
  refine wpAny_bind (I.type.here (wpAny_bind (hb.here ?_)))
  rw [show (Value.ref C != Value.ref C) = false from by simp]
  simp only [Bool.false_eq_true, if_false]
  refine wpAny_bind (wpAny_pure ?_)
  simp only [Bool.false_eq_true, if_false]
  refine wpAny_bind (wpAny_mono one (fun r s' z => ?_) fun _ _ e => e)
  obtain ⟨v, rfl, hq⟩ := z
  exact wpAny_pure hq
end
section
variable {X : Cx} {CX : CXT} {C f g : Addr} {k : Nat} {fd : FuncData} {ps : List Str} {sp : Sp} {E : XK}
def rOwn2 (C : Addr) (sp : Sp) (E : XK) : V → V → Hp → VK → Prop := fun x y H Q => ∃ p q dx dy fs gs, x = .ref p ∧ y = .ref q ∧ H p = some (.ins C dx fs) ∧ H q = some (.ins C dy gs) ∧ sp [x, y] H Q E
/-- x op y of two own objects -/
theorem op_own2 {op : Operator} {nm : Str} (hn : nm = PySem.dunder op.info.2) (hm : Meth X.K C nm f) (hc : PySem.W.selfFirst X.K C = true) (F : FnOk X.prog X.w X.K X.mg X.base CX k f fd ps sp) (hr : Room k X.A) (hb : Binds X.K fd ps []) (hx : Passes CX X E) :
    OpR X (binaryOp op) (rOwn2 C sp E) := by
  subst hn
  intro pins s σ H x y v u Q I rx ry h
  obtain ⟨p, q, dx, dy, fs, gs, rfl, rfl, hp', hq', h⟩ := h
  cases rx
  cases ry
  obtain ⟨ox, od, J⟩ := inst_at I hp'
  obtain ⟨oy, ody, J2⟩ := inst_at I hq'
  obtain ⟨m, hF⟩ := I.fr
  refine bin2_K hF I.ok.mod.kin J J2.type hc hm.at_ hm.fn ?_
  exact wpAny_mono (run_below (vs := [.ref p, .ref q]) F ⟨hr, rfl⟩ hb hx I (.cons rfl (.cons rfl .nil)) h) (fun _ _ h => ep_back h) fun _ _ e => e
/-- x == y, by the own == -/
theorem op_eq_own (hm : Meth X.K C "__eq__" f) (F : FnOk X.prog X.w X.K X.mg X.base CX k f fd ps sp) (hr : Room k X.A) (hb : Binds X.K fd ps []) (hx : Passes CX X E) : OpR X (compareOp .Eq) (rOwn2 C sp E) := by
  intro pins s σ H x y v u Q I rx ry h
  obtain ⟨p, q, dx, dy, fs, gs, rfl, rfl, hp', hq', h⟩ := h
  cases rx
  cases ry
  obtain ⟨ox, od, J⟩ := inst_at I hp'
  obtain ⟨oy, ody, J2⟩ := inst_at I hq'
  obtain ⟨m, hF⟩ := I.fr
  show wpAny (model X.prog X.w) X.A (richCompare .Eq _ _) _ _ _
  refine eq_K (by have := hr.un; omega) hF I.ok.mod.kin J J2.type hm.at_ hm.fn ?_
  exact wpAny_mono (run_below (vs := [.ref p, .ref q]) F ⟨hr, rfl⟩ hb hx I (.cons rfl (.cons rfl .nil)) h) (fun _ _ h => ep_back h) fun _ _ e => e
/-- x * n -/
theorem op_mul_int {fo ro rc : Option Value} (hm : Meth X.K C "__mul__" f) (hc : PySem.W.selfFirst X.K C = true) (hr' : findIn X.K (.ref C) "__rmul__" = some rc) (hp : rc = none ∨ ∃ g : Addr, rc = some (.ref g))
    (h1 : findIn X.K (.type "int") "__mul__" = some fo) (h2 : findIn X.K (.type "int") "__rmul__" = some ro) (hsub : subIn X.K (.type "int") (.ref C) = some false)
    (F : FnOk X.prog X.w X.K X.mg X.base CX k f fd ps sp) (hr : Room k X.A) (hb : Binds X.K fd ps []) (hx : Passes CX X E) : OpR X (binaryOp .Mult) (fun x y H Q => (∃ n, y = .int n) ∧ rOwn C sp E x y H Q) := by
  intro pins s σ H x y v u Q I rx ry h
  obtain ⟨⟨n, rfl⟩, p, dx, fs, rfl, hp', q⟩ := h
  cases rx
  obtain ⟨t, rfl⟩ := ry
  obtain ⟨ox, od, J⟩ := inst_at I hp'
  obtain ⟨m, hF⟩ := I.fr
  refine PySem.W.ksp_binT (T := "int") hF I.ok.mod.kin J rfl hc hm.at_ hm.fn hr' hp h1 h2 hsub ?_
  exact wpAny_mono (run_below (vs := [.ref p, .int n]) F ⟨hr, rfl⟩ hb hx I (.cons rfl (.cons ⟨t, rfl⟩ .nil)) q) (fun _ _ h => ep_back h) fun _ _ e => e
/-- n * x -/
theorem op_int_mul {fo ro : Option Value} (ha : findIn X.K (.ref C) "__mul__" = some (some (.ref g))) (hm : Meth X.K C "__rmul__" f) (hc : PySem.W.selfFirst X.K C = true)
    (h1 : findIn X.K (.type "int") "__mul__" = some fo) (h2 : findIn X.K (.type "int") "__rmul__" = some ro) (hsub : subIn X.K (.ref C) (.type "int") = some false)
    (F : FnOk X.prog X.w X.K X.mg X.base CX k f fd ps sp) (hr : Room k X.A) (hb : Binds X.K fd ps []) (hx : Passes CX X E) : OpR X (binaryOp .Mult) (fun x y H Q => (∃ n, x = .int n) ∧ rOwn C sp E y x H Q) := by
  intro pins s σ H x y v u Q I rx ry h
  obtain ⟨⟨n, rfl⟩, p, dx, fs, rfl, hp', q⟩ := h
  cases ry
  obtain ⟨t, rfl⟩ := rx
  obtain ⟨mA, J0, _⟩ := ins_get I.hok hp'
  have ho := J0.obj
  obtain ⟨od, J, _⟩ := J0.look
  obtain ⟨m, hF⟩ := I.fr
  refine refl_K (T := "int") hF I.ok.mod.kin J (Looks.of_pure rfl) hc ha hm.at_ hm.fn h1 h2 hsub (fun _ => try_int_mul ho) ?_
  exact wpAny_mono (run_below (vs := [.ref p, .int n]) F ⟨hr, rfl⟩ hb hx I (.cons rfl (.cons ⟨t, rfl⟩ .nil)) q) (fun _ _ h => ep_back h) fun _ _ e => e
/-- y + x, y nothing, a text, a list -/
theorem op_val_add {fo fs' fl ro rs rl : Option Value} (ha : findIn X.K (.ref C) "__add__" = some (some (.ref g))) (hm : Meth X.K C "__radd__" f) (hc : PySem.W.selfFirst X.K C = true)
    (h1 : findIn X.K (.type "NoneType") "__add__" = some fo) (h2 : findIn X.K (.type "NoneType") "__radd__" = some ro) (n1 : ((fo.isSome && !isSeqSlot fo) || (ro.isSome && !isSeqSlot ro)) = false) (u1 : subIn X.K (.ref C) (.type "NoneType") = some false)
    (h3 : findIn X.K (.type "str") "__add__" = some fs') (h4 : findIn X.K (.type "str") "__radd__" = some rs) (n2 : ((fs'.isSome && !isSeqSlot fs') || (rs.isSome && !isSeqSlot rs)) = false) (u2 : subIn X.K (.ref C) (.type "str") = some false)
    (h5 : findIn X.K (.type "list") "__add__" = some fl) (h6 : findIn X.K (.type "list") "__radd__" = some rl) (n3 : ((fl.isSome && !isSeqSlot fl) || (rl.isSome && !isSeqSlot rl)) = false) (u3 : subIn X.K (.ref C) (.type "list") = some false)
    (F : FnOk X.prog X.w X.K X.mg X.base CX k f fd ps sp) (hr : Room k X.A) (hb : Binds X.K fd ps []) (hx : Passes CX X E) : OpR X (binaryOp .Add) (fun y x H Q => (y = .non ∨ (∃ z, y = .str z) ∨ ∃ a xs, y = .ref a ∧ H a = some (.lst xs)) ∧ rOwn C sp E x y H Q) := by
  intro pins s σ H y x v u Q I ry rx h
  obtain ⟨hy, p, dx, fs, rfl, hp', q⟩ := h
  cases rx
  obtain ⟨ox, od, J⟩ := inst_at I hp'
  obtain ⟨m, hF⟩ := I.fr
  have no : ∀ {b : Bool} {P : Prop}, b = false → b = true → P := fun e1 e2 => by rw [e1] at e2; cases e2
  have fin : wpAny (model X.prog X.w) X.A (call (.ref f) [.ref p, v]) (PySem.W.CmpBack (EP X pins σ Q)) X.xe s :=
    wpAny_mono (run_below (vs := [.ref p, y]) F ⟨hr, rfl⟩ hb hx I (.cons rfl (.cons ry .nil)) q) (fun _ _ h => ep_back h) fun _ _ e => e
  rcases hy with rfl | ⟨z, rfl⟩ | ⟨a, xs, rfl, ha'⟩
  · cases ry
    exact refl_K (T := "NoneType") hF I.ok.mod.kin J (Looks.of_pure rfl) hc ha hm.at_ hm.fn h1 h2 u1 (no n1) fin
  · obtain ⟨t, rfl⟩ := ry
    exact refl_K (T := "str") hF I.ok.mod.kin J (Looks.of_pure rfl) hc ha hm.at_ hm.fn h3 h4 u2 (no n2) fin
  · cases ry
    obtain ⟨z, its, n, r, hl, e⟩ := I.lstM ha'
    exact refl_K (T := "list") hF I.ok.mod.kin J ((Looks.ld e).andThen .now) hc ha hm.at_ hm.fn h5 h6 u3 (no n3) fin
end
/-! ### range(n), n negative and however great -/
section
variable {X : Cx} {tg : Expr}
theorem turn_long {P : Program} {w : World} {K : PySem.W.Frag} {tg : Expr} (it : Addr) (left : Int) (hl : left ≤ 0) : Turn P w K tg (Itr 0 0) [it] it (fun _ h => IsLongIter h it 0 left 1) where
  mem := by simp
  obj := fun i h st b hb => by
    have e : b = it := by simpa using hb
    subst e
    exact ⟨_, st, fun v z => by
      have z' : Data.fields _ = Data.cell v := z
      cases z'⟩
  keep := fun i h h' st k => k it (by simp) _ st
  item := by
    intro X hP hw hK hc i pins s σ H E I hf st hg
    exact absurd (show i < 0 from hg) (Nat.not_lt_zero _)
  done := by
    intro X hP hw hK hc i pins s σ H E I hf st hg
    subst hP hw hK
    obtain ⟨f0, f1, f2, f3, f4, f5⟩ := hf it (by simp)
    exact wpAny_pyNext_long_end (I.ok.hd hc) st hl fun h' eb => ⟨rfl, I.turned (t' := s.toks) (fun b o hb e => eb b o hb e) f0 f1 f3 f4 f5⟩
  self := fun _ _ _ _ _ st h => wpAny_pyIter_longiter st h
theorem small_long {j : Int} (h : j < -(2 ^ 64)) : Builtin.Range.small 0 j 1 = false := by
  unfold Builtin.Range.small Builtin.Range.rangeFitsLong
  simp only [Bool.and_eq_false_iff, decide_eq_false_iff_not, Bool.or_eq_false_iff]
  refine .inl (.inl (.inl (.inr ?_)))
  omega
theorem range_itL {pins : List (Addr × Obj)} {σ : L2.St} {H : Hp} {s : Shared} {R : It → Hp → Prop} {E : Value → Shared → Prop} {hi : Int} {t u v : Tok} {tk : Nat} (I : Inv X pins σ H s) (h : hi < -(2 ^ 64))
    (q : R (Itr 0 0) H) : wpAny (model X.prog X.w) X.A (pyIter (.ref s.heap.objs.size)) (PIE X pins σ tg R) E { s with heap := s.heap.push { cls := .type "range", data := .fields #[.int 0 t, .int hi u, .int 1 v] }, toks := tk } := by
  refine wpAny_pyIter_longrange (IsRange.new ..) (small_long h) ?_
  have I1 : Inv X pins σ H { s with heap := s.heap.push { cls := .type "range", data := .fields #[.int 0 t, .int hi u, .int 1 v] }, toks := tk } := I.kept fun b o e => Heap.get?_push_of_some _ e
  have e2 : Builtin.Range.rangeSize 0 hi 1 ≤ 0 := by
    rw [rangeSize_one]
    split <;> omega
  refine ⟨(s.heap.push { cls := .type "range", data := .fields #[.int 0 t, .int hi u, .int 1 v] }).objs.size, [(s.heap.push { cls := .type "range", data := .fields #[.int 0 t, .int hi u, .int 1 v] }).objs.size], _, _, H, rfl,
    I1.kept (t' := tk) fun b o e => Heap.get?_push_of_some _ e, turn_long _ _ e2, ?_, fun b hb => ?_, q⟩
  · exact Heap.get?_push_size _ rfl
  · have e : b = (s.heap.push { cls := .type "range", data := .fields #[.int 0 t, .int hi u, .int 1 v] }).objs.size := by simpa using hb
    subst e
    exact I1.fpOk (Nat.le_refl _) (I1.hok.fresh (Nat.le_refl _))
def iRngW (ta : TA) : TI := fun σ H R => ta σ H fun vs H1 => ∃ j : Int, vs = [.int j] ∧ (-(2 ^ 62) ≤ j ∨ j < -(2 ^ 64)) ∧ j < 2 ^ 62 ∧ R (Itr 0 j.toNat) H1
theorem pi_range1W {a : Expr} {ta : TA} {p pos : Pos} (hg : Gl X "range") (hm : X.mg "range" = none) (ha : PA X [a] ta) (hs : starEach [a] X.env = [(false, eval a X.env)] := by rfl) : PI X tg (.Call (.Name "range" p) [a] [] pos) (iRngW ta) := by
  refine ⟨fun pins s σ H R I h => ?_⟩
  refine Call_ (ld_blt I hg hm boot_range (PyProof.Rows.callWith_type1 (thn (ha.run pos pins s σ H _ I h) fun us s1 ⟨vs, H1, I1, r1, q1⟩ => ?_) hs rfl))
  obtain ⟨j, e, q1, q2, q⟩ := q1
  subst e
  cases r1 with
  | cons r rr =>
    cases rr
    obtain ⟨t, rfl⟩ := r
    rcases q1 with q1 | q1
    · exact call_range_1 (range_it I1 (by omega) (by omega) q1 q2 (by simpa using q))
    · refine call_range_1 (range_itL I1 q1 ?_)
      have e : j.toNat = 0 := by omega
      rw [e] at q
      exact q
end
end TX
namespace TX
open PySem PySem.Spec PyProof.Rows L2
/-! ### what can be shown -/
mutual
def okD : PyData → Prop
  | .int i => i.natAbs.log2 < 1920
  | .str x => ∀ c ∈ x.cps.toList, c < 16 ^ 8
  | .list es => okAll es
  | .tuple es => okAll es
  | .dict _ => False
  | _ => True
def okAll : List PyData → Prop
  | [] => True
  | d :: ds => okD d ∧ okAll ds
end
theorem okAll_append : ∀ (a b : List PyData), okAll (a ++ b) ↔ okAll a ∧ okAll b
  | [], b => by simp [okAll]
  | d :: a, b => by
    have := okAll_append a b
    simp only [List.cons_append, okAll, this, and_assoc]
mutual
theorem okD_shown : ∀ d : PyData, okD d → d.showable = true ∧ d.hasDict = false ∧ d.leavesShort 1921 = true
  | .none, _ => ⟨rfl, rfl, rfl⟩
  | .bool _, _ => ⟨rfl, rfl, rfl⟩
  | .int i, h => by
    have l1 : i.natAbs.log2 < 1920 := h
    refine ⟨by simp only [PyData.showable, decide_eq_true l1], rfl, ?_⟩
    simp only [PyData.leavesShort, decide_eq_true_eq]
    simp only [PyData.shown]
    exact int_text_len_1921 l1
  | .str x, h => by
    refine ⟨rfl, rfl, ?_⟩
    simp only [PyData.leavesShort, List.all_eq_true, decide_eq_true_eq]
    exact h
  | .list es, h => by
    obtain ⟨h1, h2, h3⟩ := okAll_shown es h
    exact ⟨by simpa [PyData.showable] using h1, by simpa [PyData.hasDict] using h2, by simpa [PyData.leavesShort] using h3⟩
  | .tuple es, h => by
    obtain ⟨h1, h2, h3⟩ := okAll_shown es h
    exact ⟨by simpa [PyData.showable] using h1, by simpa [PyData.hasDict] using h2, by simpa [PyData.leavesShort] using h3⟩
  | .dict _, h => h.elim
theorem okAll_shown : ∀ ds : List PyData, okAll ds → PyData.showableAll ds = true ∧ PyData.hasDictAll ds = false ∧ PyData.leavesShortAll 1921 ds = true
  | [], _ => ⟨rfl, rfl, rfl⟩
  | d :: ds, h => by
    obtain ⟨a1, a2, a3⟩ := okD_shown d h.1
    obtain ⟨b1, b2, b3⟩ := okAll_shown ds h.2
    exact ⟨by simp [PyData.showableAll, a1, b1], by simp [PyData.hasDictAll, a2, b2], by simp [PyData.leavesShortAll, a3, b3]⟩
end
mutual
theorem val_okD : ∀ d : PyData, valD d → okD d
  | .none, _ => trivial
  | .str x, h => fun c hc => Nat.lt_of_le_of_lt (h c hc).2 (by decide)
  | .list es, h => val_okAll es h
  | .bool _, h => h.elim
  | .int _, h => h.elim
  | .tuple _, h => h.elim
  | .dict _, h => h.elim
theorem val_okAll : ∀ ds : List PyData, valAll ds → okAll ds
  | [], _ => trivial
  | d :: ds, h => ⟨val_okD d h.1, val_okAll ds h.2⟩
end
mutual
theorem val_bulk : ∀ d : PyData, valD d → d.bulk + 1 ≤ sz d
  | .none, _ => by simp [PyData.bulk, sz]
  | .str x, h => by
    have e : x.length = x.cps.size := rfl
    simp only [PyData.bulk, sz]
    omega
  | .list es, h => by
    have := val_bulkAll es h
    simp only [PyData.bulk, sz]
    omega
  | .bool _, h => h.elim
  | .int _, h => h.elim
  | .tuple _, h => h.elim
  | .dict _, h => h.elim
theorem val_bulkAll : ∀ ds : List PyData, valAll ds → PyData.bulkAll ds ≤ szAll ds
  | [], _ => by simp [PyData.bulkAll]
  | d :: ds, h => by
    have a := val_bulk d h.1
    have b := val_bulkAll ds h.2
    simp only [PyData.bulkAll, szAll]
    omega
end
theorem ok_fit {d : PyData} (h : okD d) (hb : d.bulk ≤ 8000) : d.shown.length ≤ sizeLine := by
  obtain ⟨_, _, h3⟩ := okD_shown d h
  have e1 := PyData.shown_le_bulk 1921 (by decide) d h3
  have e2 : (1921 + 2) * d.bulk ≤ 1923 * 8000 := Nat.mul_le_mul_left _ hb
  exact Nat.le_trans e1 (Nat.le_trans (Nat.add_le_add_right e2 _) (by decide))
/-- what `repr` asks of data -/
structure Sh (d : PyData) : Prop where
  s : d.showable = true
  n : d.hasDict = false
  z : d.depth ≤ 60
  l : d.shown.length ≤ sizeLine
theorem sh_of {d : PyData} (h : okD d) (hb : d.bulk ≤ 8000) (hz : d.depth ≤ 60) : Sh d := ⟨(okD_shown d h).1, (okD_shown d h).2.1, hz, ok_fit h hb⟩
theorem log_small {i : Int} (h : i.natAbs ≤ 1000000) : i.natAbs.log2 < 1920 := by
  by_cases z : i.natAbs = 0
  · rw [z]
    decide
  · exact Nat.lt_trans ((Nat.log2_lt z).mpr (Nat.lt_of_le_of_lt h (by decide : 1000000 < 2 ^ 20))) (by decide)
mutual
theorem val_lay : ∀ d : PyData, valD d → PyData.canLay0 d = true
  | .none, _ => rfl
  | .str x, h => by simp only [PyData.canLay0, lt_strOk h]
  | .list es, h => by simp only [PyData.canLay0, val_layAll es h]
  | .bool _, h => h.elim
  | .int _, h => h.elim
  | .tuple _, h => h.elim
  | .dict _, h => h.elim
theorem val_layAll : ∀ ds : List PyData, valAll ds → PyData.canLayAll0 ds = true
  | [], _ => rfl
  | d :: ds, h => by simp only [PyData.canLayAll0, val_lay d h.1, val_layAll ds h.2, Bool.and_self]
end
theorem val_shaped {d : PyData} (h : valD d) (hz : d.depth ≤ 60) : SeqAt.shaped d = true := by
  unfold SeqAt.shaped
  rw [val_lay d h, Bool.true_and]
  exact decide_eq_true (by omega)
theorem ent_dep (d : PyData) : PyData.depthAll (entD d) ≤ d.depth := by
  cases d <;> simp [entD, PyData.depthAll, PyData.depth]
theorem list_empty (ds : List PyData) : PyData.eqv (.list ds) (.list []) = ds.isEmpty := by
  cases ds <;> simp [PyData.eqv, PyData.eqvAll]
theorem sh_list {ds : List PyData} (h : valAll ds) (hs : szAll ds ≤ 3000) (hd : PyData.depthAll ds ≤ 50) : Sh (.list ds) := by
  have v : valD (.list ds) := h
  have b := val_bulk (.list ds) v
  refine sh_of (val_okD _ v) ?_ ?_
  · simp only [sz] at b
    omega
  · simp only [PyData.depth]
    omega
/-! ### what stands still -/
def cut (H : Hp) (S : List Addr) : Hp := fun b => if b ∈ S then none else H b
theorem cut_at {H : Hp} {S : List Addr} {b : Addr} (h : b ∉ S) : cut H S b = H b := if_neg h
theorem cut_in {H : Hp} {S : List Addr} {b : Addr} (h : b ∈ S) : cut H S b = none := if_pos h
theorem cut_sub {H : Hp} {S : List Addr} : Same (cut H S) H := fun b o e => by
  by_cases h : b ∈ S
  · rw [cut_in h] at e
    cases e
  · rw [cut_at h] at e
    exact e
theorem to_cut {A H : Hp} {S : List Addr} (s : Same A H) (n : ∀ b ∈ S, A b = none) : Same A (cut H S) := fun b o e => by
  rw [cut_at (fun h => by rw [n b h] at e; cases e)]
  exact s _ _ e
theorem not3 {b x y z : Addr} (h1 : b ≠ x) (h2 : b ≠ y) (h3 : b ≠ z) : b ∉ [x, y, z] := by
  simp only [List.mem_cons, List.not_mem_nil, or_false, not_or]
  exact ⟨h1, h2, h3⟩
theorem all3 {A : Hp} {x y z : Addr} (h1 : A x = none) (h2 : A y = none) (h3 : A z = none) : ∀ b ∈ [x, y, z], A b = none := by
  intro b hb
  simp only [List.mem_cons, List.not_mem_nil, or_false] at hb
  rcases hb with rfl | rfl | rfl <;> assumption
theorem del_same' {H : Hp} {p : Addr} : Same (del H p) H := fun b o e => by
  by_cases z : b = p
  · rw [z, del_same] at e
    cases e
  · rw [del_ne z] at e
    exact e
/-- a value that came of the bag, told over the heap without the bag -/
theorem del_dp {K : PySem.W.Frag} {H G1 H4 : Hp} {p : Addr} {v : V} {d : PyData} (np0 : H p = none) (bag1 : BagAt G1 p) (k : ∀ b o, b ≠ p → H b = some o → G1 b = some o) (k4 : ∀ b o, b ≠ p → G1 b = some o → H4 b = some o) (hv : Dp K (newp G1 H4) v d) : Dp K (del H4 p) v d ∧ Same H (del H4 p) := by
  refine ⟨dp_same (fun b o e => ?_) _ _ hv, fun b o e => ?_⟩
  · have bp : b ≠ p := fun z => by
      obtain ⟨x, y, e4⟩ := bag1
      rw [z, newp_old e4] at e
      cases e
    rw [del_ne bp]
    exact newp_same _ _ e
  · have bp := ne_of_none e np0
    rw [del_ne bp]
    exact k4 b o bp (k b o bp e)
theorem newp_cut {H H' : Hp} {S : List Addr} (h : ∀ b ∈ S, H b ≠ none) : Same (newp H H') (cut H' S) := fun b o e => by
  rw [cut_at (fun z => ?_)]
  · exact newp_same _ _ e
  · cases hb : H b with
    | none => exact h b z hb
    | some u =>
      rw [newp_old hb] at e
      cases e
theorem cut_one (v0 : V) (vt : List V) : cutV (v0 :: vt) (some 1) none = vt := by
  have e : HT.sIx (v0 :: vt).length 0 (some 1) = 1 := by
    have := HT.sIx_nat (v0 :: vt).length 0 1
    rw [show ((1 : Nat) : Int) = 1 from rfl] at this
    rw [this]
    simp only [List.length_cons]
    omega
  unfold cutV
  rw [e, HT.sIx_none]
  simp only [List.drop_succ_cons, List.drop_zero, List.length_cons, Nat.add_sub_cancel]
  exact List.take_length
theorem val_word {x : Str} (h : x.cps.toList.all (fun c => decide (97 ≤ c ∧ c ≤ 122)) = true) : valD (.str x) := by
  intro c hc
  exact of_decide_eq_true (List.all_eq_true.mp h c hc)
theorem made_facts {H H' : Hp} {C x dx r : Addr} {S : List Addr} (nx : H x = none) (ndx : H dx = none) (k : ∀ b o, b ≠ x → (upd (upd H dx (.own x)) x (.ins C dx [])) b = some o → H' b = some o) (nr : (upd (upd H dx (.own x)) x (.ins C dx [])) r = none) (fr : ∀ b ∈ S, (upd (upd H dx (.own x)) x (.ins C dx [])) b = none) :
    Same H H' ∧ H r = none ∧ x ∉ S ∧ ∀ b ∈ S, H b = none := by
  have s0 : Same H (upd (upd H dx (.own x)) x (.ins C dx [])) := same_fresh nx (same_upd ndx)
  refine ⟨fun b o e => k b o (ne_of_none e nx) (s0 b o e), s0.free nr, fun z => ?_, fun b hb => s0.free (fr b hb)⟩
  have := fr x z
  rw [upd_same] at this
  cases this
end TX
namespace TX
open PySem PySem.Spec PyProof.Rows L2
def spIsValue (K : PySem.W.Frag) : Sp := fun vs H Q _ => ∃ (v : V) (d : PyData) (Hv : Hp), vs = [v] ∧ Same Hv H ∧ Dp K Hv v d ∧ sz d ≤ 10000 ∧ ∀ H', Same H H' → Q (.bl (faultD d).isNone) H'

/-! ### what has no fault is a value -/
theorem ltB_lt {x : Str} (h : ltB x = true) : Lt x := by
  unfold ltB at h
  exact fun c hc => of_decide_eq_true (List.all_eq_true.mp h c hc)
mutual
theorem fault_val : ∀ d : PyData, faultD d = none → valD d
  | .none, _ => trivial
  | .bool b, h => by
    rw [fault_leaf (d := .bool b) (by simp [tyD]) (fun z => nomatch z)] at h
    simp [isT] at h
  | .int i, h => by
    rw [fault_leaf (d := .int i) (by simp [tyD]) (fun z => nomatch z)] at h
    simp [isT] at h
  | .str x, h => by
    rw [fault_leaf (d := .str x) (by simp [tyD]) (fun z => nomatch z)] at h
    by_cases hx : ltB x = true
    · exact ltB_lt hx
    · simp [isT, hx] at h
  | .list es, h => by
    have e : faultD (.list es) = faultAll 0 es := by simp only [faultD]
    rw [e] at h
    exact fault_vals es 0 h
  | .tuple es, h => by
    rw [fault_leaf (d := .tuple es) (by simp [tyD]) (fun z => nomatch z)] at h
    simp [isT] at h
  | .dict es, h => by
    rw [fault_leaf (d := .dict es) (by simp [tyD]) (fun z => nomatch z)] at h
    simp [isT] at h
theorem fault_vals : ∀ (ds : List PyData) (k : Nat), faultAll k ds = none → valAll ds
  | [], _, _ => trivial
  | d :: ds, k, h => by
    simp only [faultAll] at h
    cases e : faultD d with
    | some p => simp [e] at h
    | none =>
      simp [e] at h
      exact ⟨fault_val d e, fault_vals ds (k + 1) h⟩
end
def spOutF (K : PySem.W.Frag) : Sp := fun vs H Q _ => ∃ (v : V) (d : PyData) (Hv : Hp), vs = [v] ∧ Same Hv H ∧ Dp K Hv v d ∧ valD d ∧ nd d ≤ 10000 ∧ ∀ (H' : Hp) (l : Addr) (us : List V), Same H H' → H l = none → H' l = some (.lst us) → (∀ G, DpAll K G us (outD d)) → Q (.ref l) H'
inductive Outs (K : PySem.W.Frag) (H : Hp) : List V → List PyData → Prop
  | nil : Outs K H [] []
  | cons {l : Addr} {us vs : List V} {e : PyData} {es : List PyData} : H l = some (.lst us) → (∀ G, DpAll K G us (outD e)) → Outs K H vs es → Outs K H (.ref l :: vs) (e :: es)
theorem Outs.same {K : PySem.W.Frag} {A B : Hp} (s : Same A B) : ∀ {vs : List V} {es : List PyData}, Outs K A vs es → Outs K B vs es
  | _, _, .nil => .nil
  | _, _, .cons h1 h2 h3 => .cons (s _ _ h1) h2 (h3.same s)
theorem Outs.snoc {K : PySem.W.Frag} {A : Hp} {l : Addr} {us : List V} {e : PyData} (h1 : A l = some (.lst us)) (h2 : ∀ G, DpAll K G us (outD e)) : ∀ {vs : List V} {es : List PyData}, Outs K A vs es → Outs K A (vs ++ [.ref l]) (es ++ [e])
  | _, _, .nil => .cons h1 h2 .nil
  | _, _, .cons a b c => .cons a b (c.snoc h1 h2)
theorem Outs.dp {K : PySem.W.Frag} {A : Hp} : ∀ {vs : List V} {es : List PyData}, Outs K A vs es → DpAll K A vs (es.map fun e => PyData.list (outD e))
  | _, _, .nil => .nil
  | _, _, .cons a b c => .cons (.lst (SqL.of a) (b A)) c.dp
def spCon (K : PySem.W.Frag) (C : Addr) : Sp := fun vs H Q _ => ∃ (p dx r : Addr) (ws : List V) (ds : List PyData) (y : V) (d : PyData) (Hv : Hp), vs = [.ref p, y] ∧ H p = some (.ins C dx (rowsF r)) ∧ H r = some (.lst ws) ∧ Same Hv H ∧ DpAll K Hv ws ds ∧ valAll ds ∧ szAll ds ≤ 5000 ∧ Dp K Hv y d ∧ sz d ≤ 5000 ∧
  ∀ H' b, Same H H' → (b = true ↔ d ∈ ds) → Q (.bl b) H'
section
variable {X : Cx} {CX : CXT} {C f : Addr} {k : Nat} {fd : FuncData} {ps : List Str} {sp : Sp} {E : XK}
/-- y in x, x an own object -/
theorem op_in_own (hm : Meth X.K C "__contains__" f) (F : FnOk X.prog X.w X.K X.mg X.base CX k f fd ps sp) (hr : Room k X.A) (hb : Binds X.K fd ps []) (hx : Passes CX X E) :
    OpR X (compareOp .In) (fun y x H Q => ∃ p dx fs, x = .ref p ∧ H p = some (.ins C dx fs) ∧ sp [.ref p, y] H (fun v H' => ∃ b, v = .bl b ∧ Q (.bl b) H') E) := by
  intro pins s σ H y x v u Q I ry rx h
  obtain ⟨p, dx, fs, rfl, hp, q⟩ := h
  cases rx
  obtain ⟨ox, od, J⟩ := inst_at I hp
  obtain ⟨m, hF⟩ := I.fr
  refine PySem.W.in_K hF I.ok.mod.kin J hm.at_ hm.fn ?_
  refine wpAny_mono (run_below (vs := [.ref p, y]) F ⟨hr, rfl⟩ hb hx I (.cons rfl (.cons ry .nil)) q) (fun z s' h => ?_) fun _ _ e => e
  obtain ⟨w, H', I', rw', b, rfl, q'⟩ := h
  cases rw'
  exact wpAny_pure ⟨.bl b, H', I', rfl, q'⟩
theorem op_notin_own (hm : Meth X.K C "__contains__" f) (F : FnOk X.prog X.w X.K X.mg X.base CX k f fd ps sp) (hr : Room k X.A) (hb : Binds X.K fd ps []) (hx : Passes CX X E) :
    OpR X (compareOp .NotIn) (fun y x H Q => ∃ p dx fs, x = .ref p ∧ H p = some (.ins C dx fs) ∧ sp [.ref p, y] H (fun v H' => ∃ b, v = .bl b ∧ Q (.bl (!b)) H') E) := by
  intro pins s σ H y x v u Q I ry rx h
  obtain ⟨p, dx, fs, rfl, hp, q⟩ := h
  cases rx
  obtain ⟨ox, od, J⟩ := inst_at I hp
  obtain ⟨m, hF⟩ := I.fr
  refine PySem.W.notIn_K hF I.ok.mod.kin J hm.at_ hm.fn ?_
  refine wpAny_mono (run_below (vs := [.ref p, y]) F ⟨hr, rfl⟩ hb hx I (.cons rfl (.cons ry .nil)) q) (fun z s' h => ?_) fun _ _ e => e
  obtain ⟨w, H', I', rw', b, rfl, q'⟩ := h
  cases rw'
  exact wpAny_pure ⟨.bl (!b), H', I', rfl, q'⟩
end
section
variable {P : Program} {w : World} {K : PySem.W.Frag} {mg : Str → Option Value} {base : Heap} {C : Addr}
theorem scIsVal : FnScope ["thing"] ["thing"] (defScope s_is_value) := ⟨rfl, rfl, rfl, by decide +kernel, rfl, by decide +kernel, by decide +kernel⟩
theorem ok_isValue {f fF : Addr} {fd dF : FuncData} (F : Fun K "is_value" "is_value" s_is_value f fd) (GF : FnOk P w K mg base CX0 2 fF dF ["thing"] (spFault K)) (gF : mg "first_fault" = some (.ref fF)) (kF : PySem.W.keepIn K (.ref fF) = true) (bF : Binds K dF ["thing"] []) :
    FnOk P w K mg base CX0 3 f fd ["thing"] (spIsValue K) := by
  refine F.ok scIsVal (fun vs H Q E h => ?_) (fun cdv A outer s H vs Q E hr h => ?_)
  · obtain ⟨v, d, Hv, rfl, _⟩ := h
    rfl
  · obtain ⟨v, d, Hv, rfl, sv, hd, hz, q⟩ := h
    refine ⟨_, pss_one (ps_ret (pe_cmp (pc_isN (pe_call GF hr (by rfl) gF kF bF .nil pass0 (pa_cons (pv 0) pa_nil))))), ?_⟩
    refine ⟨_, rfl, v, d, Hv, rfl, sv, hd, hz, fun e H' sm => ?_, fun p e H' t sm nt ht hp => ?_⟩
    · have := q H' sm
      rw [e] at this
      exact this
    · have := q H' sm
      rw [e] at this
      exact this
theorem ok_outF {f fP : Addr} {fd fdP : FuncData} (F : Fun K "outline_of" "outline_of" s_outline_of f fd) (T : Nm mg) (B : Nb mg) (GP : FnOk P w K mg base CX0 1 fP fdP ["thing"] (spParts K)) (gP : mg "all_parts" = some (.ref fP)) (kP : PySem.W.keepIn K (.ref fP) = true) (bP : Binds K fdP ["thing"] []) :
    FnOk P w K mg base CX0 2 f fd ["value"] (spOutF K) := by
  refine F.ok scOut (fun vs H Q E h => ?_) (fun cdv A outer s H vs Q E hr h => ?_)
  · obtain ⟨v, d, Hv, rfl, _⟩ := h
    rfl
  · obtain ⟨v, d, Hv, rfl, sv, hd, vd, hn, q⟩ := h
    refine ⟨_, pss_one (ps_ret (pe_lc (own := [("part", 1)]) (g := gName 1) (tt := tYes) (te := tIf (tB (tCB (rIsi K) (tCons (tVar 1) (tCons (tC (.ty "list")) tNil)))) (tCB (fun xs H Q => ∃ p ys, xs = [.ref p] ∧ (SqL K H p ys ∨ SqT K H p ys) ∧ Q (.int ys.length) H) (tCons (tVar 1) tNil)) (tVar 1)) rfl scOut.nd
      (pi_list (pe_call GP hr (by rfl) gP kP bP .nil pass0 (pa_cons (pv 0) pa_nil))) (blkOk_by (own := [("part", 1)]) (N := ["value", "part"]) (sc := defScope s_outline_of) (by decide +kernel)) (fun _ _ _ _ _ => pg_name (i := 1) scOut.nd rfl (Or.inl rfl)) (fun _ _ _ _ _ => pts_nil)
      (fun _ _ _ _ _ => pe_ifExp (pt_val (pe_callB call_isi (by rfl) T.isi (by decide +kernel) (pa_cons (pv 1) (pa_cons (pe_bltn (v := .ty "list") (by rfl) T.lst (by decide +kernel) rfl) pa_nil)))) (pe_callB call_len_seq (by rfl) B.len PySem.boot_len (pa_cons (pv 1) pa_nil)) (pv 1)))), ?_⟩
    refine ⟨_, rfl, v, d, Hv, rfl, sv, hd, by omega, fun H1 p rs s1 np hp hP hlen => ?_⟩
    obtain ⟨_, os, e1, l1, g1⟩ := path_out (S0 := ([v], [d])) ⟨vd, trivial⟩ hP
    have eo : outD d = os := by
      have : outAll [d] = os ++ outAll [] := e1
      simpa [outAll] using this
    refine ⟨p, rfl, ⟨_, SqL.of hp⟩, fun D nD => lc_list (K := K) (a := p) (xs := rs.reverse) (fun j H' => ∃ us, H' D = some (.lst us) ∧ us.length = j ∧ Same H1 H' ∧ ∀ G, DpAll K G us (os.take j)) ⟨[], upd_same, rfl, same_upd nD, fun G => .nil⟩ (fun j H' hj ⟨_, _, _, sm, _⟩ => SqL.of (sm _ _ hp)) ?_ ?_⟩
    · rintro j x H' hx ⟨us, h1, h2, sm, h3⟩
      have jl := (List.getElem?_eq_some_iff.mp hx).1
      rw [List.length_reverse] at jl
      obtain ⟨o, ho, hr'⟩ := g1 j x hx
      have tk : os.take (j + 1) = os.take j ++ [o] := by
        rw [List.take_add_one, ho]
        rfl
      have more : ∀ y, (∀ G, Dp K G y o) → ∃ acc, H' D = some (.lst acc) ∧ acc.length < sizeLine ∧ ∃ us, (upd H' D (.lst (acc ++ [y]))) D = some (.lst us) ∧ us.length = j + 1 ∧ Same H1 (upd H' D (.lst (acc ++ [y]))) ∧ ∀ G, DpAll K G us (os.take (j + 1)) := by
        intro y hy
        refine ⟨us, h1, Nat.lt_of_le_of_lt (show us.length ≤ 10000 by omega) (by decide), _, upd_same, by simp [h2], same_fresh nD sm, fun G => ?_⟩
        rw [tk]
        exact DpAll.append (h3 G) (.cons (hy G) .nil)
      rcases hr' with ⟨e, he, ve, hl, rfl⟩ | ⟨a, xs, es, rfl, hS, hD, rfl⟩
      · refine ⟨rfl, ?_⟩
        refine ⟨_, rfl, x, .ty "list", .type (tyD o), .type "list", _, rfl, .ty _, dp_ty (dp_same (sv.trans (s1.trans sm)) _ _ he), kitL o K, _, rfl, ?_⟩
        rw [hl]
        refine iteF ⟨_, rfl, more x fun G => ?_⟩
        rcases val_leaf he ve hl with ⟨rfl, rfl⟩ | ⟨z, rfl, rfl⟩
        · exact .non
        · exact .str z
      · refine ⟨rfl, ?_⟩
        have sq := (sv.trans (s1.trans sm)).seq hS
        have hds := dpAll_same (sv.trans (s1.trans sm)) _ _ hD
        refine ⟨_, rfl, .ref a, .ty "list", .type "list", .type "list", _, rfl, .ty _, dp_ty (d := .list es) (.lst sq hds), kitL (.list es) K, _, rfl, iteT ⟨_, rfl, a, xs, rfl, .inl sq, more _ fun G => ?_⟩⟩
        rw [DpAll.length hD]
        exact .int _
    · rintro H' ⟨us, h1, h2, sm, h3⟩
      exact q H' D us (s1.trans sm) (s1.free nD) h1 fun G => by
        have := h3 G
        rw [List.take_of_length_le (by rw [l1, List.length_reverse]; exact Nat.le_refl _)] at this
        rw [eo]
        exact this
theorem scCon : FnScope ["self", "x", "row"] ["self", "x"] (defScope mEntries_contains) := ⟨rfl, rfl, rfl, by decide +kernel, rfl, by decide +kernel, by decide +kernel⟩
theorem ok_con {f fV fO : Addr} {fd dV dO : FuncData} (F : Fun K "__contains__" "Entries.__contains__" mEntries_contains f fd) (T : En K mg C) (GV : FnOk P w K mg base CX0 3 fV dV ["thing"] (spIsValue K)) (gV : mg "is_value" = some (.ref fV)) (kV : PySem.W.keepIn K (.ref fV) = true) (bV : Binds K dV ["thing"] [])
    (GO : FnOk P w K mg base CX0 2 fO dO ["value"] (spOutF K)) (gO : mg "outline_of" = some (.ref fO)) (kO : PySem.W.keepIn K (.ref fO) = true) (bO : Binds K dO ["value"] []) : FnOk P w K mg base CX0 4 f fd ["self", "x"] (spCon K C) := by
  refine F.ok scCon (fun vs H Q E h => ?_) (fun cdv A outer s H vs Q E hr h => ?_)
  · obtain ⟨p, dx, r, ws, ds, y, d, Hv, rfl, _⟩ := h
    rfl
  · obtain ⟨p, dx, r, ws, ds, y, d, Hv, rfl, hp, hr', sv, hw, hv, hz, hy, hzd, q⟩ := h
    have r2 : Room 2 _ := hr.mono (by decide)
    have hu65 : (A.deeper (envOfC "Entries.__contains__" (defScope mEntries_contains) s.heap.objs.size f cdv)).units + 65 < cLine := by
      have := hr.un
      omega
    refine ⟨_, pss_one (ps_ret (pe_and (pe_call GV hr (by rfl) gV kV bV .nil pass0 (pa_cons (pv 1) pa_nil)) (pe_one (pe_cmpR (op_inD hu65) (pe_call GO r2 (by rfl) gO kO bO .nil pass0 (pa_cons (pv 1) pa_nil))
      (pe_lc (own := [("row", 2)]) (g := gName 2) (tt := tYes) (te := tCall (spOutF K) [] E0 (tCons (tVar 2) tNil)) rfl scCon.nd (pi_list (pe_fld (pv 0) rfl))
        (blkOk_by (own := [("row", 2)]) (N := ["self", "x", "row"]) (sc := defScope mEntries_contains) (by decide +kernel)) (fun _ _ _ _ _ => pg_name (i := 2) scCon.nd rfl (Or.inl rfl)) (fun _ _ _ _ _ => pts_nil)
        (fun _ _ _ _ _ => pe_call GO r2 (by rfl) gO kO bO .nil pass0 (pa_cons (pv 2) pa_nil))) (by rfl))))), ?_⟩
    refine ⟨_, rfl, y, d, Hv, rfl, sv, hy, by omega, fun H1 s1 => ?_⟩
    have ew : ∀ es : List PyData, valAll es → PyData.canLayAll0 (es.map fun e => PyData.list (outD e)) = true ∧ PyData.depthAll (es.map fun e => PyData.list (outD e)) ≤ 1 := by
      intro es
      induction es with
      | nil => exact fun _ => ⟨rfl, by simp [PyData.depthAll]⟩
      | cons e es ih =>
        intro h
        obtain ⟨a1, a2⟩ := out_flat e h.1
        obtain ⟨b1, b2⟩ := ih h.2
        refine ⟨by simp [PyData.canLayAll0, PyData.canLay0, a1, b1], ?_⟩
        simp only [List.map_cons, PyData.depthAll, PyData.depth]
        omega
    obtain ⟨c1, c2⟩ := ew ds hv
    have sds : SeqAt.shaped (.list (ds.map fun e => PyData.list (outD e))) = true := by
      unfold SeqAt.shaped
      rw [Bool.and_eq_true]
      refine ⟨c1, decide_eq_true ?_⟩
      simp only [PyData.depth]
      omega
    have ndsz := ndAll_sz _ hv
    have lds := szAll_len ds
    have lws := DpAll.length hw
    cases ef : faultD d with
    | some p =>
      refine ⟨_, rfl, iteF ?_⟩
      refine q H1 false s1 ⟨(fun z => nomatch z), fun z => ?_⟩
      have : valD d := by
        clear q c1 c2 sds ndsz lds lws hw hz
        induction ds with
        | nil => cases z
        | cons e es ih =>
          rcases List.mem_cons.mp z with e1 | e1
          · rw [e1]
            exact hv.1
          · exact ih hv.2 e1
      rw [val_fault d this] at ef
      cases ef
    | none =>
      have vd := fault_val d ef
      have ndd := nd_sz d vd
      refine ⟨_, rfl, iteT ?_⟩
      refine ⟨_, rfl, y, d, Hv, rfl, sv.trans s1, hy, vd, by omega, fun H2 l us s2 nl hl hus => ?_⟩
      have s12 := s1.trans s2
      refine ⟨_, rfl, p, C, dx, _, _, rfl, s12 _ _ hp, T.cl, T.nR, rows_get r, r, rfl, ⟨_, SqL.of (s12 _ _ hr')⟩, fun D nD => lc_list (K := K) (a := r) (xs := ws) (fun i H' => ∃ ls, H' D = some (.lst ls) ∧ ls.length = i ∧ Same H2 H' ∧ Outs K (del H' D) ls (ds.take i)) ⟨[], upd_same, rfl, same_upd nD, .nil⟩ (fun i H' hi ⟨_, _, _, sm, _⟩ => SqL.of (sm _ _ (s12 _ _ hr'))) ?_ ?_⟩
      · rintro i x H' hx ⟨ls, h1, h2, sm, h3⟩
        obtain ⟨e, he, hde⟩ := DpAll.get hw hx
        have jl := (List.getElem?_eq_some_iff.mp hx).1
        have ve := val_get hv he
        have nde := nd_sz e ve
        have sze := sz_get he
        refine ⟨rfl, _, rfl, x, e, Hv, rfl, (sv.trans s12).trans sm, hde, ve, by omega, fun H3 l3 us3 s3 nl3 hl3 hus3 => ?_⟩
        have lD : l3 ≠ D := fun z => by
          rw [z, h1] at nl3
          cases nl3
        have tk : ds.take (i + 1) = ds.take i ++ [e] := by
          rw [List.take_add_one, he]
          rfl
        refine ⟨ls, s3 _ _ h1, Nat.lt_of_le_of_lt (show ls.length ≤ 10000 by omega) (by decide), ls ++ [.ref l3], upd_same, by simp [h2], same_fresh nD (sm.trans s3), ?_⟩
        rw [tk]
        refine Outs.snoc (us := us3) ?_ hus3 (h3.same fun b o eb => ?_)
        · rw [del_ne lD, upd_ne lD]
          exact hl3
        · have bD : b ≠ D := fun z => by
            rw [z, del_same] at eb
            cases eb
          rw [del_ne bD] at eb ⊢
          rw [upd_ne bD]
          exact s3 _ _ eb
      · rintro H' ⟨ls, h1, h2, sm, h3⟩
        rw [List.take_of_length_le (by omega)] at h3
        refine ⟨.list (outD d), ds.map fun e => .list (outD e), .lst (SqL.of (sm _ _ hl)) (hus H'), .lst (SqL.of h1) (dpAll_same del_same' _ _ h3.dp), out_shaped vd, sds, ?_⟩
        exact q H' _ (s12.trans sm) (out_any hv vd)
end
end TX
namespace TX
open PySem PySem.Spec PyProof.Rows L2 L2H
/-! ### [.. for x in a list] while an error is handled -/
section
variable {pg : Program} {wd : World} {Ar : Around} {Ex : Value → Shared → Prop} {u : Shared}
/-- a list's end, while an error is handled -/
theorem next_end_hot {j q xe : Addr} {n : Nat} {vs : Array Value} {Z : Option Value → Shared → Prop} (hot : HotX.HotAt Ar xe u.heap) (it : u.heap.IsListIter j q n) (ls : u.heap.IsList q vs) (no : vs[n]? = none) (ne : xe ≠ j)
    (z : ∀ g, Heap.ExtBut j u.heap g → Z none { u with heap := g }) : wpAny (model pg wd) Ar (pyNext (.ref j)) Z Ex u := by
  obtain ⟨oi, ei, ci, di⟩ := id it
  obtain ⟨oq, eq, _, nq, dq⟩ := ls
  obtain ⟨hh, oe, fe, ee, de, ce⟩ := hot
  have ti := it.typeIs
  unfold pyNext
  refine wpAny_bind (wpAny_attempt (wpAny_callSpecial?_slot (name := Str.ofString "__next__") ti slot_listiter_next (wpAny_call_entry slot_listiter_next ti entry_listiter_next ?_ (args_listiter_next _))))
  show wpAny _ _ (field (.ref j) 0 >>= _) _ _ u
  refine wpAny_bind (wpAny_field ei di (x := .ref q) rfl ?_)
  show wpAny _ _ (if (Value.ref q == Value.none) = true then _ else _) _ _ u
  rw [if_neg (show ¬ ((Value.ref q == Value.none) = true) from Bool.false_ne_true)]
  show wpAny _ _ (field (.ref j) 1 >>= _) _ _ u
  refine wpAny_bind (wpAny_field ei di (x := .int n 0) rfl ?_)
  show wpAny _ _ (seqItems? (.ref q) >>= _) _ _ u
  refine wpAny_bind (wpAny_seqItems eq dq ?_)
  simp only [Int.toNat_natCast, no]
  refine wpAny_bind (wpAny_rule (wpAny_bind (wpAny_setField ei di (by simp) ?_)))
  show wpAny _ _ (newExc (.type "StopIteration") ([] : List Value) >>= _) _ _ _
  refine wpAny_bind ?_
  simp only [newExc, newTuple]
  refine wpAny_bind (wpAny_newObj_type (wpAny_bind (m := firstArgMember _ _) (wpAny_of_eq (a := Value.none) (by first | rfl | (simp only [firstArgMember]; rfl)) (wpAny_newObj_type ?_ (by size_fits)))) (by size_fits))
  have e1 : (u.heap.update j (Obj.mapFields (·.setIfInBounds 0 Value.none))).get? xe = some oe := by rw [Heap.get?_update_other _ _ (Ne.symm ne)]; exact ee
  refine HotX.raiseNew_hot ⟨hh, oe, fe, Heap.get?_push_of_some _ (Heap.get?_push_of_some _ e1), de, ce⟩ (Nat.ne_of_lt (Heap.lt_size (Heap.get?_push_of_some _ e1))) (Heap.get?_push_size _ rfl) rfl (by first | (simp; done) | (simp; omega) | (simp only [Array.size_append]; simp; omega)) ?_
  refine wpAny_bind (wpAny_isInstance (T := "StopIteration") (b := true) ⟨_, Heap.get?_update_self _ (Heap.get?_push_size _ rfl) (by rfl), rfl⟩ isSubtype_stop ?_)
  refine wpAny_pure (z _ fun b o nb e => ?_)
  have e2 : (u.heap.update j (Obj.mapFields (·.setIfInBounds 0 Value.none))).get? b = some o := by rw [Heap.get?_update_other _ _ (Ne.symm nb)]; exact e
  rw [Heap.get?_update_other _ _ (Nat.ne_of_gt (Heap.lt_size (Heap.get?_push_of_some _ e2)))]
  exact Heap.get?_push_of_some _ (Heap.get?_push_of_some _ e2)
end
section
variable {X : Cx} {pins : List (Addr × Obj)} {σ σ' : L2.St} {H H' : Hp} {s s' : Shared}
/-- what is handled stands, within a comprehension's block -/
theorem hot_blk {scope : Scope} {ce : Env} {fp : List Addr} (hot : HotC X) (I : Inv X pins σ H s) (ff : ∀ b ∈ fp, FpOk X pins H b) (J : Inv (X.blk s H scope ce fp) [] σ' H' s') : ∃ xe, HotX.HotAt X.A xe s'.heap ∧ xe ∉ fp := by
  obtain ⟨⟨xe, oe⟩, ⟨ah, vs, dv, cv⟩, hm⟩ := hot
  obtain ⟨g1, g2, g3, g4, _⟩ := I.pin (xe, oe) (List.mem_append_left _ hm)
  have nf : xe ∉ fp := fun z => (ff xe z).2.2.2.2.2 (xe, oe) (List.mem_append_left _ hm) rfl
  refine ⟨xe, ⟨ah, oe, vs, J.base.keep xe oe g1 g2 (fun z => ?_) nf, dv, cv⟩, nf⟩
  rcases List.mem_cons.mp (I.stkSub xe z) with z | z
  · exact g3 z
  · exact g4 z
/-- [elt for tg in l if ..] of a list, while an error is handled -/
theorem pe_lcH {elt tg src : Expr} {ifs : List Expr} {scope : Scope} {own : List (Str × Nat)} {pos : Pos} {tl : TE} {g : TG} {tt : TT} {te : TE} (hot : HotC X) (nd : X.N.Nodup) (hl : PE X src tl) (bo : BlkOk X.N X.env.scope scope own)
    (pgs : ∀ (s : Shared) (H : Hp) (C : Addr) (cl : List (Str × Addr)) (fp : List Addr), PG (X.blk s H scope (compEnvC scope cl C X.env) fp) tg g)
    (pts : ∀ (s : Shared) (H : Hp) (C : Addr) (cl : List (Str × Addr)) (fp : List Addr), PTs (X.blk s H scope (compEnvC scope cl C X.env) fp) ifs tt)
    (pes : ∀ (s : Shared) (H : Hp) (C : Addr) (cl : List (Str × Addr)) (fp : List Addr), PE (X.blk s H scope (compEnvC scope cl C X.env) fp) elt te) (fs : ∀ x, foldedSetIterable src X.env x = pure x := by intro _; rfl) :
    PE X (.ListComp elt [⟨tg, src, ifs, 0⟩] scope pos) (tLc (iList X.K tl) g tt te (own.map (·.2))) := by
  refine ⟨fun pins s σ H Q I0 h => ?_⟩
  rw [eval_ListComp]
  have free : ∀ y ∈ scope.names, y.2 = .free → ∃ c, X.env.cells.lookup y.1 = some c := fun y hy e => (bo.free y hy e).elim (fun k => I0.ok.has _ (.inl k)) fun k => I0.ok.has _ (.inr k)
  refine wpAny_comprehension_free (use := none) rfl fs (closure_ok free) bo.kind (fun y hy e => by rw [bo.uniq y hy, e]) (thn (hl.run pins s σ H _ I0 h) fun v t1 ⟨x, G1, I1, r1, a, ex, ⟨xs, hq⟩, q⟩ => ?_)
  subst ex
  cases r1
  obtain ⟨is1, rv1, pl1, hz1⟩ := I1.list hq
  refine wpAny_pyIter_list pl1.isList ?_
  -- the iterator, and the new list
  generalize hit : t1.heap.objs.size = it
  have T : Turn X.prog X.w X.K tg (Itl X.K a) [it] it (fun i h => h.IsListIter it a i) := turn_list a it
  generalize ht2 : ({ t1 with heap := t1.heap.push { cls := .type "list_iterator", data := .fields #[.ref a, .int 0 0] } } : Shared) = t2
  have sz1 : it < t2.heap.objs.size := by rw [← ht2, ← hit, Heap.size_push]; exact Nat.lt_succ_self _
  have I2 : Inv X pins σ G1 t2 := by rw [← ht2]; exact I1.kept (t' := t1.toks) fun b o e => Heap.get?_push_of_some _ e
  have fit : FpOk X pins G1 it := I1.fpOk (Nat.le_of_eq hit) (I1.hok.fresh (Nat.le_of_eq hit))
  have li2 : t2.heap.IsListIter it a 0 := by rw [← ht2, ← hit]; exact ⟨_, Heap.get?_push_size _ rfl, rfl, rfl⟩
  refine wpAny_newObj_type (newEnv_comp ?_) (Nat.zero_le _)
  generalize hnl : t2.heap.objs.size = nl
  have free1 : G1 nl = none := I2.hok.fresh (Nat.le_of_eq hnl)
  obtain ⟨W, ⟨m0, w0⟩, turns⟩ := q nl free1
  generalize ht3 : ({ t2 with heap := t2.heap.push { cls := .type "list", data := .seq ([] : List Value).toArray } } : Shared) = t3
  have I3 : Inv X pins σ (upd G1 nl (.lst [])) t3 := by
    rw [← ht3]
    exact I2.laid (t' := t2.toks) (fun b o e => Heap.get?_push_of_some _ e) (Nat.le_of_eq hnl) ⟨Nat.zero_le _, [], 0, .nil, by rw [← hnl]; exact Heap.get?_push_size _ rfl⟩
  have hp3 : t3.heap = t2.heap.push { cls := .type "list", data := .seq ([] : List Value).toArray } := by rw [← ht3]
  have itn : it ≠ nl := by rw [← hnl]; exact Nat.ne_of_lt sz1
  have f3 : ∀ b ∈ [it], FpOk X pins (upd G1 nl (.lst [])) b ∧ b < t3.heap.objs.size := fun b hb => by
    rw [List.mem_singleton.mp hb]
    exact ⟨⟨by rw [upd_ne itn]; exact fit.1, fit.2⟩, by rw [hp3, Heap.size_push]; exact Nat.lt_succ_of_lt sz1⟩
  have li3 : t3.heap.IsListIter it a 0 := T.keep _ _ _ li2 fun b _ o e => by rw [hp3]; exact Heap.get?_push_of_some _ e
  have I4 := block_start I3 bo nd f3
  have hotb : ∀ {ce : Env} {σ' : L2.St} {H' : Hp} {s' : Shared}, Inv (X.blk t3 (upd G1 nl (.lst [])) scope ce [it]) [] σ' H' s' → ∃ xe, HotX.HotAt X.A xe s'.heap ∧ xe ∉ [it] := fun J => hot_blk hot I3 (fun b hb => (f3 b hb).1) J
  have pg := pgs t3 (upd G1 nl (.lst [])) t3.heap.objs.size (cellsFrom (t3.heap.objs.size + 1) scope.names (cloFrom X.env.cells scope.names [])) [it]
  have pt := pts t3 (upd G1 nl (.lst [])) t3.heap.objs.size (cellsFrom (t3.heap.objs.size + 1) scope.names (cloFrom X.env.cells scope.names [])) [it]
  have pe := pes t3 (upd G1 nl (.lst [])) t3.heap.objs.size (cellsFrom (t3.heap.objs.size + 1) scope.names (cloFrom X.env.cells scope.names [])) [it]
  show codeAny _ _ (.compStart (.ListComp elt [⟨tg, src, ifs, 0⟩] scope pos) 0 (.ref it) (.ref nl) (compEnvC scope (cellsFrom (t3.heap.objs.size + 1) scope.names (cloFrom X.env.cells scope.names [])) t3.heap.objs.size X.env)) (compPost (model X.prog X.w) X.A X.xe none _ (.ref nl) t3.heap.objs.size) { t3 with heap := pushCells (t3.heap.push { cls := .type "dict", data := .dict #[] }) scope.names }
  generalize hce : compEnvC scope (cellsFrom (t3.heap.objs.size + 1) scope.names (cloFrom X.env.cells scope.names [])) t3.heap.objs.size X.env = ce at I4 pg pt pe ⊢
  have cL : ce.locals = t3.heap.objs.size := by rw [← hce]; rfl
  generalize hG3 : upd G1 nl (.lst []) = G3 at I3 I4 pg pt pe w0 f3 hotb
  have nit : G3 it = none := (f3 it (by simp)).1.1
  generalize ht4 : ({ t3 with heap := pushCells (t3.heap.push { cls := .type "dict", data := .dict #[] }) scope.names } : Shared) = t4 at I4 ⊢
  have li4 : t4.heap.IsListIter it a 0 := T.keep _ _ _ li3 fun b _ o e => by rw [← ht4]; exact pushCells_keeps _ _ _ _ (Heap.get?_push_of_some _ e)
  have okit : ∀ {σ' : L2.St} {H' : Hp} {s' : Shared}, Inv (X.blk t3 G3 scope ce [it]) [] σ' H' s' → H' it = none → FpOk (X.blk t3 G3 scope ce [it]) [] H' it := fun {σ' H' s'} J no => ⟨no, (J.ok.exf it (by simp)).1, J.ok.exfs it (by simp), .inl (by simp), fun x c e => (J.ok.exf it (by simp)).2 x c e, fun p hp => absurd (show p ∈ ([] : List (Addr × Obj)) ++ [] from hp) (by simp)⟩
  refine (fun loop => codeAny_compStart_list loop (T.self X.A 0 _ _ _ li4 loop)) ?_
  refine compLoop_any (fun n s' => ∃ i H', Inv (X.blk t3 G3 scope ce [it]) [] (wipe σ (own.map (·.2))) H' s' ∧ s'.heap.IsListIter it a i ∧ H' it = none ∧ W i n H') ?_ m0 ⟨0, G3, I4, li4, nit, w0⟩
  rintro n s5 ⟨i, H5, I5, li5, n5, w5⟩
  obtain ⟨f0, f1, f2, f6, f7, f8⟩ := okit I5 n5
  rcases turns i n H5 w5 with ⟨⟨ys, hy, ly⟩, qq⟩ | ⟨⟨ys, x, hy, hx⟩, Nx, hNx, step⟩
  · obtain ⟨is5, rv5, pl5, hz5⟩ := I5.list hy
    obtain ⟨xe, ha, nx⟩ := hotb I5
    have l5 := rv5.length
    refine next_end_hot ha li5 pl5.isList (by simp; omega) (fun z => nx (by simp [z])) fun gh eb => ?_
    have I6 : Inv (X.blk t3 G3 scope ce [it]) [] (wipe σ (own.map (·.2))) H5 { s5 with heap := gh } := I5.turned (t' := s5.toks) (fun b o hb e => eb b o hb e) f0 f1 f6 f7 f8
    have I7 : Inv X pins σ H5 { s5 with heap := gh } := I3.call' (ch := [it]) I6.os I6.base I6.hok I6.bare fun b hb => ⟨(f3 b hb).1.2.2.2.1, (f3 b hb).1.2.1, (f3 b hb).1.2.2.2.2.1, (f3 b hb).1.2.2.2.2.2⟩
    have nC : H5 t3.heap.objs.size = none := by
      have zc : H5 ce.locals = none := I6.free
      rwa [cL] at zc
    obtain ⟨m, hm, _⟩ := I6.loc
    have hm : gh.Ns ce.locals m := hm
    rw [cL] at hm
    obtain ⟨g0, g1, g2, g3, g4, g5⟩ := I3.fpOk (H' := H5) (Nat.le_refl _) nC
    exact ⟨m, hm, fun gg sb => ⟨.ref nl, H5, I7.turned (t' := s5.toks) (fun b o hb e => (sb.2 b hb).trans e) g0 g1 g3 g4 g5, rfl, qq⟩⟩
  · obtain ⟨is5, rv5, pl5, hz5⟩ := I5.list hy
    obtain ⟨vx, hvx, rvx⟩ := rv5.get hx
    refine wpAny_pyNext_list_item li5 pl5.isList (x := vx) (by simpa using hvx) fun gh li6 sb => ?_
    have I6 : Inv (X.blk t3 G3 scope ce [it]) [] (wipe σ (own.map (·.2))) H5 { s5 with heap := gh } := I5.turned (t' := s5.toks) (fun b o hb e => (sb.2 b hb).trans e) f0 f1 f6 f7 f8
    obtain ⟨oi, ei, ci, di⟩ := id li6
    refine go_of (s := { s5 with heap := gh }) ei ci di (by decide) ?_
    have ob6 : ∀ b ∈ [it], ∃ o, ({ s5 with heap := gh } : Shared).heap.get? b = some o ∧ ∀ v, o.data ≠ .cell v := T.obj _ _ li6
    have fo6 : ∀ b ∈ [it], FpOk (X.blk t3 G3 scope ce [it]) [] H5 b := fun b hb => by
      rw [List.mem_singleton.mp hb]
      exact okit I6 n5
    have I6p := I6.pinned fo6 ob6
    refine thnF (pg.run _ _ _ H5 x vx _ I6p rvx (step x H5 ⟨rfl, fun zs hz => by rw [I5.list_inj hz hy]; exact hx⟩)) fun _ s8 ⟨σ8, H8, I8, hw8, q8⟩ => ?_
    refine thnF (pt.run _ s8 σ8 H8 _ I8 q8) fun bt s9 ⟨H9, I9, q9⟩ => ?_
    have fin : ∀ {s' : Shared} {H' : Hp}, Inv (X.blk t3 G3 scope ce [it]) ([] ++ pinsAt [it] gh) σ8 H' s' → Nx H' → ∃ m, m < n ∧ ∃ i H', Inv (X.blk t3 G3 scope ce [it]) [] (wipe σ (own.map (·.2))) H' s' ∧ s'.heap.IsListIter it a i ∧ H' it = none ∧ W i m H' := fun {s' H'} J nx => by
      obtain ⟨m', hm, wn⟩ := hNx H' nx
      have pin := J.pin (it, oi) (List.mem_append_right _ (List.mem_append_right _ (mem_pinsAt (List.mem_singleton.mpr rfl) ei)))
      have hlen : (wipe σ (own.map (·.2))).length = σ8.length := by rw [← hw8, wipe_length]
      refine ⟨m', hm, i + 1, H', (J.unpinned (pins := [])).weak hlen (fun j v e => ?_), T.keep _ _ _ li6 fun b hb o e => ?_, pin.2.1, wn⟩
      · rw [← hw8] at e
        exact (wipe_some e).1
      · cases List.mem_singleton.mp hb
        rw [ei] at e
        rw [← Option.some.inj e]
        exact pin.1
    cases bt with
    | false => exact fin I9 (by simpa using q9)
    | true =>
      simp only [if_true] at q9 ⊢
      refine thnF (pe.run _ s9 σ8 H9 _ I9 q9) fun zv s10 ⟨yv, H10, I10, r10, acc, hD10, hz10, nx⟩ => ?_
      exact app_ok (X := X.blk t3 G3 scope ce [it]) I10 hD10 hz10 r10 fun s11 I11 => fin I11 nx
end
end TX
namespace TX
open PySem PySem.Spec PyProof.Rows L2 L2H
/-! ### errors of own classes that were raised where nothing is handled -/
theorem fun_okN {CXT0 : CXT} {P : Program} {w : World} {K : PySem.W.Frag} {mg : Str → Option Value} {base : Heap} {x qual : Str} {st : Stmt} {f : Addr} {fd : FuncData} {N ps : List Str} {k : Nat} {sp : Sp} (F : Fun K x qual st f fd) (S : FnScope N ps (defScope st)) (len : ∀ vs H Q E, sp vs H Q E → vs.length = ps.length)
    (hb : ∀ (cdv : Value) (A : Around) (outer : List Env) (s : Shared) (H : Hp) (vs : List V) (Q : VK) (E : XK), Room k (A.deeper (envOfC qual (defScope st) s.heap.objs.size f cdv)) → sp vs H Q E → ∃ t, PSs (cxOf CXT0 P w K mg base N qual (defScope st) f cdv A outer s H E) (defBody st) t ∧ t { nx := fun _ H' => Q .non H', rt := Q } (start N vs) H) : FnOk P w K mg base CXT0 (k + 1) f fd ps sp := by
  obtain ⟨oc, od, kV, doc, pm, an, cdv, ct, osl, e0, lk, hcd⟩ := F.ex
  subst e0
  exact fn_of lk hcd S len (hb cdv)
theorem hot_suite {X : Cx} {a : Addr} {oe : Obj} {cls : Value} {d : Option Addr} {pn : List (Addr × Obj)} (hz : L2N.Zn cls d oe) (hf : ∃ vs, oe.data = .fields vs) : HotC (X.suite a ((a, oe) :: pn)) := by
  obtain ⟨vs, e⟩ := hf
  exact ⟨(a, oe), ⟨rfl, vs, e, hz.2.2 vs e⟩, List.mem_cons_self⟩
section
variable {X : Cx} {e : Expr} {es : List Expr} {p pos : Pos} {ta : TA}
/-- C(e, ..) of an own class with its own __init__ -/
theorem pmk_oexZ {CT : CXT} {x : Str} {C fI : Addr} {k : Nat} {fd : FuncData} {ps : List Str} {sp : Sp} {ds : List Value} {dvs : List V} (T : OexC X.K C) (iC : PySem.W.findIn X.K (.ref C) "__init__" = some (some (.ref fI))) (tI : PySem.W.typeIn X.K (.ref fI) = some (.type "function"))
    (F1 : FnOk X.prog X.w X.K X.mg X.base CT k fI fd ps sp) (hr : Room (k + 1) X.A) (hb : Binds X.K fd ps ds) (hd : Vals dvs ds) (hx : Passes CT X (fun _ _ _ => False)) (hg : Gl X x) (hm : X.mg x = some (.ref C)) (ha : PA X (e :: es) ta)
    (hdb : (x == ("__debug__" : Str)) = false := by decide) (he : starEach (e :: es) X.env = (false, eval e X.env) :: starEach es X.env := by rfl) (hpl : (backTo pos (starEach es X.env)).any (·.1) = false := by rfl) : L2N.PMk X (.Call (.Name x p) (e :: es) [] pos) (tMkO C sp dvs ta) := by
  intro pins s σ H Q I h
  obtain ⟨nm, qn, N, bs, bm, sn, sub, ab, col, dd, k0, k1, k2, k3, k5, hC, hbm⟩ := T.cls
  refine wpAny_Call_Name_kw (ld_glob I hg hm (PySem.W.callWith_K (h₀ := X.base) I.ok.mod.kin T.kC (thn (ha.run pos pins s σ H _ I h) fun us s1 ⟨vs, H1, I1, r1, hz, q1⟩ => ⟨I1.kIn, ?_⟩) he hpl) hdb)
  show wpAny _ _ (call (Value.ref C) us) _ _ (_ : Shared)
  obtain ⟨hp, gn, dr, tk, os⟩ := s1
  have lez : hp.objs.size ≤ hp.objs.size + 1 := by omega
  have fresh : H1 (hp.objs.size + 1) = none := I1.hok.fresh lez
  have qI := q1 (hp.objs.size + 1) fresh
  generalize hhp2 : (hp.push (PySem.W.kdv_tup us)).push (PySem.HandSPX.excO C hp.objs.size) = hp2
  have keep2 : ∀ b o, hp.get? b = some o → hp2.get? b = some o := fun b o z => by rw [← hhp2]; exact Heap.get?_push_of_some _ (Heap.get?_push_of_some _ z)
  have at2 : hp2.get? (hp.objs.size + 1) = some (PySem.HandSPX.excO C hp.objs.size) := by rw [← hhp2]; heap_get
  have I2 : Inv X pins σ (upd H1 (hp.objs.size + 1) (exo (hp.objs.size + 1) C none)) ⟨hp2, gn, dr, tk, os⟩ := I1.laid (t' := tk) (a := hp.objs.size + 1) (o := exo (hp.objs.size + 1) C none) (h' := hp2) keep2 lez (exo_ok at2)
  have rv2 : Vals (V.ref (hp.objs.size + 1) :: (vs ++ dvs)) (Value.ref (hp.objs.size + 1) :: (us ++ ds)) := .cons rfl (r1.append hd)
  have lens : (Value.ref (hp.objs.size + 1) :: us ++ ds).length = ps.length := by
    have := rv2.length
    rw [F1.len _ _ _ _ qI] at this
    exact this.symm
  have few : us.length ≤ sizeLine := by
    rw [sizeLine_eq, ← Paired.length r1]
    omega
  subst hhp2
  refine wpAny_call (PySem.HandSPX.call_own F.excBase_ValueError (fun Y => PySem.HandSPX.refsVE_contains Y bm hbm) (I1.kIn _ _ hC) (PySem.W.looks_findIn I1.kIn iC) (fun self => PySem.W.bind_fn I1.kIn self tI) few (codeAny_mono (F1.run _ X.stack _ _ ⟨Value.ref (hp.objs.size + 1) :: us, []⟩ (Value.ref (hp.objs.size + 1) :: (us ++ ds)) _ _ (fun _ _ _ => False) (hr.make C us []) (I2.env0.make C us []) (hb _ (Value.ref (hp.objs.size + 1) :: us) I2.kIn lens) rv2 qI) fun r s' hq' => ?_))
  cases r with
  | error z => exact hx pins σ _ _ z s' I2 hq'
  | ok fl =>
    cases fl with
    | ret u =>
      obtain ⟨v, H2, os2, bare2, un2, hok2, rv, rfl, d, fs, ea, ed, hd1, q2⟩ := hq'
      obtain ⟨h2, g2, d2, t2, ot⟩ := s'
      obtain ⟨t0, G, J, kG, ge, hoe, na⟩ := mk_end0 (d2 := d2) (t2 := t2) I1 lez keep2 un2 hok2 os2 bare2 ea ed hd1
      exact ⟨rv, _, _, _, ⟨G, g2, d2, t2, ot⟩, _, .ref C, some d, rfl, J, kG, ge, hoe, ⟨rfl, rfl, fun ws e => by cases e; rfl⟩, rfl, rfl, na, rfl, bare2, raises_own T.exC T.tyC, q2⟩
    | _ => exact False.elim hq'
end
end TX
namespace TX
open PySem PySem.Spec PyProof.Rows L2
/-! ### data whose lists all stand in the heap, to be changed -/
def onlyL (H : Hp) : Hp := fun b => match H b with
  | some (.lst xs) => some (.lst xs)
  | _ => none
theorem onlyL_at {H : Hp} {a : Addr} {xs : List V} (h : H a = some (.lst xs)) : onlyL H a = some (.lst xs) := by
  unfold onlyL
  rw [h]
theorem onlyL_of {H : Hp} {a : Addr} {o : HO} (h : onlyL H a = some o) : ∃ xs, o = .lst xs ∧ H a = some (.lst xs) := by
  unfold onlyL at h
  split at h
  · cases h
    rename_i e
    exact ⟨_, rfl, e⟩
  · cases h
theorem onlyL_same {A B : Hp} (s : Same A B) : Same (onlyL A) (onlyL B) := fun b o e => by
  obtain ⟨xs, rfl, e2⟩ := onlyL_of e
  exact onlyL_at (s _ _ e2)
theorem onlyL_sub {H : Hp} : Same (onlyL H) H := fun b o e => by
  obtain ⟨xs, rfl, e2⟩ := onlyL_of e
  exact e2
abbrev Dl (H : Hp) (v : V) (d : PyData) : Prop := Dp [] (onlyL H) v d
abbrev DlAll (H : Hp) (vs : List V) (ds : List PyData) : Prop := DpAll [] (onlyL H) vs ds
theorem dl_same {A B : Hp} (s : Same A B) : ∀ {d : PyData} {v : V}, Dl A v d → Dl B v d := fun h => dp_same (onlyL_same s) _ _ h
theorem dlAll_same {A B : Hp} (s : Same A B) : ∀ {ds : List PyData} {vs : List V}, DlAll A vs ds → DlAll B vs ds := fun h => dpAll_same (onlyL_same s) _ _ h
theorem SqL.l {H : Hp} {a : Addr} {xs : List V} (h : H a = some (.lst xs)) : SqL [] (onlyL H) a xs := SqL.of (onlyL_at h)
theorem sql_l {H : Hp} {a : Addr} {xs : List V} (h : SqL [] (onlyL H) a xs) : H a = some (.lst xs) := by
  rcases h with (h | ⟨ob, h⟩) | ⟨o, its, n, hk, _⟩
  · obtain ⟨ys, e1, e2⟩ := onlyL_of h
    cases e1
    exact e2
  · obtain ⟨ys, e1, e2⟩ := onlyL_of h
    cases e1
  · cases hk
theorem sqt_l {H : Hp} {a : Addr} {xs : List V} (h : SqT [] (onlyL H) a xs) : False := by
  rcases h with (h | ⟨ob, h⟩) | ⟨o, its, n, hk, _⟩
  · obtain ⟨ys, e1, e2⟩ := onlyL_of h
    cases e1
  · obtain ⟨ys, e1, e2⟩ := onlyL_of h
    cases e1
  · cases hk
mutual
theorem dl_dp {K : PySem.W.Frag} {H : Hp} : ∀ {d : PyData} {v : V}, Dl H v d → Dp K H v d
  | .none, _, h => by cases h; exact .non
  | .bool b, _, h => by cases h; exact .bl b
  | .int i, _, h => by cases h; exact .int i
  | .str x, _, h => by cases h; exact .str x
  | .list es, _, h => by
    cases h with
    | lst h1 h2 => exact .lst (SqL.of (sql_l h1)) (dlAll_dp h2)
  | .tuple es, _, h => by
    cases h with
    | tup h1 h2 => exact (sqt_l h1).elim
  | .dict _, _, h => nomatch h
theorem dlAll_dp {K : PySem.W.Frag} {H : Hp} : ∀ {ds : List PyData} {vs : List V}, DlAll H vs ds → DpAll K H vs ds
  | [], _, h => by cases h; exact .nil
  | d :: ds, _, h => by
    cases h with
    | cons h1 h2 => exact .cons (dl_dp h1) (dlAll_dp h2)
end
def spValueL (N : Nat) : Sp := fun vs H Q _ => ∃ (p : Addr) (deep room : Nat), vs = [.ref p, .int deep, .int room] ∧ BagAt H p ∧ deep ≤ N ∧ 1 ≤ room ∧ room ≤ 1000 ∧
  ∀ (H' : Hp) (v : V) (d : PyData), (∀ b o, b ≠ p → H b = some o → H' b = some o) → BagAt H' p → Dl (newp H H') v d → valD d → d.depth ≤ deep → sz d ≤ room → Q v H'
/-- a list of data at m, the bag at p: one more made behind -/
theorem growL {H H2 H3 : Hp} {p m : Addr} {ws : List V} {ds : List PyData} {v : V} {d : PyData} (pH : H p ≠ none) (nmH : H m = none) (k2 : ∀ b o, b ≠ p → H b = some o → H2 b = some o) (b2 : BagAt H2 p) (hm2 : H2 m = some (.lst ws))
    (hws : DlAll (newB H m H2) ws ds) (k3 : ∀ b o, b ≠ p → H2 b = some o → H3 b = some o) (b3 : BagAt H3 p) (hv : Dl (newp H2 H3) v d) :
    (∀ b o, b ≠ p → H b = some o → (upd H3 m (.lst (ws ++ [v]))) b = some o) ∧ BagAt (upd H3 m (.lst (ws ++ [v]))) p ∧ H3 m = some (.lst ws) ∧ DlAll (newB H m (upd H3 m (.lst (ws ++ [v])))) (ws ++ [v]) (ds ++ [d]) := by
  have mp : m ≠ p := fun e => pH (e ▸ nmH)
  have all2 := there k2 b2
  have old : Same (newB H m H2) (newB H m (upd H3 m (.lst (ws ++ [v])))) := fun b o e => by
    by_cases bm : b = m
    · unfold newB at e
      rw [if_pos bm] at e
      cases e
    · cases hh : H b with
      | some u =>
        unfold newB at e
        rw [if_neg bm, hh] at e
        cases e
      | none =>
        have bp : b ≠ p := fun z => pH (z ▸ hh)
        rw [newB_at hh bm] at e ⊢
        rw [upd_ne bm]
        exact k3 b o bp e
  have new : Same (newp H2 H3) (newB H m (upd H3 m (.lst (ws ++ [v])))) := fun b o e => by
    cases h2 : H2 b with
    | some u =>
      rw [newp_old h2] at e
      cases e
    | none =>
      rw [newp_at h2] at e
      have hh : H b = none := Classical.byContradiction fun z => all2 b z h2
      have bm : b ≠ m := fun z => by
        rw [z, hm2] at h2
        cases h2
      rw [newB_at hh bm, upd_ne bm]
      exact e
  refine ⟨fun b o hb e => ?_, ?_, k3 m _ mp hm2, DpAll.append (dlAll_same old hws) (.cons (dl_same new hv) .nil)⟩
  · rw [upd_ne (ne_of_none e nmH)]
    exact k3 b o hb (k2 b o hb e)
  · obtain ⟨x, y, e⟩ := b3
    exact ⟨x, y, by rw [upd_ne mp.symm]; exact e⟩
section
variable {P : Program} {w : World} {K : PySem.W.Frag} {mg : Str → Option Value} {base : Heap}
theorem ok_valueL {f fT fX fS : Addr} {fd dT dX dS : FuncData} (F : Fun K "_law_value" "_law_value" sValue f fd) (b : Binds K fd ["_law_bag_here", "_law_deep", "_law_room"] []) (g : mg "_law_value" = some (.ref f)) (Y : Nv mg) (C : Vc P w K mg base fT fX fS dT dX dS) (N : Nat)
    (G : ∀ j : { M : Nat // M + 1 = N }, FnOk P w K mg base CX0 (j.1 + 3) f fd ["_law_bag_here", "_law_deep", "_law_room"] (spValueL j.1)) : FnOk P w K mg base CX0 (N + 3) f fd ["_law_bag_here", "_law_deep", "_law_room"] (spValueL N) := by
  refine F.ok scValue (fun vs H Q E h => ?_) (fun cdv A outer s H vs Q E hr h => ?_)
  · obtain ⟨p, deep, room, rfl, _⟩ := h
    rfl
  · obtain ⟨p, deep, room, rfl, bag, hdN, hr1, hr2, q⟩ := h
    have hrT : Room 1 _ := hr.mono (by omega)
    have hrX : Room 2 _ := hr.mono (by omega)
    have hrS : Room (N + 1) _ := hr.mono (by omega)
    have hrR : ∀ j : { M : Nat // M + 1 = N }, Room (j.1 + 3) _ := fun j => hr.mono (by have := j.2; omega)
    refine ⟨_, pss_cons (ps_set (i := 3) scValue.nd rfl (.inl rfl) (pe_call C.GT hrT (by rfl) C.gT C.kT C.bT .nil pass0 (pa_cons (pv 0) (pa_cons pe_int pa_nil))))
      (pss_cons (ps_if (PW.pt (pw_or (pt_cmpR op_eq (pv 3) pe_int (nomark _)) (pw_or1 (pt_cmpR op_eq (pv 2) pe_int (nomark _)))))
        (pss_one (ps_ret (pe_ix ix_list (pe_lst (pa_cons pe_non (pa_cons pe_str (pa_cons (pe_lst pa_nil) pa_nil)))) (pe_call C.GT hrT (by rfl) C.gT C.kT C.bT .nil pass0 (pa_cons (pv 0) (pa_cons (pe_ifExp (pt_cmpR op_gt (pv 1) pe_int (nomark _)) pe_int pe_int) pa_nil))) (fun _ _ => rfl)))) pss_nil)
      (pss_cons (ps_if (PW.pt (pw_or (pt_cmpR op_eq (pv 3) pe_int (nomark _)) (pw_or1 (pt_cmpR op_eq (pv 1) pe_int (nomark _)))))
        (pss_one (ps_ret (pe_call C.GX hrX (by rfl) C.gX C.kX C.bX .nil pass0 (pa_cons (pv 0) (pa_cons (pe_callB (call_min2 rfl) (by rfl) Y.min (by decide +kernel) (pa_cons pe_int (pa_cons (pe_op op_sub (pv 2) pe_int) pa_nil))) pa_nil))))) pss_nil)
      (pss_cons (ps_par (i := 4) (j := 5) rfl scValue.nd rfl rfl (by decide) rfl rfl (pa_cons (pe_lst pa_nil) (pa_cons (pe_op op_sub (pv 2) pe_int) pa_nil)) (by rfl))
      (pss_cons (ps_for PassesOwn.never rfl (pi_range1 (by rfl) Y.range (pa_cons (pe_call C.GT hrT (by rfl) C.gT C.kT C.bT .nil pass0 (pa_cons (pv 0) (pa_cons pe_int pa_nil))) pa_nil)) (pg_name (i := 6) scValue.nd rfl (.inl rfl))
        (pss_one (ps_if (pt_cmpR op_gt (pv 5) pe_int (nomark _))
          (pss_cons (ps_expr (pe_bm PySem.F.plainAttrs_list PySem.F.slot_list_append PySem.F.type_list_append mt_append (pv 4) (pa_cons (pe_ex fun j => pe_call (G j) (hrR j) (by rfl) g F.kp b .nil pass0 (pa_cons (pv 0) (pa_cons (pe_op op_sub (pv 1) pe_int) (pa_cons (pv 5) pa_nil)))) pa_nil)))
          (pss_one (ps_set (i := 5) scValue.nd rfl (.inl rfl) (pe_op op_sub (pv 5) (pe_call (C.GS N) hrS (by rfl) C.gS C.kS C.bS .nil pass0 (pa_cons (pe_ix ix_list (pv 4) (pe_un un_neg pe_int) (fun _ _ => rfl)) pa_nil)))))) pss_nil)))
      (pss_one (ps_ret (pv 4))))))), ?_⟩
    refine ⟨_, rfl, p, 5, rfl, bag, by decide, by decide, fun x1 y1 k hk0 hk1 => ?_⟩
    have kp : ∀ b o, b ≠ p → H b = some o → upd H p (.lst [.int x1, .int y1]) b = some o := fun b o hb e => by
      rw [upd_ne hb]
      exact e
    have bag1 : BagAt (upd H p (.lst [.int x1, .int y1])) p := ⟨_, _, upd_same⟩
    have keepAll : ∀ b, H b ≠ none → upd H p (.lst [.int x1, .int y1]) b ≠ none := fun b hb => by
      by_cases e : b = p
      · rw [e, upd_same]
        exact fun z => nomatch z
      · rw [upd_ne e]
        exact hb
    have pH : H p ≠ none := by
      obtain ⟨x, y, e⟩ := bag
      rw [e]
      exact fun z => nomatch z
    generalize upd H p (.lst [.int x1, .int y1]) = G1 at kp bag1 keepAll
    have newOf : ∀ {b : Addr}, G1 b = none → H b = none := fun {b} e => Classical.byContradiction fun hb => keepAll b hb e
    -- the first return: one of three small things
    have small : (tRet (tOp (rIxL K) (tLst (tCons (tC .non) (tCons (tC (.str "")) (tCons (tLst tNil) tNil)))) (tCall spTake [] E0 (tCons (tVar 0) (tCons (tIf (tTest (tOp (rI0 fun i j => .bl (decide (j < i))) (tVar 1) (tC (.int 0)))) (tC (.int 3)) (tC (.int 2))) tNil))))) { nx := fun _ H' => Q .non H', rt := Q } [some (.ref p), some (.int deep), some (.int room), some (.int k), none, none, none] G1 := by
      refine ⟨Nat.zero_le _, fun l0 n0 => ⟨(by show 3 ≤ sizeLine; decide), fun l n => ?_⟩⟩
      have b2 : BagAt (upd (upd G1 l0 (.lst [])) l (.lst [.non, .str "", .ref l0])) p := let ⟨x, y, e⟩ := bag1; ⟨x, y, same_upd n _ _ (same_upd n0 _ _ e)⟩
      have p0 : p ≠ l0 := fun e => by
        obtain ⟨x, y, e2⟩ := bag1
        rw [← e, e2] at n0
        cases n0
      have p1 : p ≠ l := fun e => by
        obtain ⟨x, y, e2⟩ := bag1
        have e3 := same_upd n0 (o := .lst []) _ _ e2
        rw [e, n] at e3
        cases e3
      have l01 : l0 ≠ l := fun e => by
        rw [← e, upd_same] at n
        cases n
      refine ⟨_, rfl, _, rfl, _, _, rfl, rfl, _, rfl, ?_⟩
      by_cases hd0 : (0 : Int) < (deep : Int)
      · refine ltT hd0 ?_
        refine ⟨p, 3, rfl, b2, by decide, by decide, fun x2 y2 c hc0 hc1 => ?_⟩
        have hl : (upd (upd (upd G1 l0 (.lst [])) l (.lst [.non, .str "", .ref l0])) p (.lst [.int x2, .int y2])) l = some (.lst [.non, .str "", .ref l0]) := by
          rw [upd_ne p1.symm, upd_same]
        have hl0 : (upd (upd (upd G1 l0 (.lst [])) l (.lst [.non, .str "", .ref l0])) p (.lst [.int x2, .int y2])) l0 = some (.lst []) := by
          rw [upd_ne p0.symm, upd_ne l01, upd_same]
        have k2 : ∀ b o, b ≠ p → H b = some o → (upd (upd (upd G1 l0 (.lst [])) l (.lst [.non, .str "", .ref l0])) p (.lst [.int x2, .int y2])) b = some o := fun b o hb e => by
          rw [upd_ne hb]
          exact same_upd n _ _ (same_upd n0 _ _ (kp b o hb e))
        have b3 : BagAt (upd (upd (upd G1 l0 (.lst [])) l (.lst [.non, .str "", .ref l0])) p (.lst [.int x2, .int y2])) p := ⟨_, _, upd_same⟩
        obtain rfl | rfl | rfl : c = 0 ∨ c = 1 ∨ c = 2 := by omega
        · exact ⟨l, _, 0, _, rfl, rfl, SqL.of hl, atI_nat (j := 0) rfl, q _ _ .none k2 b3 .non trivial (by simp [PyData.depth]) (by simpa [sz] using hr1)⟩
        · exact ⟨l, _, 1, _, rfl, rfl, SqL.of hl, atI_nat (j := 1) rfl, q _ _ (.str "") k2 b3 (.str _) (by show Lt ""; unfold Lt; decide +kernel) (by simp [PyData.depth]) (by simp only [sz]; exact hr1)⟩
        · refine ⟨l, _, 2, _, rfl, rfl, SqL.of hl, atI_nat (j := 2) rfl, q _ _ (.list []) k2 b3 (.lst (SqL.l ?_) .nil) trivial (by simp [PyData.depth, PyData.depthAll]; omega) (by simp [sz, szAll]; exact hr1)⟩
          rw [newp_at (newOf n0)]
          exact hl0
      · refine ltF hd0 ?_
        refine ⟨p, 2, rfl, b2, by decide, by decide, fun x2 y2 c hc0 hc1 => ?_⟩
        have hl : (upd (upd (upd G1 l0 (.lst [])) l (.lst [.non, .str "", .ref l0])) p (.lst [.int x2, .int y2])) l = some (.lst [.non, .str "", .ref l0]) := by
          rw [upd_ne p1.symm, upd_same]
        have hl0 : (upd (upd (upd G1 l0 (.lst [])) l (.lst [.non, .str "", .ref l0])) p (.lst [.int x2, .int y2])) l0 = some (.lst []) := by
          rw [upd_ne p0.symm, upd_ne l01, upd_same]
        have k2 : ∀ b o, b ≠ p → H b = some o → (upd (upd (upd G1 l0 (.lst [])) l (.lst [.non, .str "", .ref l0])) p (.lst [.int x2, .int y2])) b = some o := fun b o hb e => by
          rw [upd_ne hb]
          exact same_upd n _ _ (same_upd n0 _ _ (kp b o hb e))
        have b3 : BagAt (upd (upd (upd G1 l0 (.lst [])) l (.lst [.non, .str "", .ref l0])) p (.lst [.int x2, .int y2])) p := ⟨_, _, upd_same⟩
        obtain rfl | rfl : c = 0 ∨ c = 1 := by omega
        · exact ⟨l, _, 0, _, rfl, rfl, SqL.of hl, atI_nat (j := 0) rfl, q _ _ .none k2 b3 .non trivial (by simp [PyData.depth]) (by simpa [sz] using hr1)⟩
        · exact ⟨l, _, 1, _, rfl, rfl, SqL.of hl, atI_nat (j := 1) rfl, q _ _ (.str "") k2 b3 (.str _) (by show Lt ""; unfold Lt; decide +kernel) (by simp [PyData.depth]) (by simp only [sz]; exact hr1)⟩
    refine ⟨_, rfl, rfl, _, rfl, ?_⟩
    by_cases e0 : k = 0
    · exact eqT e0 (iteT small)
    refine eqF e0 ⟨_, rfl, rfl, _, rfl, ?_⟩
    by_cases er : (room : Int) = 1
    · exact eqT er small
    refine eqF er ?_
    -- a text
    have text : (tRet (tCall spText [] E0 (tCons (tVar 0) (tCons (tCB (fun xs H Q => ∃ i j, xs = [.int i, .int j] ∧ Q (.int (if j < i then j else i)) H) (tCons (tC (.int 4)) (tCons (tOp (rI0 fun i j => .int (i - j)) (tVar 2) (tC (.int 1))) tNil))) tNil)))) { nx := fun _ H' => Q .non H', rt := Q } [some (.ref p), some (.int deep), some (.int room), some (.int k), none, none, none] G1 := by
      refine ⟨_, rfl, _, rfl, _, _, rfl, rfl, _, _, rfl, p, _, rfl, bag1, ?_, ?_, fun H' z k2 b2 lz hz => ?_⟩
      · split <;> omega
      · split <;> omega
      · refine q H' (.str z) (.str z) (fun b o hb e => k2 b o hb (kp b o hb e)) b2 (.str z) lz (by simp [PyData.depth]) ?_
        simp only [sz]
        split at hz <;> omega
    refine ⟨_, rfl, rfl, _, rfl, ?_⟩
    by_cases e1 : k = 1
    · exact eqT e1 (iteT text)
    refine eqF e1 ⟨_, rfl, rfl, _, rfl, ?_⟩
    by_cases ed : (deep : Int) = 0
    · exact eqT ed text
    refine eqF ed ?_
    clear small text
    obtain ⟨M, rfl⟩ : ∃ M, deep = M + 1 := ⟨deep - 1, by omega⟩
    -- made, left = [], room - 1
    refine ⟨Nat.zero_le _, fun m nm => ⟨_, rfl, _, _, rfl, rfl, _, _, rfl, ?_⟩⟩
    have nmH : H m = none := newOf nm
    have mp : m ≠ p := fun e => by
      rw [e] at nmH
      exact pH nmH
    have b2 : BagAt (upd G1 m (.lst [])) p := let ⟨x, y, e⟩ := bag1; ⟨x, y, same_upd nm _ _ e⟩
    refine ⟨_, rfl, p, 5, rfl, b2, by decide, by decide, fun x2 y2 c hc0 hc1 => ?_⟩
    refine ⟨c, rfl, by omega, by omega, for_range (lo := 0) (n := c.toNat) (fun i σ H2 => ∃ (left : Nat) (ws : List V) (ds : List PyData) (y6 : Option V), σ = [some (.ref p), some (.int ((M + 1 : Nat) : Int)), some (.int room), some (.int k), some (.ref m), some (.int left), y6] ∧
      (∀ b o, b ≠ p → H b = some o → H2 b = some o) ∧ BagAt H2 p ∧ H2 m = some (.lst ws) ∧ DlAll (newB H m H2) ws ds ∧ valAll ds ∧ PyData.depthAll ds ≤ M ∧ szAll ds + left + 1 = room) ?_ ?_ ?_⟩
    · refine ⟨room - 1, [], [], none, ?_, fun b o hb e => ?_, ⟨_, _, upd_same⟩, ?_, .nil, trivial, by simp [PyData.depthAll], by simp [szAll]; omega⟩
      · have e : ((room : Int) - 1) = ((room - 1 : Nat) : Int) := by omega
        show _ = _
        rw [← e]
        rfl
      · rw [upd_ne hb]
        exact same_upd nm _ _ (kp b o hb e)
      · rw [upd_ne mp, upd_same]
    · rintro i σ H2 hi ⟨left, ws, ds, y6, rfl, k2, b2, hm2, hws, hvs, hdp, hsz⟩
      refine ⟨_, rfl, _, _, rfl, rfl, _, rfl, ?_⟩
      by_cases hl : (0 : Int) < (left : Int)
      · refine ltT hl ?_
        have em : ((M + 1 : Nat) : Int) - 1 = ((M : Nat) : Int) := by omega
        refine ⟨_, rfl, .inl ⟨rfl, _, SqL.of hm2⟩, ⟨N - 1, by omega⟩, _, rfl, _, rfl, _, _, rfl, rfl, _, rfl, p, M, left, ?_, b2, (by show M ≤ N - 1; omega), by omega, by omega, fun H3 v d k3 b3 hv vd dd ds3 => ?_⟩
        · show [V.ref p, V.int (((M + 1 : Nat) : Int) - 1), V.int left] ++ [] = _
          rw [em]
          rfl
        have hm3 : H3 m = some (.lst ws) := k3 m _ mp hm2
        have wl : ws.length ≤ 1000 := by
          have e1 := DpAll.length hws
          have e2 := szAll_len ds
          omega
        refine ⟨m, ws, v, rfl, rfl, hm3, Nat.lt_of_le_of_lt wl (by decide), ?_⟩
        have all2 : ∀ b, H b ≠ none → H2 b ≠ none := fun b hb => by
          cases e : H b with
          | none => exact absurd e hb
          | some o =>
            by_cases eb : b = p
            · rw [eb]
              obtain ⟨x, y, e2⟩ := b2
              rw [e2]
              exact fun z => nomatch z
            · rw [k2 b o eb e]
              exact fun z => nomatch z
        have old : Same (newB H m H2) (newB H m (upd H3 m (.lst (ws ++ [v])))) := fun b o e => by
          by_cases bm : b = m
          · unfold newB at e
            rw [if_pos bm] at e
            cases e
          · cases hh : H b with
            | some u =>
              unfold newB at e
              rw [if_neg bm, hh] at e
              cases e
            | none =>
              have bp : b ≠ p := fun z => by
                rw [z] at hh
                exact pH hh
              rw [newB_at hh bm] at e ⊢
              rw [upd_ne bm]
              exact k3 b o bp e
        have new : Same (newp H2 H3) (newB H m (upd H3 m (.lst (ws ++ [v])))) := fun b o e => by
          cases h2 : H2 b with
          | some u =>
            rw [newp_old h2] at e
            cases e
          | none =>
            rw [newp_at h2] at e
            have hh : H b = none := Classical.byContradiction fun z => all2 b z h2
            have bm : b ≠ m := fun z => by
              rw [z, hm2] at h2
              cases h2
            rw [newB_at hh bm, upd_ne bm]
            exact e
        have b4 : BagAt (upd H3 m (.lst (ws ++ [v]))) p := let ⟨x, y, e⟩ := b3; ⟨x, y, by rw [upd_ne mp.symm]; exact e⟩
        have k4 : ∀ b o, b ≠ p → H b = some o → (upd H3 m (.lst (ws ++ [v]))) b = some o := fun b o hb e => by
          rw [upd_ne (ne_of_none e nmH)]
          exact k3 b o hb (k2 b o hb e)
        have hm4 : (upd H3 m (.lst (ws ++ [v]))) m = some (.lst (ws ++ [v])) := upd_same
        have vnew : Dl (newB H m (upd H3 m (.lst (ws ++ [v])))) v d := dl_same new hv
        have all4 : DlAll (newB H m (upd H3 m (.lst (ws ++ [v])))) (ws ++ [v]) (ds ++ [d]) := DpAll.append (dlAll_same old hws) (.cons vnew .nil)
        generalize upd H3 m (.lst (ws ++ [v])) = G4 at b4 k4 hm4 vnew all4
        have sub : Same (newB H m G4) G4 := fun b o e => newp_same _ _ (newB_newp _ _ e)
        -- left = left - size(made[-1])
        refine ⟨_, rfl, _, rfl, 1, rfl, m, _, -1, v, rfl, rfl, SqL.of hm4, atI_last _ _, v, d, newB H m G4, rfl, sub, dl_dp vnew, vd, by omega, by omega, fun H5 s5 => ?_⟩
        refine ⟨_, _, rfl, rfl, left - sz d, ws ++ [v], ds ++ [d], some (.int (0 + (i : Int))), ?_, fun b o hb e => s5 _ _ (k4 b o hb e), ?_, s5 _ _ hm4, dlAll_same (newB_mono fun b o _ e => s5 _ _ e) all4, (valAll_append _ _).mpr ⟨hvs, vd, trivial⟩, ?_, ?_⟩
        · have e : ((left : Int) - (sz d : Int)) = ((left - sz d : Nat) : Int) := by omega
          show _ = _
          rw [← e]
          rfl
        · obtain ⟨x, y, e⟩ := b4
          exact ⟨x, y, s5 _ _ e⟩
        · rw [depthAll_append]
          simp only [PyData.depthAll]
          omega
        · rw [szAll_snoc]
          omega
      · refine ltF hl ?_
        exact ⟨left, ws, ds, _, rfl, k2, b2, hm2, hws, hvs, hdp, hsz⟩
    · rintro σ H2 ⟨left, ws, ds, y6, rfl, k2, b2, hm2, hws, hvs, hdp, hsz⟩
      refine ⟨_, rfl, q H2 (.ref m) (.list ds) k2 b2 (.lst (SqL.l ?_) (dlAll_same newB_newp hws)) hvs ?_ ?_⟩
      · rw [newp_at nmH]
        exact hm2
      · simp only [PyData.depth]
        omega
      · simp only [sz]
        omega
theorem ok_valuesL {f fT fX fS : Addr} {fd dT dX dS : FuncData} (F : Fun K "_law_value" "_law_value" sValue f fd) (b : Binds K fd ["_law_bag_here", "_law_deep", "_law_room"] []) (g : mg "_law_value" = some (.ref f)) (Y : Nv mg) (C : Vc P w K mg base fT fX fS dT dX dS) :
    ∀ N : Nat, FnOk P w K mg base CX0 (N + 3) f fd ["_law_bag_here", "_law_deep", "_law_room"] (spValueL N)
  | 0 => ok_valueL F b g Y C 0 fun j => absurd j.2 (by omega)
  | N + 1 => ok_valueL F b g Y C (N + 1) fun ⟨M, e⟩ => by
    have e2 : M = N := by omega
    subst e2
    exact ok_valuesL F b g Y C M
end
end TX
namespace TX
open PySem PySem.Spec PyProof.Rows L2
/-! ### a value is spoiled: each list in it gets texts behind it -/
mutual
def nl : PyData → Nat
  | .list es => nlAll es + 1
  | _ => 0
def nlAll : List PyData → Nat
  | [] => 0
  | d :: ds => nl d + nlAll ds
end
mutual
theorem nl_nd : ∀ d : PyData, nl d ≤ nd d
  | .none => by simp [nl]
  | .bool _ => by simp [nl]
  | .int _ => by simp [nl]
  | .str _ => by simp [nl]
  | .list es => by
    have := nlAll_nd es
    simp only [nl, nd]
    omega
  | .tuple _ => by simp [nl]
  | .dict _ => by simp [nl]
theorem nlAll_nd : ∀ ds : List PyData, nlAll ds ≤ ndAll ds
  | [] => by simp [nlAll]
  | d :: ds => by
    have a := nl_nd d
    have b := nlAll_nd ds
    simp only [nlAll, ndAll]
    omega
end
theorem nlAll_append : ∀ (a b : List PyData), nlAll (a ++ b) = nlAll a + nlAll b
  | [], b => by simp [nlAll]
  | d :: a, b => by
    rw [List.cons_append, nlAll, nlAll, nlAll_append a b]
    omega
theorem nl_take {es : List PyData} {i : Nat} {e : PyData} (h : es[i]? = some e) : nlAll (es.take (i + 1)) = nlAll (es.take i) + nl e := by
  rw [List.take_add_one, h, nlAll_append]
  simp [nlAll]
theorem nl_take_le (es : List PyData) (i : Nat) : nlAll (es.take i) ≤ nlAll es := by
  have e := nlAll_append (es.take i) (es.drop i)
  rw [List.take_append_drop] at e
  omega
/-- the lists of J, each with at most c texts behind it -/
def Ext (J H : Hp) (c : Nat) : Prop := ∀ b xs, J b = some (.lst xs) → ∃ n, n ≤ c ∧ H b = some (.lst (xs ++ List.replicate n (.str "x")))
def Off (J H H' : Hp) : Prop := ∀ b o, onlyL J b = none → H b = some o → H' b = some o
/-- lists get longer alone -/
def Grow (H H' : Hp) : Prop := ∀ b ys, H b = some (.lst ys) → ∃ zs, H' b = some (.lst (ys ++ zs))
theorem Grow.refl (H : Hp) : Grow H H := fun b ys e => ⟨[], by simpa using e⟩
theorem Grow.trans {A B C : Hp} (f : Grow A B) (g : Grow B C) : Grow A C := fun b ys e => by
  obtain ⟨z1, e1⟩ := f b ys e
  obtain ⟨z2, e2⟩ := g b _ e1
  exact ⟨z1 ++ z2, by rw [e2, List.append_assoc]⟩
theorem Ext.zero {J H : Hp} (s : Same J H) : Ext J H 0 := fun b xs e => ⟨0, Nat.le_refl _, by simpa using s _ _ e⟩
def spSpoilL (N : Nat) : Sp := fun vs H Q _ => ∃ (v : V) (d : PyData) (J : Hp) (c : Nat), vs = [v] ∧ Dl J v d ∧ d.depth ≤ N ∧ Ext J H c ∧ c + nl d ≤ 100000 ∧ nd d ≤ 100000 ∧ ∀ H', Off J H H' → Ext J H' (c + nl d) → Grow H H' → Q .non H'
theorem dlAll_get {J : Hp} : ∀ {ds : List PyData} {vs : List V} {i : Nat} {v : V}, DlAll J vs ds → vs[i]? = some v → ∃ d, ds[i]? = some d ∧ Dl J v d
  | [], _, i, v, h, e => by
    cases h
    simp at e
  | d :: ds, _, 0, v, h, e => by
    cases h with
    | cons h1 h2 =>
      simp at e
      subst e
      exact ⟨d, rfl, h1⟩
  | d :: ds, _, i + 1, v, h, e => by
    cases h with
    | cons h1 h2 =>
      simp at e
      obtain ⟨d', e1, e2⟩ := dlAll_get h2 e
      exact ⟨d', by simpa using e1, e2⟩
theorem nd_get : ∀ {ds : List PyData} {i : Nat} {d : PyData}, ds[i]? = some d → nd d ≤ ndAll ds
  | [], i, d, e => by simp at e
  | x :: ds, 0, d, e => by
    simp at e
    subst e
    simp only [ndAll]
    omega
  | x :: ds, i + 1, d, e => by
    simp at e
    have := nd_get e
    simp only [ndAll]
    omega
section
variable {P : Program} {w : World} {K : PySem.W.Frag} {mg : Str → Option Value} {base : Heap}
theorem scSpoil : FnScope ["_law_value_here", "_law_one"] ["_law_value_here"] (defScope sSpoil) := ⟨rfl, rfl, rfl, by decide +kernel, rfl, by decide +kernel, by decide +kernel⟩
theorem ok_spoilL1 {f : Addr} {fd : FuncData} (F : Fun K "_law_spoil" "_law_spoil" sSpoil f fd) (T : Nm mg) (b : Binds K fd ["_law_value_here"] []) (g : mg "_law_spoil" = some (.ref f)) (N : Nat) (G : ∀ j : { M : Nat // M + 1 = N }, FnOk P w K mg base CX0 (j.1 + 1) f fd ["_law_value_here"] (spSpoilL j.1)) :
    FnOk P w K mg base CX0 (N + 1) f fd ["_law_value_here"] (spSpoilL N) := by
  refine F.ok scSpoil (fun vs H Q E h => ?_) (fun cdv A outer s H vs Q E hr h => ?_)
  · obtain ⟨v, d, J, c, rfl, _⟩ := h
    rfl
  · obtain ⟨v, d, J, c, rfl, hd, hz, hx, hc, hJ, q⟩ := h
    have hrR : ∀ j : { M : Nat // M + 1 = N }, Room (j.1 + 1) _ := fun j => hr.mono (by have := j.2; omega)
    refine ⟨_, pss_one (ps_if (pt_val (pe_callB call_isi (by rfl) T.isi (by decide +kernel) (pa_cons (pv 0) (pa_cons (pe_bltn (v := .ty "list") (by rfl) T.lst (by decide +kernel) rfl) pa_nil))))
      (pss_cons (ps_for PassesOwn.never rfl (pi_list (pv 0)) (pg_name (i := 1) scSpoil.nd rfl (.inl rfl)) (pss_one (ps_expr (pe_ex fun j => pe_call (G j) (hrR j) (by rfl) g F.kp b .nil pass0 (pa_cons (pv 1) pa_nil)))))
      (pss_one (ps_expr (pe_bm PySem.F.plainAttrs_list PySem.F.slot_list_append PySem.F.type_list_append mt_append (pv 0) (pa_cons pe_str pa_nil))))) pss_nil), ?_⟩
    cases hd with
    | non =>
      refine ⟨_, rfl, .non, .ty "list", _, .type "list", _, rfl, .ty _, .base .non, kitL .none K, _, rfl, iteF ?_⟩
      exact q H (fun _ _ _ e => e) (fun b xs e => let ⟨n, h1, h2⟩ := hx b xs e; ⟨n, by omega, h2⟩) (Grow.refl H)
    | bl x =>
      refine ⟨_, rfl, .bl x, .ty "list", _, .type "list", _, rfl, .ty _, .base (.bl x), kitL (.bool x) K, _, rfl, iteF ?_⟩
      exact q H (fun _ _ _ e => e) (fun b xs e => let ⟨n, h1, h2⟩ := hx b xs e; ⟨n, by omega, h2⟩) (Grow.refl H)
    | int x =>
      refine ⟨_, rfl, .int x, .ty "list", _, .type "list", _, rfl, .ty _, .base (.int x), kitL (.int x) K, _, rfl, iteF ?_⟩
      exact q H (fun _ _ _ e => e) (fun b xs e => let ⟨n, h1, h2⟩ := hx b xs e; ⟨n, by omega, h2⟩) (Grow.refl H)
    | str x =>
      refine ⟨_, rfl, .str x, .ty "list", _, .type "list", _, rfl, .ty _, .base (.str x), kitL (.str x) K, _, rfl, iteF ?_⟩
      exact q H (fun _ _ _ e => e) (fun b xs e => let ⟨n, h1, h2⟩ := hx b xs e; ⟨n, by omega, h2⟩) (Grow.refl H)
    | tup h1 h2 => exact (sqt_l h1).elim
    | @lst a xs es h1 h2 =>
      have ha := sql_l h1
      have lenx := DpAll.length h2
      have lndA := ndAll_len es
      simp only [nd] at hJ
      have lxs : xs.length ≤ 100000 := by omega
      obtain ⟨n0, hn0, hHa⟩ := hx _ _ ha
      simp only [nl] at hc q
      refine ⟨_, rfl, .ref a, .ty "list", _, .type "list", _, rfl, .ty _, .base (.lst hHa), kitL (.list es) K, _, rfl, iteT ?_⟩
      have cur : ∀ {G : Hp} {k : Nat}, Ext J G k → ∃ n, n ≤ k ∧ G a = some (.lst (xs ++ List.replicate n (.str "x"))) := fun h => h _ _ ha
      refine ⟨_, rfl, a, rfl, ⟨_, SqL.of hHa⟩, fun i m σ G => m = xs.length + c + nlAll es + 1 - i ∧ ∃ y, σ = [some (.ref a), y] ∧ Ext J G (c + nlAll (es.take i)) ∧ Off J H G ∧ Grow H G ∧ ∃ n, n ≤ c + nlAll (es.take i) ∧ G a = some (.lst (xs ++ List.replicate n (.str "x"))) ∧ i ≤ xs.length + n, ⟨_, rfl, _, rfl, by simpa [nlAll] using hx, fun _ _ _ e => e, Grow.refl H, n0, by omega, hHa, Nat.zero_le _⟩, ?_⟩
      rintro i m σ G ⟨rfl, y, rfl, he, hoff, hgr, n, hn, hGa, hi⟩
      have tl := nl_take_le es i
      have lcur : (xs ++ List.replicate n (V.str "x")).length = xs.length + n := by simp
      by_cases hlt : i < xs.length + n
      · obtain ⟨x, hx0⟩ : ∃ x, (xs ++ List.replicate n (V.str "x"))[i]? = some x := ⟨_, List.getElem?_eq_getElem (by rw [lcur]; exact hlt)⟩
        refine .inr ⟨⟨_, x, SqL.of hGa, hx0⟩, fun σ' G' => ∃ y, σ' = [some (.ref a), y] ∧ Ext J G' (c + nlAll (es.take (i + 1))) ∧ Off J H G' ∧ Grow G G', ?_, ?_⟩
        · rintro σ' G' ⟨y', rfl, he', hoff', hgr'⟩
          obtain ⟨n', hn', hGa'⟩ := cur he'
          have tl' := nl_take_le es (i + 1)
          refine ⟨_, ?_, rfl, y', rfl, he', hoff', hgr.trans hgr', n', hn', hGa', ?_⟩
          · omega
          · obtain ⟨zs, ez⟩ := hgr' _ _ hGa
            rw [hGa'] at ez
            have := congrArg List.length (HO.lst.inj (Option.some.inj ez))
            simp only [List.length_append, List.length_replicate] at this
            omega
        · rintro x' G' ⟨rfl, hyl⟩
          have ex := (hyl _ (SqL.of hGa)).symm.trans hx0
          cases ex
          have zpos : 1 ≤ N := by
            simp only [PyData.depth] at hz
            omega
          by_cases hix : i < xs.length
          · rw [List.getElem?_append_left hix] at hx0
            obtain ⟨e, he1, he2⟩ := dlAll_get h2 hx0
            have dg := depth_get he1
            simp only [PyData.depth] at hz
            have tk := nl_take he1
            have tl' := nl_take_le es (i + 1)
            refine ⟨⟨N - 1, by omega⟩, _, rfl, x, e, J, c + nlAll (es.take i), rfl, he2, by show _ ≤ N - 1; omega, he, by omega, Nat.le_trans (nd_get he1) (by omega), fun H' o1 e1 g1 => ?_⟩
            exact ⟨_, rfl, by rw [tk, ← Nat.add_assoc]; exact e1, fun b o h1 h2 => o1 b o h1 (hoff b o h1 h2), g1⟩
          · have hxs : x = .str "x" := by
              rw [List.getElem?_append_right (by omega)] at hx0
              exact (List.eq_of_mem_replicate (List.mem_of_getElem? hx0))
            have t1 : es.take (i + 1) = es := List.take_of_length_le (by omega)
            have t0 : es.take i = es := List.take_of_length_le (by omega)
            rw [t0] at he
            refine ⟨⟨N - 1, by omega⟩, _, rfl, x, .str "x", J, c + nlAll es, rfl, hxs ▸ .str _, by simp [PyData.depth], he, by simp only [nl]; omega, by simp [nd], fun H' o1 e1 g1 => ?_⟩
            exact ⟨_, rfl, by rw [t1]; exact e1, fun b o h1 h2 => o1 b o h1 (hoff b o h1 h2), g1⟩
      · have ti : es.take i = es := List.take_of_length_le (by omega)
        rw [ti] at he hn
        refine .inl ⟨⟨_, SqL.of hGa, by rw [lcur]; omega⟩, ?_⟩
        refine ⟨_, rfl, .inl ⟨rfl, _, SqL.of hGa⟩, a, _, .str "x", rfl, rfl, hGa, Nat.lt_of_le_of_lt (show _ ≤ 300000 by rw [lcur]; omega) (by decide), ?_⟩
        refine q _ (fun b o hb e => ?_) (fun b ys e => ?_) fun b ys e => ?_
        · have ba : b ≠ a := fun z => by
            rw [z, onlyL_at ha] at hb
            cases hb
          rw [upd_ne ba]
          exact hoff b o hb e
        · by_cases ba : b = a
          · subst ba
            rw [ha] at e
            cases e
            refine ⟨n + 1, by omega, ?_⟩
            rw [upd_same, List.append_assoc, List.replicate_succ']
          · obtain ⟨k, h3, h4⟩ := he b ys e
            exact ⟨k, by omega, by rw [upd_ne ba]; exact h4⟩
        · obtain ⟨zs, ez⟩ := hgr b ys e
          by_cases ba : b = a
          · subst ba
            rw [hGa] at ez
            refine ⟨zs ++ [.str "x"], ?_⟩
            rw [upd_same, HO.lst.inj (Option.some.inj ez), List.append_assoc]
          · exact ⟨zs, by rw [upd_ne ba]; exact ez⟩
theorem ok_spoilL {f : Addr} {fd : FuncData} (F : Fun K "_law_spoil" "_law_spoil" sSpoil f fd) (T : Nm mg) (b : Binds K fd ["_law_value_here"] []) (g : mg "_law_spoil" = some (.ref f)) : ∀ N : Nat, FnOk P w K mg base CX0 (N + 1) f fd ["_law_value_here"] (spSpoilL N)
  | 0 => ok_spoilL1 F T b g 0 fun j => absurd j.2 (by omega)
  | N + 1 => ok_spoilL1 F T b g (N + 1) fun ⟨M, e⟩ => by
    have e2 : M = N := by omega
    subst e2
    exact ok_spoilL F T b g M
end
end TX
namespace TX
open PySem PySem.Spec PyProof.Rows L2
/-! ### Entries: sums and repeats -/
/-- new Entries of ds -/
def NewE (C : Addr) (H : Hp) (ds : List PyData) (Q : VK) : Prop := ∀ (H' : Hp) (x dx r : Addr) (us : List V) (S : List Addr), Same H H' → H x = none → H' x = some (.ins C dx (rowsF r)) → H r = none → H' r = some (.lst us) → TrAll H' us ds S → r ∉ S → x ∉ S → (∀ b ∈ S, H b = none) → Q (.ref x) H'
/-- Entries, or a value: the entries that are meant -/
def EntOf (K : PySem.W.Frag) (C : Addr) (Hv H : Hp) (y : V) (es : List PyData) : Prop := (∃ (q dy r2 : Addr) (us : List V), y = .ref q ∧ H q = some (.ins C dy (rowsF r2)) ∧ H r2 = some (.lst us) ∧ DpAll K Hv us es) ∨ (∃ e, Dp K Hv y e ∧ valD e ∧ sz e ≤ 4000 ∧ es = entD e)
def spAdd (K : PySem.W.Frag) (C : Addr) : Sp := fun vs H Q _ => ∃ (p dx r : Addr) (ws : List V) (y : V) (ds es : List PyData) (Hv : Hp), vs = [.ref p, y] ∧ H p = some (.ins C dx (rowsF r)) ∧ H r = some (.lst ws) ∧ Same Hv H ∧ DpAll K Hv ws ds ∧ valAll ds ∧ valAll es ∧ szAll ds + szAll es ≤ 4000 ∧ EntOf K C Hv H y es ∧ NewE C H (ds ++ es) Q
theorem szAll_rep {ds : List PyData} : ∀ n : Nat, szAll (List.replicate n ds).flatten = szAll ds * n
  | 0 => by simp [szAll]
  | n + 1 => by
    rw [List.replicate_succ, List.flatten_cons, szAll_append, szAll_rep n, Nat.mul_succ]
    omega
theorem rep_snoc {α : Type} (xs : List α) (n : Nat) : (List.replicate (n + 1) xs).flatten = (List.replicate n xs).flatten ++ xs := by
  rw [List.replicate_succ', List.flatten_append]
  simp
section
variable {P : Program} {w : World} {K : PySem.W.Frag} {mg : Str → Option Value} {base : Heap} {C : Addr}
theorem ok_add {f fV fE fI : Addr} {fd dV dE dI : FuncData} (F : Fun K "__add__" "Entries.__add__" mEntries_add f fd) (T : En K mg C) (N : Nm mg) (M : Mk K C fI) (GI : FnOk P w K mg base CX0 4 fI dI ["self", "value"] (spInit K C)) (bI : Binds K dI ["self", "value"] [])
    (GV : FnOk P w K mg base CX0 3 fV dV ["thing"] (spOkV K (.bl true))) (gV : mg "is_value" = some (.ref fV)) (kV : PySem.W.keepIn K (.ref fV) = true) (bV : Binds K dV ["thing"] [])
    (GE : FnOk P w K mg base CX0 1 fE dE ["value"] (spEnt K)) (gE : mg "entries_of" = some (.ref fE)) (kE : PySem.W.keepIn K (.ref fE) = true) (bE : Binds K dE ["value"] []) : FnOk P w K mg base CX0 6 f fd ["self", "other"] (spAdd K C) := by
  refine F.ok scAdd (fun vs H Q E h => ?_) (fun cdv A outer s H vs Q E hr h => ?_)
  · obtain ⟨p, dx, r, ws, y, ds, es, Hv, rfl, _⟩ := h
    rfl
  · obtain ⟨p, dx, r, ws, y, ds, es, Hv, rfl, hp, hr', sv, hw, vd, ve, hz, hy, q⟩ := h
    refine ⟨_, pss_cons (ps_if (pt_val (pe_callB call_isi (by rfl) N.isi (by decide +kernel) (pa_cons (pv 1) (pa_cons (pe_glob (v := .ref C) (by rfl) T.mgC rfl) pa_nil)))) (pss_one (ps_ret (pe_make M GI hr (by rfl) T.mgC bI .nil pass0 (pa_cons (pe_op op_cat (pe_fld (pv 0) rfl) (pe_fld (pv 1) rfl)) pa_nil)))) pss_nil) <|
      pss_cons (ps_if (pt_not (pt_val (pe_call GV (hr.mono (by decide)) (by rfl) gV kV bV .nil pass0 (pa_cons (pv 1) pa_nil)))) (pss_one ps_never) pss_nil) <|
      pss_one (ps_ret (pe_make M GI hr (by rfl) T.mgC bI .nil pass0 (pa_cons (pe_op op_cat (pe_fld (pv 0) rfl) (pe_call GE (hr.mono (by decide)) (by rfl) gE kE bE .nil pass0 (pa_cons (pv 1) pa_nil))) pa_nil))), ?_⟩
    have hwl := DpAll.length hw
    have dl := szAll_len ds
    have el := szAll_len es
    have vde := (valAll_append _ _).mpr ⟨vd, ve⟩
    rcases hy with ⟨q2, dy, r2, us, rfl, hq2, hr2, hu⟩ | ⟨e, he, ve', hze, rfl⟩
    · have hul := DpAll.length hu
      refine ⟨_, rfl, .ref q2, .ref C, _, .ref C, _, rfl, .own C, T.own hq2, T.me, _, rfl, iteT ?_⟩
      refine ⟨_, rfl, p, C, dx, _, _, rfl, hp, T.cl, T.nR, rows_get r, _, rfl, q2, C, dy, _, _, rfl, hq2, T.cl, T.nR, rows_get r2, r, r2, ws, us, rfl, rfl, hr', hr2, Nat.le_trans (show ws.length + us.length ≤ 10000 by omega) (by decide), fun l2 nl2 => ?_⟩
      refine mk_ent (d := .list (ds ++ es)) (Same.refl _) (.lst (SqL.of upd_same) (DpAll.append (dpAll_same (sv.trans (same_upd nl2)) _ _ hw) (dpAll_same (sv.trans (same_upd nl2)) _ _ hu))) vde (by simp only [sz, szAll_append]; omega) fun H' x dx' r' us' S sm nx hx nr hr2' tr nS xS fr => ?_
      have s3 := same_upd (o := .lst (ws ++ us)) nl2
      exact q H' x dx' r' us' S (s3.trans sm) (s3.free nx) hx (s3.free nr) hr2' tr nS xS fun b hb => s3.free (fr b hb)
    · have ty := dp_ty (dp_same sv _ _ he)
      refine ⟨_, rfl, y, .ref C, _, .ref C, _, rfl, .own C, ty, T.not ve', _, rfl, iteF ?_⟩
      refine ⟨_, rfl, y, e, Hv, rfl, sv, he, ve', by omega, fun H1 s1 => ⟨_, rfl, iteF ?_⟩⟩
      refine ⟨_, rfl, p, C, dx, _, _, rfl, s1 _ _ hp, T.cl, T.nR, rows_get r, _, rfl, y, e, Hv, rfl, sv.trans s1, he, ve', fun H2 l us s2 nl hl hu => ?_⟩
      have hul := DpAll.length hu
      refine ⟨r, l, ws, us, rfl, rfl, (s1.trans s2) _ _ hr', hl, Nat.le_trans (show ws.length + us.length ≤ 10000 by omega) (by decide), fun l2 nl2 => ?_⟩
      have s3 : Same H (upd H2 l2 (.lst (ws ++ us))) := (s1.trans s2).trans (same_upd nl2)
      refine mk_ent (d := .list (ds ++ entD e)) (Same.refl _) (.lst (SqL.of upd_same) (DpAll.append (dpAll_same (sv.trans s3) _ _ hw) (dpAll_same (sv.trans s3) _ _ hu))) vde (by simp only [sz, szAll_append]; omega) fun H' x dx' r' us' S sm nx hx nr hr2 tr nS xS fr => ?_
      exact q H' x dx' r' us' S (s3.trans sm) (s3.free nx) hx (s3.free nr) hr2 tr nS xS fun b hb => s3.free (fr b hb)
end
/-- a word between an expression and what follows -/
theorem pe_cut {X : Cx} {e : Expr} {t : TE} (h : PE X e t) : PE X e (fun σ H Q => ∃ R : VK, t σ H R ∧ ∀ v H', R v H' → Q v H') :=
  ⟨fun pins s σ H Q I ⟨R, h1, h2⟩ => thn (h.run pins s σ H R I h1) fun v s1 ⟨x, H1, I1, r1, q1⟩ => ⟨x, H1, I1, r1, h2 _ _ q1⟩⟩
theorem cut_last (va : List V) (v : V) : cutV (va ++ [v]) none (some (-1)) = va := by
  unfold cutV HT.sIx
  dsimp only
  rw [if_pos (by decide), List.drop_zero]
  have e : ((-1 : Int) + (((va ++ [v]).length : Nat) : Int)).toNat - 0 = va.length := by
    simp only [List.length_append, List.length_cons, List.length_nil]
    omega
  rw [e, List.take_left']
  rfl
/-- Entries at x, made behind B: rows at r, all else in F -/
structure EntF (C : Addr) (B H : Hp) (x r : Addr) (F : List Addr) (dd : List PyData) : Prop where
  nx : B x = none
  nr : B r = none
  ob : ∃ dx, H x = some (.ins C dx (rowsF r))
  ro : ∃ us, H r = some (.lst us) ∧ TrAll H us dd F
  rF : r ∉ F
  xF : x ∉ F
  fr : ∀ b ∈ F, B b = none
theorem EntF.keep {C : Addr} {B H H' : Hp} {x r : Addr} {F : List Addr} {dd : List PyData} (h : EntF C B H x r F dd) (kx : ∀ o, H x = some o → H' x = some o) (kr : ∀ o, H r = some o → H' r = some o) (kF : ∀ b ∈ F, ∀ o, H b = some o → H' b = some o) : EntF C B H' x r F dd :=
  ⟨h.nx, h.nr, let ⟨dx, e⟩ := h.ob; ⟨dx, kx _ e⟩, let ⟨us, e, t⟩ := h.ro; ⟨us, kr _ e, TrAll.frame t kF⟩, h.rF, h.xF, h.fr⟩
theorem EntF.up {C : Addr} {B H H' : Hp} {x r : Addr} {F : List Addr} {dd : List PyData} (h : EntF C B H x r F dd) (s : Same H H') : EntF C B H' x r F dd := h.keep (fun o e => s _ o e) (fun o e => s _ o e) fun b _ o e => s _ o e
theorem op_or {X : Cx} {op : Value → Value → Sem Value} {r1 r2 : R2} (h1 : OpR X op r1) (h2 : OpR X op r2) : OpR X op (fun x y H Q => r1 x y H Q ∨ r2 x y H Q) := by
  intro pins s σ H x y v u Q I rx ry h
  exact h.elim (h1 pins s σ H x y v u Q I rx ry) (h2 pins s σ H x y v u Q I rx ry)
/-- nothing, a text, a list -/
def ValV (H : Hp) (y : V) : Prop := y = .non ∨ (∃ z, y = .str z) ∨ ∃ a xs, y = .ref a ∧ H a = some (.lst xs)
theorem dl_valv {J H : Hp} {v : V} {d : PyData} (s : Same J H) (h : Dl J v d) (vd : valD d) : ValV H v := by
  cases h with
  | non => exact .inl rfl
  | str x => exact .inr (.inl ⟨x, rfl⟩)
  | lst h1 h2 => exact .inr (.inr ⟨_, _, rfl, s _ _ (sql_l h1)⟩)
  | _ => exact vd.elim
section
open PySem.W (Frag InstAt findIn subIn Looks looks_findIn looks_subIn)
open PySem.Calls
variable {prog : Program} {w : World} {A : Around} {E : Value → Shared → Prop} {s : Shared} {K : Frag} {x C L f g : Addr} {h₀ : Heap} {m : Str → Option Value} {ox : Obj} {od : Option Obj} {b : Value} {T : String}
theorem bin_looks {op : Operator} {fo ro rc : Option Value} {Q : Value → Shared → Prop} (F : Fr h₀ L s.heap m) (X₀ : K.In h₀) (I : InstAt s.heap x ox C od) (hb : Looks (model prog w) s.heap (typeOf b) (.type T)) (hc : PySem.W.selfFirst K C = true)
    (hs : findIn K (.ref C) (PySem.dunder op.info.2) = some (some (.ref f))) (hf : PySem.W.isFn K (.ref f) = true) (hr : findIn K (.ref C) (dunderR op.info.2) = some rc) (hp : rc = none ∨ ∃ g : Addr, rc = some (.ref g))
    (h1 : findIn K (.type T) (PySem.dunder op.info.2) = some fo) (h2 : findIn K (.type T) (dunderR op.info.2) = some ro) (hsub : subIn K (.type T) (.ref C) = some false)
    (h : wpAny (model prog w) A (call (.ref f) [.ref x, b]) (PySem.W.CmpBack Q) E s) : wpAny (model prog w) A (binaryOp op (.ref x) b) Q E s := by
  have X := X₀.keeps F.keep
  obtain ⟨cd, rest, hcd, hm⟩ := PySem.W.ksp_first hc
  rcases hi : op.info with ⟨sym, nm'⟩
  rw [hi] at hs hr h1 h2
  dsimp only at hs hr h1 h2
  have one := PySem.W.ksp_try X I hs hf h
  obtain ⟨hh, gg, d, tt, os⟩ := s
  have a1 : Looks (model prog w) hh (typeOf (.ref x)) (.ref C) := I.type
  have a2 : Looks (model prog w) hh (typeOf b) (.type T) := hb
  have a3 : Looks (model prog w) hh (fillsNumberSlot (.ref C) nm') true := PySem.W.fills_K X hcd hm hs
  have a4 : Looks (model prog w) hh (fillsNumberSlot (.type T) nm') _ := PySem.W.ksp_fillsT X h1 h2
  have a5 : Looks (model prog w) hh (isSubtype (.type T) (.ref C)) false := looks_subIn X hsub
  have a6 : Looks (model prog w) hh (numberSlotInPython (.ref C) nm') true := PySem.W.ksp_inPy X hs hr hp
  have a7 : Looks (model prog w) hh (numberSlotInPython (.type T) nm') false := Looks.of_pure rfl
  have a8 : Looks (model prog w) hh (typeLookup (.type T) (dunderR nm')) ro := looks_findIn X h2
  generalize ((fo.isSome && !isSeqSlot fo) || (ro.isSome && !isSeqSlot ro)) = right at a4
  have hne : (Value.ref C == Value.type T) = false := Bool.eq_false_iff.mpr fun q => by cases beq_iff_eq.mp q
  simp only [binaryOp, hi]
  refine wpAny_holding (wpAny_bind ?_)
  unfold binaryOp1
  refine wpAny_bind (a1.at (wpAny_bind (a2.at (wpAny_bind (a3.at ?_)))))
  simp only [hne, Bool.false_eq_true, if_false]
  cases right <;>
  · ksp_lk
    refine wpAny_mono one (fun r s' hr' => ?_) fun _ _ e => e
    obtain ⟨v, rfl, hq⟩ := hr'
    ksp_lk
    exact hq
end
section
variable {X : Cx} {CX : CXT} {C f g : Addr} {k : Nat} {fd : FuncData} {ps : List Str} {sp : Sp} {E : XK}
/-- x + y, y nothing, a text, a list -/
theorem op_own_val {fo ro fs' rs fl rl rc : Option Value} (hm : Meth X.K C "__add__" f) (hc : PySem.W.selfFirst X.K C = true) (hr' : PySem.W.findIn X.K (.ref C) "__radd__" = some rc) (hp : rc = none ∨ ∃ g : Addr, rc = some (.ref g))
    (h1 : PySem.W.findIn X.K (.type "NoneType") "__add__" = some fo) (h2 : PySem.W.findIn X.K (.type "NoneType") "__radd__" = some ro) (u1 : PySem.W.subIn X.K (.type "NoneType") (.ref C) = some false)
    (h3 : PySem.W.findIn X.K (.type "str") "__add__" = some fs') (h4 : PySem.W.findIn X.K (.type "str") "__radd__" = some rs) (u2 : PySem.W.subIn X.K (.type "str") (.ref C) = some false)
    (h5 : PySem.W.findIn X.K (.type "list") "__add__" = some fl) (h6 : PySem.W.findIn X.K (.type "list") "__radd__" = some rl) (u3 : PySem.W.subIn X.K (.type "list") (.ref C) = some false)
    (F : FnOk X.prog X.w X.K X.mg X.base CX k f fd ps sp) (hr : Room k X.A) (hb : Binds X.K fd ps []) (hx : Passes CX X E) : OpR X (binaryOp .Add) (fun x y H Q => ValV H y ∧ rOwn C sp E x y H Q) := by
  intro pins s σ H x y v u Q I rx ry h
  obtain ⟨hy, p, dx, fs, rfl, hp', q⟩ := h
  cases rx
  obtain ⟨ox, od, J⟩ := inst_at I hp'
  obtain ⟨m, hF⟩ := I.fr
  have fin : wpAny (model X.prog X.w) X.A (call (.ref f) [.ref p, u]) (PySem.W.CmpBack (EP X pins σ Q)) X.xe s :=
    wpAny_mono (run_below (vs := [.ref p, y]) F ⟨hr, rfl⟩ hb hx I (.cons rfl (.cons ry .nil)) q) (fun _ _ h => ep_back h) fun _ _ e => e
  rcases hy with rfl | ⟨z, rfl⟩ | ⟨a, xs, rfl, ha'⟩
  · cases ry
    exact PySem.W.ksp_binT (T := "NoneType") hF I.ok.mod.kin J rfl hc hm.at_ hm.fn hr' hp h1 h2 u1 fin
  · obtain ⟨t, rfl⟩ := ry
    exact PySem.W.ksp_binT (T := "str") hF I.ok.mod.kin J rfl hc hm.at_ hm.fn hr' hp h3 h4 u2 fin
  · cases ry
    obtain ⟨z, its, n, r, hl, e⟩ := I.lstM ha'
    exact bin_looks (T := "list") hF I.ok.mod.kin J ((PySem.W.Looks.ld e).andThen .now) hc hm.at_ hm.fn hr' hp h5 h6 u3 fin
end
end TX
namespace TX
open PySem PySem.Spec PyProof.Rows L2
theorem kitN (d : PyData) (K : PySem.W.Frag) : PySem.W.kitOne K (.type (tyD d)) (.type "int") = some (tyD d == "int" || tyD d == "bool") := by
  cases d with
  | none => exact (kit_ty (a := "NoneType") (b := "int") (r := false) (by decide +kernel)).trans (by simp [tyD])
  | bool _ => exact (kit_ty (a := "bool") (b := "int") (r := true) (by decide +kernel)).trans (by simp [tyD])
  | int _ => exact (kit_ty (a := "int") (b := "int") (r := true) (by decide +kernel)).trans (by simp [tyD])
  | str _ => exact (kit_ty (a := "str") (b := "int") (r := false) (by decide +kernel)).trans (by simp [tyD])
  | list _ => exact (kit_ty (a := "list") (b := "int") (r := false) (by decide +kernel)).trans (by simp [tyD])
  | tuple _ => exact (kit_ty (a := "tuple") (b := "int") (r := false) (by decide +kernel)).trans (by simp [tyD])
  | dict _ => exact (kit_ty (a := "dict") (b := "int") (r := false) (by decide +kernel)).trans (by simp [tyD])
theorem kitB (d : PyData) (K : PySem.W.Frag) : PySem.W.kitOne K (.type (tyD d)) (.type "bool") = some (tyD d == "bool") := by
  cases d with
  | none => exact (kit_ty (a := "NoneType") (b := "bool") (r := false) (by decide +kernel)).trans (by simp [tyD])
  | bool _ => exact (kit_ty (a := "bool") (b := "bool") (r := true) (by decide +kernel)).trans (by simp [tyD])
  | int _ => exact (kit_ty (a := "int") (b := "bool") (r := false) (by decide +kernel)).trans (by simp [tyD])
  | str _ => exact (kit_ty (a := "str") (b := "bool") (r := false) (by decide +kernel)).trans (by simp [tyD])
  | list _ => exact (kit_ty (a := "list") (b := "bool") (r := false) (by decide +kernel)).trans (by simp [tyD])
  | tuple _ => exact (kit_ty (a := "tuple") (b := "bool") (r := false) (by decide +kernel)).trans (by simp [tyD])
  | dict _ => exact (kit_ty (a := "dict") (b := "bool") (r := false) (by decide +kernel)).trans (by simp [tyD])
def wholeB : PyData → Bool
  | .int _ => true
  | _ => false
structure Cl (K : PySem.W.Frag) (mg : Str → Option Value) (TE : Addr) (nm : Str) (C : Addr) : Prop where
  mgC : mg nm = some (.ref C)
  ox : OexC K C
  ec : ExcC K C
  xf : XfC K C
  ty : PySem.W.typeIn K (.ref C) = some (.type "type")
  mro : ∃ cd, PySem.W.clsIn K C = some cd ∧ cd.mro = [.ref C, .ref TE, .type "ValueError", .type "Exception", .type "BaseException", .type "object"]
theorem mro_is {K : PySem.W.Frag} {C : Addr} {cd : ClassData} {l : List Value} {b : Value} (h : PySem.W.clsIn K C = some cd) (e : cd.mro = l) (hl : l.isEmpty = false) : PySem.W.mroIn K C b = some (l.contains b) := by
  unfold PySem.W.mroIn
  rw [h]
  show (if cd.mro.isEmpty = true then none else some (cd.mro.contains b)) = _
  rw [e, hl, if_neg Bool.false_ne_true]
theorem ref_beq (a b : Addr) : (Value.ref a == Value.ref b) = decide (a = b) := by
  by_cases h : a = b
  · rw [h, decide_eq_true rfl]
    exact beq_self_eq_true _
  · rw [decide_eq_false h]
    exact beq_eq_false_iff_ne.mpr fun e => h (Value.ref.inj e)
section
variable {K : PySem.W.Frag} {mg : Str → Option Value} {TE C D : Addr} {nm nm' : Str}
theorem kit_same (c : Cl K mg TE nm C) : PySem.W.kitOne K (.ref C) (.ref C) = some true := by
  unfold PySem.W.kitOne
  rw [beq_self_eq_true, if_pos rfl]
theorem kit_cls (c : Cl K mg TE nm C) {cd : ClassData} (hd : PySem.W.clsIn K D = some cd) (ht : PySem.W.typeIn K (.ref D) = some (.type "type")) (hne : C ≠ D) : PySem.W.kitOne K (.ref C) (.ref D) = some (decide (D = TE)) := by
  obtain ⟨c1, h1, h2⟩ := c.mro
  have e1 : (Value.ref C == Value.ref D) = false := by
    rw [ref_beq]
    exact decide_eq_false hne
  have e2 : ((PySem.W.clsIn K D).isSome && PySem.W.typeIn K (.ref D) == some (.type "type")) = true := by
    rw [hd, ht]
    rfl
  unfold PySem.W.kitOne
  rw [e1, if_neg Bool.false_ne_true]
  show (if ((PySem.W.clsIn K D).isSome && PySem.W.typeIn K (.ref D) == some (.type "type")) = true then PySem.W.mroIn K C (.ref D) else none) = _
  rw [if_pos e2, mro_is h1 h2 rfl]
  have e3 : (Value.ref D == Value.ref C) = false := by
    rw [ref_beq]
    exact decide_eq_false (Ne.symm hne)
  simp only [List.contains_cons, e3, ref_beq, Bool.false_or]
  have f1 : (Value.ref D == Value.type "ValueError") = false := rfl
  have f2 : (Value.ref D == Value.type "Exception") = false := rfl
  have f3 : (Value.ref D == Value.type "BaseException") = false := rfl
  have f4 : (Value.ref D == Value.type "object") = false := rfl
  simp [f1, f2, f3, f4]
theorem kit_ve (c : Cl K mg TE nm C) : PySem.W.kitOne K (.ref C) (.type "ValueError") = some true := by
  obtain ⟨c1, h1, h2⟩ := c.mro
  unfold PySem.W.kitOne
  rw [show (Value.ref C == Value.type "ValueError") = false from rfl, if_neg Bool.false_ne_true]
  show (if PySem.W.kitMeta "ValueError" = true then PySem.W.mroIn K C (.type "ValueError") else none) = _
  rw [if_pos (by decide +kernel), mro_is h1 h2 rfl]
  have f0 : (Value.type "ValueError" == Value.ref C) = false := rfl
  have f1 : (Value.type "ValueError" == Value.ref TE) = false := rfl
  have f2 : (Value.type "ValueError" == Value.type "ValueError") = true := by decide +kernel
  simp only [List.contains_cons, f0, f1, f2, Bool.true_or, Bool.or_true]
/-- what «except TextorlistError» takes -/
theorem exm_te (c : Cl K mg TE nm C) (hs : PySem.W.subIn K (.ref TE) (.type "BaseException") = some true) (hd : PySem.W.hasDictIn K TE = true) (ht : PySem.W.typeIn K (.ref TE) = some (.type "type")) : PySem.W.exmOne K (.ref C) (.ref TE) = some true := by
  obtain ⟨c1, h1, h2⟩ := c.mro
  refine PySem.W.exm_ref hs hd ht ?_
  show PySem.W.mroIn K C (.ref TE) = _
  rw [mro_is h1 h2 rfl]
  have f1 : (Value.ref TE == Value.ref TE) = true := beq_self_eq_true _
  simp only [List.contains_cons, f1, Bool.true_or, Bool.or_true]
end
def rIsE3 (K : PySem.W.Frag) (a : Addr) (cls : Value) (d : Option Addr) : List V → Hp → VK → Prop := fun xs H Q => ∃ (D : Addr) (c : V) (cv : Value) (b : Bool), cls = .ref D ∧ ExcC K D ∧ xs = [.ref a, c] ∧ ClsV c cv ∧ PySem.W.kitOne K (.ref D) cv = some b ∧ (∀ dd, d = some dd → ∃ fs, H dd = some (.xd fs)) ∧ Q (.bl b) H
theorem call_isE3 {X : Cx} {a : Addr} {oe : Obj} {cls : Value} {d : Option Addr} {pn : List (Addr × Obj)} (hz : Zc cls d oe) (hf : ∃ vs, oe.data = .fields vs) : CallR (X.suite a ((a, oe) :: pn)) (.builtin "isinstance") (rIsE3 X.K a cls d) := by
  intro pins s σ H xs us Q I r h
  obtain ⟨D, c, cv, b, rfl, C, h1, h2, h3, h4, q⟩ := h
  exact call_isE2 C hz hf pins s σ H xs us Q I r ⟨c, cv, b, h1, h2, h3, h4, q⟩
theorem take0 {X : Cx} : Takes X (fun _ _ _ _ => False) := fun _ _ ⟨_, _, _, _, _, _, _, _, _, _, _, _, _, _, _, _, z⟩ => z.elim
/-- what the top's row of facts says of an error's class -/
theorem cl_of {K : PySem.W.Frag} {mg : Str → Option Value} {TE C : Addr} {x nm q : Str} {N : Addr} {bs : List Value} {sn : List Str} {sub : List Value} {ab : Bool} {col : Option Bool} {dd : Option Addr} {m0 m1 m2 m3 m5 : Option Value}
    (g : mg x = some (.ref C)) (l : K.lookup C = some (excClassObj nm q C N bs [.ref TE, .type "ValueError", .type "Exception", .type "BaseException", .type "object"] true sn sub ab col dd m0 m1 m2 m3 m5 "ValueError.__new__"))
    (sa : PySem.W.findIn K (.ref C) "__setattr__" = some (some (.builtin "object.__setattr__"))) (ga : PySem.W.findIn K (.ref C) "__getattribute__" = some (some (.builtin "BaseException.__getattribute__"))) (gg : PySem.W.findIn K (.ref C) "__getattr__" = some none)
    (ha : PySem.W.findIn K (.ref C) "__class__" = some (some (.builtin "object.__class__"))) (hn : PySem.W.specialIn K (.builtin "object.__class__") "__get__" = some (some (.builtin "getset_descriptor.__get__"))) (ht : PySem.W.takesIn K (.builtin "object.__class__") = some true)
    (kc : PySem.W.keepIn K (.ref C) = true) : Cl K mg TE x C := by
  have hc : ∃ cd, PySem.W.clsIn K C = some cd ∧ cd.mro = [.ref C, .ref TE, .type "ValueError", .type "Exception", .type "BaseException", .type "object"] ∧ cd.hasDict = true := by
    refine ⟨{ name := nm, bases := bs, mro := [.ref C, .ref TE, .type "ValueError", .type "Exception", .type "BaseException", .type "object"], ns := N, qualname := q, hasDict := true, slotNames := sn, subclasses := sub, abstract := ab, collection := col, hasDel := false }, ?_, ?_, ?_⟩
    · unfold PySem.W.clsIn
      rw [l] <;> rfl
    · rfl
    · rfl
  obtain ⟨cd, h1, h2, h3⟩ := hc
  have has : ∀ T : String, PySem.W.mroIn K C (.type T) = some ((Value.type T == Value.type "ValueError") || ((Value.type T == Value.type "Exception") || ((Value.type T == Value.type "BaseException") || ((Value.type T == Value.type "object") || false)))) := by
    intro T
    rw [mro_is h1 h2 rfl]
    have f0 : (Value.type T == Value.ref C) = false := rfl
    have f1 : (Value.type T == Value.ref TE) = false := rfl
    simp only [List.contains_cons, f0, f1, Bool.false_or, List.contains_nil]
  have sB : PySem.W.subIn K (.ref C) (.type "BaseException") = some true := (has "BaseException").trans (by decide +kernel)
  have sO : PySem.W.mroIn K C (.type "object") = some true := (has "object").trans (by decide +kernel)
  have hd : PySem.W.hasDictIn K C = true := by
    unfold PySem.W.hasDictIn
    rw [h1]
    exact h3
  have ty : PySem.W.typeIn K (.ref C) = some (.type "type") := by
    show (K.lookup C).map (·.cls) = _
    rw [l] <;> rfl
  exact ⟨g, ⟨⟨nm, q, N, bs, _, sn, sub, ab, col, dd, m0, m1, m2, m3, m5, l, rfl⟩, sa, sB, ty, kc⟩, ⟨ga, gg, sB, hd, ha, hn, ht, sO⟩, ⟨ga, gg, sB, hd⟩, ty, cd, h1, h2⟩
theorem passF {X : Cx} : Passes (L2.CX X.prog X.w) X (fun _ _ _ => False) := fun _ _ _ _ _ _ _ ⟨_, _, _, _, _, _, _, _, _, _, _, _, z⟩ => z.elim
/-- behind an __init__ of the fields fs: the error at a, its dict at dx -/
structure Made (K : PySem.W.Frag) (H : Hp) (a C dx : Addr) (fs : List (Str × V)) (H2 : Hp) (ws : List V) (ds : List PyData) : Prop where
  ea : H2 a = some (exo a C (some dx))
  ed : H2 dx = some (exd dx fs)
  new : H dx = none
  ne : dx ≠ a
  keep : ∀ b o, b ≠ a → H b = some o → H2 b = some o
  dat : DpAll K (del (del H2 a) dx) ws ds
def spIn1 (K : PySem.W.Frag) (C : Addr) (fld : Str) : Sp := fun vs H Q _ => ∃ (a : Addr) (v : V) (d : PyData) (Hv : Hp), vs = [.ref a, v] ∧ OexC K C ∧ PySem.W.findIn K (.ref C) fld = some none ∧ H a = some (exo a C none) ∧ Same Hv H ∧ Dp K Hv v d ∧ nd d ≤ 1000000 ∧
  ∀ (H2 : Hp) (dx : Addr) (w : V), Made K H a C dx [(fld, w)] H2 [w] [d] → Q .non H2
theorem cut_same {H H' : Hp} {a dx : Addr} {o : HO} {u u' : HO} (ha : H a = some o) (hd : H' dx = none) : Same (newp H H') (del (del (upd (upd H' dx u) a u') a) dx) := fun b x e => by
  cases h : H b with
  | some y =>
    rw [newp_old h] at e
    cases e
  | none =>
    rw [newp_at h] at e
    have ba : b ≠ a := fun z => by
      rw [z, ha] at h
      cases h
    have bd : b ≠ dx := fun z => by
      rw [z, hd] at e
      cases e
    rw [del_ne bd, del_ne ba, upd_ne ba, upd_ne bd]
    exact e
theorem made_same {K : PySem.W.Frag} {H H2 : Hp} {a C dx : Addr} {fs fs' : List (Str × V)} {ws : List V} {ds : List PyData} (na : H a = none) (M : Made K (upd H a (exo a C none)) a C dx fs H2 ws ds) :
    Same H (upd (del H2 a) dx (.xd fs')) ∧ H dx = none ∧ DpAll K (upd (del H2 a) dx (.xd fs')) ws ds := by
  have hd : H dx = none := by
    have e := M.new
    rw [upd_ne M.ne] at e
    exact e
  refine ⟨fun b o e => ?_, hd, dpAll_same (fun b o e => ?_) _ _ M.dat⟩
  · have ba := ne_of_none e na
    rw [upd_ne (ne_of_none e hd), del_ne ba]
    exact M.keep b o ba (by rw [upd_ne ba]; exact e)
  · by_cases hb : b = dx
    · rw [hb, del_same] at e
      cases e
    · rw [upd_ne hb]
      rw [del_ne hb] at e
      exact e
def tFe (K : PySem.W.Frag) (a : Addr) (cls : Value) (d : Option Addr) (f : Str) (te : TE) : TE := fun σ H Q => ∃ C, cls = .ref C ∧ XfC K C ∧ PySem.W.findIn K (.ref C) f = some none ∧ tXf a cls d C f te σ H Q
theorem pe_fe {X : Cx} {a : Addr} {oe : Obj} {cls : Value} {d : Option Addr} {pn : List (Addr × Obj)} {e : Expr} {te : TE} {pos : Pos} {n : Str} (hz : Zc cls d oe) (hf : ∃ vs, oe.data = .fields vs) (he : PE (X.suite a ((a, oe) :: pn)) e te)
    (hb : attributeBase e n X.env (eval e X.env) = eval e X.env := by rfl) : PE (X.suite a ((a, oe) :: pn)) (.Attribute e n pos) (tFe X.K a cls d n te) := by
  refine ⟨fun pins s σ H Q I h => ?_⟩
  obtain ⟨C, _, T, hno, h⟩ := h
  exact (pe_xf T hno hz hf he hb).run pins s σ H Q I h


def spWholeD (K : PySem.W.Frag) : Sp := fun vs H Q _ => ∃ (v : V) (d : PyData) (Hv : Hp), vs = [v] ∧ Same Hv H ∧ Dp K Hv v d ∧ Q (.bl (wholeB d)) H
/-- the index that is meant, if it is one -/
def atN (n : Nat) : PyData → Option Nat
  | .int i => ixN n i
  | _ => none
theorem ixN_in {n : Nat} {i : Int} : (-(n : Int) ≤ i ∧ i < (n : Int)) ↔ ∃ j, ixN n i = some j := by
  unfold ixN
  by_cases h0 : 0 ≤ i
  · rw [if_pos h0]
    by_cases h1 : i < (n : Int)
    · rw [if_pos (by omega)]
      exact ⟨fun _ => ⟨_, rfl⟩, fun _ => by omega⟩
    · rw [if_neg (by omega)]
      exact ⟨fun h => by omega, fun ⟨j, e⟩ => nomatch e⟩
  · rw [if_neg h0]
    by_cases h1 : -(n : Int) ≤ i
    · rw [if_pos (by omega)]
      exact ⟨fun _ => ⟨_, rfl⟩, fun _ => by omega⟩
    · rw [if_neg (by omega)]
      exact ⟨fun h => by omega, fun ⟨j, e⟩ => nomatch e⟩
/-- what a refusal hands on -/
def NoAt (K : PySem.W.Frag) (NE : Addr) (H : Hp) (pl : PyData) (E : XK) : Prop := ∀ (H3 : Hp) (dx : Addr) (w : V), Same H H3 → H3 dx = some (.xd [("at", w)]) → Dp K H3 w pl → E (.ref NE) (some dx) H3
def spIdxD (K : PySem.W.Frag) (NE : Addr) : Sp := fun vs H Q E => ∃ (r : Addr) (ws : List V) (u : V) (pl : PyData) (Hv : Hp), vs = [.ref r, u] ∧ SqL K H r ws ∧ ws.length ≤ 10000 ∧ Same Hv H ∧ Dp K Hv u pl ∧ nd pl ≤ 100000 ∧
  (∀ j, atN ws.length pl = some j → Q .non H) ∧ (atN ws.length pl = none → NoAt K NE H pl E)
def spGetD (K : PySem.W.Frag) (C NE : Addr) : Sp := fun vs H Q E => ∃ (p dx r : Addr) (ws : List V) (ds : List PyData) (u : V) (pl : PyData) (Hv : Hp), vs = [.ref p, u] ∧ H p = some (.ins C dx (rowsF r)) ∧ H r = some (.lst ws) ∧ Same Hv H ∧ DpAll K Hv ws ds ∧ ndAll ds ≤ 10000 ∧ Dp K Hv u pl ∧ nd pl ≤ 100000 ∧
  (∀ j d, atN ws.length pl = some j → ds[j]? = some d → ∀ (H' : Hp) (v' : V) (S : List Addr), Same H H' → Tr H' v' d S → (∀ b ∈ S, H b = none) → Q v' H') ∧ (atN ws.length pl = none → NoAt K NE H pl E)
def spSetD (K : PySem.W.Frag) (C NE : Addr) : Sp := fun vs H Q E => ∃ (p dx r : Addr) (ws : List V) (u v : V) (pl d : PyData) (Hv : Hp), vs = [.ref p, u, v] ∧ H p = some (.ins C dx (rowsF r)) ∧ H r = some (.lst ws) ∧ ws.length ≤ 10000 ∧ Same Hv H ∧ Dp K Hv u pl ∧ nd pl ≤ 100000 ∧ Dp K Hv v d ∧ valD d ∧ sz d ≤ 5000 ∧
  (∀ j, atN ws.length pl = some j → ∀ (H' : Hp) (w : V) (S : List Addr), (∀ b o, b ≠ r → H b = some o → H' b = some o) → H' r = some (.lst (ws.set j w)) → Tr H' w d S → r ∉ S → (∀ b ∈ S, H b = none) → Q .non H') ∧ (atN ws.length pl = none → NoAt K NE H pl E)
/-! ### own methods that may raise, in a try's body -/
section
variable {X : Cx} {CX : CXT} {C f : Addr} {k : Nat} {fd : FuncData} {ps : List Str} {sp : Sp} {E : L2.St → XK}
theorem run_belowS {pins : List (Addr × Obj)} {σ : L2.St} {H : Hp} {s : Shared} {Q : VK} {us : List Value} {vs : List V} {A : Around} (F : FnOk X.prog X.w X.K X.mg X.base CX k f fd ps sp) (sb : Sub X k A) (hb : Binds X.K fd ps []) (hx : PassesAt CX X σ (E σ))
    (I : Inv X pins σ H s) (r : Vals vs us) (h : sp vs H Q (E σ)) : wpAny (model X.prog X.w) A (call (.ref f) us) (EP X pins σ Q) X.xe s := by
  have e0 : Env0 X.prog X.w X.K X.mg X.base A X.stack s H := by
    have e := I.env0
    exact ⟨by rw [sb.fr]; exact e.frames, e.mod, e.bs, e.bsz, e.funs, e.frf, e.hok, e.bare⟩
  have hl := F.len _ _ _ _ h
  refine wpAny_call (codeAny_mono (F.run A X.stack s H ⟨us, []⟩ us vs Q (E σ) sb.room e0 (by
    have := hb s us I.kIn (by rw [List.append_nil, ← r.length]; exact hl)
    simpa using this) r h) fun r s' hq => ?_)
  cases r with
  | error e => exact hx pins H s e s' I hq
  | ok fl =>
    cases fl with
    | ret w => exact I.after hq
    | next => exact False.elim hq
    | brk => exact False.elim hq
    | cont => exact False.elim hq
def tGetO (C : Addr) (sp : Sp) (E : L2.St → XK) (to ti : TE) : TE := fun σ H Q => to σ H fun x H1 => ti σ H1 fun y H2 => ∃ p dx fs, x = .ref p ∧ H2 p = some (.ins C dx fs) ∧ sp [x, y] H2 Q (E σ)
theorem pe_getO {o i : Expr} {to ti : TE} {pos : Pos} (ho : PE X o to) (hi : PE X i ti) (hm : Meth X.K C "__getitem__" f) (hfn : PySem.W.fnIn X.K f = true) (F : FnOk X.prog X.w X.K X.mg X.base CX k f fd ps sp) (hr : Room (k + 1) X.A) (hb : Binds X.K fd ps []) (hx : ∀ σ, PassesAt CX X σ (E σ))
    (hsl : ∀ v u, subscripted i true v u = runValue (.builtin "lifetime.subscript" ⟨[v, u], []⟩) := by intro _ _; rfl) : PE X (.Subscript o i pos) (tGetO C sp E to ti) := by
  refine ⟨fun pins s σ H Q I h => ?_⟩
  refine Subscript_ (binT (R := fun x y H2 => ∃ p dx fs, x = .ref p ∧ H2 p = some (.ins C dx fs) ∧ sp [x, y] H2 Q (E σ)) ho hi I h fun v u s2 x y H2 I2 rx ry q => ?_)
  obtain ⟨p, dx, fs, rfl, hp, q⟩ := q
  cases rx
  obtain ⟨ox, od, J⟩ := inst_at I2 hp
  obtain ⟨m, hF⟩ := I2.fr
  exact PySem.W.sub_K hF I2.ok.mod.kin J hm.at_ hfn hm.fn (run_belowS (vs := [.ref p, y]) F (Sub.in1 ⟨hr, rfl⟩) hb (hx σ) I2 (.cons rfl (.cons ry .nil)) q) (hsl _ _)
def tMethS (C : Addr) (m : Str) (sp : Sp) (E : L2.St → XK) (ta : TE) (t : TA) : TE := fun σ H Q => ta σ H fun x H1 => ∃ a dx fs, x = .ref a ∧ H1 a = some (.ins C dx fs) ∧ fs.lookup m = none ∧ t σ H1 fun vs H2 => sp (x :: vs) H2 Q (E σ)
theorem pe_methT {o e : Expr} {es : List Expr} {m : Str} {ta : TE} {t : TA} {apos pos : Pos} {pl : Sem Bool} (he : PE X o ta) (c : Cls X.K C) (hm : Meth X.K C m f) (F : FnOk X.prog X.w X.K X.mg X.base CX k f fd ps sp) (hr : Room k X.A) (hb : Binds X.K fd ps []) (hx : ∀ σ, PassesAt CX X σ (E σ)) (ha : PA X (e :: es) t)
    (hst : starEach (e :: es) X.env = (false, eval e X.env) :: starEach es X.env := by rfl) (hpl : (backTo pos (starEach es X.env)).any (·.1) = false := by rfl)
    (ht : eval (.Call (.Attribute o m apos) (e :: es) [] pos) X.env = (do
      let ov ← eval o X.env
      standAt apos.atName
      let (f, first) ← holding [ov] (getMethod ov m pl)
      callWith pos f first (backTo pos (starEach (e :: es) X.env)) (backToKw pos (keywordEach [] X.env))) := by rfl) :
    PE X (.Call (.Attribute o m apos) (e :: es) [] pos) (tMethS C m sp E ta t) := by
  refine ⟨fun pins s σ H Q I h => ?_⟩
  refine PySem.W.methodCall_KW (pl := pl) (thn (he.run pins s σ H _ I h) fun u s1 ⟨x, H1, I1, rx, a, dx, fs, ex, ea, l, q⟩ => ?_) ht
  subst ex
  obtain rfl : u = Value.ref a := rx
  refine getmeth_ok I1 ea c hm l ?_
  refine PySem.W.callWith_K (first := [.ref a]) (h₀ := X.base) I.ok.mod.kin hm.kp (thn (ha.run pos pins s1 σ H1 _ I1 q) fun us s2 ⟨vs, H2, I2, r, q2⟩ => ⟨I2.kIn, ?_⟩) hst hpl
  exact run_fnS (us := .ref a :: us) (vs := .ref a :: vs) F hr hb (hx σ) I2 (.cons rfl r) q2
end
section
variable {P : Program} {w : World} {K : PySem.W.Frag} {mg : Str → Option Value} {base : Heap} {TE NE C : Addr}
theorem scWholeD : FnScope ["thing"] ["thing"] (defScope s_is_whole_number) := ⟨rfl, rfl, rfl, by decide +kernel, rfl, by decide +kernel, by decide +kernel⟩
theorem ok_wholeD {f : Addr} {fd : FuncData} (F : Fun K "is_whole_number" "is_whole_number" s_is_whole_number f fd) (T : Nm mg) (k : Nq mg) (B : Nb mg) : FnOk P w K mg base CX0 1 f fd ["thing"] (spWholeD K) := by
  refine F.ok scWholeD (fun vs H Q E h => ?_) (fun cdv A outer s H vs Q E hr h => ?_)
  · obtain ⟨v, d, Hv, rfl, _⟩ := h
    rfl
  · obtain ⟨v, d, Hv, rfl, sv, hd, q⟩ := h
    refine ⟨_, pss_one (ps_ret (pe_and (pe_callB call_isi (by rfl) T.isi (by decide +kernel) (pa_cons (pv 0) (pa_cons (pe_bltn (v := .ty "int") (by rfl) B.int (by decide +kernel) rfl) pa_nil)))
      (pe_one (pe_not (pe_callB call_isi (by rfl) T.isi (by decide +kernel) (pa_cons (pv 0) (pa_cons (pe_bltn (v := .ty "bool") (by rfl) k.bool (by decide +kernel) rfl) pa_nil))))))), ?_⟩
    have ty := dp_ty (dp_same sv _ _ hd)
    refine ⟨_, rfl, v, .ty "int", _, .type "int", _, rfl, .ty _, ty, kitN d K, _, rfl, ?_⟩
    by_cases e : (tyD d == "int" || tyD d == "bool") = true
    · rw [e]
      refine iteT ⟨_, rfl, v, .ty "bool", _, .type "bool", _, rfl, .ty _, ty, kitB d K, _, rfl, ?_⟩
      have e2 : (!(tyD d == "bool")) = wholeB d := by
        cases d <;> simp [tyD] at e <;> simp [tyD, wholeB]
      show Q (.bl (!(tyD d == "bool"))) H
      rw [e2]
      exact q
    · have e' : (tyD d == "int" || tyD d == "bool") = false := by simpa using e
      rw [e']
      have e2 : wholeB d = false := by
        cases d with
        | int _ => simp [tyD] at e'
        | _ => rfl
      rw [e2] at q
      exact iteF q
theorem scNe : FnScope ["self", "at"] ["self", "at"] (defScope mNoEntry_init) := ⟨rfl, rfl, rfl, by decide +kernel, rfl, by decide +kernel, by decide +kernel⟩
theorem ok_inNe {f D fC : Addr} {fd fdC : FuncData} (F : Fun K "__init__" "NoEntry.__init__" mNoEntry_init f fd) (GC : FnOk P w K mg base CX0 2 fC fdC ["thing"] (spCopy K)) (gC : mg "copy_of" = some (.ref fC)) (kC : PySem.W.keepIn K (.ref fC) = true) (bC : Binds K fdC ["thing"] []) :
    FnOk P w K mg base CX0 3 f fd ["self", "at"] (spIn1 K D "at") := by
  refine F.ok scNe (fun vs H Q E h => ?_) (fun cdv A outer s H vs Q E hr h => ?_)
  · obtain ⟨a, v, d, Hv, rfl, _⟩ := h
    rfl
  · obtain ⟨a, v, d, Hv, rfl, ox, no, ha, sv, hd, hn, q⟩ := h
    refine ⟨_, pss_one (ps_ost (pv 0) (pe_call GC hr (by rfl) gC kC bC .nil pass0 (pa_cons (pv 1) pa_nil))), ?_⟩
    refine ⟨_, rfl, v, d, Hv, rfl, sv, hd, hn, fun H' v' sm hv' => ⟨_, rfl, a, D, rfl, ox, no, .inl ⟨sm _ _ ha, fun dx ndx hne => ?_⟩⟩⟩
    refine q _ dx v' ⟨upd_same, by rw [upd_ne hne, upd_same], sm.free ndx, hne, fun b o hb e => ?_, .cons (dp_same (cut_same ha ndx) _ _ hv') .nil⟩
    rw [upd_ne hb, upd_ne (ne_of_none (sm _ _ e) ndx)]
    exact sm _ _ e
theorem scIdxD : FnScope ["rows", "at"] ["rows", "at"] (defScope s_check_index) := ⟨rfl, rfl, rfl, by decide +kernel, rfl, by decide +kernel, by decide +kernel⟩
theorem ok_idxD {f fW fI : Addr} {fd dW dI : FuncData} (F : Fun K "check_index" "check_index" s_check_index f fd) (B : Nb mg) (c : Cl K mg TE "NoEntry" NE) (iC : PySem.W.findIn K (.ref NE) "__init__" = some (some (.ref fI))) (tI : PySem.W.typeIn K (.ref fI) = some (.type "function")) (nP : PySem.W.findIn K (.ref NE) "at" = some none)
    (GI : FnOk P w K mg base CX0 3 fI dI ["self", "at"] (spIn1 K NE "at")) (bI : Binds K dI ["self", "at"] [])
    (GW : FnOk P w K mg base CX0 1 fW dW ["thing"] (spWholeD K)) (gW : mg "is_whole_number" = some (.ref fW)) (kW : PySem.W.keepIn K (.ref fW) = true) (bW : Binds K dW ["thing"] []) :
    FnOk P w K mg base (L2.CX P w) 5 f fd ["rows", "at"] (spIdxD K NE) := by
  refine F.okX scIdxD (fun vs H Q E h => ?_) (fun cdv A outer s H vs Q E hr h => ?_)
  · obtain ⟨r, ws, u, pl, Hv, rfl, _⟩ := h
    rfl
  · obtain ⟨r, ws, u, pl, Hv, rfl, hS, hl, sv, hu, hnd, q1, q2⟩ := h
    refine ⟨_, pss_one (ps_if (PW.pt (pw_or (pt_not (pt_val (pe_call GW (hr.mono (by decide)) (by rfl) gW kW bW .nil pass0 (pa_cons (pv 1) pa_nil)))) (pw_or1 (pt_not (pt_chain op_le op_lt (pe_un un_neg (pe_callB call_len_seq (by rfl) B.len PySem.boot_len (pa_cons (pv 0) pa_nil))) (pv 1)
      (pe_callB call_len_seq (by rfl) B.len PySem.boot_len (pa_cons (pv 0) pa_nil))))))) (pss_one (ps_raise rfl (takes_of rfl rfl rfl rfl) (by exact (pmk_oex c.ox iC tI GI hr bI .nil pass0 (by rfl) c.mgC (pa_cons (pv 1) pa_nil))))) pss_nil), ?_⟩
    have bad : atN ws.length pl = none → ∀ a, H a = none → ∃ (a' : Addr) (v' : V) (d' : PyData) (Hw : Hp), [V.ref a, u] = [.ref a', v'] ∧ OexC K NE ∧ PySem.W.findIn K (.ref NE) "at" = some none ∧ (upd H a (exo a NE none)) a' = some (exo a' NE none) ∧ Same Hw (upd H a (exo a NE none)) ∧ Dp K Hw v' d' ∧ nd d' ≤ 1000000 ∧
        ∀ (H2 : Hp) (dx : Addr) (w : V), Made K (upd H a (exo a NE none)) a' NE dx [("at", w)] H2 [w] [d'] → V.non = .non ∧ ∃ (dy : Addr) (fs : List (Str × V)), H2 a = some (exo a NE (some dy)) ∧ H2 dy = some (exd dy fs) ∧ H dy = none ∧ E (.ref NE) (some dy) (upd (del H2 a) dy (.xd fs)) := by
      intro e a na
      refine ⟨a, u, pl, Hv, rfl, c.ox, nP, upd_same, sv.trans (same_upd na), hu, by omega, fun H2 dx w M => ?_⟩
      obtain ⟨s2, nx, hw⟩ := made_same (fs' := [("at", w)]) na M
      cases hw with
      | cons hw _ => exact ⟨rfl, dx, _, M.ea, M.ed, nx, q2 e _ dx w s2 upd_same hw⟩
    refine ⟨_, rfl, u, pl, Hv, rfl, sv, hu, _, rfl, ?_⟩
    by_cases hk : wholeB pl = true
    · rw [hk]
      refine iteF ?_
      cases hu with
      | int n =>
        refine ⟨_, rfl, r, ws, rfl, .inl hS, _, rfl, _, rfl, _, _, rfl, rfl, _, rfl, ?_⟩
        by_cases h0 : -((ws.length : Nat) : Int) ≤ n
        · rw [decide_eq_true h0]
          refine iteT ⟨_, rfl, r, ws, rfl, .inl hS, _, _, rfl, rfl, _, rfl, ?_⟩
          by_cases h1 : n < ((ws.length : Nat) : Int)
          · rw [decide_eq_true h1]
            obtain ⟨j, ej⟩ := ixN_in.mp ⟨h0, h1⟩
            exact iteF (q1 j ej)
          · rw [decide_eq_false h1]
            refine iteT ?_
            have hn : atN ws.length (.int n) = none := by
              cases e : atN ws.length (.int n) with
              | none => rfl
              | some j => exact absurd (ixN_in.mpr ⟨j, e⟩).2 h1
            exact ⟨_, rfl, (by show 1 ≤ 1000; decide), fun a na => bad hn a na⟩
        · rw [decide_eq_false h0]
          refine iteF ⟨_, rfl, iteT ?_⟩
          have hn : atN ws.length (.int n) = none := by
            cases e : atN ws.length (.int n) with
            | none => rfl
            | some j => exact absurd (ixN_in.mpr ⟨j, e⟩).1 h0
          exact ⟨_, rfl, (by show 1 ≤ 1000; decide), fun a na => bad hn a na⟩
      | _ => simp [wholeB] at hk
    · have hk2 : wholeB pl = false := by simpa using hk
      rw [hk2]
      refine iteT ?_
      have hn : atN ws.length pl = none := by
        cases pl <;> first | rfl | simp [wholeB] at hk2
      exact ⟨_, rfl, (by show 1 ≤ 1000; decide), fun a na => bad hn a na⟩
end
end TX
namespace TX
open PySem PySem.Spec PyProof.Rows L2
section
variable {P : Program} {w : World} {K : PySem.W.Frag} {mg : Str → Option Value} {base : Heap} {TE NE C : Addr}
theorem scGet : FnScope ["self", "at"] ["self", "at"] (defScope mEntries_getitem) := ⟨rfl, rfl, rfl, by decide +kernel, rfl, by decide +kernel, by decide +kernel⟩
theorem ok_get {f fI fC : Addr} {fd dI dC : FuncData} (F : Fun K "__getitem__" "Entries.__getitem__" mEntries_getitem f fd) (T : En K mg C) (GI : FnOk P w K mg base (L2.CX P w) 5 fI dI ["rows", "at"] (spIdxD K NE)) (gI : mg "check_index" = some (.ref fI)) (kI : PySem.W.keepIn K (.ref fI) = true) (bI : Binds K dI ["rows", "at"] [])
    (GC : FnOk P w K mg base CX0 2 fC dC ["thing"] (spCopyT K)) (gC : mg "copy_of" = some (.ref fC)) (kC : PySem.W.keepIn K (.ref fC) = true) (bC : Binds K dC ["thing"] []) : FnOk P w K mg base (L2.CX P w) 6 f fd ["self", "at"] (spGetD K C NE) := by
  refine F.okX scGet (fun vs H Q E h => ?_) (fun cdv A outer s H vs Q E hr h => ?_)
  · obtain ⟨p, dx, r, ws, ds, u, pl, Hv, rfl, _⟩ := h
    rfl
  · obtain ⟨p, dx, r, ws, ds, u, pl, Hv, rfl, hp, hr', sv, hw, hn, hu, hnd, q1, q2⟩ := h
    refine ⟨_, pss_cons (ps_expr (pe_call (E := E) GI hr (by rfl) gI kI bI .nil (passes_call (takes_of rfl rfl rfl rfl) fun _ _ _ _ z => z) (pa_cons (pe_fld (pv 0) rfl) (pa_cons (pv 1) pa_nil)))) <|
      pss_one (ps_ret (pe_call GC (hr.mono (by decide)) (by rfl) gC kC bC .nil pass0 (pa_cons (pe_ix ix_list (pe_fld (pv 0) rfl) (pv 1) (fun _ _ => rfl)) pa_nil))), ?_⟩
    have wl := DpAll.length hw
    have dl := ndAll_len ds
    refine ⟨_, rfl, p, C, dx, _, _, rfl, hp, T.cl, T.nR, rows_get r, _, rfl, r, ws, u, pl, Hv, rfl, SqL.of hr', by omega, sv, hu, hnd, fun j ej => ?_, q2⟩
    cases hu with
    | int n =>
      have en : ixN ws.length n = some j := ej
      obtain ⟨_, jl, _, _⟩ := ixN_seq en
      have hx : ws[j]? = some ws[j] := List.getElem?_eq_getElem jl
      obtain ⟨d, hd, hdd⟩ := DpAll.get hw hx
      have hat : atI ws n = some ws[j] := by
        unfold atI
        rw [en]
        exact hx
      have ndd := nd_get hd
      refine ⟨_, rfl, p, C, dx, _, _, rfl, hp, T.cl, T.nR, rows_get r, _, rfl, r, ws, n, _, rfl, rfl, SqL.of hr', hat, ?_⟩
      exact ⟨_, d, Hv, rfl, sv, hdd, by omega, q1 j d ej hd⟩
    | _ => exact nomatch ej
theorem scSetD : FnScope ["self", "at", "worth"] ["self", "at", "worth"] (defScope mEntries_setitem) := ⟨rfl, rfl, rfl, by decide +kernel, rfl, by decide +kernel, by decide +kernel⟩
theorem ok_setD {f fI fK fC : Addr} {fd dI dK dC : FuncData} (F : Fun K "__setitem__" "Entries.__setitem__" mEntries_setitem f fd) (T : En K mg C) (GI : FnOk P w K mg base (L2.CX P w) 5 fI dI ["rows", "at"] (spIdxD K NE)) (gI : mg "check_index" = some (.ref fI)) (kI : PySem.W.keepIn K (.ref fI) = true) (bI : Binds K dI ["rows", "at"] [])
    (GK : FnOk P w K mg base CX0 3 fK dK ["thing"] (spOkV K .non)) (gK : mg "check_value" = some (.ref fK)) (kK : PySem.W.keepIn K (.ref fK) = true) (bK : Binds K dK ["thing"] [])
    (GC : FnOk P w K mg base CX0 2 fC dC ["thing"] (spCopyT K)) (gC : mg "copy_of" = some (.ref fC)) (kC : PySem.W.keepIn K (.ref fC) = true) (bC : Binds K dC ["thing"] []) : FnOk P w K mg base (L2.CX P w) 6 f fd ["self", "at", "worth"] (spSetD K C NE) := by
  refine F.okX scSetD (fun vs H Q E h => ?_) (fun cdv A outer s H vs Q E hr h => ?_)
  · obtain ⟨p, dx, r, ws, u, v, pl, d, Hv, rfl, _⟩ := h
    rfl
  · obtain ⟨p, dx, r, ws, u, v, pl, d, Hv, rfl, hp, hr', hl, sv, hu, hnd, hd, vd, hz, q1, q2⟩ := h
    refine ⟨_, pss_cons (ps_expr (pe_call (E := E) GI hr (by rfl) gI kI bI .nil (passes_call (takes_of rfl rfl rfl rfl) fun _ _ _ _ z => z) (pa_cons (pe_fld (pv 0) rfl) (pa_cons (pv 1) pa_nil)))) <|
      pss_cons (ps_expr (pe_call GK (hr.mono (by decide)) (by rfl) gK kK bK .nil pass0 (pa_cons (pv 2) pa_nil))) <|
      pss_one (ps_asg (pe_call GC (hr.mono (by decide)) (by rfl) gC kC bC .nil pass0 (pa_cons (pv 2) pa_nil)) (pg_sub (pe_fld (pv 0) rfl) (pv 1) set_list)), ?_⟩
    refine ⟨_, rfl, p, C, dx, _, _, rfl, hp, T.cl, T.nR, rows_get r, _, rfl, r, ws, u, pl, Hv, rfl, SqL.of hr', hl, sv, hu, hnd, fun j ej => ?_, q2⟩
    cases hu with
    | int i =>
      have en : ixN ws.length i = some j := ej
      have ns := nd_sz d vd
      refine ⟨_, rfl, v, d, Hv, rfl, sv, hd, vd, by omega, fun H1 s1 => ?_⟩
      refine ⟨_, rfl, v, d, Hv, rfl, sv.trans s1, hd, by omega, fun H2 w S s2 tr fr => ?_⟩
      have s12 := s1.trans s2
      refine ⟨_, rfl, p, C, dx, _, _, rfl, s12 _ _ hp, T.cl, T.nR, rows_get r, _, rfl, r, ws, i, j, rfl, rfl, s12 _ _ hr', en, ?_⟩
      have rS : r ∉ S := fun z => by
        have := fr r z
        rw [s1 _ _ hr'] at this
        cases this
      refine q1 j ej _ w S (fun b o hb e => by rw [upd_ne hb]; exact s12 _ _ e) upd_same (Tr.frame tr fun b hb o e => ?_) rS fun b hb => s1.free (fr b hb)
      rw [upd_ne (fun z => rS (by rw [← z]; exact hb))]
      exact e
    | _ => exact nomatch ej
theorem scSetF : FnScope ["self", "at", "value"] ["self", "at", "value"] (defScope mEntries_set_entry) := ⟨rfl, rfl, rfl, by decide +kernel, rfl, by decide +kernel, by decide +kernel⟩
theorem ok_setF {f fI : Addr} {fd dI : FuncData} (F : Fun K "set_entry" "Entries.set_entry" mEntries_set_entry f fd) (hm : Meth K C "__setitem__" fI) (hq : PySem.W.noSeq K C = true) (GI : FnOk P w K mg base (L2.CX P w) 6 fI dI ["self", "at", "worth"] (spSetD K C NE)) (bI : Binds K dI ["self", "at", "worth"] []) :
    FnOk P w K mg base (L2.CX P w) 7 f fd ["self", "at", "value"] (spSetD K C NE) := by
  refine F.okX scSetF (fun vs H Q E h => ?_) (fun cdv A outer s H vs Q E hr h => ?_)
  · obtain ⟨p, dx, r, ws, u, v, pl, d, Hv, rfl, _⟩ := h
    rfl
  · obtain ⟨p, dx, r, ws, u, v, pl, d, Hv, rfl, h⟩ := h
    refine ⟨_, pss_one (ps_asg (pv 2) (pg_sub (pv 0) (pv 1) (set_own (E := E) hm hq GI hr bI (passes_call (takes_of rfl rfl rfl rfl) fun _ _ _ _ z => z)))), ?_⟩
    obtain ⟨h1, h2, h3, h4, h5, h6, h7, h8, h9, q1, q2⟩ := h
    exact ⟨_, rfl, _, rfl, _, rfl, p, dx, _, rfl, h1, p, dx, r, ws, u, v, pl, d, Hv, rfl, h1, h2, h3, h4, h5, h6, h7, h8, h9, q1, q2⟩
end
/-! ### a copy by the law itself -/
def spLCopy (K : PySem.W.Frag) (N : Nat) : Sp := fun vs H Q _ => ∃ (v : V) (d : PyData) (Hv : Hp), vs = [v] ∧ Same Hv H ∧ Dp K Hv v d ∧ valD d ∧ d.depth ≤ N ∧ nd d ≤ 10000 ∧ ∀ (H' : Hp) (v' : V) (S : List Addr), Same H H' → Tr H' v' d S → (∀ b ∈ S, H b = none) → Q v' H'
def tLCopyR (K : PySem.W.Frag) (N : Nat) : L2.TE := fun σ H Q => ∃ j : { M : Nat // M + 1 = N }, tCall (spLCopy K j.1) [] E0 (tCons (tVar 1) tNil) σ H Q
theorem pe_lcopyR {X : Cx} {K : PySem.W.Frag} {N : Nat} {e : Expr} (h : ∀ j : { M : Nat // M + 1 = N }, PE X e (tCall (spLCopy K j.1) [] E0 (tCons (tVar 1) tNil))) : PE X e (tLCopyR K N) := pe_ex h
theorem TrAll.snoc {H : Hp} : ∀ {vs : List V} {ds : List PyData} {S : List Addr} {v : V} {d : PyData} {T : List Addr}, TrAll H vs ds S → Tr H v d T → (∀ b ∈ S, b ∉ T) → TrAll H (vs ++ [v]) (ds ++ [d]) (S ++ T)
  | [], _, _, v, d, T, h, g, k => by
    cases h
    have := TrAll.cons g (TrAll.nil (H := H)) (fun b _ z => nomatch z)
    simpa using this
  | x :: vs, _, _, v, d, T, h, g, k => by
    cases h with
    | @cons _ e A _ ds B h1 h2 h3 =>
      have r := TrAll.snoc h2 g fun b hb => k b (List.mem_append_right _ hb)
      rw [List.cons_append, List.cons_append, List.append_assoc]
      refine .cons h1 r fun b hb hm => ?_
      rcases List.mem_append.mp hm with z | z
      · exact h3 b hb z
      · exact k b (List.mem_append_left _ hb) z
section
variable {P : Program} {w : World} {K : PySem.W.Frag} {mg : Str → Option Value} {base : Heap}
theorem scLCopy : FnScope ["_law_value_here", "_law_one"] ["_law_value_here"] (defScope s__law_copy) := ⟨rfl, rfl, rfl, by decide +kernel, rfl, by decide +kernel, by decide +kernel⟩
theorem ok_lcopy1 {f : Addr} {fd : FuncData} (F : Fun K "_law_copy" "_law_copy" s__law_copy f fd) (T : Nm mg) (b : Binds K fd ["_law_value_here"] []) (g : mg "_law_copy" = some (.ref f)) (N : Nat) (G : ∀ j : { M : Nat // M + 1 = N }, FnOk P w K mg base CX0 (j.1 + 1) f fd ["_law_value_here"] (spLCopy K j.1)) :
    FnOk P w K mg base CX0 (N + 1) f fd ["_law_value_here"] (spLCopy K N) := by
  refine F.ok scLCopy (fun vs H Q E h => ?_) (fun cdv A outer s H vs Q E hr h => ?_)
  · obtain ⟨v, d, Hv, rfl, _⟩ := h
    rfl
  · obtain ⟨v, d, Hv, rfl, sv, hd, vd, hz, hn, q⟩ := h
    have hrR : ∀ j : { M : Nat // M + 1 = N }, Room (j.1 + 1) _ := fun j => hr.mono (by have := j.2; omega)
    refine ⟨_, pss_one (ps_ret (pe_ifExp (pt_val (pe_callB call_isi (by rfl) T.isi (by decide +kernel) (pa_cons (pv 0) (pa_cons (pe_bltn (v := .ty "list") (by rfl) T.lst (by decide +kernel) rfl) pa_nil))))
      (pe_lc (own := [("_law_one", 1)]) (g := gName 1) (tt := tYes) (te := tLCopyR K N) rfl scLCopy.nd (pi_list (pv 0)) (blkOk_by (own := [("_law_one", 1)]) (N := ["_law_value_here", "_law_one"]) (sc := defScope s__law_copy) (by decide +kernel))
        (fun _ _ _ _ _ => pg_name (i := 1) scLCopy.nd rfl (Or.inl rfl)) (fun _ _ _ _ _ => pts_nil) (fun _ _ _ _ _ => pe_lcopyR fun j => pe_call (G j) (hrR j) (by rfl) g F.kp b .nil pass0 (pa_cons (pv 1) pa_nil))) (pv 0))), ?_⟩
    have ty := dp_ty (dp_same sv _ _ hd)
    refine ⟨_, rfl, v, .ty "list", _, .type "list", _, rfl, .ty _, ty, kitL d K, _, rfl, ?_⟩
    cases hd with
    | non => exact iteF ⟨_, rfl, q H .non [] (Same.refl _) .non fun b z => nomatch z⟩
    | str x => exact iteF ⟨_, rfl, q H _ [] (Same.refl _) (.str x) fun b z => nomatch z⟩
    | @lst a xs es h1 h2 =>
      have lenx := DpAll.length h2
      have lnd := ndAll_len es
      simp only [nd] at hn
      simp only [PyData.depth] at hz
      refine iteT ⟨_, rfl, a, rfl, ⟨_, sv.seq h1⟩, fun D nD => lc_list (K := K) (a := a) (xs := xs) (fun i H' => ∃ ws S, H' D = some (.lst ws) ∧ ws.length = i ∧ TrAll H' ws (es.take i) S ∧ (∀ b ∈ S, H b = none ∧ b ≠ D) ∧ Same H H') ⟨[], [], upd_same, rfl, .nil, (fun b z => nomatch z), same_upd nD⟩ (fun i H' hi ⟨_, _, _, _, _, _, sm⟩ => (sv.trans sm).seq h1) ?_ ?_⟩
      · rintro i x H' hx ⟨ws, S, hD, wl, tr, frS, sm⟩
        obtain ⟨e, he, hde⟩ := DpAll.get h2 hx
        have ve : valD e := val_get (show valAll es from vd) he
        have nde := nd_get he
        have dg := depth_get he
        refine ⟨rfl, ⟨N - 1, by omega⟩, _, rfl, x, e, Hv, rfl, sv.trans sm, hde, ve, by show _ ≤ N - 1; omega, by omega, fun H3 v' S2 s3 tr2 fr2 => ?_⟩
        have hD3 := s3 _ _ hD
        have D2 : D ∉ S2 := fun z => by
          have := fr2 D z
          rw [hD] at this
          cases this
        refine ⟨ws, hD3, Nat.lt_of_le_of_lt (show ws.length ≤ 10000 by have := (List.getElem?_eq_some_iff.mp hx).1; omega) (by decide), ws ++ [v'], S ++ S2, upd_same, by simp [wl], ?_, fun b hb => ?_, fun b o hb => ?_⟩
        · have tk : es.take (i + 1) = es.take i ++ [e] := by
            rw [List.take_add_one, he]
            rfl
          rw [tk]
          refine TrAll.snoc (TrAll.frame tr fun b hb o eo => ?_) (Tr.frame tr2 fun b hb o eo => ?_) fun b hb h2' => TrAll.there tr b hb (fr2 b h2')
          · rw [upd_ne (frS b hb).2]
            exact s3 _ _ eo
          · rw [upd_ne (fun z => D2 (by rw [← z]; exact hb))]
            exact eo
        · rcases List.mem_append.mp hb with z | z
          · exact frS b z
          · exact ⟨sm.free (fr2 b z), fun y => D2 (by rw [← y]; exact z)⟩
        · rw [upd_ne (ne_of_none hb nD)]
          exact s3 _ _ (sm _ _ hb)
      · rintro H' ⟨ws, S, hD, wl, tr, frS, sm⟩
        rw [lenx, List.take_length] at tr
        exact q H' (.ref D) (D :: S) sm (.lst hD tr fun z => (frS D z).2 rfl) fun b hb => by
          rcases List.mem_cons.mp hb with z | z
          · rw [z]; exact nD
          · exact (frS b z).1
    | _ => exact vd.elim
theorem ok_lcopy {f : Addr} {fd : FuncData} (F : Fun K "_law_copy" "_law_copy" s__law_copy f fd) (T : Nm mg) (b : Binds K fd ["_law_value_here"] []) (g : mg "_law_copy" = some (.ref f)) : ∀ N : Nat, FnOk P w K mg base CX0 (N + 1) f fd ["_law_value_here"] (spLCopy K N)
  | 0 => ok_lcopy1 F T b g 0 fun j => absurd j.2 (by omega)
  | N + 1 => ok_lcopy1 F T b g (N + 1) fun ⟨M, e⟩ => by
    have e2 : M = N := by omega
    subst e2
    exact ok_lcopy F T b g M
end
end TX
namespace TX
open PySem PySem.Spec PyProof.Rows L2
/-! ### shown: what repr gives, without repr of lists -/
theorem cs_len (x : Str) : (cs x).length = x.length := by
  simp [cs, Str.length]
theorem glued_tail : ∀ (ts : List Str) (acc : Array Nat), (ts.foldl (fun acc p => acc ++ (", " : Str).cps ++ p.cps) acc).toList = acc.toList ++ tailC ts
  | [], acc => by simp [tailC]
  | t :: ts, acc => by
    rw [List.foldl_cons, glued_tail ts]
    have e : (", " : Str).cps.toList = [44, 32] := cs_comma
    simp only [Array.toList_append, e, tailC, cs]
    simp
theorem cs_join (ts : List Str) : cs (Txt.join ", " ts) = sepC ts := by
  cases ts with
  | nil => decide +kernel
  | cons t ts =>
    show (ts.foldl (fun acc p => acc ++ (", " : Str).cps ++ p.cps) t.cps).toList = _
    rw [glued_tail]
    rfl
theorem shownAll_append : ∀ a b : List PyData, PyData.shownAll (a ++ b) = PyData.shownAll a ++ PyData.shownAll b
  | [], b => by simp [PyData.shownAll]
  | d :: a, b => by simp only [List.cons_append, PyData.shownAll, shownAll_append a b]
theorem list_shown (es : List PyData) : (Str.empty ++ "[" ++ Txt.join ", " (PyData.shownAll es) ++ "]" : Str) = (PyData.list es).shown := by
  apply cs_inj
  simp only [PyData.shown]
  rw [cs_app, cs_app, cs_app, cs_join, cs_list]
  rw [show cs (("[" : String) : Str) = [91] by decide +kernel, show cs (("]" : String) : Str) = [93] by decide +kernel, show cs Str.empty = [] from rfl]
  simp
def lenAll : List Str → Nat
  | [] => 0
  | t :: ts => t.length + 2 + lenAll ts
theorem tail_len : ∀ ts : List Str, (tailC ts).length = lenAll ts
  | [] => rfl
  | t :: ts => by
    simp only [tailC, lenAll, List.length_cons, List.length_append, cs_len, tail_len ts]
    omega
theorem sep_len : ∀ ts : List Str, (sepC ts).length ≤ lenAll ts
  | [] => Nat.le_refl _
  | t :: ts => by
    simp only [sepC, lenAll, List.length_append, cs_len, tail_len ts]
    omega
mutual
theorem shown_len : ∀ d : PyData, valD d → d.shown.length + 2 ≤ 6 * sz d
  | .none, _ => by decide +kernel
  | .str x, h => by
    have e : cs (reprText x) = 39 :: (cs x ++ [39]) := cs_repr (fun c hc => by
      have := h c hc
      simp only [alC, Bool.or_eq_true, decide_eq_true_eq]
      omega)
    have e2 : (cs (reprText x)).length = x.length + 2 := by
      rw [e]
      simp [cs_len]
    rw [cs_len] at e2
    simp only [PyData.shown, sz]
    omega
  | .list es, h => by
    have ih := showns_len es h
    have e : (cs (listText (PyData.shownAll es))).length ≤ lenAll (PyData.shownAll es) + 2 := by
      rw [cs_list]
      have := sep_len (PyData.shownAll es)
      simp
      omega
    rw [cs_len] at e
    simp only [PyData.shown, sz]
    omega
  | .bool _, h => h.elim
  | .int _, h => h.elim
  | .tuple _, h => h.elim
  | .dict _, h => h.elim
theorem showns_len : ∀ ds : List PyData, valAll ds → lenAll (PyData.shownAll ds) ≤ 6 * szAll ds
  | [], _ => Nat.le_refl _
  | d :: ds, h => by
    have a := shown_len d h.1
    have b := showns_len ds h.2
    simp only [PyData.shownAll, lenAll, szAll]
    omega
end
theorem join_len (ts : List Str) : (Txt.join ", " ts).length ≤ lenAll ts := by
  rw [← cs_len, cs_join]
  exact sep_len ts
theorem sum_len : ∀ ts : List Str, (ts.map (·.length)).sum + ts.length * 2 = lenAll ts
  | [] => rfl
  | t :: ts => by
    have := sum_len ts
    simp only [List.map_cons, List.sum_cons, List.length_cons, lenAll]
    omega
theorem path_val {K : PySem.W.Frag} {Hv : Hp} {S0 : List V × List PyData} (h0 : valAll S0.2) : ∀ {rs : List V} {S : List V × List PyData}, Path K Hv S0 rs S → valAll S.2 ∧ szAll S.2 ≤ szAll S0.2
  | _, _, .nil => ⟨h0, Nat.le_refl _⟩
  | _, _, .cons hP hs => by
    obtain ⟨a, b⟩ := path_val h0 hP
    cases hs with
    | leaf h e =>
      simp only [szAll] at b
      exact ⟨a.2, by dsimp only; omega⟩
    | lst h g =>
      simp only [szAll, sz] at b
      exact ⟨(valAll_append _ _).mpr ⟨a.1, a.2⟩, by dsimp only; rw [szAll_append]; omega⟩
    | tup h g => exact a.1.elim
section
variable {X : Cx}
def rReprL : List V → Hp → VK → Prop := fun xs H Q => (xs = [.non] ∧ Q (.str PyData.none.shown) H) ∨ ∃ x : Str, xs = [.str x] ∧ (reprText x).length ≤ sizeLine ∧ Q (.str (reprText x)) H
theorem call_reprL : CallR X (.builtin "repr") rReprL := by
  intro pins s σ H xs us Q I r h
  rcases h with ⟨rfl, q⟩ | ⟨x, rfl, hl, q⟩
  · obtain ⟨u, rfl, rv⟩ := r.one
    cases rv
    exact PySem.P.repr_of_none ⟨.str _, H, I.tok _, ⟨_, rfl⟩, q⟩
  · obtain ⟨u, rfl, t, rfl⟩ := vals1 r
    exact PySem.P.repr_of_str ⟨.str _, H, I.tok _, ⟨_, rfl⟩, q⟩ hl
end
def spShown (K : PySem.W.Frag) : Sp := fun vs H Q _ => ∃ (v : V) (d : PyData) (Hv : Hp), vs = [v] ∧ Same Hv H ∧ Dp K Hv v d ∧ valD d ∧ sz d ≤ 5000 ∧ ∀ H', Same H H' → Q (.str d.shown) H'
structure Nr (mg : Str → Option Value) : Prop where
  repr : mg "repr" = none
section
variable {P : Program} {w : World} {K : PySem.W.Frag} {mg : Str → Option Value} {base : Heap}
theorem scShown : FnScope ["value", "done", "part", "inner", "_"] ["value"] (defScope s_shown) := ⟨rfl, rfl, rfl, by decide +kernel, rfl, by decide +kernel, by decide +kernel⟩
theorem ok_shown {f fP : Addr} {fd fdP : FuncData} {k : Nat} (F : Fun K "shown" "shown" s_shown f fd) (T : Nm mg) (R : Nr mg) (GP : FnOk P w K mg base CX0 (k + 1) fP fdP ["thing"] (spParts K)) (kP : PySem.W.keepIn K (.ref fP) = true) (bP : Binds K fdP ["thing"] []) (gP : mg "all_parts" = some (.ref fP)) :
    FnOk P w K mg base CX0 (k + 2) f fd ["value"] (spShown K) := by
  refine F.ok scShown (fun vs H Q E h => ?_) (fun cdv A outer s H vs Q E hr h => ?_)
  · obtain ⟨v, d, Hv, rfl, _⟩ := h
    rfl
  · obtain ⟨v, d, Hv, rfl, sv, hd, vd, hz, q⟩ := h
    refine ⟨_, pss_cons (ps_set (i := 1) scShown.nd rfl (.inr rfl) (pe_lst pa_nil)) <|
      pss_cons (ps_for PassesOwn.never rfl (pi_list (pe_revL (pe_call GP hr (by rfl) gP kP bP .nil pass0 (pa_cons (pv 0) pa_nil)))) (pg_name (i := 2) scShown.nd rfl (.inl rfl)) (
        pss_one (ps_if (pt_val (pe_callB call_isi (by rfl) T.isi (by decide +kernel) (pa_cons (pv 2) (pa_cons (pe_bltn (v := .ty "list") (by rfl) T.lst (by decide +kernel) rfl) pa_nil))))
          (pss_cons (ps_set (i := 3) scShown.nd rfl (.inl rfl) (pe_join pe_str (pe_lc (own := [("_", 4)]) (g := gName 4) (tt := tYes) (te := tBM0 K "list" rPop (tVar 1)) rfl scShown.nd (pi_list (pv 2)) (blkOk_by (own := [("_", 4)]) (N := ["value", "done", "part", "inner", "_"]) (sc := defScope s_shown) (by decide +kernel))
              (fun _ _ _ _ _ => pg_name (i := 4) scShown.nd rfl (Or.inl rfl)) (fun _ _ _ _ _ => pts_nil) (fun _ _ _ _ _ => pe_bm0 PySem.F.plainAttrs_list PySem.F.slot_list_pop PySem.F.type_list_pop mt_pop (pv 1))))) <|
            pss_one (ps_expr (pe_bm PySem.F.plainAttrs_list PySem.F.slot_list_append PySem.F.type_list_append mt_append (pv 1) (pa_cons (pe_joined (PJ.cons pe_str (PJ.cons (pe_fmt (pv 3)) (PJ.cons pe_str PJ.nil)))) pa_nil))))
          (pss_one (ps_expr (pe_bm PySem.F.plainAttrs_list PySem.F.slot_list_append PySem.F.type_list_append mt_append (pv 1) (pa_cons (pe_callB call_reprL (by rfl) R.repr (by decide +kernel) (pa_cons (pv 2) pa_nil)) pa_nil))))))) <|
      pss_one (ps_ret (pe_ix ix_list (pv 1) pe_int (fun _ _ => rfl))), ?_⟩
    have hn := nd_sz d vd
    have fit : ∀ {n : Nat}, n ≤ 100000 → n ≤ sizeLine := fun h => Nat.le_trans h (by decide)
    have lt62 : ∀ {n : Nat}, n ≤ 10000 → n < sizeLine := fun h => Nat.lt_of_le_of_lt h (by decide)
    refine ⟨by decide, fun da nda => ?_⟩
    refine ⟨_, rfl, v, d, Hv, rfl, sv.trans (same_upd nda), hd, by omega, fun H1 p rs sm1 np hp hP hlen => ?_⟩
    have hda1 : H1 da = some (.lst []) := sm1 _ _ upd_same
    refine ⟨p, _, rfl, SqL.of hp, fun r nr => ?_⟩
    rw [List.reverse_reverse]
    have rda : da ≠ r := ne_of_none hda1 nr
    have s0 : Same H (upd H1 r (.lst rs)) := ((same_upd nda).trans sm1).trans (same_upd nr)
    have nda0 : H da = none := nda
    refine ⟨r, rfl, ⟨_, SqL.of upd_same⟩, for_list (K := K) (a := r) (xs := rs) (fun i σ H2 => ∃ (S : List V × List PyData) (y2 y3 : Option V), σ = [some v, some (.ref da), y2, y3, none] ∧ Same H H2 ∧ H2 r = some (.lst rs) ∧
      Path K Hv ([v], [d]) (rs.drop i) S ∧ H2 da = some (.lst ((PyData.shownAll S.2).map V.str).reverse)) ?_ ?_ ?_ ?_⟩
    · exact ⟨([], []), none, none, rfl, s0, upd_same, hP, by rw [upd_ne rda]; exact hda1⟩
    · rintro i σ H2 hi ⟨S, y2, y3, rfl, _, g, _⟩
      exact SqL.of g
    · rintro i x σ H2 hx ⟨S, y2, y3, rfl, sm, hrs, hPi, hda⟩
      have edrop : rs.drop i = x :: rs.drop (i + 1) := by
        obtain ⟨hj, e⟩ := List.getElem?_eq_some_iff.mp hx
        rw [List.drop_eq_getElem_cons hj, e]
      rw [edrop] at hPi
      cases hPi with
      | @cons _ S1 _ _ hP1 hst =>
      obtain ⟨v1, z1⟩ := path_val (S0 := ([v], [d])) ⟨vd, trivial⟩ hP1
      have z1' : szAll S1.2 ≤ sz d := by simpa [szAll] using z1
      clear z1
      have len2 : ∀ (ds : List PyData), ((PyData.shownAll ds).map V.str).reverse.length = ds.length := fun ds => by rw [List.length_reverse, List.length_map, len_all]
      cases hst with
      | @leaf v0 d0 r1 rd1 h e =>
        have vd0 : valD d0 := v1.1
        have lrd : rd1.length ≤ 5000 := by
          have := szAll_len rd1
          simp only [szAll] at z1'
          omega
        have zd0 : sz d0 ≤ 5000 := by
          simp only [szAll] at z1'
          omega
        have sl := shown_len d0 vd0
        refine ⟨_, rfl, x, .ty "list", .type (tyD d0), .type "list", _, rfl, .ty _, dp_ty (dp_same (sv.trans sm) _ _ h), kitL d0 K, _, rfl, ?_⟩
        rw [(Bool.or_eq_false_iff.mp e).1]
        refine iteF ?_
        refine ⟨_, rfl, .inl ⟨rfl, _, SqL.of hda⟩, _, rfl, ?_⟩
        have fin : ∀ (t : Str), t = d0.shown → ∃ l ys y, V.ref da = .ref l ∧ ([V.str t] : List V) = [y] ∧ H2 l = some (.lst ys) ∧ ys.length < sizeLine ∧ ∃ (S : List V × List PyData) (y2' y3' : Option V), ([some v, some (.ref da), some x, y3, none] : L2.St) = [some v, some (.ref da), y2', y3', none] ∧ Same H (upd H2 l (.lst (ys ++ [y]))) ∧ (upd H2 l (.lst (ys ++ [y]))) r = some (.lst rs) ∧
            Path K Hv ([v], [d]) (rs.drop (i + 1)) S ∧ (upd H2 l (.lst (ys ++ [y]))) da = some (.lst ((PyData.shownAll S.2).map V.str).reverse) := by
          rintro t rfl
          refine ⟨da, _, _, rfl, rfl, hda, lt62 (by rw [len2]; exact Nat.le_trans lrd (by decide)), _, _, _, rfl, same_fresh nda0 sm, by rw [upd_ne rda.symm]; exact hrs, hP1, ?_⟩
          rw [upd_same]
          simp [PyData.shownAll]
        rcases val_leaf h vd0 (Bool.or_eq_false_iff.mp e).1 with ⟨rfl, rfl⟩ | ⟨z, rfl, rfl⟩
        · exact .inl ⟨rfl, fin _ rfl⟩
        · refine .inr ⟨z, rfl, fit ?_, fin _ (by simp only [PyData.shown])⟩
          have e2 : (PyData.str z).shown = reprText z := by simp only [PyData.shown]
          rw [e2] at sl
          omega
      | @lst a xs r1 es rd1 g1 g2 =>
        have ve : valAll es := v1.1
        have sl := showns_len es ve
        have zz : szAll es ≤ 5000 ∧ szAll rd1 ≤ 5000 := by
          simp only [szAll, sz] at z1'
          omega
        have les := szAll_len es
        have lrd := szAll_len rd1
        have hxl : xs.length = (PyData.shownAll es).length := (DpAll.length g2).trans (len_all es).symm
        refine ⟨_, rfl, .ref a, .ty "list", .type "list", .type "list", _, rfl, .ty _, dp_ty (d := .list es) (.lst ((sv.trans sm).seq g1) (dpAll_same (sv.trans sm) _ _ g2)), kitL (.list es) K, _, rfl, iteT ?_⟩
        obtain ⟨c1, ec1⟩ : ∃ c1, c1 = (PyData.shownAll es).map V.str := ⟨_, rfl⟩
        obtain ⟨c2, ec2⟩ : ∃ c2, c2 = (PyData.shownAll rd1).map V.str := ⟨_, rfl⟩
        have hda' : H2 da = some (.lst (c1 ++ c2).reverse) := by
          rw [hda, ec1, ec2, shownAll_append, List.map_append]
        have lc1 : c1.length = xs.length := by rw [ec1, List.length_map, hxl]
        have lc2 : c2.length ≤ 5000 := by rw [ec2, List.length_map, len_all]; omega
        have lc1' : c1.length ≤ 5000 := by rw [ec1, List.length_map, len_all]; omega
        refine ⟨⟨_, rfl⟩, _, rfl, a, rfl, ⟨_, (sv.trans sm).seq g1⟩, fun D nD => lc_list (K := K) (a := a) (xs := xs) (fun j H4 => H4 da = some (.lst (c2.reverse ++ (c1.drop j).reverse)) ∧ H4 D = some (.lst (c1.take j)) ∧ ∀ b o, b ≠ da → b ≠ D → H2 b = some o → H4 b = some o) ?_ ?_ ?_ ?_⟩
        · have ne : da ≠ D := ne_of_none hda' nD
          refine ⟨?_, upd_same, fun b o _ hb e => by rw [upd_ne hb]; exact e⟩
          rw [upd_ne ne, hda']
          simp
        · rintro j H4 hj ⟨_, _, kp⟩
          have nDH : H D = none := sm.free nD
          exact Same.seq (fun b o e => kp b o (ne_of_none e nda0) (ne_of_none e nDH) (sm b o e)) (sv.seq g1)
        · rintro j y H4 hy ⟨k1, k2, kp⟩
          have ne : da ≠ D := ne_of_none hda' nD
          have hjl : j < c1.length := by
            have := (List.getElem?_eq_some_iff.mp hy).1
            omega
          have hcj : c1[j]? = some c1[j] := List.getElem?_eq_getElem hjl
          rw [rev_drop hcj, ← List.append_assoc] at k1
          refine ⟨rfl, .ref da, rfl, .inl ⟨rfl, _, SqL.of k1⟩, da, _, c1[j], rfl, rfl, k1, by simp, ?_⟩
          rw [List.dropLast_concat]
          refine ⟨c1.take j, by rw [upd_ne ne.symm]; exact k2, ?_, ?_, ?_, fun b o h1 h2 e => ?_⟩
          · refine lt62 ?_
            have := List.length_take_le j c1
            omega
          · rw [upd_ne ne, upd_same]
          · rw [upd_same, List.take_add_one, hcj]
            rfl
          · rw [upd_ne h2, upd_ne h1]
            exact kp b o h1 h2 e
        · rintro H4 ⟨k1, k2, kp⟩
          have ne : da ≠ D := ne_of_none hda' nD
          have nDH : H D = none := sm.free nD
          have sm4 : Same H H4 := fun b o e => kp b o (ne_of_none e nda0) (ne_of_none e nDH) (sm b o e)
          have rD : r ≠ D := ne_of_none hrs nD
          have hr4 : H4 r = some (.lst rs) := kp r _ rda.symm rD hrs
          rw [← lc1] at k1 k2
          rw [List.drop_length, List.reverse_nil, List.append_nil] at k1
          rw [List.take_length, ec1] at k2
          have sum := sum_len (PyData.shownAll es)
          have jl := join_len (PyData.shownAll es)
          have ls := shown_len (.list es) ve
          refine ⟨_, D, _, rfl, rfl, .inl (SqL.of k2), ?_, ?_⟩
          · have e : ((", " : Str)).length = 2 := rfl
            rw [e]
            omega
          have l1 : (Str.empty ++ "[" : Str).length = 1 := rfl
          have l2 : (Str.empty ++ "[" ++ Txt.join ", " (PyData.shownAll es) : Str).length = 1 + (Txt.join ", " (PyData.shownAll es)).length := by
            rw [size_cat, l1]
          have l3 : (Str.empty ++ "[" ++ Txt.join ", " (PyData.shownAll es) ++ "]" : Str).length = 1 + (Txt.join ", " (PyData.shownAll es)).length + 1 := by
            rw [size_cat, l2]
            rfl
          refine ⟨_, rfl, .inl ⟨rfl, _, SqL.of k1⟩, _, rfl, fit (by rw [l1]; decide), _, rfl, .inl ⟨_, rfl, fit (by omega), _, rfl, fit (by rw [l2]; omega), _, rfl, fit (by rw [l3]; omega), da, _, _, rfl, rfl, k1, lt62 (by rw [List.length_reverse]; omega), ?_⟩⟩
          refine ⟨_, _, _, rfl, same_fresh nda0 sm4, by rw [upd_ne rda.symm]; exact hr4, hP1, ?_⟩
          rw [upd_same, list_shown, ec2]
          simp [PyData.shownAll]
      | tup h g => exact v1.1.elim
    · rintro σ H2 ⟨S, y2, y3, rfl, sm, hrs, hPi, hda⟩
      rw [List.drop_length] at hPi
      cases hPi
      refine ⟨_, rfl, da, [.str d.shown], 0, .str d.shown, rfl, rfl, SqL.of ?_, atI_nat (j := 0) rfl, q H2 sm⟩
      rw [hda]
      simp [PyData.shownAll]
end
end TX
namespace TX
open PySem PySem.Spec PyProof.Rows L2
/-! ### repr, ==, packed of Entries -/
section
variable {X : Cx} {CX : CXT} {C f g : Addr} {k : Nat} {fd : FuncData} {ps : List Str} {sp : Sp} {E : XK}
/-- x == y, y nothing, a text or a list -/
theorem op_eq_val (hm : Meth X.K C "__eq__" f) (u1 : PySem.W.notFirst X.K C (.type "NoneType") = true) (u2 : PySem.W.notFirst X.K C (.type "str") = true) (u3 : PySem.W.notFirst X.K C (.type "list") = true) (F : FnOk X.prog X.w X.K X.mg X.base CX k f fd ps sp) (hr : Room k X.A) (hb : Binds X.K fd ps []) (hx : Passes CX X E) :
    OpR X (compareOp .Eq) (fun x y H Q => (y = .non ∨ (∃ z, y = .str z) ∨ ∃ a xs, y = .ref a ∧ H a = some (.lst xs)) ∧ rOwn C sp E x y H Q) := by
  intro pins s σ H x y v u Q I rx ry h
  obtain ⟨hy, p, dx, fs, rfl, hp', q⟩ := h
  cases rx
  obtain ⟨ox, od, J⟩ := inst_at I hp'
  obtain ⟨m, hF⟩ := I.fr
  have un : X.A.units < cLine := by
    have := hr.un
    omega
  have fin : wpAny (model X.prog X.w) X.A (call (.ref f) [.ref p, u]) (PySem.W.CmpBack (EP X pins σ Q)) X.xe s :=
    wpAny_mono (run_below (vs := [.ref p, y]) F ⟨hr, rfl⟩ hb hx I (.cons rfl (.cons ry .nil)) q) (fun _ _ h => ep_back h) fun _ _ e => e
  show wpAny (model X.prog X.w) X.A (richCompare .Eq _ _) _ _ _
  rcases hy with rfl | ⟨z, rfl⟩ | ⟨a, xs, rfl, ha'⟩
  · cases ry
    exact PySem.W.cmp_K (tb := .type "NoneType") (op := .Eq) un hF I.ok.mod.kin J (PySem.W.Looks.of_pure rfl) u1 hm.at_ hm.fn fin
  · obtain ⟨t, rfl⟩ := ry
    exact PySem.W.cmp_K (tb := .type "str") (op := .Eq) un hF I.ok.mod.kin J (PySem.W.Looks.of_pure rfl) u2 hm.at_ hm.fn fin
  · cases ry
    obtain ⟨z, its, n, r, hl, e⟩ := I.lstM ha'
    exact PySem.W.cmp_K (tb := .type "list") (op := .Eq) un hF I.ok.mod.kin J ((PySem.W.Looks.ld e).andThen .now) u3 hm.at_ hm.fn fin
/-- repr(x) -/
theorem call_reprO (hm : Meth X.K C "__repr__" f) (F : FnOk X.prog X.w X.K X.mg X.base CX k f fd ps sp) (hr : Room (k + 1) X.A) (hb : Binds X.K fd ps []) (hx : Passes CX X E) :
    CallR X (.builtin "repr") (fun xs H Q => ∃ p dx fs, xs = [.ref p] ∧ H p = some (.ins C dx fs) ∧ sp xs H (fun v H' => ∃ z : Str, v = .str z ∧ Q (.str z) H') E) := by
  intro pins s σ H xs us Q I r h
  obtain ⟨p, dx, fs, rfl, hp', q⟩ := h
  obtain rfl := Vals.ref1 r
  obtain ⟨ox, od, J⟩ := inst_at I hp'
  obtain ⟨m, hF⟩ := I.fr
  refine PySem.W.repr_K (by have := hr.un; show X.A.units + 1 < cLine; omega) hF I.ok.mod.kin J hm.at_ hm.fn ?_
  refine wpAny_mono (run_below F (Sub.in1 ⟨hr, rfl⟩) hb hx I r q) (fun v s' h => ?_) fun _ _ e => e
  obtain ⟨x, H', I', rv, z, rfl, q'⟩ := h
  obtain ⟨t, rfl⟩ := rv
  exact ⟨.str z, H', I', ⟨_, rfl⟩, q'⟩
end
def reprE (ds : List PyData) : Str := Str.empty ++ "Entries(" ++ (PyData.list ds).shown ++ ")"
def packD : List PyData → PyData
  | [] => .none
  | [.str x] => .str x
  | ds => .list ds
theorem pack_val {ds : List PyData} (h : valAll ds) : valD (packD ds) := by
  unfold packD
  split
  · exact trivial
  · exact h.1
  · exact h
theorem pack_ent {ds : List PyData} : entD (packD ds) = ds := by
  unfold packD
  split <;> rfl
theorem pack_sz {ds : List PyData} : sz (packD ds) ≤ szAll ds + 1 := by
  unfold packD
  split
  · simp [sz, szAll]
  · simp only [szAll, sz]
    omega
  · simp [sz]
theorem pack_dep {ds : List PyData} : (packD ds).depth ≤ PyData.depthAll ds + 1 := by
  unfold packD
  split
  · simp [PyData.depth]
  · simp [PyData.depth]
  · simp only [PyData.depth]
    omega
def spRepr (K : PySem.W.Frag) (C : Addr) : Sp := fun vs H Q _ => ∃ (p dx r : Addr) (ws : List V) (ds : List PyData) (Hv : Hp), vs = [.ref p] ∧ H p = some (.ins C dx (rowsF r)) ∧ H r = some (.lst ws) ∧ Same Hv H ∧ DpAll K Hv ws ds ∧ valAll ds ∧ szAll ds ≤ 4000 ∧
  ∀ H', Same H H' → Q (.str (reprE ds)) H'
def spPacked (K : PySem.W.Frag) (C : Addr) : Sp := fun vs H Q _ => ∃ (p dx r : Addr) (ws : List V) (ds : List PyData) (Hv : Hp), vs = [.ref p] ∧ H p = some (.ins C dx (rowsF r)) ∧ H r = some (.lst ws) ∧ Same Hv H ∧ DpAll K Hv ws ds ∧ valAll ds ∧ szAll ds ≤ 4000 ∧
  ∀ (H' : Hp) (v' : V) (S : List Addr), Same H H' → Tr H' v' (packD ds) S → (∀ b ∈ S, H b = none) → Q v' H'
def spEqG (K : PySem.W.Frag) (C : Addr) : Sp := fun vs H Q _ => ∃ (p q dx dy r r2 : Addr) (ws us : List V) (ds es : List PyData) (Hv : Hp), vs = [.ref p, .ref q] ∧ H p = some (.ins C dx (rowsF r)) ∧ H r = some (.lst ws) ∧ H q = some (.ins C dy (rowsF r2)) ∧ H r2 = some (.lst us) ∧ Same Hv H ∧ DpAll K Hv ws ds ∧ DpAll K Hv us es ∧ valAll ds ∧ valAll es ∧ szAll ds ≤ 4000 ∧ szAll es ≤ 4000 ∧
  ∀ H' b, Same H H' → (b = true ↔ ds = es) → Q (.bl b) H'
def spEqV (K : PySem.W.Frag) (C : Addr) : Sp := fun vs H Q _ => ∃ (p dx r : Addr) (y : V) (e : PyData) (Hv : Hp), vs = [.ref p, y] ∧ H p = some (.ins C dx (rowsF r)) ∧ Same Hv H ∧ Dp K Hv y e ∧ valD e ∧ Q (.bl false) H
section
variable {P : Program} {w : World} {K : PySem.W.Frag} {mg : Str → Option Value} {base : Heap} {C : Addr}
theorem scRepr : FnScope ["self"] ["self"] (defScope mEntries_repr) := ⟨rfl, rfl, rfl, by decide +kernel, rfl, by decide +kernel, by decide +kernel⟩
theorem ok_repr {f fS : Addr} {fd dS : FuncData} (F : Fun K "__repr__" "Entries.__repr__" mEntries_repr f fd) (T : En K mg C) (GS : FnOk P w K mg base CX0 2 fS dS ["value"] (spShown K)) (gS : mg "shown" = some (.ref fS)) (kS : PySem.W.keepIn K (.ref fS) = true) (bS : Binds K dS ["value"] []) :
    FnOk P w K mg base CX0 3 f fd ["self"] (spRepr K C) := by
  refine F.ok scRepr (fun vs H Q E h => ?_) (fun cdv A outer s H vs Q E hr h => ?_)
  · obtain ⟨p, dx, r, ws, ds, Hv, rfl, _⟩ := h
    rfl
  · obtain ⟨p, dx, r, ws, ds, Hv, rfl, hp, hr1, sv, hw, vd, hz, q⟩ := h
    refine ⟨_, pss_one (ps_ret (pe_joined (PJ.cons pe_str (PJ.cons (pe_fmt (pe_call GS hr (by rfl) gS kS bS .nil pass0 (pa_cons (pe_fld (pv 0) rfl) pa_nil))) (PJ.cons pe_str PJ.nil))))), ?_⟩
    have sl := shown_len (.list ds) vd
    have e1 : sz (.list ds) = szAll ds + 1 := rfl
    have fit : ∀ {n : Nat}, n ≤ 100000 → n ≤ sizeLine := fun h => Nat.le_trans h (by decide)
    have l1 : (Str.empty ++ "Entries(" : Str).length = 8 := rfl
    have l2 : (Str.empty ++ "Entries(" ++ (PyData.list ds).shown : Str).length = 8 + (PyData.list ds).shown.length := by rw [size_cat, l1]
    have l3 : (Str.empty ++ "Entries(" ++ (PyData.list ds).shown ++ ")" : Str).length = 8 + (PyData.list ds).shown.length + 1 := by
      rw [size_cat, l2]
      rfl
    refine ⟨_, rfl, fit (by rw [l1]; decide), _, rfl, p, C, dx, _, _, rfl, hp, T.cl, T.nR, rows_get r, .ref r, .list ds, H, rfl, Same.refl _, .lst (SqL.of hr1) (dpAll_same sv _ _ hw), vd, by omega, fun H1 s1 => ?_⟩
    exact .inl ⟨_, rfl, fit (by omega), _, rfl, fit (by rw [l2]; omega), _, rfl, fit (by rw [l3]; omega), q H1 s1⟩
theorem scPacked : FnScope ["self"] ["self"] (defScope mEntries_packed) := ⟨rfl, rfl, rfl, by decide +kernel, rfl, by decide +kernel, by decide +kernel⟩
theorem ok_packed {f fC : Addr} {fd dC : FuncData} (F : Fun K "packed" "Entries.packed" mEntries_packed f fd) (T : En K mg C) (N : Nm mg) (kk : Nk mg) (B : Nb mg) (GC : FnOk P w K mg base CX0 2 fC dC ["thing"] (spCopyT K)) (gC : mg "copy_of" = some (.ref fC)) (kC : PySem.W.keepIn K (.ref fC) = true) (bC : Binds K dC ["thing"] []) :
    FnOk P w K mg base CX0 3 f fd ["self"] (spPacked K C) := by
  refine F.ok scPacked (fun vs H Q E h => ?_) (fun cdv A outer s H vs Q E hr h => ?_)
  · obtain ⟨p, dx, r, ws, ds, Hv, rfl, _⟩ := h
    rfl
  · obtain ⟨p, dx, r, ws, ds, Hv, rfl, hp, hr1, sv, hw, vd, hz, q⟩ := h
    refine ⟨_, pss_cons (ps_if (pt_not (pt_truth (pe_fld (pv 0) rfl) (by intro _; rfl))) (pss_one (ps_ret pe_non)) pss_nil) <|
      pss_cons (ps_if (PW.pt (pw_and (pt_cmpR op_eq (pe_callB call_len_seq (by rfl) B.len PySem.boot_len (pa_cons (pe_fld (pv 0) rfl) pa_nil)) pe_int (nomark _)) (pw_and1 (pt_val (pe_callB call_isi (by rfl) N.isi (by decide +kernel) (pa_cons (pe_ix ix_list (pe_fld (pv 0) rfl) pe_int (fun _ _ => rfl)) (pa_cons (pe_bltn (v := .ty "str") (by rfl) kk.str (by decide +kernel) rfl) pa_nil)))))))
        (pss_one (ps_ret (pe_ix ix_list (pe_fld (pv 0) rfl) pe_int (fun _ _ => rfl)))) pss_nil) <|
      pss_one (ps_ret (pe_call GC hr (by rfl) gC kC bC .nil pass0 (pa_cons (pe_fld (pv 0) rfl) pa_nil))), ?_⟩
    have ndz := ndAll_sz _ vd
    have hw1 := dpAll_same sv _ _ hw
    refine ⟨_, rfl, p, C, dx, _, _, rfl, hp, T.cl, T.nR, rows_get r, _, .inl ⟨_, SqL.of hr1, rfl⟩, ?_⟩
    have rest : packD ds = .list ds → tRet (tCall (spCopyT K) [] E0 (tCons (tFld (cxOf CX0 P w K mg base ["self"] "Entries.packed" (defScope mEntries_packed) f cdv A outer s H E).nox.K (tVar 0) "_rows") tNil)) { nx := fun _ H' => Q .non H', rt := Q } [some (.ref p)] H := by
      intro e
      refine ⟨_, rfl, p, C, dx, _, _, rfl, hp, T.cl, T.nR, rows_get r, .ref r, .list ds, H, rfl, Same.refl _, .lst (SqL.of hr1) hw1, by simp only [nd]; omega, fun H' v' S s1 tr fr => ?_⟩
      exact q H' v' S s1 (e ▸ tr) fr
    cases hw1 with
    | nil =>
      refine iteT ?_
      exact q H .non [] (Same.refl _) .non fun _ z => nomatch z
    | @cons v ws1 d ds1 h1 h2 =>
      refine iteF ?_
      refine ⟨_, rfl, p, C, dx, _, _, rfl, hp, T.cl, T.nR, rows_get r, r, _, rfl, .inl (SqL.of hr1), rfl, _, rfl, ?_⟩
      cases h2 with
      | cons g1 g2 =>
        refine eqF (by simp only [List.length_cons]; omega) ?_
        exact rest (by cases d <;> rfl)
      | nil =>
        refine eqT rfl ?_
        refine ⟨_, rfl, p, C, dx, _, _, rfl, hp, T.cl, T.nR, rows_get r, r, _, 0, v, rfl, rfl, SqL.of hr1, atI_nat (j := 0) rfl, v, .ty "str", .type (tyD d), .type "str", _, rfl, .ty _, dp_ty h1, kitS d K, _, rfl, ?_⟩
        have vd1 := vd.1
        cases h1 with
        | str x =>
          refine iteT ?_
          exact ⟨_, rfl, p, C, dx, _, _, rfl, hp, T.cl, T.nR, rows_get r, r, _, 0, _, rfl, rfl, SqL.of hr1, atI_nat (j := 0) rfl, q H _ [] (Same.refl _) (.str x) fun _ z => nomatch z⟩
        | non => exact iteF (rest rfl)
        | lst _ _ => exact iteF (rest rfl)
        | _ => exact vd1.elim
theorem ok_eqG {f fO : Addr} {fd dO : FuncData} (F : Fun K "__eq__" "Entries.__eq__" mEntries_eq f fd) (T : En K mg C) (N : Nm mg) (GO : FnOk P w K mg base CX0 2 fO dO ["value"] (spOut K)) (gO : mg "outline_of" = some (.ref fO)) (kO : PySem.W.keepIn K (.ref fO) = true) (bO : Binds K dO ["value"] []) :
    FnOk P w K mg base CX0 3 f fd ["self", "other"] (spEqG K C) := by
  refine F.ok scEqE (fun vs H Q E h => ?_) (fun cdv A outer s H vs Q E hr h => ?_)
  · obtain ⟨p, q, dx, dy, r, r2, ws, us, ds, es, Hv, rfl, _⟩ := h
    rfl
  · obtain ⟨p, q, dx, dy, r, r2, ws, us, ds, es, Hv, rfl, hp, hr1, hq, hr2, sv, hw, hu, vd, ve, hn, hm, k⟩ := h
    refine ⟨_, pss_one (ps_ret (pe_and (pe_callB call_isi (by rfl) N.isi (by decide +kernel) (pa_cons (pv 1) (pa_cons (pe_glob (v := .ref C) (by rfl) T.mgC rfl) pa_nil)))
      (pe_one (pe_cmpR (op_eqD hr.units) (pe_call GO hr (by rfl) gO kO bO .nil pass0 (pa_cons (pe_fld (pv 0) rfl) pa_nil)) (pe_call GO hr (by rfl) gO kO bO .nil pass0 (pa_cons (pe_fld (pv 1) rfl) pa_nil)) (nomark _))))), ?_⟩
    have vd' : valD (.list ds) := vd
    have ve' : valD (.list es) := ve
    have nd1 := ndAll_sz _ vd
    have nd2 := ndAll_sz _ ve
    refine ⟨_, rfl, .ref q, .ref C, _, .ref C, _, rfl, .own C, T.own hq, T.me, _, rfl, iteT ?_⟩
    refine ⟨_, rfl, p, C, dx, _, _, rfl, hp, T.cl, T.nR, rows_get r, .ref r, .list ds, H, rfl, Same.refl _, .lst (SqL.of hr1) (dpAll_same sv _ _ hw), vd', by simp only [nd]; omega, fun H1 l1 s1 d1 => ?_⟩
    refine ⟨_, rfl, q, C, dy, _, _, rfl, s1 _ _ hq, T.cl, T.nR, rows_get r2, .ref r2, .list es, H1, rfl, Same.refl _, .lst (SqL.of (s1 _ _ hr2)) (dpAll_same (sv.trans s1) _ _ hu), ve', by simp only [nd]; omega, fun H2 l2 s2 d2 => ?_⟩
    refine ⟨_, _, dp_same s2 _ _ d1, d2, out_shaped vd', out_shaped ve', ?_⟩
    exact k H2 _ (s1.trans s2) ((out_eqv vd' ve').trans ⟨fun h => PyData.list.inj h, fun h => by rw [h]⟩)
theorem ok_eqV {f fO : Addr} {fd dO : FuncData} (F : Fun K "__eq__" "Entries.__eq__" mEntries_eq f fd) (T : En K mg C) (N : Nm mg) (GO : FnOk P w K mg base CX0 2 fO dO ["value"] (spOut K)) (gO : mg "outline_of" = some (.ref fO)) (kO : PySem.W.keepIn K (.ref fO) = true) (bO : Binds K dO ["value"] []) :
    FnOk P w K mg base CX0 3 f fd ["self", "other"] (spEqV K C) := by
  refine F.ok scEqE (fun vs H Q E h => ?_) (fun cdv A outer s H vs Q E hr h => ?_)
  · obtain ⟨p, dx, r, y, e, Hv, rfl, _⟩ := h
    rfl
  · obtain ⟨p, dx, r, y, e, Hv, rfl, hp, sv, he, ve, k⟩ := h
    refine ⟨_, pss_one (ps_ret (pe_and (pe_callB call_isi (by rfl) N.isi (by decide +kernel) (pa_cons (pv 1) (pa_cons (pe_glob (v := .ref C) (by rfl) T.mgC rfl) pa_nil)))
      (pe_one (pe_cmpR (op_eqD hr.units) (pe_call GO hr (by rfl) gO kO bO .nil pass0 (pa_cons (pe_fld (pv 0) rfl) pa_nil)) (pe_call GO hr (by rfl) gO kO bO .nil pass0 (pa_cons (pe_fld (pv 1) rfl) pa_nil)) (nomark _))))), ?_⟩
    exact ⟨_, rfl, y, .ref C, _, .ref C, _, rfl, .own C, dp_ty (dp_same sv _ _ he), T.not ve, _, rfl, iteF k⟩
end
end TX
namespace TX
open PySem PySem.Spec PyProof.Rows L2
def spMul (K : PySem.W.Frag) (C : Addr) : Sp := fun vs H Q _ => ∃ (p dx r : Addr) (ws : List V) (n : Int) (ds : List PyData) (Hv : Hp), vs = [.ref p, .int n] ∧ H p = some (.ins C dx (rowsF r)) ∧ H r = some (.lst ws) ∧ Same Hv H ∧ DpAll K Hv ws ds ∧ valAll ds ∧ (-(2 ^ 62) ≤ n ∨ n < -(2 ^ 64)) ∧ n ≤ 1000 ∧ szAll ds * n.toNat ≤ 4000 ∧ NewE C H (List.replicate n.toNat ds).flatten Q
section
variable {P : Program} {w : World} {K : PySem.W.Frag} {mg : Str → Option Value} {base : Heap} {C : Addr}
theorem scMul : FnScope ["self", "other", "_", "row"] ["self", "other"] (defScope mEntries_mul) := ⟨rfl, rfl, rfl, by decide +kernel, rfl, by decide +kernel, by decide +kernel⟩
theorem ok_mul {f fW fI : Addr} {fd dW dI : FuncData} (F : Fun K "__mul__" "Entries.__mul__" mEntries_mul f fd) (T : En K mg C) (Y : Nv mg) (M : Mk K C fI) (GI : FnOk P w K mg base CX0 4 fI dI ["self", "value"] (spInit K C)) (bI : Binds K dI ["self", "value"] [])
    (GW : FnOk P w K mg base CX0 1 fW dW ["thing"] (spWhole K)) (gW : mg "is_whole_number" = some (.ref fW)) (kW : PySem.W.keepIn K (.ref fW) = true) (bW : Binds K dW ["thing"] []) : FnOk P w K mg base CX0 6 f fd ["self", "other"] (spMul K C) := by
  refine F.ok scMul (fun vs H Q E h => ?_) (fun cdv A outer s H vs Q E hr h => ?_)
  · obtain ⟨p, dx, r, ws, n, ds, Hv, rfl, _⟩ := h
    rfl
  · obtain ⟨p, dx, r, ws, n, ds, Hv, rfl, hp, hr', sv, hw, vd, hn, hn2, hz, q⟩ := h
    refine ⟨_, pss_cons (ps_if (pt_not (pt_val (pe_call GW (hr.mono (by decide)) (by rfl) gW kW bW .nil pass0 (pa_cons (pv 1) pa_nil)))) (pss_one ps_never) pss_nil) <|
      pss_one (ps_ret (pe_make M GI hr (by rfl) T.mgC bI .nil pass0 (pa_cons (pe_lc2 (own := [("_", 2), ("row", 3)]) (vs1 := [3]) (g := gName 2) (g1 := gName 3) (tt := tYes) (tt1 := tYes) (wi1 := iList K (tFld K (tVar 0) "_rows")) (te := tVar 3) rfl scMul.nd (pi_range1W (by rfl) Y.range (pa_cons (pv 1) pa_nil))
        (blkOk_by (own := [("_", 2), ("row", 3)]) (N := ["self", "other", "_", "row"]) (sc := defScope mEntries_mul) (by decide +kernel)) (by decide) (fun _ _ _ _ _ => pg_name (i := 2) scMul.nd rfl (Or.inl rfl)) (fun _ _ _ _ _ => pts_nil)
        (fun _ _ _ _ _ => pi_list (pe_fld (pv 0) rfl)) (fun _ _ _ _ _ => pg_name (i := 3) scMul.nd rfl (Or.inl rfl)) (fun _ _ _ _ _ => pts_nil) (fun _ _ _ _ _ => pv 3)) pa_nil))), ?_⟩
    have hwl := DpAll.length hw
    have dl := szAll_len ds
    have hwn : ws.length * n.toNat ≤ 4000 := Nat.le_trans (Nat.mul_le_mul_right _ (show ws.length ≤ szAll ds by omega)) hz
    refine ⟨_, rfl, n, rfl, _, rfl, iteF ?_⟩
    refine ⟨_, rfl, n, rfl, hn, by omega, fun D nD => ?_⟩
    have pD : p ≠ D := ne_of_none hp nD
    have rD : r ≠ D := ne_of_none hr' nD
    have len_rep : ∀ i : Nat, (List.replicate i ws).flatten.length = ws.length * i := fun i => by
      induction i with
      | zero => simp
      | succ i ih =>
        rw [rep_snoc, List.length_append, ih, Nat.mul_succ]
    refine ⟨fun i m G => m = n.toNat - i ∧ i ≤ n.toNat ∧ G D = some (.lst (List.replicate i ws).flatten) ∧ ∀ b o, b ≠ D → H b = some o → G b = some o, ⟨_, rfl, Nat.zero_le _, by rw [upd_same]; rfl, fun b o hb e => by rw [upd_ne hb]; exact e⟩, ?_⟩
    rintro i m G ⟨rfl, hi, hD, kp⟩
    by_cases hlt : i < n.toNat
    · refine .inr ⟨hlt, fun G' => G' D = some (.lst (List.replicate (i + 1) ws).flatten) ∧ ∀ b o, b ≠ D → H b = some o → G' b = some o, fun G' ⟨h1, h2⟩ => ⟨_, by omega, rfl, hlt, h1, h2⟩, ?_⟩
      rintro x G' ⟨rfl, rfl⟩
      refine ⟨rfl, ?_⟩
      refine ⟨_, rfl, p, C, dx, _, _, rfl, kp _ _ pD hp, T.cl, T.nR, rows_get r, r, rfl, ⟨_, SqL.of (kp _ _ rD hr')⟩, ?_⟩
      refine ⟨fun j m G' => m = ws.length - j ∧ j ≤ ws.length ∧ G' D = some (.lst ((List.replicate i ws).flatten ++ ws.take j)) ∧ ∀ b o, b ≠ D → H b = some o → G' b = some o, ⟨_, rfl, Nat.zero_le _, by rw [hD]; simp, kp⟩, ?_⟩
      rintro j m G1 ⟨rfl, hj, hD1, kp1⟩
      by_cases hl2 : j < ws.length
      · have hx : ws[j]? = some ws[j] := List.getElem?_eq_getElem hl2
        refine .inr ⟨⟨ws, _, SqL.of (kp1 _ _ rD hr'), hx⟩, fun G' => G' D = some (.lst ((List.replicate i ws).flatten ++ ws.take (j + 1))) ∧ ∀ b o, b ≠ D → H b = some o → G' b = some o, fun G' ⟨h1, h2⟩ => ⟨_, by omega, rfl, hl2, h1, h2⟩, ?_⟩
        rintro x G2 ⟨rfl, hx2⟩
        have ex := (hx2 _ (SqL.of (kp1 _ _ rD hr'))).symm.trans hx
        cases ex
        refine ⟨rfl, _, rfl, _, hD1, ?_, ?_, fun b o hb e => by rw [upd_ne hb]; exact kp1 b o hb e⟩
        · refine Nat.lt_of_le_of_lt (show _ ≤ 10000 from ?_) (by decide)
          have h3 : ws.length * (i + 1) ≤ ws.length * n.toNat := Nat.mul_le_mul_left _ hlt
          rw [Nat.mul_succ] at h3
          rw [List.length_append, len_rep]
          have := List.length_take_le j ws
          omega
        · rw [upd_same, List.take_add_one, hx, List.append_assoc]
          rfl
      · have ej : j = ws.length := by omega
        subst ej
        refine .inl ⟨⟨ws, SqL.of (kp1 _ _ rD hr'), Nat.le_refl _⟩, ?_, kp1⟩
        rw [hD1, List.take_length, rep_snoc]
    · have ei : i = n.toNat := by omega
      subst ei
      refine .inl ⟨Nat.le_refl _, ?_⟩
      have s3 : Same H G := fun b o e => kp b o (ne_of_none e nD) e
      refine mk_ent (d := .list (List.replicate n.toNat ds).flatten) (Same.refl _) (.lst (SqL.of hD) (DpAll.rep (dpAll_same (sv.trans s3) _ _ hw) n.toNat)) (val_rep vd n.toNat) (by simp only [sz, szAll_rep]; omega) fun H' x dx' r' us' S sm nx hx nr hr2 tr nS xS fr => ?_
      exact q H' x dx' r' us' S (s3.trans sm) (s3.free nx) hx (s3.free nr) hr2 tr nS xS fun b hb => s3.free (fr b hb)
end
end TX
namespace TX
open PySem PySem.Spec PyProof.Rows L2
theorem EntF.base {C : Addr} {A B H : Hp} {x r : Addr} {F : List Addr} {dd : List PyData} (h : EntF C B H x r F dd) (s : Same A B) : EntF C A H x r F dd := ⟨s.free h.nx, s.free h.nr, h.ob, h.ro, h.rF, h.xF, fun b hb => s.free (h.fr b hb)⟩
/-- nothing of the one stands where the other does -/
def Ap (x r : Addr) (F : List Addr) (y q : Addr) (G : List Addr) : Prop := ∀ b, (b = x ∨ b = r ∨ b ∈ F) → b ≠ y ∧ b ≠ q ∧ b ∉ G
theorem Ap.symm {x r y q : Addr} {F G : List Addr} (h : Ap x r F y q G) : Ap y q G x r F := fun b hb => by
  refine ⟨fun e => ?_, fun e => ?_, fun e => ?_⟩
  · subst e
    obtain ⟨a, c, d⟩ := h b (.inl rfl)
    exact hb.elim a (Or.rec c d)
  · subst e
    obtain ⟨a, c, d⟩ := h b (.inr (.inl rfl))
    exact hb.elim a (Or.rec c d)
  · obtain ⟨a, c, d⟩ := h b (.inr (.inr e))
    exact hb.elim a (Or.rec c d)
theorem EntF.apart {C : Addr} {A B H : Hp} {x r y q : Addr} {F G : List Addr} {dd ee : List PyData} (h1 : EntF C A B x r F dd) (h2 : EntF C B H y q G ee) : Ap x r F y q G := by
  obtain ⟨dx, e1⟩ := h1.ob
  obtain ⟨us, e2, tr⟩ := h1.ro
  have on : ∀ b, (b = x ∨ b = r ∨ b ∈ F) → B b ≠ none := fun b hb => by
    rcases hb with rfl | rfl | hb
    · rw [e1]; exact fun z => nomatch z
    · rw [e2]; exact fun z => nomatch z
    · exact TrAll.there tr b hb
  exact fun b hb => ⟨fun e => on b hb (e ▸ h2.nx), fun e => on b hb (e ▸ h2.nr), fun e => on b hb (h2.fr b e)⟩
theorem made_ent {H H' : Hp} {C x dx r : Addr} {us : List V} {S : List Addr} {dd : List PyData} (nx : H x = none) (ndx : H dx = none) (k : ∀ b o, b ≠ x → (upd (upd H dx (.own x)) x (.ins C dx [])) b = some o → H' b = some o) (hx : H' x = some (.ins C dx (rowsF r))) (nr : (upd (upd H dx (.own x)) x (.ins C dx [])) r = none)
    (hr : H' r = some (.lst us)) (tr : TrAll H' us dd S) (rS : r ∉ S) (fr : ∀ b ∈ S, (upd (upd H dx (.own x)) x (.ins C dx [])) b = none) : Same H H' ∧ EntF C H H' x r S dd := by
  obtain ⟨s, nor, xS, fr'⟩ := made_facts nx ndx k nr fr
  exact ⟨s, nx, nor, ⟨_, hx⟩, ⟨_, hr, tr⟩, rS, xS, fr'⟩
theorem newE {C : Addr} {H : Hp} {ds : List PyData} {Q : VK} (q : ∀ (H' : Hp) (x r : Addr) (S : List Addr), Same H H' → EntF C H H' x r S ds → Q (.ref x) H') : NewE C H ds Q :=
  fun H' x dx r us S sm nx hx nr hr tr rS xS fr => q H' x r S sm ⟨nx, nr, ⟨_, hx⟩, ⟨_, hr, tr⟩, rS, xS, fr⟩
def spRadd (K : PySem.W.Frag) (C : Addr) : Sp := fun vs H Q _ => ∃ (p dx r : Addr) (ws : List V) (y : V) (ds : List PyData) (e : PyData) (Hv : Hp), vs = [.ref p, y] ∧ H p = some (.ins C dx (rowsF r)) ∧ H r = some (.lst ws) ∧ Same Hv H ∧ DpAll K Hv ws ds ∧ valAll ds ∧ Dp K Hv y e ∧ valD e ∧ szAll ds + sz e ≤ 4000 ∧ NewE C H (entD e ++ ds) Q
section
variable {P : Program} {w : World} {K : PySem.W.Frag} {mg : Str → Option Value} {base : Heap} {C : Addr}
theorem scRadd : FnScope ["self", "other"] ["self", "other"] (defScope mEntries_radd) := ⟨rfl, rfl, rfl, by decide +kernel, rfl, by decide +kernel, by decide +kernel⟩
theorem ok_radd {f fV fE fI : Addr} {fd dV dE dI : FuncData} (F : Fun K "__radd__" "Entries.__radd__" mEntries_radd f fd) (T : En K mg C) (M : Mk K C fI) (GI : FnOk P w K mg base CX0 4 fI dI ["self", "value"] (spInit K C)) (bI : Binds K dI ["self", "value"] [])
    (GV : FnOk P w K mg base CX0 3 fV dV ["thing"] (spOkV K (.bl true))) (gV : mg "is_value" = some (.ref fV)) (kV : PySem.W.keepIn K (.ref fV) = true) (bV : Binds K dV ["thing"] [])
    (GE : FnOk P w K mg base CX0 1 fE dE ["value"] (spEnt K)) (gE : mg "entries_of" = some (.ref fE)) (kE : PySem.W.keepIn K (.ref fE) = true) (bE : Binds K dE ["value"] []) : FnOk P w K mg base CX0 6 f fd ["self", "other"] (spRadd K C) := by
  refine F.ok scRadd (fun vs H Q E h => ?_) (fun cdv A outer s H vs Q E hr h => ?_)
  · obtain ⟨p, dx, r, ws, y, ds, e, Hv, rfl, _⟩ := h
    rfl
  · obtain ⟨p, dx, r, ws, y, ds, e, Hv, rfl, hp, hr', sv, hw, vd, hy, ve, hz, q⟩ := h
    refine ⟨_, pss_cons (ps_if (pt_not (pt_val (pe_call GV (hr.mono (by decide)) (by rfl) gV kV bV .nil pass0 (pa_cons (pv 1) pa_nil)))) (pss_one ps_never) pss_nil) <|
      pss_one (ps_ret (pe_make M GI hr (by rfl) T.mgC bI .nil pass0 (pa_cons (pe_op op_cat (pe_call GE (hr.mono (by decide)) (by rfl) gE kE bE .nil pass0 (pa_cons (pv 1) pa_nil)) (pe_fld (pv 0) rfl)) pa_nil))), ?_⟩
    have hwl := DpAll.length hw
    have dl := szAll_len ds
    have el := szAll_len (entD e)
    have es := ent_sz e
    refine ⟨_, rfl, y, e, Hv, rfl, sv, hy, ve, by omega, fun H1 s1 => ⟨_, rfl, iteF ?_⟩⟩
    refine ⟨_, rfl, y, e, Hv, rfl, sv.trans s1, hy, ve, fun H2 l us s2 nl hl hu => ?_⟩
    have hul := DpAll.length hu
    have s12 := s1.trans s2
    refine ⟨_, rfl, p, C, dx, _, _, rfl, s12 _ _ hp, T.cl, T.nR, rows_get r, l, r, us, ws, rfl, rfl, hl, s12 _ _ hr', Nat.le_trans (show us.length + ws.length ≤ 10000 by omega) (by decide), fun l2 nl2 => ?_⟩
    have s3 : Same H (upd H2 l2 (.lst (us ++ ws))) := s12.trans (same_upd nl2)
    refine mk_ent (d := .list (entD e ++ ds)) (Same.refl _) (.lst (SqL.of upd_same) (DpAll.append (dpAll_same (sv.trans s3) _ _ hu) (dpAll_same (sv.trans s3) _ _ hw))) ((valAll_append _ _).mpr ⟨ent_val ve, vd⟩) (by simp only [sz, szAll_append]; omega) fun H' x dx' r' us' S sm nx hx nr hr2 tr nS xS fr => ?_
    exact q H' x dx' r' us' S (s3.trans sm) (s3.free nx) hx (s3.free nr) hr2 tr nS xS fun b hb => s3.free (fr b hb)
end
end TX
namespace TX
open PySem PySem.Spec PyProof.Rows L2
/-! ### joined -/
def noT (d : PyData) : Bool := !(tyD d == "str")
theorem all_texts : ∀ {ds : List PyData}, (∀ t ∈ ds, noT t = false) → ∃ zs : List Str, ds = zs.map .str
  | [], _ => ⟨[], rfl⟩
  | d :: ds, h => by
    obtain ⟨zs, e⟩ := all_texts fun t ht => h t (List.mem_cons_of_mem _ ht)
    have q := h d List.mem_cons_self
    cases d with
    | str z => exact ⟨z :: zs, by rw [e]; rfl⟩
    | _ => simp [noT, tyD] at q
theorem dp_texts {K : PySem.W.Frag} {H : Hp} : ∀ {zs : List Str} {ws : List V}, DpAll K H ws (zs.map .str) → ws = zs.map V.str
  | [], _, h => by
    cases h
    rfl
  | z :: zs, _, h => by
    cases h with
    | cons h1 h2 =>
      cases h1
      rw [dp_texts h2]
      rfl
theorem sz_texts : ∀ zs : List Str, szAll (zs.map .str) = (zs.map (·.length)).sum + zs.length
  | [] => rfl
  | z :: zs => by
    have := sz_texts zs
    simp only [List.map_cons, szAll, sz, List.sum_cons, List.length_cons]
    omega
def spJoined (K : PySem.W.Frag) (C NT : Addr) : Sp := fun vs H Q E => ∃ (p dx r : Addr) (ws : List V) (ds : List PyData) (Hv : Hp) (bt : Str), vs = [.ref p, .str bt] ∧ H p = some (.ins C dx (rowsF r)) ∧ H r = some (.lst ws) ∧ Same Hv H ∧ DpAll K Hv ws ds ∧ valAll ds ∧ szAll ds ≤ 5000 ∧ bt.length ≤ 10 ∧
  (∀ zs : List Str, ds = zs.map .str → ∀ H', Same H H' → Q (.str (Txt.join bt zs)) H') ∧ ∀ j, ds.findIdx? noT = some j → NoAt K NT H (.int (j : Nat)) E
section
variable {P : Program} {w : World} {K : PySem.W.Frag} {mg : Str → Option Value} {base : Heap} {C TE NT : Addr}
theorem scNt : FnScope ["self", "at"] ["self", "at"] (defScope mNotText_init) := ⟨rfl, rfl, rfl, by decide +kernel, rfl, by decide +kernel, by decide +kernel⟩
theorem ok_inNt {f D fC : Addr} {fd fdC : FuncData} (F : Fun K "__init__" "NotText.__init__" mNotText_init f fd) (GC : FnOk P w K mg base CX0 2 fC fdC ["thing"] (spCopy K)) (gC : mg "copy_of" = some (.ref fC)) (kC : PySem.W.keepIn K (.ref fC) = true) (bC : Binds K fdC ["thing"] []) :
    FnOk P w K mg base CX0 3 f fd ["self", "at"] (spIn1 K D "at") := by
  refine F.ok scNt (fun vs H Q E h => ?_) (fun cdv A outer s H vs Q E hr h => ?_)
  · obtain ⟨a, v, d, Hv, rfl, _⟩ := h
    rfl
  · obtain ⟨a, v, d, Hv, rfl, ox, no, ha, sv, hd, hn, q⟩ := h
    refine ⟨_, pss_one (ps_ost (pv 0) (pe_call GC hr (by rfl) gC kC bC .nil pass0 (pa_cons (pv 1) pa_nil))), ?_⟩
    refine ⟨_, rfl, v, d, Hv, rfl, sv, hd, hn, fun H' v' sm hv' => ⟨_, rfl, a, D, rfl, ox, no, .inl ⟨sm _ _ ha, fun dx ndx hne => ?_⟩⟩⟩
    refine q _ dx v' ⟨upd_same, by rw [upd_ne hne, upd_same], sm.free ndx, hne, fun b o hb e => ?_, .cons (dp_same (cut_same ha ndx) _ _ hv') .nil⟩
    rw [upd_ne hb, upd_ne (ne_of_none (sm _ _ e) ndx)]
    exact sm _ _ e
theorem scJoined : FnScope ["self", "between", "at", "row"] ["self", "between"] (defScope mEntries_joined) := ⟨rfl, rfl, rfl, by decide +kernel, rfl, by decide +kernel, by decide +kernel⟩
theorem ok_joined {f fI : Addr} {fd dI : FuncData} (F : Fun K "joined" "Entries.joined" mEntries_joined f fd) (T : En K mg C) (N : Nm mg) (S : Nk mg) (B : Nb mg) (c : Cl K mg TE "NotText" NT) (iC : PySem.W.findIn K (.ref NT) "__init__" = some (some (.ref fI))) (tI : PySem.W.typeIn K (.ref fI) = some (.type "function")) (nP : PySem.W.findIn K (.ref NT) "at" = some none)
    (GI : FnOk P w K mg base CX0 3 fI dI ["self", "at"] (spIn1 K NT "at")) (bI : Binds K dI ["self", "at"] []) :
    FnOk P w K mg base (L2N.CX P w) 5 f fd ["self", "between"] (spJoined K C NT) := by
  refine fun_okN F scJoined (fun vs H Q E h => ?_) (fun cdv A outer s H vs Q E hr h => ?_)
  · obtain ⟨p, dx, r, ws, ds, Hv, bt, rfl, _⟩ := h
    rfl
  · obtain ⟨p, dx, r, ws, ds, Hv, bt, rfl, hp, hr', sv, hd, vd, hz, hbt, q1, q2⟩ := h
    refine ⟨_, pss_cons (ps_for (passes_of rfl) rfl (pi_enum (by rfl) B.enum (pa_cons (pe_fld (pv 0) rfl) pa_nil)) (pg_tup rfl (pgs_cons (pg_name (i := 2) scJoined.nd rfl (.inl rfl)) (pgs_cons (pg_name (i := 3) scJoined.nd rfl (.inl rfl)) pgs_nil)))
        (pss_one (ps_if (pt_not (pt_val (pe_callB call_isi (by rfl) N.isi (by decide +kernel) (pa_cons (pv 3) (pa_cons (pe_bltn (v := .ty "str") (by rfl) S.str (by decide +kernel) rfl) pa_nil)))))
          (pss_one (L2N.ps_raise rfl (L2N.takes_of rfl rfl rfl rfl) (by exact (pmk_oexZ c.ox iC tI GI hr bI .nil pass0 (by rfl) c.mgC (pa_cons (pv 2) pa_nil))))) pss_nil))) <|
      pss_one (ps_ret (pe_join (pv 1) (pe_fld (pv 0) rfl))), ?_⟩
    have bad : ∀ (i : Nat) (Hx : Hp), Same H Hx → ds.findIdx? noT = some i → ∀ a, Hx a = none → ∃ (a' : Addr) (v' : V) (d' : PyData) (Hw : Hp), [V.ref a, V.int (i : Nat)] = [.ref a', v'] ∧ OexC K NT ∧ PySem.W.findIn K (.ref NT) "at" = some none ∧ (upd Hx a (exo a NT none)) a' = some (exo a' NT none) ∧ Same Hw (upd Hx a (exo a NT none)) ∧ Dp K Hw v' d' ∧ nd d' ≤ 1000000 ∧
        ∀ (H2 : Hp) (dx : Addr) (w : V), Made K (upd Hx a (exo a NT none)) a' NT dx [("at", w)] H2 [w] [d'] → V.non = .non ∧ ∃ (dy : Addr) (fs : List (Str × V)), H2 a = some (exo a NT (some dy)) ∧ H2 dy = some (exd dy fs) ∧ Hx dy = none ∧ E (.ref NT) (some dy) (upd (del H2 a) dy (.xd fs)) := by
      intro i Hx sx e a na
      refine ⟨a, .int (i : Nat), .int (i : Nat), H, rfl, c.ox, nP, upd_same, sx.trans (same_upd na), .int _, by simp [nd], fun H2 dx w M => ?_⟩
      obtain ⟨s2, nx, hw⟩ := made_same (fs' := [("at", w)]) na M
      cases hw with
      | cons hw _ => exact ⟨rfl, dx, _, M.ea, M.ed, nx, q2 i e _ dx w (sx.trans s2) upd_same hw⟩
    refine ⟨_, rfl, p, C, dx, _, _, rfl, hp, T.cl, T.nR, rows_get r, r, ws, rfl, SqL.of hr', for_it (walk_enum (K := K) (a := r) (xs := ws)) (fun i σ H2 => ∃ y2 y3, σ = [some (.ref p), some (.str bt), y2, y3] ∧ Same H H2 ∧ ∀ t ∈ ds.take i, noT t = false) ⟨_, _, rfl, Same.refl _, by simp⟩ (fun i σ H2 hi ⟨_, _, _, sm, _⟩ => SqL.of (sm _ _ hr')) ?_ ?_⟩
    · rintro i x σ H2 H' hi ⟨y2, y3, rfl, sm, hno⟩ ⟨tp, a1, b1, rfl, nT, rfl, e1, e2⟩
      cases e1
      obtain ⟨d, hdi, hdd⟩ := DpAll.get hd e2
      have s2 : Same H (upd H2 tp (.tup [.int (i : Nat), b1])) := sm.trans (same_upd nT)
      refine ⟨tp, _, rfl, SqT.of upd_same, rfl, _, _, rfl, _, _, rfl, rfl, ?_⟩
      refine ⟨_, rfl, b1, .ty "str", .type (tyD d), .type "str", _, rfl, .ty _, dp_ty (dp_same (sv.trans s2) _ _ hdd), kitS d K, _, rfl, ?_⟩
      by_cases ht : (tyD d == "str") = true
      · rw [ht]
        refine iteF ⟨_, _, rfl, s2, fun t h => ?_⟩
        rw [List.take_add_one, hdi] at h
        rcases List.mem_append.mp h with h | h
        · exact hno t h
        · have e : t = d := by simpa using h
          rw [e]
          unfold noT
          rw [ht]
          rfl
      · have ht2 : (tyD d == "str") = false := by simpa using ht
        rw [ht2]
        refine iteT ⟨_, rfl, (by show 1 ≤ 1000; decide), fun a na => bad i _ s2 ?_ a na⟩
        have il : i < ds.length := (List.getElem?_eq_some_iff.mp hdi).1
        rw [List.findIdx?_eq_some_iff_getElem]
        refine ⟨il, ?_, fun j hj => ?_⟩
        · rw [(List.getElem?_eq_some_iff.mp hdi).2]
          unfold noT
          rw [ht2]
          rfl
        · have := hno (ds[j]'(by omega)) (List.mem_take_iff_getElem.mpr ⟨j, by omega, rfl⟩)
          rw [this]
          exact fun z => nomatch z
    · rintro σ H2 ⟨y2, y3, rfl, sm, hno⟩
      have ld := DpAll.length hd
      rw [ld, List.take_length] at hno
      obtain ⟨zs, rfl⟩ := all_texts hno
      have ew := dp_texts hd
      rw [ew] at hr'
      have e1 := sz_texts zs
      refine ⟨_, rfl, ⟨_, rfl⟩, _, rfl, p, C, dx, _, _, rfl, sm _ _ hp, T.cl, T.nR, rows_get r, bt, r, zs, rfl, rfl, .inl (SqL.of (sm _ _ hr')), ?_, q1 zs rfl H2 sm⟩
      have : zs.length * bt.length ≤ zs.length * 10 := Nat.mul_le_mul_left _ hbt
      omega
end
end TX
namespace TX
open PySem PySem.Spec PyProof.Rows L2
/-! ### _law_is_refused: both ways to an index refuse it -/
def PlainV (u : V) (pl : PyData) : Prop := (u = .non ∧ pl = .none) ∨ (∃ i, u = .int i ∧ pl = .int i) ∨ ∃ z, u = .str z ∧ pl = .str z
theorem PlainV.dp {K : PySem.W.Frag} {H : Hp} {u : V} {pl : PyData} (h : PlainV u pl) : Dp K H u pl := by
  rcases h with ⟨rfl, rfl⟩ | ⟨i, rfl, rfl⟩ | ⟨z, rfl, rfl⟩
  · exact .non
  · exact .int i
  · exact .str z
theorem PlainV.one {K : PySem.W.Frag} {H : Hp} {u w : V} {pl : PyData} (h : PlainV u pl) (g : Dp K H w pl) : w = u := by
  rcases h with ⟨rfl, rfl⟩ | ⟨i, rfl, rfl⟩ | ⟨z, rfl, rfl⟩ <;> cases g <;> rfl
theorem PlainV.nd {u : V} {pl : PyData} (h : PlainV u pl) : nd pl = 1 := by
  rcases h with ⟨rfl, rfl⟩ | ⟨i, rfl, rfl⟩ | ⟨z, rfl, rfl⟩ <;> rfl
def spRefused (K : PySem.W.Frag) (C : Addr) : Sp := fun vs H Q _ => ∃ (p dx r : Addr) (ws : List V) (ds : List PyData) (u : V) (pl : PyData) (Hv : Hp), vs = [.ref p, u] ∧ H p = some (.ins C dx (rowsF r)) ∧ H r = some (.lst ws) ∧ Same Hv H ∧ DpAll K Hv ws ds ∧ ndAll ds ≤ 10000 ∧ ws.length ≤ 10000 ∧ PlainV u pl ∧ atN ws.length pl = none ∧
  ∀ H', Same H H' → Q (.bl true) H'
def tTold (K : PySem.W.Frag) : Addr → Value → Option Addr → TS := fun a cls d => tAsg (tOp (rI0 fun i j => .int (i + j)) (tVar 2) (tCB (fun xs H Q => (∃ i, xs = [.int i] ∧ Q (.int i) H) ∨ ∃ k, xs = [.bl k] ∧ Q (.int (if k then 1 else 0)) H) (tCons (tOp rEq (tFe K a cls d "at" (tVar 3)) (tVar 1)) tNil))) (gName 2)
section
variable {P : Program} {w : World} {K : PySem.W.Frag} {mg : Str → Option Value} {base : Heap} {C TE NE : Addr}
theorem scRefused : FnScope ["_law_one", "_law_at", "_law_told", "e"] ["_law_one", "_law_at"] (defScope s__law_is_refused) := ⟨rfl, rfl, rfl, by decide +kernel, rfl, by decide +kernel, by decide +kernel⟩
theorem ok_refused {f fO fS : Addr} {fd dO dS : FuncData} (F : Fun K "_law_is_refused" "_law_is_refused" s__law_is_refused f fd) (B : Nb mg) (E : En K mg C) (c : Cl K mg TE "NoEntry" NE) (nA : PySem.W.findIn K (.ref NE) "at" = some none)
    (GO : FnOk P w K mg base (L2.CX P w) 6 fO dO ["self", "at"] (spGetD K C NE)) (hm : Meth K C "__getitem__" fO) (hfn : PySem.W.fnIn K fO = true) (bO : Binds K dO ["self", "at"] [])
    (GS : FnOk P w K mg base (L2.CX P w) 7 fS dS ["self", "at", "value"] (spSetD K C NE)) (hS : Meth K C "set_entry" fS) (bS : Binds K dS ["self", "at", "value"] []) : FnOk P w K mg base CX0 8 f fd ["_law_one", "_law_at"] (spRefused K C) := by
  refine F.ok scRefused (fun vs H Q E h => ?_) (fun cdv A outer s H vs Q E0 h1 h => ?_)
  · obtain ⟨p, dx, r, ws, ds, u, pl, Hv, rfl, _⟩ := h
    rfl
  · have hr := h1

    obtain ⟨p, dx, r, ws, ds, u, pl, Hv, rfl, hp, hr', sv, hw, hn, hl, hu, hb, q⟩ := h
    refine ⟨_, pss_cons (ps_set (i := 2) scRefused.nd rfl (.inl rfl) pe_int) <|
      pss_cons (ps_try_as (i := 3) (tb := fun W => tDrop (tGetO C (spGetD K C NE) (WE W) (tVar 0) (tVar 1))) (ts := tTold K) (Wout := fun _ _ _ _ => False) rfl rfl scRefused.nd rfl rfl ⟨rfl, by decide, Or.inl c.mgC⟩ take0
        (fun W pn xe tk _ => pss_one (ps_expr (by exact (pe_getO (pv 0) (pv 1) hm hfn GO hr bO (fun σ => passAt tk σ)))))
        (fun a oe cls d pn hz hf => pss_one (ps_set (i := 2) scRefused.nd rfl (.inl rfl) (pe_op op_add (pv 2) (pe_callTy call_int1 (by rfl) B.int (by decide +kernel) (pa_cons (pe_cmpR op_eq (pe_fe hz hf (pv 3)) (pv 1) (nomark _)) pa_nil)))))) <|
      pss_cons (ps_try_as (i := 3) (tb := fun W => tDrop (tMethS C "set_entry" (spSetD K C NE) (WE W) (tVar 0) (tCons (tVar 1) (tCons (tC (.str "never")) tNil)))) (ts := tTold K) (Wout := fun _ _ _ _ => False) rfl rfl scRefused.nd rfl rfl ⟨rfl, by decide, Or.inl c.mgC⟩ take0
        (fun W pn xe tk _ => pss_one (ps_expr (by exact (pe_methT (pv 0) E.cl hS GS hr bS (fun σ => passAt tk σ) (by exact (pa_cons (pv 1) (pa_cons pe_str pa_nil)))))))
        (fun a oe cls d pn hz hf => pss_one (ps_set (i := 2) scRefused.nd rfl (.inl rfl) (pe_op op_add (pv 2) (pe_callTy call_int1 (by rfl) B.int (by decide +kernel) (pa_cons (pe_cmpR op_eq (pe_fe hz hf (pv 3)) (pv 1) (nomark _)) pa_nil)))))) <|
      pss_one (ps_ret (pe_cmpR op_eq (pv 2) pe_int (nomark _))), ?_⟩
    have self : PySem.W.exmOne K (.ref NE) (.ref NE) = some true := by
      refine PySem.W.exm_ref c.ec.hs c.ec.hd c.ty ?_
      obtain ⟨cd, hc, hm⟩ := c.mro
      show PySem.W.mroIn K NE (.ref NE) = _
      rw [mro_is hc hm rfl]
      have f1 : (Value.ref NE == Value.ref NE) = true := beq_self_eq_true _
      simp only [List.contains_cons, f1, Bool.true_or]
    have hnd : nd pl ≤ 100000 := by rw [hu.nd]; decide
    have hsc : scal u u = true := by
      rcases hu with ⟨rfl, rfl⟩ | ⟨i, rfl, rfl⟩ | ⟨z, rfl, rfl⟩ <;> rfl
    refine ⟨_, rfl, _, rfl, p, dx, _, rfl, hp, p, dx, r, ws, ds, u, pl, Hv, rfl, hp, hr', sv, hw, hn, hu.dp, hnd, (fun j d ej => by rw [hb] at ej; cases ej), fun _ H3 dx3 w3 sm hx hw3 => ?_⟩
    refine ⟨true, self, fun _ a na => ?_, fun z => nomatch z⟩
    have e3 := hu.one hw3
    subst e3
    refine ⟨_, rfl, NE, rfl, c.xf, nA, _, rfl, rfl, rfl, dx3, _, w3, rfl, hx, rfl, _, rfl, hsc, ?_⟩
    rw [decide_eq_true rfl]
    refine .inr ⟨true, rfl, _, _, rfl, rfl, ?_⟩
    have nos : ¬ (("set_entry" : Str) = "_rows") := by decide +kernel
    refine ⟨_, rfl, p, dx, _, rfl, sm _ _ hp, rows_no r nos, _, rfl, p, dx, r, ws, w3, .str "never", pl, .str "never", H3, rfl, sm _ _ hp, sm _ _ hr', hl, Same.refl _, hu.dp, hnd, .str _, (by show Lt "never"; unfold Lt; decide +kernel), (by decide +kernel), (fun j ej => by rw [hb] at ej; cases ej), fun _ H4 dx4 w4 sm4 hx4 hw4 => ?_⟩
    refine ⟨true, self, fun _ a4 na4 => ?_, fun z => nomatch z⟩
    have e4 := hu.one hw4
    subst e4
    refine ⟨_, rfl, NE, rfl, c.xf, nA, _, rfl, rfl, rfl, dx4, _, w4, rfl, hx4, rfl, _, rfl, hsc, ?_⟩
    rw [decide_eq_true rfl]
    refine .inr ⟨true, rfl, _, _, rfl, rfl, ?_⟩
    exact ⟨_, rfl, rfl, q _ (sm.trans sm4)⟩
end
end TX
namespace TX
open PySem PySem.Spec PyProof.Rows L2
/-- what the signs of the class rest on -/
structure Sg (K : PySem.W.Frag) (C g2 gR : Addr) (fo ro fs' rs fl rl : Option Value) : Prop where
  m2 : Meth K C "__add__" g2
  mR : Meth K C "__radd__" gR
  sf : PySem.W.selfFirst K C = true
  h1 : PySem.W.findIn K (.type "NoneType") "__add__" = some fo
  h2 : PySem.W.findIn K (.type "NoneType") "__radd__" = some ro
  n1 : ((fo.isSome && !isSeqSlot fo) || (ro.isSome && !isSeqSlot ro)) = false
  u1 : PySem.W.subIn K (.ref C) (.type "NoneType") = some false
  w1 : PySem.W.subIn K (.type "NoneType") (.ref C) = some false
  h3 : PySem.W.findIn K (.type "str") "__add__" = some fs'
  h4 : PySem.W.findIn K (.type "str") "__radd__" = some rs
  n2 : ((fs'.isSome && !isSeqSlot fs') || (rs.isSome && !isSeqSlot rs)) = false
  u2 : PySem.W.subIn K (.ref C) (.type "str") = some false
  w2 : PySem.W.subIn K (.type "str") (.ref C) = some false
  h5 : PySem.W.findIn K (.type "list") "__add__" = some fl
  h6 : PySem.W.findIn K (.type "list") "__radd__" = some rl
  n3 : ((fl.isSome && !isSeqSlot fl) || (rl.isSome && !isSeqSlot rl)) = false
  u3 : PySem.W.subIn K (.ref C) (.type "list") = some false
  w3 : PySem.W.subIn K (.type "list") (.ref C) = some false
theorem reprE_len {ds : List PyData} (h : valAll ds) (hz : szAll ds ≤ 4000) : (PyData.list ds).shown.length ≤ 30000 ∧ (reprE ds).length ≤ 30000 := by
  have sl := shown_len (.list ds) h
  have e1 : sz (.list ds) = szAll ds + 1 := rfl
  have l1 : (Str.empty ++ "Entries(" : Str).length = 8 := rfl
  have l3 : (reprE ds).length = 8 + (PyData.list ds).shown.length + 1 := by
    unfold reprE
    rw [size_cat, size_cat, l1]
    rfl
  omega
theorem take0N {X : Cx} : L2N.Takes X (fun _ _ _ _ => False) := fun _ _ ⟨_, _, _, _, _, _, _, _, _, _, _, _, _, _, _, _, z⟩ => z.elim
mutual
theorem val_can2 : ∀ d : PyData, valD d → d.canLay0 = true
  | .none, _ => rfl
  | .str x, h => by simp only [PyData.canLay0, lt_strOk h]
  | .list es, h => by simp only [PyData.canLay0, val_canAll2 es h]
  | .bool _, h => h.elim
  | .int _, h => h.elim
  | .tuple _, h => h.elim
  | .dict _, h => h.elim
theorem val_canAll2 : ∀ ds : List PyData, valAll ds → PyData.canLayAll0 ds = true
  | [], _ => rfl
  | d :: ds, h => by simp only [PyData.canLayAll0, val_can2 d h.1, val_canAll2 ds h.2, Bool.and_self]
end
/-- Entries(v) gives a new object, what is wanted told by its place -/
theorem mk_entA {K : PySem.W.Frag} {C : Addr} {H Hv : Hp} {Qa : Addr → Hp → Prop} {E : XK} {v : V} {d : PyData} (sv : Same Hv H) (hd : Dp K Hv v d) (vd : valD d) (hz : sz d ≤ 5000)
    (q : ∀ (H' : Hp) (x dx r : Addr) (ws : List V) (S : List Addr), Same H H' → H x = none → H' x = some (.ins C dx (rowsF r)) → H r = none → H' r = some (.lst ws) → TrAll H' ws (entD d) S → r ∉ S → x ∉ S → (∀ b ∈ S, H b = none) → Qa x H') :
    ∀ x dx, H x = none → H dx = none → dx ≠ x → spInit K C [.ref x, v] (upd (upd H dx (.own x)) x (.ins C dx [])) (fun v H2 => v = .non ∧ Qa x H2) E := fun x dx nx ndx hne => by
  have s0 : Same H (upd (upd H dx (.own x)) x (.ins C dx [])) := same_fresh nx (same_upd ndx)
  refine ⟨x, dx, v, d, Hv, rfl, upd_same, sv.trans s0, hd, vd, hz, fun H' r ws S k h1 nr h2 tr nS fr => ⟨rfl, ?_⟩⟩
  refine q H' x dx r ws S (fun b o e => k b o (ne_of_none e nx) (s0 b o e)) nx h1 (s0.free nr) h2 tr nS (fun z => ?_) fun b hb => s0.free (fr b hb)
  have := fr x z
  rw [upd_same] at this
  cases this
structure Mr (mg : Str → Option Value) : Prop where
  repr : mg "repr" = none
  bool : mg "bool" = none
theorem passAtF {X : Cx} {σ : L2.St} : PassesAt (L2.CX X.prog X.w) X σ (fun _ _ _ => False) := fun _ _ _ _ _ _ ⟨_, _, _, _, _, _, _, _, _, _, _, _, z⟩ => z.elim
/-- the methods that is_right asks -/
structure Lr (P : Program) (w : World) (K : PySem.W.Frag) (mg : Str → Option Value) (base : Heap) (C NE NT i1 i2 i6 i7 i8 i9 i10 i12 i14 i15 : Addr) (e1 e2 e6 e7 e8 e9 e10 e12 e14 e15 : FuncData) : Prop where
  M : Mk K C i1
  I1 : FnOk P w K mg base CX0 4 i1 e1 ["self", "value"] (spInit K C)
  c1 : Binds K e1 ["self", "value"] []
  I2 : FnOk P w K mg base CX0 6 i2 e2 ["self", "other"] (spAdd K C)
  c2 : Binds K e2 ["self", "other"] []
  I6 : FnOk P w K mg base CX0 3 i6 e6 ["self", "other"] (spEqG K C)
  c6 : Binds K e6 ["self", "other"] []
  m6 : Meth K C "__eq__" i6
  ne : PySem.W.findIn K (.ref C) "__ne__" = some (some (.builtin "object.__ne__"))
  so : PySem.W.subIn K (.ref C) (.type "object") = some true
  I7 : FnOk P w K mg base CX0 3 i7 e7 ["self"] (spRepr K C)
  c7 : Binds K e7 ["self"] []
  m7 : Meth K C "__repr__" i7
  I8 : FnOk P w K mg base CX0 1 i8 e8 ["self"] (spLen C)
  c8 : Binds K e8 ["self"] []
  m8 : Meth K C "__len__" i8
  I9 : FnOk P w K mg base CX0 1 i9 e9 ["self"] (spBool C)
  c9 : Binds K e9 ["self"] []
  m9 : Meth K C "__bool__" i9
  I10 : FnOk P w K mg base CX0 3 i10 e10 ["self"] (spPacked K C)
  c10 : Binds K e10 ["self"] []
  m10 : Meth K C "packed" i10
  I12 : FnOk P w K mg base (L2.CX P w) 6 i12 e12 ["self", "at"] (spGetD K C NE)
  c12 : Binds K e12 ["self", "at"] []
  m12 : Meth K C "__getitem__" i12
  f12 : PySem.W.fnIn K i12 = true
  I14 : FnOk P w K mg base CX0 4 i14 e14 ["self", "x"] (spCon K C)
  c14 : Binds K e14 ["self", "x"] []
  m14 : Meth K C "__contains__" i14
  I15 : FnOk P w K mg base (L2N.CX P w) 5 i15 e15 ["self", "between"] (spJoined K C NT)
  c15 : Binds K e15 ["self", "between"] []
  m15 : Meth K C "joined" i15
def spRight (K : PySem.W.Frag) (C : Addr) : Sp := fun vs H Q _ => ∃ (p dx r l : Addr) (ws us : List V) (ds : List PyData) (Hv : Hp), vs = [.ref p, .ref l] ∧ H p = some (.ins C dx (rowsF r)) ∧ H r = some (.lst ws) ∧ H l = some (.lst us) ∧ Same Hv H ∧ DpAll K Hv ws ds ∧ DpAll K Hv us ds ∧ valAll ds ∧ szAll ds ≤ 1000 ∧ PyData.depthAll ds ≤ 10 ∧
  ∀ H', Same H H' → Q (.bl true) H'
def tTextNot (K : PySem.W.Frag) : TT := tNot (tB (tCB (rIsi K) (tCons (tVar 4) (tCons (tC (.ty "str")) tNil))))
def tNotText (K : PySem.W.Frag) : Addr → Value → Option Addr → TS := fun a cls d => tRet (tOp (rEqD K) (tLc (iList K (tSl (rSlL K) (tVar 1) tNoPart (tPart (tOp (rI0 fun i j => .int (i + j)) (tFe K a cls d "at" (tVar 3)) (tC (.int 1)))))) (gName 4) (tTextNot K) (tVar 4) [4]) (tLst (tCons (tOp (rIxL K) (tVar 1) (tFe K a cls d "at" (tVar 3))) tNil)))
section
variable {P : Program} {w : World} {K : PySem.W.Frag} {mg : Str → Option Value} {base : Heap} {C TE NE NT : Addr}
theorem scRight : FnScope ["_law_one", "_law_due", "_law_text_here", "e", "_law_each"] ["_law_one", "_law_due"] (defScope s__law_is_right) := ⟨rfl, rfl, rfl, by decide +kernel, rfl, by decide +kernel, by decide +kernel⟩
theorem ok_right {f i1 i2 i6 i7 i8 i9 i10 i12 i14 i15 gR : Addr} {fd e1 e2 e6 e7 e8 e9 e10 e12 e14 e15 : FuncData} {fo ro fs' rs fl rl : Option Value} (F : Fun K "_law_is_right" "_law_is_right" s__law_is_right f fd) (cT : Cl K mg TE "NotText" NT) (nA : PySem.W.findIn K (.ref NT) "at" = some none) (M : Mr mg) (N : Nm mg) (S2 : Nk mg) (B : Nb mg) (T : En K mg C) (S : Sg K C i2 gR fo ro fs' rs fl rl) (L : Lr P w K mg base C NE NT i1 i2 i6 i7 i8 i9 i10 i12 i14 i15 e1 e2 e6 e7 e8 e9 e10 e12 e14 e15) :
    FnG P w K mg base CX0 9 f fd ["_law_one", "_law_due"] (spRight K C) := by
  refine fng_of F scRight (fun vs H Q E h => ?_) (fun cdv A outer s H vs Q E hgd hr h => ?_)
  · obtain ⟨p, dx, r, l, ws, us, ds, Hv, rfl, _⟩ := h
    rfl
  · obtain ⟨p, dx, r, l, ws, us, ds, Hv, rfl, hp, hr1, hl, sv, hw, hu', vd, hz, hdp, q⟩ := h
    have hu := hr.units
    have r2 : Room 2 _ := hr.mono (by decide)
    have r3 : Room 3 _ := hr.mono (by decide)
    have r4 : Room 4 _ := hr.mono (by decide)
    have r5 : Room 5 _ := hr.mono (by decide)
    have r6 : Room 6 _ := hr.mono (by decide)
    have r7 : Room 7 _ := hr.mono (by decide)
    refine ⟨_, pss_cons (ps_if (PW.pt (pw_or (pt_cmpR op_ne (pe_callB (call_reprO (E := E0) L.m7 L.I7 r4 L.c7 pass0) (by rfl) M.repr (by decide +kernel) (pa_cons (pv 0) pa_nil)) (pe_op op_add_str (pe_op op_add_str pe_str (pe_callB (call_repr hgd hu) (by rfl) M.repr (by decide +kernel) (pa_cons (pv 1) pa_nil))) pe_str) (nomark _)) (pw_or (pt_cmpR op_ne (pe_callB (call_lenO (E := E0) L.m8 L.I8 r2 L.c8 pass0) (by rfl) B.len PySem.boot_len (pa_cons (pv 0) pa_nil)) (pe_callB call_len_seq (by rfl) B.len PySem.boot_len (pa_cons (pv 1) pa_nil)) (nomark _)) (pw_or1 (pt_cmpR op_ne (pe_callTy (call_boolO (E := E0) L.m9 L.I9 r3 L.c9 pass0) (by rfl) M.bool (by decide +kernel) (pa_cons (pv 0) pa_nil)) (pe_cmpR (op_neD hu) (pv 1) (pe_lst pa_nil) (nomark _)) (nomark _)))))) (pss_one (ps_ret pe_bl)) pss_nil) <|
      pss_cons (ps_if (PW.pt (pw_or (pt_cmpR (op_ne_own (E := E0) L.m6 L.ne L.so L.I6 r4 L.c6 pass0) (pe_make L.M L.I1 r5 (by rfl) T.mgC L.c1 .nil pass0 (pa_cons (pe_meth0 (pv 0) T.cl L.m10 L.I10 r3 L.c10 .nil pass0) pa_nil)) (pv 0) (nomark _)) (pw_or (pt_cmpR (op_ne_own (E := E0) L.m6 L.ne L.so L.I6 r4 L.c6 pass0) (pv 0) (pe_make L.M L.I1 r5 (by rfl) T.mgC L.c1 .nil pass0 (pa_cons (pv 1) pa_nil)) (nomark _)) (pw_or1 (pt_cmpR (op_eq_own (E := E0) L.m6 L.I6 r3 L.c6 pass0) (pe_op (op_own_val (E := E0) S.m2 S.sf S.mR.at_ (.inr ⟨_, rfl⟩) S.h1 S.h2 S.w1 S.h3 S.h4 S.w2 S.h5 S.h6 S.w3 L.I2 r6 L.c2 pass0) (pv 0) pe_str) (pv 0) (nomark _)))))) (pss_one (ps_ret pe_bl)) pss_nil) <|
      C8.pss_cut (ps_if (pt_cmpR (op_neD hu) (pv 1) (pe_lst pa_nil) (nomark _))
        (pss_one (ps_if (PW.pt (pw_or (pt_cmpR op_ne (pe_callB (call_repr hgd hu) (by rfl) M.repr (by decide +kernel) (pa_cons (pe_getO (pv 0) (pe_un un_neg pe_int) L.m12 L.f12 L.I12 r7 L.c12 (fun σ => passAtF)) pa_nil)) (pe_callB (call_repr hgd hu) (by rfl) M.repr (by decide +kernel) (pa_cons (pe_ix ix_list (pv 1) (pe_un un_neg pe_int) (fun _ _ => rfl)) pa_nil)) (nomark _)) (pw_or (pt_cmpR (op_notin_own (E := E0) L.m14 L.I14 r4 L.c14 pass0) (pe_ix ix_list (pv 1) pe_int (fun _ _ => rfl)) (pv 0) (by rfl)) (pw_or1 (pt_cmpR (op_neD hu) (pe_getO (pv 0) pe_int L.m12 L.f12 L.I12 r7 L.c12 (fun σ => passAtF)) (pe_ix ix_list (pv 1) pe_int (fun _ _ => rfl)) (nomark _)))))) (pss_one (ps_ret pe_bl)) pss_nil)) pss_nil) <|
      pss_cons (L2N.ps_try_as (i := 3) (tb := fun W => tAsg (tMethS C "joined" (spJoined K C NT) (WE W) (tVar 0) (tCons (tC (.str "-")) tNil)) (gName 2)) (ts := tNotText K) (Wout := fun _ _ _ _ => False) rfl rfl scRight.nd rfl rfl ⟨rfl, by decide, Or.inl cT.mgC⟩ take0N
        (fun W pn xe tk _ => pss_one (ps_set (i := 2) scRight.nd rfl (.inl rfl) (by exact (pe_methT (pv 0) T.cl L.m15 L.I15 r5 L.c15 (fun σ => L2N.passAt tk σ) (by exact (pa_cons pe_str pa_nil))))))
        (fun a oe cls d pn hz hf => pss_one (ps_ret (pe_cmpR (op_eqD hu)
          (pe_lcH (own := [("_law_each", 4)]) (g := gName 4) (tt := tTextNot K) (te := tVar 4) (hot_suite hz hf) scRight.nd (pe_slice sl_list (pv 1) po_none (po_some (pe_op op_add (pe_fe hz.zc hf (pv 3)) pe_int))) (blkOk_by (own := [("_law_each", 4)]) (N := ["_law_one", "_law_due", "_law_text_here", "e", "_law_each"]) (sc := defScope s__law_is_right) (by decide +kernel))
            (fun _ _ _ _ _ => pg_name (i := 4) scRight.nd rfl (Or.inl rfl)) (fun _ _ _ _ _ => pts_one (pt_not (pt_val (pe_callB call_isi (by rfl) N.isi (by decide +kernel) (pa_cons (pv 4) (pa_cons (pe_bltn (v := .ty "str") (by rfl) S2.str (by decide +kernel) rfl) pa_nil)))))) (fun _ _ _ _ _ => pv 4))
          (pe_lst (pa_cons (pe_ix ix_list (pv 1) (pe_fe hz.zc hf (pv 3)) (fun _ _ => rfl)) pa_nil)) (nomark _))))) <|
      pss_one (ps_ret (pe_cmpR op_eq (pv 2) (pe_join pe_str (pv 1)) (nomark _))), ?_⟩
    have lw := DpAll.length hw
    have lu := DpAll.length hu'
    have shd : Sh (.list ds) := sh_list vd (by omega) (by omega)
    have sl := reprE_len vd (by omega)
    have due0 : ∀ {H1 : Hp}, Same H H1 → Dp K H1 (.ref l) (.list ds) := fun s1 => .lst (SqL.of (s1 _ _ hl)) (dpAll_same (sv.trans s1) _ _ hu')
    -- what is shown, how many, whether any
    refine ⟨_, rfl, p, dx, _, rfl, hp, p, dx, r, ws, ds, Hv, rfl, hp, hr1, sv, hw, vd, by omega, fun H1 s1 => ⟨_, rfl, ?_⟩⟩
    refine ⟨_, rfl, .ref l, .list ds, rfl, due0 s1, shd.s, shd.n, shd.z, shd.l, _, _, rfl, rfl, ?_, _, _, rfl, rfl, ?_, ?_⟩
    · have l1 : ("Entries(" : Str).length = 8 := rfl
      exact Nat.le_trans (show _ ≤ 40000 by omega) (by decide)
    · have l1 : ("Entries(" : Str).length = 8 := rfl
      have l2 : (")" : Str).length = 1 := rfl
      rw [size_cat]
      exact Nat.le_trans (show _ ≤ 40000 by omega) (by decide)
    have nes : ∀ {a b : Str} {X Y : Prop}, a = b → Y → (if (!decide (V.str a = V.str b)) = true then X else Y) := fun h y => by
      subst h
      rw [decide_eq_true rfl]
      exact iteF y
    have neb : ∀ {a b : Bool} {X Y : Prop}, a = b → Y → (if (!decide (V.bl a = V.bl b)) = true then X else Y) := fun h y => by
      subst h
      rw [decide_eq_true rfl]
      exact iteF y
    have nei : ∀ {a b : Int} {X Y : Prop}, a = b → Y → (if (!decide (V.int a = V.int b)) = true then X else Y) := fun h y => by
      subst h
      rw [decide_eq_true rfl]
      exact iteF y
    refine ⟨rfl, _, rfl, nes rfl ?_⟩
    have hp1 := s1 _ _ hp
    have hr11 := s1 _ _ hr1
    have hl1 := s1 _ _ hl
    have F := fun {G : Hp} (s : Same H G) => (⟨s _ _ hp, s _ _ hr1, s _ _ hl, dpAll_same (sv.trans s) _ _ hw, dpAll_same (sv.trans s) _ _ hu'⟩ : _ ∧ _ ∧ _ ∧ _ ∧ _)
    have few := szAll_len ds
    refine ⟨_, rfl, p, dx, _, rfl, hp1, p, dx, r, ws, rfl, hp1, hr11, ⟨ws.length, rfl, by omega, _, rfl, l, us, rfl, .inl (SqL.of hl1), rfl, _, rfl, nei (by rw [lw, lu]) ?_⟩⟩
    refine ⟨_, rfl, p, dx, _, rfl, hp1, p, dx, r, ws, rfl, hp1, hr11, ⟨_, rfl, _, rfl, (by show 0 ≤ sizeLine; decide), fun e2 n2 => ?_⟩⟩
    have s2 := s1.trans (same_upd (o := .lst []) n2)
    have f2 := upd_same (H := H1) (a := e2) (o := .lst [])
    generalize upd H1 e2 (.lst []) = H2 at *
    have shp : SeqAt.shaped (.list ds) = true := by
      unfold SeqAt.shaped
      have cl : (PyData.list ds).canLay0 = true := by simp only [PyData.canLay0, val_canAll2 ds vd]
      rw [cl, Bool.true_and]
      exact decide_eq_true (by simp only [PyData.depth]; omega)
    refine ⟨_, _, due0 s2, .lst (SqL.of f2) .nil, shp, by decide +kernel, rfl, _, rfl, neb ?_ ?_⟩
    · have en : PyData.eqv (.list ds) (.list []) = ds.isEmpty := by cases ds <;> simp [PyData.eqv, PyData.eqvAll]
      rw [en]
      cases ws <;> cases ds <;> simp at lw ⊢
    -- other Entries with the same entries, and such as have one more
    obtain ⟨hp2, hr2, hl2, hw2, hu2⟩ := F s2
    refine ⟨_, rfl, p, dx, _, rfl, hp2, rfl, p, dx, r, ws, ds, Hv, rfl, hp2, hr2, sv.trans s2, hw, vd, by omega, fun H3 v3 S3 s3 tr3 fr3 => ?_⟩
    dsimp only [tNil, List.nil_append, List.append_nil, List.cons_append]
    refine mk_entA (Same.refl _) (tr3.dp (K := K)) (pack_val vd) (by have := pack_sz (ds := ds); omega) fun H4 x4 dx4 r4 ws4 S4 s4 nx4 hx4 nr4 hr4 tr4 _ _ _ => ?_
    rw [pack_ent] at tr4
    have s04 := s2.trans (s3.trans s4)
    obtain ⟨hp4, hr4', hl4, hw4, hu4⟩ := F s04
    refine ⟨_, rfl, x4, p, dx4, dx, _, _, rfl, rfl, hx4, hp4, x4, p, dx4, dx, r4, r, ws4, ws, ds, ds, H4, rfl, hx4, hr4, hp4, hr4', Same.refl _, tr4.dp, hw4, vd, vd, by omega, by omega, fun H5 b5 s5 hb5 => ⟨b5, rfl, ?_⟩⟩
    have eb5 : b5 = true := hb5.mpr rfl
    subst eb5
    refine ⟨_, rfl, iteF ?_⟩
    have s05 := s04.trans s5
    -- Entries(due)
    refine ⟨_, rfl, _, rfl, ?_⟩
    dsimp only [tNil, List.nil_append, List.append_nil, List.cons_append]
    refine mk_entA (Same.refl _) (due0 s05) vd (by simp only [sz]; omega) fun H6 x6 dx6 r6 ws6 S6 s6 nx6 hx6 nr6 hr6 tr6 _ _ _ => ?_
    have e6 : entD (.list ds) = ds := rfl
    rw [e6] at tr6
    have s06 := s05.trans s6
    obtain ⟨hp6, hr6', hl6, hw6, hu6⟩ := F s06
    refine ⟨p, x6, dx, dx6, _, _, rfl, rfl, hp6, hx6, p, x6, dx, dx6, r, r6, ws, ws6, ds, ds, H6, rfl, hp6, hr6', hx6, hr6, Same.refl _, hw6, tr6.dp, vd, vd, by omega, by omega, fun H7 b7 s7 hb7 => ⟨b7, rfl, ?_⟩⟩
    have eb7 : b7 = true := hb7.mpr rfl
    subst eb7
    refine ⟨_, rfl, iteF ?_⟩
    have s07 := s06.trans s7
    obtain ⟨hp7, hr7, hl7, hw7, hu7⟩ := F s07
    have lz1 : Str.length "z" = 1 := by decide +kernel
    have vz : valD (.str "z") := by
      show Lt "z"
      unfold Lt
      decide +kernel
    refine ⟨_, rfl, .inr (.inl ⟨_, rfl⟩), p, dx, _, rfl, hp7, p, dx, r, ws, .str "z", ds, [.str "z"], H7, rfl, hp7, hr7, Same.refl _, hw7, vd, ⟨vz, trivial⟩, by simp only [szAll, sz, lz1]; omega, .inr ⟨.str "z", .str _, vz, by simp only [sz, lz1]; omega, rfl⟩, fun H8 x8 dx8 r8 ws8 S8 s8 nx8 hx8 nr8 hr8 tr8 _ _ _ => ?_⟩
    have s08 := s07.trans s8
    obtain ⟨hp8, hr8', hl8, hw8, hu8⟩ := F s08
    refine ⟨_, rfl, x8, p, dx8, dx, _, _, rfl, rfl, hx8, hp8, x8, p, dx8, dx, r8, r, ws8, ws, ds ++ [.str "z"], ds, H8, rfl, hx8, hr8, hp8, hr8', Same.refl _, tr8.dp, hw8, (valAll_append _ _).mpr ⟨vd, vz, trivial⟩, vd, by rw [szAll_append]; simp only [szAll, sz, lz1]; omega, by omega, fun H9 b9 s9 hb9 => ⟨_, rfl, ?_⟩⟩
    have eb9 : b9 = false := by
      cases b9 with
      | false => rfl
      | true =>
        have z := congrArg List.length (hb9.mp rfl)
        simp at z
    subst eb9
    refine iteF ?_
    have s09 := s08.trans s9
    -- the first and the last
    refine ⟨fun σ' G' => σ' = [some (.ref p), some (.ref l), none, none, none] ∧ Same H G', ?_, ?_⟩
    · refine ⟨_, rfl, (by show 0 ≤ sizeLine; decide), fun e10 n10 => ?_⟩
      have s10 := s09.trans (same_upd (o := .lst []) n10)
      have f10 := upd_same (H := H9) (a := e10) (o := .lst [])
      generalize upd H9 e10 (.lst []) = G at *
      refine ⟨_, _, due0 s10, .lst (SqL.of f10) .nil, shp, by decide +kernel, _, rfl, ?_⟩
      have en : PyData.eqv (.list ds) (.list []) = ds.isEmpty := by cases ds <;> simp [PyData.eqv, PyData.eqvAll]
      rw [en]
      by_cases hne : ds = []
      · rw [hne]
        exact iteF ⟨rfl, s10⟩
      have n1 : 0 < ds.length := List.length_pos_iff.mpr hne
      have eie : (!ds.isEmpty) = true := by
        cases ds with
        | nil => exact absurd rfl hne
        | cons _ _ => rfl
      rw [eie]
      refine iteT ?_
      have one : ∀ d ∈ ds, valD d ∧ sz d ≤ 1000 ∧ d.depth ≤ 10 := fun d hd => by
        obtain ⟨j, hj⟩ := List.mem_iff_getElem?.mp hd
        exact ⟨val_get vd hj, Nat.le_trans (sz_get hj) hz, Nat.le_trans (depth_get hj) hdp⟩
      have shv : ∀ d ∈ ds, Sh d := fun d hd => by
        obtain ⟨a, b, c⟩ := one d hd
        exact sh_of (val_okD d a) (by have := val_bulk d a; omega) (by omega)
      have shpd : ∀ d ∈ ds, SeqAt.shaped d = true := fun d hd => by
        obtain ⟨a, b, c⟩ := one d hd
        unfold SeqAt.shaped
        rw [val_can2 d a, Bool.true_and]
        exact decide_eq_true (by omega)
      have nds : ndAll ds ≤ 10000 := by
        have := nd_sz (.list ds) vd
        simp only [nd, sz] at this
        omega
      obtain ⟨d0, hd0⟩ : ∃ d, ds[0]? = some d := ⟨_, List.getElem?_eq_getElem n1⟩
      obtain ⟨d1, hd1⟩ : ∃ d, ds[ds.length - 1]? = some d := ⟨_, List.getElem?_eq_getElem (by omega)⟩
      have m0 := List.mem_of_getElem? hd0
      have m1 := List.mem_of_getElem? hd1
      have gx : ∀ {j : Nat} {d : PyData}, ds[j]? = some d → ∃ x, us[j]? = some x ∧ Dp K Hv x d := fun {j d} h => by
        have jl : j < us.length := by rw [lu]; exact (List.getElem?_eq_some_iff.mp h).1
        obtain ⟨d', h1, h2⟩ := DpAll.get hu' (List.getElem?_eq_getElem jl)
        rw [h] at h1
        cases h1
        exact ⟨_, List.getElem?_eq_getElem jl, h2⟩
      obtain ⟨x0, hx0, dx0⟩ := gx hd0
      obtain ⟨x1, hx1, dx1⟩ := gx hd1
      obtain ⟨hpG, hrG, hlG, hwG, huG⟩ := F s10
      have aN1 : atN ws.length (.int (-1)) = some (ds.length - 1) := by
        show ixN ws.length (-1) = _
        rw [lw]
        unfold ixN
        rw [if_neg (by omega), if_pos (by omega)]
        congr 1
        omega
      have aI1 : atI us (-1) = some x1 := by
        unfold atI
        have : ixN us.length (-1) = some (ds.length - 1) := by
          rw [lu]
          unfold ixN
          rw [if_neg (by omega), if_pos (by omega)]
          congr 1
          omega
        rw [this]
        exact hx1
      have aN0 : atN ws.length (.int 0) = some 0 := by
        show ixN ws.length 0 = _
        unfold ixN
        rw [if_pos (by omega), if_pos (by omega)]
        rfl
      have aI0 : atI us 0 = some x0 := atI_nat (j := 0) hx0
      refine ⟨_, rfl, 1, rfl, p, dx, _, rfl, hpG, p, dx, r, ws, ds, .int (-1), .int (-1), G, rfl, hpG, hrG, Same.refl _, hwG, nds, .int _, by simp [nd], fun j d hj hd H' v' S s' tr fr => ?_, fun z => by rw [aN1] at z; cases z⟩
      rw [aN1] at hj
      cases hj
      rw [hd1] at hd
      cases hd
      have s11 := s10.trans s'
      obtain ⟨hp11, hr11', hl11, hw11, hu11⟩ := F s11
      have sh1 := shv d1 m1
      refine ⟨v', d1, rfl, tr.dp, sh1.s, sh1.n, sh1.z, sh1.l, ?_⟩
      refine ⟨_, rfl, 1, rfl, l, us, -1, x1, rfl, rfl, SqL.of hl11, aI1, x1, d1, rfl, dp_same (sv.trans s11) _ _ dx1, sh1.s, sh1.n, sh1.z, sh1.l, rfl, _, rfl, nes rfl ?_⟩
      refine ⟨_, rfl, l, us, 0, x0, rfl, rfl, SqL.of hl11, aI0, _, rfl, p, dx, _, rfl, hp11, p, dx, r, ws, ds, x0, d0, Hv, rfl, hp11, hr11', sv.trans s11, hw, vd, by omega, dx0, by have := (one d0 m0).2.1; omega, fun H12 b s12 hb => ⟨b, rfl, _, rfl, ?_⟩⟩
      have eb : b = true := hb.mpr m0
      subst eb
      refine iteF ?_
      have s13 := s11.trans s12
      obtain ⟨hp13, hr13, hl13, hw13, hu13⟩ := F s13
      refine ⟨_, rfl, p, dx, _, rfl, hp13, p, dx, r, ws, ds, .int 0, .int 0, H12, rfl, hp13, hr13, Same.refl _, hw13, nds, .int _, by simp [nd], fun j d hj hd H' v' S s' tr fr => ?_, fun z => by rw [aN0] at z; cases z⟩
      rw [aN0] at hj
      cases hj
      rw [hd0] at hd
      cases hd
      have s14 := s13.trans s'
      obtain ⟨hp14, hr14, hl14, hw14, hu14⟩ := F s14
      refine ⟨_, rfl, l, us, 0, x0, rfl, rfl, SqL.of hl14, aI0, d0, d0, tr.dp, dp_same (sv.trans s14) _ _ dx0, shpd d0 m0, shpd d0 m0, _, rfl, ?_⟩
      rw [SeqAt.eqv_refl d0 (val_can2 d0 (one d0 m0).1)]
      exact iteF ⟨rfl, s14⟩
    rintro σ' G ⟨rfl, sG⟩
    have exmC : PySem.W.exmOne K (.ref NT) (.ref NT) = some true := by
      refine PySem.W.exm_ref cT.ec.hs cT.ec.hd cT.ty ?_
      obtain ⟨cd, hc, hm⟩ := cT.mro
      show PySem.W.mroIn K NT (.ref NT) = _
      rw [mro_is hc hm rfl]
      have f1 : (Value.ref NT == Value.ref NT) = true := beq_self_eq_true _
      simp only [List.contains_cons, f1, Bool.true_or]
    obtain ⟨hpG, hrG, hlG, hwG, huG⟩ := F sG
    refine ⟨_, rfl, p, dx, _, rfl, hpG, rfl, p, dx, r, ws, ds, Hv, "-", rfl, hpG, hrG, sv.trans sG, hw, vd, by omega, by decide +kernel, fun zs ez H' s' => ?_, fun j hj => ?_⟩
    · subst ez
      have ew := dp_texts (K := K) huG
      have e1 := sz_texts zs
      have hl' := hlG
      rw [ew] at hl'
      refine ⟨_, rfl, ⟨_, rfl⟩, ?_⟩
      refine ⟨_, rfl, "-", l, zs, rfl, rfl, .inl (SqL.of (s' _ _ hl')), ?_, ?_⟩
      · have : zs.length * ("-" : Str).length ≤ zs.length * 10 := Nat.mul_le_mul_left _ (by decide +kernel)
        simp only [List.length_map] at few
        omega
      · refine ⟨rfl, ?_⟩
        dsimp only
        rw [decide_eq_true rfl]
        exact q _ (sG.trans s')
    · rintro H3 dx3 w3 s3 hx3 hw3
      refine ⟨true, exmC, fun _ a na => ?_, fun z => nomatch z⟩
      have ew3 : w3 = .int (j : Nat) := by cases hw3; rfl
      subst ew3
      have s33 := sG.trans s3
      obtain ⟨hp3, hr3, hl3, hw3', hu3⟩ := F s33
      have ae : ∀ {σ : L2.St} {G : Hp} {R : VK}, σ[3]? = some (some (.ref a)) → Same H3 G → R (.int (j : Nat)) G → tFe K a (.ref NT) (some dx3) "at" (tVar 3) σ G R := fun {σ G R} eσ sg h => ⟨NT, rfl, cT.xf, nA, _, eσ, rfl, rfl, dx3, _, _, rfl, sg _ _ hx3, rfl, h⟩
      have jl : j < ds.length := by
        rw [List.findIdx?_eq_some_iff_getElem] at hj
        exact hj.1
      refine ⟨_, rfl, ?_⟩
      refine ae rfl (Same.refl _) ?_
      refine ⟨_, _, rfl, rfl, _, rfl, l, us, rfl, SqL.of hl3, fun c nc => ?_⟩
      have cu : cutV us none (some ((j : Int) + 1)) = us.take (j + 1) := by
        have e1 : (some ((j : Int) + 1)) = some ((j + 1 : Nat) : Int) := by push_cast; rfl
        unfold cutV
        rw [e1, HT.sIx_nat, HT.sIx_none, List.drop_zero, Nat.sub_zero, Nat.min_eq_left (by omega)]
      rw [cu]
      have sc := same_upd (o := .lst (us.take (j + 1))) nc
      have fc := upd_same (H := H3) (a := c) (o := .lst (us.take (j + 1)))
      generalize upd H3 c (.lst (us.take (j + 1))) = H5 at *
      have s55 := s33.trans sc
      have dT : DpAll K H5 (us.take (j + 1)) (ds.take (j + 1)) := DpAll.take (j + 1) (dpAll_same sc _ _ hu3)
      have only : ∀ i, i < j → ∀ d, ds[i]? = some d → noT d = false := fun i hi d hd => by
        rw [List.findIdx?_eq_some_iff_getElem] at hj
        have := hj.2.2 i hi
        obtain ⟨il, e⟩ := List.getElem?_eq_some_iff.mp hd
        rw [e] at this
        simpa using this
      obtain ⟨dj, hdj⟩ : ∃ d, ds[j]? = some d := ⟨_, List.getElem?_eq_getElem jl⟩
      have last : noT dj = true := by
        rw [List.findIdx?_eq_some_iff_getElem] at hj
        have := hj.2.1
        rwa [(List.getElem?_eq_some_iff.mp hdj).2] at this
      refine ⟨c, rfl, ⟨_, SqL.of fc⟩, fun D nD => lc_list (K := K) (a := c) (xs := us.take (j + 1)) (fun i G' => ∃ acc, G' D = some (.lst acc) ∧ DpAll K H5 acc (if j < i then [dj] else []) ∧ Same H5 G') ⟨[], upd_same, by rw [if_neg (by omega)]; exact .nil, same_upd nD⟩ (fun i G' hi ⟨_, _, _, sm⟩ => SqL.of (sm _ _ fc)) ?_ ?_⟩
      · rintro i x G' hx ⟨acc, g1, g2, sm⟩
        obtain ⟨d, hdi, hdd⟩ := DpAll.get dT hx
        have il : i < j + 1 := by
          have := (List.getElem?_eq_some_iff.mp hx).1
          rw [List.length_take] at this
          omega
        rw [List.getElem?_take_of_lt il] at hdi
        have dx := dp_same sm _ _ hdd
        refine ⟨rfl, ?_⟩
        refine ⟨_, rfl, x, .ty "str", .type (tyD d), .type "str", _, rfl, .ty _, dp_ty dx, kitS d K, _, rfl, ?_⟩
        by_cases ij : i = j
        · subst ij
          rw [hdj] at hdi
          cases hdi
          have ny : (tyD dj == "str") = false := by simpa [noT] using last
          rw [ny]
          refine iteT ⟨_, rfl, acc, g1, ?_, _, upd_same, ?_, same_fresh nD sm⟩
          · rw [if_neg (by omega)] at g2
            cases g2
            decide
          · rw [if_neg (by omega)] at g2
            cases g2
            rw [if_pos (by omega)]
            exact .cons hdd .nil
        · have ny := only i (by omega) d hdi
          have ny : (tyD d == "str") = true := by simpa [noT] using ny
          rw [ny]
          refine iteF ⟨acc, g1, ?_, sm⟩
          rw [if_neg (by omega)] at g2 ⊢
          exact g2
      · rintro G' ⟨acc, g1, g2, sm⟩
        rw [if_pos (by rw [List.length_take]; omega)] at g2
        have hxj : ∃ x, us[j]? = some x ∧ Dp K Hv x dj := by
          have jl' : j < us.length := by omega
          obtain ⟨d', h1, h2⟩ := DpAll.get hu' (List.getElem?_eq_getElem jl')
          rw [hdj] at h1
          cases h1
          exact ⟨_, List.getElem?_eq_getElem jl', h2⟩
        obtain ⟨xj, hxj, dxj⟩ := hxj
        have s66 := s55.trans sm
        obtain ⟨hp6, hr6, hl6, hw6', hu6⟩ := F s66
        refine ⟨_, rfl, ?_⟩
        refine ae rfl (sc.trans sm) ⟨l, us, j, xj, rfl, rfl, SqL.of hl6, atI_nat hxj, by show 1 ≤ sizeLine; decide, fun e ne => ?_⟩
        have s7 : Same G' (upd G' e (.lst [xj])) := same_upd ne
        obtain ⟨hv, hsz, hdd⟩ : valD dj ∧ sz dj ≤ 1000 ∧ dj.depth ≤ 10 := ⟨val_get vd hdj, Nat.le_trans (sz_get hdj) hz, Nat.le_trans (depth_get hdj) hdp⟩
        have shp1 : SeqAt.shaped (.list [dj]) = true := by
          unfold SeqAt.shaped
          have cl : (PyData.list [dj]).canLay0 = true := by simp only [PyData.canLay0, PyData.canLayAll0, val_can2 dj hv, Bool.and_self]
          rw [cl, Bool.true_and]
          exact decide_eq_true (by simp only [PyData.depth, PyData.depthAll]; omega)
        refine ⟨.list [dj], .list [dj], .lst (SqL.of (s7 _ _ g1)) (dpAll_same (sm.trans s7) _ _ g2), .lst (SqL.of upd_same) (.cons (dp_same (sv.trans (s66.trans s7)) _ _ dxj) .nil), shp1, shp1, ?_⟩
        have ee : PyData.eqv (.list [dj]) (.list [dj]) = true := SeqAt.eqv_refl _ (by simp only [PyData.canLay0, PyData.canLayAll0, val_can2 dj hv, Bool.and_self])
        rw [ee]
        exact q _ (s66.trans s7)
end
end TX
namespace TX
open PySem PySem.Spec PyProof.Rows L2
/-! ### the pool: names for Entries, and what is due -/
/-- more known, at S -/
def exS (A : Hp) (S : List Addr) (G : Hp) : Hp := fun b => match A b with
  | some o => some o
  | none => if b ∈ S then G b else none
theorem exS_old {A G : Hp} {S : List Addr} : Same A (exS A S G) := fun b o e => by
  unfold exS
  rw [e]
theorem exS_in {A G : Hp} {S : List Addr} {b : Addr} {o : HO} (n : A b = none) (h : b ∈ S) (e : G b = some o) : exS A S G b = some o := by
  unfold exS
  rw [n]
  show (if b ∈ S then G b else none) = _
  rw [if_pos h, e]
theorem exS_no {A G : Hp} {S : List Addr} {b : Addr} (n : A b = none) (h : b ∉ S) : exS A S G b = none := by
  unfold exS
  rw [n]
  show (if b ∈ S then G b else none) = _
  rw [if_neg h]
theorem exS_some {A G : Hp} {S : List Addr} {b : Addr} {o : HO} (e : exS A S G b = some o) : A b = some o ∨ (b ∈ S ∧ G b = some o) := by
  cases h : A b with
  | some x => exact .inl (exS_old (S := S) (G := G) _ _ h ▸ e)
  | none =>
    by_cases hb : b ∈ S
    · unfold exS at e
      rw [h] at e
      have e2 : (if b ∈ S then G b else none) = some o := e
      rw [if_pos hb] at e2
      exact .inr ⟨hb, e2⟩
    · rw [exS_no h hb] at e
      cases e
theorem ixN_at {n j : Nat} (hj : j < n) : ixN n (j : Int) = some j := by
  unfold ixN
  rw [if_pos (by omega), if_pos (by omega)]
  simp
abbrev Tags := Addr → Option (Nat × Addr)
def tagW (T : Tags) (a : Addr) (t : Nat × Addr) : Tags := fun b => if b = a then some t else T b
theorem tagW_at {T : Tags} {a : Addr} {t : Nat × Addr} : tagW T a t a = some t := if_pos rfl
theorem tagW_ne {T : Tags} {a b : Addr} {t : Nat × Addr} (h : b ≠ a) : tagW T a t b = T b := if_neg h
def fw {α : Type} (f : Addr → α) (a : Addr) (x : α) : Addr → α := fun b => if b = a then x else f b
theorem fw_at {α : Type} {f : Addr → α} {a : Addr} {x : α} : fw f a x a = x := if_pos rfl
theorem fw_ne {α : Type} {f : Addr → α} {a b : Addr} {x : α} (h : b ≠ a) : fw f a x b = f b := if_neg h
/-- bag, names, dues; W what is known, J what was drawn; os all objects: rows at R, plain lists at L -/
structure Pl (K : PySem.W.Frag) (C pb pp dd : Addr) (J W G : Hp) (T : Tags) (ns ms os ls : List Addr) (R L : Addr → Addr) (D E : Addr → List PyData) : Prop where
  sub : Same W G
  off : ∀ b t, T b = some t → W b = none
  liv : ∀ b t, T b = some t → G b ≠ none
  js : Same J G
  jw : ∀ b o, W b = some o → J b = none
  jt : ∀ b t, T b = some t → J b = none
  tb : T pb = some (0, pb)
  tp : T pp = some (1, pb)
  td : T dd = some (2, pb)
  bag : BagAt G pb
  len : ns.length = 4
  lem : ms.length = 4
  pool : G pp = some (.lst (ns.map V.ref))
  dues : G dd = some (.lst (ms.map fun p => V.ref (L p)))
  nsub : ∀ p ∈ ns, p ∈ os
  msub : ∀ p ∈ ms, p ∈ ls
  to : ∀ p ∈ os, T p = some (5, p)
  tR : ∀ p ∈ os, T (R p) = some (3, p)
  tL : ∀ p ∈ ls, T (L p) = some (4, p)
  ob : ∀ p ∈ os, ∃ dx ws, G p = some (.ins C dx (rowsF (R p))) ∧ G (R p) = some (.lst ws) ∧ DpAll K W ws (D p)
  du : ∀ p ∈ ls, ∃ us, G (L p) = some (.lst us) ∧ DpAll K W us (E p)
section
variable {K : PySem.W.Frag} {C pb pp dd : Addr} {J W G : Hp} {T : Tags} {ns ms os ls : List Addr} {R L : Addr → Addr} {D E : Addr → List PyData}
theorem tag_ne {a b : Addr} {s t : Nat × Addr} (h : T a = some s) (k : T b = some t) (n : s ≠ t) : a ≠ b := fun z => by
  rw [z, k] at h
  exact n (Option.some.inj h).symm
theorem tag_fresh {a b : Addr} {s : Nat × Addr} (h : T a = some s) (k : T b = none) : a ≠ b := fun z => by
  rw [z, k] at h
  cases h
/-- nothing that is told changes; more is known -/
theorem Pl.grow {W' G' : Hp} (h : Pl K C pb pp dd J W G T ns ms os ls R L D E) (k : ∀ b t, T b = some t → b ≠ pb → G' b = G b) (bg : BagAt G' pb) (sJ : Same J G') (sW : Same W W') (sub : Same W' G') (off : ∀ b t, T b = some t → W' b = none) (jw : ∀ b o, W' b = some o → J b = none) : Pl K C pb pp dd J W' G' T ns ms os ls R L D E := by
  have ne : ∀ {b : Addr} {t : Nat × Addr}, T b = some t → t.1 ≠ 0 → b ≠ pb := fun h1 h2 => tag_ne h1 h.tb fun z => h2 (by rw [z])
  refine ⟨sub, off, fun b t ht => ?_, sJ, jw, h.jt, h.tb, h.tp, h.td, bg, h.len, h.lem, ?_, ?_, h.nsub, h.msub, h.to, h.tR, h.tL, fun p hp => ?_, fun p hp => ?_⟩
  · by_cases hb : b = pb
    · subst hb
      obtain ⟨x, y, e⟩ := bg
      rw [e]
      exact fun z => nomatch z
    · rw [k b t ht hb]
      exact h.liv b t ht
  · rw [k _ _ h.tp (ne h.tp (by simp))]
    exact h.pool
  · rw [k _ _ h.td (ne h.td (by simp))]
    exact h.dues
  · obtain ⟨dx, ws, e1, e2, e3⟩ := h.ob p hp
    refine ⟨dx, ws, ?_, ?_, dpAll_same sW _ _ e3⟩
    · rw [k _ _ (h.to p hp) (ne (h.to p hp) (by simp))]
      exact e1
    · rw [k _ _ (h.tR p hp) (ne (h.tR p hp) (by simp))]
      exact e2
  · obtain ⟨us, e1, e2⟩ := h.du p hp
    refine ⟨us, ?_, dpAll_same sW _ _ e2⟩
    rw [k _ _ (h.tL p hp) (ne (h.tL p hp) (by simp))]
    exact e1
theorem Pl.here (h : Pl K C pb pp dd J W G T ns ms os ls R L D E) {b : Addr} {t : Nat × Addr} (ht : T b = some t) : ∃ o, G b = some o := by
  cases e : G b with
  | none => exact absurd e (h.liv b t ht)
  | some o => exact ⟨o, rfl⟩
theorem Pl.up {G' : Hp} (h : Pl K C pb pp dd J W G T ns ms os ls R L D E) (s : Same G G') : Pl K C pb pp dd J W G' T ns ms os ls R L D E :=
  h.grow (fun b t ht _ => by
    obtain ⟨o, e⟩ := h.here ht
    rw [e, s _ _ e]) (bag_same h.bag s) (h.js.trans s) (Same.refl _) (h.sub.trans s) h.off h.jw
/-- the bag alone changes -/
theorem Pl.draw {G' : Hp} (h : Pl K C pb pp dd J W G T ns ms os ls R L D E) (k : ∀ b o, b ≠ pb → G b = some o → G' b = some o) (bg : BagAt G' pb) : Pl K C pb pp dd J W G' T ns ms os ls R L D E :=
  h.grow (fun b t ht hb => by
    obtain ⟨o, e⟩ := h.here ht
    rw [e, k _ _ hb e]) bg (fun b o e => k b o (fun z => by rw [z, h.jt _ _ h.tb] at e; cases e) (h.js _ _ e)) (Same.refl _) (fun b o e => k b o (fun z => by rw [z, h.off _ _ h.tb] at e; cases e) (h.sub _ _ e)) h.off h.jw
/-- new things, at S -/
theorem Pl.news {G' : Hp} {S : List Addr} (h : Pl K C pb pp dd J W G T ns ms os ls R L D E) (s : Same G G') (fr : ∀ b ∈ S, G b = none) : Pl K C pb pp dd J (exS W S G') G' T ns ms os ls R L D E ∧ Same W (exS W S G') ∧ (∀ v d, Tr G' v d S → Dp K (exS W S G') v d) ∧ ∀ vs ds, TrAll G' vs ds S → DpAll K (exS W S G') vs ds := by
  have hn : ∀ b ∈ S, W b = none := fun b hb => h.sub.free (fr b hb)
  refine ⟨h.grow (fun b t ht _ => by
    obtain ⟨o, e⟩ := h.here ht
    rw [e, s _ _ e]) (bag_same h.bag s) (h.js.trans s) exS_old (fun b o e => ?_) (fun b t ht => exS_no (h.off b t ht) fun hb => h.liv b t ht (fr b hb)) (fun b o e => ?_), exS_old, fun v d tr => Tr.dp (Tr.frame tr fun b hb o e => exS_in (hn b hb) hb e), fun v d tr => TrAll.dp (TrAll.frame tr fun b hb o e => exS_in (hn b hb) hb e)⟩
  · rcases exS_some e with e | ⟨_, e⟩
    · exact s _ _ (h.sub _ _ e)
    · exact e
  · rcases exS_some e with e | ⟨hb, _⟩
    · exact h.jw _ _ e
    · exact h.js.free (fr b hb)
/-- a new object -/
theorem Pl.bornO {x r dx : Addr} {ws : List V} {ds : List PyData} (h : Pl K C pb pp dd J W G T ns ms os ls R L D E) (tx : T x = none) (tr : T r = none) (hx : G x = some (.ins C dx (rowsF r))) (hr : G r = some (.lst ws))
    (wx : W x = none) (wr : W r = none) (jx : J x = none) (jr : J r = none) (hw : DpAll K W ws ds) :
    Pl K C pb pp dd J W G (tagW (tagW T x (5, x)) r (3, x)) ns ms (x :: os) ls (fw R x r) L (fw D x ds) E := by
  have xr : x ≠ r := fun z => by
    rw [z, hr] at hx
    cases hx
  have old : ∀ {b : Addr} {t : Nat × Addr}, T b = some t → tagW (tagW T x (5, x)) r (3, x) b = some t := fun {b t} e => by
    rw [tagW_ne (tag_fresh e tr), tagW_ne (tag_fresh e tx)]
    exact e
  have inv : ∀ {b : Addr} {t : Nat × Addr}, tagW (tagW T x (5, x)) r (3, x) b = some t → T b = some t ∨ b = x ∨ b = r := fun {b t} e => by
    by_cases h2 : b = r
    · exact .inr (.inr h2)
    rw [tagW_ne h2] at e
    by_cases h3 : b = x
    · exact .inr (.inl h3)
    rw [tagW_ne h3] at e
    exact .inl e
  have nx : ∀ {p : Addr}, p ∈ os → p ≠ x := fun hp => tag_fresh (h.to _ hp) tx
  refine ⟨h.sub, fun b t ht => ?_, fun b t ht => ?_, h.js, h.jw, fun b t ht => ?_, old h.tb, old h.tp, old h.td, h.bag, h.len, h.lem, h.pool, h.dues, fun p hp => List.mem_cons_of_mem _ (h.nsub p hp), h.msub, fun p hp => ?_, fun p hp => ?_, fun p hp => old (h.tL p hp), fun p hp => ?_, h.du⟩
  · rcases inv ht with e | rfl | rfl
    · exact h.off b t e
    · exact wx
    · exact wr
  · rcases inv ht with e | rfl | rfl
    · exact h.liv b t e
    · rw [hx]; exact fun z => nomatch z
    · rw [hr]; exact fun z => nomatch z
  · rcases inv ht with e | rfl | rfl
    · exact h.jt b t e
    · exact jx
    · exact jr
  · rcases List.mem_cons.mp hp with e | e
    · rw [e, tagW_ne xr, tagW_at]
    · exact old (h.to p e)
  · rcases List.mem_cons.mp hp with e | e
    · rw [e, fw_at, tagW_at]
    · rw [fw_ne (nx e)]
      exact old (h.tR p e)
  · rcases List.mem_cons.mp hp with e | e
    · rw [e, fw_at, fw_at]
      exact ⟨dx, ws, hx, hr, hw⟩
    · rw [fw_ne (nx e), fw_ne (nx e)]
      exact h.ob p e
/-- its list -/
theorem Pl.bornL {x l : Addr} {us : List V} {es : List PyData} (h : Pl K C pb pp dd J W G T ns ms os ls R L D E) (tl : T l = none) (hl : G l = some (.lst us)) (wl : W l = none) (jl : J l = none) (nx : x ∉ ls) (hu : DpAll K W us es) :
    Pl K C pb pp dd J W G (tagW T l (4, x)) ns ms os (x :: ls) R (fw L x l) D (fw E x es) := by
  have old : ∀ {b : Addr} {t : Nat × Addr}, T b = some t → tagW T l (4, x) b = some t := fun {b t} e => by
    rw [tagW_ne (tag_fresh e tl)]
    exact e
  have inv : ∀ {b : Addr} {t : Nat × Addr}, tagW T l (4, x) b = some t → T b = some t ∨ b = l := fun {b t} e => by
    by_cases h1 : b = l
    · exact .inr h1
    rw [tagW_ne h1] at e
    exact .inl e
  have nx : ∀ {p : Addr}, p ∈ ls → p ≠ x := fun hp z => nx (z ▸ hp)
  have fL : (ms.map fun p => V.ref (fw L x l p)) = ms.map fun p => V.ref (L p) := List.map_congr_left fun p hp => by rw [fw_ne (nx (h.msub p hp))]
  refine ⟨h.sub, fun b t ht => ?_, fun b t ht => ?_, h.js, h.jw, fun b t ht => ?_, old h.tb, old h.tp, old h.td, h.bag, h.len, h.lem, h.pool, by rw [fL]; exact h.dues, h.nsub, fun p hp => List.mem_cons_of_mem _ (h.msub p hp), fun p hp => old (h.to p hp), fun p hp => old (h.tR p hp), fun p hp => ?_, h.ob, fun p hp => ?_⟩
  · rcases inv ht with e | rfl
    · exact h.off b t e
    · exact wl
  · rcases inv ht with e | rfl
    · exact h.liv b t e
    · rw [hl]; exact fun z => nomatch z
  · rcases inv ht with e | rfl
    · exact h.jt b t e
    · exact jl
  · rcases List.mem_cons.mp hp with e | e
    · rw [e, fw_at, tagW_at]
    · rw [fw_ne (nx e)]
      exact old (h.tL p e)
  · rcases List.mem_cons.mp hp with e | e
    · rw [e, fw_at, fw_at]
      exact ⟨us, hl, hu⟩
    · rw [fw_ne (nx e), fw_ne (nx e)]
      exact h.du p e
/-- a name gets an object -/
theorem Pl.bindP (k : Nat) {p : Addr} (h : Pl K C pb pp dd J W G T ns ms os ls R L D E) (hp : p ∈ os) : Pl K C pb pp dd J W (upd G pp (.lst ((ns.map V.ref).set k (.ref p)))) T (ns.set k p) ms os ls R L D E := by
  have n1 : ∀ {b : Addr} {t : Nat × Addr}, T b = some t → t.1 ≠ 1 → b ≠ pp := fun h1 h2 => tag_ne h1 h.tp fun z => h2 (by rw [z])
  have keep : ∀ {b : Addr} {t : Nat × Addr}, T b = some t → t.1 ≠ 1 → (upd G pp (.lst ((ns.map V.ref).set k (.ref p)))) b = G b := fun h1 h2 => upd_ne (n1 h1 h2)
  have kW : ∀ {A : Hp}, Same A G → (∀ b t, T b = some t → A b = none) → Same A (upd G pp (.lst ((ns.map V.ref).set k (.ref p)))) := fun s n b o e => by
    rw [upd_ne (fun z => by rw [z, n _ _ h.tp] at e; cases e)]
    exact s _ _ e
  refine ⟨kW h.sub h.off, h.off, fun b t ht => ?_, kW h.js h.jt, h.jw, h.jt, h.tb, h.tp, h.td, ?_, by rw [List.length_set]; exact h.len, h.lem, ?_, ?_, fun p' hp' => ?_, h.msub, h.to, h.tR, h.tL, fun p' hp' => ?_, fun p' hp' => ?_⟩
  · by_cases hc : b = pp
    · rw [hc, upd_same]
      exact fun z => nomatch z
    · rw [upd_ne hc]
      exact h.liv b t ht
  · obtain ⟨x, y, e⟩ := h.bag
    exact ⟨x, y, by rw [keep h.tb (by simp)]; exact e⟩
  · rw [upd_same, List.map_set]
  · rw [keep h.td (by simp)]
    exact h.dues
  · rcases List.mem_or_eq_of_mem_set hp' with e | e
    · exact h.nsub p' e
    · rw [e]; exact hp
  · obtain ⟨dx, ws, e1, e2, e3⟩ := h.ob p' hp'
    exact ⟨dx, ws, by rw [keep (h.to _ hp') (by simp)]; exact e1, by rw [keep (h.tR _ hp') (by simp)]; exact e2, e3⟩
  · obtain ⟨us, e1, e2⟩ := h.du p' hp'
    exact ⟨us, by rw [keep (h.tL _ hp') (by simp)]; exact e1, e2⟩
/-- what is due by it -/
theorem Pl.bindD (k : Nat) {p : Addr} (h : Pl K C pb pp dd J W G T ns ms os ls R L D E) (hp : p ∈ ls) : Pl K C pb pp dd J W (upd G dd (.lst ((ms.map fun p => V.ref (L p)).set k (.ref (L p))))) T ns (ms.set k p) os ls R L D E := by
  have n1 : ∀ {b : Addr} {t : Nat × Addr}, T b = some t → t.1 ≠ 2 → b ≠ dd := fun h1 h2 => tag_ne h1 h.td fun z => h2 (by rw [z])
  have keep : ∀ {b : Addr} {t : Nat × Addr}, T b = some t → t.1 ≠ 2 → (upd G dd (.lst ((ms.map fun p => V.ref (L p)).set k (.ref (L p))))) b = G b := fun h1 h2 => upd_ne (n1 h1 h2)
  have kW : ∀ {A : Hp}, Same A G → (∀ b t, T b = some t → A b = none) → Same A (upd G dd (.lst ((ms.map fun p => V.ref (L p)).set k (.ref (L p))))) := fun s n b o e => by
    rw [upd_ne (fun z => by rw [z, n _ _ h.td] at e; cases e)]
    exact s _ _ e
  refine ⟨kW h.sub h.off, h.off, fun b t ht => ?_, kW h.js h.jt, h.jw, h.jt, h.tb, h.tp, h.td, ?_, h.len, by rw [List.length_set]; exact h.lem, ?_, ?_, h.nsub, fun p' hp' => ?_, h.to, h.tR, h.tL, fun p' hp' => ?_, fun p' hp' => ?_⟩
  · by_cases hc : b = dd
    · rw [hc, upd_same]
      exact fun z => nomatch z
    · rw [upd_ne hc]
      exact h.liv b t ht
  · obtain ⟨x, y, e⟩ := h.bag
    exact ⟨x, y, by rw [keep h.tb (by simp)]; exact e⟩
  · rw [keep h.tp (by simp)]
    exact h.pool
  · rw [upd_same, List.map_set]
  · rcases List.mem_or_eq_of_mem_set hp' with e | e
    · exact h.msub p' e
    · rw [e]; exact hp
  · obtain ⟨dx, ws, e1, e2, e3⟩ := h.ob p' hp'
    exact ⟨dx, ws, by rw [keep (h.to _ hp') (by simp)]; exact e1, by rw [keep (h.tR _ hp') (by simp)]; exact e2, e3⟩
  · obtain ⟨us, e1, e2⟩ := h.du p' hp'
    exact ⟨us, by rw [keep (h.tL _ hp') (by simp)]; exact e1, e2⟩
/-- the rows of an object change -/
theorem Pl.rows {W' G' : Hp} {p r dx : Addr} {ws : List V} {ds : List PyData} (h : Pl K C pb pp dd J W G T ns ms os ls R L D E) (hp : p ∈ os) (k : ∀ b o, b ≠ p → b ≠ r → G b = some o → G' b = some o) (hx : G' p = some (.ins C dx (rowsF r))) (hr : G' r = some (.lst ws)) (tr : T r = none ∨ T r = some (3, p)) (jr : J r = none) (wr : W' r = none)
    (sW : Same W W') (sub : Same W' G') (off : ∀ b t, T b = some t → W' b = none) (jw : ∀ b o, W' b = some o → J b = none) (hw : DpAll K W' ws ds) :
    Pl K C pb pp dd J W' G' (tagW T r (3, p)) ns ms os ls (fw R p r) L (fw D p ds) E := by
  have old : ∀ {b : Addr} {t : Nat × Addr}, T b = some t → tagW T r (3, p) b = some t := fun {b t} e => by
    by_cases hb : b = r
    · rw [hb] at e ⊢
      rw [tagW_at]
      rcases tr with z | z
      · rw [z] at e
        cases e
      · rw [z] at e
        exact e
    · rw [tagW_ne hb]
      exact e
  have inv : ∀ {b : Addr} {t : Nat × Addr}, tagW T r (3, p) b = some t → T b = some t ∨ b = r := fun {b t} e => by
    by_cases h1 : b = r
    · exact .inr h1
    rw [tagW_ne h1] at e
    exact .inl e
  have nr : ∀ {b : Addr} {t : Nat × Addr}, T b = some t → t ≠ (3, p) → b ≠ r := fun {b t} e n z => by
    rw [z] at e
    rcases tr with y | y
    · rw [y] at e
      cases e
    · rw [y] at e
      exact n (Option.some.inj e).symm
  have np : ∀ {b : Addr} {t : Nat × Addr}, T b = some t → t ≠ (5, p) → b ≠ p := fun e n => tag_ne e (h.to p hp) n
  refine ⟨sub, fun b t ht => ?_, fun b t ht => ?_, fun b o e => k b o (fun z => by rw [z, h.jt _ _ (h.to p hp)] at e; cases e) (fun z => by rw [z, jr] at e; cases e) (h.js _ _ e), jw, fun b t ht => ?_, old h.tb, old h.tp, old h.td, ?_, h.len, h.lem, ?_, ?_, h.nsub, h.msub, fun q hq => old (h.to q hq), fun q hq => ?_, fun q hq => old (h.tL q hq), fun q hq => ?_, fun q hq => ?_⟩
  · rcases inv ht with e | rfl
    · exact off b t e
    · exact wr
  · rcases inv ht with e | rfl
    · by_cases hb : b = p
      · rw [hb, hx]; exact fun z => nomatch z
      by_cases hc : b = r
      · rw [hc, hr]; exact fun z => nomatch z
      obtain ⟨o, eo⟩ := h.here e
      rw [k b o hb hc eo]
      exact fun z => nomatch z
    · rw [hr]; exact fun z => nomatch z
  · rcases inv ht with e | rfl
    · exact h.jt b t e
    · exact jr
  · obtain ⟨x, y, e⟩ := h.bag
    exact ⟨x, y, k _ _ (np h.tb (by simp)) (nr h.tb (by simp)) e⟩
  · exact k _ _ (np h.tp (by simp)) (nr h.tp (by simp)) h.pool
  · exact k _ _ (np h.td (by simp)) (nr h.td (by simp)) h.dues
  · by_cases e : q = p
    · rw [e, fw_at, tagW_at]
    · rw [fw_ne e]
      exact old (h.tR q hq)
  · by_cases e : q = p
    · rw [e, fw_at, fw_at]
      exact ⟨dx, ws, hx, hr, hw⟩
    · rw [fw_ne e, fw_ne e]
      obtain ⟨dx', ws', e1, e2, e3⟩ := h.ob q hq
      exact ⟨dx', ws', k _ _ e (nr (h.to q hq) (by simp)) e1, k _ _ (np (h.tR q hq) (by simp)) (nr (h.tR q hq) (by simpa using e)) e2, dpAll_same sW _ _ e3⟩
  · obtain ⟨us, e1, e2⟩ := h.du q hq
    exact ⟨us, k _ _ (np (h.tL q hq) (by simp)) (nr (h.tL q hq) (by simp)) e1, dpAll_same sW _ _ e2⟩
/-- what is due changes -/
theorem Pl.due {p : Addr} {us : List V} {es : List PyData} (h : Pl K C pb pp dd J W G T ns ms os ls R L D E) (hp : p ∈ ls) (hu : DpAll K W us es) : Pl K C pb pp dd J W (upd G (L p) (.lst us)) T ns ms os ls R L D (fw E p es) := by
  have ne : ∀ {b : Addr} {t : Nat × Addr}, T b = some t → t ≠ (4, p) → b ≠ L p := fun e n => tag_ne e (h.tL p hp) n
  have keep : ∀ {b : Addr} {t : Nat × Addr}, T b = some t → t ≠ (4, p) → upd G (L p) (.lst us) b = G b := fun e n => upd_ne (ne e n)
  have kW : ∀ {A : Hp}, Same A G → (∀ b t, T b = some t → A b = none) → Same A (upd G (L p) (.lst us)) := fun s n b o e => by
    rw [upd_ne (fun z => by rw [z, n _ _ (h.tL p hp)] at e; cases e)]
    exact s _ _ e
  refine ⟨kW h.sub h.off, h.off, fun b t ht => ?_, kW h.js h.jt, h.jw, h.jt, h.tb, h.tp, h.td, ?_, h.len, h.lem, ?_, ?_, h.nsub, h.msub, h.to, h.tR, h.tL, fun q hq => ?_, fun q hq => ?_⟩
  · by_cases hb : b = L p
    · rw [hb, upd_same]; exact fun z => nomatch z
    · rw [upd_ne hb]; exact h.liv b t ht
  · obtain ⟨x, y, e⟩ := h.bag
    exact ⟨x, y, by rw [keep h.tb (by simp)]; exact e⟩
  · rw [keep h.tp (by simp)]; exact h.pool
  · rw [keep h.td (by simp)]; exact h.dues
  · obtain ⟨dx', ws', e1, e2, e3⟩ := h.ob q hq
    exact ⟨dx', ws', by rw [keep (h.to q hq) (by simp)]; exact e1, by rw [keep (h.tR q hq) (by simp)]; exact e2, e3⟩
  · by_cases e : q = p
    · rw [e, fw_at]
      exact ⟨us, upd_same, hu⟩
    · rw [fw_ne e]
      obtain ⟨us', e1, e2⟩ := h.du q hq
      exact ⟨us', by rw [keep (h.tL q hq) (by simpa using e)]; exact e1, e2⟩
/-- what was drawn is spoiled -/
theorem Pl.spoil {G' : Hp} (h : Pl K C pb pp dd J W G T ns ms os ls R L D E) (o : Off J G G') : Pl K C pb pp dd (fun _ => none) W G' T ns ms os ls R L D E := by
  have nJ : ∀ {b : Addr}, J b = none → onlyL J b = none := fun {b} e => by
    unfold onlyL
    rw [e]
  have k : ∀ b t, T b = some t → G' b = G b := fun b t ht => by
    obtain ⟨u, e⟩ := h.here ht
    rw [e, o _ _ (nJ (h.jt b t ht)) e]
  have h2 : Pl K C pb pp dd (fun _ => none) W G T ns ms os ls R L D E := ⟨h.sub, h.off, h.liv, fun b o e => (nomatch e), fun _ _ _ => rfl, fun _ _ _ => rfl, h.tb, h.tp, h.td, h.bag, h.len, h.lem, h.pool, h.dues, h.nsub, h.msub, h.to, h.tR, h.tL, h.ob, h.du⟩
  refine h2.grow (fun b t ht _ => k b t ht) ?_ (fun b o e => nomatch e) (Same.refl _) (fun b x e => o b x (nJ (h.jw b x e)) (h.sub _ _ e)) h.off fun _ _ _ => rfl
  obtain ⟨x, y, e⟩ := h.bag
  exact ⟨x, y, by rw [k _ _ h.tb]; exact e⟩
/-- something is drawn -/
theorem Pl.drawn {G' : Hp} (h : Pl K C pb pp dd (fun _ => none) W G T ns ms os ls R L D E) (k : ∀ b o, b ≠ pb → G b = some o → G' b = some o) (bg : BagAt G' pb) : Pl K C pb pp dd (newp G G') W G' T ns ms os ls R L D E := by
  have h2 := h.draw k bg
  refine ⟨h2.sub, h2.off, h2.liv, fun b o e => newp_same _ _ e, fun b o e => newp_old (h.sub _ _ e), fun b t ht => ?_, h2.tb, h2.tp, h2.td, h2.bag, h2.len, h2.lem, h2.pool, h2.dues, h2.nsub, h2.msub, h2.to, h2.tR, h2.tL, h2.ob, h2.du⟩
  obtain ⟨o, e⟩ := h.here ht
  exact newp_old e
/-- all that is not told of is known -/
theorem Pl.full (h : Pl K C pb pp dd (fun _ => none) W G T ns ms os ls R L D E) : Same W (fun b => if (T b).isSome then none else G b) ∧ Pl K C pb pp dd (fun _ => none) (fun b => if (T b).isSome then none else G b) G T ns ms os ls R L D E := by
  have s : Same W (fun b => if (T b).isSome then none else G b) := fun b o e => by
    cases ht : T b with
    | none =>
      show (if (T b).isSome then none else G b) = _
      rw [ht]
      exact h.sub _ _ e
    | some t =>
      rw [h.off b t ht] at e
      cases e
  refine ⟨s, h.grow (fun _ _ _ _ => rfl) h.bag h.js s (fun b o e => ?_) (fun b t ht => ?_) fun _ _ _ => rfl⟩
  · cases ht : T b with
    | none =>
      have e : (if (T b).isSome then none else G b) = some o := e
      rw [ht] at e
      exact e
    | some t =>
      have e : (if (T b).isSome then none else G b) = some o := e
      rw [ht] at e
      cases e
  · show (if (T b).isSome then none else G b) = _
    rw [ht]
    rfl
/-- Entries were made -/
theorem Pl.made {G' : Hp} {x r dx : Addr} {ws : List V} {ds : List PyData} {S : List Addr} (h : Pl K C pb pp dd J W G T ns ms os ls R L D E) (s : Same G G') (nx : G x = none) (hx : G' x = some (.ins C dx (rowsF r))) (nr : G r = none) (hr : G' r = some (.lst ws)) (tr : TrAll G' ws ds S) (rS : r ∉ S) (xS : x ∉ S) (fr : ∀ b ∈ S, G b = none) :
    ∃ W' T', Pl K C pb pp dd J W' G' T' ns ms (x :: os) ls (fw R x r) L (fw D x ds) E ∧ Same W W' ∧ x ∉ os := by
  obtain ⟨P1, s1, _, tA⟩ := h.news s fr
  have tn : ∀ {b : Addr}, G b = none → T b = none := fun {b} e => by
    cases ht : T b with
    | none => rfl
    | some t => exact absurd e (h.liv b t ht)
  have wn : ∀ {b : Addr}, G b = none → b ∉ S → exS W S G' b = none := fun e n => exS_no (h.sub.free e) n
  exact ⟨_, _, P1.bornO (tn nx) (tn nr) hx hr (wn nx xS) (wn nr rS) (h.js.free nx) (h.js.free nr) (tA _ _ tr), s1, fun z => h.liv x _ (h.to x z) nx⟩
/-- a list of what is due was made -/
theorem Pl.madeL {G' : Hp} {x : Addr} {v : V} {es : List PyData} {S : List Addr} (h : Pl K C pb pp dd J W G T ns ms os ls R L D E) (s : Same G G') (tr : Tr G' v (.list es) S) (fr : ∀ b ∈ S, G b = none) (nx : x ∉ ls) :
    ∃ l W' T', v = .ref l ∧ Pl K C pb pp dd J W' G' T' ns ms os (x :: ls) R (fw L x l) D (fw E x es) ∧ Same W W' := by
  obtain ⟨l, us, S', rfl, rfl, hl, tr, nl⟩ := tr_list tr
  have fl := fr l List.mem_cons_self
  obtain ⟨P1, s1, _, tA⟩ := h.news s (S := S') fun b hb => fr b (List.mem_cons_of_mem _ hb)
  have tn : T l = none := by
    cases ht : T l with
    | none => rfl
    | some t => exact absurd fl (h.liv l t ht)
  exact ⟨l, _, _, rfl, P1.bornL tn hl (exS_no (h.sub.free fl) nl) (h.js.free fl) nx (tA _ _ tr), s1⟩
/-- more rows behind -/
theorem Pl.iadd {G' : Hp} {p r dx : Addr} {ws us : List V} {es : List PyData} {S : List Addr} (h : Pl K C pb pp dd J W G T ns ms os ls R L D E) (hp : p ∈ os) (hw : DpAll K W ws (D p)) (k : ∀ b o, b ≠ p → G b = some o → G' b = some o) (hx : G' p = some (.ins C dx (rowsF r))) (nr : G r = none) (hr : G' r = some (.lst (ws ++ us))) (tr : TrAll G' us es S) (rS : r ∉ S) (fr : ∀ b ∈ S, G b = none) :
    ∃ W' T', Pl K C pb pp dd J W' G' T' ns ms os ls (fw R p r) L (fw D p (D p ++ es)) E ∧ Same W W' := by
  have hn : ∀ b ∈ S, W b = none := fun b hb => h.sub.free (fr b hb)
  have tn : T r = none := by
    cases ht : T r with
    | none => rfl
    | some t => exact absurd nr (h.liv r t ht)
  refine ⟨exS W S G', _, h.rows hp (fun b o n _ e => k b o n e) hx hr (.inl tn) (h.js.free nr) (exS_no (h.sub.free nr) rS) exS_old (fun b o e => ?_) (fun b t ht => exS_no (h.off b t ht) fun hb => h.liv b t ht (fr b hb)) (fun b o e => ?_) (DpAll.append (dpAll_same exS_old _ _ hw) (TrAll.dp (TrAll.frame tr fun b hb o e => exS_in (hn b hb) hb e))), exS_old⟩
  · rcases exS_some e with e | ⟨_, e⟩
    · exact k b o (fun z => by rw [z, h.off _ _ (h.to p hp)] at e; cases e) (h.sub _ _ e)
    · exact e
  · rcases exS_some e with e | ⟨hb, _⟩
    · exact h.jw _ _ e
    · exact h.js.free (fr b hb)
/-- another row at j -/
theorem Pl.setR {G' : Hp} {p dx : Addr} {ws : List V} {w : V} {d : PyData} {ds : List PyData} {S : List Addr} (h : Pl K C pb pp dd J W G T ns ms os ls R L D E) (hp : p ∈ os) (hx : G p = some (.ins C dx (rowsF (R p)))) (k : ∀ b o, b ≠ R p → G b = some o → G' b = some o) (hr : G' (R p) = some (.lst ws)) (tr : Tr G' w d S) (rS : R p ∉ S) (fr : ∀ b ∈ S, G b = none) (hw : ∀ W', Same W W' → Dp K W' w d → DpAll K W' ws ds) :
    ∃ W' T', Pl K C pb pp dd J W' G' T' ns ms os ls (fw R p (R p)) L (fw D p ds) E ∧ Same W W' := by
  have hn : ∀ b ∈ S, W b = none := fun b hb => h.sub.free (fr b hb)
  have np : p ≠ R p := tag_ne (h.to p hp) (h.tR p hp) (by simp)
  refine ⟨exS W S G', _, h.rows hp (fun b o _ n e => k b o n e) (k _ _ np hx) hr (.inr (h.tR p hp)) (h.jt _ _ (h.tR p hp)) (exS_no (h.off _ _ (h.tR p hp)) rS) exS_old (fun b o e => ?_) (fun b t ht => exS_no (h.off b t ht) fun hb => h.liv b t ht (fr b hb)) (fun b o e => ?_) (hw _ exS_old (Tr.dp (Tr.frame tr fun b hb o e => exS_in (hn b hb) hb e))), exS_old⟩
  · rcases exS_some e with e | ⟨_, e⟩
    · exact k b o (fun z => by rw [z, h.off _ _ (h.tR p hp)] at e; cases e) (h.sub _ _ e)
    · exact e
  · rcases exS_some e with e | ⟨hb, _⟩
    · exact h.jw _ _ e
    · exact h.js.free (fr b hb)
end
end TX
namespace TX
open PySem PySem.Spec PyProof.Rows L2
/-! ### one step in the program, and by plain lists -/
def Gd (ds : List PyData) : Prop := valAll ds ∧ ds.length ≤ 46 ∧ ∀ d ∈ ds, sz d ≤ 8 ∧ d.depth ≤ 4
theorem few_sz {n : Nat} : ∀ {ds : List PyData}, (∀ d ∈ ds, sz d ≤ n) → szAll ds ≤ n * ds.length
  | [], _ => by simp [szAll]
  | d :: ds, h => by
    have := few_sz (n := n) (ds := ds) fun e he => h e (List.mem_cons_of_mem _ he)
    have h1 := h d List.mem_cons_self
    simp only [szAll, List.length_cons, Nat.mul_succ]
    omega
theorem few_dep {n : Nat} : ∀ {ds : List PyData}, (∀ d ∈ ds, d.depth ≤ n) → PyData.depthAll ds ≤ n
  | [], _ => by simp [PyData.depthAll]
  | d :: ds, h => by
    have := few_dep (n := n) (ds := ds) fun e he => h e (List.mem_cons_of_mem _ he)
    have h1 := h d List.mem_cons_self
    simp only [PyData.depthAll]
    omega
theorem Gd.sz {ds : List PyData} (h : Gd ds) : szAll ds ≤ 8 * ds.length := few_sz fun d hd => (h.2.2 d hd).1
theorem Gd.sz' {ds : List PyData} (h : Gd ds) : szAll ds ≤ 368 := by
  have := h.sz
  have := h.2.1
  omega
theorem Gd.dep {ds : List PyData} (h : Gd ds) : PyData.depthAll ds ≤ 4 := few_dep fun d hd => (h.2.2 d hd).2
theorem Gd.append {ds es : List PyData} (h : Gd ds) (k : Gd es) (l : ds.length + es.length ≤ 46) : Gd (ds ++ es) :=
  ⟨(valAll_append _ _).mpr ⟨h.1, k.1⟩, by rw [List.length_append]; exact l, fun d hd => (List.mem_append.mp hd).elim (h.2.2 d) (k.2.2 d)⟩
theorem mem_sz : ∀ {ds : List PyData} {d : PyData}, d ∈ ds → TX.sz d ≤ szAll ds
  | e :: ds, d, h => by
    simp only [szAll]
    rcases List.mem_cons.mp h with z | z
    · rw [z]; omega
    · have := mem_sz z; omega
theorem mem_dep : ∀ {ds : List PyData} {d : PyData}, d ∈ ds → d.depth ≤ PyData.depthAll ds
  | e :: ds, d, h => by
    simp only [PyData.depthAll]
    rcases List.mem_cons.mp h with z | z
    · rw [z]; omega
    · have := mem_dep z; omega
theorem Gd.ent {d : PyData} (vd : valD d) (hz : TX.sz d ≤ 8) (hd : d.depth ≤ 3) : Gd (entD d) ∧ (entD d).length ≤ 7 := by
  have e1 := ent_sz d
  have e2 := ent_dep d
  cases d with
  | none => exact ⟨⟨trivial, by simp [entD], fun d hd => by simp [entD] at hd⟩, by simp [entD]⟩
  | str x => exact ⟨⟨⟨vd, trivial⟩, by simp [entD], fun d hd => by
      have : d = .str x := by simpa [entD] using hd
      subst this
      exact ⟨hz, by simp [PyData.depth]⟩⟩, by simp [entD]⟩
  | list es =>
    have l := szAll_len es
    simp only [TX.sz, PyData.depth] at hz hd
    refine ⟨⟨vd, by show es.length ≤ 46; omega, fun d hm => ?_⟩, by show es.length ≤ 7; omega⟩
    have a := mem_sz (show d ∈ es from hm)
    have b := mem_dep (show d ∈ es from hm)
    exact ⟨by omega, by omega⟩
  | _ => exact vd.elim
theorem Gd.set {ds : List PyData} {j : Nat} {d : PyData} (h : Gd ds) (vd : valD d) (hz : TX.sz d ≤ 8) (hd : d.depth ≤ 4) : Gd (ds.set j d) := by
  refine ⟨?_, by rw [List.length_set]; exact h.2.1, fun e he => ?_⟩
  · have : ∀ {ds : List PyData} (j : Nat), valAll ds → valAll (ds.set j d) := by
      intro ds
      induction ds with
      | nil => exact fun j h => h
      | cons e ds ih =>
        intro j h
        cases j with
        | zero => exact ⟨vd, h.2⟩
        | succ j => exact ⟨h.1, ih j h.2⟩
    exact this j h.1
  · rcases List.mem_or_eq_of_mem_set he with z | z
    · exact h.2.2 e z
    · rw [z]; exact ⟨hz, hd⟩
theorem Gd.rep {ds : List PyData} {n : Nat} (h : Gd ds) (l : ds.length * n ≤ 46) : Gd (List.replicate n ds).flatten := by
  have len : ∀ n : Nat, (List.replicate n ds).flatten.length = ds.length * n := fun n => by
    induction n with
    | zero => simp
    | succ n ih => rw [rep_snoc, List.length_append, ih, Nat.mul_succ]
  refine ⟨val_rep h.1 n, by rw [len]; exact l, fun d hd => ?_⟩
  obtain ⟨x, hx, hd⟩ := List.mem_flatten.mp hd
  rw [(List.mem_replicate.mp hx).2] at hd
  exact h.2.2 d hd
theorem DpAll.set {K : PySem.W.Frag} {H : Hp} : ∀ {ds : List PyData} {vs : List V} (j : Nat) {v : V} {d : PyData}, DpAll K H vs ds → Dp K H v d → DpAll K H (vs.set j v) (ds.set j d)
  | [], _, j, v, d, h, g => by
    cases h
    simpa using DpAll.nil (K := K) (H := H)
  | e :: ds, _, 0, v, d, h, g => by
    cases h with
    | cons h1 h2 => exact .cons g h2
  | e :: ds, _, j + 1, v, d, h, g => by
    cases h with
    | cons h1 h2 => exact .cons h1 (DpAll.set j h2 g)
def Gds (os : List Addr) (D : Addr → List PyData) : Prop := ∀ p ∈ os, Gd (D p)
theorem Gds.cons {os : List Addr} {D : Addr → List PyData} {x : Addr} {es : List PyData} (h : Gds os D) (g : Gd es) : Gds (x :: os) (fw D x es) := fun p hp => by
  by_cases e : p = x
  · rw [e, fw_at]; exact g
  · rw [fw_ne e]; exact h p ((List.mem_cons.mp hp).resolve_left e)
theorem Gds.set {os : List Addr} {D : Addr → List PyData} {x : Addr} {es : List PyData} (h : Gds os D) (g : Gd es) : Gds os (fw D x es) := fun p hp => by
  by_cases e : p = x
  · rw [e, fw_at]; exact g
  · rw [fw_ne e]; exact h p hp
def spStep (K : PySem.W.Frag) (C : Addr) : Sp := fun vs H Q _ => ∃ (pb pp dd : Addr) (W : Hp) (T : Tags) (ns os : List Addr) (R L : Addr → Addr) (D : Addr → List PyData), vs = [.ref pb, .ref pp, .ref dd] ∧ Pl K C pb pp dd (fun _ => none) W H T ns ns os os R L D D ∧ Gds os D ∧
  ∀ (W' G' : Hp) (T' : Tags) (ns' os' : List Addr) (R' L' : Addr → Addr) (D' : Addr → List PyData), Pl K C pb pp dd (fun _ => none) W' G' T' ns' ns' os' os' R' L' D' D' → Gds os' D' → Same W W' → (∀ p ∈ os, p ∈ os') → Q (.bl true) G'
/-- what a step calls -/
structure Ls (P : Program) (w : World) (K : PySem.W.Frag) (mg : Str → Option Value) (base : Heap) (C NE a1 a2 a3 a4 a5 a6 i1 i2 i3 i4 i5 i6 : Addr) (d1 d2 d3 d4 d5 d6 e1 e2 e3 e4 e5 e6 : FuncData) (fo ro fs' rs fl rl m1 m2 rc : Option Value) : Prop where
  G1 : FnOk P w K mg base CX0 1 a1 d1 ["_law_bag_here", "_law_many"] spTake
  G2 : FnOk P w K mg base CX0 5 a2 d2 ["_law_bag_here", "_law_deep", "_law_room"] (spValueL 2)
  G3 : FnOk P w K mg base CX0 1 a3 d3 ["_law_value_here"] (spEnt K)
  G4 : FnOk P w K mg base CX0 7 a4 d4 ["_law_value_here"] (spLCopy K 6)
  G5 : FnOk P w K mg base CX0 7 a5 d5 ["_law_value_here"] (spSpoilL 6)
  G6 : FnOk P w K mg base CX0 8 a6 d6 ["_law_one", "_law_at"] (spRefused K C)
  b1 : Binds K d1 ["_law_bag_here", "_law_many"] []
  b2 : Binds K d2 ["_law_bag_here", "_law_deep", "_law_room"] []
  b3 : Binds K d3 ["_law_value_here"] []
  b4 : Binds K d4 ["_law_value_here"] []
  b5 : Binds K d5 ["_law_value_here"] []
  b6 : Binds K d6 ["_law_one", "_law_at"] []
  g1 : mg "_law_take" = some (.ref a1)
  g2 : mg "_law_value" = some (.ref a2)
  g3 : mg "_law_entries" = some (.ref a3)
  g4 : mg "_law_copy" = some (.ref a4)
  g5 : mg "_law_spoil" = some (.ref a5)
  g6 : mg "_law_is_refused" = some (.ref a6)
  k1 : PySem.W.keepIn K (.ref a1) = true
  k2 : PySem.W.keepIn K (.ref a2) = true
  k3 : PySem.W.keepIn K (.ref a3) = true
  k4 : PySem.W.keepIn K (.ref a4) = true
  k5 : PySem.W.keepIn K (.ref a5) = true
  k6 : PySem.W.keepIn K (.ref a6) = true
  M : Mk K C i1
  I1 : FnOk P w K mg base CX0 4 i1 e1 ["self", "value"] (spInit K C)
  c1 : Binds K e1 ["self", "value"] []
  I2 : FnOk P w K mg base CX0 6 i2 e2 ["self", "other"] (spAdd K C)
  c2 : Binds K e2 ["self", "other"] []
  I3 : FnOk P w K mg base CX0 4 i3 e3 ["self", "other"] (spIadd K C)
  c3 : Binds K e3 ["self", "other"] []
  m3 : Meth K C "__iadd__" i3
  I4 : FnOk P w K mg base CX0 6 i4 e4 ["self", "other"] (spRadd K C)
  c4 : Binds K e4 ["self", "other"] []
  S : Sg K C i2 i4 fo ro fs' rs fl rl
  I5 : FnOk P w K mg base CX0 6 i5 e5 ["self", "other"] (spMul K C)
  c5 : Binds K e5 ["self", "other"] []
  m5 : Meth K C "__mul__" i5
  ra : PySem.W.findIn K (.ref C) "__rmul__" = some rc
  rp : rc = none ∨ ∃ g : Addr, rc = some (.ref g)
  n1 : PySem.W.findIn K (.type "int") "__mul__" = some m1
  n2 : PySem.W.findIn K (.type "int") "__rmul__" = some m2
  ni : PySem.W.subIn K (.type "int") (.ref C) = some false
  I6 : FnOk P w K mg base (L2.CX P w) 7 i6 e6 ["self", "at", "value"] (spSetD K C NE)
  c6 : Binds K e6 ["self", "at", "value"] []
  m6 : Meth K C "set_entry" i6
  max : mg "max" = none
section
variable {P : Program} {w : World} {K : PySem.W.Frag} {mg : Str → Option Value} {base : Heap} {C NE : Addr}
theorem scStep : FnScope ["_law_bag_here", "_law_pool", "_law_dues", "_law_k", "_law_j", "_law_pick", "_law_value_here", "_law_one", "_law_due", "_law_right", "_law_count", "_law_at"] ["_law_bag_here", "_law_pool", "_law_dues"] (defScope s__law_step) := ⟨rfl, rfl, rfl, by decide +kernel, rfl, by decide +kernel, by decide +kernel⟩
theorem ok_step {f a1 a2 a3 a4 a5 a6 i1 i2 i3 i4 i5 i6 : Addr} {fd d1 d2 d3 d4 d5 d6 e1 e2 e3 e4 e5 e6 : FuncData} {fo ro fs' rs fl rl m1 m2 rc : Option Value} (F : Fun K "_law_step" "_law_step" s__law_step f fd) (B : Nb mg) (T : En K mg C) (L : Ls P w K mg base C NE a1 a2 a3 a4 a5 a6 i1 i2 i3 i4 i5 i6 d1 d2 d3 d4 d5 d6 e1 e2 e3 e4 e5 e6 fo ro fs' rs fl rl m1 m2 rc) :
    FnOk P w K mg base CX0 9 f fd ["_law_bag_here", "_law_pool", "_law_dues"] (spStep K C) := by
  refine F.ok scStep (fun vs H Q E h => ?_) (fun cdv A outer s H vs Q E hr h => ?_)
  · obtain ⟨pb, pp, dd, W, T0, ns, os, R, L0, D, rfl, _⟩ := h
    rfl
  · obtain ⟨pb, pp, dd, W, T0, ns, os, R, L0, D, rfl, PL, gd, q⟩ := h
    have hu := hr.units
    have r1 : Room 1 _ := hr.mono (by decide)
    have r4 : Room 4 _ := hr.mono (by decide)
    have r5 : Room 5 _ := hr.mono (by decide)
    have r6 : Room 6 _ := hr.mono (by decide)
    have r7 : Room 7 _ := hr.mono (by decide)
    refine ⟨_, pss_cons (ps_par (i := 3) (j := 4) rfl scStep.nd rfl rfl (by decide) rfl rfl (pa_cons (pe_call L.G1 r1 (by rfl) L.g1 L.k1 L.b1 .nil pass0 (pa_cons (pv 0) (pa_cons pe_int pa_nil))) (pa_cons (pe_call L.G1 r1 (by rfl) L.g1 L.k1 L.b1 .nil pass0 (pa_cons (pv 0) (pa_cons pe_int pa_nil))) pa_nil)) (by rfl)) <|
      pss_cons (ps_par (i := 5) (j := 6) rfl scStep.nd rfl rfl (by decide) rfl rfl (pa_cons (pe_call L.G1 r1 (by rfl) L.g1 L.k1 L.b1 .nil pass0 (pa_cons (pv 0) (pa_cons pe_int pa_nil))) (pa_cons (pe_call L.G2 r5 (by rfl) L.g2 L.k2 L.b2 .nil pass0 (pa_cons (pv 0) (pa_cons pe_int (pa_cons pe_int pa_nil)))) pa_nil)) (by rfl)) <|
      pss_cons (ps_par (i := 7) (j := 8) rfl scStep.nd rfl rfl (by decide) rfl rfl (pa_cons (pe_ix ix_list (pv 1) (pv 3) (fun _ _ => rfl)) (pa_cons (pe_ix ix_list (pv 2) (pv 3) (fun _ _ => rfl)) pa_nil)) (by rfl)) <|
      C8.pss_cut (ps_if (pt_cmpR op_eq (pv 5) pe_int (nomark _))
        (pss_one (ps_asg (pe_tup (pa_cons (pe_make L.M L.I1 r5 (by rfl) T.mgC L.c1 .nil pass0 (pa_cons (pv 6) pa_nil)) (pa_cons (pe_call L.G4 r7 (by rfl) L.g4 L.k4 L.b4 .nil pass0 (pa_cons (pe_call L.G3 r1 (by rfl) L.g3 L.k3 L.b3 .nil pass0 (pa_cons (pv 6) pa_nil)) pa_nil)) pa_nil))) (pg_tup rfl (pgs_cons (pg_sub (pv 1) (pv 3) set_list) (pgs_cons (pg_sub (pv 2) (pv 3) set_list) pgs_nil)))))
        (pss_one (ps_if (PW.pt (pw_and (pt_cmpR op_eq (pv 5) pe_int (nomark _)) (pw_and1 (pt_cmpR op_lt (pe_op op_add (pe_callB call_len_seq (by rfl) B.len PySem.boot_len (pa_cons (pv 8) pa_nil)) (pe_callB call_len_seq (by rfl) B.len PySem.boot_len (pa_cons (pe_ix ix_list (pv 2) (pv 4) (fun _ _ => rfl)) pa_nil))) pe_int (nomark _)))))
          (pss_one (ps_asg (pe_tup (pa_cons (pe_op (op_own2 (E := E0) (nm := "__add__") rfl L.S.m2 L.S.sf L.I2 r6 L.c2 pass0) (pv 7) (pe_ix ix_list (pv 1) (pv 4) (fun _ _ => rfl))) (pa_cons (pe_call L.G4 r7 (by rfl) L.g4 L.k4 L.b4 .nil pass0 (pa_cons (pe_op op_cat (pv 8) (pe_ix ix_list (pv 2) (pv 4) (fun _ _ => rfl))) pa_nil)) pa_nil))) (pg_tup rfl (pgs_cons (pg_sub (pv 1) (pv 3) set_list) (pgs_cons (pg_sub (pv 2) (pv 3) set_list) pgs_nil)))))
        (pss_one (ps_if (PW.pt (pw_and (pt_cmpR op_eq (pv 5) pe_int (nomark _)) (pw_and1 (pt_cmpR op_lt (pe_op op_add (pe_callB call_len_seq (by rfl) B.len PySem.boot_len (pa_cons (pv 8) pa_nil)) (pe_callB call_len_seq (by rfl) B.len PySem.boot_len (pa_cons (pe_ix ix_list (pv 2) (pv 4) (fun _ _ => rfl)) pa_nil))) pe_int (nomark _)))))
          (pss_cons (ps_set (i := 9) scStep.nd rfl (.inl rfl) (pe_ix ix_list (pv 1) (pv 4) (fun _ _ => rfl))) <|
            pss_cons (ps_aug (i := 7) scStep.nd rfl (.inl rfl) (pv 9) (ip_own (E := E0) L.m3 L.S.sf L.I3 r4 L.c3 pass0)) <|
            pss_one (ps_expr (pe_bm PySem.F.plainAttrs_list PySem.F.slot_list_extend PySem.F.type_list_extend mt_extend (pv 8) (pa_cons (pe_call L.G4 r7 (by rfl) L.g4 L.k4 L.b4 .nil pass0 (pa_cons (pe_ix ix_list (pv 2) (pv 4) (fun _ _ => rfl)) pa_nil)) pa_nil))))
        (pss_one (ps_if (PW.pt (pw_and (pt_cmpR op_eq (pv 5) pe_int (nomark _)) (pw_and1 (pt_cmpR op_lt (pe_callB call_len_seq (by rfl) B.len PySem.boot_len (pa_cons (pv 8) pa_nil)) pe_int (nomark _)))))
          (pss_one (ps_if (pt_cmpR op_eq (pe_call L.G1 r1 (by rfl) L.g1 L.k1 L.b1 .nil pass0 (pa_cons (pv 0) (pa_cons pe_int pa_nil))) pe_int (nomark _))
            (pss_cons (ps_asg (pe_op (op_val_add (E := E0) L.S.m2.at_ L.S.mR L.S.sf L.S.h1 L.S.h2 L.S.n1 L.S.u1 L.S.h3 L.S.h4 L.S.n2 L.S.u2 L.S.h5 L.S.h6 L.S.n3 L.S.u3 L.I4 r6 L.c4 pass0) (pv 6) (pv 7)) (pg_sub (pv 1) (pv 3) set_list)) <|
              pss_one (ps_asg (pe_call L.G4 r7 (by rfl) L.g4 L.k4 L.b4 .nil pass0 (pa_cons (pe_op op_cat (pe_call L.G3 r1 (by rfl) L.g3 L.k3 L.b3 .nil pass0 (pa_cons (pv 6) pa_nil)) (pv 8)) pa_nil)) (pg_sub (pv 2) (pv 3) set_list)))
            (pss_cons (ps_aug (i := 7) scStep.nd rfl (.inl rfl) (pv 6) (ip_own (E := E0) L.m3 L.S.sf L.I3 r4 L.c3 pass0)) <|
              pss_one (ps_expr (pe_bm PySem.F.plainAttrs_list PySem.F.slot_list_extend PySem.F.type_list_extend mt_extend (pv 8) (pa_cons (pe_call L.G4 r7 (by rfl) L.g4 L.k4 L.b4 .nil pass0 (pa_cons (pe_call L.G3 r1 (by rfl) L.g3 L.k3 L.b3 .nil pass0 (pa_cons (pv 6) pa_nil)) pa_nil)) pa_nil))))))
        (pss_one (ps_if (PW.pt (pw_and (pt_cmpR op_eq (pv 5) pe_int (nomark _)) (pw_and1 (pt_cmpR op_lt (pe_callB call_len_seq (by rfl) B.len PySem.boot_len (pa_cons (pv 8) pa_nil)) pe_int (nomark _)))))
          (pss_cons (ps_set (i := 10) scStep.nd rfl (.inl rfl) (pe_op op_sub (pe_call L.G1 r1 (by rfl) L.g1 L.k1 L.b1 .nil pass0 (pa_cons (pv 0) (pa_cons pe_int pa_nil))) pe_int)) <|
            pss_cons (ps_asg (pe_op (op_mul_int (E := E0) L.m5 L.S.sf L.ra L.rp L.n1 L.n2 L.ni L.I5 r6 L.c5 pass0) (pv 7) (pv 10)) (pg_sub (pv 1) (pv 3) set_list)) <|
            pss_one (ps_asg (pe_call L.G4 r7 (by rfl) L.g4 L.k4 L.b4 .nil pass0 (pa_cons (pe_op op_rep (pv 8) (pe_callB (call_max2 rfl) (by rfl) L.max (by decide +kernel) (pa_cons pe_int (pa_cons (pv 10) pa_nil)))) pa_nil)) (pg_sub (pv 2) (pv 3) set_list)))
        (pss_one (ps_if (pt_cmpR op_eq (pv 5) pe_int (nomark _))
          (pss_one (ps_asg (pe_tup (pa_cons (pe_ix ix_list (pv 1) (pv 4) (fun _ _ => rfl)) (pa_cons (pe_ix ix_list (pv 2) (pv 4) (fun _ _ => rfl)) pa_nil))) (pg_tup rfl (pgs_cons (pg_sub (pv 1) (pv 3) set_list) (pgs_cons (pg_sub (pv 2) (pv 3) set_list) pgs_nil)))))
        (pss_one (ps_if (PW.pt (pw_and (pt_cmpR op_eq (pv 5) pe_int (nomark _)) (pw_and1 (pt_cmpR (op_neD hu) (pv 8) (pe_lst pa_nil) (nomark _)))))
          (pss_cons (ps_set (i := 11) scStep.nd rfl (.inl rfl) (pe_op op_sub (pe_call L.G1 r1 (by rfl) L.g1 L.k1 L.b1 .nil pass0 (pa_cons (pv 0) (pa_cons (pe_op op_mul pe_int (pe_callB call_len_seq (by rfl) B.len PySem.boot_len (pa_cons (pv 8) pa_nil))) pa_nil))) (pe_callB call_len_seq (by rfl) B.len PySem.boot_len (pa_cons (pv 8) pa_nil)))) <|
            pss_cons (ps_expr (pe_methT (pv 7) T.cl L.m6 L.I6 r7 L.c6 (fun σ => passAtF) (pa_cons (pv 11) (pa_cons (pv 6) pa_nil)))) <|
            pss_one (ps_asg (pe_call L.G4 r7 (by rfl) L.g4 L.k4 L.b4 .nil pass0 (pa_cons (pv 6) pa_nil)) (pg_sub (pv 8) (pv 11) set_list)))
          (pss_one (ps_ret (pe_call L.G6 hr (by rfl) L.g6 L.k6 L.b6 .nil pass0 (pa_cons (pv 7) (pa_cons (pe_ix ix_list (pe_lst (pa_cons (pe_callB call_len_seq (by rfl) B.len PySem.boot_len (pa_cons (pv 8) pa_nil)) (pa_cons (pe_op op_sub (pe_un un_neg (pe_callB call_len_seq (by rfl) B.len PySem.boot_len (pa_cons (pv 8) pa_nil))) pe_int) (pa_cons pe_non (pa_cons pe_str pa_nil))))) (pe_call L.G1 r1 (by rfl) L.g1 L.k1 L.b1 .nil pass0 (pa_cons (pv 0) (pa_cons pe_int pa_nil))) (fun _ _ => rfl)) pa_nil)))))))))))))))))) <|
      pss_cons (ps_expr (pe_call L.G5 r7 (by rfl) L.g5 L.k5 L.b5 .nil pass0 (pa_cons (pv 6) pa_nil))) <|
      pss_one (ps_ret pe_bl), ?_⟩
    have fit : ∀ {n : Nat}, n ≤ 20000 → n ≤ sizeLine := fun h => Nat.le_trans h (by decide)
    have dr : ∀ {J W' G' : Hp} {ns ms ls : List Addr} (a c : Int), Pl K C pb pp dd J W' G' T0 ns ms os ls R L0 D D → Pl K C pb pp dd J W' (upd G' pb (.lst [.int a, .int c])) T0 ns ms os ls R L0 D D := fun a c p => p.draw (fun b o hb e => by rw [upd_ne hb]; exact e) ⟨_, _, upd_same⟩
    refine ⟨_, rfl, pb, 4, rfl, PL.bag, by decide, by decide, fun z1 y1 k hk0 hk1 => ?_⟩
    have P1 := dr z1 y1 PL
    generalize upd H pb (.lst [.int z1, .int y1]) = H1 at P1
    refine ⟨_, rfl, pb, 4, rfl, P1.bag, by decide, by decide, fun z2 y2 j hj0 hj1 => ?_⟩
    have P2 := dr z2 y2 P1
    generalize upd H1 pb (.lst [.int z2, .int y2]) = H2 at P2
    clear P1
    refine ⟨_, _, rfl, _, rfl, pb, 8, rfl, P2.bag, by decide, by decide, fun z3 y3 pk hp0 hp1 => ?_⟩
    have P3 := dr z3 y3 P2
    generalize upd H2 pb (.lst [.int z3, .int y3]) = H3 at P3
    clear P2
    refine ⟨_, rfl, pb, 2, 8, rfl, P3.bag, by decide, by decide, by decide, fun H4 v d k4 b4 hv vd dd2 sz0 => ?_⟩
    have P4 := P3.drawn k4 b4
    generalize newp H3 H4 = J at P4 hv
    clear P3
    obtain ⟨k, rfl⟩ := Int.eq_ofNat_of_zero_le hk0
    obtain ⟨j, rfl⟩ := Int.eq_ofNat_of_zero_le hj0
    have len := PL.len
    obtain ⟨p, hp⟩ : ∃ x, ns[k]? = some x := ⟨ns[k], List.getElem?_eq_getElem (by omega)⟩
    obtain ⟨p2, hp2⟩ : ∃ x, ns[j]? = some x := ⟨ns[j], List.getElem?_eq_getElem (by omega)⟩
    have po := PL.nsub p (List.mem_of_getElem? hp)
    have po2 := PL.nsub p2 (List.mem_of_getElem? hp2)
    have atm : ∀ {α : Type} {l : List Addr} {f : Addr → α} {i : Nat} {a : Addr}, l[i]? = some a → (l.map f)[i]? = some (f a) := fun e => by
      rw [List.getElem?_map, e]
      rfl
    have g1 := gd p po
    have g2 := gd p2 po2
    obtain ⟨ge, gel⟩ := Gd.ent vd sz0 (by omega)
    have dpv : ∀ {G : Hp}, Same J G → Dp K J v d := fun _ => dl_dp hv
    have dpv := dpv (Same.refl _)
    refine ⟨_, _, rfl, ?_⟩
    refine ⟨_, rfl, _, rfl, pp, _, _, _, rfl, rfl, SqL.of P4.pool, atI_nat (atm hp), _, rfl, _, rfl, dd, _, _, _, rfl, rfl, SqL.of P4.dues, atI_nat (atm hp), _, _, rfl, ?_⟩
    obtain ⟨dx, ws, ep, er, hw⟩ := P4.ob p po
    obtain ⟨us, el, hul⟩ := P4.du p po
    obtain ⟨dx2, ws2, ep2, er2, hw2⟩ := P4.ob p2 po2
    obtain ⟨us2, el2, hul2⟩ := P4.du p2 po2
    have lw := DpAll.length hw
    have lu := DpAll.length hul
    have lw2 := DpAll.length hw2
    have lu2 := DpAll.length hul2
    have sz1 := g1.sz'
    have sz2 := g2.sz'
    have nd1 := ndAll_sz _ g1.1
    have nd2 := ndAll_sz _ g2.1
    have f1 := g1.2.1
    have f2 := g2.2.1
    refine ⟨fun σ' G' => ∃ (W' : Hp) (T' : Tags) (ns' os' : List Addr) (R' L' : Addr → Addr) (D' : Addr → List PyData) (z7 z8 z9 z10 z11 : Option V), σ' = [some (.ref pb), some (.ref pp), some (.ref dd), some (.int (k : Nat)), some (.int (j : Nat)), some (.int pk), some v, z7, z8, z9, z10, z11] ∧
      Pl K C pb pp dd J W' G' T' ns' ns' os' os' R' L' D' D' ∧ Gds os' D' ∧ Same W W' ∧ ∀ p ∈ os, p ∈ os', ?_, ?_⟩
    · have both : ∀ {W' G' : Hp} {T' : Tags} {os' : List Addr} {R' L' : Addr → Addr} {D' : Addr → List PyData} {x t l : Addr} {z7 z8 z9 z10 z11 : Option V}, Pl K C pb pp dd J W' G' T' ns ns os' os' R' L' D' D' → x ∈ os' → Gds os' D' → Same W W' → (∀ p ∈ os, p ∈ os') → G' t = none → l = L' x →
          gTup K 2 (gCons (gSub (tVar 1) (tVar 3) rSetL) (gCons (gSub (tVar 2) (tVar 3) rSetL) gNil)) (.ref t) [some (.ref pb), some (.ref pp), some (.ref dd), some (.int (k : Nat)), some (.int (j : Nat)), some (.int pk), some v, z7, z8, z9, z10, z11] (upd G' t (.tup [.ref x, .ref l]))
            fun σ' G' => ∃ (W' : Hp) (T' : Tags) (ns' os' : List Addr) (R' L' : Addr → Addr) (D' : Addr → List PyData) (z7 z8 z9 z10 z11 : Option V), σ' = [some (.ref pb), some (.ref pp), some (.ref dd), some (.int (k : Nat)), some (.int (j : Nat)), some (.int pk), some v, z7, z8, z9, z10, z11] ∧
              Pl K C pb pp dd J W' G' T' ns' ns' os' os' R' L' D' D' ∧ Gds os' D' ∧ Same W W' ∧ ∀ p ∈ os, p ∈ os' := by
        intro W' G' T' os' R' L' D' x t l z7 z8 z9 z10 z11 h hx gn sW sub nt el
        subst el
        have h1 := h.up (same_upd (o := .tup [.ref x, .ref (L' x)]) nt)
        refine ⟨t, _, rfl, SqT.of upd_same, rfl, _, _, rfl, _, rfl, _, rfl, pp, _, _, k, rfl, rfl, h1.pool, ixN_at (by rw [List.length_map]; omega), ?_⟩
        have h2 := h1.bindP k hx
        refine ⟨_, _, rfl, _, rfl, _, rfl, dd, _, _, k, rfl, rfl, h2.dues, ixN_at (by rw [List.length_map]; omega), ?_⟩
        exact ⟨rfl, W', T', ns.set k x, os', R', L', D', z7, z8, z9, z10, z11, rfl, h2.bindD k hx, gn, sW, sub⟩
      refine ⟨_, rfl, rfl, _, rfl, ?_⟩
      by_cases h0 : pk = 0
      · refine eqT h0 ?_
        refine ⟨_, rfl, ?_⟩
        dsimp only [tNil, List.nil_append, List.append_nil, List.cons_append]
        refine mk_entA P4.js dpv vd (by omega) fun G5 x dx5 r5' ws5 S5 s5 nx hx nr hr5 tr5 rS5 xS5 fr5 => ?_
        obtain ⟨W5, T5, P5, sW5, nxo⟩ := P4.made s5 nx hx nr hr5 tr5 rS5 xS5 fr5
        refine ⟨_, rfl, v, d, J, rfl, P5.js, dpv, vd, fun G6 l6 vs6 s6 nl6 hl6 hv6 => ?_⟩
        have P6 := P5.up s6
        refine ⟨.ref l6, .list (entD d), G6, rfl, Same.refl _, .lst (SqL.of hl6) (dpAll_same P6.js _ _ hv6), ge.1, by have := ge.dep; simp only [PyData.depth]; omega, by have := ge.sz'; have := ndAll_sz _ ge.1; simp only [nd]; omega, fun G7 v7 S7 s7 tr7 fr7 => ?_⟩
        obtain ⟨l7, W7, T7, rfl, P7, sW7⟩ := P6.madeL s7 tr7 fr7 nxo
        refine ⟨by show 2 ≤ sizeLine; decide, fun t8 nt8 => ?_⟩
        exact both P7 List.mem_cons_self (gd.cons ge) (sW5.trans sW7) (fun p' hp' => List.mem_cons_of_mem _ hp') nt8 fw_at.symm
      refine eqF h0 ⟨_, rfl, rfl, _, rfl, ?_⟩
      by_cases h1 : pk = 1
      · refine eqT h1 ?_
        refine ⟨_, rfl, L0 p, us, rfl, .inl (SqL.of el), _, rfl, _, rfl, dd, _, _, _, rfl, rfl, SqL.of P4.dues, atI_nat (atm hp2), L0 p2, us2, rfl, .inl (SqL.of el2), _, _, rfl, rfl, _, _, rfl, rfl, _, rfl, ?_⟩
        by_cases hlt : ((us.length : Nat) : Int) + ((us2.length : Nat) : Int) < 45
        · refine ltT hlt ?_
          have gE : Gd (D p ++ D p2) := g1.append g2 (by omega)
          refine ⟨_, rfl, _, rfl, _, rfl, pp, _, _, _, rfl, rfl, SqL.of P4.pool, atI_nat (atm hp2), p, p2, dx, dx2, _, _, rfl, rfl, ep, ep2, p, dx, R p, ws, .ref p2, D p, D p2, W, rfl, ep, er, P4.sub, hw, g1.1, g2.1, by omega, .inl ⟨p2, dx2, R p2, ws2, rfl, ep2, er2, hw2⟩, fun G5 x dx5 r5' ws5 S5 s5 nx hx nr hr5 tr5 rS5 xS5 fr5 => ?_⟩
          obtain ⟨W5, T5, P5, sW5, nxo⟩ := P4.made s5 nx hx nr hr5 tr5 rS5 xS5 fr5
          obtain ⟨us5, el5, hu5⟩ := P5.du p po
          obtain ⟨us6, el6, hu6⟩ := P5.du p2 po2
          have lu5 := DpAll.length hu5
          have lu6 := DpAll.length hu6
          refine ⟨_, rfl, _, rfl, _, rfl, dd, _, _, _, rfl, rfl, SqL.of P5.dues, atI_nat (atm hp2), L0 p, L0 p2, us5, us6, rfl, rfl, el5, el6, fit (by omega), fun l6 nl6 => ?_⟩
          have s6 : Same G5 (upd G5 l6 (.lst (us5 ++ us6))) := same_upd nl6
          have P6 := P5.up s6
          refine ⟨.ref l6, .list (D p ++ D p2), _, rfl, Same.refl _, .lst (SqL.of upd_same) (DpAll.append (dpAll_same (P5.sub.trans s6) _ _ hu5) (dpAll_same (P5.sub.trans s6) _ _ hu6)), gE.1, by have := gE.dep; simp only [PyData.depth]; omega, by have := gE.sz'; have := ndAll_sz _ gE.1; simp only [nd]; omega, fun G7 v7 S7 s7 tr7 fr7 => ?_⟩
          obtain ⟨l7, W7, T7, rfl, P7, sW7⟩ := P6.madeL s7 tr7 fr7 nxo
          refine ⟨by show 2 ≤ sizeLine; decide, fun t8 nt8 => ?_⟩
          exact both P7 List.mem_cons_self (gd.cons gE) (sW5.trans sW7) (fun p' hp' => List.mem_cons_of_mem _ hp') nt8 fw_at.symm
        · refine ltF hlt ?_
          refine ⟨_, rfl, rfl, _, rfl, ?_⟩
          refine eqF (by omega) ?_
          refine ⟨_, rfl, rfl, _, rfl, ?_⟩
          refine eqF (by omega) ?_
          refine ⟨_, rfl, rfl, _, rfl, ?_⟩
          refine eqF (by omega) ?_
          refine ⟨_, rfl, rfl, _, rfl, ?_⟩
          refine eqF (by omega) ?_
          refine ⟨_, rfl, rfl, _, rfl, ?_⟩
          refine eqF (by omega) ?_
          refine ⟨_, rfl, ?_⟩
          refine ⟨_, rfl, L0 p, us, rfl, .inl (SqL.of el), _, rfl, L0 p, us, rfl, .inl (SqL.of el), _, rfl, _, _, rfl, rfl, (by show 4 ≤ sizeLine; decide), fun l5 n5 => ?_⟩
          have P5 := P4.up (same_upd (o := .lst [.int (us.length : Nat), .int (-((us.length : Nat) : Int) - 1), .non, .str "0"]) n5)
          have e5 : (upd H4 l5 (.lst [.int (us.length : Nat), .int (-((us.length : Nat) : Int) - 1), .non, .str "0"])) l5 = some (.lst [.int (us.length : Nat), .int (-((us.length : Nat) : Int) - 1), .non, .str "0"]) := upd_same
          have nb5 : l5 ≠ pb := fun z => P4.liv _ _ P4.tb (z ▸ n5)
          generalize upd H4 l5 (.lst [.int (us.length : Nat), .int (-((us.length : Nat) : Int) - 1), .non, .str "0"]) = G5 at P5 e5 ⊢
          refine ⟨_, rfl, pb, 4, rfl, P5.bag, by decide, by decide, fun z5 y5 i hi0 hi1 => ?_⟩
          have P6 := dr z5 y5 P5
          have e6 : (upd G5 pb (.lst [.int z5, .int y5])) l5 = some (.lst [.int (us.length : Nat), .int (-((us.length : Nat) : Int) - 1), .non, .str "0"]) := by rw [upd_ne nb5]; exact e5
          generalize upd G5 pb (.lst [.int z5, .int y5]) = G6 at P6 e6 ⊢
          obtain ⟨u, pl, hat, plain, no⟩ : ∃ u pl, atI [.int (us.length : Nat), .int (-((us.length : Nat) : Int) - 1), .non, .str "0"] i = some u ∧ PlainV u pl ∧ atN us.length pl = none := by
            obtain rfl | rfl | rfl | rfl : i = 0 ∨ i = 1 ∨ i = 2 ∨ i = 3 := by omega
            · refine ⟨_, .int (us.length : Nat), atI_nat (j := 0) rfl, .inr (.inl ⟨_, rfl, rfl⟩), ?_⟩
              show ixN _ _ = none
              unfold ixN
              rw [if_pos (by omega), if_neg (by omega)]
            · refine ⟨_, .int (-((us.length : Nat) : Int) - 1), atI_nat (j := 1) rfl, .inr (.inl ⟨_, rfl, rfl⟩), ?_⟩
              show ixN _ _ = none
              unfold ixN
              rw [if_neg (by omega), if_neg (by omega)]
            · exact ⟨_, .none, atI_nat (j := 2) rfl, .inl ⟨rfl, rfl⟩, rfl⟩
            · exact ⟨_, .str "0", atI_nat (j := 3) rfl, .inr (.inr ⟨_, rfl, rfl⟩), rfl⟩
          obtain ⟨dx6, ws6, ep6, er6, hw6⟩ := P6.ob p po
          have lw6 := DpAll.length hw6
          refine ⟨l5, _, i, u, rfl, rfl, SqL.of e6, hat, ?_⟩
          exact ⟨p, dx6, R p, ws6, D p, u, pl, W, rfl, ep6, er6, P6.sub, hw6, by omega, by omega, plain, by rw [lw6, ← lu]; exact no, fun G7 s7 => q _ _ _ _ _ _ _ _ ((P6.up s7).spoil fun b o _ e => e) gd (Same.refl _) fun _ h => h⟩
      refine eqF h1 ⟨_, rfl, rfl, _, rfl, ?_⟩
      by_cases h2 : pk = 2
      · refine eqT h2 ?_
        refine ⟨_, rfl, L0 p, us, rfl, .inl (SqL.of el), _, rfl, _, rfl, dd, _, _, _, rfl, rfl, SqL.of P4.dues, atI_nat (atm hp2), L0 p2, us2, rfl, .inl (SqL.of el2), _, _, rfl, rfl, _, _, rfl, rfl, _, rfl, ?_⟩
        by_cases hlt : ((us.length : Nat) : Int) + ((us2.length : Nat) : Int) < 45
        · refine ltT hlt ?_
          have gE : Gd (D p ++ D p2) := g1.append g2 (by omega)
          refine ⟨_, rfl, _, rfl, pp, _, _, _, rfl, rfl, SqL.of P4.pool, atI_nat (atm hp2), ?_⟩
          refine ⟨_, rfl, _, rfl, p, dx, _, rfl, ep, p, dx, R p, ws, .ref p2, D p2, W, rfl, ep, er, by omega, P4.sub, by omega, .inl ⟨p2, dx2, R p2, ws2, rfl, ep2, er2, hw2⟩, fun G5 r5' us5 S5 k5 hx5 nr5 hr5 tr5 rS5 fr5 => ?_⟩
          obtain ⟨W5, T5, P5, sW5⟩ := P4.iadd po hw k5 hx5 nr5 hr5 tr5 rS5 fr5
          obtain ⟨us5, el5, hu5⟩ := P5.du p po
          obtain ⟨us6, el6, hu6⟩ := P5.du p2 po2
          refine ⟨_, rfl, .inl ⟨rfl, _, SqL.of el5⟩, _, rfl, _, rfl, dd, _, _, _, rfl, rfl, SqL.of P5.dues, atI_nat (atm hp2), .ref (L0 p2), .list (D p2), G5, rfl, Same.refl _, .lst (SqL.of el6) (dpAll_same P5.sub _ _ hu6), g2.1, by have := g2.dep; simp only [PyData.depth]; omega, by simp only [nd]; omega, fun G7 v7 S7 s7 tr7 fr7 => ?_⟩
          obtain ⟨a7, zs7, S7', rfl, rfl, ha7, ts7, _⟩ := tr_list tr7
          obtain ⟨P7, sW7, _, tA7⟩ := P5.news s7 (S := S7') fun b hb => fr7 b (List.mem_cons_of_mem _ hb)
          obtain ⟨us7, el7, hu7⟩ := P7.du p po
          have l1 := DpAll.length hu7
          have l2 := DpAll.length (tA7 _ _ ts7)
          refine ⟨L0 p, a7, us7, zs7, rfl, rfl, el7, ha7, fit (by omega), ?_⟩
          exact ⟨_, _, ns, os, _, L0, _, _, _, _, _, _, rfl, P7.due po (DpAll.append hu7 (tA7 _ _ ts7)), gd.set gE, sW5.trans sW7, fun _ h => h⟩
        · refine ltF hlt ?_
          refine ⟨_, rfl, rfl, _, rfl, ?_⟩
          refine eqF (by omega) ?_
          refine ⟨_, rfl, rfl, _, rfl, ?_⟩
          refine eqF (by omega) ?_
          refine ⟨_, rfl, rfl, _, rfl, ?_⟩
          refine eqF (by omega) ?_
          refine ⟨_, rfl, rfl, _, rfl, ?_⟩
          refine eqF (by omega) ?_
          refine ⟨_, rfl, ?_⟩
          refine ⟨_, rfl, L0 p, us, rfl, .inl (SqL.of el), _, rfl, L0 p, us, rfl, .inl (SqL.of el), _, rfl, _, _, rfl, rfl, (by show 4 ≤ sizeLine; decide), fun l5 n5 => ?_⟩
          have P5 := P4.up (same_upd (o := .lst [.int (us.length : Nat), .int (-((us.length : Nat) : Int) - 1), .non, .str "0"]) n5)
          have e5 : (upd H4 l5 (.lst [.int (us.length : Nat), .int (-((us.length : Nat) : Int) - 1), .non, .str "0"])) l5 = some (.lst [.int (us.length : Nat), .int (-((us.length : Nat) : Int) - 1), .non, .str "0"]) := upd_same
          have nb5 : l5 ≠ pb := fun z => P4.liv _ _ P4.tb (z ▸ n5)
          generalize upd H4 l5 (.lst [.int (us.length : Nat), .int (-((us.length : Nat) : Int) - 1), .non, .str "0"]) = G5 at P5 e5 ⊢
          refine ⟨_, rfl, pb, 4, rfl, P5.bag, by decide, by decide, fun z5 y5 i hi0 hi1 => ?_⟩
          have P6 := dr z5 y5 P5
          have e6 : (upd G5 pb (.lst [.int z5, .int y5])) l5 = some (.lst [.int (us.length : Nat), .int (-((us.length : Nat) : Int) - 1), .non, .str "0"]) := by rw [upd_ne nb5]; exact e5
          generalize upd G5 pb (.lst [.int z5, .int y5]) = G6 at P6 e6 ⊢
          obtain ⟨u, pl, hat, plain, no⟩ : ∃ u pl, atI [.int (us.length : Nat), .int (-((us.length : Nat) : Int) - 1), .non, .str "0"] i = some u ∧ PlainV u pl ∧ atN us.length pl = none := by
            obtain rfl | rfl | rfl | rfl : i = 0 ∨ i = 1 ∨ i = 2 ∨ i = 3 := by omega
            · refine ⟨_, .int (us.length : Nat), atI_nat (j := 0) rfl, .inr (.inl ⟨_, rfl, rfl⟩), ?_⟩
              show ixN _ _ = none
              unfold ixN
              rw [if_pos (by omega), if_neg (by omega)]
            · refine ⟨_, .int (-((us.length : Nat) : Int) - 1), atI_nat (j := 1) rfl, .inr (.inl ⟨_, rfl, rfl⟩), ?_⟩
              show ixN _ _ = none
              unfold ixN
              rw [if_neg (by omega), if_neg (by omega)]
            · exact ⟨_, .none, atI_nat (j := 2) rfl, .inl ⟨rfl, rfl⟩, rfl⟩
            · exact ⟨_, .str "0", atI_nat (j := 3) rfl, .inr (.inr ⟨_, rfl, rfl⟩), rfl⟩
          obtain ⟨dx6, ws6, ep6, er6, hw6⟩ := P6.ob p po
          have lw6 := DpAll.length hw6
          refine ⟨l5, _, i, u, rfl, rfl, SqL.of e6, hat, ?_⟩
          exact ⟨p, dx6, R p, ws6, D p, u, pl, W, rfl, ep6, er6, P6.sub, hw6, by omega, by omega, plain, by rw [lw6, ← lu]; exact no, fun G7 s7 => q _ _ _ _ _ _ _ _ ((P6.up s7).spoil fun b o _ e => e) gd (Same.refl _) fun _ h => h⟩
      refine eqF h2 ⟨_, rfl, rfl, _, rfl, ?_⟩
      by_cases h3 : pk = 3
      · refine eqT h3 ?_
        refine ⟨_, rfl, L0 p, us, rfl, .inl (SqL.of el), _, _, rfl, rfl, _, rfl, ?_⟩
        by_cases hlt : ((us.length : Nat) : Int) < 40
        · refine ltT hlt ?_
          refine ⟨_, rfl, pb, 2, rfl, P4.bag, by decide, by decide, fun z5 y5 i hi0 hi1 => ?_⟩
          have P5 := dr z5 y5 P4
          generalize upd H4 pb (.lst [.int z5, .int y5]) = G5 at P5 ⊢
          obtain ⟨dx5, ws5, ep5, er5, hw5⟩ := P5.ob p po
          have lw5 := DpAll.length hw5
          have zE := ge.sz'
          refine ⟨rfl, _, rfl, ?_⟩
          by_cases hi : i = 0
          · refine eqT hi ?_
            have gE : Gd (entD d ++ D p) := ge.append g1 (by omega)
            refine ⟨_, rfl, _, rfl, dl_valv P5.js hv vd, p, dx5, _, rfl, ep5, p, dx5, R p, ws5, v, D p, d, G5, rfl, ep5, er5, Same.refl _, dpAll_same P5.sub _ _ hw5, g1.1, dp_same P5.js _ _ dpv, vd, by omega, fun G6 x dx6 r6' ws6 S6 s6 nx hx nr hr6 tr6 rS6 xS6 fr6 => ?_⟩
            obtain ⟨W6, T6, P6, sW6, nxo⟩ := P5.made s6 nx hx nr hr6 tr6 rS6 xS6 fr6
            refine ⟨_, rfl, _, rfl, pp, _, _, k, rfl, rfl, P6.pool, ixN_at (by rw [List.length_map]; omega), ?_⟩
            have P7 := P6.bindP k (List.mem_cons_self)
            generalize upd G6 pp _ = G7 at P7 ⊢
            refine ⟨_, rfl, v, d, J, rfl, P7.js, dpv, vd, fun G8 l8 vs8 s8 nl8 hl8 hv8 => ?_⟩
            have P8 := P7.up s8
            obtain ⟨us8, el8, hu8⟩ := P8.du p po
            have l1 := DpAll.length hu8
            have l2 := DpAll.length hv8
            refine ⟨_, rfl, l8, L0 p, vs8, us8, rfl, rfl, hl8, el8, fit (by omega), fun l9 nl9 => ?_⟩
            have s9 : Same G8 (upd G8 l9 (.lst (vs8 ++ us8))) := same_upd nl9
            have P9 := P8.up s9
            refine ⟨.ref l9, .list (entD d ++ D p), _, rfl, Same.refl _, .lst (SqL.of upd_same) (DpAll.append (dpAll_same P9.js _ _ hv8) (dpAll_same (P8.sub.trans s9) _ _ hu8)), gE.1, by have := gE.dep; simp only [PyData.depth]; omega, by have := gE.sz'; have := ndAll_sz _ gE.1; simp only [nd]; omega, fun G10 v10 S10 s10 tr10 fr10 => ?_⟩
            obtain ⟨l11, W11, T11, rfl, P11, sW11⟩ := P9.madeL s10 tr10 fr10 nxo
            refine ⟨_, rfl, _, rfl, dd, _, _, k, rfl, rfl, P11.dues, ixN_at (by rw [List.length_map]; omega), ?_⟩
            have P12 := P11.bindD k List.mem_cons_self
            rw [show fw L0 x l11 x = l11 from fw_at] at P12
            exact ⟨_, _, _, _, _, _, _, _, _, _, _, _, rfl, P12, gd.cons gE, sW6.trans sW11, fun p' hp' => List.mem_cons_of_mem _ hp'⟩
          · refine eqF hi ?_
            have gE : Gd (D p ++ entD d) := g1.append ge (by omega)
            have en := ndAll_sz _ ge.1
            refine ⟨_, rfl, _, rfl, p, dx5, _, rfl, ep5, p, dx5, R p, ws5, v, entD d, G5, rfl, ep5, er5, by omega, Same.refl _, by omega, .inr ⟨d, dp_same P5.js _ _ dpv, vd, by omega, rfl⟩, fun G6 r6' us6 S6 k6 hx6 nr6 hr6 tr6 rS6 fr6 => ?_⟩
            obtain ⟨W6, T6, P6, sW6⟩ := P5.iadd po hw5 k6 hx6 nr6 hr6 tr6 rS6 fr6
            obtain ⟨us7, el7, hu7⟩ := P6.du p po
            refine ⟨_, rfl, .inl ⟨rfl, _, SqL.of el7⟩, _, rfl, v, d, J, rfl, P6.js, dpv, vd, fun G8 l8 vs8 s8 nl8 hl8 hv8 => ?_⟩
            have P8 := P6.up s8
            refine ⟨.ref l8, .list (entD d), G8, rfl, Same.refl _, .lst (SqL.of hl8) (dpAll_same P8.js _ _ hv8), ge.1, by have := ge.dep; simp only [PyData.depth]; omega, by have := ge.sz'; have := ndAll_sz _ ge.1; simp only [nd]; omega, fun G9 v9 S9 s9 tr9 fr9 => ?_⟩
            obtain ⟨a9, zs9, S9', rfl, rfl, ha9, ts9, _⟩ := tr_list tr9
            obtain ⟨P9, sW9, _, tA9⟩ := P8.news s9 (S := S9') fun b hb => fr9 b (List.mem_cons_of_mem _ hb)
            obtain ⟨us9, el9, hu9⟩ := P9.du p po
            have l1 := DpAll.length hu9
            have l2 := DpAll.length (tA9 _ _ ts9)
            refine ⟨L0 p, a9, us9, zs9, rfl, rfl, el9, ha9, fit (by omega), ?_⟩
            exact ⟨_, _, ns, os, _, L0, _, _, _, _, _, _, rfl, P9.due po (DpAll.append hu9 (tA9 _ _ ts9)), gd.set gE, sW6.trans sW9, fun _ h => h⟩
        · refine ltF hlt ?_
          refine ⟨_, rfl, rfl, _, rfl, ?_⟩
          refine eqF (by omega) ?_
          refine ⟨_, rfl, rfl, _, rfl, ?_⟩
          refine eqF (by omega) ?_
          refine ⟨_, rfl, rfl, _, rfl, ?_⟩
          refine eqF (by omega) ?_
          refine ⟨_, rfl, ?_⟩
          refine ⟨_, rfl, L0 p, us, rfl, .inl (SqL.of el), _, rfl, L0 p, us, rfl, .inl (SqL.of el), _, rfl, _, _, rfl, rfl, (by show 4 ≤ sizeLine; decide), fun l5 n5 => ?_⟩
          have P5 := P4.up (same_upd (o := .lst [.int (us.length : Nat), .int (-((us.length : Nat) : Int) - 1), .non, .str "0"]) n5)
          have e5 : (upd H4 l5 (.lst [.int (us.length : Nat), .int (-((us.length : Nat) : Int) - 1), .non, .str "0"])) l5 = some (.lst [.int (us.length : Nat), .int (-((us.length : Nat) : Int) - 1), .non, .str "0"]) := upd_same
          have nb5 : l5 ≠ pb := fun z => P4.liv _ _ P4.tb (z ▸ n5)
          generalize upd H4 l5 (.lst [.int (us.length : Nat), .int (-((us.length : Nat) : Int) - 1), .non, .str "0"]) = G5 at P5 e5 ⊢
          refine ⟨_, rfl, pb, 4, rfl, P5.bag, by decide, by decide, fun z5 y5 i hi0 hi1 => ?_⟩
          have P6 := dr z5 y5 P5
          have e6 : (upd G5 pb (.lst [.int z5, .int y5])) l5 = some (.lst [.int (us.length : Nat), .int (-((us.length : Nat) : Int) - 1), .non, .str "0"]) := by rw [upd_ne nb5]; exact e5
          generalize upd G5 pb (.lst [.int z5, .int y5]) = G6 at P6 e6 ⊢
          obtain ⟨u, pl, hat, plain, no⟩ : ∃ u pl, atI [.int (us.length : Nat), .int (-((us.length : Nat) : Int) - 1), .non, .str "0"] i = some u ∧ PlainV u pl ∧ atN us.length pl = none := by
            obtain rfl | rfl | rfl | rfl : i = 0 ∨ i = 1 ∨ i = 2 ∨ i = 3 := by omega
            · refine ⟨_, .int (us.length : Nat), atI_nat (j := 0) rfl, .inr (.inl ⟨_, rfl, rfl⟩), ?_⟩
              show ixN _ _ = none
              unfold ixN
              rw [if_pos (by omega), if_neg (by omega)]
            · refine ⟨_, .int (-((us.length : Nat) : Int) - 1), atI_nat (j := 1) rfl, .inr (.inl ⟨_, rfl, rfl⟩), ?_⟩
              show ixN _ _ = none
              unfold ixN
              rw [if_neg (by omega), if_neg (by omega)]
            · exact ⟨_, .none, atI_nat (j := 2) rfl, .inl ⟨rfl, rfl⟩, rfl⟩
            · exact ⟨_, .str "0", atI_nat (j := 3) rfl, .inr (.inr ⟨_, rfl, rfl⟩), rfl⟩
          obtain ⟨dx6, ws6, ep6, er6, hw6⟩ := P6.ob p po
          have lw6 := DpAll.length hw6
          refine ⟨l5, _, i, u, rfl, rfl, SqL.of e6, hat, ?_⟩
          exact ⟨p, dx6, R p, ws6, D p, u, pl, W, rfl, ep6, er6, P6.sub, hw6, by omega, by omega, plain, by rw [lw6, ← lu]; exact no, fun G7 s7 => q _ _ _ _ _ _ _ _ ((P6.up s7).spoil fun b o _ e => e) gd (Same.refl _) fun _ h => h⟩
      refine eqF h3 ⟨_, rfl, rfl, _, rfl, ?_⟩
      by_cases h4 : pk = 4
      · refine eqT h4 ?_
        refine ⟨_, rfl, L0 p, us, rfl, .inl (SqL.of el), _, _, rfl, rfl, _, rfl, ?_⟩
        by_cases hlt : ((us.length : Nat) : Int) < 15
        · refine ltT hlt ?_
          refine ⟨_, rfl, pb, 5, rfl, P4.bag, by decide, by decide, fun z5 y5 i hi0 hi1 => ?_⟩
          have P5 := dr z5 y5 P4
          generalize upd H4 pb (.lst [.int z5, .int y5]) = G5 at P5 ⊢
          obtain ⟨dx5, ws5, ep5, er5, hw5⟩ := P5.ob p po
          have lw5 := DpAll.length hw5
          refine ⟨_, _, rfl, rfl, ?_⟩
          have c3 : (i - 1).toNat ≤ 3 := by omega
          have m1 : (D p).length * (i - 1).toNat ≤ 14 * 3 := Nat.mul_le_mul (by omega) c3
          have m2 : szAll (D p) * (i - 1).toNat ≤ 368 * 3 := Nat.mul_le_mul sz1 c3
          have gE : Gd (List.replicate (i - 1).toNat (D p)).flatten := g1.rep (by omega)
          refine ⟨_, rfl, _, rfl, ⟨_, rfl⟩, p, dx5, _, rfl, ep5, p, dx5, R p, ws5, i - 1, D p, W, rfl, ep5, er5, P5.sub, hw5, g1.1, .inl (by omega), by omega, by omega, fun G6 x dx6 r6' ws6 S6 s6 nx hx nr hr6 tr6 rS6 xS6 fr6 => ?_⟩
          obtain ⟨W6, T6, P6, sW6, nxo⟩ := P5.made s6 nx hx nr hr6 tr6 rS6 xS6 fr6
          refine ⟨_, rfl, _, rfl, pp, _, _, k, rfl, rfl, P6.pool, ixN_at (by rw [List.length_map]; omega), ?_⟩
          have P7 := P6.bindP k (List.mem_cons_self)
          generalize upd G6 pp _ = G7 at P7 ⊢
          obtain ⟨us8, el8, hu8⟩ := P7.du p po
          have l1 := DpAll.length hu8
          refine ⟨_, rfl, _, rfl, _, _, rfl, ?_⟩
          have em : (if i - 1 > 0 then i - 1 else 0).toNat = (i - 1).toNat := by split <;> omega
          have e1 : -(2 ^ 63) ≤ (if i - 1 > 0 then i - 1 else 0) ∧ (if i - 1 > 0 then i - 1 else 0) < 2 ^ 63 := by split <;> omega
          generalize (if i - 1 > 0 then i - 1 else 0) = m at em e1 ⊢
          refine ⟨L0 p, m, us8, rfl, rfl, el8, e1.1, e1.2, ?_, fun l9 nl9 => ?_⟩
          · rw [em, l1]
            exact fit (by omega)
          rw [em]
          have s9 : Same G7 (upd G7 l9 (.lst (List.replicate (i - 1).toNat us8).flatten)) := same_upd nl9
          have P9 := P7.up s9
          refine ⟨.ref l9, .list (List.replicate (i - 1).toNat (D p)).flatten, _, rfl, Same.refl _, .lst (SqL.of upd_same) (DpAll.rep (dpAll_same (P7.sub.trans s9) _ _ hu8) _), gE.1, by have := gE.dep; simp only [PyData.depth]; omega, by have := gE.sz'; have := ndAll_sz _ gE.1; simp only [nd]; omega, fun G10 v10 S10 s10 tr10 fr10 => ?_⟩
          obtain ⟨l11, W11, T11, rfl, P11, sW11⟩ := P9.madeL s10 tr10 fr10 nxo
          refine ⟨_, rfl, _, rfl, dd, _, _, k, rfl, rfl, P11.dues, ixN_at (by rw [List.length_map]; omega), ?_⟩
          have P12 := P11.bindD k List.mem_cons_self
          rw [show fw L0 x l11 x = l11 from fw_at] at P12
          exact ⟨_, _, _, _, _, _, _, _, _, _, _, _, rfl, P12, gd.cons gE, sW6.trans sW11, fun p' hp' => List.mem_cons_of_mem _ hp'⟩
        · refine ltF hlt ?_
          refine ⟨_, rfl, rfl, _, rfl, ?_⟩
          refine eqF (by omega) ?_
          refine ⟨_, rfl, rfl, _, rfl, ?_⟩
          refine eqF (by omega) ?_
          refine ⟨_, rfl, ?_⟩
          refine ⟨_, rfl, L0 p, us, rfl, .inl (SqL.of el), _, rfl, L0 p, us, rfl, .inl (SqL.of el), _, rfl, _, _, rfl, rfl, (by show 4 ≤ sizeLine; decide), fun l5 n5 => ?_⟩
          have P5 := P4.up (same_upd (o := .lst [.int (us.length : Nat), .int (-((us.length : Nat) : Int) - 1), .non, .str "0"]) n5)
          have e5 : (upd H4 l5 (.lst [.int (us.length : Nat), .int (-((us.length : Nat) : Int) - 1), .non, .str "0"])) l5 = some (.lst [.int (us.length : Nat), .int (-((us.length : Nat) : Int) - 1), .non, .str "0"]) := upd_same
          have nb5 : l5 ≠ pb := fun z => P4.liv _ _ P4.tb (z ▸ n5)
          generalize upd H4 l5 (.lst [.int (us.length : Nat), .int (-((us.length : Nat) : Int) - 1), .non, .str "0"]) = G5 at P5 e5 ⊢
          refine ⟨_, rfl, pb, 4, rfl, P5.bag, by decide, by decide, fun z5 y5 i hi0 hi1 => ?_⟩
          have P6 := dr z5 y5 P5
          have e6 : (upd G5 pb (.lst [.int z5, .int y5])) l5 = some (.lst [.int (us.length : Nat), .int (-((us.length : Nat) : Int) - 1), .non, .str "0"]) := by rw [upd_ne nb5]; exact e5
          generalize upd G5 pb (.lst [.int z5, .int y5]) = G6 at P6 e6 ⊢
          obtain ⟨u, pl, hat, plain, no⟩ : ∃ u pl, atI [.int (us.length : Nat), .int (-((us.length : Nat) : Int) - 1), .non, .str "0"] i = some u ∧ PlainV u pl ∧ atN us.length pl = none := by
            obtain rfl | rfl | rfl | rfl : i = 0 ∨ i = 1 ∨ i = 2 ∨ i = 3 := by omega
            · refine ⟨_, .int (us.length : Nat), atI_nat (j := 0) rfl, .inr (.inl ⟨_, rfl, rfl⟩), ?_⟩
              show ixN _ _ = none
              unfold ixN
              rw [if_pos (by omega), if_neg (by omega)]
            · refine ⟨_, .int (-((us.length : Nat) : Int) - 1), atI_nat (j := 1) rfl, .inr (.inl ⟨_, rfl, rfl⟩), ?_⟩
              show ixN _ _ = none
              unfold ixN
              rw [if_neg (by omega), if_neg (by omega)]
            · exact ⟨_, .none, atI_nat (j := 2) rfl, .inl ⟨rfl, rfl⟩, rfl⟩
            · exact ⟨_, .str "0", atI_nat (j := 3) rfl, .inr (.inr ⟨_, rfl, rfl⟩), rfl⟩
          obtain ⟨dx6, ws6, ep6, er6, hw6⟩ := P6.ob p po
          have lw6 := DpAll.length hw6
          refine ⟨l5, _, i, u, rfl, rfl, SqL.of e6, hat, ?_⟩
          exact ⟨p, dx6, R p, ws6, D p, u, pl, W, rfl, ep6, er6, P6.sub, hw6, by omega, by omega, plain, by rw [lw6, ← lu]; exact no, fun G7 s7 => q _ _ _ _ _ _ _ _ ((P6.up s7).spoil fun b o _ e => e) gd (Same.refl _) fun _ h => h⟩
      refine eqF h4 ⟨_, rfl, rfl, _, rfl, ?_⟩
      by_cases h5 : pk = 5
      · refine eqT h5 ?_
        refine ⟨_, rfl, _, rfl, pp, _, _, _, rfl, rfl, SqL.of P4.pool, atI_nat (atm hp2), _, rfl, _, rfl, dd, _, _, _, rfl, rfl, SqL.of P4.dues, atI_nat (atm hp2), by show 2 ≤ sizeLine; decide, fun t8 nt8 => ?_⟩
        exact both P4 po2 gd (Same.refl _) (fun _ h => h) nt8 rfl
      refine eqF h5 ⟨_, rfl, rfl, _, rfl, ?_⟩
      by_cases h6 : pk = 6
      · refine eqT h6 ?_
        refine ⟨_, rfl, (by show 0 ≤ sizeLine; decide), fun e5 n5 => ?_⟩
        have s5 : Same H4 (upd H4 e5 (.lst [])) := same_upd n5
        have P5 := P4.up s5
        have f5 : (upd H4 e5 (.lst [])) e5 = some (.lst []) := upd_same
        generalize upd H4 e5 (.lst []) = G5 at s5 P5 f5 ⊢
        obtain ⟨us5, el5, hu5⟩ := P5.du p po
        have lu5 := DpAll.length hu5
        have shp : SeqAt.shaped (.list (D p)) = true := by
          unfold SeqAt.shaped
          have cl : (PyData.list (D p)).canLay0 = true := by simp only [PyData.canLay0, val_canAll2 _ g1.1]
          rw [cl, Bool.true_and]
          have := g1.dep
          exact decide_eq_true (by simp only [PyData.depth]; omega)
        refine ⟨_, _, .lst (SqL.of el5) (dpAll_same P5.sub _ _ hu5), .lst (SqL.of f5) .nil, shp, by decide +kernel, _, rfl, ?_⟩
        have en : PyData.eqv (.list (D p)) (.list []) = (D p).isEmpty := by cases (D p) <;> simp [PyData.eqv, PyData.eqvAll]
        rw [en]
        by_cases hne : D p = []
        · rw [hne]
          refine iteF ?_
          refine ⟨_, rfl, ?_⟩
          refine ⟨_, rfl, L0 p, us5, rfl, .inl (SqL.of el5), _, rfl, L0 p, us5, rfl, .inl (SqL.of el5), _, rfl, _, _, rfl, rfl, (by show 4 ≤ sizeLine; decide), fun l5 n5 => ?_⟩
          have P5q := P5.up (same_upd (o := .lst [.int (us5.length : Nat), .int (-((us5.length : Nat) : Int) - 1), .non, .str "0"]) n5)
          have e5 : (upd G5 l5 (.lst [.int (us5.length : Nat), .int (-((us5.length : Nat) : Int) - 1), .non, .str "0"])) l5 = some (.lst [.int (us5.length : Nat), .int (-((us5.length : Nat) : Int) - 1), .non, .str "0"]) := upd_same
          have nb5 : l5 ≠ pb := fun z => P5.liv _ _ P5.tb (z ▸ n5)
          generalize upd G5 l5 (.lst [.int (us5.length : Nat), .int (-((us5.length : Nat) : Int) - 1), .non, .str "0"]) = G5 at P5q e5 ⊢
          refine ⟨_, rfl, pb, 4, rfl, P5q.bag, by decide, by decide, fun z5 y5 i hi0 hi1 => ?_⟩
          have P6 := dr z5 y5 P5q
          have e6 : (upd G5 pb (.lst [.int z5, .int y5])) l5 = some (.lst [.int (us5.length : Nat), .int (-((us5.length : Nat) : Int) - 1), .non, .str "0"]) := by rw [upd_ne nb5]; exact e5
          generalize upd G5 pb (.lst [.int z5, .int y5]) = G6 at P6 e6 ⊢
          obtain ⟨u, pl, hat, plain, no⟩ : ∃ u pl, atI [.int (us5.length : Nat), .int (-((us5.length : Nat) : Int) - 1), .non, .str "0"] i = some u ∧ PlainV u pl ∧ atN us5.length pl = none := by
            obtain rfl | rfl | rfl | rfl : i = 0 ∨ i = 1 ∨ i = 2 ∨ i = 3 := by omega
            · refine ⟨_, .int (us5.length : Nat), atI_nat (j := 0) rfl, .inr (.inl ⟨_, rfl, rfl⟩), ?_⟩
              show ixN _ _ = none
              unfold ixN
              rw [if_pos (by omega), if_neg (by omega)]
            · refine ⟨_, .int (-((us5.length : Nat) : Int) - 1), atI_nat (j := 1) rfl, .inr (.inl ⟨_, rfl, rfl⟩), ?_⟩
              show ixN _ _ = none
              unfold ixN
              rw [if_neg (by omega), if_neg (by omega)]
            · exact ⟨_, .none, atI_nat (j := 2) rfl, .inl ⟨rfl, rfl⟩, rfl⟩
            · exact ⟨_, .str "0", atI_nat (j := 3) rfl, .inr (.inr ⟨_, rfl, rfl⟩), rfl⟩
          obtain ⟨dx6, ws6, ep6, er6, hw6⟩ := P6.ob p po
          have lw6 := DpAll.length hw6
          refine ⟨l5, _, i, u, rfl, rfl, SqL.of e6, hat, ?_⟩
          exact ⟨p, dx6, R p, ws6, D p, u, pl, W, rfl, ep6, er6, P6.sub, hw6, by omega, by omega, plain, by rw [lw6, ← lu5]; exact no, fun G7 s7 => q _ _ _ _ _ _ _ _ ((P6.up s7).spoil fun b o _ e => e) gd (Same.refl _) fun _ h => h⟩
        have nemp : (D p).isEmpty = false := by
          cases h : D p with
          | nil => exact absurd h hne
          | cons _ _ => rfl
        rw [nemp]
        refine iteT ?_
        have pos : 0 < (D p).length := List.length_pos_iff.mpr hne
        refine ⟨_, rfl, _, rfl, L0 p, us5, rfl, .inl (SqL.of el5), _, _, rfl, rfl, ?_⟩
        refine ⟨.inl ⟨by decide, by decide⟩, pb, 2 * ((us5.length : Nat) : Int), rfl, P5.bag, by omega, by omega, fun z6 y6 i hi0 hi1 => ?_⟩
        have P6 := dr z6 y6 P5
        generalize upd G5 pb (.lst [.int z6, .int y6]) = G6 at P6 ⊢
        obtain ⟨us6, el6, hu6⟩ := P6.du p po
        obtain ⟨dx6, ws6, ep6, er6, hw6⟩ := P6.ob p po
        have lu6 := DpAll.length hu6
        have lw6 := DpAll.length hw6
        refine ⟨_, rfl, L0 p, us6, rfl, .inl (SqL.of el6), _, _, rfl, rfl, ?_⟩
        have nos : ¬ (("set_entry" : Str) = "_rows") := by decide +kernel
        obtain ⟨jx, hjx⟩ := ixN_in.mp (show -((ws6.length : Nat) : Int) ≤ i - ((us6.length : Nat) : Int) ∧ i - ((us6.length : Nat) : Int) < ((ws6.length : Nat) : Int) from ⟨by omega, by omega⟩)
        refine ⟨_, rfl, p, dx6, _, rfl, ep6, rows_no _ nos, _, rfl, _, rfl, p, dx6, R p, ws6, .int (i - ((us6.length : Nat) : Int)), v, .int (i - ((us6.length : Nat) : Int)), d, G6, rfl, ep6, er6, by omega, Same.refl _, .int _, by simp [nd], dp_same P6.js _ _ dpv, vd, by omega, fun j' hj' G7 w7 S7 k7 hr7 tr7 rS7 fr7 => ?_, fun z => ?_⟩
        · have ej : j' = jx := by
            have h1 : ixN ws6.length (i - ((us6.length : Nat) : Int)) = some j' := hj'
            rw [hjx] at h1
            exact (Option.some.inj h1).symm
          subst ej
          have gE : Gd ((D p).set j' d) := g1.set vd sz0 (by omega)
          obtain ⟨W7, T7, P7, sW7⟩ := P6.setR po ep6 k7 hr7 tr7 rS7 fr7 fun W' s h => DpAll.set j' (dpAll_same s _ _ hw6) h
          refine ⟨_, rfl, v, d, J, rfl, P7.js, dpv, vd, by omega, by have := nd_sz d vd; omega, fun G8 v8 S8 s8 tr8 fr8 => ?_⟩
          obtain ⟨P8, sW8, tD8, _⟩ := P7.news s8 fr8
          obtain ⟨us8, el8, hu8⟩ := P8.du p po
          have lu8 := DpAll.length hu8
          refine ⟨_, rfl, _, rfl, L0 p, us8, _, j', rfl, rfl, el8, by rw [lu8, ← lw6]; exact hjx, ?_⟩
          exact ⟨_, _, ns, os, _, L0, _, _, _, _, _, _, rfl, P8.due po (DpAll.set j' hu8 (tD8 _ _ tr8)), gd.set gE, sW7.trans sW8, fun _ h => h⟩
        · have h1 : ixN ws6.length (i - ((us6.length : Nat) : Int)) = none := z
          rw [hjx] at h1
          cases h1
      refine eqF h6 ?_
      refine ⟨_, rfl, ?_⟩
      refine ⟨_, rfl, L0 p, us, rfl, .inl (SqL.of el), _, rfl, L0 p, us, rfl, .inl (SqL.of el), _, rfl, _, _, rfl, rfl, (by show 4 ≤ sizeLine; decide), fun l5 n5 => ?_⟩
      have P5 := P4.up (same_upd (o := .lst [.int (us.length : Nat), .int (-((us.length : Nat) : Int) - 1), .non, .str "0"]) n5)
      have e5 : (upd H4 l5 (.lst [.int (us.length : Nat), .int (-((us.length : Nat) : Int) - 1), .non, .str "0"])) l5 = some (.lst [.int (us.length : Nat), .int (-((us.length : Nat) : Int) - 1), .non, .str "0"]) := upd_same
      have nb5 : l5 ≠ pb := fun z => P4.liv _ _ P4.tb (z ▸ n5)
      generalize upd H4 l5 (.lst [.int (us.length : Nat), .int (-((us.length : Nat) : Int) - 1), .non, .str "0"]) = G5 at P5 e5 ⊢
      refine ⟨_, rfl, pb, 4, rfl, P5.bag, by decide, by decide, fun z5 y5 i hi0 hi1 => ?_⟩
      have P6 := dr z5 y5 P5
      have e6 : (upd G5 pb (.lst [.int z5, .int y5])) l5 = some (.lst [.int (us.length : Nat), .int (-((us.length : Nat) : Int) - 1), .non, .str "0"]) := by rw [upd_ne nb5]; exact e5
      generalize upd G5 pb (.lst [.int z5, .int y5]) = G6 at P6 e6 ⊢
      obtain ⟨u, pl, hat, plain, no⟩ : ∃ u pl, atI [.int (us.length : Nat), .int (-((us.length : Nat) : Int) - 1), .non, .str "0"] i = some u ∧ PlainV u pl ∧ atN us.length pl = none := by
        obtain rfl | rfl | rfl | rfl : i = 0 ∨ i = 1 ∨ i = 2 ∨ i = 3 := by omega
        · refine ⟨_, .int (us.length : Nat), atI_nat (j := 0) rfl, .inr (.inl ⟨_, rfl, rfl⟩), ?_⟩
          show ixN _ _ = none
          unfold ixN
          rw [if_pos (by omega), if_neg (by omega)]
        · refine ⟨_, .int (-((us.length : Nat) : Int) - 1), atI_nat (j := 1) rfl, .inr (.inl ⟨_, rfl, rfl⟩), ?_⟩
          show ixN _ _ = none
          unfold ixN
          rw [if_neg (by omega), if_neg (by omega)]
        · exact ⟨_, .none, atI_nat (j := 2) rfl, .inl ⟨rfl, rfl⟩, rfl⟩
        · exact ⟨_, .str "0", atI_nat (j := 3) rfl, .inr (.inr ⟨_, rfl, rfl⟩), rfl⟩
      obtain ⟨dx6, ws6, ep6, er6, hw6⟩ := P6.ob p po
      have lw6 := DpAll.length hw6
      refine ⟨l5, _, i, u, rfl, rfl, SqL.of e6, hat, ?_⟩
      exact ⟨p, dx6, R p, ws6, D p, u, pl, W, rfl, ep6, er6, P6.sub, hw6, by omega, by omega, plain, by rw [lw6, ← lu]; exact no, fun G7 s7 => q _ _ _ _ _ _ _ _ ((P6.up s7).spoil fun b o _ e => e) gd (Same.refl _) fun _ h => h⟩
    · rintro σ' G' ⟨W', T', ns', os', R', L', D', z7, z8, z9, z10, z11, rfl, PN, gn, sW, sub⟩
      refine ⟨_, rfl, v, d, J, 0, rfl, hv, by omega, Ext.zero PN.js, ?_, ?_, fun G2 off ex gr => q W' G2 T' ns' os' R' L' D' (PN.spoil off) gn sW sub⟩
      · have := nl_nd d
        have := nd_sz d vd
        omega
      · have := nd_sz d vd
        omega
end
end TX
namespace TX
open PySem PySem.Spec PyProof.Rows L2
/-! ### Entries.of -/
section
variable {X : Cx} {CX : CXT} {C f : Addr} {k : Nat} {fd : FuncData} {ps : List Str} {sp : Sp} {E : XK} {ds dvs : List V} {us0 : List Value}
/-- C(..), C held by a name of the def -/
def tMakeV (i : Nat) (C : Addr) (sp : Sp) (E : XK) (t : TA) : TE := fun σ H Q => σ[i]? = some (some (.ref C)) ∧ t σ H fun vs H1 => ∀ x dx, H1 x = none → H1 dx = none → dx ≠ x → sp (.ref x :: (vs ++ [])) (upd (upd H1 dx (.own x)) x (.ins C dx [])) (fun v H2 => v = .non ∧ Q (.ref x) H2) E
theorem pe_makeV {i : Nat} {x : Str} {p pos : Pos} {e : Expr} {es : List Expr} {t : TA} (M : Mk X.K C f) (F : FnOk X.prog X.w X.K X.mg X.base CX k f fd ps sp) (hr : Room (k + 1) X.A) (hN : X.N[i]? = some x) (hv : Vis X.env.scope x) (hb : Binds X.K fd ps []) (hx : Passes CX X E) (ha : PA X (e :: es) t)
    (hd : (x == ("__debug__" : Str)) = false := by decide) (hcd : (x == ("__classdict__" : Str)) = false := by decide)
    (he : starEach (e :: es) X.env = (false, eval e X.env) :: starEach es X.env := by rfl) (hpl : (backTo pos (starEach es X.env)).any (·.1) = false := by rfl) :
    PE X (.Call (.Name x p) (e :: es) [] pos) (tMakeV i C sp E t) := by
  refine ⟨fun pins s σ H Q I h => ?_⟩
  obtain ⟨hs, ht⟩ := h
  refine wpAny_Call_Name_kw (thn ((pe_var (pos := p) hN hv hd hcd).run pins s σ H (fun v H1 => v = .ref C ∧ H1 = H) I ⟨.ref C, hs, rfl, rfl⟩) fun u s1 ⟨v, H1, I1, r1, q1⟩ => ?_)
  obtain ⟨rfl, rfl⟩ := q1
  cases r1
  refine PySem.W.callWith_K (h₀ := X.base) I.ok.mod.kin M.kp (thn (ha.run pos pins s1 σ _ _ I1 ht) fun us s2 ⟨vs, H2, I2, r, q⟩ => ⟨I2.kIn, ?_⟩) he hpl
  exact run_make M F hr hb .nil hx I2 r q
end
theorem NewE.up {C : Addr} {H G : Hp} {ds : List PyData} {Q : VK} (q : NewE C H ds Q) (s : Same H G) : NewE C G ds Q :=
  fun H' x dx r us S s1 nx hx nr hr tr rS xS fr => q H' x dx r us S (s.trans s1) (s.free nx) hx (s.free nr) hr tr rS xS fun b hb => s.free (fr b hb)
def spOfB (K : PySem.W.Frag) (C : Addr) : Sp := fun vs H Q _ => ∃ (t : Addr) (us : List V) (es : List PyData) (Hv : Hp), vs = [.ref C, .ref t] ∧ H t = some (.tup us) ∧ Same Hv H ∧ DpAll K Hv us es ∧ valAll es ∧ szAll es ≤ 4000 ∧ us.length ≤ 10 ∧ NewE C H es Q
def spOf (K : PySem.W.Frag) (C : Addr) : Sp := fun vs H Q E => ∃ ws rest, vs = ws ++ rest ∧ ws.length = (["cls"] : List Str).length ∧ rest.length ≤ sizeLine ∧ ∀ p, H p = none → spOfB K C (ws ++ [V.ref p]) (upd H p (.tup rest)) Q E
section
variable {P : Program} {w : World} {K : PySem.W.Frag} {mg : Str → Option Value} {base : Heap} {C : Addr}
theorem scOf : FnScope ["cls", "values"] ((["cls"] : List Str) ++ (["values"] : List Str)) (defScope mEntries_of) := ⟨rfl, rfl, rfl, by decide +kernel, rfl, by decide +kernel, by decide +kernel⟩
theorem ok_of {f fI : Addr} {fd dI : FuncData} (F : Fun K "of" "Entries.of" mEntries_of f fd) (T : Nm mg) (M : Mk K C fI) (GI : FnOk P w K mg base CX0 4 fI dI ["self", "value"] (spInit K C)) (bI : Binds K dI ["self", "value"] []) :
    FnR P w K mg base CX0 6 f (spOf K C) := by
  obtain ⟨oc, od, kV, doc, pm, an, cdv, ct, osl, rfl, lk, hcd⟩ := F.ex
  refine StX.fn_star (k := 5) (ps := ["cls"]) (pv := "values") lk hcd scOf StX.cxUp_none (StX.bind_star1 (B := fun l => bindArgs _ ⟨l, []⟩) (fun a => rfl) (fun a r rs => rfl)) fun A outer s H vs Q E hr h => ?_
  obtain ⟨t, us, es, Hv, rfl, ht, sv, hw, ve, hz, hl, q⟩ := h
  refine ⟨_, pss_one (ps_ret (pe_makeV (i := 0) (E := E0) M GI hr rfl (.inl rfl) bI pass0 (pa_cons (pe_callTy call_list_of (by rfl) T.lst (by decide +kernel) (pa_cons (pv 1) pa_nil)) pa_nil))), ?_⟩
  refine ⟨rfl, _, rfl, t, us, rfl, .inr (SqT.of ht), fun l nl => ?_⟩
  have s1 : Same H (upd H l (.lst us)) := same_upd nl
  exact mk_ent (d := .list es) (Same.refl _) (.lst (SqL.of upd_same) (dpAll_same (sv.trans s1) _ _ hw)) ve (by simp only [sz]; omega) fun H' x dx r us' S sm nx hx nr hr2 tr nS xS fr => (q.up s1) H' x dx r us' S sm nx hx nr hr2 tr nS xS fr
end
/-! ### equal data -/
mutual
theorem val_eqv : ∀ (a b : PyData), valD a → valD b → (PyData.eqv a b = true ↔ a = b)
  | .none, .none, _, _ => by simp [PyData.eqv]
  | .str x, .str y, _, _ => by simp [PyData.eqv]
  | .list xs, .list ys, ha, hb => by
    simp only [PyData.eqv, PyData.list.injEq]
    exact val_eqvAll xs ys ha hb
  | .none, .str _, _, _ => by simp [PyData.eqv]
  | .none, .list _, _, _ => by simp [PyData.eqv]
  | .str _, .none, _, _ => by simp [PyData.eqv]
  | .str _, .list _, _, _ => by simp [PyData.eqv]
  | .list _, .none, _, _ => by simp [PyData.eqv]
  | .list _, .str _, _, _ => by simp [PyData.eqv]
  | .bool _, _, h, _ => h.elim
  | .int _, _, h, _ => h.elim
  | .tuple _, _, h, _ => h.elim
  | .dict _, _, h, _ => h.elim
  | _, .bool _, _, h => h.elim
  | _, .int _, _, h => h.elim
  | _, .tuple _, _, h => h.elim
  | _, .dict _, _, h => h.elim
theorem val_eqvAll : ∀ (as bs : List PyData), valAll as → valAll bs → (PyData.eqvAll as bs = true ↔ as = bs)
  | [], [], _, _ => by simp [PyData.eqvAll]
  | [], _ :: _, _, _ => by simp [PyData.eqvAll]
  | _ :: _, [], _, _ => by simp [PyData.eqvAll]
  | a :: as, b :: bs, ha, hb => by
    simp only [PyData.eqvAll, Bool.and_eq_true, List.cons.injEq, val_eqv a b ha.1 hb.1, val_eqvAll as bs ha.2 hb.2]
end
/-! ### the first names -/
/-- as the pool, ahead of the names -/
structure P0 (K : PySem.W.Frag) (C pb : Addr) (W G : Hp) (T : Tags) (os ls : List Addr) (R L : Addr → Addr) (D E : Addr → List PyData) : Prop where
  sub : Same W G
  off : ∀ b t, T b = some t → W b = none
  liv : ∀ b t, T b = some t → G b ≠ none
  tb : T pb = some (0, pb)
  bag : BagAt G pb
  to : ∀ p ∈ os, T p = some (5, p)
  tR : ∀ p ∈ os, T (R p) = some (3, p)
  tL : ∀ p ∈ ls, T (L p) = some (4, p)
  ob : ∀ p ∈ os, ∃ dx ws, G p = some (.ins C dx (rowsF (R p))) ∧ G (R p) = some (.lst ws) ∧ DpAll K W ws (D p)
  du : ∀ p ∈ ls, ∃ us, G (L p) = some (.lst us) ∧ DpAll K W us (E p)
def Kt (T T' : Tags) : Prop := ∀ b t, T b = some t → T' b = some t
theorem Kt.tag {T : Tags} {a : Addr} {t : Nat × Addr} (n : T a = none) : Kt T (tagW T a t) := fun b u e => by
  rw [tagW_ne (tag_fresh e n)]
  exact e
theorem Kt.trans {T T' T'' : Tags} (h : Kt T T') (k : Kt T' T'') : Kt T T'' := fun b t e => k b t (h b t e)
section
variable {K : PySem.W.Frag} {C pb : Addr} {W G : Hp} {T : Tags} {os ls : List Addr} {R L : Addr → Addr} {D E : Addr → List PyData}
theorem tag_inv {a b : Addr} {s t : Nat × Addr} (e : tagW T a s b = some t) : T b = some t ∨ b = a := by
  by_cases h : b = a
  · exact .inr h
  · rw [tagW_ne h] at e
    exact .inl e
theorem P0.first (bg : BagAt G pb) : P0 K C pb (del G pb) G (tagW (fun _ => none) pb (0, pb)) [] [] R L D E := by
  have inv : ∀ {b : Addr} {t : Nat × Addr}, tagW (fun _ => none) pb (0, pb) b = some t → b = pb := fun e => (tag_inv e).elim (fun z => nomatch z) id
  refine ⟨del_same', fun b t e => ?_, fun b t e => ?_, tagW_at, bg, (fun p z => nomatch z), (fun p z => nomatch z), (fun p z => nomatch z), (fun p z => nomatch z), (fun p z => nomatch z)⟩
  · rw [inv e]
    exact del_same
  · rw [inv e]
    obtain ⟨x, y, e⟩ := bg
    rw [e]
    exact fun z => nomatch z
theorem P0.fresh (h : P0 K C pb W G T os ls R L D E) {b : Addr} (e : G b = none) : T b = none := by
  cases ht : T b with
  | none => rfl
  | some t => exact absurd e (h.liv b t ht)
theorem P0.up {G' : Hp} (h : P0 K C pb W G T os ls R L D E) (s : Same G G') : P0 K C pb W G' T os ls R L D E := by
  refine ⟨h.sub.trans s, h.off, fun b t ht z => h.liv b t ht (s.free z), h.tb, bag_same h.bag s, h.to, h.tR, h.tL, fun p hp => ?_, fun p hp => ?_⟩
  · obtain ⟨dx, ws, e1, e2, e3⟩ := h.ob p hp
    exact ⟨dx, ws, s _ _ e1, s _ _ e2, e3⟩
  · obtain ⟨us, e1, e2⟩ := h.du p hp
    exact ⟨us, s _ _ e1, e2⟩
theorem P0.mark {a : Addr} {o : HO} {t : Nat × Addr} (h : P0 K C pb W G T os ls R L D E) (n : G a = none) : P0 K C pb W (upd G a o) (tagW T a t) os ls R L D E ∧ Kt T (tagW T a t) := by
  have tn := h.fresh n
  have kt : Kt T (tagW T a t) := Kt.tag tn
  have g := h.up (same_upd (o := o) n)
  refine ⟨⟨g.sub, fun b u e => ?_, fun b u e => ?_, kt _ _ h.tb, g.bag, fun p hp => kt _ _ (h.to p hp), fun p hp => kt _ _ (h.tR p hp), fun p hp => kt _ _ (h.tL p hp), g.ob, g.du⟩, kt⟩
  · rcases tag_inv e with e | rfl
    · exact h.off b u e
    · exact h.sub.free n
  · rcases tag_inv e with e | rfl
    · exact g.liv b u e
    · rw [upd_same]
      exact fun z => nomatch z
theorem P0.made {G' : Hp} {x r dx : Addr} {ws : List V} {ds : List PyData} {S : List Addr} (h : P0 K C pb W G T os ls R L D E) (s : Same G G') (nx : G x = none) (hx : G' x = some (.ins C dx (rowsF r))) (nr : G r = none) (hr : G' r = some (.lst ws)) (tr : TrAll G' ws ds S) (rS : r ∉ S) (xS : x ∉ S) (fr : ∀ b ∈ S, G b = none) :
    ∃ W' T', P0 K C pb W' G' T' (x :: os) ls (fw R x r) L (fw D x ds) E ∧ Same W W' ∧ Kt T T' ∧ x ∉ os := by
  have g := h.up s
  have hn : ∀ b ∈ S, W b = none := fun b hb => h.sub.free (fr b hb)
  have tx := h.fresh nx
  have trr := h.fresh nr
  have xr : x ≠ r := fun z => by
    rw [z, hr] at hx
    cases hx
  have k1 : Kt T (tagW (tagW T x (5, x)) r (3, x)) := (Kt.tag tx).trans (Kt.tag (by rw [tagW_ne xr.symm]; exact trr))
  have sW : Same W (exS W S G') := exS_old
  have sub : Same (exS W S G') G' := fun b o e => by
    rcases exS_some e with e | ⟨_, e⟩
    · exact g.sub _ _ e
    · exact e
  have inv : ∀ {b : Addr} {t : Nat × Addr}, tagW (tagW T x (5, x)) r (3, x) b = some t → T b = some t ∨ b = x ∨ b = r := fun e => by
    rcases tag_inv e with e | e
    · rcases tag_inv e with e | e
      · exact .inl e
      · exact .inr (.inl e)
    · exact .inr (.inr e)
  have ne : ∀ {p : Addr}, p ∈ os → p ≠ x := fun hp => tag_fresh (h.to _ hp) tx
  refine ⟨exS W S G', _, ⟨sub, fun b t e => ?_, fun b t e => ?_, k1 _ _ h.tb, g.bag, fun p hp => ?_, fun p hp => ?_, fun p hp => k1 _ _ (h.tL p hp), fun p hp => ?_, fun p hp => ?_⟩, sW, k1, fun z => h.liv x _ (h.to x z) nx⟩
  · rcases inv e with e | rfl | rfl
    · exact exS_no (h.off b t e) fun hb => h.liv b t e (fr b hb)
    · exact exS_no (h.sub.free nx) xS
    · exact exS_no (h.sub.free nr) rS
  · rcases inv e with e | rfl | rfl
    · exact g.liv b t e
    · rw [hx]; exact fun z => nomatch z
    · rw [hr]; exact fun z => nomatch z
  · rcases List.mem_cons.mp hp with e | e
    · rw [e, tagW_ne xr, tagW_at]
    · exact k1 _ _ (h.to p e)
  · rcases List.mem_cons.mp hp with e | e
    · rw [e, fw_at, tagW_at]
    · rw [fw_ne (ne e)]
      exact k1 _ _ (h.tR p e)
  · rcases List.mem_cons.mp hp with e | e
    · rw [e, fw_at, fw_at]
      exact ⟨dx, ws, hx, hr, TrAll.dp (TrAll.frame tr fun b hb o e => exS_in (hn b hb) hb e)⟩
    · rw [fw_ne (ne e), fw_ne (ne e)]
      obtain ⟨dx, ws, e1, e2, e3⟩ := g.ob p e
      exact ⟨dx, ws, e1, e2, dpAll_same sW _ _ e3⟩
  · obtain ⟨us, e1, e2⟩ := g.du p hp
    exact ⟨us, e1, dpAll_same sW _ _ e2⟩
theorem P0.madeL {G' : Hp} {x l : Addr} {us : List V} {es : List PyData} {S : List Addr} (h : P0 K C pb W G T os ls R L D E) (s : Same G G') (nl : G l = none) (hl : G' l = some (.lst us)) (tr : TrAll G' us es S) (lS : l ∉ S) (fr : ∀ b ∈ S, G b = none) (nx : x ∉ ls) :
    ∃ W' T', P0 K C pb W' G' T' os (x :: ls) R (fw L x l) D (fw E x es) ∧ Same W W' ∧ Kt T T' := by
  have g := h.up s
  have hn : ∀ b ∈ S, W b = none := fun b hb => h.sub.free (fr b hb)
  have tl := h.fresh nl
  have k1 : Kt T (tagW T l (4, x)) := Kt.tag tl
  have sW : Same W (exS W S G') := exS_old
  have sub : Same (exS W S G') G' := fun b o e => by
    rcases exS_some e with e | ⟨_, e⟩
    · exact g.sub _ _ e
    · exact e
  have ne : ∀ {p : Addr}, p ∈ ls → p ≠ x := fun hp z => nx (z ▸ hp)
  refine ⟨exS W S G', _, ⟨sub, fun b t e => ?_, fun b t e => ?_, k1 _ _ h.tb, g.bag, fun p hp => k1 _ _ (h.to p hp), fun p hp => k1 _ _ (h.tR p hp), fun p hp => ?_, fun p hp => ?_, fun p hp => ?_⟩, sW, k1⟩
  · rcases tag_inv e with e | rfl
    · exact exS_no (h.off b t e) fun hb => h.liv b t e (fr b hb)
    · exact exS_no (h.sub.free nl) lS
  · rcases tag_inv e with e | rfl
    · exact g.liv b t e
    · rw [hl]; exact fun z => nomatch z
  · rcases List.mem_cons.mp hp with e | e
    · rw [e, fw_at, tagW_at]
    · rw [fw_ne (ne e)]
      exact k1 _ _ (h.tL p e)
  · obtain ⟨dx, ws, e1, e2, e3⟩ := g.ob p hp
    exact ⟨dx, ws, e1, e2, dpAll_same sW _ _ e3⟩
  · rcases List.mem_cons.mp hp with e | e
    · rw [e, fw_at, fw_at]
      exact ⟨us, hl, TrAll.dp (TrAll.frame tr fun b hb o e => exS_in (hn b hb) hb e)⟩
    · rw [fw_ne (ne e), fw_ne (ne e)]
      obtain ⟨us, e1, e2⟩ := g.du p e
      exact ⟨us, e1, dpAll_same sW _ _ e2⟩
theorem P0.pool {pp dd : Addr} {ns : List Addr} (h : P0 K C pb W G T os ls R L D E) (tp : T pp = some (1, pb)) (td : T dd = some (2, pb)) (len : ns.length = 4) (pool : G pp = some (.lst (ns.map V.ref))) (dues : G dd = some (.lst (ns.map fun p => V.ref (L p)))) (nsub : ∀ p ∈ ns, p ∈ os) (msub : ∀ p ∈ ns, p ∈ ls) :
    Pl K C pb pp dd (fun _ => none) W G T ns ns os ls R L D E :=
  ⟨h.sub, h.off, h.liv, fun b o e => (nomatch e), fun _ _ _ => rfl, fun _ _ _ => rfl, h.tb, tp, td, h.bag, len, len, pool, dues, nsub, msub, h.to, h.tR, h.tL, h.ob, h.du⟩
end
end TX
namespace TX
open PySem PySem.Spec PyProof.Rows L2
structure Mz (mg : Str → Option Value) : Prop where
  max : mg "max" = none
  zip : mg "zip" = none
def spLaw (K : PySem.W.Frag) : Sp := fun vs H Q _ => ∃ (a : Addr) (ns : List Int), vs = [.ref a] ∧ SqL K H a (ns.map V.int) ∧ ns.length ≤ 63 ∧ ∀ H', Q (.bl true) H'
/-- what the law calls -/
structure Lc (P : Program) (w : World) (K : PySem.W.Frag) (mg : Str → Option Value) (base : Heap) (C a1 a2 a3 a4 i1 i2 i3 i4 p5 i5 : Addr) (mc : Value) (d1 d2 d3 d4 e1 e2 e3 e4 : FuncData) : Prop where
  G1 : FnOk P w K mg base CX0 1 a1 d1 ["_law_script", "_law_at"] (spBag K)
  G2 : FnOk P w K mg base CX0 1 a2 d2 ["_law_bag_here", "_law_many"] spTake
  G3 : FnOk P w K mg base CX0 9 a3 d3 ["_law_bag_here", "_law_pool", "_law_dues"] (spStep K C)
  G4 : FnG P w K mg base CX0 9 a4 d4 ["_law_one", "_law_due"] (spRight K C)
  b1 : Binds K d1 ["_law_script", "_law_at"] []
  b2 : Binds K d2 ["_law_bag_here", "_law_many"] []
  b3 : Binds K d3 ["_law_bag_here", "_law_pool", "_law_dues"] []
  b4 : Binds K d4 ["_law_one", "_law_due"] []
  g1 : mg "_law_bag" = some (.ref a1)
  g2 : mg "_law_take" = some (.ref a2)
  g3 : mg "_law_step" = some (.ref a3)
  g4 : mg "_law_is_right" = some (.ref a4)
  k1 : PySem.W.keepIn K (.ref a1) = true
  k2 : PySem.W.keepIn K (.ref a2) = true
  k3 : PySem.W.keepIn K (.ref a3) = true
  k4 : PySem.W.keepIn K (.ref a4) = true
  M : Mk K C i1
  I1 : FnOk P w K mg base CX0 4 i1 e1 ["self", "value"] (spInit K C)
  c1 : Binds K e1 ["self", "value"] []
  I2 : FnOk P w K mg base CX0 3 i2 e2 ["self"] (spListed K C)
  c2 : Binds K e2 ["self"] []
  m2 : Meth K C "listed" i2
  I3 : FnOk P w K mg base CX0 1 i3 e3 ["self"] (spLen C)
  c3 : Binds K e3 ["self"] []
  m3 : Meth K C "__len__" i3
  I4 : FnOk P w K mg base CX0 3 i4 e4 ["self", "other"] (spEqG K C)
  c4 : Binds K e4 ["self", "other"] []
  m4 : Meth K C "__eq__" i4
  r : ClX.CRead K C mc
  c5 : ClX.CMet K C mc "of" p5 i5
  I5 : FnR P w K mg base CX0 6 i5 (spOf K C)
section
variable {P : Program} {w : World} {K : PySem.W.Frag} {mg : Str → Option Value} {base : Heap} {C : Addr}
theorem scLaw : FnScope ["_law_script", "_law_at", "_law_bag_here", "_law_pool", "_law_dues", "_law_turn", "_law_held", "_law_told", "_law_text_here", "_law_one", "_law_due", "_law_other", "_law_beside"] ["_law_script"] (defScope sLaw) := ⟨rfl, rfl, rfl, by decide +kernel, rfl, by decide +kernel, by decide +kernel⟩
theorem ok_law {f a1 a2 a3 a4 i1 i2 i3 i4 p5 i5 : Addr} {mc : Value} {fd d1 d2 d3 d4 e1 e2 e3 e4 : FuncData} (F : Fun K "law" "law" sLaw f fd) (M : Mr mg) (Z : Mz mg) (B : Nb mg) (Y : Nv mg) (T : En K mg C) (L : Lc P w K mg base C a1 a2 a3 a4 i1 i2 i3 i4 p5 i5 mc d1 d2 d3 d4 e1 e2 e3 e4) :
    FnG P w K mg base CX0 10 f fd ["_law_script"] (spLaw K) := by
  refine fng_of F scLaw (fun vs H Q E h => ?_) (fun cdv A outer s H vs Q E hgd hr h => ?_)
  · obtain ⟨a, ns, rfl, _⟩ := h
    rfl
  · obtain ⟨a0, ns0, rfl, hS, hn, q⟩ := h
    have hu := hr.units
    have r1 : Room 1 _ := hr.mono (by decide)
    have r2 : Room 2 _ := hr.mono (by decide)
    have r3 : Room 3 _ := hr.mono (by decide)
    have r5 : Room 5 _ := hr.mono (by decide)
    have r6 : Room 6 _ := hr.mono (by decide)
    refine ⟨_, pss_cons (ps_for PassesOwn.never rfl (pi_range1 (by rfl) Y.range (pa_cons (pe_callB (call_max2 rfl) (by rfl) Z.max (by decide +kernel) (pa_cons pe_int (pa_cons (pe_callB (call_min2 rfl) (by rfl) Y.min (by decide +kernel) (pa_cons pe_int (pa_cons (pe_callB call_len_seq (by rfl) B.len PySem.boot_len (pa_cons (pv 0) pa_nil)) pa_nil))) pa_nil))) pa_nil))
        (pg_name (i := 1) scLaw.nd rfl (.inl rfl)) (
        pss_cons (ps_set (i := 2) scLaw.nd rfl (.inl rfl) (pe_call L.G1 r1 (by rfl) L.g1 L.k1 L.b1 .nil pass0 (pa_cons (pv 0) (pa_cons (pv 1) pa_nil)))) <|
        pss_cons (ps_set (i := 3) scLaw.nd rfl (.inl rfl) (pe_lst (pa_cons (pe_make L.M L.I1 r5 (by rfl) T.mgC L.c1 .nil pass0 (pa_cons pe_non pa_nil)) (pa_cons (pe_make L.M L.I1 r5 (by rfl) T.mgC L.c1 .nil pass0 (pa_cons pe_str pa_nil)) (pa_cons (pe_make L.M L.I1 r5 (by rfl) T.mgC L.c1 .nil pass0 (pa_cons (pe_lst (pa_cons pe_str (pa_cons pe_non pa_nil))) pa_nil))
          (pa_cons (ClX.pe_cmeth (E := E0) (pe_glob (v := .ref C) (by rfl) T.mgC rfl) L.r L.c5 L.I5 r6 pass0 (pa_cons (pe_lst pa_nil) pa_nil)) pa_nil)))))) <|
        C8.pss_cut (ps_set (i := 4) scLaw.nd rfl (.inl rfl) (pe_lst (pa_cons (pe_lst pa_nil) (pa_cons (pe_lst (pa_cons pe_str pa_nil)) (pa_cons (pe_lst (pa_cons pe_str (pa_cons pe_non pa_nil))) (pa_cons (pe_lst (pa_cons (pe_lst pa_nil) pa_nil)) pa_nil)))))) <|
        pss_cons (ps_for PassesOwn.never rfl (pi_range1 (by rfl) Y.range (pa_cons (pe_op op_add pe_int (pe_call L.G2 r1 (by rfl) L.g2 L.k2 L.b2 .nil pass0 (pa_cons (pv 2) (pa_cons pe_int pa_nil)))) pa_nil)) (pg_name (i := 5) scLaw.nd rfl (.inl rfl)) (
          pss_cons (ps_set (i := 6) scLaw.nd rfl (.inl rfl) (pe_ix ix_list (pv 3) (pe_call L.G2 r1 (by rfl) L.g2 L.k2 L.b2 .nil pass0 (pa_cons (pv 2) (pa_cons pe_int pa_nil))) (fun _ _ => rfl))) <|
          pss_cons (ps_set (i := 7) scLaw.nd rfl (.inl rfl) (pe_meth0 (pv 6) T.cl L.m2 L.I2 r3 L.c2 .nil pass0)) <|
          pss_cons (ps_set (i := 8) scLaw.nd rfl (.inl rfl) (pe_callB (call_repr hgd hu) (by rfl) M.repr (by decide +kernel) (pa_cons (pv 7) pa_nil))) <|
          pss_cons (ps_if (pt_not (pt_val (pe_call L.G3 hr (by rfl) L.g3 L.k3 L.b3 .nil pass0 (pa_cons (pv 2) (pa_cons (pv 3) (pa_cons (pv 4) pa_nil)))))) (pss_one (ps_ret pe_bl)) pss_nil) <|
          pss_cons (ps_if (PW.pt (pw_or (pt_cmpR op_ne (pe_callB call_len_seq (by rfl) B.len PySem.boot_len (pa_cons (pe_meth0 (pv 6) T.cl L.m2 L.I2 r3 L.c2 .nil pass0) pa_nil)) (pe_callB (call_lenO (E := E0) L.m3 L.I3 r2 L.c3 pass0) (by rfl) B.len PySem.boot_len (pa_cons (pv 6) pa_nil)) (nomark _))
            (pw_or1 (pt_cmpR op_ne (pe_callB (call_repr hgd hu) (by rfl) M.repr (by decide +kernel) (pa_cons (pv 7) pa_nil)) (pv 8) (nomark _))))) (pss_one (ps_ret pe_bl)) pss_nil) <|
          pss_one (ps_for PassesOwn.never rfl (pi_zip (by rfl) Z.zip (pa_cons (pv 3) (pa_cons (pv 4) pa_nil))) (pg_tup rfl (pgs_cons (pg_name (i := 9) scLaw.nd rfl (.inl rfl)) (pgs_cons (pg_name (i := 10) scLaw.nd rfl (.inl rfl)) pgs_nil)))
            (pss_one (ps_if (pt_not (pt_val (pe_callG L.G4 hgd hr (by rfl) L.g4 L.k4 L.b4 .nil pass0 (pa_cons (pv 9) (pa_cons (pv 10) pa_nil))))) (pss_one (ps_ret pe_bl)) pss_nil))))) <|
        pss_one (ps_for PassesOwn.never rfl (pi_zip (by rfl) Z.zip (pa_cons (pv 3) (pa_cons (pv 4) pa_nil))) (pg_tup rfl (pgs_cons (pg_name (i := 9) scLaw.nd rfl (.inl rfl)) (pgs_cons (pg_name (i := 10) scLaw.nd rfl (.inl rfl)) pgs_nil)))
          (pss_one (ps_for PassesOwn.never rfl (pi_zip (by rfl) Z.zip (pa_cons (pv 3) (pa_cons (pv 4) pa_nil))) (pg_tup rfl (pgs_cons (pg_name (i := 11) scLaw.nd rfl (.inl rfl)) (pgs_cons (pg_name (i := 12) scLaw.nd rfl (.inl rfl)) pgs_nil)))
            (pss_one (ps_if (pt_cmpR op_ne (pe_cmpR (op_eq_own (E := E0) L.m4 L.I4 r3 L.c4 pass0) (pv 9) (pv 11) (nomark _)) (pe_cmpR (op_eqD hu) (pv 10) (pv 12) (nomark _)) (nomark _)) (pss_one (ps_ret pe_bl)) pss_nil))))))) <|
      pss_one (ps_ret pe_bl), ?_⟩
    have fit : ∀ {n : Nat}, n ≤ 20000 → n ≤ sizeLine := fun h => Nat.le_trans h (by decide)
    refine ⟨_, rfl, a0, _, rfl, .inl hS, _, _, rfl, _, _, rfl, _, rfl, ?_, ?_, ?_⟩
    · split <;> (try split) <;> omega
    · split <;> (try split) <;> omega
    refine for_range (lo := 0) (fun i σ H1 => ∃ y1 y2 y3 y4 y5 y6 y7 y8 y9 y10 y11 y12, σ = [some (.ref a0), y1, y2, y3, y4, y5, y6, y7, y8, y9, y10, y11, y12] ∧ Same H H1) ⟨_, _, _, _, _, _, _, _, _, _, _, _, rfl, Same.refl _⟩ ?_ ?_
    · rintro i σ H1 hi ⟨y1, y2, y3, y4, y5, y6, y7, y8, y9, y10, y11, y12, rfl, sm⟩
      have e0 : (0 : Int) + (i : Int) = (i : Int) := by omega
      rw [e0]
      refine ⟨_, rfl, _, rfl, a0, ns0, i, rfl, sm.seq hS, hn, fun H2 pb s2 np bag => ?_⟩
      have sH2 : Same H (del H2 pb) := fun b o e => by
        rw [del_ne (ne_of_none e (sm.free np))]
        exact s2 _ _ (sm _ _ e)
      have Q0 := P0.first (K := K) (C := C) (R := fun _ => 0) (L := fun _ => 0) (D := fun _ => []) (E := fun _ => []) bag
      have vab : valD (.str "ab") := by
        show Lt "ab"
        unfold Lt
        decide +kernel
      have va : valD (.str "a") := by
        show Lt "a"
        unfold Lt
        decide +kernel
      have lab : Str.length "ab" = 2 := by decide +kernel
      have la : Str.length "a" = 1 := by decide +kernel
      have gd0 : Gds [] (fun _ => []) := fun p z => nomatch z
      dsimp only [tNil, List.nil_append, List.append_nil, List.cons_append]
      refine mk_entA (d := .none) (Same.refl _) .non trivial (by simp [sz]) fun G3 x0 dx0 r0 ws0 S0 s0 nx0 hx0 nr0 hr0 tr0 rS0 xS0 fr0 => ?_
      obtain ⟨W3, T3, Q1, sW1, kt1, n0⟩ := Q0.made s0 nx0 hx0 nr0 hr0 tr0 rS0 xS0 fr0
      dsimp only [tNil, List.nil_append, List.append_nil, List.cons_append]
      refine mk_entA (d := .str "ab") (Same.refl _) (.str _) vab (by simp only [sz, lab]; omega) fun G4 x1 dx1 r1' ws1 S1 s1 nx1 hx1 nr1 hr1 tr1 rS1 xS1 fr1 => ?_
      obtain ⟨W4, T4, Q2, sW2, kt2, n1⟩ := Q1.made s1 nx1 hx1 nr1 hr1 tr1 rS1 xS1 fr1
      refine ⟨by show 2 ≤ sizeLine; decide, fun e5 ne5 => ?_⟩
      have Q3 := Q2.up (same_upd (o := .lst [.str "a", .non]) ne5)
      dsimp only [tNil, List.nil_append, List.append_nil, List.cons_append]
      refine mk_entA (d := .list [.str "a", .none]) (Same.refl _) (.lst (SqL.of upd_same) (.cons (.str _) (.cons .non .nil))) ⟨va, trivial, trivial⟩ (by simp only [sz, szAll, la]; omega) fun G5 x2 dx2 r2' ws2 S2 s2 nx2 hx2 nr2 hr2 tr2 rS2 xS2 fr2 => ?_
      obtain ⟨W5, T5, Q4, sW4, kt4, n2⟩ := Q3.made s2 nx2 hx2 nr2 hr2 tr2 rS2 xS2 fr2
      refine ⟨rfl, (by show 0 ≤ sizeLine; decide), fun e6 ne6 => ⟨[.ref C], [.ref e6], rfl, rfl, (by show 1 ≤ sizeLine; decide), fun t6 nt6 => ⟨t6, [.ref e6], [.list []], _, rfl, upd_same, Same.refl _, .cons (.lst (SqL.of (same_upd nt6 _ _ upd_same)) .nil) .nil, ⟨trivial, trivial⟩, by simp [szAll, sz], by simp, fun G6 x3 dx3 r3' ws3 S3 s3 nx3 hx3 nr3 hr3 tr3 rS3 xS3 fr3 => ?_⟩⟩⟩
      obtain ⟨W6, T6, Q5, sW5, kt5, n3⟩ := ((Q4.up (same_upd ne6)).up (same_upd nt6)).made s3 nx3 hx3 nr3 hr3 tr3 rS3 xS3 fr3
      refine ⟨by show 4 ≤ sizeLine; decide, fun pp npp => ?_⟩
      obtain ⟨Q6, kt6⟩ := Q5.mark (o := .lst [.ref x0, .ref x1, .ref x2, .ref x3]) (t := (1, pb)) npp
      have fpp : (upd G6 pp (.lst [.ref x0, .ref x1, .ref x2, .ref x3])) pp = some (.lst [.ref x0, .ref x1, .ref x2, .ref x3]) := upd_same
      generalize upd G6 pp (.lst [.ref x0, .ref x1, .ref x2, .ref x3]) = G7 at Q6 fpp ⊢
      have tp7 : tagW T6 pp (1, pb) pp = some (1, pb) := tagW_at
      generalize tagW T6 pp (1, pb) = T7 at Q6 tp7
      have sH7 : Same H W6 := sH2.trans (sW1.trans (sW2.trans (sW4.trans sW5)))
      refine ⟨fun σ' G' => ∃ (dd : Addr) (W : Hp) (T : Tags) (ns os : List Addr) (R L : Addr → Addr) (D : Addr → List PyData) (z5 z6 z7 z8 z9 z10 z11 z12 : Option V), σ' = [some (.ref a0), some (.int i), some (.ref pb), some (.ref pp), some (.ref dd), z5, z6, z7, z8, z9, z10, z11, z12] ∧
        Pl K C pb pp dd (fun _ => none) W G' T ns ns os os R L D D ∧ Gds os D ∧ Same H W, ?_, ?_⟩
      · refine ⟨(by show 0 ≤ sizeLine; decide), fun l0 nl0 => ?_⟩
        obtain ⟨W8, T8, Q8, sW8, kt8⟩ := Q6.madeL (x := x0) (us := []) (es := []) (S := []) (same_upd nl0) nl0 upd_same .nil (by simp) (by simp) (by simp)
        refine ⟨(by show 1 ≤ sizeLine; decide), fun l1 nl1 => ?_⟩
        obtain ⟨W9, T9, Q9, sW9, kt9⟩ := Q8.madeL (x := x1) (us := [.str "ab"]) (es := [.str "ab"]) (S := [] ++ []) (same_upd nl1) nl1 upd_same (.cons (.str _) .nil (by simp)) (by simp) (by simp) n1
        refine ⟨(by show 2 ≤ sizeLine; decide), fun l2 nl2 => ?_⟩
        obtain ⟨W10, T10, Q10, sW10, kt10⟩ := Q9.madeL (x := x2) (us := [.str "a", .non]) (es := [.str "a", .none]) (S := [] ++ ([] ++ [])) (same_upd nl2) nl2 upd_same (.cons (.str _) (.cons .non .nil (by simp)) (by simp)) (by simp) (by simp) n2
        refine ⟨(by show 0 ≤ sizeLine; decide), fun e nle => ⟨(by show 1 ≤ sizeLine; decide), fun l3 nl3 => ?_⟩⟩
        have el3 : e ≠ l3 := fun z => by
          rw [← z, upd_same] at nl3
          cases nl3
        obtain ⟨W11, T11, Q11, sW11, kt11⟩ := Q10.madeL (x := x3) (us := [.ref e]) (es := [.list []]) (S := [e] ++ []) ((same_upd nle).trans (same_upd nl3)) ((same_upd nle).free nl3) upd_same (.cons (.lst (by rw [upd_ne el3, upd_same]) .nil (by simp)) .nil (by simp)) (by simpa using el3.symm) (by simpa using nle) n3
        refine ⟨(by show 4 ≤ sizeLine; decide), fun dd ndd => ?_⟩
        obtain ⟨Q12, kt12⟩ := Q11.mark (o := .lst [.ref l0, .ref l1, .ref l2, .ref l3]) (t := (2, pb)) ndd
        have n1' : x1 ≠ x0 := by simpa using n1
        have n2' : x2 ≠ x1 ∧ x2 ≠ x0 := by simpa using n2
        have n3' : x3 ≠ x2 ∧ x3 ≠ x1 ∧ x3 ≠ x0 := by simpa using n3
        have spp : Same G7 _ := (same_upd nl0).trans ((same_upd nl1).trans ((same_upd nl2).trans ((same_upd nle).trans ((same_upd nl3).trans (same_upd (o := .lst [.ref l0, .ref l1, .ref l2, .ref l3]) ndd)))))
        refine ⟨dd, _, _, [x0, x1, x2, x3], _, _, _, _, _, _, _, _, _, _, _, _, rfl, Q12.pool ((((kt8.trans kt9).trans kt10).trans (kt11.trans kt12)) _ _ tp7) tagW_at rfl (spp _ _ fpp) ?_ ?_ ?_, (((gd0.cons ?_).cons ?_).cons ?_).cons ?_, sH7.trans (sW8.trans (sW9.trans (sW10.trans sW11)))⟩
        · rw [upd_same]
          have f0 : fw (fw (fw (fw (fun _ => 0) x0 l0) x1 l1) x2 l2) x3 l3 x0 = l0 := by rw [fw_ne n3'.2.2.symm, fw_ne n2'.2.symm, fw_ne n1'.symm, fw_at]
          have f1 : fw (fw (fw (fw (fun _ => 0) x0 l0) x1 l1) x2 l2) x3 l3 x1 = l1 := by rw [fw_ne n3'.2.1.symm, fw_ne n2'.1.symm, fw_at]
          have f2 : fw (fw (fw (fw (fun _ => 0) x0 l0) x1 l1) x2 l2) x3 l3 x2 = l2 := by rw [fw_ne n3'.1.symm, fw_at]
          have f3 : fw (fw (fw (fw (fun _ => 0) x0 l0) x1 l1) x2 l2) x3 l3 x3 = l3 := fw_at
          simp only [List.map_cons, List.map_nil, f0, f1, f2, f3]
        · intro p hp
          simp only [List.mem_cons, List.not_mem_nil, or_false] at hp ⊢
          rcases hp with rfl | rfl | rfl | rfl <;> simp
        · intro p hp
          simp only [List.mem_cons, List.not_mem_nil, or_false] at hp ⊢
          rcases hp with rfl | rfl | rfl | rfl <;> simp
        · exact (Gd.ent (d := .none) trivial (by simp [sz]) (by simp [PyData.depth])).1
        · exact (Gd.ent (d := .str "ab") vab (by simp only [sz, lab]; omega) (by simp [PyData.depth])).1
        · exact (Gd.ent (d := .list [.str "a", .none]) ⟨va, trivial, trivial⟩ (by simp only [sz, szAll, la]; omega) (by simp [PyData.depth, PyData.depthAll])).1
        · refine ⟨⟨trivial, trivial⟩, by simp, fun d hd => ?_⟩
          have : d = .list [] := by simpa using hd
          subst this
          exact ⟨by simp [sz, szAll], by simp [PyData.depth, PyData.depthAll]⟩
      · clear Q0 Q1 Q2 Q3 Q4 Q5 Q6
        rintro σ' G' ⟨dd, W, T1, ns, os, R, L0, D, z5, z6, z7, z8, z9, z10, z11, z12, rfl, PL, gd, sW⟩
        have shp : ∀ {ds : List PyData}, Gd ds → SeqAt.shaped (.list ds) = true := fun {ds} g => by
          unfold SeqAt.shaped
          have cl : (PyData.list ds).canLay0 = true := by simp only [PyData.canLay0, val_canAll2 _ g.1]
          rw [cl, Bool.true_and]
          have := g.dep
          exact decide_eq_true (by simp only [PyData.depth]; omega)
        have shd : ∀ {ds : List PyData}, Gd ds → Sh (.list ds) := fun g => sh_list g.1 (by have := g.sz'; omega) (by have := g.dep; omega)
        have atm : ∀ {α : Type} {l : List Addr} {f : Addr → α} {i : Nat} {x : α}, (l.map f)[i]? = some x → ∃ a, l[i]? = some a ∧ x = f a := fun {α l f i x} e => by
          rw [List.getElem?_map] at e
          cases h : l[i]? with
          | none =>
            rw [h] at e
            cases e
          | some a =>
            rw [h] at e
            exact ⟨a, rfl, (Option.some.inj e).symm⟩
        refine ⟨_, rfl, pb, 30, rfl, PL.bag, by decide, by decide, fun za ya n hn0 hn1 => ?_⟩
        have PL1 := PL.draw (G' := upd G' pb (.lst [.int za, .int ya])) (fun b o hb e => by rw [upd_ne hb]; exact e) ⟨_, _, upd_same⟩
        generalize upd G' pb (.lst [.int za, .int ya]) = G8 at PL1 ⊢
        refine ⟨_, _, rfl, rfl, _, rfl, by omega, by omega, ?_⟩
        refine for_range (lo := 0) (fun t σ H7 => ∃ (W : Hp) (T : Tags) (ns os : List Addr) (R L : Addr → Addr) (D : Addr → List PyData) (z5 z6 z7 z8 z9 z10 z11 z12 : Option V), σ = [some (.ref a0), some (.int i), some (.ref pb), some (.ref pp), some (.ref dd), z5, z6, z7, z8, z9, z10, z11, z12] ∧
          Pl K C pb pp dd (fun _ => none) W H7 T ns ns os os R L D D ∧ Gds os D ∧ Same H W) ⟨_, _, _, _, _, _, _, _, _, _, _, _, _, _, _, rfl, PL1, gd, sW⟩ ?_ ?_
        · clear PL PL1 gd sW
          rintro t σ G9 ht ⟨W, T1, ns, os, R, L0, D, z5, z6, z7, z8, z9, z10, z11, z12, rfl, PL, gd, sW⟩
          refine ⟨_, rfl, _, rfl, pb, 4, rfl, PL.bag, by decide, by decide, fun zb yb k hk0 hk1 => ?_⟩
          have PLb := PL.draw (G' := upd G9 pb (.lst [.int zb, .int yb])) (fun b o hb e => by rw [upd_ne hb]; exact e) ⟨_, _, upd_same⟩
          generalize upd G9 pb (.lst [.int zb, .int yb]) = Gb at PLb ⊢
          obtain ⟨k, rfl⟩ := Int.eq_ofNat_of_zero_le hk0
          have len := PL.len
          obtain ⟨p, hp⟩ : ∃ x, ns[k]? = some x := ⟨ns[k], List.getElem?_eq_getElem (by omega)⟩
          have po := PL.nsub p (List.mem_of_getElem? hp)
          have g1 := gd p po
          have sz1 := g1.sz'
          have nd1 := ndAll_sz _ g1.1
          obtain ⟨dx, ws, ep, er, hw⟩ := PLb.ob p po
          refine ⟨pp, _, _, .ref p, rfl, rfl, SqL.of PLb.pool, atI_nat (by rw [List.getElem?_map, hp]; rfl), ?_⟩
          refine ⟨_, rfl, p, dx, _, rfl, ep, rfl, p, dx, R p, ws, D p, W, rfl, ep, er, PLb.sub, hw, by omega, fun Gc vc Sc sc trc frc => ?_⟩
          obtain ⟨PLc, sWc, tDc, _⟩ := PLb.news sc frc
          have told := tDc _ _ trc
          have s1 := shd g1
          refine ⟨_, rfl, vc, .list (D p), rfl, trc.dp, s1.s, s1.n, s1.z, s1.l, ?_⟩
          refine ⟨_, rfl, _, rfl, _, rfl, pb, pp, dd, _, T1, ns, os, R, L0, D, rfl, PLc, gd, fun W' Gd' T' ns' os' R' L' D' P' gd' sW' sub => ⟨_, rfl, iteF ?_⟩⟩
          have po' := sub p po
          have g2 := gd' p po'
          have sz2 := g2.sz'
          have nd2 := ndAll_sz _ g2.1
          obtain ⟨dx2, ws2, ep2, er2, hw2⟩ := P'.ob p po'
          have lw2 := DpAll.length hw2
          have few2 := g2.2.1
          refine ⟨_, rfl, p, dx2, _, rfl, ep2, rfl, p, dx2, R' p, ws2, D' p, W', rfl, ep2, er2, P'.sub, hw2, by omega, fun Ge ve Se se tre fre => ?_⟩
          obtain ⟨be, use, Se', rfl, rfl, he, tse, _⟩ := tr_list tre
          have le := TrAll.length tse
          have nei : ∀ {a b : Int} {X Y : Prop}, a = b → Y → (if (!decide (V.int a = V.int b)) = true then X else Y) := fun h y => by
            subst h
            rw [decide_eq_true rfl]
            exact iteF y
          have nes : ∀ {a b : Str} {X Y : Prop}, a = b → Y → (if (!decide (V.str a = V.str b)) = true then X else Y) := fun h y => by
            subst h
            rw [decide_eq_true rfl]
            exact iteF y
          refine ⟨be, use, rfl, .inl (SqL.of he), _, rfl, p, dx2, _, rfl, se _ _ ep2, p, dx2, R' p, ws2, rfl, se _ _ ep2, se _ _ er2, ⟨ws2.length, rfl, by omega, rfl, _, rfl, nei (by omega) ?_⟩⟩
          refine ⟨_, rfl, vc, .list (D p), rfl, dp_same (sW'.trans (P'.sub.trans se)) _ _ told, s1.s, s1.n, s1.z, s1.l, _, rfl, rfl, _, rfl, nes rfl ?_⟩
          have Pe := P'.up se
          refine ⟨_, rfl, _, rfl, pp, dd, _, _, rfl, SqL.of Pe.pool, SqL.of Pe.dues, for_it (walk_zip rfl) (fun j σ H' => ∃ z5 z6 z7 z8 z9 z10 z11 z12, σ = [some (.ref a0), some (.int i), some (.ref pb), some (.ref pp), some (.ref dd), z5, z6, z7, z8, z9, z10, z11, z12] ∧ Same Ge H') ⟨_, _, _, _, _, _, _, _, rfl, Same.refl _⟩ (fun j σ H' hj ⟨_, _, _, _, _, _, _, _, _, s⟩ => ⟨SqL.of (s _ _ Pe.pool), SqL.of (s _ _ Pe.dues)⟩) ?_ ?_⟩
          · rintro j x σ H8 H9 hj ⟨z5, z6, z7, z8, z9, z10, z11, z12, rfl, s8⟩ ⟨tp, x1, y1, rfl, nT, rfl, ex, ey⟩
            obtain ⟨a, ea, rfl⟩ := atm ex
            obtain ⟨a', ea', rfl⟩ := atm ey
            have : a' = a := Option.some.inj (ea'.symm.trans ea)
            subst this
            have ao := Pe.nsub a' (List.mem_of_getElem? ea)
            have s9 := s8.trans (same_upd (o := .tup [.ref a', .ref (L' a')]) nT)
            have P9 := Pe.up s9
            obtain ⟨dxa, wsa, epa, era, hwa⟩ := P9.ob a' ao
            obtain ⟨usa, ela, hua⟩ := P9.du a' ao
            have ga := gd' a' ao
            have sza := ga.sz'
            have dpa := ga.dep
            refine ⟨tp, _, rfl, SqT.of upd_same, rfl, _, _, rfl, _, _, rfl, rfl, ?_⟩
            refine ⟨_, rfl, _, rfl, a', dxa, R' a', L' a', wsa, usa, D' a', W', rfl, epa, era, ela, P9.sub, hwa, hua, ga.1, by omega, by omega, fun H10 s10 => ⟨_, rfl, iteF ?_⟩⟩
            exact ⟨_, _, _, _, _, _, _, _, rfl, s9.trans s10⟩
          · rintro σ H8 ⟨z5, z6, z7, z8, z9, z10, z11, z12, rfl, s8⟩
            exact ⟨W', T', ns', os', R', L', D', _, _, _, _, _, _, _, _, rfl, Pe.up s8, gd', sW.trans (sWc.trans sW')⟩
        · rintro σ G9 ⟨W, T1, ns, os, R, L0, D, z5, z6, z7, z8, z9, z10, z11, z12, rfl, PL, gd, sW⟩
          refine ⟨_, rfl, _, rfl, pp, dd, _, _, rfl, SqL.of PL.pool, SqL.of PL.dues, for_it (walk_zip rfl) (fun j σ H' => ∃ z5 z6 z7 z8 z9 z10 z11 z12, σ = [some (.ref a0), some (.int i), some (.ref pb), some (.ref pp), some (.ref dd), z5, z6, z7, z8, z9, z10, z11, z12] ∧ Same G9 H') ⟨_, _, _, _, _, _, _, _, rfl, Same.refl _⟩ (fun j σ H' hj ⟨_, _, _, _, _, _, _, _, _, s⟩ => ⟨SqL.of (s _ _ PL.pool), SqL.of (s _ _ PL.dues)⟩) ?_ ?_⟩
          · rintro j x σ H8 H9 hj ⟨z5, z6, z7, z8, z9, z10, z11, z12, rfl, s8⟩ ⟨tp, x1, y1, rfl, nT, rfl, ex, ey⟩
            obtain ⟨a, ea, rfl⟩ := atm ex
            obtain ⟨a', ea', rfl⟩ := atm ey
            have : a' = a := Option.some.inj (ea'.symm.trans ea)
            subst this
            have ao := PL.nsub a' (List.mem_of_getElem? ea)
            have s9 := s8.trans (same_upd (o := .tup [.ref a', .ref (L0 a')]) nT)
            have P9 := PL.up s9
            have ga := gd a' ao
            refine ⟨tp, _, rfl, SqT.of upd_same, rfl, _, _, rfl, _, _, rfl, rfl, ?_⟩
            refine ⟨_, rfl, _, rfl, pp, dd, _, _, rfl, SqL.of P9.pool, SqL.of P9.dues, for_it (walk_zip rfl) (fun j' σ H' => ∃ z5 z6 z7 z8 z11 z12, σ = [some (.ref a0), some (.int i), some (.ref pb), some (.ref pp), some (.ref dd), z5, z6, z7, z8, some (.ref a'), some (.ref (L0 a')), z11, z12] ∧ Same G9 H') ⟨_, _, _, _, _, _, rfl, s9⟩ (fun j σ H' hj ⟨_, _, _, _, _, _, _, s⟩ => ⟨SqL.of (s _ _ PL.pool), SqL.of (s _ _ PL.dues)⟩) ?_ ?_⟩
            · rintro j2 x2 σ H10 H11 hj2 ⟨z5, z6, z7, z8, z11, z12, rfl, s10⟩ ⟨tp2, x3, y3, rfl, nT2, rfl, ex2, ey2⟩
              obtain ⟨c, ec, rfl⟩ := atm ex2
              obtain ⟨c', ec', rfl⟩ := atm ey2
              have : c' = c := Option.some.inj (ec'.symm.trans ec)
              subst this
              have co := PL.nsub c' (List.mem_of_getElem? ec)
              have s11 := s10.trans (same_upd (o := .tup [.ref c', .ref (L0 c')]) nT2)
              have P11 := PL.up s11
              have gc := gd c' co
              have sza := ga.sz'
              have szc := gc.sz'
              obtain ⟨dxa, wsa, epa, era, hwa⟩ := P11.ob a' ao
              obtain ⟨dxc, wsc, epc, erc, hwc⟩ := P11.ob c' co
              refine ⟨tp2, _, rfl, SqT.of upd_same, rfl, _, _, rfl, _, _, rfl, rfl, ?_⟩
              refine ⟨_, rfl, _, rfl, a', c', dxa, dxc, _, _, rfl, rfl, epa, epc, a', c', dxa, dxc, R a', R c', wsa, wsc, D a', D c', W, rfl, epa, era, epc, erc, P11.sub, hwa, hwc, ga.1, gc.1, by omega, by omega, fun H12 b s12 hb => ⟨_, rfl, ?_⟩⟩
              have P12 := P11.up s12
              obtain ⟨usa, ela, hua⟩ := P12.du a' ao
              obtain ⟨usc, elc, huc⟩ := P12.du c' co
              refine ⟨_, rfl, .list (D a'), .list (D c'), .lst (SqL.of ela) (dpAll_same P12.sub _ _ hua), .lst (SqL.of elc) (dpAll_same P12.sub _ _ huc), shp ga, shp gc, rfl, _, rfl, ?_⟩
              have ee : PyData.eqv (.list (D a')) (.list (D c')) = b := Bool.eq_iff_iff.mpr ((val_eqv (.list (D a')) (.list (D c')) ga.1 gc.1).trans (Iff.trans ⟨fun z => PyData.list.inj z, fun z => by rw [z]⟩ hb.symm))
              rw [ee, decide_eq_true rfl]
              exact iteF ⟨_, _, _, _, _, _, rfl, s11.trans s12⟩
            · rintro σ H10 ⟨z5, z6, z7, z8, z11, z12, rfl, s10⟩
              exact ⟨_, _, _, _, _, _, _, _, rfl, s10⟩
          · rintro σ H8 ⟨z5, z6, z7, z8, z9, z10, z11, z12, rfl, s8⟩
            exact ⟨_, _, _, _, _, _, _, _, _, _, _, _, rfl, fun b o e => s8 _ _ (PL.sub _ _ (sW _ _ e))⟩
    · rintro σ G ⟨y1, y2, y3, y4, y5, y6, y7, y8, y9, y10, y11, y12, rfl, sm⟩
      exact q G
end
end TX
namespace TX
open PySem PySem.Spec PyProof.Rows L2
theorem kit_self {K : PySem.W.Frag} {C : Addr} : PySem.W.kitOne K (.ref C) (.ref C) = some true := by
  unfold PySem.W.kitOne
  rw [beq_self_eq_true, if_pos rfl]
theorem kit_of {K : PySem.W.Frag} {C : Addr} {T : String} {b : Bool} (hd : PySem.W.hasDictIn K C = true) (ty : PySem.W.typeIn K (.ref C) = some (.type "type")) (hs : PySem.W.subIn K (.type T) (.ref C) = some b) : PySem.W.kitOne K (.type T) (.ref C) = some b := by
  have hne : (Value.type T == Value.ref C) = false := rfl
  have e2 : ((PySem.W.clsIn K C).isSome && PySem.W.typeIn K (.ref C) == some (.type "type")) = true := by
    rw [clsSome hd, ty]
    rfl
  unfold PySem.W.kitOne
  rw [hne, if_neg Bool.false_ne_true]
  show (if ((PySem.W.clsIn K C).isSome && PySem.W.typeIn K (.ref C) == some (.type "type")) = true then PySem.W.subIn K (.type T) (.ref C) else none) = _
  rw [if_pos e2, hs]
theorem all_mk {P : Program} {w : World} {K : PySem.W.Frag} {h : Heap} {mg : Str → Option Value} {fa TE f0 f1 f2 f3 f4 f5 f6 f7 f8 f9 f10 f11 f12 f13 f14 f15 f16 f17 f18 f19 f20 f21 f22 f23 C h0 h1 h2 h3 h4 h5 h6 h7 h8 h9 h10 h11 h12 h13 h14 h15 NE NT fI fJ hO : Addr} (X : K.In h) (G : h.Ns mainGlobals mg) (hfa : mg "law" = some (.ref fa))
    {od0 an0 : Option Addr} {sl0 : Array (Option Value)} {oc0 kV0 dc0 pm0 cd0 ct0 : Value}
    {od1 an1 : Option Addr} {sl1 : Array (Option Value)} {oc1 kV1 dc1 pm1 cd1 ct1 : Value}
    {od2 an2 : Option Addr} {sl2 : Array (Option Value)} {oc2 kV2 dc2 pm2 cd2 ct2 : Value}
    {od3 an3 : Option Addr} {sl3 : Array (Option Value)} {oc3 kV3 dc3 pm3 cd3 ct3 : Value}
    {od4 an4 : Option Addr} {sl4 : Array (Option Value)} {oc4 kV4 dc4 pm4 cd4 ct4 : Value}
    {od5 an5 : Option Addr} {sl5 : Array (Option Value)} {oc5 kV5 dc5 pm5 cd5 ct5 : Value}
    {od6 an6 : Option Addr} {sl6 : Array (Option Value)} {oc6 kV6 dc6 pm6 cd6 ct6 : Value}
    {od7 an7 : Option Addr} {sl7 : Array (Option Value)} {oc7 kV7 dc7 pm7 cd7 ct7 : Value}
    {od8 an8 : Option Addr} {sl8 : Array (Option Value)} {oc8 kV8 dc8 pm8 cd8 ct8 : Value}
    {od9 an9 : Option Addr} {sl9 : Array (Option Value)} {oc9 kV9 dc9 pm9 cd9 ct9 : Value}
    {od10 an10 : Option Addr} {sl10 : Array (Option Value)} {oc10 kV10 dc10 pm10 cd10 ct10 : Value}
    {od11 an11 : Option Addr} {sl11 : Array (Option Value)} {oc11 kV11 dc11 pm11 cd11 ct11 : Value}
    {od12 an12 : Option Addr} {sl12 : Array (Option Value)} {oc12 kV12 dc12 pm12 cd12 ct12 : Value}
    {od13 an13 : Option Addr} {sl13 : Array (Option Value)} {oc13 kV13 dc13 pm13 cd13 ct13 : Value}
    {od14 an14 : Option Addr} {sl14 : Array (Option Value)} {oc14 kV14 dc14 pm14 cd14 ct14 : Value}
    {od15 an15 : Option Addr} {sl15 : Array (Option Value)} {oc15 kV15 dc15 pm15 cd15 ct15 : Value}
    {od16 an16 : Option Addr} {sl16 : Array (Option Value)} {oc16 kV16 dc16 pm16 cd16 ct16 : Value}
    {od17 an17 : Option Addr} {sl17 : Array (Option Value)} {oc17 kV17 dc17 pm17 cd17 ct17 : Value}
    {od18 an18 : Option Addr} {sl18 : Array (Option Value)} {oc18 kV18 dc18 pm18 cd18 ct18 : Value}
    {od19 an19 : Option Addr} {sl19 : Array (Option Value)} {oc19 kV19 dc19 pm19 cd19 ct19 : Value}
    {od20 an20 : Option Addr} {sl20 : Array (Option Value)} {oc20 kV20 dc20 pm20 cd20 ct20 : Value}
    {od21 an21 : Option Addr} {sl21 : Array (Option Value)} {oc21 kV21 dc21 pm21 cd21 ct21 : Value}
    {od22 an22 : Option Addr} {sl22 : Array (Option Value)} {oc22 kV22 dc22 pm22 cd22 ct22 : Value}
    {od23 an23 : Option Addr} {sl23 : Array (Option Value)} {oc23 kV23 dc23 pm23 cd23 ct23 : Value}
    {tA : Tok} {pO : Addr} {rest : List Value} {fo ro fs' rs fl rl rc q1 q2 : Option Value}
    {odM0 anM0 : Option Addr} {slM0 : Array (Option Value)} {ocM0 kVM0 dcM0 pmM0 cdM0 ctM0 : Value}
    {odM1 anM1 : Option Addr} {slM1 : Array (Option Value)} {ocM1 kVM1 dcM1 pmM1 cdM1 ctM1 : Value}
    {odM2 anM2 : Option Addr} {slM2 : Array (Option Value)} {ocM2 kVM2 dcM2 pmM2 cdM2 ctM2 : Value}
    {odM3 anM3 : Option Addr} {slM3 : Array (Option Value)} {ocM3 kVM3 dcM3 pmM3 cdM3 ctM3 : Value}
    {odM4 anM4 : Option Addr} {slM4 : Array (Option Value)} {ocM4 kVM4 dcM4 pmM4 cdM4 ctM4 : Value}
    {odM5 anM5 : Option Addr} {slM5 : Array (Option Value)} {ocM5 kVM5 dcM5 pmM5 cdM5 ctM5 : Value}
    {odM6 anM6 : Option Addr} {slM6 : Array (Option Value)} {ocM6 kVM6 dcM6 pmM6 cdM6 ctM6 : Value}
    {odM7 anM7 : Option Addr} {slM7 : Array (Option Value)} {ocM7 kVM7 dcM7 pmM7 cdM7 ctM7 : Value}
    {odM8 anM8 : Option Addr} {slM8 : Array (Option Value)} {ocM8 kVM8 dcM8 pmM8 cdM8 ctM8 : Value}
    {odM9 anM9 : Option Addr} {slM9 : Array (Option Value)} {ocM9 kVM9 dcM9 pmM9 cdM9 ctM9 : Value}
    {odM10 anM10 : Option Addr} {slM10 : Array (Option Value)} {ocM10 kVM10 dcM10 pmM10 cdM10 ctM10 : Value}
    {odM11 anM11 : Option Addr} {slM11 : Array (Option Value)} {ocM11 kVM11 dcM11 pmM11 cdM11 ctM11 : Value}
    {odM12 anM12 : Option Addr} {slM12 : Array (Option Value)} {ocM12 kVM12 dcM12 pmM12 cdM12 ctM12 : Value}
    {odM13 anM13 : Option Addr} {slM13 : Array (Option Value)} {ocM13 kVM13 dcM13 pmM13 cdM13 ctM13 : Value}
    {odM14 anM14 : Option Addr} {slM14 : Array (Option Value)} {ocM14 kVM14 dcM14 pmM14 cdM14 ctM14 : Value}
    {odM15 anM15 : Option Addr} {slM15 : Array (Option Value)} {ocM15 kVM15 dcM15 pmM15 cdM15 ctM15 : Value}
    {nmT qT : Str} {NT' : Addr} {bsT mrT : List Value} {hdT : Bool} {snT : List Str} {subT : List Value} {abT : Bool} {colT : Option Bool} {ddT : Option Addr} {m0T m1T m2T m3T m5T : Option Value}
    {nmNE qNE : Str} {NNE : Addr} {bsNE : List Value} {snNE : List Str} {subNE : List Value} {abNE : Bool} {colNE : Option Bool} {ddNE : Option Addr} {m0NE m1NE m2NE m3NE m5NE : Option Value}
    {nmNT qNT : Str} {NNT : Addr} {bsNT : List Value} {snNT : List Str} {subNT : List Value} {abNT : Bool} {colNT : Option Bool} {ddNT : Option Addr} {m0NT m1NT m2NT m3NT m5NT : Option Value}
    {odI anI : Option Addr} {slI : Array (Option Value)} {ocI kVI dcI pmI cdI ctI : Value}
    {odJ anJ : Option Addr} {slJ : Array (Option Value)} {ocJ kVJ dcJ pmJ cdJ ctJ : Value}
    {odO anO : Option Addr} {slO : Array (Option Value)} {ocO kVO dcO pmO cdO ctO : Value}
    (a0 : PySem.W.nsIn K mainGlobals "all_parts" = some (some (.ref f0)))
    (l0 : K.lookup f0 = some ⟨oc0, od0, .func (PySem.W.fnOf "all_parts" "all_parts" (defArgs sParts) (defBody sParts) (defScope sParts) .none kV0 dc0 pm0 an0 cd0 ct0), sl0⟩)
    (c0 : PySem.W.codeIn K cd0 "all_parts" = true)
    (k0 : PySem.W.keepIn K (.ref f0) = true)
    (a1 : PySem.W.nsIn K mainGlobals "copy_of" = some (some (.ref f1)))
    (l1 : K.lookup f1 = some ⟨oc1, od1, .func (PySem.W.fnOf "copy_of" "copy_of" (defArgs sCopy) (defBody sCopy) (defScope sCopy) .none kV1 dc1 pm1 an1 cd1 ct1), sl1⟩)
    (c1 : PySem.W.codeIn K cd1 "copy_of" = true)
    (k1 : PySem.W.keepIn K (.ref f1) = true)
    (a2 : PySem.W.nsIn K mainGlobals "outline_of" = some (some (.ref f2)))
    (l2 : K.lookup f2 = some ⟨oc2, od2, .func (PySem.W.fnOf "outline_of" "outline_of" (defArgs s_outline_of) (defBody s_outline_of) (defScope s_outline_of) .none kV2 dc2 pm2 an2 cd2 ct2), sl2⟩)
    (c2 : PySem.W.codeIn K cd2 "outline_of" = true)
    (k2 : PySem.W.keepIn K (.ref f2) = true)
    (a3 : PySem.W.nsIn K mainGlobals "shown" = some (some (.ref f3)))
    (l3 : K.lookup f3 = some ⟨oc3, od3, .func (PySem.W.fnOf "shown" "shown" (defArgs s_shown) (defBody s_shown) (defScope s_shown) .none kV3 dc3 pm3 an3 cd3 ct3), sl3⟩)
    (c3 : PySem.W.codeIn K cd3 "shown" = true)
    (k3 : PySem.W.keepIn K (.ref f3) = true)
    (a4 : PySem.W.nsIn K mainGlobals "is_whole_number" = some (some (.ref f4)))
    (l4 : K.lookup f4 = some ⟨oc4, od4, .func (PySem.W.fnOf "is_whole_number" "is_whole_number" (defArgs s_is_whole_number) (defBody s_is_whole_number) (defScope s_is_whole_number) .none kV4 dc4 pm4 an4 cd4 ct4), sl4⟩)
    (c4 : PySem.W.codeIn K cd4 "is_whole_number" = true)
    (k4 : PySem.W.keepIn K (.ref f4) = true)
    (a5 : PySem.W.nsIn K mainGlobals "is_text" = some (some (.ref f5)))
    (l5 : K.lookup f5 = some ⟨oc5, od5, .func (PySem.W.fnOf "is_text" "is_text" (defArgs s_is_text) (defBody s_is_text) (defScope s_is_text) .none kV5 dc5 pm5 an5 cd5 ct5), sl5⟩)
    (c5 : PySem.W.codeIn K cd5 "is_text" = true)
    (k5 : PySem.W.keepIn K (.ref f5) = true)
    (a6 : PySem.W.nsIn K mainGlobals "place_of_last" = some (some (.ref f6)))
    (l6 : K.lookup f6 = some ⟨oc6, od6, .func (PySem.W.fnOf "place_of_last" "place_of_last" (defArgs s_place_of_last) (defBody s_place_of_last) (defScope s_place_of_last) .none kV6 dc6 pm6 an6 cd6 ct6), sl6⟩)
    (c6 : PySem.W.codeIn K cd6 "place_of_last" = true)
    (k6 : PySem.W.keepIn K (.ref f6) = true)
    (a7 : PySem.W.nsIn K mainGlobals "first_fault" = some (some (.ref f7)))
    (l7 : K.lookup f7 = some ⟨oc7, od7, .func (PySem.W.fnOf "first_fault" "first_fault" (defArgs s_first_fault) (defBody s_first_fault) (defScope s_first_fault) .none kV7 dc7 pm7 an7 cd7 ct7), sl7⟩)
    (c7 : PySem.W.codeIn K cd7 "first_fault" = true)
    (k7 : PySem.W.keepIn K (.ref f7) = true)
    (a8 : PySem.W.nsIn K mainGlobals "check_value" = some (some (.ref f8)))
    (l8 : K.lookup f8 = some ⟨oc8, od8, .func (PySem.W.fnOf "check_value" "check_value" (defArgs s_check_value) (defBody s_check_value) (defScope s_check_value) .none kV8 dc8 pm8 an8 cd8 ct8), sl8⟩)
    (c8 : PySem.W.codeIn K cd8 "check_value" = true)
    (k8 : PySem.W.keepIn K (.ref f8) = true)
    (a9 : PySem.W.nsIn K mainGlobals "is_value" = some (some (.ref f9)))
    (l9 : K.lookup f9 = some ⟨oc9, od9, .func (PySem.W.fnOf "is_value" "is_value" (defArgs s_is_value) (defBody s_is_value) (defScope s_is_value) .none kV9 dc9 pm9 an9 cd9 ct9), sl9⟩)
    (c9 : PySem.W.codeIn K cd9 "is_value" = true)
    (k9 : PySem.W.keepIn K (.ref f9) = true)
    (a10 : PySem.W.nsIn K mainGlobals "entries_of" = some (some (.ref f10)))
    (l10 : K.lookup f10 = some ⟨oc10, od10, .func (PySem.W.fnOf "entries_of" "entries_of" (defArgs s_entries_of) (defBody s_entries_of) (defScope s_entries_of) .none kV10 dc10 pm10 an10 cd10 ct10), sl10⟩)
    (c10 : PySem.W.codeIn K cd10 "entries_of" = true)
    (k10 : PySem.W.keepIn K (.ref f10) = true)
    (a11 : PySem.W.nsIn K mainGlobals "check_index" = some (some (.ref f11)))
    (l11 : K.lookup f11 = some ⟨oc11, od11, .func (PySem.W.fnOf "check_index" "check_index" (defArgs s_check_index) (defBody s_check_index) (defScope s_check_index) .none kV11 dc11 pm11 an11 cd11 ct11), sl11⟩)
    (c11 : PySem.W.codeIn K cd11 "check_index" = true)
    (k11 : PySem.W.keepIn K (.ref f11) = true)
    (a12 : PySem.W.nsIn K mainGlobals "_law_bag" = some (some (.ref f12)))
    (l12 : K.lookup f12 = some ⟨oc12, od12, .func (PySem.W.fnOf "_law_bag" "_law_bag" (defArgs sBag) (defBody sBag) (defScope sBag) .none kV12 dc12 pm12 an12 cd12 ct12), sl12⟩)
    (c12 : PySem.W.codeIn K cd12 "_law_bag" = true)
    (k12 : PySem.W.keepIn K (.ref f12) = true)
    (a13 : PySem.W.nsIn K mainGlobals "_law_take" = some (some (.ref f13)))
    (l13 : K.lookup f13 = some ⟨oc13, od13, .func (PySem.W.fnOf "_law_take" "_law_take" (defArgs sTake) (defBody sTake) (defScope sTake) .none kV13 dc13 pm13 an13 cd13 ct13), sl13⟩)
    (c13 : PySem.W.codeIn K cd13 "_law_take" = true)
    (k13 : PySem.W.keepIn K (.ref f13) = true)
    (a14 : PySem.W.nsIn K mainGlobals "_law_text" = some (some (.ref f14)))
    (l14 : K.lookup f14 = some ⟨oc14, od14, .func (PySem.W.fnOf "_law_text" "_law_text" (defArgs sText) (defBody sText) (defScope sText) .none kV14 dc14 pm14 an14 cd14 ct14), sl14⟩)
    (c14 : PySem.W.codeIn K cd14 "_law_text" = true)
    (k14 : PySem.W.keepIn K (.ref f14) = true)
    (a15 : PySem.W.nsIn K mainGlobals "_law_size" = some (some (.ref f15)))
    (l15 : K.lookup f15 = some ⟨oc15, od15, .func (PySem.W.fnOf "_law_size" "_law_size" (defArgs sSize) (defBody sSize) (defScope sSize) .none kV15 dc15 pm15 an15 cd15 ct15), sl15⟩)
    (c15 : PySem.W.codeIn K cd15 "_law_size" = true)
    (k15 : PySem.W.keepIn K (.ref f15) = true)
    (a16 : PySem.W.nsIn K mainGlobals "_law_value" = some (some (.ref f16)))
    (l16 : K.lookup f16 = some ⟨oc16, od16, .func (PySem.W.fnOf "_law_value" "_law_value" (defArgs sValue) (defBody sValue) (defScope sValue) .none kV16 dc16 pm16 an16 cd16 ct16), sl16⟩)
    (c16 : PySem.W.codeIn K cd16 "_law_value" = true)
    (k16 : PySem.W.keepIn K (.ref f16) = true)
    (a17 : PySem.W.nsIn K mainGlobals "_law_entries" = some (some (.ref f17)))
    (l17 : K.lookup f17 = some ⟨oc17, od17, .func (PySem.W.fnOf "_law_entries" "_law_entries" (defArgs s__law_entries) (defBody s__law_entries) (defScope s__law_entries) .none kV17 dc17 pm17 an17 cd17 ct17), sl17⟩)
    (c17 : PySem.W.codeIn K cd17 "_law_entries" = true)
    (k17 : PySem.W.keepIn K (.ref f17) = true)
    (a18 : PySem.W.nsIn K mainGlobals "_law_copy" = some (some (.ref f18)))
    (l18 : K.lookup f18 = some ⟨oc18, od18, .func (PySem.W.fnOf "_law_copy" "_law_copy" (defArgs s__law_copy) (defBody s__law_copy) (defScope s__law_copy) .none kV18 dc18 pm18 an18 cd18 ct18), sl18⟩)
    (c18 : PySem.W.codeIn K cd18 "_law_copy" = true)
    (k18 : PySem.W.keepIn K (.ref f18) = true)
    (a19 : PySem.W.nsIn K mainGlobals "_law_spoil" = some (some (.ref f19)))
    (l19 : K.lookup f19 = some ⟨oc19, od19, .func (PySem.W.fnOf "_law_spoil" "_law_spoil" (defArgs sSpoil) (defBody sSpoil) (defScope sSpoil) .none kV19 dc19 pm19 an19 cd19 ct19), sl19⟩)
    (c19 : PySem.W.codeIn K cd19 "_law_spoil" = true)
    (k19 : PySem.W.keepIn K (.ref f19) = true)
    (a20 : PySem.W.nsIn K mainGlobals "_law_is_refused" = some (some (.ref f20)))
    (l20 : K.lookup f20 = some ⟨oc20, od20, .func (PySem.W.fnOf "_law_is_refused" "_law_is_refused" (defArgs s__law_is_refused) (defBody s__law_is_refused) (defScope s__law_is_refused) .none kV20 dc20 pm20 an20 cd20 ct20), sl20⟩)
    (c20 : PySem.W.codeIn K cd20 "_law_is_refused" = true)
    (k20 : PySem.W.keepIn K (.ref f20) = true)
    (a21 : PySem.W.nsIn K mainGlobals "_law_is_right" = some (some (.ref f21)))
    (l21 : K.lookup f21 = some ⟨oc21, od21, .func (PySem.W.fnOf "_law_is_right" "_law_is_right" (defArgs s__law_is_right) (defBody s__law_is_right) (defScope s__law_is_right) .none kV21 dc21 pm21 an21 cd21 ct21), sl21⟩)
    (c21 : PySem.W.codeIn K cd21 "_law_is_right" = true)
    (k21 : PySem.W.keepIn K (.ref f21) = true)
    (a22 : PySem.W.nsIn K mainGlobals "_law_step" = some (some (.ref f22)))
    (l22 : K.lookup f22 = some ⟨oc22, od22, .func (PySem.W.fnOf "_law_step" "_law_step" (defArgs s__law_step) (defBody s__law_step) (defScope s__law_step) .none kV22 dc22 pm22 an22 cd22 ct22), sl22⟩)
    (c22 : PySem.W.codeIn K cd22 "_law_step" = true)
    (k22 : PySem.W.keepIn K (.ref f22) = true)
    (a23 : PySem.W.nsIn K mainGlobals "law" = some (some (.ref f23)))
    (l23 : K.lookup f23 = some ⟨oc23, od23, .func (PySem.W.fnOf "law" "law" (defArgs sLaw) (defBody sLaw) (defScope sLaw) .none kV23 dc23 pm23 an23 cd23 ct23), sl23⟩)
    (c23 : PySem.W.codeIn K cd23 "law" = true)
    (k23 : PySem.W.keepIn K (.ref f23) = true)
    (aC : PySem.W.nsIn K mainGlobals "Entries" = some (some (.ref C)))
    (aM0 : PySem.W.findIn K (.ref C) "__init__" = some (some (.ref h0)))
    (lM0 : K.lookup h0 = some ⟨ocM0, odM0, .func (PySem.W.fnOf "__init__" "Entries.__init__" (defArgs mEntries_init) (defBody mEntries_init) (defScope mEntries_init) .none kVM0 dcM0 pmM0 anM0 cdM0 ctM0), slM0⟩)
    (cM0 : PySem.W.codeIn K cdM0 "Entries.__init__" = true)
    (kM0 : PySem.W.keepIn K (.ref h0) = true)
    (iM0 : PySem.W.isFn K (.ref h0) = true)
    (aM1 : PySem.W.findIn K (.ref C) "__add__" = some (some (.ref h1)))
    (lM1 : K.lookup h1 = some ⟨ocM1, odM1, .func (PySem.W.fnOf "__add__" "Entries.__add__" (defArgs mEntries_add) (defBody mEntries_add) (defScope mEntries_add) .none kVM1 dcM1 pmM1 anM1 cdM1 ctM1), slM1⟩)
    (cM1 : PySem.W.codeIn K cdM1 "Entries.__add__" = true)
    (kM1 : PySem.W.keepIn K (.ref h1) = true)
    (iM1 : PySem.W.isFn K (.ref h1) = true)
    (aM2 : PySem.W.findIn K (.ref C) "__radd__" = some (some (.ref h2)))
    (lM2 : K.lookup h2 = some ⟨ocM2, odM2, .func (PySem.W.fnOf "__radd__" "Entries.__radd__" (defArgs mEntries_radd) (defBody mEntries_radd) (defScope mEntries_radd) .none kVM2 dcM2 pmM2 anM2 cdM2 ctM2), slM2⟩)
    (cM2 : PySem.W.codeIn K cdM2 "Entries.__radd__" = true)
    (kM2 : PySem.W.keepIn K (.ref h2) = true)
    (iM2 : PySem.W.isFn K (.ref h2) = true)
    (aM3 : PySem.W.findIn K (.ref C) "__iadd__" = some (some (.ref h3)))
    (lM3 : K.lookup h3 = some ⟨ocM3, odM3, .func (PySem.W.fnOf "__iadd__" "Entries.__iadd__" (defArgs mEntries_iadd) (defBody mEntries_iadd) (defScope mEntries_iadd) .none kVM3 dcM3 pmM3 anM3 cdM3 ctM3), slM3⟩)
    (cM3 : PySem.W.codeIn K cdM3 "Entries.__iadd__" = true)
    (kM3 : PySem.W.keepIn K (.ref h3) = true)
    (iM3 : PySem.W.isFn K (.ref h3) = true)
    (aM4 : PySem.W.findIn K (.ref C) "__mul__" = some (some (.ref h4)))
    (lM4 : K.lookup h4 = some ⟨ocM4, odM4, .func (PySem.W.fnOf "__mul__" "Entries.__mul__" (defArgs mEntries_mul) (defBody mEntries_mul) (defScope mEntries_mul) .none kVM4 dcM4 pmM4 anM4 cdM4 ctM4), slM4⟩)
    (cM4 : PySem.W.codeIn K cdM4 "Entries.__mul__" = true)
    (kM4 : PySem.W.keepIn K (.ref h4) = true)
    (iM4 : PySem.W.isFn K (.ref h4) = true)
    (aM5 : PySem.W.findIn K (.ref C) "__len__" = some (some (.ref h5)))
    (lM5 : K.lookup h5 = some ⟨ocM5, odM5, .func (PySem.W.fnOf "__len__" "Entries.__len__" (defArgs mEntries_len) (defBody mEntries_len) (defScope mEntries_len) .none kVM5 dcM5 pmM5 anM5 cdM5 ctM5), slM5⟩)
    (cM5 : PySem.W.codeIn K cdM5 "Entries.__len__" = true)
    (kM5 : PySem.W.keepIn K (.ref h5) = true)
    (iM5 : PySem.W.isFn K (.ref h5) = true)
    (aM6 : PySem.W.findIn K (.ref C) "__bool__" = some (some (.ref h6)))
    (lM6 : K.lookup h6 = some ⟨ocM6, odM6, .func (PySem.W.fnOf "__bool__" "Entries.__bool__" (defArgs mEntries_bool) (defBody mEntries_bool) (defScope mEntries_bool) .none kVM6 dcM6 pmM6 anM6 cdM6 ctM6), slM6⟩)
    (cM6 : PySem.W.codeIn K cdM6 "Entries.__bool__" = true)
    (kM6 : PySem.W.keepIn K (.ref h6) = true)
    (iM6 : PySem.W.isFn K (.ref h6) = true)
    (aM7 : PySem.W.findIn K (.ref C) "__contains__" = some (some (.ref h7)))
    (lM7 : K.lookup h7 = some ⟨ocM7, odM7, .func (PySem.W.fnOf "__contains__" "Entries.__contains__" (defArgs mEntries_contains) (defBody mEntries_contains) (defScope mEntries_contains) .none kVM7 dcM7 pmM7 anM7 cdM7 ctM7), slM7⟩)
    (cM7 : PySem.W.codeIn K cdM7 "Entries.__contains__" = true)
    (kM7 : PySem.W.keepIn K (.ref h7) = true)
    (iM7 : PySem.W.isFn K (.ref h7) = true)
    (aM8 : PySem.W.findIn K (.ref C) "__getitem__" = some (some (.ref h8)))
    (lM8 : K.lookup h8 = some ⟨ocM8, odM8, .func (PySem.W.fnOf "__getitem__" "Entries.__getitem__" (defArgs mEntries_getitem) (defBody mEntries_getitem) (defScope mEntries_getitem) .none kVM8 dcM8 pmM8 anM8 cdM8 ctM8), slM8⟩)
    (cM8 : PySem.W.codeIn K cdM8 "Entries.__getitem__" = true)
    (kM8 : PySem.W.keepIn K (.ref h8) = true)
    (iM8 : PySem.W.isFn K (.ref h8) = true)
    (aM9 : PySem.W.findIn K (.ref C) "__setitem__" = some (some (.ref h9)))
    (lM9 : K.lookup h9 = some ⟨ocM9, odM9, .func (PySem.W.fnOf "__setitem__" "Entries.__setitem__" (defArgs mEntries_setitem) (defBody mEntries_setitem) (defScope mEntries_setitem) .none kVM9 dcM9 pmM9 anM9 cdM9 ctM9), slM9⟩)
    (cM9 : PySem.W.codeIn K cdM9 "Entries.__setitem__" = true)
    (kM9 : PySem.W.keepIn K (.ref h9) = true)
    (iM9 : PySem.W.isFn K (.ref h9) = true)
    (aM10 : PySem.W.findIn K (.ref C) "set_entry" = some (some (.ref h10)))
    (lM10 : K.lookup h10 = some ⟨ocM10, odM10, .func (PySem.W.fnOf "set_entry" "Entries.set_entry" (defArgs mEntries_set_entry) (defBody mEntries_set_entry) (defScope mEntries_set_entry) .none kVM10 dcM10 pmM10 anM10 cdM10 ctM10), slM10⟩)
    (cM10 : PySem.W.codeIn K cdM10 "Entries.set_entry" = true)
    (kM10 : PySem.W.keepIn K (.ref h10) = true)
    (iM10 : PySem.W.isFn K (.ref h10) = true)
    (aM11 : PySem.W.findIn K (.ref C) "__eq__" = some (some (.ref h11)))
    (lM11 : K.lookup h11 = some ⟨ocM11, odM11, .func (PySem.W.fnOf "__eq__" "Entries.__eq__" (defArgs mEntries_eq) (defBody mEntries_eq) (defScope mEntries_eq) .none kVM11 dcM11 pmM11 anM11 cdM11 ctM11), slM11⟩)
    (cM11 : PySem.W.codeIn K cdM11 "Entries.__eq__" = true)
    (kM11 : PySem.W.keepIn K (.ref h11) = true)
    (iM11 : PySem.W.isFn K (.ref h11) = true)
    (aM12 : PySem.W.findIn K (.ref C) "__repr__" = some (some (.ref h12)))
    (lM12 : K.lookup h12 = some ⟨ocM12, odM12, .func (PySem.W.fnOf "__repr__" "Entries.__repr__" (defArgs mEntries_repr) (defBody mEntries_repr) (defScope mEntries_repr) .none kVM12 dcM12 pmM12 anM12 cdM12 ctM12), slM12⟩)
    (cM12 : PySem.W.codeIn K cdM12 "Entries.__repr__" = true)
    (kM12 : PySem.W.keepIn K (.ref h12) = true)
    (iM12 : PySem.W.isFn K (.ref h12) = true)
    (aM13 : PySem.W.findIn K (.ref C) "listed" = some (some (.ref h13)))
    (lM13 : K.lookup h13 = some ⟨ocM13, odM13, .func (PySem.W.fnOf "listed" "Entries.listed" (defArgs mEntries_listed) (defBody mEntries_listed) (defScope mEntries_listed) .none kVM13 dcM13 pmM13 anM13 cdM13 ctM13), slM13⟩)
    (cM13 : PySem.W.codeIn K cdM13 "Entries.listed" = true)
    (kM13 : PySem.W.keepIn K (.ref h13) = true)
    (iM13 : PySem.W.isFn K (.ref h13) = true)
    (aM14 : PySem.W.findIn K (.ref C) "packed" = some (some (.ref h14)))
    (lM14 : K.lookup h14 = some ⟨ocM14, odM14, .func (PySem.W.fnOf "packed" "Entries.packed" (defArgs mEntries_packed) (defBody mEntries_packed) (defScope mEntries_packed) .none kVM14 dcM14 pmM14 anM14 cdM14 ctM14), slM14⟩)
    (cM14 : PySem.W.codeIn K cdM14 "Entries.packed" = true)
    (kM14 : PySem.W.keepIn K (.ref h14) = true)
    (iM14 : PySem.W.isFn K (.ref h14) = true)
    (aM15 : PySem.W.findIn K (.ref C) "joined" = some (some (.ref h15)))
    (lM15 : K.lookup h15 = some ⟨ocM15, odM15, .func (PySem.W.fnOf "joined" "Entries.joined" (defArgs mEntries_joined) (defBody mEntries_joined) (defScope mEntries_joined) .none kVM15 dcM15 pmM15 anM15 cdM15 ctM15), slM15⟩)
    (cM15 : PySem.W.codeIn K cdM15 "Entries.joined" = true)
    (kM15 : PySem.W.keepIn K (.ref h15) = true)
    (iM15 : PySem.W.isFn K (.ref h15) = true)
    (pg : PySem.W.plainGet K C Str.empty = true)
    (hd : PySem.W.hasDictIn K C = true)
    (po : PySem.W.plainOver K C = true)
    (sa : PySem.W.findIn K (.ref C) "__setattr__" = some (some (.builtin "object.__setattr__")))
    (mk : PySem.W.makesIn K C = true)
    (kc : PySem.W.keepIn K (.ref C) = true)
    (nR : PySem.W.findIn K (.ref C) "_rows" = some none)
    (ha : PySem.W.findIn K (.ref C) "__class__" = some (some (.builtin "object.__class__")))
    (hn : PySem.W.specialIn K (.builtin "object.__class__") "__get__" = some (some (.builtin "getset_descriptor.__get__")))
    (ht : PySem.W.takesIn K (.builtin "object.__class__") = some true)
    (hm : PySem.W.mroIn K C (.type "object") = some true)
    (tC : PySem.W.typeIn K (.ref C) = some (.type "type"))
    (uS : PySem.W.subIn K (.type "str") (.ref C) = some false)
    (uL : PySem.W.subIn K (.type "list") (.ref C) = some false)
    (uN : PySem.W.subIn K (.type "NoneType") (.ref C) = some false)
    (aTE : PySem.W.nsIn K mainGlobals "TextorlistError" = some (some (.ref TE)))
    (lTE : K.lookup TE = some (excClassObj nmT qT TE NT' bsT mrT hdT snT subT abT colT ddT m0T m1T m2T m3T m5T "ValueError.__new__"))
    (tTE : PySem.W.typeIn K (.ref TE) = some (.type "type"))
    (aCNE : PySem.W.nsIn K mainGlobals "NoEntry" = some (some (.ref NE)))
    (xNE : K.lookup NE = some (excClassObj nmNE qNE NE NNE bsNE [.ref TE, .type "ValueError", .type "Exception", .type "BaseException", .type "object"] true snNE subNE abNE colNE ddNE m0NE m1NE m2NE m3NE m5NE "ValueError.__new__"))
    (saNE : PySem.W.findIn K (.ref NE) "__setattr__" = some (some (.builtin "object.__setattr__")))
    (gaNE : PySem.W.findIn K (.ref NE) "__getattribute__" = some (some (.builtin "BaseException.__getattribute__")))
    (ggNE : PySem.W.findIn K (.ref NE) "__getattr__" = some none)
    (haNE : PySem.W.findIn K (.ref NE) "__class__" = some (some (.builtin "object.__class__")))
    (kcNE : PySem.W.keepIn K (.ref NE) = true)
    (aCNT : PySem.W.nsIn K mainGlobals "NotText" = some (some (.ref NT)))
    (xNT : K.lookup NT = some (excClassObj nmNT qNT NT NNT bsNT [.ref TE, .type "ValueError", .type "Exception", .type "BaseException", .type "object"] true snNT subNT abNT colNT ddNT m0NT m1NT m2NT m3NT m5NT "ValueError.__new__"))
    (saNT : PySem.W.findIn K (.ref NT) "__setattr__" = some (some (.builtin "object.__setattr__")))
    (gaNT : PySem.W.findIn K (.ref NT) "__getattribute__" = some (some (.builtin "BaseException.__getattribute__")))
    (ggNT : PySem.W.findIn K (.ref NT) "__getattr__" = some none)
    (haNT : PySem.W.findIn K (.ref NT) "__class__" = some (some (.builtin "object.__class__")))
    (kcNT : PySem.W.keepIn K (.ref NT) = true)
    (aI : PySem.W.findIn K (.ref NE) "__init__" = some (some (.ref fI)))
    (lI : K.lookup fI = some ⟨ocI, odI, .func (PySem.W.fnOf "__init__" "NoEntry.__init__" (defArgs mNoEntry_init) (defBody mNoEntry_init) (defScope mNoEntry_init) .none kVI dcI pmI anI cdI ctI), slI⟩)
    (cI : PySem.W.codeIn K cdI "NoEntry.__init__" = true)
    (kI : PySem.W.keepIn K (.ref fI) = true)
    (nI : PySem.W.findIn K (.ref NE) "at" = some none)
    (tI : PySem.W.typeIn K (.ref fI) = some (.type "function"))
    (aJ : PySem.W.findIn K (.ref NT) "__init__" = some (some (.ref fJ)))
    (lJ : K.lookup fJ = some ⟨ocJ, odJ, .func (PySem.W.fnOf "__init__" "NotText.__init__" (defArgs mNotText_init) (defBody mNotText_init) (defScope mNotText_init) .none kVJ dcJ pmJ anJ cdJ ctJ), slJ⟩)
    (cJ : PySem.W.codeIn K cdJ "NotText.__init__" = true)
    (kJ : PySem.W.keepIn K (.ref fJ) = true)
    (nJ : PySem.W.findIn K (.ref NT) "at" = some none)
    (tJ : PySem.W.typeIn K (.ref fJ) = some (.type "function"))
    (aAl : PySem.W.nsIn K mainGlobals "ALPHABET" = some (some (.str "abcdefghijklmnopqrstuvwxyz" tA)))
    (aO : PySem.W.findIn K (.ref C) "of" = some (some (.ref pO)))
    (rO : PySem.W.recIn K pO "classmethod" = some (.ref hO :: rest))
    (fO : PySem.W.fnIn K hO = true)
    (rdO : PySem.W.readsIn K C (.type "type") = true)
    (gaO : PySem.W.specialIn K (.ref C) "__getattribute__" = some (some (.builtin "type.__getattribute__")))
    (fcO : PySem.W.findCls K (.ref C) (.type "type") "of" = some (.get (.builtin "classmethod.__get__") (.ref pO) .none (.ref C)))
    (ne : PySem.W.findIn K (.ref C) "__ne__" = some (some (.builtin "object.__ne__")))
    (so : PySem.W.subIn K (.ref C) (.type "object") = some true)
    (sf : PySem.W.selfFirst K C = true)
    (sq : PySem.W.noSeq K C = true)
    (fnG : PySem.W.fnIn K h8 = true)
    (h1' : PySem.W.findIn K (.type "NoneType") "__add__" = some fo)
    (h2' : PySem.W.findIn K (.type "NoneType") "__radd__" = some ro)
    (h3' : PySem.W.findIn K (.type "str") "__add__" = some fs')
    (h4' : PySem.W.findIn K (.type "str") "__radd__" = some rs)
    (h5' : PySem.W.findIn K (.type "list") "__add__" = some fl)
    (h6' : PySem.W.findIn K (.type "list") "__radd__" = some rl)
    (s1 : ((fo.isSome && !isSeqSlot fo) || (ro.isSome && !isSeqSlot ro)) = false)
    (s2 : ((fs'.isSome && !isSeqSlot fs') || (rs.isSome && !isSeqSlot rs)) = false)
    (s3 : ((fl.isSome && !isSeqSlot fl) || (rl.isSome && !isSeqSlot rl)) = false)
    (u1 : PySem.W.subIn K (.ref C) (.type "NoneType") = some false)
    (u2 : PySem.W.subIn K (.ref C) (.type "str") = some false)
    (u3 : PySem.W.subIn K (.ref C) (.type "list") = some false)
    (ra : PySem.W.findIn K (.ref C) "__rmul__" = some rc)
    (rp : rc = none ∨ ∃ g : Addr, rc = some (.ref g))
    (n1 : PySem.W.findIn K (.type "int") "__mul__" = some q1)
    (n2 : PySem.W.findIn K (.type "int") "__rmul__" = some q2)
    (ns : PySem.W.subIn K (.type "int") (.ref C) = some false)
    (lO : K.lookup hO = some ⟨ocO, odO, .func (PySem.W.fnOf "of" "Entries.of" (defArgs mEntries_of) (defBody mEntries_of) (defScope mEntries_of) .none kVO dcO pmO anO cdO ctO), slO⟩)
    (cO : PySem.W.codeIn K cdO "Entries.of" = true)
    (kO : PySem.W.keepIn K (.ref hO) = true)
    (zisinstance : PySem.W.nsIn K mainGlobals "isinstance" = some none)
    (zlist : PySem.W.nsIn K mainGlobals "list" = some none)
    (ztuple : PySem.W.nsIn K mainGlobals "tuple" = some none)
    (zlen : PySem.W.nsIn K mainGlobals "len" = some none)
    (zabs : PySem.W.nsIn K mainGlobals "abs" = some none)
    (zenumerate : PySem.W.nsIn K mainGlobals "enumerate" = some none)
    (zint : PySem.W.nsIn K mainGlobals "int" = some none)
    (zrange : PySem.W.nsIn K mainGlobals "range" = some none)
    (zsum : PySem.W.nsIn K mainGlobals "sum" = some none)
    (zmin : PySem.W.nsIn K mainGlobals "min" = some none)
    (zmax : PySem.W.nsIn K mainGlobals "max" = some none)
    (zrepr : PySem.W.nsIn K mainGlobals "repr" = some none)
    (zstr : PySem.W.nsIn K mainGlobals "str" = some none)
    (zbool : PySem.W.nsIn K mainGlobals "bool" = some none)
    (zzip : PySem.W.nsIn K mainGlobals "zip" = some none) :
    ∃ fd : FuncData, (∀ (s : Shared) (v : Value), BindsTo s fd ⟨[v], []⟩ [("_law_script", v)]) ∧ ∀ base : Heap, K.In base → base.Ns mainGlobals mg → FnG P w K mg base CX0 10 fa fd ["_law_script"] (spLaw K) := by
  have e := hfa.symm.trans (PySem.W.mg_of X G a23)
  cases e
  have F0 := fun_mk (st := sParts) l0 c0 k0
  have F1 := fun_mk (st := sCopy) l1 c1 k1
  have F2 := fun_mk (st := s_outline_of) l2 c2 k2
  have F3 := fun_mk (st := s_shown) l3 c3 k3
  have F4 := fun_mk (st := s_is_whole_number) l4 c4 k4
  have F5 := fun_mk (st := s_is_text) l5 c5 k5
  have F6 := fun_mk (st := s_place_of_last) l6 c6 k6
  have F7 := fun_mk (st := s_first_fault) l7 c7 k7
  have F8 := fun_mk (st := s_check_value) l8 c8 k8
  have F9 := fun_mk (st := s_is_value) l9 c9 k9
  have F10 := fun_mk (st := s_entries_of) l10 c10 k10
  have F11 := fun_mk (st := s_check_index) l11 c11 k11
  have F12 := fun_mk (st := sBag) l12 c12 k12
  have F13 := fun_mk (st := sTake) l13 c13 k13
  have F14 := fun_mk (st := sText) l14 c14 k14
  have F15 := fun_mk (st := sSize) l15 c15 k15
  have F16 := fun_mk (st := sValue) l16 c16 k16
  have F17 := fun_mk (st := s__law_entries) l17 c17 k17
  have F18 := fun_mk (st := s__law_copy) l18 c18 k18
  have F19 := fun_mk (st := sSpoil) l19 c19 k19
  have F20 := fun_mk (st := s__law_is_refused) l20 c20 k20
  have F21 := fun_mk (st := s__law_is_right) l21 c21 k21
  have F22 := fun_mk (st := s__law_step) l22 c22 k22
  have F23 := fun_mk (st := sLaw) l23 c23 k23
  have b0 := F0.binds (ps := ["thing"]) fun _ _ _ _ _ _ us hl => match us, hl with | [_], _ => rfl
  have g0 := PySem.W.mg_of X G a0
  have b1 := F1.binds (ps := ["thing"]) fun _ _ _ _ _ _ us hl => match us, hl with | [_], _ => rfl
  have g1 := PySem.W.mg_of X G a1
  have b2 := F2.binds (ps := ["value"]) fun _ _ _ _ _ _ us hl => match us, hl with | [_], _ => rfl
  have g2 := PySem.W.mg_of X G a2
  have b3 := F3.binds (ps := ["value"]) fun _ _ _ _ _ _ us hl => match us, hl with | [_], _ => rfl
  have g3 := PySem.W.mg_of X G a3
  have b4 := F4.binds (ps := ["thing"]) fun _ _ _ _ _ _ us hl => match us, hl with | [_], _ => rfl
  have g4 := PySem.W.mg_of X G a4
  have b5 := F5.binds (ps := ["thing"]) fun _ _ _ _ _ _ us hl => match us, hl with | [_], _ => rfl
  have g5 := PySem.W.mg_of X G a5
  have b6 := F6.binds (ps := ["steps"]) fun _ _ _ _ _ _ us hl => match us, hl with | [_], _ => rfl
  have g6 := PySem.W.mg_of X G a6
  have b7 := F7.binds (ps := ["thing"]) fun _ _ _ _ _ _ us hl => match us, hl with | [_], _ => rfl
  have g7 := PySem.W.mg_of X G a7
  have b8 := F8.binds (ps := ["thing"]) fun _ _ _ _ _ _ us hl => match us, hl with | [_], _ => rfl
  have g8 := PySem.W.mg_of X G a8
  have b9 := F9.binds (ps := ["thing"]) fun _ _ _ _ _ _ us hl => match us, hl with | [_], _ => rfl
  have g9 := PySem.W.mg_of X G a9
  have b10 := F10.binds (ps := ["value"]) fun _ _ _ _ _ _ us hl => match us, hl with | [_], _ => rfl
  have g10 := PySem.W.mg_of X G a10
  have b11 := F11.binds (ps := ["rows", "at"]) fun _ _ _ _ _ _ us hl => match us, hl with | [_, _], _ => rfl
  have g11 := PySem.W.mg_of X G a11
  have b12 := F12.binds (ps := ["_law_script", "_law_at"]) fun _ _ _ _ _ _ us hl => match us, hl with | [_, _], _ => rfl
  have g12 := PySem.W.mg_of X G a12
  have b13 := F13.binds (ps := ["_law_bag_here", "_law_many"]) fun _ _ _ _ _ _ us hl => match us, hl with | [_, _], _ => rfl
  have g13 := PySem.W.mg_of X G a13
  have b14 := F14.binds (ps := ["_law_bag_here", "_law_most"]) fun _ _ _ _ _ _ us hl => match us, hl with | [_, _], _ => rfl
  have g14 := PySem.W.mg_of X G a14
  have b15 := F15.binds (ps := ["_law_value_here"]) fun _ _ _ _ _ _ us hl => match us, hl with | [_], _ => rfl
  have g15 := PySem.W.mg_of X G a15
  have b16 := F16.binds (ps := ["_law_bag_here", "_law_deep", "_law_room"]) fun _ _ _ _ _ _ us hl => match us, hl with | [_, _, _], _ => rfl
  have g16 := PySem.W.mg_of X G a16
  have b17 := F17.binds (ps := ["_law_value_here"]) fun _ _ _ _ _ _ us hl => match us, hl with | [_], _ => rfl
  have g17 := PySem.W.mg_of X G a17
  have b18 := F18.binds (ps := ["_law_value_here"]) fun _ _ _ _ _ _ us hl => match us, hl with | [_], _ => rfl
  have g18 := PySem.W.mg_of X G a18
  have b19 := F19.binds (ps := ["_law_value_here"]) fun _ _ _ _ _ _ us hl => match us, hl with | [_], _ => rfl
  have g19 := PySem.W.mg_of X G a19
  have b20 := F20.binds (ps := ["_law_one", "_law_at"]) fun _ _ _ _ _ _ us hl => match us, hl with | [_, _], _ => rfl
  have g20 := PySem.W.mg_of X G a20
  have b21 := F21.binds (ps := ["_law_one", "_law_due"]) fun _ _ _ _ _ _ us hl => match us, hl with | [_, _], _ => rfl
  have g21 := PySem.W.mg_of X G a21
  have b22 := F22.binds (ps := ["_law_bag_here", "_law_pool", "_law_dues"]) fun _ _ _ _ _ _ us hl => match us, hl with | [_, _, _], _ => rfl
  have g22 := PySem.W.mg_of X G a22
  have E0 := fun_mk (st := mEntries_init) lM0 cM0 kM0
  have d0 := E0.binds (ps := ["self", "value"]) fun _ _ _ _ _ _ us hl => match us, hl with | [_, _], _ => rfl
  have m0 : Meth K C "__init__" h0 := ⟨aM0, iM0, kM0⟩
  have E1 := fun_mk (st := mEntries_add) lM1 cM1 kM1
  have d1 := E1.binds (ps := ["self", "other"]) fun _ _ _ _ _ _ us hl => match us, hl with | [_, _], _ => rfl
  have m1 : Meth K C "__add__" h1 := ⟨aM1, iM1, kM1⟩
  have E2 := fun_mk (st := mEntries_radd) lM2 cM2 kM2
  have d2 := E2.binds (ps := ["self", "other"]) fun _ _ _ _ _ _ us hl => match us, hl with | [_, _], _ => rfl
  have m2 : Meth K C "__radd__" h2 := ⟨aM2, iM2, kM2⟩
  have E3 := fun_mk (st := mEntries_iadd) lM3 cM3 kM3
  have d3 := E3.binds (ps := ["self", "other"]) fun _ _ _ _ _ _ us hl => match us, hl with | [_, _], _ => rfl
  have m3 : Meth K C "__iadd__" h3 := ⟨aM3, iM3, kM3⟩
  have E4 := fun_mk (st := mEntries_mul) lM4 cM4 kM4
  have d4 := E4.binds (ps := ["self", "other"]) fun _ _ _ _ _ _ us hl => match us, hl with | [_, _], _ => rfl
  have m4 : Meth K C "__mul__" h4 := ⟨aM4, iM4, kM4⟩
  have E5 := fun_mk (st := mEntries_len) lM5 cM5 kM5
  have d5 := E5.binds (ps := ["self"]) fun _ _ _ _ _ _ us hl => match us, hl with | [_], _ => rfl
  have m5 : Meth K C "__len__" h5 := ⟨aM5, iM5, kM5⟩
  have E6 := fun_mk (st := mEntries_bool) lM6 cM6 kM6
  have d6 := E6.binds (ps := ["self"]) fun _ _ _ _ _ _ us hl => match us, hl with | [_], _ => rfl
  have m6 : Meth K C "__bool__" h6 := ⟨aM6, iM6, kM6⟩
  have E7 := fun_mk (st := mEntries_contains) lM7 cM7 kM7
  have d7 := E7.binds (ps := ["self", "x"]) fun _ _ _ _ _ _ us hl => match us, hl with | [_, _], _ => rfl
  have m7 : Meth K C "__contains__" h7 := ⟨aM7, iM7, kM7⟩
  have E8 := fun_mk (st := mEntries_getitem) lM8 cM8 kM8
  have d8 := E8.binds (ps := ["self", "at"]) fun _ _ _ _ _ _ us hl => match us, hl with | [_, _], _ => rfl
  have m8 : Meth K C "__getitem__" h8 := ⟨aM8, iM8, kM8⟩
  have E9 := fun_mk (st := mEntries_setitem) lM9 cM9 kM9
  have d9 := E9.binds (ps := ["self", "at", "worth"]) fun _ _ _ _ _ _ us hl => match us, hl with | [_, _, _], _ => rfl
  have m9 : Meth K C "__setitem__" h9 := ⟨aM9, iM9, kM9⟩
  have E10 := fun_mk (st := mEntries_set_entry) lM10 cM10 kM10
  have d10 := E10.binds (ps := ["self", "at", "value"]) fun _ _ _ _ _ _ us hl => match us, hl with | [_, _, _], _ => rfl
  have m10 : Meth K C "set_entry" h10 := ⟨aM10, iM10, kM10⟩
  have E11 := fun_mk (st := mEntries_eq) lM11 cM11 kM11
  have d11 := E11.binds (ps := ["self", "other"]) fun _ _ _ _ _ _ us hl => match us, hl with | [_, _], _ => rfl
  have m11 : Meth K C "__eq__" h11 := ⟨aM11, iM11, kM11⟩
  have E12 := fun_mk (st := mEntries_repr) lM12 cM12 kM12
  have d12 := E12.binds (ps := ["self"]) fun _ _ _ _ _ _ us hl => match us, hl with | [_], _ => rfl
  have m12 : Meth K C "__repr__" h12 := ⟨aM12, iM12, kM12⟩
  have E13 := fun_mk (st := mEntries_listed) lM13 cM13 kM13
  have d13 := E13.binds (ps := ["self"]) fun _ _ _ _ _ _ us hl => match us, hl with | [_], _ => rfl
  have m13 : Meth K C "listed" h13 := ⟨aM13, iM13, kM13⟩
  have E14 := fun_mk (st := mEntries_packed) lM14 cM14 kM14
  have d14 := E14.binds (ps := ["self"]) fun _ _ _ _ _ _ us hl => match us, hl with | [_], _ => rfl
  have m14 : Meth K C "packed" h14 := ⟨aM14, iM14, kM14⟩
  have E15 := fun_mk (st := mEntries_joined) lM15 cM15 kM15
  have d15 := E15.binds (ps := ["self", "between"]) fun _ _ _ _ _ _ us hl => match us, hl with | [_, _], _ => rfl
  have m15 : Meth K C "joined" h15 := ⟨aM15, iM15, kM15⟩
  have EI := fun_mk (st := mNoEntry_init) lI cI kI
  have bI := EI.binds (ps := ["self", "at"]) fun _ _ _ _ _ _ us hl => match us, hl with | [_, _], _ => rfl
  have EJ := fun_mk (st := mNotText_init) lJ cJ kJ
  have bJ := EJ.binds (ps := ["self", "at"]) fun _ _ _ _ _ _ us hl => match us, hl with | [_, _], _ => rfl
  have EO := fun_mk (st := mEntries_of) lO cO kO
  have hTp : ∀ x : Str, PySem.W.nsIn K mainGlobals x = some none → mg x = none := fun x z => PySem.W.mg_none_of X G z
  have T : En K mg C := ⟨⟨pg, hd, po, sa⟩, nR, PySem.W.mg_of X G aC, kc, ha, hn, ht, hm, kit_self, kit_of hd tC uN, kit_of hd tC uS, kit_of hd tC uL⟩
  have M : Mk K C h0 := ⟨mk, aM0, iM0, kc⟩
  have cNE := cl_of (TE := TE) (PySem.W.mg_of X G aCNE) xNE saNE gaNE ggNE haNE hn ht kcNE
  have cNT := cl_of (TE := TE) (PySem.W.mg_of X G aCNT) xNT saNT gaNT ggNT haNT hn ht kcNT
  refine ⟨PySem.W.fnOf "law" "law" (defArgs sLaw) (defBody sLaw) (defScope sLaw) .none kV23 dc23 pm23 an23 cd23 ct23, fun s v => .of_eq rfl, fun base _ _ => ?_⟩
  have NM : Nm mg := ⟨hTp _ zisinstance, hTp _ zlist, hTp _ ztuple⟩
  have NB : Nb mg := ⟨hTp _ zlen, hTp _ zabs, hTp _ zenumerate, hTp _ zint⟩
  have NK : Nk mg := ⟨hTp _ zstr⟩
  have NQ : Nq mg := ⟨hTp _ zbool⟩
  have NV : Nv mg := ⟨hTp _ zrange, hTp _ zsum, hTp _ zmin⟩
  have GP : FnOk P w K mg base CX0 1 f0 _ ["thing"] (spParts K) := ok_parts F0 NM
  have GCo : FnOk P w K mg base CX0 2 f1 _ ["thing"] (spCopy K) := ok_copy (k := 0) F1 NM F0 b0 g0
  have GC : FnOk P w K mg base CX0 2 f1 _ ["thing"] (spCopyT K) := ok_copyT (k := 0) F1 NM F0 b0 g0
  have GOF := ok_outF F2 NM NB GP g0 k0 b0
  have GO := ok_out F2 NM NB GP g0 k0 b0
  have GSh : FnOk P w K mg base CX0 2 f3 _ ["value"] (spShown K) := ok_shown (k := 0) F3 NM ⟨hTp _ zrepr⟩ GP k0 b0 g0
  have GWh : FnOk P w K mg base CX0 1 f4 _ ["thing"] (spWhole K) := ok_whole F4 NM NQ NB
  have GWd : FnOk P w K mg base CX0 1 f4 _ ["thing"] (spWholeD K) := ok_wholeD F4 NM NQ NB
  have GIT : FnOk P w K mg base CX0 1 f5 _ ["thing"] (spIsText K) := ok_isText F5 NM NK (PySem.W.mg_of X G aAl)
  have GLa : FnOk P w K mg base CX0 1 f6 _ ["steps"] (spLast K) := ok_last F6 NM NB
  have GF : FnOk P w K mg base CX0 2 f7 _ ["thing"] (spFault K) := ok_fault F7 NM NB NV GIT g5 k5 b5 GLa g6 k6 b6
  have GK := ok_chk F8 GF g7 k7 b7
  have GIV := ok_isV F9 GF g7 k7 b7
  have GIs := ok_isValue F9 GF g7 k7 b7
  have GE : FnOk P w K mg base CX0 1 f10 _ ["value"] (spEnt K) := ok_ent F10 NM NK
  have GNe : FnOk P w K mg base CX0 3 fI _ ["self", "at"] (spIn1 K NE "at") := ok_inNe EI GCo g1 k1 b1
  have GNt : FnOk P w K mg base CX0 3 fJ _ ["self", "at"] (spIn1 K NT "at") := ok_inNt EJ GCo g1 k1 b1
  have GId := ok_idxD F11 NB cNE aI tI nI GNe bI GWd g4 k4 b4
  have GB : FnOk P w K mg base CX0 1 f12 _ ["_law_script", "_law_at"] (spBag K) := ok_bag (k := 0) F12 NB
  have GT : FnOk P w K mg base CX0 1 f13 _ ["_law_bag_here", "_law_many"] spTake := ok_take (k := 0) F13 NB
  have GX : FnOk P w K mg base CX0 2 f14 _ ["_law_bag_here", "_law_most"] spText := ok_text F14 NB NV F13 b13 g13
  have C1 : Vc P w K mg base f13 f14 f15 (PySem.W.fnOf "_law_take" "_law_take" (defArgs sTake) (defBody sTake) (defScope sTake) .none kV13 dc13 pm13 an13 cd13 ct13) (PySem.W.fnOf "_law_text" "_law_text" (defArgs sText) (defBody sText) (defScope sText) .none kV14 dc14 pm14 an14 cd14 ct14) (PySem.W.fnOf "_law_size" "_law_size" (defArgs sSize) (defBody sSize) (defScope sSize) .none kV15 dc15 pm15 an15 cd15 ct15) := ⟨GT, b13, g13, k13, GX, b14, g14, k14, fun N => ok_size F15 NM NB NV b15 g15 N, b15, g15, k15⟩
  have GV := ok_valuesL F16 b16 g16 NV C1 2
  have GLE : FnOk P w K mg base CX0 1 f17 _ ["_law_value_here"] (spEnt K) := ok_lent F17 NM NK
  have GLc : FnOk P w K mg base CX0 7 f18 _ ["_law_value_here"] (spLCopy K 6) := ok_lcopy F18 NM b18 g18 6
  have GSp : FnOk P w K mg base CX0 7 f19 _ ["_law_value_here"] (spSpoilL 6) := ok_spoilL F19 NM b19 g19 6
  have I0 := ok_init E0 T GK g8 k8 b8 GC g1 k1 b1 GE g10 k10 b10
  have I1 := ok_add E1 T NM M I0 d0 GIV g9 k9 b9 GE g10 k10 b10
  have I2 := ok_radd E2 T M I0 d0 GIV g9 k9 b9 GE g10 k10 b10
  have I3 := ok_iadd E3 T NM GIV g9 k9 b9 GC g1 k1 b1 GE g10 k10 b10
  have I4 := ok_mul E4 T NV M I0 d0 GWh g4 k4 b4
  have I5 : FnOk P w K mg base CX0 1 h5 _ ["self"] (spLen C) := ok_len E5 T NB
  have I6 : FnOk P w K mg base CX0 1 h6 _ ["self"] (spBool C) := ok_bool E6 T NQ
  have I7 := ok_con E7 T GIs g9 k9 b9 GOF g2 k2 b2
  have I8 := ok_get E8 T GId g11 k11 b11 GC g1 k1 b1
  have I9 := ok_setD E9 T GId g11 k11 b11 GK g8 k8 b8 GC g1 k1 b1
  have I10 := ok_setF E10 m9 sq I9 d9
  have I11 := ok_eqG E11 T NM GO g2 k2 b2
  have I12 := ok_repr E12 T GSh g3 k3 b3
  have I13 := ok_listed E13 T GC g1 k1 b1
  have I14 := ok_packed E14 T NM NK NB GC g1 k1 b1
  have I15 := ok_joined E15 T NM NK NB cNT aJ tJ nJ GNt bJ
  have IO := ok_of EO NM M I0 d0
  have S : Sg K C h1 h2 fo ro fs' rs fl rl := ⟨m1, m2, sf, h1', h2', s1, u1, uN, h3', h4', s2, u2, uS, h5', h6', s3, u3, uL⟩
  have GRf := ok_refused F20 NB T cNE nI I8 m8 fnG d8 I10 m10 d10
  have GRi := ok_right F21 cNT nJ ⟨hTp _ zrepr, hTp _ zbool⟩ NM NK NB T S ⟨M, I0, d0, I1, d1, I11, d11, m11, ne, so, I12, d12, m12, I5, d5, m5, I6, d6, m6, I14, d14, m14, I8, d8, m8, fnG, I7, d7, m7, I15, d15, m15⟩
  have GSt := ok_step F22 NB T ⟨GT, GV, GLE, GLc, GSp, GRf, b13, b16, b17, b18, b19, b20, g13, g16, g17, g18, g19, g20, k13, k16, k17, k18, k19, k20, M, I0, d0, I1, d1, I3, d3, m3, I2, d2, S, I4, d4, m4, ra, rp, n1, n2, ns, I10, d10, m10, hTp _ zmax⟩
  exact ok_law F23 ⟨hTp _ zrepr, hTp _ zbool⟩ ⟨hTp _ zmax, hTp _ zzip⟩ NB NV T ⟨GB, GT, GSt, GRi, b12, b13, b22, b21, g12, g13, g22, g21, k12, k13, k22, k21, M, I0, d0, I13, d13, m13, I5, d5, m5, I11, d11, m11, ⟨rdO, gaO⟩, ⟨fcO, ⟨_, rO⟩, fO⟩, IO⟩
end TX
open PySem PySem.W PyProof.Rows
set_option maxRecDepth 100000 in
set_option maxHeartbeats 0 in
theorem PySem.Challenge.cw_textorlist_k14_whole_entries_by_a_model_holds : PySem.Challenge.rw_textorlist_k14_whole_entries_by_a_model.Holds := by
  w_on; o_law; k_head; (case hw => w_witness2)
  k_fill
  refine TX.walkG (l := PySem.Challenge.rw_textorlist_k14_whole_entries_by_a_model) (n := 63) (k := 10) (x := "_law_script") (sp := fun w => TX.spLaw _) rfl (by decide) rfl ⟨rfl, by decide, by decide⟩ (fun w h Y => PySem.W.kIn_of Y) ?F (fun _ _ a ns hl _ hS => ⟨a, ns, rfl, hS, hl, fun _ => rfl⟩)
  case F =>
    intro w mg fa h KX G hmg
    refine' TX.all_mk KX G hmg ?a0 ?l0 ?c0 ?k0 ?a1 ?l1 ?c1 ?k1 ?a2 ?l2 ?c2 ?k2 ?a3 ?l3 ?c3 ?k3 ?a4 ?l4 ?c4 ?k4 ?a5 ?l5 ?c5 ?k5 ?a6 ?l6 ?c6 ?k6 ?a7 ?l7 ?c7 ?k7 ?a8 ?l8 ?c8 ?k8 ?a9 ?l9 ?c9 ?k9 ?a10 ?l10 ?c10 ?k10 ?a11 ?l11 ?c11 ?k11 ?a12 ?l12 ?c12 ?k12 ?a13 ?l13 ?c13 ?k13 ?a14 ?l14 ?c14 ?k14 ?a15 ?l15 ?c15 ?k15 ?a16 ?l16 ?c16 ?k16 ?a17 ?l17 ?c17 ?k17 ?a18 ?l18 ?c18 ?k18 ?a19 ?l19 ?c19 ?k19 ?a20 ?l20 ?c20 ?k20 ?a21 ?l21 ?c21 ?k21 ?a22 ?l22 ?c22 ?k22 ?a23 ?l23 ?c23 ?k23 ?aC ?aM0 ?lM0 ?cM0 ?kM0 ?iM0 ?aM1 ?lM1 ?cM1 ?kM1 ?iM1 ?aM2 ?lM2 ?cM2 ?kM2 ?iM2 ?aM3 ?lM3 ?cM3 ?kM3 ?iM3 ?aM4 ?lM4 ?cM4 ?kM4 ?iM4 ?aM5 ?lM5 ?cM5 ?kM5 ?iM5 ?aM6 ?lM6 ?cM6 ?kM6 ?iM6 ?aM7 ?lM7 ?cM7 ?kM7 ?iM7 ?aM8 ?lM8 ?cM8 ?kM8 ?iM8 ?aM9 ?lM9 ?cM9 ?kM9 ?iM9 ?aM10 ?lM10 ?cM10 ?kM10 ?iM10 ?aM11 ?lM11 ?cM11 ?kM11 ?iM11 ?aM12 ?lM12 ?cM12 ?kM12 ?iM12 ?aM13 ?lM13 ?cM13 ?kM13 ?iM13 ?aM14 ?lM14 ?cM14 ?kM14 ?iM14 ?aM15 ?lM15 ?cM15 ?kM15 ?iM15 ?pg ?hd ?po ?sa ?mk ?kc ?nR ?ha ?hn ?ht ?hm ?tC ?uS ?uL ?uN ?aTE ?lTE ?tTE ?aCNE ?xNE ?saNE ?gaNE ?ggNE ?haNE ?kcNE ?aCNT ?xNT ?saNT ?gaNT ?ggNT ?haNT ?kcNT ?aI ?lI ?cI ?kI ?nI ?tI ?aJ ?lJ ?cJ ?kJ ?nJ ?tJ ?aAl ?aO ?rO ?fO ?rdO ?gaO ?fcO ?ne ?so ?sf ?sq ?fnG ?h1' ?h2' ?h3' ?h4' ?h5' ?h6' ?s1 ?s2 ?s3 ?u1 ?u2 ?u3 ?ra ?rp ?n1 ?n2 ?ns ?lO ?cO ?kO ?zisinstance ?zlist ?ztuple ?zlen ?zabs ?zenumerate ?zint ?zrange ?zsum ?zmin ?zmax ?zrepr ?zstr ?zbool ?zzip
    (case a0 => k_is)
    (case l0 => k_is)
    (case c0 => k_is)
    (case k0 => k_is)
    (case a1 => k_is)
    (case l1 => k_is)
    (case c1 => k_is)
    (case k1 => k_is)
    (case a2 => k_is)
    (case l2 => k_is)
    (case c2 => k_is)
    (case k2 => k_is)
    (case a3 => k_is)
    (case l3 => k_is)
    (case c3 => k_is)
    (case k3 => k_is)
    (case a4 => k_is)
    (case l4 => k_is)
    (case c4 => k_is)
    (case k4 => k_is)
    (case a5 => k_is)
    (case l5 => k_is)
    (case c5 => k_is)
    (case k5 => k_is)
    (case a6 => k_is)
    (case l6 => k_is)
    (case c6 => k_is)
    (case k6 => k_is)
    (case a7 => k_is)
    (case l7 => k_is)
    (case c7 => k_is)
    (case k7 => k_is)
    (case a8 => k_is)
    (case l8 => k_is)
    (case c8 => k_is)
    (case k8 => k_is)
    (case a9 => k_is)
    (case l9 => k_is)
    (case c9 => k_is)
    (case k9 => k_is)
    (case a10 => k_is)
    (case l10 => k_is)
    (case c10 => k_is)
    (case k10 => k_is)
    (case a11 => k_is)
    (case l11 => k_is)
    (case c11 => k_is)
    (case k11 => k_is)
    (case a12 => k_is)
    (case l12 => k_is)
    (case c12 => k_is)
    (case k12 => k_is)
    (case a13 => k_is)
    (case l13 => k_is)
    (case c13 => k_is)
    (case k13 => k_is)
    (case a14 => k_is)
    (case l14 => k_is)
    (case c14 => k_is)
    (case k14 => k_is)
    (case a15 => k_is)
    (case l15 => k_is)
    (case c15 => k_is)
    (case k15 => k_is)
    (case a16 => k_is)
    (case l16 => k_is)
    (case c16 => k_is)
    (case k16 => k_is)
    (case a17 => k_is)
    (case l17 => k_is)
    (case c17 => k_is)
    (case k17 => k_is)
    (case a18 => k_is)
    (case l18 => k_is)
    (case c18 => k_is)
    (case k18 => k_is)
    (case a19 => k_is)
    (case l19 => k_is)
    (case c19 => k_is)
    (case k19 => k_is)
    (case a20 => k_is)
    (case l20 => k_is)
    (case c20 => k_is)
    (case k20 => k_is)
    (case a21 => k_is)
    (case l21 => k_is)
    (case c21 => k_is)
    (case k21 => k_is)
    (case a22 => k_is)
    (case l22 => k_is)
    (case c22 => k_is)
    (case k22 => k_is)
    (case a23 => k_is)
    (case l23 => k_is)
    (case c23 => k_is)
    (case k23 => k_is)
    (case aC => k_is)
    (case aM0 => k_is)
    (case lM0 => k_is)
    (case cM0 => k_is)
    (case kM0 => k_is)
    (case iM0 => k_is)
    (case aM1 => k_is)
    (case lM1 => k_is)
    (case cM1 => k_is)
    (case kM1 => k_is)
    (case iM1 => k_is)
    (case aM2 => k_is)
    (case lM2 => k_is)
    (case cM2 => k_is)
    (case kM2 => k_is)
    (case iM2 => k_is)
    (case aM3 => k_is)
    (case lM3 => k_is)
    (case cM3 => k_is)
    (case kM3 => k_is)
    (case iM3 => k_is)
    (case aM4 => k_is)
    (case lM4 => k_is)
    (case cM4 => k_is)
    (case kM4 => k_is)
    (case iM4 => k_is)
    (case aM5 => k_is)
    (case lM5 => k_is)
    (case cM5 => k_is)
    (case kM5 => k_is)
    (case iM5 => k_is)
    (case aM6 => k_is)
    (case lM6 => k_is)
    (case cM6 => k_is)
    (case kM6 => k_is)
    (case iM6 => k_is)
    (case aM7 => k_is)
    (case lM7 => k_is)
    (case cM7 => k_is)
    (case kM7 => k_is)
    (case iM7 => k_is)
    (case aM8 => k_is)
    (case lM8 => k_is)
    (case cM8 => k_is)
    (case kM8 => k_is)
    (case iM8 => k_is)
    (case aM9 => k_is)
    (case lM9 => k_is)
    (case cM9 => k_is)
    (case kM9 => k_is)
    (case iM9 => k_is)
    (case aM10 => k_is)
    (case lM10 => k_is)
    (case cM10 => k_is)
    (case kM10 => k_is)
    (case iM10 => k_is)
    (case aM11 => k_is)
    (case lM11 => k_is)
    (case cM11 => k_is)
    (case kM11 => k_is)
    (case iM11 => k_is)
    (case aM12 => k_is)
    (case lM12 => k_is)
    (case cM12 => k_is)
    (case kM12 => k_is)
    (case iM12 => k_is)
    (case aM13 => k_is)
    (case lM13 => k_is)
    (case cM13 => k_is)
    (case kM13 => k_is)
    (case iM13 => k_is)
    (case aM14 => k_is)
    (case lM14 => k_is)
    (case cM14 => k_is)
    (case kM14 => k_is)
    (case iM14 => k_is)
    (case aM15 => k_is)
    (case lM15 => k_is)
    (case cM15 => k_is)
    (case kM15 => k_is)
    (case iM15 => k_is)
    (case pg => k_is)
    (case hd => k_is)
    (case po => k_is)
    (case sa => k_is)
    (case mk => k_is)
    (case kc => k_is)
    (case nR => k_is)
    (case ha => k_is)
    (case hn => k_is)
    (case ht => k_is)
    (case hm => k_is)
    (case tC => k_is)
    (case uS => k_is)
    (case uL => k_is)
    (case uN => k_is)
    (case aTE => k_is)
    (case lTE => k_is)
    (case tTE => k_is)
    (case aCNE => k_is)
    (case xNE => k_is)
    (case saNE => k_is)
    (case gaNE => k_is)
    (case ggNE => k_is)
    (case haNE => k_is)
    (case kcNE => k_is)
    (case aCNT => k_is)
    (case xNT => k_is)
    (case saNT => k_is)
    (case gaNT => k_is)
    (case ggNT => k_is)
    (case haNT => k_is)
    (case kcNT => k_is)
    (case aI => k_is)
    (case lI => k_is)
    (case cI => k_is)
    (case kI => k_is)
    (case nI => k_is)
    (case tI => k_is)
    (case aJ => k_is)
    (case lJ => k_is)
    (case cJ => k_is)
    (case kJ => k_is)
    (case nJ => k_is)
    (case tJ => k_is)
    (case aAl => k_is)
    (case aO => k_is)
    (case rO => first | k_is | rfl | decide +kernel)
    (case fO => first | k_is | rfl | decide +kernel)
    (case rdO => first | k_is | rfl | decide +kernel)
    (case gaO => first | k_is | rfl | decide +kernel)
    (case fcO => first | k_is | rfl | decide +kernel)
    (case ne => k_is)
    (case so => k_is)
    (case sf => k_is)
    (case sq => k_is)
    (case fnG => first | k_is | rfl | decide +kernel)
    (case h1' => k_is)
    (case h2' => k_is)
    (case h3' => k_is)
    (case h4' => k_is)
    (case h5' => k_is)
    (case h6' => k_is)
    (case s1 => first | rfl | decide +kernel)
    (case s2 => first | rfl | decide +kernel)
    (case s3 => first | rfl | decide +kernel)
    (case u1 => k_is)
    (case u2 => k_is)
    (case u3 => k_is)
    (case ra => k_is)
    (case rp => first | exact .inl rfl | exact .inr ⟨_, rfl⟩)
    (case n1 => k_is)
    (case n2 => k_is)
    (case ns => k_is)
    (case lO => k_is)
    (case cO => k_is)
    (case kO => k_is)
    (case zisinstance => k_is)
    (case zlist => k_is)
    (case ztuple => k_is)
    (case zlen => k_is)
    (case zabs => k_is)
    (case zenumerate => k_is)
    (case zint => k_is)
    (case zrange => k_is)
    (case zsum => k_is)
    (case zmin => k_is)
    (case zmax => k_is)
    (case zrepr => k_is)
    (case zstr => k_is)
    (case zbool => k_is)
    (case zzip => k_is)
